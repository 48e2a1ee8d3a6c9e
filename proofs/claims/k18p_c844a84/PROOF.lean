import PyProof.Rows.All
import Wide.All
import OpenK.AllK
import Wide.FinOn
import Lean
import PyProof.EqAt
import PyProof.EqKinds
import PyProof.TupleCall
import PyProof.AttrMissHeap
import PyProof.FactsAll.zip_1
import KE.KDictOf
import PyProof.Draws
import PySem.Challenge.RW_bendfronts_k18_upside_down
set_option Elab.async false
set_option linter.all false
set_option maxRecDepth 100000
namespace L2
open PySem PySem.Spec PyProof.Rows
abbrev Key:=Sum Int Str
def Zed:Key->Value->Bool
 | .inl k,v=>Value.isInt k v
 | .inr x,v=>Value.isStrOf x v
def ZpY (w:World):Key->Int
 | .inl k=>hashInt k
 | .inr x=>hashStr w x
theorem Yu:∀{k:Key}{v:Value},Zed k v=true->(∃i t,k=Sum.inl i/\v=Value.int i t)∨(∃x t,k=Sum.inr x/\v=Value.str x t)
 | .inl i,v,h=>by
  obtain ⟨t,e⟩:=Value.isInt_shape (k:=i) (v:=v) h
  exact .inl ⟨i,t,rfl,e⟩
 | .inr x,v,h=>by
  obtain ⟨t,e⟩:=Value.isStrOf_shape (x:=x) (v:=v) h
  exact .inr ⟨x,t,rfl,e⟩
theorem ZiT (i:Int) (t:Tok):Zed (.inl i) (.int i t)=true:=by simp [Zed,Value.isInt]
theorem Zi8 (x:Str) (t:Tok):Zed (.inr x) (.str x t)=true:=by simp [Zed,Value.isStrOf]
theorem ZnS (a b:Int):decide ((Sum.inl a:Key)=Sum.inl b)=(a==b):=by
 by_cases e:a=b
 ·subst e;simp
 ·have h:¬(Sum.inl a:Key)=Sum.inl b:=fun q=>e (Sum.inl.inj q)
  rw [decide_eq_false h]
  exact (beq_eq_false_iff_ne.mpr e).symm
theorem Zn1 (a b:Str):decide ((Sum.inr a:Key)=Sum.inr b)=decide (a=b):=by
 by_cases e:a=b
 ·subst e;simp
 ·have h:¬(Sum.inr a:Key)=Sum.inr b:=fun q=>e (Sum.inr.inj q)
  rw [decide_eq_false h,decide_eq_false e]
theorem ZnI (a:Int) (b:Str):decide ((Sum.inl a:Key)=Sum.inr b)=false:=decide_eq_false (fun q=>nomatch q)
theorem ZnD (a:Str) (b:Int):decide ((Sum.inr a:Key)=Sum.inl b)=false:=decide_eq_false (fun q=>nomatch q)
def Ys (prog:Program) (w:World):PySem.KeyKind prog w Key where
 is:=Zed
 hash:=ZpY w
 inj:=fun v a b ha hb=>by
  rcases Yu ha with ⟨i,t,rfl,rfl⟩ | ⟨x,t,rfl,rfl⟩
  ·rcases Yu hb with ⟨j,u,rfl,e⟩ | ⟨y,u,rfl,e⟩
   ·injection e with e1 _;rw [e1]
   ·exact nomatch e
  ·rcases Yu hb with ⟨j,u,rfl,e⟩ | ⟨y,u,rfl,e⟩
   ·exact nomatch e
   ·injection e with e1 _;rw [e1]
 byValue:=fun k v h=>by
  rcases Yu h with ⟨i,t,rfl,rfl⟩ | ⟨x,t,rfl,rfl⟩<;>rfl
 pyHash:=fun hv h=>by
  rcases Yu hv with ⟨i,t,rfl,rfl⟩ | ⟨x,t,rfl,rfl⟩
  ·exact wpAny_pyHash_int h
  ·exact wpAny_pyHash_str h
 eqBool:=fun hu hv h=>by
  rcases Yu hu with ⟨i,t,rfl,rfl⟩ | ⟨x,t,rfl,rfl⟩
  ·rcases Yu hv with ⟨j,u,rfl,rfl⟩ | ⟨y,u,rfl,rfl⟩
   ·rw [ZnS] at h;exact wpAny_eqBool_int h
   ·rw [ZnI] at h;exact SeqAt.EqAt.int_str i t y u _ _ _ _ h
  ·rcases Yu hv with ⟨j,u,rfl,rfl⟩ | ⟨y,u,rfl,rfl⟩
   ·rw [ZnD] at h;exact SeqAt.EqAt.str_int x t j u _ _ _ _ h
   ·rw [Zn1] at h;exact wpAny_eqBool_str h
 «strs»:=fun k x t v h=>by
  rcases Yu h with ⟨i,u,rfl,e⟩ | ⟨y,u,rfl,e⟩
  ·exact nomatch e
  ·injection e with e1 _
   subst e1
   cases v<;>rfl
theorem Zfy (prog:Program) (w:World) (i:Int) (t:Tok):(Ys prog w).is (.inl i) (.int i t)=true:=ZiT i t
theorem ZfE (prog:Program) (w:World) (x:Str) (t:Tok):(Ys prog w).is (.inr x) (.str x t)=true:=Zi8 x t
inductive V where
 | non | bl (b:Bool) | int (i:Int) | str (x:Str) | byt (b:Array UInt8) | flt (b:UInt64) | ref (a:Addr) | ty (n:String)
 deriving DecidableEq
def RelV:V->Value->Prop
 | .non,u=>u=Value.none
 | .bl b,u=>u=Value.bool b
 | .int i,u=>∃t,u=Value.int i t
 | .str x,u=>∃t,u=Value.str x t
 | .byt b,u=>∃t,u=Value.bytes b t
 | .flt b,u=>∃t,u=Value.float b t
 | .ref a,u=>u=Value.ref a
 | .ty n,u=>u=Value.type n
abbrev Vals:List V->List Value->Prop:=Paired RelV
theorem Vals.length {xs:List V}{us:List Value} (r:Vals xs us):xs.length=us.length:=Paired.length r
theorem Vals.get:∀{xs:List V}{us:List Value}{i:Nat}{x:V},Vals xs us->xs[i]? = some x -> ∃u,us[i]? = some u/\RelV x u
 | _,_,_,_,.nil,e=>by simp at e
 | _,_,0,_,.cons r _,e=>by simp at e;subst e;exact ⟨_,rfl,r⟩
 | _,_,i+1,x,.cons _ t,e=>by
  obtain ⟨u,h1,h2⟩:=Vals.get (i:=i) (x:=x) t (by simpa using e)
  exact ⟨u,by simpa using h1,h2⟩
theorem Vals.set {x:V}{u:Value} (r:RelV x u):∀{xs:List V}{us:List Value} (i:Nat),Vals xs us->Vals (xs.set i x) (us.set i u)
 | _,_,_,.nil=>.nil
 | _,_,0,.cons _ t=>.cons r t
 | _,_,i+1,.cons q t=>.cons q (Vals.set r i t)
theorem Vals.append:∀{xs ys:List V}{us ws:List Value},Vals xs us->Vals ys ws->Vals (xs++ys) (us++ws)
 | _,_,_,_,.nil,s=>s
 | _,_,_,_,.cons r t,s=>.cons r (Vals.append t s)
theorem Vals.take:∀{xs:List V}{us:List Value} (n:Nat),Vals xs us->Vals (xs.take n) (us.take n)
 | _,_,0,_=>.nil
 | _,_,_+1,.nil=>.nil
 | _,_,n+1,.cons r t=>.cons r (Vals.take n t)
theorem Vals.drop:∀{xs:List V}{us:List Value} (n:Nat),Vals xs us->Vals (xs.drop n) (us.drop n)
 | _,_,0,r=>r
 | _,_,_+1,.nil=>.nil
 | _,_,n+1,.cons _ t=>Vals.drop n t
def Za7:Option V->Option Value->Prop
 | some v,some u=>RelV v u
 | none,none=>True
 | _,_=>False
def KV {κ:Type}:List (κ × V)->List (κ × Value)->Prop:=Paired fun (p:κ × V) (q:κ × Value)=>p.1=q.1/\RelV p.2 q.2
def kV:Key->V
 | .inl i=>.int i
 | .inr x=>.str x
inductive HO where
 | lst (xs:List V)
 | tup (xs:List V)
 | dK (kvs:List (Key×V)) | dT (kvs:List (List Key×V))
 | set (S:Int->Bool) (n:Nat)
 | ins (C dx:Addr) (fs:List (Str×V))
 | own (x:Addr)
 | xd (fs:List (Str×V))
 | met (f x:Addr)
 | rng (lo hi:Int)
 | frz (o:Obj) (u:HO)
 | tbl (ps:Array Value)
 | ext (φ:Heap->Prop)
abbrev Hp:=Addr->Option HO
def upd (H:Hp) (a:Addr) (o:HO):Hp:=fun b=>if b=a then some o else H b
theorem Zb {H:Hp}{a:Addr}{o:HO}:upd H a o a=some o:=by unfold upd;rw [if_pos rfl]
theorem Zj {H:Hp}{a b:Addr}{o:HO} (h:b≠a):upd H a o b=H b:=by unfold upd;rw [if_neg h]
theorem Ziq {H:Hp}{a:Addr}{o u:HO}:upd (upd H a o) a u=upd H a u:=by
 funext b;unfold upd;split<;>rfl
theorem Zgq {H:Hp}{a b:Addr}{o u:HO} (h:H a=some o) (h':H b=some u) (d:o≠u):a≠b:=by
 intro e;subst e;rw [h] at h';exact d (Option.some.inj h')
theorem Zg {H:Hp}{a b:Addr}{o:HO} (h:H a=some o) (h':H b=none):a≠b:=by
 intro e;subst e;rw [h] at h';cases h'
section
variable (P:Program) (w:World)
def Yy (H:Hp) (h:Heap) (a:Addr):HO->Prop
 | .lst xs=>xs.length<=sizeLine /\ ∃(its:List Value) (n:Nat),Vals xs its/\h.get? a=some { cls:=.type "list", data:=.seq its.toArray n }
 | .tup xs=>xs.length<=sizeLine /\ ∃its:List Value,Vals xs its/\IsTup h a its.toArray
 | .dK kvs=>kvs.length<=sizeLine/\(a==sysModules)=false /\ ∃vs,KV kvs vs/\h.DictOf (Ys P w) a vs
 | .dT kvs=>kvs.length<=sizeLine/\(a==sysModules)=false /\ ∃xs:List (List Key×Addr×Value),
   Paired (fun (p:List Key×V) (q:List Key×Addr×Value)=>p.1=q.1/\H q.2.1=some (.tup (p.1.map kV))/\RelV p.2 q.2.2) kvs xs /\
   ∃o es ep,h.get? a=some o/\o.ExactDict/\o.data = .dict es ep/\es.toList=xs.map (entryOfKey (tupleKind (Ys P w)))/\(xs.map (·.1)).Nodup
 | .set S n=>h.SetOf (intKind P w) a S n
 | .ins C dx fs=>H dx=some (.own a)/\fs.length<=1000/\dx≠a/\h.get? a=some (PySem.W.instObj C dx) /\
   ∃mA,h.Ns1 dx mA/\(∀f,Za7 (fs.lookup f) (mA f))/\PySem.Within mA (fs.map (·.1))
 | .own _=>∃o,h.get? a=some o
 | .xd fs=>∃mA,h.Ns1 a mA /\ ∀f,Za7 (fs.lookup f) (mA f)
 | .rng lo hi=>∃t u v,h.get? a=some { cls:=.type "range", data:=.fields #[.int lo t,.int hi u,.int 1 v] }
 | .frz o u=>h.get? a=some o/\Yy H h a u
 | .tbl ps=>h.get? a=some { cls:=.none,data:=.fields ps }
 | .met f x=>h.get? a=some (PySem.W.methodObj (.ref f) (.ref x))
 | .ext φ=>φ h/\(∃o,h.get? a=some o) /\ ∀h1 h2:Heap,φ h1->(∀o,h1.get? a=some o->h2.get? a=some o) -> φ h2
def GL (H:Hp) (h:Heap):Prop:=∀a o,H a=some o->Yy P w H h a o
end
section
variable {P:Program}{w:World}{H H':Hp}{h h':Heap}{a:Addr}{o:HO}
theorem Yy.lt (x:Yy P w H h a o):a<h.objs.size:=by
 cases o with
 | lst xs=>obtain ⟨_,_,_,_,e⟩:=x;exact Heap.lt_size e
 | tup xs=>obtain ⟨_,_,_,p⟩:=x;exact p.lt
 | dK kvs=>obtain ⟨_,_,_,_,o,_,_,e,_⟩:=x;exact Heap.lt_size e
 | dT kvs=>obtain ⟨_,_,_,_,o,_,_,e,_⟩:=x;exact Heap.lt_size e
 | set S n=>obtain ⟨o,_,_,_,e,_⟩:=x;exact Heap.lt_size e
 | ins C dx fs=>obtain ⟨_,_,_,e,_⟩:=x;exact Heap.lt_size e
 | own y=>obtain ⟨_,e⟩:=x;exact Heap.lt_size e
 | xd fs=>obtain ⟨_,⟨_,_,_,e,_⟩,_⟩:=x;exact Heap.lt_size e
 | rng lo hi=>obtain ⟨_,_,_,e⟩:=x;exact Heap.lt_size e
 | frz ob u=>obtain ⟨e,_⟩:=x;exact Heap.lt_size e
 | tbl ps=>exact Heap.lt_size (show h.get? a=some _ from x)
 | met f y=>exact Heap.lt_size (show h.get? a=some _ from x)
 | ext φ=>obtain ⟨_,⟨_,e⟩,_⟩:=x;exact Heap.lt_size e
theorem Paired.mapP {α β:Type}{F G:α -> β -> Prop}:∀{l₁:List α}{l₂:List β},Paired F l₁ l₂->(∀a b,F a b->G a b)->Paired G l₁ l₂
 | _,_,.nil,_=>.nil
 | _,_,.cons r t,f=>.cons (f _ _ r) (Paired.mapP t f)
theorem Yy.stay (x:Yy P w H h a o) (k:∀b u,(b=a∨H b=some (.own a))->h.get? b=some u->h'.get? b=some u)
  (ho:∀b,H b=some (.own a)->H' b=some (.own a)) (ht:∀b xs,H b=some (.tup xs)->H' b=some (.tup xs)):Yy P w H' h' a o:=by
 induction o with
 | lst xs=>obtain ⟨z,its,n,r,e⟩:=x;exact ⟨z,its,n,r,k _ _ (.inl rfl) e⟩
 | tup xs=>obtain ⟨z,its,r,ob,e,c⟩:=x;exact ⟨z,its,r,ob,k _ _ (.inl rfl) e,c⟩
 | dK kvs=>obtain ⟨z,y,vs,r,ob,es,ep,e,c⟩:=x;exact ⟨z,y,vs,r,ob,es,ep,k _ _ (.inl rfl) e,c⟩
 | dT kvs=>
  obtain ⟨z,y,xs,r,ob,es,ep,e,c⟩:=x
  exact ⟨z,y,xs,Paired.mapP r fun p q z=>⟨z.1,ht _ _ z.2.1,z.2.2⟩,ob,es,ep,k _ _ (.inl rfl) e,c⟩
 | set S n=>obtain ⟨ob,es,ep,t,e,c⟩:=x;exact ⟨ob,es,ep,t,k _ _ (.inl rfl) e,c⟩
 | ins C dx fs=>
  obtain ⟨d,z,ne,e,mA,⟨od,es,ep,e2,c⟩,r⟩:=x
  exact ⟨ho _ d,z,ne,k _ _ (.inl rfl) e,mA,⟨od,es,ep,k _ _ (.inr d) e2,c⟩,r⟩
 | own y=>obtain ⟨ob,e⟩:=x;exact ⟨ob,k _ _ (.inl rfl) e⟩
 | xd fs=>obtain ⟨mA,⟨od,es,ep,e,c⟩,r⟩:=x;exact ⟨mA,⟨od,es,ep,k _ _ (.inl rfl) e,c⟩,r⟩
 | rng lo hi=>obtain ⟨t,u,v,e⟩:=x;exact ⟨t,u,v,k _ _ (.inl rfl) e⟩
 | frz ob u ih=>obtain ⟨e,q⟩:=x;exact ⟨k _ _ (.inl rfl) e,ih q⟩
 | tbl ps=>
  have e:h.get? a=some { cls:=.none,data:=.fields ps }:=x
  show h'.get? a=some { cls:=.none,data:=.fields ps }
  exact k a _ (.inl rfl) e
 | met f y=>
  have e:h.get? a=some (PySem.W.methodObj (.ref f) (.ref y)):=x
  show h'.get? a=some (PySem.W.methodObj (.ref f) (.ref y))
  exact k a _ (.inl rfl) e
 | ext φ=>obtain ⟨p,⟨o,e⟩,st⟩:=x;exact ⟨st _ _ p fun o q=>k _ _ (.inl rfl) q,⟨o,k _ _ (.inl rfl) e⟩,st⟩
theorem GL.lt (x:GL P w H h) (e:H a=some o):a<h.objs.size:=(x a o e).lt
theorem GL.fresh (x:GL P w H h) (e:h.objs.size<=a):H a=none:=by
 cases q:H a with
 | none=>rfl
 | some u=>exact absurd (Nat.lt_of_lt_of_le (x.lt q) e) (Nat.lt_irrefl _)
theorem GL.kept (x:GL P w H h) (k:∀b u,h.get? b=some u->h'.get? b=some u):GL P w H h':=fun a o e=>
 (x a o e).stay (fun b u _ q=>k b u q) (fun _ q=>q) fun _ _ q=>q
theorem GL.laid (x:GL P w H h) (k:∀b u,h.get? b=some u->h'.get? b=some u) (hp:h.objs.size<=a) (new:Yy P w (upd H a o) h' a o):GL P w (upd H a o) h':=fun b u e=>by
 have hn:=x.fresh hp
 by_cases hb:b=a
 ·subst hb;rw [Zb] at e;cases e;exact new
 ·rw [Zj hb] at e
  exact (x b u e).stay (fun c v _ q=>k c v q) (fun c q=>by rw [Zj (Zg q hn)];exact q) fun c xs q=>by rw [Zj (Zg q hn)];exact q
end
def Rd (H:Hp) (a:Addr) (u:HO):Prop:=H a=some u ∨ ∃o,H a=some (.frz o u)
theorem Rd.ok {P:Program}{w:World}{H:Hp}{h:Heap}{a:Addr}{u:HO} (r:Rd H a u) (x:GL P w H h):Yy P w H h a u:=by
 rcases r with r | ⟨o,r⟩
 ·exact x a u r
 ·obtain ⟨_,q⟩:=x a _ r
  exact q
def Mut:Option HO->Prop
 | some (.lst _)=>True
 | some (.dK _)=>True
 | some (.dT _)=>True
 | some (.set _ _)=>True
 | some (.ins _ _ _)=>True
 | some (.ext _)=>True
 | _=>False
section
variable {P:Program}{w:World}{H:Hp}{h h':Heap}{x e:Addr}{o':HO}
theorem GL.write (ok:GL P w H h) (mu:Mut (H x)) (he:e=x∨H e=some (.own x)) (k:∀b u,b≠e->h.get? b=some u->h'.get? b=some u) (heo:∃u,h'.get? e=some u)
  (new:Yy P w (upd H x o') h' x o'):GL P w (upd H x o') h':=fun b u q=>by
 have nown:∀c y,H c=some (.own y)->c≠x:=fun c y r z=>by subst z;rw [r] at mu;exact mu
 have ntup:∀c xs,H c=some (.tup xs)->c≠x:=fun c xs r z=>by subst z;rw [r] at mu;exact mu
 by_cases hb:b=x
 ·subst hb;rw [Zb] at q;cases q;exact new
 ·rw [Zj hb] at q
  by_cases hbe:b=e
  ·have q':H b=some (.own x):=by
    rcases he with z | z
    ·exact absurd (hbe.trans z) hb
    ·rw [hbe];exact z
   rw [q] at q';cases q'
   obtain ⟨v,hv⟩:=heo
   exact ⟨v,by rw [hbe];exact hv⟩
  ·refine (ok b u q).stay (fun c v hc r=>k c v ?_ r) (fun c r=>by rw [Zj (nown c b r)];exact r) fun c xs r=>by rw [Zj (ntup c xs r)];exact r
   rcases hc with rfl | hc
   ·exact hbe
   ·rintro rfl
    rcases he with z | z
    ·exact nown c b hc z
    ·rw [hc] at z;cases z;exact hb rfl
end
structure Un (fs ex:List Addr) (H H':Hp) (h h':Heap):Prop where
 keep:∀b o,h.get? b=some o->H b=none->b∉fs->b∉ex->h'.get? b=some o
 slot:∀b o,h.get? b=some o->H b=none->b∈fs->b∉ex -> ∃sl,h'.get? b=some { o with slots:=sl }
 free:∀b o,h.get? b=some o->H b=none->b∉ex->H' b=none
 there:∀b o,h.get? b=some o->b∉ex -> ∃o',h'.get? b=some o'
 tups:∀b xs,H b=some (.tup xs)->H' b=some (.tup xs)
 frzs:∀b o u,H b=some (.frz o u)->H' b=some (.frz o u)
 tbls:∀b ps,H b=some (.tbl ps) -> ∃more,H' b=some (.tbl (ps++more))
section
variable {fs fs' ex ex':List Addr}{H H1 H2:Hp}{h h1 h2 h':Heap}{a x e:Addr}{o:HO}
theorem Un.any (u:Un fs ex H H1 h h1) {b:Addr}{ob:Obj} (q:h.get? b=some ob) (n:H b=none) (hx:b∉ex):∃sl,h1.get? b=some { ob with slots:=sl }:=by
 by_cases hb:b∈fs
 ·exact u.slot b ob q n hb hx
 ·exact ⟨ob.slots,u.keep b ob q n hb hx⟩
theorem Un.kept (k:∀b u,h.get? b=some u->h'.get? b=some u):Un fs ex H H h h':=
 ⟨fun b ob q _ _ _=>k b ob q,fun b ob q _ _ _=>⟨ob.slots,k b ob q⟩,fun _ _ _ n _=>n,fun b ob q _=>⟨ob,k b ob q⟩,fun _ _ q=>q,fun _ _ _ q=>q,fun _ ps q=>⟨#[],by rw [q];simp⟩⟩
theorem Un.refl:Un fs ex H H h h:=Un.kept fun _ _ q=>q
theorem Un.laid (k:∀b u,h.get? b=some u->h'.get? b=some u) (hp:h.objs.size<=a) (hn:H a=none):Un fs ex H (upd H a o) h h' where
 keep:=fun b u q _ _ _=>k b u q
 slot:=fun b u q _ _ _=>⟨u.slots,k b u q⟩
 free:=fun b u q n _=>by rw [Zj (Nat.ne_of_lt (Nat.lt_of_lt_of_le (Heap.lt_size q) hp))];exact n
 there:=fun b u q _=>⟨u,k b u q⟩
 tups:=fun b xs q=>by rw [Zj (Zg q hn)];exact q
 frzs:=fun b u xs q=>by rw [Zj (Zg q hn)];exact q
 tbls:=fun b ps q=>⟨#[],by rw [Zj (Zg q hn),q];simp⟩
theorem Un.write (mu:Mut (H x)) (he:e=x∨H e=some (.own x)) (k:∀b u,b≠e->h.get? b=some u->h'.get? b=some u) (heo:∃u,h'.get? e=some u):Un fs ex H (upd H x o) h h':=by
 have hx:∀b,H b=none->b≠x:=fun b n z=>by subst z;rw [n] at mu;exact mu
 have hb:∀b,H b=none->b≠e:=fun b n z=>by
  subst z
  rcases he with r | r
  ·exact hx b n r
  ·rw [n] at r;cases r
 have hm:∀b u,H b=some u -> ¬Mut (some u)->b≠x:=fun b u q nm z=>by subst z;rw [q] at mu;exact nm mu
 refine ⟨fun b u q n _ _=>k b u (hb b n) q,fun b u q n _ _=>⟨u.slots,k b u (hb b n) q⟩,fun b u q n _=>by rw [Zj (hx b n)];exact n,fun b u q _=>?_,
  fun b xs q=>by rw [Zj (hm b _ q fun z=>z)];exact q,fun b u xs q=>by rw [Zj (hm b _ q fun z=>z)];exact q,fun b ps q=>⟨#[],by rw [Zj (hm b _ q fun z=>z),q];simp⟩⟩
 by_cases hbe:b=e
 ·subst hbe;exact heo
 ·exact ⟨u,k b u hbe q⟩
end
def trk (h:Heap) (H:Hp):List Addr:=(List.range h.objs.size).filter fun a=>(H a).isSome
def ZeM (h:Heap) (H:Hp):Heap:=PySem.W.hideAll h (trk h H)
theorem ZiR (h:Heap) (H:Hp):(ZeM h H).objs.size=h.objs.size:=PySem.W.hideAll_size _ _
theorem Zld {h:Heap}{H:Hp}{b:Addr}{o:Obj} (e:h.get? b=some o) (n:H b=none):(ZeM h H).get? b=some o:=
 PySem.W.hideAll_get _ e fun hm=>by
  have q:(H b).isSome=true:=(List.mem_filter.mp hm).2
  rw [n] at q;simp at q
theorem ZmM {h:Heap}{H:Hp}{b:Addr}{o:Obj} (e:(ZeM h H).get? b=some o):h.get? b=some o/\H b=none:=by
 have e':h.get? b=some o:=PySem.W.of_hideAll (trk h H) e
 refine ⟨e',?_⟩
 cases q:H b with
 | none=>rfl
 | some x=>
  have hm:b∈trk h H:=List.mem_filter.mpr ⟨List.mem_range.mpr (Heap.lt_size e'),by simp [q]⟩
  have z:(ZeM h H).get? b=none:=PySem.W.hideAll_none (trk h H) hm
  rw [z] at e;cases e
def W9 (g h:Heap) (L:Addr):List (Addr×Obj):=(List.range h.objs.size).filterMap fun a=>if a=L∨(g.get? a).isSome=true then none else (h.get? a).map fun o=>(a,o)
theorem Gj {g h:Heap}{L a:Addr}{o:Obj} (h1:a≠L) (h2:g.get? a=none) (h3:h.get? a=some o):(a,o)∈W9 g h L:=
 List.mem_filterMap.mpr ⟨a,List.mem_range.mpr (Heap.lt_size h3),by simp [h1,h2,h3]⟩
theorem Zc6 {g h:Heap}{L:Addr}{p:Addr×Obj} (hp:p∈W9 g h L):p.1≠L/\g.get? p.1=none/\h.get? p.1=some p.2:=by
 obtain ⟨b,_,e⟩:=List.mem_filterMap.mp hp
 split at e
 ·cases e
 ·rename_i hn
  cases q:h.get? b with
  | none=>rw [q] at e;simp at e
  | some u=>
   rw [q] at e
   simp only [Option.map_some,Option.some.injEq] at e
   subst e
   refine ⟨fun z=>hn (.inl z),?_,q⟩
   show g.get? b=none
   cases r:g.get? b with
   | none=>rfl
   | some v=>exact (hn (.inr (by simp [r]))).elim
def rest (g h:Heap) (L d:Addr):List (Addr×Obj):=(W9 g h L).filter fun p=>decide (p.1≠d)
theorem ZfH {g h:Heap}{L:Addr}:News g L h (W9 g h L):=fun p hp=>let ⟨a,b,c⟩:=Zc6 hp;⟨c,a,b⟩
structure Mod (K:PySem.W.Frag) (mg:Str->Option Value) (base:Heap):Prop where
 kin:K.In base
 glob:base.Ns mainGlobals mg
 blt:∃mb,base.Ns builtinsNs mb /\ ∀x:Str,x ≠ "__name__" -> mb x=bootBuiltins x
 nolimit:base.NoLimit
structure Cx where
 prog:Program
 w:World
 K:PySem.W.Frag
 mg:Str->Option Value
 base:Heap
 A:Around
 N:List Str
 s₀:Shared
 H₀:Hp
 env:Env
 outer:List Env
 stack:List Env
 ex:List Addr
 fn:Str->Bool
 calm:Bool
 pn:List (Addr×Obj)
 xe:Value->Shared->Prop
def We (l:List Env):List Addr:=l.filterMap (·.frame)
abbrev Cx.fs (X:Cx):List Addr:=We X.outer
def Vis (sc:Scope) (x:Str):Prop:=sc.names.lookup x=some .local∨sc.names.lookup x=some .cell∨sc.names.lookup x=some .free
def Loc (sc:Scope) (x:Str):Prop:=sc.names.lookup x=some .local∨sc.names.lookup x=some .cell
def Look (env:Env) (h:Heap) (m:Str->Option Value) (x:Str) (u:Value):Prop:=
 (env.kindOf x=some .local/\m x=some u)∨((env.kindOf x=some .cell∨env.kindOf x=some .free) /\ ∃c,env.cells.lookup x=some c/\h.IsCell c (some u))
structure Cx.Ok (X:Cx):Prop where
 mod:Mod X.K X.mg X.base
 kind:X.env.scope.kind = .function
 glob:X.env.globals=mainGlobals
 blt:X.env.builtins=builtinsNs
 above:X.s₀.heap.objs.size<=X.env.locals
 inj:∀x y c,X.env.cells.lookup x=some c->X.env.cells.lookup y=some c->x=y
 has:∀x,(X.env.kindOf x=some .cell∨X.env.kindOf x=some .free) -> ∃c,X.env.cells.lookup x=some c
 cab:∀x c,X.fn x=true->X.env.cells.lookup x=some c->X.s₀.heap.objs.size<=c
 hd:X.calm=true->X.A.handled=none
 frames:X.A.frames=some X.stack
 stk:X.stack=X.outer∨(X.stack=X.env::X.outer/\X.env.frame=some X.env.locals)
 exf:∀b∈X.ex,b≠X.env.locals /\ ∀x c,X.env.cells.lookup x=some c->c≠b
 bs:∀b o,X.base.get? b=some o->X.s₀.heap.get? b=some o/\X.H₀ b=none
 bsz:X.base.objs.size<=X.s₀.heap.objs.size
 noex:∀b o,X.base.get? b=some o->b∉X.ex
 exfs:∀b∈X.ex,b∉X.fs
 funs:X.s₀.heap.FunFrames X.base X.outer
 frf:∀b∈X.fs,X.H₀ b=none
structure Inv (X:Cx) (pins:List (Addr×Obj)) (σ:List (Option V)) (H:Hp) (s:Shared):Prop where
 ok:X.Ok
 os:s.os=X.s₀.os
 bare:AllBare s.gens
 base:Un X.fs X.ex X.H₀ H X.s₀.heap s.heap
 loc:∃m,s.heap.Ns X.env.locals m /\ ∀(i:Nat) (x:Str) (v:V),X.N[i]? = some x -> σ[i]? = some (some v)->Vis X.env.scope x -> ∃u,RelV v u/\Look X.env s.heap m x u
 cell:∀x c,X.env.cells.lookup x=some c -> ∃v,s.heap.IsCell c v
 free:H X.env.locals=none
 freeC:∀x c,X.env.cells.lookup x=some c->H c=none
 pin:∀p∈X.pn++pins,s.heap.get? p.1=some p.2/\H p.1=none/\p.1≠X.env.locals/\p.1∉X.fs /\ ∀v,p.2.data ≠ .cell v
 hok:GL X.prog X.w H s.heap
 len:σ.length=X.N.length
section
variable {X:Cx}{pins:List (Addr×Obj)} {σ:List (Option V)}{H H':Hp}{s:Shared}{h':Heap}
theorem Cx.Ok.nofr (ok:X.Ok) {b:Addr}{o:Obj} (e:X.base.get? b=some o):b∉X.fs:=fun hb=>by
 have:=(ok.funs.mem hb).1
 rw [e] at this;cases this
theorem Inv.bs (I:Inv X pins σ H s):∀b o,X.base.get? b=some o->s.heap.get? b=some o/\H b=none:=fun b o e=>
 ⟨I.base.keep b o (I.ok.bs b o e).1 (I.ok.bs b o e).2 (I.ok.nofr e) (I.ok.noex b o e),I.base.free b o (I.ok.bs b o e).1 (I.ok.bs b o e).2 (I.ok.noex b o e)⟩
theorem Inv.bk (I:Inv X pins σ H s):∀b o,X.base.get? b=some o->s.heap.get? b=some o:=fun b o e=>(I.bs b o e).1
theorem Inv.mod (I:Inv X pins σ H s):Mod X.K X.mg X.base:=I.ok.mod
theorem Inv.kIn (I:Inv X pins σ H s):X.K.In s.heap:=I.ok.mod.kin.keeps I.bk
theorem Inv.fr (I:Inv X pins σ H s):∃m,Fr X.base X.env.locals s.heap m:=
 let ⟨m,hn,_⟩:=I.loc
 ⟨m,hn,I.bk,Nat.le_trans I.ok.bsz I.ok.above⟩
theorem Inv.lt (I:Inv X pins σ H s):X.env.locals<s.heap.objs.size:=let ⟨_,hn,_⟩:=I.loc;hn.lt
theorem Inv.sz (I:Inv X pins σ H s):X.s₀.heap.objs.size<=s.heap.objs.size:=Nat.le_trans I.ok.above (Nat.le_of_lt I.lt)
theorem Inv.nofs (I:Inv X pins σ H s) {a:Addr} (h:s.heap.objs.size<=a):a∉X.fs:=fun hb=>by
 obtain ⟨_,o,ho,_⟩:=I.ok.funs.mem hb
 exact absurd (Nat.lt_of_lt_of_le (Heap.lt_size ho) (Nat.le_trans I.sz h)) (Nat.lt_irrefl _)
theorem Inv.cne (I:Inv X pins σ H s):∀x c,X.env.cells.lookup x=some c->c≠X.env.locals:=fun x c e z=>by
 obtain ⟨v,o,ho,hd⟩:=I.cell x c e
 obtain ⟨m,⟨o',es,ep,ho',hd',_⟩,_⟩:=I.loc
 rw [z,ho'] at ho;cases ho;rw [hd'] at hd;cases hd
theorem Inv.funs (I:Inv X pins σ H s):s.heap.FunFrames X.base X.outer:=by
 have all:∀(l:List Env),(∀b∈We l,b∈X.fs)->X.s₀.heap.FunFrames X.base l->s.heap.FunFrames X.base l:=by
  intro l
  induction l with
  | nil=>intro _ _;trivial
  | cons env r ih=>
   intro hs hl
   obtain ⟨hk,⟨L,o,hf,hn,ho,hd⟩,hr⟩:=hl
   have hL:L∈X.fs:=hs L (by unfold We;rw [List.filterMap_cons,hf];exact List.mem_cons_self)
   obtain ⟨sl,e⟩:=I.base.slot L o ho (I.ok.frf L hL) hL fun z=>I.ok.exfs L z hL
   exact ⟨hk,⟨L,_,hf,hn,e,hd⟩,ih (fun b hb=>hs b (by unfold We;rw [List.filterMap_cons,hf];exact List.mem_cons_of_mem _ hb)) hr⟩
 exact all X.outer (fun _ hb=>hb) I.ok.funs
theorem Inv.stack (I:Inv X pins σ H s):s.heap.FunFrames X.base X.stack:=by
 rcases I.ok.stk with e | ⟨e,hf⟩
 ·rw [e];exact I.funs
 ·rw [e]
  obtain ⟨m,hn,_⟩:=I.loc
  refine .cons (by rw [I.ok.kind];decide) hf hn ?_ I.funs
  exact Heap.get?_none_of_le (Nat.le_trans I.ok.bsz I.ok.above)
theorem Inv.stkSub (I:Inv X pins σ H s):∀b∈We X.stack,b∈X.env.locals::X.fs:=fun b hb=>by
 rcases I.ok.stk with e | ⟨e,hf⟩
 ·rw [e] at hb;exact List.mem_cons_of_mem _ hb
 ·rw [e] at hb
  unfold We at hb
  rw [List.filterMap_cons,hf] at hb
  exact hb
theorem Inv.stkFree (I:Inv X pins σ H s):∀b∈We X.stack,H b=none:=fun b hb=>by
 rcases List.mem_cons.mp (I.stkSub b hb) with e | hb
 ·rw [e];exact I.free
 ·obtain ⟨_,o,ho,_⟩:=I.ok.funs.mem hb
  exact I.base.free b o ho (I.ok.frf b hb) fun z=>I.ok.exfs b z hb
theorem Inv.step {g':Array GenState}{t':Nat}{d':Drawn}{ch:List Addr} (I:Inv X pins σ H s)
  (hch:∀b∈ch,(b∈X.ex∨X.s₀.heap.objs.size<=b)/\b≠X.env.locals/\(∀x c,X.env.cells.lookup x=some c->c≠b) /\ ∀p∈X.pn++pins,p.1≠b)
  (keep:∀b o,b≠X.env.locals->b∉X.fs->b∉ch->s.heap.get? b=some o->H b=none->h'.get? b=some o)
  (slot:∀b o,b≠X.env.locals->b∈X.fs->b∉ch->s.heap.get? b=some o->H b=none -> ∃sl,h'.get? b=some { o with slots:=sl }) (free:∀b o,b∉ch->s.heap.get? b=some o->H b=none->H' b=none)
  (there:∀b o,b∉ch->s.heap.get? b=some o -> ∃o',h'.get? b=some o')
  (tups:∀b xs,H b=some (.tup xs)->H' b=some (.tup xs)) (frzs:∀b o u,H b=some (.frz o u)->H' b=some (.frz o u)) (tbls:∀b ps,H b=some (.tbl ps) -> ∃more,H' b=some (.tbl (ps++more)))
  (ns:∀m,s.heap.Ns X.env.locals m->h'.Ns X.env.locals m) (hok:GL X.prog X.w H' h') (hg:AllBare g'):
  Inv X pins σ H' { s with heap:=h',gens:=g',drawn:=d',toks:=t' }:=by
 have neL:∀b o,X.s₀.heap.get? b=some o->b≠X.env.locals:=fun b o e=>Nat.ne_of_lt (Nat.lt_of_lt_of_le (Heap.lt_size e) I.ok.above)
 have neC:∀b o,X.s₀.heap.get? b=some o->b∉X.ex->b∉ch:=fun b o e hx hb=>by
  rcases (hch b hb).1 with z | z
  ·exact hx z
  ·exact absurd (Nat.lt_of_lt_of_le (Heap.lt_size e) z) (Nat.lt_irrefl _)
 have cellK:∀x c,X.env.cells.lookup x=some c -> ∀v,s.heap.IsCell c v->h'.IsCell c v:=fun x c e v ⟨o,ho,hd⟩=>by
  have nch:c∉ch:=fun z=>(hch c z).2.2.1 x c e rfl
  by_cases hc:c∈X.fs
  ·obtain ⟨sl,q⟩:=slot c o (I.cne x c e) hc nch ho (I.freeC x c e)
   exact ⟨_,q,hd⟩
  ·exact ⟨o,keep c o (I.cne x c e) hc nch ho (I.freeC x c e),hd⟩
 refine ⟨I.ok,I.os,hg,⟨fun b o e n hb hx=>?_,fun b o e n hb hx=>?_,fun b o e n hx=>?_,fun b o e hx=>?_,fun b xs e=>tups b xs (I.base.tups b xs e),fun b o xs e=>frzs b o xs (I.base.frzs b o xs e),fun b ps e=>?_⟩,?_,fun x c e=>?_,?_,fun x c e=>?_,fun p hp=>?_,hok,I.len⟩
 ·exact keep b o (neL b o e) hb (neC b o e hx) (I.base.keep b o e n hb hx) (I.base.free b o e n hx)
 ·obtain ⟨sl,e1⟩:=I.base.slot b o e n hb hx
  obtain ⟨sl',e2⟩:=slot b _ (neL b o e) hb (neC b o e hx) e1 (I.base.free b o e n hx)
  exact ⟨sl',e2⟩
 ·obtain ⟨o',e1⟩:=I.base.there b o e hx
  exact free b o' (neC b o e hx) e1 (I.base.free b o e n hx)
 ·obtain ⟨o',e1⟩:=I.base.there b o e hx
  exact there b o' (neC b o e hx) e1
 ·obtain ⟨m1,e1⟩:=I.base.tbls b ps e
  obtain ⟨m2,e2⟩:=tbls b _ e1
  exact ⟨m1++m2,by rw [e2,Array.append_assoc]⟩
 ·obtain ⟨m,hn,hl⟩:=I.loc
  refine ⟨m,ns m hn,fun i x v e1 e2 e3=>?_⟩
  obtain ⟨u,r,l⟩:=hl i x v e1 e2 e3
  refine ⟨u,r,?_⟩
  rcases l with l | ⟨k,c,e,z⟩
  ·exact .inl l
  ·exact .inr ⟨k,c,e,cellK x c e _ z⟩
 ·obtain ⟨v,z⟩:=I.cell x c e
  exact ⟨v,cellK x c e v z⟩
 ·obtain ⟨m,⟨o,_,_,ho,_⟩,_⟩:=I.loc
  exact free _ o (fun z=>(hch _ z).2.1 rfl) ho I.free
 ·obtain ⟨v,o,ho,hd⟩:=I.cell x c e
  exact free c o (fun z=>(hch c z).2.2.1 x c e rfl) ho (I.freeC x c e)
 ·obtain ⟨e,n,ne,nf,d⟩:=I.pin p hp
  have nch:p.1∉ch:=fun z=>(hch p.1 z).2.2.2 p hp rfl
  exact ⟨keep p.1 p.2 ne nf nch e n,free p.1 p.2 nch e n,ne,nf,d⟩
theorem Inv.un {t':Nat} (I:Inv X pins σ H s) (u:Un X.fs [] H H' s.heap h') (hok:GL X.prog X.w H' h'):Inv X pins σ H' { s with heap:=h',toks:=t' }:=by
 obtain ⟨m,⟨o,es,ep,ho,r⟩,_⟩:=id I.loc
 obtain ⟨sl,hL⟩:=u.any ho I.free (by simp)
 exact I.step (g':=s.gens) (d':=s.drawn) (ch:=[]) (fun _ z=>nomatch z) (fun b o _ hb _ e n=>u.keep b o e n hb (by simp)) (fun b o _ hb _ e n=>u.slot b o e n hb (by simp)) (fun b o _ e n=>u.free b o e n (by simp)) (fun b o _ e=>u.there b o e (by simp)) u.tups u.frzs u.tbls (fun m' hm=>by
  obtain ⟨o',es',ep',ho',r'⟩:=hm
  rw [ho] at ho';cases ho'
  exact ⟨_,es',ep',hL,r'⟩) hok I.bare
theorem Inv.call {g':Array GenState}{t':Nat}{d':Drawn}{ch:List Addr} (I:Inv X pins σ H s) (u:Un (We X.stack) ch H H' s.heap h') (hok:GL X.prog X.w H' h') (hg:AllBare g')
  (hch:∀b∈ch,(b∈X.ex∨X.s₀.heap.objs.size<=b)/\b≠X.env.locals/\(∀x c,X.env.cells.lookup x=some c->c≠b) /\ ∀p∈X.pn++pins,p.1≠b):
  Inv X pins σ H' { s with heap:=h',gens:=g',drawn:=d',toks:=t' }:=by
 obtain ⟨m,⟨o,es,ep,ho,r⟩,_⟩:=id I.loc
 obtain ⟨sl,hL⟩:=u.any ho I.free fun z=>(hch _ z).2.1 rfl
 exact I.step (ch:=ch) hch (fun b o hL hb hc e n=>u.keep b o e n (fun z=>(List.mem_cons.mp (I.stkSub b z)).elim hL hb) hc) (fun b o _ _ hc e n=>u.any e n hc) (fun b o hc e n=>u.free b o e n hc) (fun b o hc e=>u.there b o e hc) u.tups u.frzs u.tbls (fun m' hm=>by
  obtain ⟨o',es',ep',ho',r'⟩:=hm
  rw [ho] at ho';cases ho'
  exact ⟨_,es',ep',hL,r'⟩) hok hg
theorem Inv.turned {t':Nat}{it:Addr} (I:Inv X pins σ H s) (k:∀b o,b≠it->s.heap.get? b=some o->h'.get? b=some o) (hn:H it=none) (hL:it≠X.env.locals)
  (h1:it∈X.ex∨X.s₀.heap.objs.size<=it) (h2:∀x c,X.env.cells.lookup x=some c->c≠it) (h3:∀p∈X.pn++pins,p.1≠it):Inv X pins σ H { s with heap:=h',toks:=t' }:=by
 have nit:∀b u,H b=some u->b≠it:=fun b u e z=>by rw [z,hn] at e;cases e
 refine I.step (g':=s.gens) (d':=s.drawn) (ch:=[it]) (fun b hb=>?_) (fun b o _ _ hc e _=>k b o (fun z=>hc (by simp [z])) e) (fun b o _ _ hc e _=>⟨o.slots,k b o (fun z=>hc (by simp [z])) e⟩) (fun _ _ _ _ n=>n)
  (fun b o hc e=>⟨o,k b o (fun z=>hc (by simp [z])) e⟩) (fun _ _ e=>e) (fun _ _ _ e=>e) (fun b ps e=>⟨#[],by rw [e];simp⟩) (fun m hm=>?_) (fun b u e=>?_) I.bare
 ·have e:b=it:=by simpa using hb
  subst e
  exact ⟨h1,hL,h2,h3⟩
 ·obtain ⟨o,es,ep,ho,r⟩:=hm
  exact ⟨o,es,ep,k _ o (Ne.symm hL) ho,r⟩
 ·refine (I.hok b u e).stay (fun c v hc q=>k c v ?_ q) (fun _ q=>q) fun _ _ q=>q
  rcases hc with z | z
  ·rw [z];exact nit b u e
  ·exact nit c _ z
theorem Inv.tok (I:Inv X pins σ H s) (t:Nat):Inv X pins σ H { s with toks:=t }:=I.un (h':=s.heap) (t':=t) Un.refl I.hok
theorem Inv.kept {t':Nat} (I:Inv X pins σ H s) (k:∀b u,s.heap.get? b=some u->h'.get? b=some u):Inv X pins σ H { s with heap:=h',toks:=t' }:=I.un (Un.kept k) (I.hok.kept k)
theorem Inv.laid {a:Addr}{o:HO}{t':Nat} (I:Inv X pins σ H s) (k:∀b u,s.heap.get? b=some u->h'.get? b=some u) (hp:s.heap.objs.size<=a) (new:Yy X.prog X.w (upd H a o) h' a o):
  Inv X pins σ (upd H a o) { s with heap:=h',toks:=t' }:=I.un (Un.laid k hp (I.hok.fresh hp)) (I.hok.laid k hp new)
theorem Inv.write {x e:Addr}{o:HO}{t':Nat} (I:Inv X pins σ H s) (mu:Mut (H x)) (he:e=x∨H e=some (.own x)) (k:∀b u,b≠e->s.heap.get? b=some u->h'.get? b=some u) (heo:∃u,h'.get? e=some u)
  (new:Yy X.prog X.w (upd H x o) h' x o):Inv X pins σ (upd H x o) { s with heap:=h',toks:=t' }:=I.un (Un.write mu he k heo) (I.hok.write mu he k heo new)
theorem Inv.pins_of {pins':List (Addr×Obj)} (I:Inv X pins σ H s) (h:∀p∈pins',s.heap.get? p.1=some p.2/\H p.1=none/\p.1≠X.env.locals/\p.1∉X.fs /\ ∀v,p.2.data ≠ .cell v):Inv X pins' σ H s:=
 ⟨I.ok,I.os,I.bare,I.base,I.loc,I.cell,I.free,I.freeC,fun p hp=>(List.mem_append.mp hp).elim (fun z=>I.pin p (List.mem_append_left _ z)) (h p),I.hok,I.len⟩
theorem Zgn {N:List Str} (hN:N.Nodup) {i j:Nat}{x:Str} (a:N[i]? = some x) (b:N[j]? = some x):i=j:=by
 obtain ⟨h1,e1⟩:=List.getElem?_eq_some_iff.mp a
 obtain ⟨h2,e2⟩:=List.getElem?_eq_some_iff.mp b
 exact (List.getElem_inj hN).mp (e1.trans e2.symm)
theorem Zd6 {M:Model}{A:Around}{E:Value->Shared->Prop}{i:Nat}{x:Str}{v:V}{u:Value}{Q:Unit->Shared->Prop} (I:Inv X pins σ H s) (hN:X.N.Nodup) (hi:X.N[i]? = some x) (hx:Loc X.env.scope x) (r:RelV v u)
  (h:∀s',Inv X pins (σ.set i (some v)) H s'->(∃a,Heap.SameBut a s.heap s'.heap/\(a=X.env.locals∨X.env.cells.lookup x=some a))->Q () s') (hf:X.fn x=true∨X.env.scope.names.lookup x=some .local:=by first | exact .inl rfl | exact .inr rfl | assumption):wpAny M A (storeName X.env x u) Q E s:=by
 obtain ⟨m,hn,hl⟩:=id I.loc
 have hcls:(X.env.scope.kind == .class||(X.env.scope.kind == .module&&X.env.locals != X.env.globals))=false:=by rw [I.ok.kind];rfl
 have hiσ:i < σ.length:=by rw [I.len];exact (List.getElem?_eq_some_iff.mp hi).1
 have cne:=I.cne
 have tracked:∀{a:Addr}{h':Heap},(∃o,s.heap.get? a=some o/\H a=none)->Heap.SameBut a s.heap h'->GL X.prog X.w H h':=fun {a h'} ha hs b ob e=>by
  obtain ⟨_,_,hfree⟩:=ha
  refine (I.hok b ob e).stay (fun c w' hc q=>(hs.2 c ?_).trans q) (fun _ q=>q) fun _ _ q=>q
  rintro rfl
  rcases hc with rfl | hc
  ·rw [hfree] at e;cases e
  ·rw [hfree] at hc;cases hc
 rcases hx with hk | hk
 ·refine wpAny_storeName_local hk hn (fun h' hn' hs=>?_) hcls
  obtain ⟨oL,_,_,hoL,_⟩:=id hn
  refine h _ ⟨I.ok,I.os,I.bare,⟨fun b o e n hb hx=>?_,fun b o e n hb hx=>?_,I.base.free,fun b o e hx=>?_,I.base.tups,I.base.frzs,I.base.tbls⟩,⟨_,hn',fun j y v' e1 e2 e3=>?_⟩,fun y c e=>?_,I.free,I.freeC,fun p hp=>?_,tracked ⟨oL,hoL,I.free⟩ hs,by simpa using I.len⟩ ⟨_,hs,.inl rfl⟩
  ·exact (hs.2 b (Nat.ne_of_lt (Nat.lt_of_lt_of_le (Heap.lt_size e) I.ok.above))).trans (I.base.keep b o e n hb hx)
  ·obtain ⟨sl,e1⟩:=I.base.slot b o e n hb hx
   exact ⟨sl,(hs.2 b (Nat.ne_of_lt (Nat.lt_of_lt_of_le (Heap.lt_size e) I.ok.above))).trans e1⟩
  ·obtain ⟨o',e1⟩:=I.base.there b o e hx
   exact ⟨o',(hs.2 b (Nat.ne_of_lt (Nat.lt_of_lt_of_le (Heap.lt_size e) I.ok.above))).trans e1⟩
  ·by_cases hj:j=i
   ·subst hj
    rw [hi] at e1;cases e1
    rw [List.getElem?_set_self hiσ] at e2
    cases e2
    exact ⟨u,r,.inl ⟨hk,by simp⟩⟩
   ·rw [List.getElem?_set_ne (Ne.symm hj)] at e2
    obtain ⟨u',r',q⟩:=hl j y v' e1 e2 e3
    refine ⟨u',r',?_⟩
    rcases q with ⟨k,e⟩ | ⟨k,c,e,z⟩
    ·refine .inl ⟨k,?_⟩
     have:y≠x:=fun e=>hj (Zgn hN e1 (e ▸ hi))
     simp [this,e]
    ·exact .inr ⟨k,c,e,z.sameBut hs (cne y c e)⟩
  ·obtain ⟨w',z⟩:=I.cell y c e
   exact ⟨w',z.sameBut hs (cne y c e)⟩
  ·obtain ⟨e,n,ne,nf,d⟩:=I.pin p hp
   exact ⟨(hs.2 p.1 ne).trans e,n,ne,nf,d⟩
 ·have hfn:X.fn x=true:=by
   rcases hf with z | z
   ·exact z
   ·rw [z] at hk;cases hk
  obtain ⟨c,hc⟩:=I.ok.has x (.inl hk)
  obtain ⟨w',z⟩:=I.cell x c hc
  refine wpAny_storeName_cell I.ok.kind hk hc z (fun h' hc' hs=>?_)
  obtain ⟨oc,hoc,hocd⟩:=id z
  refine h { s with heap:=h' } ⟨I.ok,I.os,I.bare,⟨fun b o e n hb hx=>?_,fun b o e n hb hx=>?_,I.base.free,fun b o e hx=>?_,I.base.tups,I.base.frzs,I.base.tbls⟩,⟨m,hn.sameBut hs (Ne.symm (cne x c hc)),fun j y v' e1 e2 e3=>?_⟩,fun y c' e=>?_,I.free,I.freeC,fun p hp=>?_,tracked ⟨oc,hoc,I.freeC x c hc⟩ hs,by simpa using I.len⟩ ⟨c,hs,.inr hc⟩
  ·exact (hs.2 b (Nat.ne_of_lt (Nat.lt_of_lt_of_le (Heap.lt_size e) (I.ok.cab x c hfn hc)))).trans (I.base.keep b o e n hb hx)
  ·obtain ⟨sl,e1⟩:=I.base.slot b o e n hb hx
   exact ⟨sl,(hs.2 b (Nat.ne_of_lt (Nat.lt_of_lt_of_le (Heap.lt_size e) (I.ok.cab x c hfn hc)))).trans e1⟩
  ·obtain ⟨o',e1⟩:=I.base.there b o e hx
   exact ⟨o',(hs.2 b (Nat.ne_of_lt (Nat.lt_of_lt_of_le (Heap.lt_size e) (I.ok.cab x c hfn hc)))).trans e1⟩
  ·by_cases hj:j=i
   ·subst hj
    rw [hi] at e1;cases e1
    rw [List.getElem?_set_self hiσ] at e2
    cases e2
    exact ⟨u,r,.inr ⟨.inl hk,c,hc,hc'⟩⟩
   ·rw [List.getElem?_set_ne (Ne.symm hj)] at e2
    obtain ⟨u',r',q⟩:=hl j y v' e1 e2 e3
    refine ⟨u',r',?_⟩
    rcases q with q | ⟨k,c',e,z'⟩
    ·exact .inl q
    ·refine .inr ⟨k,c',e,z'.sameBut hs ?_⟩
     rintro rfl
     exact hj (Zgn hN e1 (I.ok.inj _ _ _ e hc ▸ hi))
  ·by_cases hcc:c'=c
   ·subst hcc;exact ⟨_,hc'⟩
   ·obtain ⟨w2,z2⟩:=I.cell y c' e
    exact ⟨w2,z2.sameBut hs hcc⟩
  ·obtain ⟨e,n,ne,nf,d⟩:=I.pin p hp
   refine ⟨(hs.2 p.1 ?_).trans e,n,ne,nf,d⟩
   intro q
   rw [q,hoc] at e
   have q':oc=p.2:=Option.some.inj e
   exact d w' (by rw [<- q'];exact hocd)
theorem Zc3 {M:Model}{A:Around}{E:Value->Shared->Prop}{i:Nat}{x:Str}{v:V}{u:Value}{Q:Unit->Shared->Prop} (I:Inv X pins σ H s) (hN:X.N.Nodup) (hi:X.N[i]? = some x) (hx:Loc X.env.scope x) (r:RelV v u)
  (h:∀s',Inv X pins (σ.set i (some v)) H s'->Q () s') (hf:X.fn x=true∨X.env.scope.names.lookup x=some .local:=by first | exact .inl rfl | exact .inr rfl | assumption):wpAny M A (storeName X.env x u) Q E s:=
 Zd6 I hN hi hx r (fun s' I' _=>h s' I') hf
theorem Inv.call' {s':Shared}{ch:List Addr} (I:Inv X pins σ H s) (ho:s'.os=s.os) (u:Un (We X.stack) ch H H' s.heap s'.heap) (hok:GL X.prog X.w H' s'.heap) (hg:AllBare s'.gens)
  (hch:∀b∈ch,(b∈X.ex∨X.s₀.heap.objs.size<=b)/\b≠X.env.locals/\(∀x c,X.env.cells.lookup x=some c->c≠b) /\ ∀p∈X.pn++pins,p.1≠b):Inv X pins σ H' s':=by
 obtain ⟨h',g',d',t',o'⟩:=s'
 have e:o'=s.os:=ho
 subst e
 exact I.call (g':=g') (t':=t') (d':=d') u hok hg hch
end
abbrev XK:=Value->Option Addr->Hp->Prop
abbrev St:=List (Option V)
abbrev VK:=V->Hp->Prop
abbrev TE:=St->Hp->VK->Prop
abbrev TT:=St->Hp->(Bool->Hp->Prop)->Prop
abbrev TA:=St->Hp->(List V->Hp->Prop)->Prop
structure Ends where
 nx:St->Hp->Prop
 rt:VK
 bk:St->Hp->Prop:=fun _ _=>False
 ct:St->Hp->Prop:=fun _ _=>False
abbrev TS:=Ends->St->Hp->Prop
def EP (X:Cx) (pins:List (Addr×Obj)) (σ:St) (Q:VK) (u:Value) (s':Shared):Prop:=∃v H',Inv X pins σ H' s'/\RelV v u/\Q v H'
def TP (X:Cx) (pins:List (Addr×Obj)) (σ:St) (Q:Bool->Hp->Prop) (b:Bool) (s':Shared):Prop:=∃H',Inv X pins σ H' s'/\Q b H'
def AP (X:Cx) (pins:List (Addr×Obj)) (σ:St) (Q:List V->Hp->Prop) (us:List Value) (s':Shared):Prop:=∃vs H',Inv X pins σ H' s'/\Vals vs us/\Q vs H'
def SP (X:Cx) (pins:List (Addr×Obj)) (D:Ends) (f:Flow) (s':Shared):Prop:=
 match f with
 | .next=>∃ σ' H',Inv X pins σ' H' s'/\D.nx σ' H'
 | .brk=>∃ σ' H',Inv X pins σ' H' s'/\D.bk σ' H'
 | .cont=>∃ σ' H',Inv X pins σ' H' s'/\D.ct σ' H'
 | .ret u=>∃v σ' H',Inv X pins σ' H' s'/\RelV v u/\D.rt v H'
def PE (X:Cx) (e:Expr) (t:TE):Prop:=
 ∀(pins:List (Addr×Obj)) (s:Shared) (σ:St) (H:Hp) (Q:VK),Inv X pins σ H s->t σ H Q->wpAny (model X.prog X.w) X.A (eval e X.env) (EP X pins σ Q) X.xe s
def PT (X:Cx) (e:Expr) (t:TT):Prop:=
 ∀(pins:List (Addr×Obj)) (s:Shared) (σ:St) (H:Hp) (Q:Bool->Hp->Prop),Inv X pins σ H s->t σ H Q->wpAny (model X.prog X.w) X.A (isTrue e X.env (eval e X.env)) (TP X pins σ Q) X.xe s
def PW (X:Cx) (e:Expr) (t:TT):Prop:=
 ∀(whole:Sem Value) (pins:List (Addr×Obj)) (s:Shared) (σ:St) (H:Hp) (Q:Bool->Hp->Prop),Inv X pins σ H s->t σ H Q->wpAny (model X.prog X.w) X.A (isTrue e X.env whole) (TP X pins σ Q) X.xe s
theorem PW.pt {X:Cx}{e:Expr}{t:TT} (h:PW X e t):PT X e t:=h _
def PA (X:Cx) (es:List Expr) (t:TA):Prop:=
 ∀(pos:Pos) (pins:List (Addr×Obj)) (s:Shared) (σ:St) (H:Hp) (Q:List V->Hp->Prop),Inv X pins σ H s->t σ H Q->wpAny (model X.prog X.w) X.A (spliced (backTo pos (starEach es X.env))) (AP X pins σ Q) X.xe s
def PS (X:Cx) (st:Stmt) (t:TS):Prop:=
 ∀(pins:List (Addr×Obj)) (s:Shared) (σ:St) (H:Hp) (D:Ends),Inv X pins σ H s->t D σ H->wpAny (model X.prog X.w) X.A (exec st X.env) (SP X pins D) X.xe s
def PSs (X:Cx) (st:List Stmt) (t:TS):Prop:=
 ∀(pins:List (Addr×Obj)) (s:Shared) (σ:St) (H:Hp) (D:Ends),Inv X pins σ H s->t D σ H->wpAny (model X.prog X.w) X.A (execs st X.env) (SP X pins D) X.xe s
theorem YG {α:Type}{t:Sem α}{Q Q':α -> Shared->Prop}{M:Model}{A:Around}{E:Value->Shared->Prop}{s:Shared} (h:wpAny M A t Q E s) (hQ:∀a s,Q a s->Q' a s):wpAny M A t Q' E s:=wpAny_mono h hQ fun _ _ x=>x
section
variable {X:Cx}
def ZpA (i:Nat):TE:=fun σ H Q=>∃v,σ[i]? = some (some v)/\Q v H
def tC (v:V):TE:=fun _ H Q=>Q v H
theorem ZnE {i:Nat}{x:Str}{pos:Pos} (hN:X.N[i]? = some x) (hv:Vis X.env.scope x) (hd:(x==("__debug__" : Str))=false:=by decide) (hcd:(x==("__classdict__" : Str))=false:=by decide):PE X (.Name x pos) (ZpA i):=by
 intro pins s σ H Q I h
 obtain ⟨v,e,h⟩:=h
 obtain ⟨m,hn,hl⟩:=I.loc
 obtain ⟨u,r,l⟩:=hl i x v hN e hv
 have fin:EP X pins σ Q u s:=⟨v,H,I,r,h⟩
 rcases l with ⟨hk,hm⟩ | ⟨hk,c,hc,hcell⟩
 ·exact wpAny_Name (wpAny_loadName_local I.ok.kind hk hn hm fin) hd
 ·rcases hk with hk | hk
  ·exact wpAny_Name (wpAny_loadName_cell I.ok.kind hk hc hcell fin) hd
  ·exact wpAny_Name (wpAny_loadName_free I.ok.kind hk hc hcell fin hcd) hd
theorem Zf {i j pos}:PE X (.Constant (.int i) j pos) (tC (.int i)):=fun _ _ _ H _ I h=>wpAny_Constant_int ⟨.int i,H,I.tok _,⟨_,rfl⟩,h⟩
theorem Wi {b j pos}:PE X (.Constant (.bool b) j pos) (tC (.bl b)):=fun _ _ _ H _ I h=>Constant_bool ⟨.bl b,H,I,rfl,h⟩
theorem Zot {j pos}:PE X (.Constant .none j pos) (tC .non):=fun _ _ _ H _ I h=>Constant_none ⟨.non,H,I,rfl,h⟩
theorem Z7 {x j pos}:PE X (.Constant (.str x) j pos) (tC (.str x)):=fun _ _ _ H _ I h=>Calls.Constant_str ⟨.str x,H,I.tok _,⟨_,rfl⟩,h⟩
def Gl (X:Cx) (x:Str):Prop:=X.env.kindOf x=some .globalImplicit
theorem Zam {E:Value->Shared->Prop}{pins:List (Addr×Obj)}{s:Shared} {σ:St}{H:Hp}{x:Str}{u:Value}{pos:Pos}{Q:Value->Shared->Prop} (I:Inv X pins σ H s) (hg:Gl X x) (hm:X.mg x=some u) (h:Q u s)
  (hd:(x==("__debug__" : Str))=false:=by decide):wpAny (model X.prog X.w) X.A (eval (.Name x pos) X.env) Q E s:=
 Calls.Name_function_global I.ok.kind hg (Calls.loadGlobal_global (by rw [I.ok.glob];exact I.mod.glob.keeps I.bk) hm h) hd
theorem ZbW {E:Value->Shared->Prop}{pins:List (Addr×Obj)}{s:Shared} {σ:St}{H:Hp}{x:Str}{u:Value}{pos:Pos}{Q:Value->Shared->Prop} (I:Inv X pins σ H s) (hg:Gl X x) (hm:X.mg x=none) (hv:bootBuiltins x=some u) (h:Q u s)
  (hn:x ≠ "__name__" := by decide) (hd:(x==("__debug__" : Str))=false:=by decide):wpAny (model X.prog X.w) X.A (eval (.Name x pos) X.env) Q E s:=by
 obtain ⟨mb,h1,h2⟩:=I.mod.blt
 exact Calls.Name_function_global I.ok.kind hg (Calls.loadGlobal_builtin (by rw [I.ok.glob];exact I.mod.glob.keeps I.bk) hm (by rw [I.ok.blt];exact h1.keeps I.bk) ((h2 x hn).trans hv) h) hd
theorem Zmi {x:Str}{v:V}{u:Value}{pos:Pos} (hg:Gl X x) (hm:X.mg x=some u) (r:RelV v u) (hd:(x==("__debug__" : Str))=false:=by decide):PE X (.Name x pos) (tC v):=
 fun _ _ _ H _ I h=>Zam I hg hm ⟨v,H,I,r,h⟩ hd
variable {a b:Expr}{ta tb:TE}{pos:Pos}
def PC (X:Cx) (op:CmpOp) (a b:Expr) (t:TE):Prop:=
 ∀(pins:List (Addr×Obj)) (s:Shared) (σ:St) (H:Hp) (Q:VK),Inv X pins σ H s->t σ H Q ->
  wpAny (model X.prog X.w) X.A (eval a X.env) (fun v s₁=>wpAny (model X.prog X.w) X.A (eval b X.env) (fun u s₂=>wpAny (model X.prog X.w) X.A (compareOp op v u) (EP X pins σ Q) X.xe s₂) X.xe s₁) X.xe s
def tB (t:TE):TT:=fun σ H Q=>t σ H fun x H1=>∃c,x = .bl c/\Q c H1
theorem Znk {op:CmpOp}{t:TE} (h:PC X op a b t) (h1:behindInMarks op b=false:=by first | exact nobehind _ (by decide) (by decide) | rfl):PT X (.Compare a [op] [b] pos) (tB t):=by
 intro pins s σ H Q I hw
 refine wpAny_isTrue_Compare1 (YG (h pins s σ H _ I hw) fun v s1 h1=>YG h1 fun u s2 h2=>YG h2 fun c s3 ⟨x,H1,I1,r1,q1⟩=>?_) h1
 obtain ⟨d,rfl,q⟩:=q1
 cases r1
 exact wpAny_truthy_bool ⟨H1,I1,q⟩
theorem ZbL {e:Expr}{t:TE} (h:PE X e t) (he:∀whole,isTrue e X.env whole=(do let v <- whole;standAt e.pos;holding [v] (truthy v)):=by intro _;rfl):PT X e (tB t):=by
 intro pins s σ H Q I hw
 refine isTrue_plain (YG (h pins s σ H _ I hw) fun v s1 ⟨x,H1,I1,r1,q1⟩=>?_) (he _)
 obtain ⟨d,rfl,q⟩:=q1
 cases r1
 exact wpAny_truthy_bool ⟨H1,I1,q⟩
variable {tA tB':TT}{rest:List Expr}
def ZpC (t u:TT):TT:=fun σ H Q=>t σ H fun c H1=>if c=true then u σ H1 Q else Q false H1
def tOr (t u:TT):TT:=fun σ H Q=>t σ H fun c H1=>if c=true then Q true H1 else u σ H1 Q
def Zqe (t:TT):TT:=fun σ H Q=>t σ H fun c H1=>Q (!c) H1
theorem ZcB (ha:PT X a tA):PW X (.BoolOp .And [a] pos) tA:=by
 intro wh pins s σ H Q I h
 refine isTrue_and (YG (ha pins s σ H Q I h) fun c s1 e=>?_)
 cases c with
 | true=>exact isTrue_and_nil e
 | false=>exact e
theorem ZeC (ha:PT X a tA):PW X (.BoolOp .Or [a] pos) tA:=by
 intro wh pins s σ H Q I h
 refine isTrue_or (YG (ha pins s σ H Q I h) fun c s1 e=>?_)
 cases c with
 | false=>exact isTrue_or_nil e
 | true=>exact e
theorem ZcV (ha:PT X a tA) (hb:PW X (.BoolOp .And (b::rest) pos) tB'):PW X (.BoolOp .And (a::b::rest) pos) (ZpC tA tB'):=by
 intro wh pins s σ H Q I h
 refine isTrue_and (YG (ha pins s σ H _ I h) fun c s1 ⟨H1,I1,q1⟩=>?_)
 cases c with
 | true=>exact hb wh pins s1 σ H1 Q I1 q1
 | false=>exact ⟨H1,I1,q1⟩
theorem ZiH (ha:PT X a tA) (hb:PW X (.BoolOp .Or (b::rest) pos) tB'):PW X (.BoolOp .Or (a::b::rest) pos) (tOr tA tB'):=by
 intro wh pins s σ H Q I h
 refine isTrue_or (YG (ha pins s σ H _ I h) fun c s1 ⟨H1,I1,q1⟩=>?_)
 cases c with
 | true=>exact ⟨H1,I1,q1⟩
 | false=>exact hb wh pins s1 σ H1 Q I1 q1
theorem Zc5 (ha:PT X a tA):PT X (.UnaryOp .Not a pos) (Zqe tA):=by
 intro pins s σ H Q I h
 exact isTrue_not (ha pins s σ H (fun c H1=>Q (!c) H1) I h)
def Zqo (ta tb:TE):TE:=fun σ H Q=>ta σ H fun x H1=>∃c,x = .bl c/\if c=true then Q (.bl true) H1 else tb σ H1 Q
theorem Zoo {op}{t:TE} (h:PE X a t):PE X (.BoolOp op [a] pos) t:=fun pins s σ H Q I hw=>BoolOp_one (h pins s σ H Q I hw)
theorem ZoW (ha:PE X a ta) (hb:PE X (.BoolOp .Or (b::rest) pos) tb):PE X (.BoolOp .Or (a::b::rest) pos) (Zqo ta tb):=by
 intro pins s σ H Q I h
 refine BoolOp_or (YG (ha pins s σ H _ I h) fun v s1 ⟨x,H1,I1,r1,q1⟩=>?_)
 obtain ⟨c,rfl,q1⟩:=q1
 cases r1
 refine wpAny_truthy_bool ?_
 cases c with
 | false=>exact hb pins s1 σ H1 Q I1 q1
 | true=>exact ⟨.bl true,H1,I1,rfl,q1⟩
def tIf (t:TT) (ta tb:TE):TE:=fun σ H Q=>t σ H fun c H1=>if c=true then ta σ H1 Q else tb σ H1 Q
theorem Zbs {c:Expr} (hc:PT X c tA) (ha:PE X a ta) (hb:PE X b tb):PE X (.IfExp c a b pos) (tIf tA ta tb):=by
 intro pins s σ H Q I h
 refine wpAny_IfExp (YG (hc pins s σ H _ I h) fun d s1 ⟨H1,I1,q1⟩=>?_)
 cases d with
 | true=>exact ha pins s1 σ H1 Q I1 q1
 | false=>exact hb pins s1 σ H1 Q I1 q1
end
def Zo (K:PySem.W.Frag) (H:Hp) (a:Addr) (xs:List V):Prop:=
 Rd H a (.lst xs) ∨
  ∃(o:Obj) (its:Array Value) (n:Nat),K.lookup a=some o/\o.cls = .type "list" /\ o.dict=none/\o.data = .seq its n/\its.size<=sizeLine/\Vals xs its.toList
def Uw (K:PySem.W.Frag) (H:Hp) (a:Addr) (xs:List V):Prop:=
 Rd H a (.tup xs) ∨
  ∃(o:Obj) (its:Array Value) (n:Nat),K.lookup a=some o/\o.cls = .type "tuple" /\ o.data = .seq its n/\its.size<=sizeLine/\Vals xs its.toList
def ZpX:Value->Option V
 | .none=>some .non
 | .bool b=>some (.bl b)
 | .int i _=>some (.int i)
 | .str x _=>some (.str x)
 | .bytes b _=>some (.byt b)
 | .float b _=>some (.flt b)
 | .ref a=>some (.ref a)
 | .type n=>some (.ty n)
 | _=>none
theorem RelV.abs {x:V}{u:Value} (r:RelV x u):ZpX u=some x:=by
 cases x with
 | non=>cases r;rfl
 | bl _=>cases r;rfl
 | int _=>obtain ⟨t,rfl⟩:=r;rfl
 | str _=>obtain ⟨t,rfl⟩:=r;rfl
 | byt _=>obtain ⟨t,rfl⟩:=r;rfl
 | flt _=>obtain ⟨t,rfl⟩:=r;rfl
 | ref _=>cases r;rfl
 | ty _=>cases r;rfl
theorem RelV.inj {x y:V}{u:Value} (r:RelV x u) (q:RelV y u):x=y:=Option.some.inj (r.abs.symm.trans q.abs)
theorem Vals.inj:∀{xs ys:List V}{us:List Value},Vals xs us->Vals ys us->xs=ys
 | _,_,_,.nil,.nil=>rfl
 | _,_,_,.cons r t,.cons r' t'=>by rw [r.inj r',Vals.inj t t']
section
variable {X:Cx}{pins:List (Addr×Obj)} {σ:St}{H:Hp}{s:Shared}{a:Addr}{xs ys:List V}
theorem Zo.of {K:PySem.W.Frag} (h:H a=some (.lst xs)):Zo K H a xs:=.inl (.inl h)
theorem Uw.of {K:PySem.W.Frag} (h:H a=some (.tup xs)):Uw K H a xs:=.inl (.inl h)
theorem Inv.list (I:Inv X pins σ H s) (h:Zo X.K H a xs):∃its:List Value,Vals xs its/\PlainL s.heap a its.toArray/\xs.length<=sizeLine:=by
 rcases h with h | ⟨o,its,n,hk,hc,hd,hs,hz,r⟩
 ·obtain ⟨z,its,n,r,e⟩:=h.ok I.hok
  exact ⟨its,r,⟨_,n,e,rfl,rfl,rfl⟩,z⟩
 ·refine ⟨its.toList,r,⟨o,n,I.kIn a o hk,hc,hd,by simpa using hs⟩,?_⟩
  have e:=r.length
  simp only [Array.length_toList] at e
  lia
theorem Inv.tuple (I:Inv X pins σ H s) (h:Uw X.K H a xs):∃its:List Value,Vals xs its/\IsTup s.heap a its.toArray/\xs.length<=sizeLine:=by
 rcases h with h | ⟨o,its,n,hk,hc,hs,hz,r⟩
 ·obtain ⟨z,its,r,p⟩:=h.ok I.hok
  exact ⟨its,r,p,z⟩
 ·refine ⟨its.toList,r,⟨o,I.kIn a o hk,hc,n,by simpa using hs⟩,?_⟩
  have e:=r.length
  simp only [Array.length_toList] at e
  lia
theorem Inv.list_inj (I:Inv X pins σ H s) (h:Zo X.K H a xs) (h':Zo X.K H a ys):xs=ys:=by
 obtain ⟨its,r,⟨o,n,e,_,_,d⟩,_⟩:=I.list h
 obtain ⟨its',r',⟨o',n',e',_,_,d'⟩,_⟩:=I.list h'
 rw [e] at e';cases e'
 rw [d] at d'
 injection d' with d1 _
 have:its=its':=by simpa using congrArg Array.toList d1
 subst this
 exact r.inj r'
end
abbrev Cx.wish (X:Cx) (E:Value->Shared->Prop):Cx:={ X with xe:=E }
abbrev Cx.nox (X:Cx):Cx:=X.wish fun _ _=>False
theorem Cx.Ok.wish {X:Cx} (ok:X.Ok) (E:Value->Shared->Prop):(X.wish E).Ok:=
 ⟨ok.mod,ok.kind,ok.glob,ok.blt,ok.above,ok.inj,ok.has,ok.cab,ok.hd,ok.frames,ok.stk,ok.exf,ok.bs,ok.bsz,ok.noex,ok.exfs,ok.funs,ok.frf⟩
theorem Cx.Ok.unwish {X:Cx}{E:Value->Shared->Prop} (ok:(X.wish E).Ok):X.Ok:=
 ⟨ok.mod,ok.kind,ok.glob,ok.blt,ok.above,ok.inj,ok.has,ok.cab,ok.hd,ok.frames,ok.stk,ok.exf,ok.bs,ok.bsz,ok.noex,ok.exfs,ok.funs,ok.frf⟩
section
variable {X:Cx}{pins:List (Addr×Obj)} {σ:St}{H:Hp}{s:Shared}{E:Value->Shared->Prop}
theorem Inv.wish (I:Inv X pins σ H s) (E:Value->Shared->Prop):Inv (X.wish E) pins σ H s:=⟨I.ok.wish E,I.os,I.bare,I.base,I.loc,I.cell,I.free,I.freeC,I.pin,I.hok,I.len⟩
theorem Inv.unwish (I:Inv (X.wish E) pins σ H s):Inv X pins σ H s:=⟨I.ok.unwish,I.os,I.bare,I.base,I.loc,I.cell,I.free,I.freeC,I.pin,I.hok,I.len⟩
theorem SP.unwish {D:Ends}{f:Flow}{s':Shared} (h:SP (X.wish E) pins D f s'):SP X pins D f s':=by
 cases f with
 | next=>obtain ⟨σ',H',I,q⟩:=h;exact ⟨σ',H',I.unwish,q⟩
 | brk=>obtain ⟨σ',H',I,q⟩:=h;exact ⟨σ',H',I.unwish,q⟩
 | cont=>obtain ⟨σ',H',I,q⟩:=h;exact ⟨σ',H',I.unwish,q⟩
 | ret u=>obtain ⟨v,σ',H',I,r,q⟩:=h;exact ⟨v,σ',H',I.unwish,r,q⟩
theorem PSs.nox {st:List Stmt}{t:TS} (h:PSs X.nox st t):PSs X st t:=fun pins s σ H D I hw=>
 wpAny_mono (h pins s σ H D (I.wish _) hw) (fun _ _ q=>q.unwish) fun _ _ z=>False.elim z
end
section
variable {X:Cx}{st:Stmt}{rest:List Stmt}{t u:TS}{e:Expr}{te:TE}{pos:Pos}
def Zpo:TS:=fun D σ H=>D.nx σ H
def ZpT (t u:TS):TS:=fun D σ H=>t { D with nx:=u D } σ H
theorem Yc:PSs X [] Zpo:=fun _ _ σ H _ I h=>wpAny_execs_nil ⟨σ,H,I,h⟩
theorem Zd (h1:PS X st t) (h2:PSs X rest u):PSs X (st::rest) (ZpT t u):=by
 intro pins s σ H D I h
 refine wpAny_execs_cons (YG (h1 pins s σ H { D with nx:=u D } I h) fun f s1 q=>?_)
 cases f with
 | next=>
  obtain ⟨σ',H',I',q⟩:=q
  exact h2 pins s1 σ' H' D I' q
 | ret v=>exact q
 | brk=>exact q
 | cont=>exact q
theorem Zh (h1:PS X st t):PSs X [st] t:=by
 intro pins s σ H D I h
 refine wpAny_execs_cons (YG (h1 pins s σ H D I h) fun f s1 q=>?_)
 cases f with
 | next=>exact wpAny_execs_nil q
 | ret v=>exact q
 | brk=>exact q
 | cont=>exact q
theorem Inv.quiet {pins:List (Addr×Obj)} {σ:St}{H:Hp}{s:Shared} (I:Inv X pins σ H s):interactive X.env=false:=by simp [interactive,I.ok.kind]
def ZoM (te:TE):TS:=fun D σ H=>te σ H fun _ H1=>D.nx σ H1
theorem Ya (he:PE X e te) (hs:swapsWith e none pos.line X.env=pure false:=by rfl):PS X (.Expr e pos) (ZoM te):=by
 intro pins s σ H D I h
 exact wpAny_Expr_any (YG (he pins s σ H _ I h) fun v s1 ⟨x,H1,I1,r1,q1⟩=>⟨σ,H1,I1,q1⟩) I.quiet hs
def Zqq (te:TE):TS:=fun D σ H=>te σ H D.rt
theorem Zs (he:PE X e te):PS X (.Return (some e) pos) (Zqq te):=by
 intro pins s σ H D I h
 exact wpAny_Return_some (YG (he pins s σ H _ I h) fun v s1 ⟨x,H1,I1,r1,q1⟩=>⟨x,σ,H1,I1,r1,q1⟩)
def Zpj (c:TT) (t u:TS):TS:=fun D σ H=>c σ H fun b H1=>if b=true then t D σ H1 else u D σ H1
theorem YO {c:Expr}{a b:List Stmt}{tc:TT} (hc:PT X c tc) (ha:PSs X a t) (hb:PSs X b u):PS X (.If c a b pos) (Zpj tc t u):=by
 intro pins s σ H D I h
 refine wpAny_If (YG (hc pins s σ H _ I h) fun d s1 ⟨H1,I1,q1⟩=>?_)
 cases d with
 | true=>exact ha pins s1 σ H1 D I1 q1
 | false=>exact hb pins s1 σ H1 D I1 q1
end
abbrev TG:=V->St->Hp->(St->Hp->Prop)->Prop
abbrev TGs:=List V->St->Hp->(St->Hp->Prop)->Prop
def PG (X:Cx) (target:Expr) (t:TG):Prop:=
 ∀(pins:List (Addr×Obj)) (s:Shared) (σ:St) (H:Hp) (v:V) (u:Value) (Q:St->Hp->Prop),Inv X pins σ H s->RelV v u->t v σ H Q ->
  wpAny (model X.prog X.w) X.A (assign target X.env u) (fun _ s'=>∃ σ' H',Inv X pins σ' H' s'/\Q σ' H') X.xe s
def PGs (X:Cx) (ts:List Expr) (t:TGs):Prop:=
 ∀(pins:List (Addr×Obj)) (s:Shared) (σ:St) (H:Hp) (vs:List V) (us:List Value) (Q:St->Hp->Prop),Inv X pins σ H s->Vals vs us->t vs σ H Q ->
  wpAny (model X.prog X.w) X.A (assignInOrder ((assignEach ts X.env).map (·.2)) us) (fun _ s'=>∃ σ' H',Inv X pins σ' H' s'/\Q σ' H') X.xe s
abbrev Zn4:=V->V->V->Hp->(Hp->Prop)->Prop
def Zoy (X:Cx) (t:Zn4):Prop:=
 ∀(pins:List (Addr×Obj)) (s:Shared) (σ:St) (H:Hp) (o i v:V) (ov iv u:Value) (Q:Hp->Prop),Inv X pins σ H s->RelV o ov->RelV i iv->RelV v u->t o i v H Q ->
  wpAny (model X.prog X.w) X.A (setItem ov iv u) (fun _ s'=>∃H',Inv X pins σ H' s'/\Q H') X.xe s
abbrev TIp:=V->V->Hp->VK->Prop
def PIp (X:Cx) (op:Operator) (t:TIp):Prop:=
 ∀(pins:List (Addr×Obj)) (s:Shared) (σ:St) (H:Hp) (x y:V) (v u:Value) (Q:VK),Inv X pins σ H s->RelV x v->RelV y u->t x y H Q ->
  wpAny (model X.prog X.w) X.A (inplaceOp op v u) (EP X pins σ Q) X.xe s
section
variable {X:Cx}{pos:Pos}
def J0 (i:Nat):TG:=fun v σ H Q=>Q (σ.set i (some v)) H
theorem Zl {i:Nat}{x:Str} (hN:X.N.Nodup) (hi:X.N[i]? = some x) (hx:Loc X.env.scope x) (hf:X.fn x=true∨X.env.scope.names.lookup x=some .local:=by first | exact .inl rfl | exact .inr rfl | assumption):PG X (.Name x pos) (J0 i):=by
 intro pins s σ H v u Q I r h
 exact wpAny_assign_Name (Zc3 I hN hi hx r (fun s' I'=>⟨_,H,I',h⟩) hf)
def Zqb:TGs:=fun vs σ H Q=>vs = []/\Q σ H
def ZpD (t:TG) (u:TGs):TGs:=fun vs σ H Q=>∃v r,vs=v::r/\t v σ H fun σ' H'=>u r σ' H' Q
theorem Yw:PGs X [] Zqb:=by
 intro pins s σ H vs us Q I r h
 obtain ⟨e,h⟩:=h
 subst e
 cases r
 exact assignInOrder_nil ⟨σ,H,I,h⟩
theorem Zw {e:Expr}{es:List Expr}{t:TG}{u:TGs} (h1:PG X e t) (h2:PGs X es u)
  (hs:(assignEach (e::es) X.env).map (·.2)=assign e X.env::(assignEach es X.env).map (·.2):=by rfl):PGs X (e::es) (ZpD t u):=by
 intro pins s σ H vs us Q I r h
 obtain ⟨v,vr,e1,h⟩:=h
 subst e1
 cases r with
 | cons r rr=>
  rw [hs]
  refine assignInOrder_cons (YG (h1 pins s σ H _ _ _ I r h) fun _ s1 ⟨σ1,H1,I1,q1⟩=>?_)
  exact h2 pins s1 σ1 H1 _ _ Q I1 rr q1
def ZoG (K:PySem.W.Frag) (n:Nat) (t:TGs):TG:=fun v σ H Q=>∃a xs,v = .ref a/\Uw K H a xs/\xs.length=n/\t xs σ H Q
theorem ZnB {es:List Expr}{k:Nat}{t:TGs}{n:Nat} (hc:X.calm=true) (h:PGs X es t)
  (hn:(assignEach es X.env).length=n:=by rfl) (hst:(assignEach es X.env).findIdx? (·.1)=none:=by rfl):PG X (.Tuple es k pos) (ZoG X.K n t):=by
 intro pins s σ H v u Q I r hw
 obtain ⟨a,xs,e1,hq,hl,hw⟩:=hw
 subst e1
 cases r
 obtain ⟨its,rv,ht,hz⟩:=I.tuple hq
 refine assign_Tuple_tuple (I.ok.hd hc) ht (by simp [hn,<- hl,rv.length]) hst fun h' hx=>?_
 have I1:Inv X pins σ H { s with heap:=h' }:=I.kept (t':=s.toks) fun b o e=>hx b o (Nat.ne_of_lt (Heap.lt_size e)) e
 exact h pins _ σ H xs _ Q I1 (by simpa using rv) hw
def Zql (to ti:TE) (t:Zn4):TG:=fun v σ H Q=>to σ H fun o H1=>ti σ H1 fun i H2=>t o i v H2 fun H3=>Q σ H3
theorem YJ {o i:Expr}{to ti:TE}{t:Zn4} (ho:PE X o to) (hi:PE X i ti) (hs:Zoy X t)
  (ha:∀v,assign (.Subscript o i pos) X.env v=(do
   let ov <- holding [v] (eval o X.env)
   let iv <- holding [v,ov] (eval i X.env)
   standAt pos
   holding [v,ov,iv] (setItem ov iv v)
   release [v,ov,iv] []):=by intro _;rfl):PG X (.Subscript o i pos) (Zql to ti t):=by
 intro pins s σ H v u Q I r h
 rw [ha]
 refine wpAny_bind (wpAny_holding (YG (ho pins s σ H _ I h) fun ov s1 ⟨x,H1,I1,r1,q1⟩=>?_))
 refine wpAny_bind (wpAny_holding (YG (hi pins s1 σ H1 _ I1 q1) fun iv s2 ⟨y,H2,I2,r2,q2⟩=>?_))
 refine wpAny_bind (wpAny_standAt (wpAny_bind (wpAny_holding (YG (hs pins s2 σ H2 x y v ov iv u _ I2 r1 r2 r q2) fun _ s3 ⟨H3,I3,q3⟩=>?_))))
 exact wpAny_release ⟨σ,H3,I3,q3⟩
def Zom (te:TE) (g:TG):TS:=fun D σ H=>te σ H fun x H1=>g x σ H1 D.nx
theorem Yl {tg e:Expr}{te:TE}{g:TG} (he:PE X e te) (hg:PG X tg g) (hs:swapsWithSole [tg] e pos.line X.env=pure false:=by rfl) (hw:swappedStores [tg] e X.env=pure none:=by rfl)
  (h1:(assignEach [tg] X.env).map (·.2) = [assign tg X.env]:=by rfl):PS X (.Assign [tg] e pos) (Zom te g):=by
 intro pins s σ H D I h
 refine wpAny_Assign_stores (YG (he pins s σ H _ I h) fun v s1 ⟨x,H1,I1,r1,q1⟩=>?_) hs hw
 rw [h1]
 exact YG (hg pins s1 σ H1 x v _ I1 r1 q1) fun _ s2 q=>q
theorem Zq {i:Nat}{x:Str}{e:Expr}{te:TE}{pos':Pos} (hN:X.N.Nodup) (hi:X.N[i]? = some x) (hx:Loc X.env.scope x) (he:PE X e te) (hs:swapsWith e (some (.Name x pos')) pos.line X.env=pure false:=by rfl) (hf:X.fn x=true∨X.env.scope.names.lookup x=some .local:=by first | exact .inl rfl | exact .inr rfl | assumption):
  PS X (.Assign [.Name x pos'] e pos) (Zom te (J0 i)):=by
 intro pins s σ H D I h
 refine wpAny_Assign_Name (YG (he pins s σ H _ I h) fun v s1 ⟨y,H1,I1,r1,q1⟩=>?_) hs
 exact Zc3 I1 hN hi hx r1 (fun s2 I2=>⟨_,H1,I2,q1⟩) hf
def Zqc (i:Nat) (te:TE) (ti:TIp):TS:=fun D σ H=>∃x,σ[i]? = some (some x)/\te σ H fun y H1=>ti x y H1 fun z H2=>D.nx (σ.set i (some z)) H2
theorem ZhJ {i:Nat}{x:Str}{e:Expr}{te:TE}{op:Operator}{ti:TIp}{pos':Pos} (hN:X.N.Nodup) (hi:X.N[i]? = some x) (hx:Loc X.env.scope x) (he:PE X e te) (ho:PIp X op ti) (hf:X.fn x=true∨X.env.scope.names.lookup x=some .local:=by first | exact .inl rfl | exact .inr rfl | assumption):
  PS X (.AugAssign (.Name x pos') op e pos) (Zqc i te ti):=by
 intro pins s σ H D I h
 obtain ⟨v,e1,h⟩:=h
 obtain ⟨m,hn,hl⟩:=I.loc
 have vis:Vis X.env.scope x:=by rcases hx with k | k;exact .inl k;exact .inr (.inl k)
 obtain ⟨u,r,l⟩:=hl i x v hi e1 vis
 refine wpAny_AugAssign_Name ?_
 have go:wpAny (model X.prog X.w) X.A (eval e X.env) (fun w s₂=>wpAny (model X.prog X.w) X.A (inplaceOp op u w) (fun r s₃=>wpAny (model X.prog X.w) X.A (storeName X.env x r) (fun _=>SP X pins D .next) X.xe s₃) X.xe s₂) X.xe s:=by
  refine YG (he pins s σ H _ I h) fun w s1 ⟨y,H1,I1,r1,q1⟩=>?_
  refine YG (ho pins s1 σ H1 v y u w _ I1 r r1 q1) fun z s2 ⟨zv,H2,I2,r2,q2⟩=>?_
  exact Zc3 I2 hN hi hx r2 (fun s3 I3=>⟨_,H2,I3,q2⟩) hf
 rcases l with ⟨hk,hm⟩ | ⟨hk,c,hc,hcell⟩
 ·exact wpAny_loadName_local I.ok.kind hk hn hm go
 ·rcases hk with hk | hk
  ·exact wpAny_loadName_cell I.ok.kind hk hc hcell go
  ·rcases hx with k | k
   ·have:X.env.scope.names.lookup x=some .free:=hk
    rw [k] at this;cases this
   ·have:X.env.scope.names.lookup x=some .free:=hk
    rw [k] at this;cases this
def ipI (f:Int->Int->Int):TIp:=fun x y H Q=>∃i j,x = .int i/\y = .int j/\Q (.int (f i j)) H
theorem Zlv:PIp X .Add (ipI fun i j=>i+j):=by
 intro pins s σ H x y v u Q I r1 r2 h
 obtain ⟨i,j,e1,e2,q⟩:=h
 subst e1;subst e2
 obtain ⟨t,rfl⟩:=r1
 obtain ⟨t',rfl⟩:=r2
 exact iadd_int ⟨.int _,H,I.tok _,⟨_,rfl⟩,q⟩
theorem ZnP:PIp X .Sub (ipI fun i j=>i-j):=by
 intro pins s σ H x y v u Q I r1 r2 h
 obtain ⟨i,j,e1,e2,q⟩:=h
 subst e1;subst e2
 obtain ⟨t,rfl⟩:=r1
 obtain ⟨t',rfl⟩:=r2
 exact isub_int ⟨.int _,H,I.tok _,⟨_,rfl⟩,q⟩
end
section
variable {X:Cx}{pos:Pos}
def ZkB (c:TT) (tb:TS):TS:=fun D σ H=>∃W:Nat->St->Hp->Prop,(∃m,W m σ H) /\ ∀m σ H,W m σ H ->
 c σ H fun b H1=>if b=true then ∃N:St->Hp->Prop,(∀ σ' H',N σ' H' -> ∃m',m'<m/\W m' σ' H')/\tb { D with nx:=N,ct:=N,bk:=D.nx } σ H1 else D.nx σ H1
theorem Zga {c:Expr}{body:List Stmt}{tc:TT}{tb:TS} (hp:PassesOwn (model X.prog X.w) X.A X.env X.xe) (hc:PT X c tc) (hb:PSs X body tb):PS X (.While c body [] pos) (ZkB tc tb):=by
 intro pins s σ H D I h
 obtain ⟨W,⟨m0,w0⟩,turn⟩:=h
 refine wpAny_While (codeAny_whileLoop (fun n s'=>∃ σ' H',Inv X pins σ' H' s'/\W n σ' H') ?_ m0 ⟨σ,H,I,w0⟩)
 rintro n s1 ⟨σ1,H1,I1,w1⟩
 refine wpAny_passesOwn hp (YG (hc pins s1 σ1 H1 _ I1 (turn n σ1 H1 w1)) fun b s2 ⟨H2,I2,q2⟩=>?_)
 cases b with
 | true=>
  obtain ⟨N,hN,q2⟩:=q2
  rw [if_pos rfl]
  refine wpAny_passesOwn hp (YG (hb pins s2 σ1 H2 _ I2 q2) fun f s3 q3=>?_)
  cases f with
  | next=>
   obtain ⟨σ3,H3,I3,n3⟩:=q3
   obtain ⟨m',hm,w3⟩:=hN σ3 H3 n3
   exact ⟨m',hm,σ3,H3,I3,w3⟩
  | cont=>
   obtain ⟨σ3,H3,I3,n3⟩:=q3
   obtain ⟨m',hm,w3⟩:=hN σ3 H3 n3
   exact ⟨m',hm,σ3,H3,I3,w3⟩
  | brk=>exact q3
  | ret v=>exact q3
 | false=>
  rw [if_neg Bool.false_ne_true]
  exact wpAny_execs_nil ⟨σ1,H2,I2,q2⟩
end
structure It where
 go:Nat->Hp->Prop
 yld:Nat->Hp->V->Hp->Prop
 stop:Nat->Hp->Prop
def ZdR (X:Cx) (pins:List (Addr×Obj)) (H:Hp) (b:Addr):Prop:=
 H b=none/\b≠X.env.locals/\b∉X.fs/\(b∈X.ex∨X.s₀.heap.objs.size<=b)/\(∀x c,X.env.cells.lookup x=some c->c≠b) /\ ∀p∈X.pn++pins,p.1≠b
theorem Inv.fpOk {X:Cx}{pins:List (Addr×Obj)} {σ:St}{H H':Hp}{s:Shared}{b:Addr} (I:Inv X pins σ H s) (hb:s.heap.objs.size<=b) (hn:H' b=none):ZdR X pins H' b:=by
 refine ⟨hn,Nat.ne_of_gt (Nat.lt_of_lt_of_le I.lt hb),I.nofs hb,.inr (Nat.le_trans I.sz hb),fun x c e z=>?_,fun p hp z=>?_⟩
 ·obtain ⟨v,q⟩:=I.cell x c e
  exact absurd (Nat.lt_of_lt_of_le q.lt (by rw [z];exact hb)) (Nat.lt_irrefl _)
 ·exact absurd (Nat.lt_of_lt_of_le (Heap.lt_size (I.pin p hp).1) (by rw [z];exact hb)) (Nat.lt_irrefl _)
structure Turn (P:Program) (w:World) (K:PySem.W.Frag) (tg:Expr) (J:It) (fp:List Addr) (it:Addr) (tn:Nat->Heap->Prop):Prop where
 mem:it∈fp
 obj:∀i h,tn i h -> ∀b∈fp,∃o,h.get? b=some o /\ ∀v,o.data ≠ .cell v
 keep:∀i h h',tn i h->(∀b∈fp,∀o,h.get? b=some o->h'.get? b=some o)->tn i h'
 item:∀(X:Cx),X.prog=P->X.w=w->X.K=K->X.calm=true -> ∀(i:Nat) (pins:List (Addr×Obj)) (s:Shared) (σ:St) (H:Hp) (E:Value->Shared->Prop),Inv X pins σ H s->(∀b∈fp,ZdR X pins H b)->tn i s.heap->J.go i H ->
  wpAny (model P w) X.A (pyNext (.ref it)) (fun r s1=>∃u,r=some u /\
   wpAny (model P w) X.A (letOwnedTupleGo tg (.ref it) u) (fun _ s2=>∃x H',Inv X pins σ H' s2/\RelV x u/\J.yld i H x H'/\tn (i+1) s2.heap /\ ∀b∈fp,H' b=none) E s1) E s
 done:∀(X:Cx),X.prog=P->X.w=w->X.K=K->X.calm=true -> ∀(i:Nat) (pins:List (Addr×Obj)) (s:Shared) (σ:St) (H:Hp) (E:Value->Shared->Prop),Inv X pins σ H s->(∀b∈fp,ZdR X pins H b)->tn i s.heap->J.stop i H ->
  wpAny (model P w) X.A (pyNext (.ref it)) (fun r s1=>r=none/\Inv X pins σ H s1) E s
 self:∀(A:Around) (i:Nat) (s:Shared) (Q:Value->Shared->Prop) (E:Value->Shared->Prop),tn i s.heap->Q (.ref it) s->wpAny (model P w) A (pyIter (.ref it)) Q E s
abbrev TI:=St->Hp->(It->Hp->Prop)->Prop
def PIE (X:Cx) (pins:List (Addr×Obj)) (σ:St) (tg:Expr) (R:It->Hp->Prop) (itv:Value) (s2:Shared):Prop:=
 ∃(it:Addr) (fp:List Addr) (tn:Nat->Heap->Prop) (J:It) (H':Hp),itv = .ref it/\Inv X pins σ H' s2/\Turn X.prog X.w X.K tg J fp it tn/\tn 0 s2.heap/\(∀b∈fp,ZdR X pins H' b)/\R J H'
def PI (X:Cx) (tg iter:Expr) (wi:TI):Prop:=
 ∀(pins:List (Addr×Obj)) (s:Shared) (σ:St) (H:Hp) (R:It->Hp->Prop),Inv X pins σ H s->wi σ H R ->
  wpAny (model X.prog X.w) X.A (eval iter X.env) (fun v s1=>wpAny (model X.prog X.w) X.A (pyIter v) (PIE X pins σ tg R) X.xe s1) X.xe s
theorem ZmY {M:Model}{A:Around}{E:Value->Shared->Prop}{s:Shared}{tg:Expr}{it:Addr}{u:Value}{o:Obj}{n:String}{vs:Array Value}{Q:Unit->Shared->Prop} (ho:s.heap.get? it=some o) (hc:o.cls = .type n) (hd:o.data = .fields vs)
    (hn:["enumerate", "zip", "dict_itemiterator", "dict_reverseitemiterator", "odict_iterator", "itertools.zip_longest", "itertools.pairwise"].contains n=false) (hQ:Q () s):wpAny M A (letOwnedTupleGo tg (.ref it) u) Q E s:=by
  unfold letOwnedTupleGo
  cases tg<;>first
    | exact wpAny_pure hQ
    | (cases u<;>first
        | exact wpAny_pure hQ
        | (refine wpAny_bind (wpAny_load ho ?_)
           rw [hc,hd]
           show wpAny M A (if (["enumerate", "zip", "dict_itemiterator", "dict_reverseitemiterator", "odict_iterator", "itertools.zip_longest", "itertools.pairwise"].contains n&&vs[0]? == some (rawInt _))=true then _ else _) Q E s
           rw [if_neg (by intro h;rw [hn,Bool.false_and] at h;cases h)]
           exact wpAny_pure hQ))
def Itl (K:PySem.W.Frag) (a:Addr):It:=
 ⟨fun i H=>∃xs x,Zo K H a xs/\xs[i]? = some x,fun i H x H'=>H'=H /\ ∀xs,Zo K H a xs->xs[i]? = some x,fun i H=>∃xs,Zo K H a xs/\xs.length<=i⟩
def Itr (lo:Int) (n:Nat):It:=⟨fun i _=>i<n,fun i H x H'=>H'=H/\x = .int (lo+i),fun i _=>n<=i⟩
theorem Zje {P:Program}{w:World}{K:PySem.W.Frag}{tg:Expr} (a it:Addr):Turn P w K tg (Itl K a) [it] it (fun i h=>h.IsListIter it a i) where
 mem:=by simp
 obj:=fun i h st b hb=>by
  have e:b=it:=by simpa using hb
  subst e
  obtain ⟨o,e,c,d⟩:=st
  exact ⟨o,e,fun v z=>by rw [d] at z;cases z⟩
 keep:=fun i h h' st k=>st.at fun o e=>k it (by simp) o e
 item:=by
  intro X hP hw hK hc i pins s σ H E I hf st hg
  subst hP hw hK
  obtain ⟨xs,x,hq,hx⟩:=hg
  obtain ⟨its,rv,p,hz⟩:=I.list hq
  obtain ⟨u,hu,ru⟩:=rv.get hx
  obtain ⟨f0,f1,f2,f3,f4,f5⟩:=hf it (by simp)
  refine wpAny_pyNext_list_item st p.isList (x:=u) (by simpa using hu) fun h' st' sb=>?_
  have I1:Inv X pins σ H { s with heap:=h' }:=I.turned (t':=s.toks) (fun b o hb e=>(sb.2 b hb).trans e) f0 f1 f3 f4 f5
  obtain ⟨o,e,c,d⟩:=id st'
  exact ⟨u,rfl,ZmY (s:={ s with heap:=h' }) e c d (by decide) ⟨x,H,I1,ru,⟨rfl,fun ys hy=>by rw [I.list_inj hy hq];exact hx⟩,st',fun b hb=>(hf b hb).1⟩⟩
 done:=by
  intro X hP hw hK hc i pins s σ H E I hf st hg
  subst hP hw hK
  obtain ⟨xs,hq,hx⟩:=hg
  obtain ⟨its,rv,p,hz⟩:=I.list hq
  obtain ⟨f0,f1,f2,f3,f4,f5⟩:=hf it (by simp)
  have hl:=rv.length
  exact wpAny_pyNext_list_end (I.ok.hd hc) st p.isList (by simp;lia) fun h' eb=>⟨rfl,I.turned (t':=s.toks) (fun b o hb e=>eb b o hb e) f0 f1 f3 f4 f5⟩
 self:=fun _ _ _ _ _ st h=>wpAny_pyIter_listiter st h
theorem ZgT {P:Program}{w:World}{K:PySem.W.Frag}{tg:Expr} (it:Addr) (lo:Int) (n:Nat):Turn P w K tg (Itr lo n) [it] it (fun i h=>IsRangeIter h it (lo+(i:Nat)*1) ((n:Int)-(i:Nat)) 1) where
 mem:=by simp
 obj:=fun i h st b hb=>by
  have e:b=it:=by simpa using hb
  subst e
  exact ⟨_,st,fun v z=>by
   have z':Data.fields _=Data.cell v:=z
   cases z'⟩
 keep:=fun i h h' st k=>k it (by simp) _ st
 item:=by
  intro X hP hw hK hc i pins s σ H E I hf st hg
  subst hP hw hK
  obtain ⟨f0,f1,f2,f3,f4,f5⟩:=hf it (by simp)
  have W:=Walks.range (prog:=X.prog) (w:=X.w) (I.ok.hd hc) it lo 1 n
  refine W.item i s _ _ hg st fun v h' tk hv st' kk=>?_
  obtain ⟨t,rfl⟩:=hv
  have I1:Inv X pins σ H { s with heap:=h',toks:=tk }:=I.turned (fun b o hb e=>kk b o (by simpa using hb) e) f0 f1 f3 f4 f5
  refine ⟨_,rfl,ZmY (s:={ s with heap:=h',toks:=tk }) (n := "range_iterator") st' rfl rfl (by decide) ⟨.int (lo+i),H,I1,⟨t,?_⟩,⟨rfl,rfl⟩,st',fun b hb=>(hf b hb).1⟩⟩
  rw [Int.mul_one]
 done:=by
  intro X hP hw hK hc i pins s σ H E I hf st hg
  subst hP hw hK
  obtain ⟨f0,f1,f2,f3,f4,f5⟩:=hf it (by simp)
  exact wpAny_pyNext_range_end (I.ok.hd hc) st (by have:n<=i:=hg;lia) fun h' eb=>⟨rfl,I.turned (t':=s.toks) (fun b o hb e=>eb b o hb e) f0 f1 f3 f4 f5⟩
 self:=fun _ _ _ _ _ st h=>wpAny_pyIter_rangeiter st h
section
variable {X:Cx}{tg:Expr}
def ZmW (K:PySem.W.Frag) (tl:TE):TI:=fun σ H R=>tl σ H fun x H1=>∃a,x = .ref a/\(∃xs,Zo K H1 a xs)/\R (Itl K a) H1
theorem Zl3 {l:Expr}{tl:TE} (hl:PE X l tl):PI X tg l (ZmW X.K tl):=by
 intro pins s σ H R I h
 refine YG (hl pins s σ H _ I h) fun v s1 ⟨x,H1,I1,r1,q1⟩=>?_
 obtain ⟨a,e,⟨xs,hq⟩,q⟩:=q1
 subst e
 cases r1
 obtain ⟨its,rv,p,hz⟩:=I1.list hq
 refine wpAny_pyIter_list p.isList ?_
 refine ⟨s1.heap.objs.size,[s1.heap.objs.size],_,_,H1,rfl,I1.kept (t':=s1.toks) fun b o e=>Heap.get?_push_of_some _ e,Zje a _,⟨_,Heap.get?_push_size _ rfl,rfl,rfl⟩,fun b hb=>?_,q⟩
 have e:b=s1.heap.objs.size:=by simpa using hb
 subst e
 exact I1.fpOk (Nat.le_refl _) (I1.hok.fresh (Nat.le_refl _))
theorem ZfP {pins:List (Addr×Obj)} {σ:St}{H:Hp}{s:Shared}{R:It->Hp->Prop}{E:Value->Shared->Prop}{lo hi:Int}{t u v:Tok}{tk:Nat} (I:Inv X pins σ H s) (h1 : -(2 ^ 62)<=lo) (h2:lo<2 ^ 62) (h3 : -(2 ^ 62)<=hi) (h4:hi<2 ^ 62)
  (q:R (Itr lo (hi-lo).toNat) H):wpAny (model X.prog X.w) X.A (pyIter (.ref s.heap.objs.size)) (PIE X pins σ tg R) E { s with heap:=s.heap.push { cls:=.type "range", data:=.fields #[.int lo t,.int hi u,.int 1 v] },toks:=tk }:=by
 refine wpAny_pyIter_range (IsRange.new ..) (small_one h1 h2 h3 h4) ?_
 have I1:Inv X pins σ H { s with heap:=s.heap.push { cls:=.type "range", data:=.fields #[.int lo t,.int hi u,.int 1 v] },toks:=tk }:=I.kept fun b o e=>Heap.get?_push_of_some _ e
 refine ⟨(s.heap.push { cls:=.type "range", data:=.fields #[.int lo t,.int hi u,.int 1 v] }).objs.size,[(s.heap.push { cls:=.type "range", data:=.fields #[.int lo t,.int hi u,.int 1 v] }).objs.size],_,_,H,rfl,
  I1.kept (t':=tk) fun b o e=>Heap.get?_push_of_some _ e,ZgT _ lo (hi-lo).toNat,?_,fun b hb=>?_,q⟩
 ·have e1:lo+((0:Nat):Int)*1=lo:=by simp
  have e2:(((hi-lo).toNat:Nat):Int)-((0:Nat):Int)=Builtin.Range.rangeSize lo hi 1:=by rw [rangeSize_one];split<;>lia
  show IsRangeIter _ _ (lo+((0:Nat):Int)*1) ((((hi-lo).toNat:Nat):Int)-((0:Nat):Int)) 1
  rw [e1,e2]
  exact Heap.get?_push_size _ rfl
 ·have e:b=(s.heap.push { cls:=.type "range", data:=.fields #[.int lo t,.int hi u,.int 1 v] }).objs.size:=by simpa using hb
  subst e
  exact I1.fpOk (Nat.le_refl _) (I1.hok.fresh (Nat.le_refl _))
def ZpB (ta:TA):TI:=fun σ H R=>ta σ H fun vs H1=>∃j:Int,vs = [.int j] /\ -(2 ^ 62)<=j/\j<2 ^ 62/\R (Itr 0 j.toNat) H1
def ZoX (ta:TA):TI:=fun σ H R=>ta σ H fun vs H1=>∃i j:Int,vs = [.int i,.int j]/\(-(2 ^ 62)<=i/\i<2 ^ 62 /\ -(2 ^ 62)<=j/\j<2 ^ 62)/\R (Itr i (j-i).toNat) H1
theorem Yj {a:Expr}{ta:TA}{p pos:Pos} (hg:Gl X "range") (hm:X.mg "range" = none) (ha:PA X [a] ta) (hs:starEach [a] X.env = [(false,eval a X.env)]:=by rfl):PI X tg (.Call (.Name "range" p) [a] [] pos) (ZpB ta):=by
 intro pins s σ H R I h
 refine Call_ (ZbW I hg hm boot_range (PyProof.Rows.callWith_type1 (YG (ha pos pins s σ H _ I h) fun us s1 ⟨vs,H1,I1,r1,q1⟩=>?_) hs rfl))
 obtain ⟨j,e,q1,q2,q⟩:=q1
 subst e
 cases r1 with
 | cons r rr=>
  cases rr
  obtain ⟨t,rfl⟩:=r
  exact call_range_1 (ZfP I1 (by lia) (by lia) q1 q2 (by simpa using q))
theorem Zew {a b:Expr}{ta:TA}{p pos:Pos} (hg:Gl X "range") (hm:X.mg "range" = none) (ha:PA X [a,b] ta) (hs:starEach [a,b] X.env = [(false,eval a X.env),(false,eval b X.env)]:=by rfl) (hs2:starEach [b] X.env = [(false,eval b X.env)]:=by rfl):
  PI X tg (.Call (.Name "range" p) [a,b] [] pos) (ZoX ta):=by
 intro pins s σ H R I h
 refine Call_ (ZbW I hg hm boot_range (PyProof.Rows.callWith_type1 (YG (ha pos pins s σ H _ I h) fun us s1 ⟨vs,H1,I1,r1,q1⟩=>?_) (by rw [hs,hs2]) (by rw [hs2];rfl)))
 obtain ⟨i,j,e,⟨q1,q2,q3,q4⟩,q⟩:=q1
 subst e
 cases r1 with
 | cons r rr=>
  cases rr with
  | cons r' rr=>
   cases rr
   obtain ⟨t,rfl⟩:=r
   obtain ⟨t',rfl⟩:=r'
   exact call_range_2 (ZfP I1 q1 q2 q3 q4 q)
def Zp3 (wi:TI) (g:TG) (tb:TS):TS:=fun D σ H=>wi σ H fun J H1=>∃W:Nat->Nat->St->Hp->Prop,(∃m,W 0 m σ H1) /\ ∀i m σ H,W i m σ H ->
 (J.stop i H/\D.nx σ H)∨(J.go i H /\ ∃N:St->Hp->Prop,(∀ σ' H',N σ' H' -> ∃m',m'<m/\W (i+1) m' σ' H') /\ ∀x H',J.yld i H x H'->g x σ H' fun σ2 H2=>tb { D with nx:=N,ct:=N,bk:=D.nx } σ2 H2)
def Zdx (fp:List Addr) (h:Heap):List (Addr×Obj):=fp.filterMap fun b=>(h.get? b).map fun o=>(b,o)
theorem Ua {fp:List Addr}{h:Heap}{b:Addr}{o:Obj} (hb:b∈fp) (e:h.get? b=some o):(b,o)∈Zdx fp h:=List.mem_filterMap.mpr ⟨b,hb,by rw [e];rfl⟩
theorem Zjm {fp:List Addr}{h:Heap}{p:Addr×Obj} (hp:p∈Zdx fp h):p.1∈fp/\h.get? p.1=some p.2:=by
 obtain ⟨b,hb,e⟩:=List.mem_filterMap.mp hp
 cases q:h.get? b with
 | none=>rw [q] at e;cases e
 | some o=>
  rw [q] at e
  have e':(b,o)=p:=Option.some.inj e
  subst e'
  exact ⟨hb,q⟩
theorem Inv.pinned {pins:List (Addr×Obj)} {σ:St}{H:Hp}{s:Shared}{fp:List Addr} (I:Inv X pins σ H s) (hf:∀b∈fp,ZdR X pins H b) (ho:∀b∈fp,∃o,s.heap.get? b=some o /\ ∀v,o.data ≠ .cell v):Inv X (pins++Zdx fp s.heap) σ H s:=
 I.pins_of fun p hp=>(List.mem_append.mp hp).elim (fun z=>I.pin p (List.mem_append_right _ z)) fun z=>by
  obtain ⟨hb,e⟩:=Zjm z
  obtain ⟨f0,f1,f2,_⟩:=hf p.1 hb
  obtain ⟨o,e',d⟩:=ho p.1 hb
  rw [e] at e';cases e'
  exact ⟨e,f0,f1,f2,d⟩
theorem Inv.unpinned {pins pl:List (Addr×Obj)} {σ:St}{H:Hp}{s:Shared} (I:Inv X (pins++pl) σ H s):Inv X pins σ H s:=I.pins_of fun p hp=>I.pin p (List.mem_append_right _ (List.mem_append_left _ hp))
theorem ZZ {iter:Expr}{body:List Stmt}{wi:TI}{g:TG}{tb:TS}{pos:Pos} (hp:PassesOwn (model X.prog X.w) X.A X.env X.xe) (hc:X.calm=true) (hi:PI X tg iter wi) (hg:PG X tg g) (hb:PSs X body tb)
  (hs:∀x,foldedSetIterable iter X.env x=pure x:=by intro _;rfl):PS X (.For tg iter body [] pos) (Zp3 wi g tb):=by
 intro pins s σ H D I h
 refine wpAny_For (YG (hi pins s σ H _ I h) fun v s1 h1=>YG h1 fun itv s2 h2=>?_) hs
 obtain ⟨it,fp,tn,J,H2,e,I2,T,st2,f2,W,⟨m0,w0⟩,turn⟩:=h2
 subst e
 have stat:∀{H':Hp},(∀b∈fp,H' b=none) -> ∀b∈fp,ZdR X pins H' b:=fun hn b hb=>⟨hn b hb,(f2 b hb).2⟩
 refine codeAny_forLoop_any (fun n s'=>∃i σ' H',Inv X pins σ' H' s'/\tn i s'.heap/\(∀b∈fp,H' b=none)/\W i n σ' H') ?_ m0 ⟨0,σ,H2,I2,st2,fun b hb=>(f2 b hb).1,w0⟩
 rintro n s3 ⟨i,σ3,H3,I3,st3,fr3,w3⟩
 rcases turn i n σ3 H3 w3 with ⟨stop,qn⟩ | ⟨go,N,hN,step⟩
 ·refine wpAny_passesOwn hp (YG (T.done X rfl rfl rfl hc i pins s3 σ3 H3 X.xe I3 (stat fr3) st3 stop) fun r s4 ⟨hr,I4⟩=>?_)
  subst hr
  exact wpAny_execs_nil ⟨σ3,H3,I4,qn⟩
 ·refine wpAny_passesOwn hp (YG (T.item X rfl rfl rfl hc i pins s3 σ3 H3 X.xe I3 (stat fr3) st3 go) fun r s4 ⟨u,hr,h4⟩=>?_)
  subst hr
  refine wpAny_passesOwn hp (YG h4 fun _ s5 ⟨x,H5,I5,r5,y5,st5,fr5⟩=>?_)
  have I5':=I5.pinned (stat fr5) (T.obj _ _ st5)
  refine wpAny_passesOwn hp (YG (hg _ s5 σ3 H5 x u _ I5' r5 (step x H5 y5)) fun _ s6 ⟨σ6,H6,I6,q6⟩=>?_)
  refine wpAny_passesOwn hp (YG (hb _ s6 σ6 H6 _ I6 q6) fun f s7 q7=>?_)
  have again:∀{σ7:St}{H7:Hp},Inv X (pins++Zdx fp s5.heap) σ7 H7 s7->N σ7 H7 -> ∃m,m<n /\ ∃i σ' H',Inv X pins σ' H' s7/\tn i s7.heap/\(∀b∈fp,H' b=none)/\W i m σ' H':=fun {σ7 H7} I7 n7=>by
   obtain ⟨m',hm,w7⟩:=hN σ7 H7 n7
   refine ⟨m',hm,i+1,σ7,H7,I7.unpinned,T.keep _ _ _ st5 fun b hb o e=>(I7.pin (b,o) (List.mem_append_right _ (List.mem_append_right _ (Ua hb e)))).1,fun b hb=>?_,w7⟩
   obtain ⟨o,e,d⟩:=T.obj _ _ st5 b hb
   exact (I7.pin (b,o) (List.mem_append_right _ (List.mem_append_right _ (Ua hb e)))).2.1
  cases f with
  | next=>obtain ⟨σ7,H7,I7,n7⟩:=q7;exact again I7 n7
  | cont=>obtain ⟨σ7,H7,I7,n7⟩:=q7;exact again I7 n7
  | brk=>obtain ⟨σ7,H7,I7,q7⟩:=q7;exact ⟨σ7,H7,I7.unpinned,q7⟩
  | ret v=>obtain ⟨x7,σ7,H7,I7,r7,q7⟩:=q7;exact ⟨x7,σ7,H7,I7.unpinned,r7,q7⟩
end
theorem Ye {K:PySem.W.Frag}{a:Addr}{xs:List V}{g:TG}{tb:TS}{D:Ends} {σ:St}{H:Hp} (Pv:Nat->St->Hp->Prop) (h0:Pv 0 σ H) (hl:∀i σ H,i<=xs.length->Pv i σ H->Zo K H a xs)
  (hs:∀i x σ H,xs[i]? = some x->Pv i σ H->g x σ H fun σ2 H2=>tb { D with nx:=Pv (i+1),ct:=Pv (i+1),bk:=D.nx } σ2 H2) (hd:∀ σ H,Pv xs.length σ H->D.nx σ H):
  ∃W:Nat->Nat->St->Hp->Prop,(∃m,W 0 m σ H) /\ ∀i m σ H,W i m σ H ->
   ((Itl K a).stop i H/\D.nx σ H)∨((Itl K a).go i H /\ ∃N:St->Hp->Prop,(∀ σ' H',N σ' H' -> ∃m',m'<m/\W (i+1) m' σ' H') /\ ∀x H',(Itl K a).yld i H x H'->g x σ H' fun σ2 H2=>tb { D with nx:=N,ct:=N,bk:=D.nx } σ2 H2):=by
 refine ⟨fun i m σ H=>m=xs.length-i/\i<=xs.length/\Pv i σ H,⟨xs.length,by simp,Nat.zero_le _,h0⟩,?_⟩
 rintro i m σ H ⟨rfl,hi,p⟩
 have q:=hl i σ H hi p
 by_cases hlt:i<xs.length
 ·refine .inr ⟨⟨xs,xs[i],q,by simp [hlt]⟩,Pv (i+1),fun σ' H' p'=>⟨xs.length-(i+1),by lia,rfl,hlt,p'⟩,fun x H' y=>?_⟩
  obtain ⟨e,y⟩:=y
  subst e
  exact hs i x σ _ (y xs q) p
 ·have e:i=xs.length:=by lia
  subst e
  exact .inl ⟨⟨xs,q,Nat.le_refl _⟩,hd σ H p⟩
theorem YR {lo:Int}{n:Nat}{g:TG}{tb:TS}{D:Ends} {σ:St}{H:Hp} (Pv:Nat->St->Hp->Prop) (h0:Pv 0 σ H)
  (hs:∀i σ H,i<n->Pv i σ H->g (.int (lo+i)) σ H fun σ2 H2=>tb { D with nx:=Pv (i+1),ct:=Pv (i+1),bk:=D.nx } σ2 H2) (hd:∀ σ H,Pv n σ H->D.nx σ H):
  ∃W:Nat->Nat->St->Hp->Prop,(∃m,W 0 m σ H) /\ ∀i m σ H,W i m σ H ->
   ((Itr lo n).stop i H/\D.nx σ H)∨((Itr lo n).go i H /\ ∃N:St->Hp->Prop,(∀ σ' H',N σ' H' -> ∃m',m'<m/\W (i+1) m' σ' H') /\ ∀x H',(Itr lo n).yld i H x H'->g x σ H' fun σ2 H2=>tb { D with nx:=N,ct:=N,bk:=D.nx } σ2 H2):=by
 refine ⟨fun i m σ H=>m=n-i/\i<=n/\Pv i σ H,⟨n,by simp,Nat.zero_le _,h0⟩,?_⟩
 rintro i m σ H ⟨rfl,hi,p⟩
 by_cases hlt:i<n
 ·refine .inr ⟨hlt,Pv (i+1),fun σ' H' p'=>⟨n-(i+1),by lia,rfl,hlt,p'⟩,fun x H' y=>?_⟩
  obtain ⟨e,y⟩:=y
  subst e y
  exact hs i σ _ hlt p
 ·have e:i=n:=by lia
  subst e
  exact .inl ⟨Nat.le_refl _,hd σ H p⟩
theorem ZjD {c:TT}{tb:TS}{D:Ends} {σ:St}{H:Hp} (Pv:St->Hp->Prop) (μ:St->Hp->Nat) (h0:Pv σ H)
  (hs:∀ σ H,Pv σ H->c σ H fun b H1=>if b=true then tb { D with nx:=fun σ' H'=>Pv σ' H' /\ μ σ' H' < μ σ H,ct:=fun σ' H'=>Pv σ' H' /\ μ σ' H' < μ σ H,bk:=D.nx } σ H1 else D.nx σ H1)
  (mono:∀ σ H Q Q',(∀b H1,Q b H1->Q' b H1)->c σ H Q->c σ H Q'):ZkB c tb D σ H:=by
 refine ⟨fun m σ H=>m = μ σ H/\Pv σ H,⟨_,rfl,h0⟩,?_⟩
 rintro m σ H ⟨rfl,p⟩
 refine mono σ H _ _ (fun b H1 q=>?_) (hs σ H p)
 cases b with
 | true=>exact ⟨_,fun σ' H' ⟨p',l⟩=>⟨_,l,rfl,p'⟩,q⟩
 | false=>exact q
abbrev R2:=V->V->Hp->VK->Prop
def OpR (X:Cx) (f:Value->Value->Sem Value) (r:R2):Prop:=
 ∀(pins:List (Addr×Obj)) (s:Shared) (σ:St) (H:Hp) (x y:V) (v u:Value) (Q:VK),Inv X pins σ H s->RelV x v->RelV y u->r x y H Q ->
  wpAny (model X.prog X.w) X.A (f v u) (EP X pins σ Q) X.xe s
def UnR (X:Cx) (f:Value->Sem Value) (r:V->Hp->VK->Prop):Prop:=
 ∀(pins:List (Addr×Obj)) (s:Shared) (σ:St) (H:Hp) (x:V) (v:Value) (Q:VK),Inv X pins σ H s->RelV x v->r x H Q ->
  wpAny (model X.prog X.w) X.A (f v) (EP X pins σ Q) X.xe s
def WV (X:Cx) (f:Value) (r:List V->Hp->VK->Prop):Prop:=
 ∀(pins:List (Addr×Obj)) (s:Shared) (σ:St) (H:Hp) (xs:List V) (us:List Value) (Q:VK),Inv X pins σ H s->Vals xs us->r xs H Q ->
  wpAny (model X.prog X.w) X.A (call f us) (EP X pins σ Q) X.xe s
def ZpV (X:Cx) (r:V->Hp->(Bool->Hp->Prop)->Prop):Prop:=
 ∀(pins:List (Addr×Obj)) (s:Shared) (σ:St) (H:Hp) (x:V) (v:Value) (Q:Bool->Hp->Prop),Inv X pins σ H s->RelV x v->r x H Q ->
  wpAny (model X.prog X.w) X.A (truthy v) (TP X pins σ Q) X.xe s
def tOp (r:R2) (ta tb:TE):TE:=fun σ H Q=>ta σ H fun x H1=>tb σ H1 fun y H2=>r x y H2 Q
def tUn (r:V->Hp->VK->Prop) (ta:TE):TE:=fun σ H Q=>ta σ H fun x H1=>r x H1 Q
def rI (C:Int->Int->Prop) (g:Int->Int->V):R2:=fun x y H Q=>∃i j,x = .int i/\y = .int j/\C i j/\Q (g i j) H
def rI0 (g:Int->Int->V):R2:=fun x y H Q=>∃i j,x = .int i/\y = .int j/\Q (g i j) H
def rU (g:Int->V):V->Hp->VK->Prop:=fun x H Q=>∃i,x = .int i/\Q (g i) H
section
variable {X:Cx}{a b c:Expr}{ta tb tc:TE}{pos:Pos}
theorem Zne (ha:PE X a ta) (hb:PE X b tb) {pins:List (Addr×Obj)}{s:Shared} {σ:St}{H:Hp}{R:V->V->Hp->Prop} (I:Inv X pins σ H s)
  (h:ta σ H fun x H1=>tb σ H1 fun y H2=>R x y H2) {Q:Value->Shared->Prop}{f:Value->Value->Sem Value}
  (hf:∀v u s2 x y H2,Inv X pins σ H2 s2->RelV x v->RelV y u->R x y H2->wpAny (model X.prog X.w) X.A (f v u) Q X.xe s2):
  wpAny (model X.prog X.w) X.A (eval a X.env) (fun v s₁=>wpAny (model X.prog X.w) X.A (eval b X.env) (fun u s₂=>wpAny (model X.prog X.w) X.A (f v u) Q X.xe s₂) X.xe s₁) X.xe s:=by
 refine YG (ha pins s σ H _ I h) fun v s1 ⟨x,H1,I1,r1,q1⟩=>?_
 refine YG (hb pins s1 σ H1 _ I1 q1) fun u s2 ⟨y,H2,I2,r2,q2⟩=>?_
 exact hf v u s2 x y H2 I2 r1 r2 q2
theorem Zn {op:Operator}{r:R2} (ho:OpR X (binaryOp op) r) (ha:PE X a ta) (hb:PE X b tb):PE X (.BinOp a op b pos) (tOp r ta tb):=by
 intro pins s σ H Q I h
 exact wpAny_BinOp (Zne ha hb I h fun v u s2 x y H2 I2 rx ry q=>ho pins s2 σ H2 x y v u Q I2 rx ry q)
theorem ZaC {op:UnaryOp}{r:V->Hp->VK->Prop} (ho:UnR X (unaryOp op) r) (ha:PE X a ta):PE X (.UnaryOp op a pos) (tUn r ta):=by
 intro pins s σ H Q I h
 exact UnaryOp_ (YG (ha pins s σ H _ I h) fun v s1 ⟨x,H1,I1,r1,q1⟩=>ho pins s1 σ H1 x v Q I1 r1 q1)
theorem opI {f:Value->Value->Sem Value}{C:Int->Int->Prop}{g:Int->Int->Int}
  (rule:∀(i j:Int) (t u:Tok) (s:Shared) (Q:Value->Shared->Prop) (E:Value->Shared->Prop),C i j->Q (.int (g i j) s.toks) { s with toks:=s.toks+1 } -> wpAny (model X.prog X.w) X.A (f (.int i t) (.int j u)) Q E s):
  OpR X f (rI C fun i j=>.int (g i j)):=by
 intro pins s σ H x y v u Q I rx ry h
 obtain ⟨i,j,rfl,rfl,hc,q⟩:=h
 obtain ⟨t,rfl⟩:=rx
 obtain ⟨t',rfl⟩:=ry
 exact rule i j t t' s _ _ hc ⟨.int (g i j),H,I.tok _,⟨_,rfl⟩,q⟩
theorem Zl4 {f:Value->Value->Sem Value}{g:Int->Int->Int}
  (rule:∀(i j:Int) (t u:Tok) (s:Shared) (Q:Value->Shared->Prop) (E:Value->Shared->Prop),Q (.int (g i j) s.toks) { s with toks:=s.toks+1 } -> wpAny (model X.prog X.w) X.A (f (.int i t) (.int j u)) Q E s):
  OpR X f (rI0 fun i j=>.int (g i j)):=by
 intro pins s σ H x y v u Q I rx ry h
 obtain ⟨i,j,rfl,rfl,q⟩:=h
 obtain ⟨t,rfl⟩:=rx
 obtain ⟨t',rfl⟩:=ry
 exact rule i j t t' s _ _ ⟨.int (g i j),H,I.tok _,⟨_,rfl⟩,q⟩
theorem Znu {f:Value->Value->Sem Value}{g:Int->Int->Bool}
  (rule:∀(i j:Int) (t u:Tok) (s:Shared) (Q:Value->Shared->Prop) (E:Value->Shared->Prop),Q (.bool (g i j)) s->wpAny (model X.prog X.w) X.A (f (.int i t) (.int j u)) Q E s):
  OpR X f (rI0 fun i j=>.bl (g i j)):=by
 intro pins s σ H x y v u Q I rx ry h
 obtain ⟨i,j,rfl,rfl,q⟩:=h
 obtain ⟨t,rfl⟩:=rx
 obtain ⟨t',rfl⟩:=ry
 exact rule i j t t' s _ _ ⟨.bl (g i j),H,I,rfl,q⟩
def ZpU (i j:Int):Prop:=0<j/\j<1073741824
def Zqr (i j:Int):Prop:=0<=j/\j<=1000000/\i.natAbs<2 ^ 64
def Zny (i j:Int):Prop:=(-(2 ^ 64)<i/\i<2 ^ 64)∨(-(2 ^ 64)<j/\j<2 ^ 64)
theorem Zny.ok {i j:Int} (h:Zny i j):IntMulOk i j:=by
 rcases h with ⟨h1,h2⟩ | ⟨h1,h2⟩
 ·exact .of_left (intBits_le_64 h1 h2)
 ·exact .of_right (intBits_le_64 h1 h2)
theorem ZN:OpR X (binaryOp .Add) (rI0 fun i j=>.int (i+j)):=Zl4 fun _ _ _ _ _ _ _ q=>add_int q
theorem YE:OpR X (binaryOp .Sub) (rI0 fun i j=>.int (i-j)):=Zl4 fun _ _ _ _ _ _ _ q=>sub_int q
theorem Wd:OpR X (binaryOp .Mult) (rI Zny fun i j=>.int (i*j)):=opI fun _ _ _ _ _ _ _ hc q=>mul_int q hc.ok
theorem ZcH:OpR X (binaryOp .FloorDiv) (rI ZpU fun i j=>.int (i / j)):=opI fun i j _ _ _ _ _ hc q=>by
 have h1:(0:Int)<j:=hc.1
 have h2:j<1073741824:=hc.2
 exact floordiv_int (by lia) (by rw [Int.fdiv_eq_ediv_of_nonneg i (by lia)];exact q) (.inl (PyProof.noPylong_small (by lia)))
theorem UY:OpR X (binaryOp .Mod) (rI (fun _ j=>0<j) fun i j=>.int (i % j)):=opI fun i j _ _ _ _ _ hc q=>by
 have h1:(0:Int)<j:=hc
 exact mod_int' (by lia) (by rw [Int.fmod_eq_emod_of_nonneg i (by lia)];exact q)
theorem ZgY:OpR X (binaryOp .Pow) (rI Zqr fun i j=>.int (i ^ j.toNat)):=opI fun _ _ _ _ _ _ _ hc q=>pow_int_small hc.1 hc.2.1 hc.2.2 q
theorem Zog:OpR X (binaryOp .BitAnd) (rI0 fun i j=>.int (Builtin.bitAnd i j)):=Zl4 fun _ _ _ _ _ _ _ q=>and_int q
theorem ZnC:OpR X (binaryOp .BitXor) (rI0 fun i j=>.int (Builtin.bitXor i j)):=Zl4 fun _ _ _ _ _ _ _ q=>xor_int q
theorem unI {f:Value->Sem Value}{g:Int->Int}
  (rule:∀(i:Int) (t:Tok) (s:Shared) (Q:Value->Shared->Prop) (E:Value->Shared->Prop),Q (.int (g i) s.toks) { s with toks:=s.toks+1 } -> wpAny (model X.prog X.w) X.A (f (.int i t)) Q E s):
  UnR X f (rU fun i=>.int (g i)):=by
 intro pins s σ H x v Q I rx h
 obtain ⟨i,rfl,q⟩:=h
 obtain ⟨t,rfl⟩:=rx
 exact rule i t s _ _ ⟨.int (g i),H,I.tok _,⟨_,rfl⟩,q⟩
theorem Gp:UnR X (unaryOp .USub) (rU fun i=>.int (-i)):=unI fun _ _ _ _ _ q=>neg_int q
end
def Zo1:V->V->Bool
 | .non,.non=>true | .non,.int _=>true | .int _,.non=>true | .non,.bl _=>true | .bl _,.non=>true | .non,.str _=>true | .str _,.non=>true
 | .int _,.int _=>true | .bl _,.bl _=>true | .str _,.str _=>true | .byt _,.byt _=>true
 | .int _,.str _=>true | .str _,.int _=>true | .bl _,.str _=>true | .str _,.bl _=>true
 | _,_=>false
def rEq:R2:=fun x y H Q=>Zo1 x y=true/\Q (.bl (decide (x=y))) H
def rNe:R2:=fun x y H Q=>Zo1 x y=true/\Q (.bl (!decide (x=y))) H
theorem Zio {i j:Int}:decide (V.int i=V.int j)=(i==j):=by
 rw [Bool.eq_iff_iff]
 simp
theorem Zk7 {i j:Bool}:decide (V.bl i=V.bl j)=(i==j):=by
 rw [Bool.eq_iff_iff]
 simp
theorem ZiJ {i j:Str}:decide (V.str i=V.str j)=(i==j):=by
 rw [Bool.eq_iff_iff]
 simp
theorem ZhV {i j:Array UInt8}:decide (V.byt i=V.byt j)=(i.toList==j.toList):=by
 rw [Bool.eq_iff_iff]
 cases i
 cases j
 simp
section
variable {X:Cx}{a b c:Expr}{ta tb tc:TE}{pos:Pos}
theorem Z1 {pins:List (Addr×Obj)} {σ:St}{H:Hp}{s:Shared}{Q:VK}{k k':Bool} (I:Inv X pins σ H s) (q:Q (.bl k) H) (e:k=k'):EP X pins σ Q (.bool k') s:=by
 subst e
 exact ⟨.bl k,H,I,rfl,q⟩
theorem J1:OpR X (compareOp .Eq) rEq:=by
 intro pins s σ H x y v u Q I rx ry h
 obtain ⟨hs,q⟩:=h
 cases x with
 | non=>
  cases rx
  cases y with
  | non=>cases ry;exact PySem.EqNone.eq_none_none (Z1 I q (by simp))
  | bl j=>cases ry;exact PySem.EqNone.eq_none_bool (Z1 I q (by simp))
  | int j=>obtain ⟨t',rfl⟩:=ry;exact PySem.EqNone.eq_none_int (Z1 I q (by simp))
  | str j=>obtain ⟨t',rfl⟩:=ry;exact PySem.EqNone.eq_none_str (Z1 I q (by simp))
  | _=>exact absurd (show false=true from hs) Bool.false_ne_true
 | bl i=>
  cases rx
  cases y with
  | non=>cases ry;exact PySem.EqNone.eq_bool_none (Z1 I q (by simp))
  | bl j=>cases ry;exact eq_bool (Z1 I q Zk7)
  | str j=>obtain ⟨t',rfl⟩:=ry;exact PySem.EqMixed.eq_bool_str (Z1 I q (by simp))
  | _=>exact absurd (show false=true from hs) Bool.false_ne_true
 | int i=>
  obtain ⟨t,rfl⟩:=rx
  cases y with
  | non=>cases ry;exact PySem.EqNone.eq_int_none (Z1 I q (by simp))
  | int j=>obtain ⟨t',rfl⟩:=ry;exact eq_int (Z1 I q Zio)
  | str j=>obtain ⟨t',rfl⟩:=ry;exact PySem.EqMixed.eq_int_str (Z1 I q (by simp))
  | _=>exact absurd (show false=true from hs) Bool.false_ne_true
 | str i=>
  obtain ⟨t,rfl⟩:=rx
  cases y with
  | non=>cases ry;exact PySem.EqNone.eq_str_none (Z1 I q (by simp))
  | bl j=>cases ry;exact PySem.EqMixed.eq_str_bool (Z1 I q (by simp))
  | int j=>obtain ⟨t',rfl⟩:=ry;exact PySem.EqMixed.eq_str_int (Z1 I q (by simp))
  | str j=>obtain ⟨t',rfl⟩:=ry;exact eq_str (Z1 I q ZiJ)
  | _=>exact absurd (show false=true from hs) Bool.false_ne_true
 | byt i=>
  obtain ⟨t,rfl⟩:=rx
  cases y with
  | byt j=>obtain ⟨t',rfl⟩:=ry;exact PySem.W.eq_bytes (Z1 I q ZhV)
  | _=>exact absurd (show false=true from hs) Bool.false_ne_true
 | _=>cases y<;>exact absurd (show false=true from hs) Bool.false_ne_true
theorem ZjG:OpR X (compareOp .NotEq) rNe:=by
 intro pins s σ H x y v u Q I rx ry h
 obtain ⟨hs,q⟩:=h
 cases x with
 | non=>
  cases rx
  cases y with
  | non=>cases ry;exact PySem.EqNone.ne_none_none (Z1 I q (by simp))
  | bl j=>cases ry;exact PySem.EqNone.ne_none_bool (Z1 I q (by simp))
  | int j=>obtain ⟨t',rfl⟩:=ry;exact PySem.EqNone.ne_none_int (Z1 I q (by simp))
  | str j=>obtain ⟨t',rfl⟩:=ry;exact PySem.EqNone.ne_none_str (Z1 I q (by simp))
  | _=>exact absurd (show false=true from hs) Bool.false_ne_true
 | bl i=>
  cases rx
  cases y with
  | non=>cases ry;exact PySem.EqNone.ne_bool_none (Z1 I q (by simp))
  | bl j=>cases ry;exact ne_bool (Z1 I q (congrArg not Zk7))
  | str j=>obtain ⟨t',rfl⟩:=ry;exact PySem.EqMixed.ne_bool_str (Z1 I q (by simp))
  | _=>exact absurd (show false=true from hs) Bool.false_ne_true
 | int i=>
  obtain ⟨t,rfl⟩:=rx
  cases y with
  | non=>cases ry;exact PySem.EqNone.ne_int_none (Z1 I q (by simp))
  | int j=>obtain ⟨t',rfl⟩:=ry;exact ne_int (Z1 I q (congrArg not Zio))
  | str j=>obtain ⟨t',rfl⟩:=ry;exact PySem.EqMixed.ne_int_str (Z1 I q (by simp))
  | _=>exact absurd (show false=true from hs) Bool.false_ne_true
 | str i=>
  obtain ⟨t,rfl⟩:=rx
  cases y with
  | non=>cases ry;exact PySem.EqNone.ne_str_none (Z1 I q (by simp))
  | bl j=>cases ry;exact PySem.EqMixed.ne_str_bool (Z1 I q (by simp))
  | int j=>obtain ⟨t',rfl⟩:=ry;exact PySem.EqMixed.ne_str_int (Z1 I q (by simp))
  | str j=>obtain ⟨t',rfl⟩:=ry;exact ne_str (Z1 I q (congrArg not ZiJ))
  | _=>exact absurd (show false=true from hs) Bool.false_ne_true
 | byt i=>
  obtain ⟨t,rfl⟩:=rx
  cases y with
  | byt j=>obtain ⟨t',rfl⟩:=ry;exact PySem.W.ne_bytes (Z1 I q (congrArg not ZhV))
  | _=>exact absurd (show false=true from hs) Bool.false_ne_true
 | _=>cases y<;>exact absurd (show false=true from hs) Bool.false_ne_true
theorem ZiC:OpR X (compareOp .Lt) (rI0 fun i j=>.bl (decide (i<j))):=Znu fun _ _ _ _ _ _ _ q=>lt_int q
theorem ZbY:OpR X (compareOp .Gt) (rI0 fun i j=>.bl (decide (j<i))):=Znu fun _ _ _ _ _ _ _ q=>gt_int q
theorem Zo3:OpR X (compareOp .GtE) (rI0 fun i j=>.bl (decide (j<=i))):=Znu fun _ _ _ _ _ _ _ q=>ge_int q
theorem ZI (b:Expr) {op:CmpOp} (h:op ≠ .In:=by decide) (h2:op ≠ .NotIn:=by decide):behindInMarks op b=false:=by
 have e1:(op==CmpOp.In)=false:=by cases op<;>first | rfl | exact absurd rfl h
 have e2:(op==CmpOp.NotIn)=false:=by cases op<;>first | rfl | exact absurd rfl h2
 cases b<;>simp [behindInMarks,e1,e2]
theorem Zbl {op:CmpOp}{r:R2} (ho:OpR X (compareOp op) r) (ha:PE X a ta) (hb:PE X b tb) (hm:behindInMarks op b=false):PE X (.Compare a [op] [b] pos) (tOp r ta tb):=by
 intro pins s σ H Q I h
 exact wpAny_Compare1 (Zne ha hb I h fun v u s2 x y H2 I2 rx ry q=>ho pins s2 σ H2 x y v u Q I2 rx ry q) hm
def Zpr (t:TE):TT:=fun σ H Q=>t σ H fun x H'=>∃k,x = .bl k/\Q k H'
theorem ZD {op:CmpOp}{r:R2} (ho:OpR X (compareOp op) r) (ha:PE X a ta) (hb:PE X b tb) (hm:behindInMarks op b=false):PT X (.Compare a [op] [b] pos) (Zpr (tOp r ta tb)):=by
 intro pins s σ H Q I h
 refine wpAny_isTrue_Compare1 (YG (ha pins s σ H _ I h) fun v s1 ⟨x,H1,I1,r1,q1⟩=>YG (hb pins s1 σ H1 _ I1 q1) fun u s2 ⟨y,H2,I2,r2,q2⟩=>
  YG (ho pins s2 σ H2 x y v u _ I2 r1 r2 q2) fun c s3 ⟨z,H3,I3,r3,k,e,q3⟩=>?_) hm
 subst e
 cases r3
 exact wpAny_truthy_bool ⟨H3,I3,q3⟩
def ZoI (K:PySem.W.Frag) (x:V) (H:Hp) (k:Bool):Prop:=
 match x with
 | .non=>k=false
 | .bl b=>k=b
 | .int i=>k=(i != 0)
 | .str y=>y.length<=sizeLine/\k=((y.length:Int) != 0)
 | .byt y=>y.size<=sizeLine/\k=((y.size:Int) != 0)
 | .ref p=>(∃xs,Zo K H p xs/\k = !xs.isEmpty)∨(∃xs,Uw K H p xs/\k = !xs.isEmpty) ∨ ∃kvs,H p=some (.dK kvs)/\k = !kvs.isEmpty
 | _=>False
theorem Zhd {κ:Type}{kvs:List (κ × V)}{vs:List (κ × Value)} (r:KV kvs vs):(!vs.isEmpty) = !kvs.isEmpty:=by
 cases r<;>rfl
theorem ZcX {xs:List V}{its:List Value} (r:Vals xs its):(!its.toArray.isEmpty) = !xs.isEmpty:=by
 cases r<;>simp
theorem Zdy:(sizeLine:Nat)<2 ^ 63:=by rw [sizeLine_eq];decide
theorem ZnO:ZpV X (fun x H Q=>∃k,ZoI X.K x H k/\Q k H):=by
 intro pins s σ H x v Q I rx h
 obtain ⟨k,e,q⟩:=h
 have hl:=Zdy
 have hs:sizeLine=16777216:=sizeLine_eq
 cases x with
 | non=>
  cases rx
  have e':k=false:=e
  subst e'
  exact truthy_none ⟨H,I,q⟩
 | bl b=>
  cases rx
  have e':k=b:=e
  subst e'
  exact wpAny_truthy_bool ⟨H,I,q⟩
 | int i=>
  obtain ⟨t,rfl⟩:=rx
  have e':k=(i != 0):=e
  subst e'
  exact PySem.P.truthy_int ⟨H,I,q⟩
 | str y=>
  obtain ⟨t,rfl⟩:=rx
  obtain ⟨hy,e'⟩:y.length<=sizeLine/\k=((y.length:Int) != 0):=e
  subst e'
  exact PySem.P.truthy_str (by lia) ⟨H,I.tok _,q⟩
 | byt y=>
  obtain ⟨t,rfl⟩:=rx
  obtain ⟨hy,e'⟩:y.size<=sizeLine/\k=((y.size:Int) != 0):=e
  subst e'
  exact PySem.W.truthy_bytes (by lia) ⟨H,I.tok _,q⟩
 | ref p=>
  cases rx
  have e':(∃xs,Zo X.K H p xs/\k = !xs.isEmpty)∨(∃xs,Uw X.K H p xs/\k = !xs.isEmpty) ∨ ∃kvs,H p=some (.dK kvs)/\k = !kvs.isEmpty:=e
  rcases e' with ⟨xs,hx,e'⟩ | ⟨xs,hx,e'⟩ | ⟨kvs,hx,e'⟩
  ·subst e'
   obtain ⟨its,r,pl,hz⟩:=I.list hx
   have hlen:=r.length
   exact wpAny_truthy_list pl.isList (by simp only [List.size_toArray];lia) ⟨H,I.tok _,by rw [ZcX r];exact q⟩
  ·subst e'
   obtain ⟨its,r,pl,hz⟩:=I.tuple hx
   have hlen:=r.length
   exact truthy_tuple pl (by simp only [List.size_toArray];lia) ⟨H,I.tok _,by rw [ZcX r];exact q⟩
  ·subst e'
   obtain ⟨hz,hS,vs,r,m⟩:kvs.length<=sizeLine/\(p==sysModules)=false /\ ∃vs,KV kvs vs/\s.heap.DictOf (Ys X.prog X.w) p vs:=I.hok p _ hx
   have hlen:kvs.length=vs.length:=Paired.length r
   exact wpAny_truthy_dict hS m (by lia) ⟨H,I.tok _,by rw [Zhd r];exact q⟩
 | _=>exact (show False from e).elim
theorem Zkk (ha:PE X a ta) (he:∀whole,isTrue a X.env whole=(do let v <- whole;standAt a.pos;holding [v] (truthy v))):
  PT X a (fun σ H Q=>ta σ H fun x H'=>∃k,ZoI X.K x H' k/\Q k H'):=by
 intro pins s σ H Q I h
 exact isTrue_plain (YG (ha pins s σ H _ I h) fun v s1 ⟨x,H1,I1,r1,q1⟩=>ZnO pins s1 σ H1 x v Q I1 r1 q1) (he _)
theorem vals1 {x:V}{us:List Value} (r:Vals [x] us):∃u,us = [u]/\RelV x u:=by
 cases r with
 | cons r1 r2=>cases r2;exact ⟨_,rfl,r1⟩
theorem vals2 {x y:V}{us:List Value} (r:Vals [x,y] us):∃u w',us = [u,w']/\RelV x u/\RelV y w':=by
 cases r with
 | cons r1 r2=>
  cases r2 with
  | cons r3 r4=>cases r4;exact ⟨_,_,rfl,r1,r3⟩
theorem ZcQ:WV X (.builtin "abs") (fun xs H Q=>∃i,xs = [.int i]/\Q (.int (if i<0 then -i else i)) H):=by
 intro pins s σ H xs us Q I r h
 obtain ⟨i,rfl,q⟩:=h
 obtain ⟨u,rfl,t,rfl⟩:=vals1 r
 exact call_abs_int fun u tk=>⟨.int (if i<0 then -i else i),H,I.tok _,⟨_,rfl⟩,q⟩
theorem Zek (hc:X.calm=true):WV X (.builtin "max") (fun xs H Q=>∃i j,xs = [.int i,.int j]/\Q (.int (if j>i then j else i)) H):=by
 intro pins s σ H xs us Q I r h
 obtain ⟨i,j,rfl,q⟩:=h
 obtain ⟨u,w',rfl,⟨t,rfl⟩,⟨t',rfl⟩⟩:=vals2 r
 refine max_two_ints (I.ok.hd hc) fun h' tk k=>⟨_,H,I.kept k,?_,q⟩
 by_cases hj:j>i
 ·rw [if_pos hj,if_pos hj];exact ⟨_,rfl⟩
 ·rw [if_neg hj,if_neg hj];exact ⟨_,rfl⟩
theorem Zjc (hc:X.calm=true):WV X (.builtin "min") (fun xs H Q=>∃i j,xs = [.int i,.int j]/\Q (.int (if j<i then j else i)) H):=by
 intro pins s σ H xs us Q I r h
 obtain ⟨i,j,rfl,q⟩:=h
 obtain ⟨u,w',rfl,⟨t,rfl⟩,⟨t',rfl⟩⟩:=vals2 r
 refine min_two_ints (I.ok.hd hc) fun h' tk k=>⟨_,H,I.kept k,?_,q⟩
 by_cases hj:j<i
 ·rw [if_pos hj,if_pos hj];exact ⟨_,rfl⟩
 ·rw [if_neg hj,if_neg hj];exact ⟨_,rfl⟩
theorem ZiS:WV X (.type "int") (fun xs H Q=>(∃i,xs = [.int i]/\Q (.int i) H) ∨ ∃k,xs = [.bl k]/\Q (.int (if k then 1 else 0)) H):=by
 intro pins s σ H xs us Q I r h
 rcases h with ⟨i,rfl,q⟩ | ⟨k,rfl,q⟩
 ·obtain ⟨u,rfl,t,rfl⟩:=vals1 r
  exact call_int_int ⟨.int i,H,I,⟨_,rfl⟩,q⟩
 ·obtain ⟨u,rfl,r1⟩:=vals1 r
  cases r1
  exact call_int_bool ⟨.int (if k then 1 else 0),H,I.tok _,⟨_,rfl⟩,q⟩
end
structure ZlZ (h:Heap) (x dx C:Addr) (mA:Str->Option Value):Prop where
 obj:h.get? x=some (PySem.W.instObj C dx)
 ns:h.Ns1 dx mA
 ne:dx≠x
theorem Zi0 {h:Heap}{dx:Addr}{mA:Str->Option Value} (n:h.Ns1 dx mA):∃od,h.get? dx=some od /\ ∀name,PySem.W.lookIn name od=some (mA name):=by
 obtain ⟨o,es,ep,ho,hd,hk,_,hm⟩:=n
 refine ⟨o,ho,fun name=>?_⟩
 have e:=hm name
 unfold nsFind findBy at e
 rw [<- Array.find?_toList] at e
 unfold PySem.W.lookIn
 rw [hd]
 dsimp only
 split
 ·rename_i y q
  rw [q] at e
  exact congrArg some e
 ·rename_i q
  rw [q] at e
  have a:es.toList.any (·.refKey)=false:=by
   rw [List.any_eq_false]
   intro y hy
   obtain ⟨z,t,hkey⟩:=hk y (Array.mem_toList_iff.mp hy)
   simp [DictEntry.refKey,hkey]
  have a':¬es.toList.any (·.refKey)=true:=by rw [a];exact Bool.false_ne_true
  rw [if_neg a']
  exact congrArg some e
theorem ZlZ.look {h:Heap}{x dx C:Addr}{mA:Str->Option Value} (I:ZlZ h x dx C mA):∃od,PySem.W.InstAt h x (PySem.W.instObj C dx) C (some od) /\ ∀name,PySem.W.lookIn name od=some (mA name):=
 let ⟨od,ho,hl⟩:=Zi0 I.ns
 ⟨od,⟨I.obj,rfl,rfl,ho⟩,hl⟩
section
variable {prog:Program}{w:World}{A:Around}{E:Value->Shared->Prop}{s:Shared}{K:PySem.W.Frag}{x dx C f:Addr}{mA:Str->Option Value}{name:Str}{v:Value}
theorem Zks {pl:Sem Bool}{Q:Value×List Value->Shared->Prop} (X:K.In s.heap) (I:ZlZ s.heap x dx C mA) (hg:PySem.W.plainGet K C name=true)
  (hf:PySem.W.findIn K (.ref C) name=some (some (.ref f))) (ht:PySem.W.isFn K (.ref f)=true) (hv:mA name=none) (h:Q (.ref f,[.ref x]) s):
  wpAny (model prog w) A (getMethod (.ref x) name pl) Q E s:=by
 obtain ⟨od,J,hl⟩:=I.look
 exact PySem.W.method_fn X J (PySem.W.plainGet_of hg).1 (PySem.W.plainGet_of hg).2 hf (beq_iff_eq.mp ht) (by show (PySem.W.lookIn name od).map (·.isSome)=some false;rw [hl,hv];rfl) h
theorem Zi6 {R:Result->Shared->Prop} (X:K.In s.heap) (hm:PySem.W.makesIn K C=true)
  (hi:PySem.W.findIn K (.ref C) "__init__" = some (some (.builtin "object.__init__")))
  (hb:∀self,PySem.W.Looks (model prog w) s.heap (bindSpecial (.builtin "object.__init__") self) (.builtin "object.__init__", [self]))
  (h:codeAny (model prog w) (A.under (.builtin "type.__call__" ⟨[.ref C],[]⟩)) (.call (.builtin "object.__init__") ⟨[.ref (s.heap.objs.size+1)],[]⟩) (PySem.W.InitBack (s.heap.objs.size+1) R)
   { s with heap:=(s.heap.push PySem.W.emptyDict).push (PySem.W.instObj C s.heap.objs.size) }):
  codeAny (model prog w) A (.call (.ref C) ⟨[],[]⟩) R s:=by
 obtain ⟨hh,g,d,t,os⟩:=s
 exact PySem.W.make_core (PySem.W.makes_of X hm) (PySem.W.looks_findIn X hi) hb (.inr ⟨rfl,rfl⟩) h
end
theorem Za7.some_of {v:V}{o:Option Value} (r:Za7 (some v) o):∃u,o=some u/\RelV v u:=by
 cases o with
 | none=>exact (show False from r).elim
 | some u=>exact ⟨u,rfl,r⟩
theorem Za7.none_of {o:Option Value} (r:Za7 none o):o=none:=by
 cases o with
 | none=>rfl
 | some u=>exact (show False from r).elim
section
variable {P:Program}{w:World}{H H':Hp}{h h':Heap}{a C dx:Addr}{fs fs':List (Str×V)}
theorem ZlT (hok:GL P w H h) (e:H a=some (.ins C dx fs)):∃mA,ZlZ h a dx C mA/\(∀f,Za7 (fs.lookup f) (mA f))/\PySem.Within mA (fs.map (·.1))/\fs.length<=1000/\H dx=some (.own a):=by
 obtain ⟨d,z,ne,ob,mA,n,r,q⟩:=(show Yy P w H h a (.ins C dx fs) from hok a _ e)
 exact ⟨mA,⟨ob,n,ne⟩,r,q,z,d⟩
end
structure Cls (K:PySem.W.Frag) (C:Addr):Prop where
 pg:PySem.W.plainGet K C Str.empty=true
 hd:PySem.W.hasDictIn K C=true
 po:PySem.W.plainOver K C=true
 sa:PySem.W.findIn K (.ref C) "__setattr__" = some (some (.builtin "object.__setattr__"))
theorem Cls.get {K:PySem.W.Frag}{C:Addr} (c:Cls K C) (f:Str):PySem.W.plainGet K C f=true:=c.pg
structure Con (K:PySem.W.Frag) (C:Addr) (f:Str) (v:V) (u:Value):Prop where
 at_:PySem.W.findIn K (.ref C) f=some (some u)
 rel:RelV v u
 get:PySem.W.specialIn K u "__get__" = some none
 cp:PySem.W.copiedNames.contains f=false
structure Meth (K:PySem.W.Frag) (C:Addr) (m:Str) (f:Addr):Prop where
 at_:PySem.W.findIn K (.ref C) m=some (some (.ref f))
 fn:PySem.W.isFn K (.ref f)=true
 kp:PySem.W.keepIn K (.ref f)=true
section
variable {X:Cx}{pins:List (Addr×Obj)} {σ:St}{H:Hp}{s:Shared}{a C dx:Addr}{fs:List (Str×V)}{f:Str}{v:V}{A:Around}{E:Value->Shared->Prop}
theorem ZcU {m:Str}{g:Addr}{pl:Sem Bool}{Q:Value×List Value->Shared->Prop} (I:Inv X pins σ H s) (e:H a=some (.ins C dx fs)) (c:Cls X.K C) (k:Meth X.K C m g) (l:fs.lookup m=none)
  (h:Q (.ref g,[.ref a]) s):wpAny (model X.prog X.w) A (getMethod (.ref a) m pl) Q E s:=by
 obtain ⟨mA,O,r,_,_,_⟩:=ZlT I.hok e
 have hn:mA m=none:=Za7.none_of (by rw [<- l];exact r m)
 exact Zks I.kIn O (c.get m) k.at_ k.fn hn h
theorem Inv.made (I:Inv X pins σ H s):Inv X pins σ (upd (upd H s.heap.objs.size (.own (s.heap.objs.size+1))) (s.heap.objs.size+1) (.ins C s.heap.objs.size []))
  { s with heap:=(s.heap.push PySem.W.emptyDict).push (PySem.W.instObj C s.heap.objs.size) }:=by
 have e1:(s.heap.push PySem.W.emptyDict).get? s.heap.objs.size=some PySem.W.emptyDict:=Heap.get?_push_size s.heap rfl
 have e2:((s.heap.push PySem.W.emptyDict).push (PySem.W.instObj C s.heap.objs.size)).get? (s.heap.objs.size+1)=some (PySem.W.instObj C s.heap.objs.size):=by
  have:=Heap.get?_push_size (s.heap.push PySem.W.emptyDict) (o:=PySem.W.instObj C s.heap.objs.size) rfl
  rwa [Heap.size_push] at this
 have e3:(s.heap.push PySem.W.emptyDict).Ns s.heap.objs.size (fun _=>none):=⟨PySem.W.emptyDict,#[],_,e1,rfl,(fun e he=>absurd he (by simp)),fun _=>rfl⟩
 have I1:=I.laid (a:=s.heap.objs.size) (o:=.own (s.heap.objs.size+1)) (h':=s.heap.push PySem.W.emptyDict) (t':=s.toks) (fun b u q=>Heap.get?_push_of_some _ q) (Nat.le_refl _) ⟨_,e1⟩
 refine I1.laid (a:=s.heap.objs.size+1) (o:=.ins C s.heap.objs.size []) (t':=s.toks) (fun b u q=>Heap.get?_push_of_some _ q) (Nat.le_of_eq (Heap.size_push _ _)) ?_
 have ne:s.heap.objs.size≠s.heap.objs.size+1:=Nat.ne_of_lt (Nat.lt_succ_self _)
 refine ⟨by rw [Zj ne,Zb],Nat.zero_le _,ne,e2,fun _=>none,(Heap.Ns1.of_empty e3).at fun o q=>Heap.get?_push_of_some _ q,fun _=>True.intro,fun y hy=>absurd rfl hy⟩
end
section
variable {X:Cx}{o e value:Expr}{f:Str}{pos pos' tpos:Pos}{ta tv:TE}
end
section
variable {X:Cx}{pins:List (Addr×Obj)} {σ:St}{H:Hp}{s:Shared}{A:Around}{E:Value->Shared->Prop}{Q:Value->Shared->Prop}{c:Value}{b:Bool}
inductive Zdv (K:PySem.W.Frag) (H:Hp):V->Value->Prop where
 | non:Zdv K H .non (.type "NoneType")
 | bl (x:Bool):Zdv K H (.bl x) (.type "bool")
 | int (i:Int):Zdv K H (.int i) (.type "int")
 | str (x:Str):Zdv K H (.str x) (.type "str")
 | flt (x:UInt64):Zdv K H (.flt x) (.type "float")
 | lst {a:Addr}{xs:List V} (e:H a=some (.lst xs)):Zdv K H (.ref a) (.type "list")
 | frz {a:Addr}{o:Obj}{xs:List V} (e:H a=some (.frz o (.lst xs))):Zdv K H (.ref a) (.type "list")
 | tup {a:Addr}{xs:List V} (e:H a=some (.tup xs)):Zdv K H (.ref a) (.type "tuple")
 | dK {a:Addr}{kvs:List (Key×V)} (e:H a=some (.dK kvs)):Zdv K H (.ref a) (.type "dict")
 | dT {a:Addr}{kvs:List (List Key×V)} (e:H a=some (.dT kvs)):Zdv K H (.ref a) (.type "dict")
 | ins {a C dx:Addr}{fs:List (Str×V)} (e:H a=some (.ins C dx fs)) (cl:Cls K C) (ha:PySem.W.findIn K (.ref C) "__class__" = some (some (.builtin "object.__class__")))
   (hn:PySem.W.specialIn K (.builtin "object.__class__") "__get__" = some (some (.builtin "getset_descriptor.__get__"))) (htk:PySem.W.takesIn K (.builtin "object.__class__")=some true)
   (hm:PySem.W.mroIn K C (.type "object")=some true):Zdv K H (.ref a) (.ref C)
end
structure J6 (k:Nat) (A:Around):Prop where
 hd:A.handled=none
 dp:A.depth+3*k+5<recursionLimit
 un:A.units+16*k+200<cLine
theorem J6.mono {j k:Nat}{A:Around} (r:J6 k A) (h:j<=k):J6 j A:=⟨r.hd,by have:=r.dp;lia,by have:=r.un;lia⟩
theorem J6.deeper {k:Nat}{A:Around} (r:J6 (k+1) A) (env:Env):J6 k (A.deeper env):=
 ⟨r.hd,by have:=r.dp;show A.depth+1+3*k+5<_;lia,by have:=r.un;show A.units+3+16*k+200<_;lia⟩
theorem J6.depth {k:Nat}{A:Around} (r:J6 k A):A.depth<recursionLimit:=by have:=r.dp;lia
theorem J6.units {k:Nat}{A:Around} (r:J6 k A):A.units+64<cLine:=by have:=r.un;lia
def ZnM:TA:=fun _ H Q=>Q [] H
def ZoO (ta:TE) (tr:TA):TA:=fun σ H Q=>ta σ H fun x H1=>tr σ H1 fun xs H2=>Q (x::xs) H2
section
variable {X:Cx}{e:Expr}{es:List Expr}{te:TE}{t:TA}{pos:Pos}
theorem Zc:PA X [] ZnM:=fun _ _ _ _ H Q I h=>Calls.spliced_nil ⟨[],H,I,.nil,h⟩
theorem Za (ha:PE X e te) (hr:PA X es t) (hs:starEach (e::es) X.env=(false,eval e X.env)::starEach es X.env:=by rfl):PA X (e::es) (ZoO te t):=by
 intro pos pins s σ H Q I h
 rw [hs]
 show wpAny _ _ (spliced ((false,eval e X.env)::backTo pos (starEach es X.env))) _ _ s
 refine Calls.spliced_cons (YG (ha pins s σ H _ I h) fun u s1 ⟨x,H1,I1,r1,q1⟩=>?_)
 exact YG (hr pos pins s1 σ H1 _ I1 q1) fun us s2 ⟨xs,H2,I2,r2,q2⟩=>⟨x::xs,H2,I2,.cons r1 r2,q2⟩
def Zqg (t:TA):TE:=fun σ H Q=>t σ H fun xs H1=>xs.length<=sizeLine /\ ∀p,H1 p=none->Q (.ref p) (upd H1 p (.tup xs))
def Zqd (t:TA):TE:=fun σ H Q=>t σ H fun xs H1=>xs.length<=sizeLine /\ ∀p,H1 p=none->Q (.ref p) (upd H1 p (.lst xs))
theorem YV {x1} (h:PA X es t):PE X (.Tuple es x1 pos) (Zqg t):=by
 intro pins s σ H Q I hq
 refine wpAny_Tuple_spliced (YG (h pos pins s σ H _ I hq) fun us s1 ⟨xs,H1,I1,r,z,q⟩=>⟨by rw [<- r.length];exact z,?_⟩)
 have hf:H1 s1.heap.objs.size=none:=I1.hok.fresh (Nat.le_refl _)
 refine ⟨.ref s1.heap.objs.size,upd H1 s1.heap.objs.size (.tup xs),I1.laid (t':=s1.toks) (fun b u e=>Heap.get?_push_of_some _ e) (Nat.le_refl _) ?_,rfl,q _ hf⟩
 exact ⟨z,us,r,⟨_,Heap.get?_push_size _ rfl,rfl,_,rfl⟩⟩
theorem ZT (h:PA X es t):PE X (.List es pos) (Zqd t):=by
 intro pins s σ H Q I hq
 refine wpAny_List_spliced (YG (h pos pins s σ H _ I hq) fun us s1 ⟨xs,H1,I1,r,z,q⟩=>⟨by rw [<- r.length];exact z,?_⟩)
 have hf:H1 s1.heap.objs.size=none:=I1.hok.fresh (Nat.le_refl _)
 refine ⟨.ref s1.heap.objs.size,upd H1 s1.heap.objs.size (.lst xs),I1.laid (t':=s1.toks) (fun b u e=>Heap.get?_push_of_some _ e) (Nat.le_refl _) ?_,rfl,q _ hf⟩
 exact ⟨z,us,0,r,Heap.get?_push_size _ rfl⟩
end
abbrev Sp:=List V->Hp->VK->XK->Prop
abbrev CXT:=List Env->Hp->Shared->XK->Value->Shared->Prop
structure ZjQ (P:Program) (w:World) (K:PySem.W.Frag) (mg:Str->Option Value) (base:Heap) (A:Around) (outer:List Env) (s:Shared) (H:Hp):Prop where
 frames:A.frames=some outer
 mod:Mod K mg base
 bs:∀b o,base.get? b=some o->s.heap.get? b=some o/\H b=none
 bsz:base.objs.size<=s.heap.objs.size
 funs:s.heap.FunFrames base outer
 frf:∀b∈We outer,H b=none
 hok:GL P w H s.heap
 bare:AllBare s.gens
def CE (outer:List Env) (P:Program) (w:World) (H:Hp) (s:Shared) (Q:VK) (u:Value) (s':Shared):Prop:=
 ∃v H',s'.os=s.os/\AllBare s'.gens/\Un (We outer) [] H H' s.heap s'.heap/\GL P w H' s'.heap/\RelV v u/\Q v H'
def CR (CX:CXT) (outer:List Env) (P:Program) (w:World) (H:Hp) (s:Shared) (Q:VK) (E:XK) (r:Result) (s':Shared):Prop:=
 match r with
 | .ok (.ret u)=>CE outer P w H s Q u s'
 | .ok _=>False
 | .error e=>CX outer H s E e s'
structure ZX (P:Program) (w:World) (K:PySem.W.Frag) (mg:Str->Option Value) (base:Heap) (CX:CXT) (k:Nat) (f:Addr) (fd:FuncData) (ps:List Str) (sp:Sp):Prop where
 len:∀vs H Q E,sp vs H Q E->vs.length=ps.length
 run:∀(A:Around) (outer:List Env) (s:Shared) (H:Hp) (args:Args) (us:List Value) (vs:List V) (Q:VK) (E:XK),J6 k A->ZjQ P w K mg base A outer s H->BindsTo s fd args (ps.zip us)->Vals vs us->sp vs H Q E ->
  codeAny (model P w) A (.call (.ref f) args) (CR CX outer P w H s Q E) s
section
variable {X:Cx}{pins:List (Addr×Obj)} {σ:St}{H:Hp}{s s':Shared}
theorem Inv.env0 (I:Inv X pins σ H s):ZjQ X.prog X.w X.K X.mg X.base X.A X.stack s H:=
 ⟨I.ok.frames,I.ok.mod,I.bs,Nat.le_trans I.ok.bsz I.sz,I.stack,I.stkFree,I.hok,I.bare⟩
theorem Inv.after {Q:VK}{u:Value} (I:Inv X pins σ H s) (h:CE X.stack X.prog X.w H s Q u s'):EP X pins σ Q u s':=by
 obtain ⟨v,H',os,bare,un,hok,r,q⟩:=h
 obtain ⟨hh,g,d,t,os'⟩:=s'
 obtain rfl:os'=s.os:=os
 exact ⟨v,H',I.call (h':=hh) (g':=g) (d':=d) (t':=t) (ch:=[]) un hok bare (fun b z=>absurd z (by simp)),r,q⟩
end
def Zk0 (sp:Sp) (dvs:List V) (E:XK) (t:TA):TE:=fun σ H Q=>t σ H fun vs H1=>sp (vs++dvs) H1 Q E
def ZhW (C:Addr) (m:Str) (sp:Sp) (dvs:List V) (E:XK) (ta:TE) (t:TA):TE:=fun σ H Q=>ta σ H fun x H1=>∃a dx fs,x = .ref a/\H1 a=some (.ins C dx fs)/\fs.lookup m=none /\
 t σ H1 fun vs H2=>sp (x::(vs++dvs)) H2 Q E
def Binds (K:PySem.W.Frag) (fd:FuncData) (ps:List Str) (ds:List Value):Prop:=
 ∀(s:Shared) (us:List Value),K.In s.heap->(us++ds).length=ps.length->BindsTo s fd ⟨us,[]⟩ (ps.zip (us++ds))
theorem Binds.all {K:PySem.W.Frag}{fd:FuncData}{ps:List Str} (h:∀us:List Value,us.length=ps.length->bindArgs fd ⟨us,[]⟩=pure (ps.zip us)):Binds K fd ps []:=fun s us _ hl=>by
 rw [List.append_nil] at hl ⊢
 exact .of_eq (h us hl)
def Passes (CX:CXT) (X:Cx) (E:XK):Prop:=∀(pins:List (Addr×Obj)) (σ:St) (H:Hp) (s:Shared) (e:Value) (s':Shared),Inv X pins σ H s->CX X.stack H s E e s'->X.xe e s'
section
variable {X:Cx}{CX:CXT}{k:Nat}{f C:Addr}{fd:FuncData}{ps:List Str}{sp:Sp}{dvs:List V}{ds:List Value}{E:XK}{x m:Str}{p pos apos:Pos}{e o:Expr}{es:List Expr}{ta:TE}{t:TA}
theorem Zg2 {pins:List (Addr×Obj)} {σ:St}{H:Hp}{s:Shared}{Q:VK}{us:List Value}{vs:List V} (F:ZX X.prog X.w X.K X.mg X.base CX k f fd ps sp) (hr:J6 k X.A) (hb:Binds X.K fd ps ds) (hd:Vals dvs ds) (hx:Passes CX X E)
  (I:Inv X pins σ H s) (r:Vals vs us) (h:sp (vs++dvs) H Q E):wpAny (model X.prog X.w) X.A (call (.ref f) us) (EP X pins σ Q) X.xe s:=by
 have r2:Vals (vs++dvs) (us++ds):=r.append hd
 have hl:(us++ds).length=ps.length:=by rw [<- r2.length];exact F.len _ _ _ _ h
 refine wpAny_call (codeAny_mono (F.run X.A X.stack s H ⟨us,[]⟩ (us++ds) (vs++dvs) Q E hr I.env0 (hb s us I.kIn hl) r2 h) fun r s' hq=>?_)
 cases r with
 | error e=>exact hx pins σ H s e s' I hq
 | ok fl=>
  cases fl with
  | ret u=>exact I.after hq
  | next=>exact False.elim hq
  | brk=>exact False.elim hq
  | cont=>exact False.elim hq
theorem Zh8 (F:ZX X.prog X.w X.K X.mg X.base CX k f fd ps sp) (hr:J6 k X.A) (hg:Gl X x) (hm:X.mg x=some (.ref f)) (hk:PySem.W.keepIn X.K (.ref f)=true) (hb:Binds X.K fd ps ds) (hd:Vals dvs ds) (hx:Passes CX X E)
  (ha:PA X (e::es) t) (hdb:(x==("__debug__" : Str))=false:=by decide) (he:starEach (e::es) X.env=(false,eval e X.env)::starEach es X.env:=by rfl) (hpl:(backTo pos (starEach es X.env)).any (·.1)=false:=by rfl):
  PE X (.Call (.Name x p) (e::es) [] pos) (Zk0 sp dvs E t):=by
 intro pins s σ H Q I h
 refine wpAny_Call_Name_kw (Zam I hg hm ?_ hdb)
 refine PySem.W.callWith_K (h₀:=X.base) I.ok.mod.kin hk (YG (ha pos pins s σ H _ I h) fun us s1 ⟨vs,H1,I1,r,q⟩=>⟨I1.kIn,?_⟩) he hpl
 exact Zg2 F hr hb hd hx I1 r q
theorem Zme {pl:Sem Bool} (he:PE X o ta) (c:Cls X.K C) (hm:Meth X.K C m f) (F:ZX X.prog X.w X.K X.mg X.base CX k f fd ps sp) (hr:J6 k X.A) (hb:Binds X.K fd ps ds) (hd:Vals dvs ds) (hx:Passes CX X E) (ha:PA X (e::es) t)
  (hst:starEach (e::es) X.env=(false,eval e X.env)::starEach es X.env:=by rfl) (hpl:(backTo pos (starEach es X.env)).any (·.1)=false:=by rfl)
  (ht:eval (.Call (.Attribute o m apos) (e::es) [] pos) X.env=(do
   let ov <- eval o X.env
   standAt apos.atName
   let (f,first) <- holding [ov] (getMethod ov m pl)
   callWith pos f first (backTo pos (starEach (e::es) X.env)) (backToKw pos (keywordEach [] X.env))):=by rfl):
  PE X (.Call (.Attribute o m apos) (e::es) [] pos) (ZhW C m sp dvs E ta t):=by
 intro pins s σ H Q I h
 refine PySem.W.methodCall_KW (pl:=pl) (YG (he pins s σ H _ I h) fun u s1 ⟨x,H1,I1,rx,a,dx,fs,ex,ea,l,q⟩=>?_) ht
 subst ex
 obtain rfl:u=Value.ref a:=rx
 refine ZcU I1 ea c hm l ?_
 refine PySem.W.callWith_K (first:=[.ref a]) (h₀:=X.base) I.ok.mod.kin hm.kp (YG (ha pos pins s1 σ H1 _ I1 q) fun us s2 ⟨vs,H2,I2,r,q2⟩=>⟨I2.kIn,?_⟩) hst hpl
 exact Zg2 (us:=.ref a::us) (vs:=.ref a::vs) F hr hb hd hx I2 (.cons rfl r) q2
theorem Zkx {pl:Sem Bool} (he:PE X o ta) (c:Cls X.K C) (hm:Meth X.K C m f) (F:ZX X.prog X.w X.K X.mg X.base CX k f fd ps sp) (hr:J6 k X.A) (hb:Binds X.K fd ps ds) (hd:Vals dvs ds) (hx:Passes CX X E)
  (ht:eval (.Call (.Attribute o m apos) [] [] pos) X.env=(do
   let ov <- eval o X.env
   standAt apos.atName
   let (f,first) <- holding [ov] (getMethod ov m pl)
   callWith pos f first (backTo pos (starEach [] X.env)) (backToKw pos (keywordEach [] X.env))):=by rfl):
  PE X (.Call (.Attribute o m apos) [] [] pos) (ZhW C m sp dvs E ta ZnM):=by
 intro pins s σ H Q I h
 refine PySem.W.methodCall_KW (pl:=pl) (YG (he pins s σ H _ I h) fun u s1 ⟨x,H1,I1,rx,a,dx,fs,ex,ea,l,q⟩=>?_) ht
 subst ex
 obtain rfl:u=Value.ref a:=rx
 refine ZcU I1 ea c hm l ?_
 exact PySem.W.callWith_K0 (first:=[.ref a]) I1.kIn hm.kp (Zg2 (us:=[.ref a]) (vs:=[.ref a]) F hr hb hd hx I1 (.cons rfl .nil) q)
structure Mk (K:PySem.W.Frag) (C f:Addr):Prop where
 makes:PySem.W.makesIn K C=true
 init:PySem.W.findIn K (.ref C) "__init__" = some (some (.ref f))
 fn:PySem.W.isFn K (.ref f)=true
 kp:PySem.W.keepIn K (.ref C)=true
end
section
variable {X:Cx}{CX:CXT}{k:Nat}{f C:Addr}{fd:FuncData}{ps ks:List Str}{sp:Sp}{E:XK}{x m:Str}{p pos apos kpos:Pos}{e o:Expr}{es:List Expr}{kws:List Keyword}{te ta:TE}{t tk:TA}{nm:Option Str}
structure Zqk (K:PySem.W.Frag) (fd:FuncData) (ps ks:List Str) (g:List Value->List Value->List Value) (gV:List V->List V->List V):Prop where
 to:∀(s:Shared) (us ws:List Value),K.In s.heap->(g us ws).length=ps.length->BindsTo s fd ⟨us,ks.zip ws⟩ (ps.zip (g us ws))
 rel:∀{vs:List V}{us:List Value}{zs:List V}{ws:List Value},Vals vs us->Vals zs ws->Vals (gV vs zs) (g us ws)
variable {g:List Value->List Value->List Value}{gV:List V->List V->List V}
end
structure Zp (N P:List Str) (sc:Scope):Prop where
 kind:sc.kind = .function:=by rfl
 co:sc.isCoroutine=false:=by rfl
 gen:sc.isGenerator=false:=by rfl
 nd:N.Nodup:=by decide +kernel
 pre:N.take P.length=P:=by rfl
 par:∀x∈P,sc.names.lookup x=some .local∨sc.names.lookup x=some .cell:=by decide +kernel
 nofree:∀y∈sc.names,y.2 ≠ .free:=by decide +kernel
theorem Zea {kindOf:Str->Option NameKind}{x:Str}:∀{binds:List (Str×Value)}{m:Str->Option Value},(∀v,(x,v)∉binds)->bindL kindOf binds m x=m x
 | [],_,_=>rfl
 | (n,v)::r,m,h=>by
  unfold bindL
  rw [Zea fun w hw=>h w (List.mem_cons_of_mem _ hw)]
  split
  ·have:x≠n:=by rintro rfl;exact h v List.mem_cons_self
   simp [this]
  ·rfl
theorem Zeq {kindOf:Str->Option NameKind}{x:Str}:∀{binds:List (Str×Value)}{m:Str->Option Value},(∀v,(x,v)∉binds)->bindC kindOf binds m x=m x
 | [],_,_=>rfl
 | (n,v)::r,m,h=>by
  unfold bindC
  rw [Zeq fun w hw=>h w (List.mem_cons_of_mem _ hw)]
  split
  ·rfl
  ·have:x≠n:=by rintro rfl;exact h v List.mem_cons_self
   simp [this]
theorem Zec {kindOf:Str->Option NameKind}{x:Str}{v:Value}:∀{P:List Str}{vs:List Value}{i:Nat}{m:Str->Option Value},P.Nodup->P[i]? = some x->vs[i]? = some v->kindOf x=some .local ->
  bindL kindOf (P.zip vs) m x=some v
 | [],_,_,_,_,h,_,_=>by simp at h
 | _::_,[],_,_,_,_,h,_=>by simp at h
 | p::P,w::vs,0,m,nd,h1,h2,hk=>by
  simp at h1 h2;subst h1;subst h2
  show bindL kindOf ((p,w)::P.zip vs) m p=_
  unfold bindL
  rw [Zea fun v hv=>(List.nodup_cons.mp nd).1 (List.of_mem_zip hv).1,if_pos hk]
  simp
 | p::P,w::vs,i+1,m,nd,h1,h2,hk=>by
  show bindL kindOf ((p,w)::P.zip vs) m x=_
  unfold bindL
  exact Zec (i:=i) (List.nodup_cons.mp nd).2 (by simpa using h1) (by simpa using h2) hk
theorem Zev {kindOf:Str->Option NameKind}{x:Str}{v:Value}:∀{P:List Str}{vs:List Value}{i:Nat}{m:Str->Option Value},P.Nodup->P[i]? = some x->vs[i]? = some v->kindOf x≠some .local ->
  bindC kindOf (P.zip vs) m x=some v
 | [],_,_,_,_,h,_,_=>by simp at h
 | _::_,[],_,_,_,_,h,_=>by simp at h
 | p::P,w::vs,0,m,nd,h1,h2,hk=>by
  simp at h1 h2;subst h1;subst h2
  show bindC kindOf ((p,w)::P.zip vs) m p=_
  unfold bindC
  rw [Zeq fun v hv=>(List.nodup_cons.mp nd).1 (List.of_mem_zip hv).1,if_neg hk]
  simp
 | p::P,w::vs,i+1,m,nd,h1,h2,hk=>by
  show bindC kindOf ((p,w)::P.zip vs) m x=_
  unfold bindC
  exact Zev (i:=i) (List.nodup_cons.mp nd).2 (by simpa using h1) (by simpa using h2) hk
def start (N:List Str) (vs:List V):St:=vs.map some++List.replicate (N.length-vs.length) none
def Ws (CX:CXT) (P:Program) (w:World) (K:PySem.W.Frag) (mg:Str->Option Value) (base:Heap) (N:List Str) (qual:Str) (scope:Scope) (f:Addr) (cd:Value) (A:Around) (outer:List Env) (s:Shared) (H:Hp) (E:XK):Cx where
 prog:=P
 w:=w
 K:=K
 mg:=mg
 base:=base
 A:=A.deeper (envOfC qual scope s.heap.objs.size f cd)
 N:=N
 s₀:=s
 H₀:=H
 env:=envOfC qual scope s.heap.objs.size f cd
 outer:=outer
 stack:=envOfC qual scope s.heap.objs.size f cd::outer
 ex:=[]
 calm:=true
 fn:=fun _=>true
 pn:=[]
 xe:=fun e s'=>wpAny (model P w) (A.deeper (envOfC qual scope s.heap.objs.size f cd)) (leaving (envOfC qual scope s.heap.objs.size f cd) e) (fun _ s''=>CX outer H s E e s'') (fun e' s''=>CX outer H s E e' s'') s'
theorem Zgh {sc:Scope}{n:Nat}{x:Str} (h:sc.names.lookup x=some .cell):∃c,(cellsFrom n sc.names []).lookup x=some c:=by
 have q:=PySem.W.cellsFrom_some sc.names n [] (.inl h)
 exact Option.isSome_iff_exists.mp q
theorem ZiU {CX:CXT}{P:Program}{w:World}{K:PySem.W.Frag}{mg:Str->Option Value}{base:Heap}{N ps:List Str}{qual:Str}{scope:Scope}{f:Addr}{cd:Value}{A:Around}{outer:List Env}{s s1:Shared}{H:Hp}{E:XK}{us:List Value}{vs:List V}
  (S:Zp N ps scope) (hd:A.handled=none) (e0:ZjQ P w K mg base A outer s H) (hl:vs.length=ps.length) (r:Vals vs us)
  (x:InCallC s s.heap.objs.size (bindL (envOfC qual scope s.heap.objs.size f cd).kindOf (ps.zip us) fun _=>none) (cellsFrom (s.heap.objs.size+1) scope.names []) (bindC (envOfC qual scope s.heap.objs.size f cd).kindOf (ps.zip us) fun _=>none) s1):
  Inv (Ws CX P w K mg base N qual scope f cd A outer s H E) [] (start N vs) H s1:=by
 have hpl:ps.length<=N.length:=by have:=congrArg List.length S.pre;rw [List.length_take] at this;lia
 obtain ⟨h1,tk,rfl,hk⟩:=x.done
 have noA:∀b:Addr,b∉(Ws CX P w K mg base N qual scope f cd A outer s H E).ex:=fun b z=>absurd (show b∈([]:List Addr) from z) (by simp)
 refine ⟨⟨e0.mod,S.kind,rfl,rfl,Nat.le_refl _,fun y z c h1 h2=>?_,fun y hy=>?_,fun y c _ h=>?_,fun _=>hd,Around.frames_deeper e0.frames,.inr ⟨rfl,rfl⟩,fun b z=>absurd z (noA b),e0.bs,e0.bsz,fun b _ _=>noA b,fun b z=>absurd z (noA b),e0.funs,e0.frf⟩,
  rfl,e0.bare,Un.kept hk,⟨_,x.toInCall.ns,fun i y v h1 h2 h3=>?_⟩,fun y c h=>⟨_,x.cell y c h⟩,e0.hok.fresh (Nat.le_refl _),fun y c h=>?_,fun p hp=>absurd (show p∈([]:List (Addr×Obj)) from hp) (by simp),e0.hok.kept hk,?_⟩
 ·exact name_of_addr x.apart (PySem.mem_of_lookup h1) (PySem.mem_of_lookup h2)
 ·have hy:scope.names.lookup y=some .cell∨scope.names.lookup y=some .free:=hy
  rcases hy with hy | hy
  ·exact Zgh hy
  ·exact absurd rfl (S.nofree _ (PySem.mem_of_lookup hy))
 ·exact Nat.le_of_lt (x.above y c (PySem.mem_of_lookup h))
 ·have hi:i<vs.length:=by
   unfold start at h2
   by_cases hi:i<vs.length
   ·exact hi
   ·rw [List.getElem?_append_right (by simpa using hi)] at h2
    rw [List.getElem?_replicate] at h2
    split at h2<;>cases h2
  have ha:vs[i]? = some v:=by
   unfold start at h2
   rw [List.getElem?_append_left (by simpa using hi),List.getElem?_map] at h2
   cases e:vs[i]? with
   | none=>rw [e] at h2;cases h2
   | some a=>rw [e] at h2;cases h2;rfl
  obtain ⟨u,hu,rv⟩:=r.get ha
  have hp:ps[i]? = some y:=by
   rw [<- S.pre,List.getElem?_take_of_lt (by lia)];exact h1
  have ndP:ps.Nodup:=by rw [<- S.pre];exact S.nd.sublist (List.take_sublist _ _)
  refine ⟨u,rv,?_⟩
  rcases S.par y (List.mem_of_getElem? hp) with k | k
  ·exact .inl ⟨k,Zec ndP hp hu k⟩
  ·obtain ⟨c,e⟩:=Zgh (n:=s.heap.objs.size+1) k
   refine .inr ⟨.inl k,c,e,?_⟩
   have q:=x.cell y c e
   rw [Zev ndP hp hu (by show scope.names.lookup y≠_;rw [k];decide)] at q
   exact q
 ·exact e0.hok.fresh (Nat.le_of_lt (x.above y c (PySem.mem_of_lookup h)))
 ·unfold start
  show _=N.length
  rw [List.length_append,List.length_map,List.length_replicate]
  lia
theorem Zm0 {CX:CXT}{P:Program}{w:World}{K:PySem.W.Frag}{mg:Str->Option Value}{base:Heap}{k:Nat}{f:Addr}{name qual:Str}{params:Arguments}{body:List Stmt}{scope:Scope}{dV kV doc pm cdv ct oc:Value}{an od:Option Addr}
  {osl:Array (Option Value)}{N ps:List Str}{sp:Sp} (lk:K.lookup f=some ⟨oc,od,.func (PySem.W.fnOf name qual params body scope dV kV doc pm an cdv ct),osl⟩) (hcd:PySem.W.codeIn K cdv qual=true) (S:Zp N ps scope)
  (len:∀vs H Q E,sp vs H Q E->vs.length=ps.length)
  (hbody:∀(A:Around) (outer:List Env) (s:Shared) (H:Hp) (vs:List V) (Q:VK) (E:XK),J6 k (A.deeper (envOfC qual scope s.heap.objs.size f cdv))->sp vs H Q E ->
   ∃t,PSs (Ws CX P w K mg base N qual scope f cdv A outer s H E) body t/\t { nx:=fun _ H'=>Q .non H',rt:=Q } (start N vs) H):
  ZX P w K mg base CX (k+1) f (PySem.W.fnOf name qual params body scope dV kV doc pm an cdv ct) ps sp:=by
 refine ⟨len,fun A outer s H args us vs Q E hr e0 hb r hsp=>?_⟩
 have hl:=len _ _ _ _ hsp
 have KX:K.In s.heap:=e0.mod.kin.keeps fun b o e=>(e0.bs b o e).1
 have lim:s.heap.NoLimit:=e0.mod.nolimit.keeps fun b o e=>(e0.bs b o e).1
 have hkind:∀y∈ps.zip us,scope.names.lookup y.1=some .local∨(scope.names.lookup y.1=some .cell/\((cellsFrom (s.heap.objs.size+1) scope.names []).lookup y.1).isSome=true):=fun ⟨n,v⟩ hy=>by
  rcases S.par n (List.of_mem_zip hy).1 with q | q
  ·exact .inl q
  ·exact .inr ⟨q,PySem.W.cellsFrom_some _ _ _ (.inl q)⟩
 refine codeAny_call_function hr.depth (KX _ _ lk) rfl S.co S.gen rfl (PySem.W.codeRec_of KX hcd) (hb _ _ _ _ ?_)
 refine wpAny_newFunctionEnv_cells S.kind hkind fun env he s1 x=>?_
 subst he
 refine ⟨lim.keeps x.toInCall.keep,codeAny_func ?_⟩
 obtain ⟨t,ht,hq⟩:=hbody A outer s H vs Q E (hr.deeper _) hsp
 have I:Inv (Ws CX P w K mg base N qual scope f cdv A outer s H E) [] (start N vs) H s1:=ZiU S hr.hd e0 hl r x
 refine wpAny_mono (ht [] s1 (start N vs) H _ I hq) (fun fl s' hs=>?_) fun e s' hs=>hs
 have fin:∀{σ':St}{H':Hp}{v:V}{u:Value},Inv (Ws CX P w K mg base N qual scope f cdv A outer s H E) [] σ' H' s'->RelV v u->Q v H'->CE outer P w H s Q u s':=
  fun {σ' H' v u} J rv q=>⟨v,H',J.os,J.bare,J.base,J.hok,rv,q⟩
 cases fl with
 | ret u=>
  obtain ⟨v,σ',H',J,rv,q⟩:=hs
  exact fin J rv q
 | next=>
  obtain ⟨σ',H',J,q⟩:=hs
  exact fin (v:=V.non) (u:=Value.none) J rfl q
 | brk=>
  obtain ⟨_,_,_,q⟩:=hs
  exact False.elim q
 | cont=>
  obtain ⟨_,_,_,q⟩:=hs
  exact False.elim q
section
variable {X:Cx}{x:Str}{p pos:Pos}{e:Expr}{es:List Expr}{t:TA}{id T:String}{r:List V->Hp->VK->Prop}
def tCB (r:List V->Hp->VK->Prop) (t:TA):TE:=fun σ H Q=>t σ H fun vs H1=>r vs H1 Q
theorem ZE (hc:WV X (.builtin id) r) (hg:Gl X x) (hm:X.mg x=none) (hv:bootBuiltins x=some (.builtin id)) (ha:PA X (e::es) t) (hn:x ≠ "__name__" := by decide) (hdb:(x==("__debug__" : Str))=false:=by decide)
  (he:starEach (e::es) X.env=(false,eval e X.env)::starEach es X.env:=by rfl) (hpl:(backTo pos (starEach es X.env)).any (·.1)=false:=by rfl):PE X (.Call (.Name x p) (e::es) [] pos) (tCB r t):=by
 intro pins s σ H Q I h
 refine wpAny_Call_Name_kw (ZbW I hg hm hv ?_ hn hdb)
 exact PyProof.Rows.callWith_builtin1 (YG (ha pos pins s σ H _ I h) fun us s1 ⟨vs,H1,I1,r1,q1⟩=>hc pins s1 σ H1 vs us Q I1 r1 q1) he hpl
theorem Zad (hc:WV X (.type T) r) (hg:Gl X x) (hm:X.mg x=none) (hv:bootBuiltins x=some (.type T)) (ha:PA X (e::es) t) (hn:x ≠ "__name__" := by decide) (hdb:(x==("__debug__" : Str))=false:=by decide)
  (he:starEach (e::es) X.env=(false,eval e X.env)::starEach es X.env:=by rfl) (hpl:(backTo pos (starEach es X.env)).any (·.1)=false:=by rfl):PE X (.Call (.Name x p) (e::es) [] pos) (tCB r t):=by
 intro pins s σ H Q I h
 refine wpAny_Call_Name_kw (ZbW I hg hm hv ?_ hn hdb)
 exact PyProof.Rows.callWith_type1 (YG (ha pos pins s σ H _ I h) fun us s1 ⟨vs,H1,I1,r1,q1⟩=>hc pins s1 σ H1 vs us Q I1 r1 q1) he hpl
end
end L2
namespace HT
open PySem PyProof.Rows
def lexLt:List Int->List Int->Bool
 | [],[]=>false
 | [],_::_=>true
 | _::_,[]=>false
 | x::xs,y::ys=>if x=y then lexLt xs ys else decide (x<y)
section
open PySem.SeqAt
open PySem.AutoSeq1 (wpAny_loadPart')
open PySem.MeetsSeq PySem.MeetsSeq2 PySem.MeetsSeq3
end
section
variable {prog:Program}{w:World}{A:Around}{E:Value->Shared->Prop}{s:Shared}
theorem ZmK {t b:Addr}{vs ws:List Value}{Q:Value->Shared->Prop} (ht:IsTup s.heap t vs.toArray) (hb:IsTup s.heap b ws.toArray) (hv:vs ≠ [])
  (h1:ws = []->Q (.ref t) s) (h2:ws ≠ []->Q (.ref s.heap.objs.size) { s with heap:=s.heap.push { cls:=.type "tuple", data:=.seq (vs++ws).toArray } })
  (hsz:vs.length+ws.length<=sizeLine):wpAny (model prog w) A (binaryOp .Add (.ref t) (.ref b)) Q E s:=by
 obtain ⟨⟨cls,dd,data,sl⟩,ho,hc,n,hd⟩:=id ht
 obtain ⟨⟨cls2,dd2,data2,sl2⟩,ho2,hc2,n2,hd2⟩:=id hb
 simp only at hc hd hc2 hd2
 subst hc hd hc2 hd2
 have e:vs.toArray++ws.toArray=(vs++ws).toArray:=by simp
 by_cases hw:ws = []
 ·exact concat_meets ⟨_,ho,rfl⟩ ⟨_,ho2,rfl⟩ noFill_tuple_add seq_tuple_add PySem.F.slot_tuple_add PySem.F.entry_tuple_add (PySem.F.args_tuple_add_2 _ _)
   (tuple_addW1 t b vs.toArray ws.toArray n n2 dd dd2 sl sl2 (by simpa using hv) (by simp [hw])) ⟨ho,ho2,h1 hw⟩
 ·refine concat_meets ⟨_,ho,rfl⟩ ⟨_,ho2,rfl⟩ noFill_tuple_add seq_tuple_add PySem.F.slot_tuple_add PySem.F.entry_tuple_add (PySem.F.args_tuple_add_2 _ _)
   (tuple_addW2 t b vs.toArray ws.toArray n n2 dd dd2 sl sl2 (by simpa using hv) (by simpa using hw) (by rw [List.size_toArray,List.size_toArray];exact hsz)) ⟨ho,ho2,?_⟩
  rw [e]
  exact h2 hw
def sIx (n d:Nat):Option Int->Nat
 | none=>d
 | some v=>if v<0 then (v+(n:Int)).toNat else min v.toNat n
theorem ZfS (n d:Nat):sIx n d none=d:=rfl
theorem Zii (n d k:Nat):sIx n d (some (k:Int))=min k n:=by
 show (if (k:Int)<0 then ((k:Int)+(n:Int)).toNat else min (k:Int).toNat n)=min k n
 rw [if_neg (by lia),Int.toNat_natCast]
end
end HT
namespace L2
open PySem PySem.Spec PyProof.Rows
abbrev TO:=St->Hp->(Option Int->Hp->Prop)->Prop
def PO (X:Cx) (e:Option Expr) (t:TO):Prop:=
 ∀(pins:List (Addr×Obj)) (s:Shared) (σ:St) (H:Hp) (Q:Option Int->Hp->Prop),Inv X pins σ H s->t σ H Q ->
  wpAny (model X.prog X.w) X.A (evalPart e X.env) (fun u s'=>∃o H',Inv X pins σ H' s'/\IsPart u o/\Q o H') X.xe s
def Zms:TO:=fun _ H Q=>Q none H
def Zpb (t:TE):TO:=fun σ H Q=>t σ H fun x H1=>∃i,x = .int i/\Q (some i) H1
section
variable {X:Cx}{e:Expr}{te:TE}{lo hi:Option Expr}{tl th:TO}{pos p2:Pos}
theorem Gh:PO X none Zms:=by
 intro pins s σ H Q I h
 rw [evalPart_none]
 exact wpAny_pure ⟨none,H,I,.none,h⟩
theorem YA (h:PE X e te):PO X (some e) (Zpb te):=by
 intro pins s σ H Q I hw
 rw [evalPart_some]
 refine YG (h pins s σ H _ I hw) fun u s1 ⟨x,H1,I1,r1,q1⟩=>?_
 obtain ⟨i,rfl,q⟩:=q1
 obtain ⟨t,rfl⟩:=r1
 exact ⟨some i,H1,I1,.int i t,q⟩
def SlR (X:Cx) (r:V->Option Int->Option Int->Hp->VK->Prop):Prop:=
 ∀(pins:List (Addr×Obj)) (s:Shared) (σ:St) (H:Hp) (x:V) (v vl vu:Value) (lo hi:Option Int) (sl:Addr) (Q:VK),Inv X pins σ H s->RelV x v->s.heap.IsSliceOf sl vl vu .none->IsPart vl lo->IsPart vu hi->r x lo hi H Q ->
  ∃T id,typeLookup (.type T) "__getitem__" = pure (some (.builtin id))/\s.TypeIs v T/\wpAny (model X.prog X.w) X.A (getItem v (.ref sl)) (EP X pins σ Q) X.xe s
def tSl (r:V->Option Int->Option Int->Hp->VK->Prop) (te:TE) (tl th:TO):TE:=fun σ H Q=>te σ H fun x H1=>tl σ H1 fun l H2=>th σ H2 fun u H3=>r x l u H3 Q
theorem J5 {r:V->Option Int->Option Int->Hp->VK->Prop} (hr:SlR X r) (he:PE X e te) (hl:PO X lo tl) (hu:PO X hi th):PE X (.Subscript e (.Slice lo hi none p2) pos) (tSl r te tl th):=by
 intro pins s σ H Q I h
 refine Subscript_ (YG (he pins s σ H _ I h) fun v s1 ⟨x,H1,I1,r1,q1⟩=>?_)
 refine wpAny_Slice (YG (hl pins s1 σ H1 _ I1 q1) fun vl s2 ⟨l,H2,I2,pl,q2⟩=>YG (hu pins s2 σ H2 _ I2 q2) fun vu s3 ⟨u,H3,I3,pu,q3⟩=>?_)
 rw [evalPart_none]
 refine wpAny_pure ?_
 have I4:Inv X pins σ H3 { s3 with heap:=s3.heap.push { cls:=.type "slice", data:=.fields #[vl,vu,.none] } }:=I3.kept (t':=s3.toks) fun b ob q=>Heap.get?_push_of_some _ q
 obtain ⟨T,id,hT,ht,hg⟩:=hr pins { s3 with heap:=s3.heap.push { cls:=.type "slice", data:=.fields #[vl,vu,.none] } } σ H3 x v vl vu l u s3.heap.objs.size Q I4 r1 (Heap.IsSliceOf.new ..) pl pu q3
 show wpAny (model X.prog X.w) X.A (subscriptTail e (.Slice lo hi none p2) v (.ref s3.heap.objs.size)) (EP X pins σ Q) X.xe { s3 with heap:=s3.heap.push { cls:=.type "slice", data:=.fields #[vl,vu,.none] } }
 exact tail_any (ops:=[.ref s3.heap.objs.size,v]) ht hT hg (by with_unfolding_all rfl)
def Zcj (xs:List V) (lo hi:Option Int):List V:=(xs.drop (HT.sIx xs.length 0 lo)).take (HT.sIx xs.length xs.length hi-HT.sIx xs.length 0 lo)
theorem ZgB (xs:List V) (lo hi:Option Int):(Zcj xs lo hi).length<=xs.length:=by
 unfold Zcj
 rw [List.length_take,List.length_drop]
 lia
end
def ixN (n:Nat) (i:Int):Option Nat:=if 0<=i then (if i<n then some i.toNat else none) else if -(n:Int)<=i then some (i+n).toNat else none
def atI {α:Type} (xs:List α) (i:Int):Option α:=(ixN xs.length i).bind fun j=>xs[j]?
theorem Zix {n:Nat}{i:Int}{j:Nat} (h:ixN n i=some j):seqIndex? i n=some j/\j<n /\ -(n:Int)<=i/\i<n:=by
 unfold ixN at h
 by_cases h0:0<=i
 ·rw [if_pos h0] at h
  by_cases h1:i<n
  ·rw [if_pos h1] at h
   have e:i.toNat=j:=Option.some.inj h
   exact ⟨by rw [seqIndex_of h0 h1,e],by lia,by lia,h1⟩
  ·rw [if_neg h1] at h;cases h
 ·rw [if_neg h0] at h
  by_cases h1 : -(n:Int)<=i
  ·rw [if_pos h1] at h
   have e:(i+n).toNat=j:=Option.some.inj h
   exact ⟨by rw [seqIndex_neg (by lia) h1,e],by lia,h1,by lia⟩
  ·rw [if_neg h1] at h;cases h
theorem Zil {α:Type}{xs:List α}{i:Int}{v:α} (h:atI xs i=some v):∃j,seqIndex? i xs.length=some j/\xs[j]? = some v/\j<xs.length /\ -(xs.length:Int)<=i/\i<xs.length:=by
 unfold atI at h
 cases e:ixN xs.length i with
 | none=>rw [e] at h;cases h
 | some j=>
  rw [e] at h
  obtain ⟨h1,h2,h3,h4⟩:=Zix e
  exact ⟨j,h1,h,h2,h3,h4⟩
theorem Zt {α:Type}{xs:List α}{j:Nat}{v:α} (h:xs[j]? = some v):atI xs (j:Int)=some v:=by
 have hj:j<xs.length:=(List.getElem?_eq_some_iff.mp h).1
 have e:ixN xs.length (j:Int)=some j:=by
  unfold ixN
  rw [if_pos (by lia),if_pos (by lia)];simp
 unfold atI;rw [e];exact h
theorem Zc0 {α:Type} (xs:List α) (v:α):atI (xs ++ [v]) (-1)=some v:=by
 have hl:(xs ++ [v]).length=xs.length+1:=by simp
 have e:ixN (xs ++ [v]).length (-1)=some xs.length:=by
  unfold ixN
  rw [hl,if_neg (by decide),if_pos (by lia)]
  congr 1
  lia
 unfold atI
 rw [e]
 show (xs ++ [v])[xs.length]? = some v
 simp
def ZmR (b:Expr):Prop:=∀o i,subscripted b false o i=operate [o,i] (getItem o i)
def IxR (X:Cx) (r:R2):Prop:=
 ∀(value slice:Expr) (pins:List (Addr×Obj)) (s:Shared) (σ:St) (H:Hp) (x y:V) (v u:Value) (Q:VK),Inv X pins σ H s->RelV x v->RelV y u->r x y H Q ->
  subscripted slice false v u=operate [v,u] (getItem v u)->wpAny (model X.prog X.w) X.A (subscriptTail value slice v u) (EP X pins σ Q) X.xe s
def MtR (X:Cx) (id:String) (r:V->List V->Hp->VK->Prop):Prop:=
 ∀(pins:List (Addr×Obj)) (s:Shared) (σ:St) (H:Hp) (x:V) (xs:List V) (v:Value) (us:List Value) (Q:VK),Inv X pins σ H s->RelV x v->Vals xs us->r x xs H Q ->
  wpAny (model X.prog X.w) X.A (call (.builtin id) (v::us)) (EP X pins σ Q) X.xe s
section
variable {X:Cx}{a b:Expr}{ta tb:TE}{pos:Pos}
theorem Zv {r:R2} (hr:IxR X r) (ha:PE X a ta) (hb:PE X b tb) (hs:ZmR b):PE X (.Subscript a b pos) (tOp r ta tb):=by
 intro pins s σ H Q I h
 exact Subscript_ (Zne ha hb I h fun v u s2 x y H2 I2 rx ry q=>hr a b pins s2 σ H2 x y v u Q I2 rx ry q (hs _ _))
def Zpg (K:PySem.W.Frag):R2:=fun x y H Q=>∃p xs i v,x = .ref p/\y = .int i/\Zo K H p xs/\atI xs i=some v/\Q v H
def ZoY (K:PySem.W.Frag):R2:=fun x y H Q=>∃p xs i v,x = .ref p/\y = .int i/\Uw K H p xs/\atI xs i=some v/\Q v H
theorem ZlD:IxR X (Zpg X.K):=by
 intro value slice pins s σ H x y v u Q I rx ry h hs
 obtain ⟨p,xs,i,z,rfl,rfl,hq,he,q⟩:=h
 cases rx
 obtain ⟨t,rfl⟩:=ry
 obtain ⟨its,r,pl,hz⟩:=I.list hq
 obtain ⟨j,h1,h2,h3,h4,h5⟩:=Zil he
 obtain ⟨w,ew,rw'⟩:=r.get h2
 have hl:=r.length
 have hn:=Zdy
 have fin:EP X pins σ Q w s:=⟨z,H,I,rw',q⟩
 by_cases h0:0<=i
 ·have hj:i.toNat=j:=by
   rw [seqIndex_of h0 h5] at h1
   exact Option.some.inj h1
  exact item_listR pl.isList h0 (by lia) (by rw [hj];simpa using ew) fin hs
 ·have hj:(i+(its.toArray.size:Int)).toNat=j:=by
   rw [seqIndex_neg (by lia) h4] at h1
   rw [List.size_toArray,<- hl]
   exact Option.some.inj h1
  exact subscriptTail_builtinR (x:=w) pl.isList.typeIs slot_list_getitem.lookup
   (wpAny_getItem_list_neg (Q:=fun r s'=>r=w/\EP X pins σ Q r s') pl.isList (by lia) (by rw [List.size_toArray]<;>lia) (by lia) (by rw [hj];simpa using ew) ⟨rfl,fin⟩) hs
theorem ZnZ:IxR X (ZoY X.K):=by
 intro value slice pins s σ H x y v u Q I rx ry h hs
 obtain ⟨p,xs,i,z,rfl,rfl,hq,he,q⟩:=h
 cases rx
 obtain ⟨t,rfl⟩:=ry
 obtain ⟨its,r,pl,hz⟩:=I.tuple hq
 obtain ⟨j,h1,h2,h3,h4,h5⟩:=Zil he
 obtain ⟨w,ew,rw'⟩:=r.get h2
 have hl:=r.length
 have hn:=Zdy
 have fin:EP X pins σ Q w s:=⟨z,H,I,rw',q⟩
 exact subscriptTail_builtinR (x:=w) pl.typeIs slot_tuple_getitem.lookup
  (getItem_tuple (j:=j) (Q:=fun r s'=>r=w/\EP X pins σ Q r s') pl (by lia) (by lia) (by rw [List.size_toArray,<- hl];exact h1) (by simpa using ew) ⟨rfl,fin⟩) hs
theorem ZgU (its:List Value) (n j:Nat) (u:Value):Obj.mapSeq (·.setIfInBounds j u) { cls:=.type "list", data:=.seq its.toArray n } = { cls:=.type "list", data:=.seq (its.set j u).toArray n }:=by
 simp [Obj.mapSeq]
theorem Inv.lst {pins:List (Addr×Obj)} {σ:St}{H:Hp}{s:Shared}{p:Addr}{xs:List V} (I:Inv X pins σ H s) (h:H p=some (.lst xs)):
  ∃(its:List Value) (n:Nat),Vals xs its/\s.heap.get? p=some { cls:=.type "list", data:=.seq its.toArray n } /\ xs.length<=sizeLine:=by
 obtain ⟨z,its,n,r,e⟩:=I.hok p _ h
 exact ⟨its,n,r,e,z⟩
theorem Inv.lstUpd {pins:List (Addr×Obj)} {σ:St}{H:Hp}{s:Shared}{p:Addr}{xs ys:List V}{its its':List Value}{n n':Nat}{f:Obj->Obj} (I:Inv X pins σ H s) (h:H p=some (.lst xs))
  (ho:s.heap.get? p=some { cls:=.type "list", data:=.seq its.toArray n }) (hf:f { cls:=.type "list", data:=.seq its.toArray n } = { cls:=.type "list", data:=.seq its'.toArray n' }) (r:Vals ys its') (hz:ys.length<=sizeLine) (t:Nat):
  Inv X pins σ (upd H p (.lst ys)) { s with heap:=s.heap.update p f,toks:=t }:=by
 have e:(s.heap.update p f).get? p=some { cls:=.type "list", data:=.seq its'.toArray n' }:=by
  rw [Heap.get?_update_self f ho (by rw [hf]<;>rfl),hf]
 refine I.write (x:=p) (e:=p) (by rw [h];trivial) (.inl rfl) (fun b u hb q=>(Heap.get?_update_other _ _ (Ne.symm hb)).trans q) ⟨_,e⟩ ?_
 exact ⟨hz,its',n',r,e⟩
def Zpn:V->V->V->Hp->(Hp->Prop)->Prop:=fun o i v H Q=>∃p xs k j,o = .ref p/\i = .int k/\H p=some (.lst xs)/\ixN xs.length k=some j/\Q (upd H p (.lst (xs.set j v)))
theorem set_list:Zoy X Zpn:=by
 intro pins s σ H o i v ov iv u Q I ro ri rv h
 obtain ⟨p,xs,k,j,rfl,rfl,hp,hj,q⟩:=h
 cases ro
 obtain ⟨t,rfl⟩:=ri
 obtain ⟨its,n,r,ho,hz⟩:=I.lst hp
 obtain ⟨h1,h2,h3,h4⟩:=Zix hj
 have hl:=r.length
 have hn:=Zdy
 have I':Inv X pins σ (upd H p (.lst (xs.set j v))) { s with heap:=s.heap.update p (Obj.mapSeq (·.setIfInBounds j u)) }:=
  I.lstUpd hp ho (ZgU its n j u) (r.set rv j) (by rw [List.length_set];exact hz) s.toks
 by_cases h0:0<=k
 ·have hk:k.toNat=j:=by
   rw [seqIndex_of h0 h4] at h1
   exact Option.some.inj h1
  exact PySem.W.ki_setAt ho h0 (by lia) (by rw [List.size_toArray,<- hl];exact h4) (by rw [hk];exact ⟨_,I',q⟩)
 ·have hk:(k+(its.toArray.size:Int)).toNat=j:=by
   rw [seqIndex_neg (by lia) h3] at h1
   rw [List.size_toArray,<- hl]
   exact Option.some.inj h1
  exact PySem.W.ki_setBack ho (by lia) (by rw [List.size_toArray,<- hl];exact h3) (by lia) (by rw [hk];exact ⟨_,I',q⟩)
theorem ZeH (lo hi:Option Int) (n:Nat):(sliceBounds lo hi none n).1=((HT.sIx n 0 lo:Nat):Int)/\(sliceBounds lo hi none n).2.1=((HT.sIx n n hi:Nat):Int)/\(sliceBounds lo hi none n).2.2=1:=by
 refine ⟨?_,?_,rfl⟩
 ·cases lo with
  | none=>simp [sliceBounds,HT.sIx]
  | some i=>
   simp only [sliceBounds,HT.sIx,Option.getD_none,show (1:Int)>0 by decide,if_true]
   by_cases h:i<0
   ·simp only [h,if_true]<;>lia
   ·simp only [h,if_false]<;>lia
 ·cases hi with
  | none=>simp [sliceBounds,HT.sIx]
  | some i=>
   simp only [sliceBounds,HT.sIx,Option.getD_none,show (1:Int)>0 by decide,if_true]
   by_cases h:i<0
   ·simp only [h,if_true]<;>lia
   ·simp only [h,if_false]<;>lia
theorem ZdO (its:List Value) (lo hi:Option Int):slicePick its.toArray lo hi none=((its.drop (HT.sIx its.length 0 lo)).take (HT.sIx its.length its.length hi-HT.sIx its.length 0 lo)).toArray:=by
 obtain ⟨h1,h2,h3⟩:=ZeH lo hi its.toArray.size
 unfold slicePick
 rw [h1,h2,h3]
 simp only [sliceRange_one,pick_run,List.size_toArray]<;>rfl
def ZoV (K:PySem.W.Frag):V->Option Int->Option Int->Hp->VK->Prop:=fun x lo hi H Q=>∃a xs,x = .ref a/\Zo K H a xs /\ ∀p,H p=none->Q (.ref p) (upd H p (.lst (Zcj xs lo hi)))
theorem ZmQ:SlR X (ZoV X.K):=by
 intro pins s σ H x v vl vu lo hi sl Q I rx hs pl pu h
 obtain ⟨a,xs,rfl,hx,q⟩:=h
 cases rx
 obtain ⟨its,r,ht,hz⟩:=I.list hx
 have hlen:=r.length
 refine ⟨"list", _,slot_list_getitem.lookup,ht.isList.typeIs,?_⟩
 refine wpAny_getItem_list_slice ht.isList hs pl pu .none (by simp) ?_ (by rw [List.size_toArray]<;>lia)
 rw [ZdO,<- hlen]
 refine ⟨.ref s.heap.objs.size,_,I.laid (t':=s.toks) (o:=.lst (Zcj xs lo hi)) (fun b ob q=>Heap.get?_push_of_some _ q) (Nat.le_refl _) ?_,rfl,q _ (I.hok.fresh (Nat.le_refl _))⟩
 exact ⟨Nat.le_trans (ZgB xs lo hi) hz,_,0,(r.drop (HT.sIx xs.length 0 lo)).take (HT.sIx xs.length xs.length hi-HT.sIx xs.length 0 lo),Heap.get?_push_size _ rfl⟩
def GC:V->Bool
 | .non=>true
 | .bl _=>true
 | .int _=>true
 | .str _=>true
 | _=>false
def eqV:V->V->Bool
 | .non,.non=>true
 | .bl a,.bl b=>a==b
 | .bl a,.int b=>(if a then 1 else 0)==b
 | .int a,.bl b=>a==(if b then 1 else 0)
 | .int a,.int b=>a==b
 | .str a,.str b=>a==b
 | _,_=>false
theorem ZjT {A:Around}{s:Shared}{y x:V}{u v:Value} (ry:RelV y u) (rx:RelV x v) (fy:GC y=true) (fx:GC x=true):SeqAt.EqAt A s u v (eqV y x):=by
 cases y with
 | non=>
  cases ry
  cases x with
  | non=>cases rx;exact SeqAt.EqAt.same _
  | bl b=>cases rx;exact SeqAt.EqAt.none_bool b
  | int b=>obtain ⟨t,rfl⟩:=rx;exact SeqAt.EqAt.none_int b t
  | str b=>obtain ⟨t,rfl⟩:=rx;exact SeqAt.EqAt.none_str b t
  | _=>exact absurd (show false=true from fx) Bool.false_ne_true
 | bl a=>
  cases ry
  cases x with
  | non=>cases rx;exact SeqAt.EqAt.bool_none a
  | bl b=>cases rx;exact SeqAt.EqAt.bool_bool a b
  | int b=>obtain ⟨t,rfl⟩:=rx;exact SeqAt.EqAt.bool_int a b t
  | str b=>obtain ⟨t,rfl⟩:=rx;exact SeqAt.EqAt.bool_str a b t
  | _=>exact absurd (show false=true from fx) Bool.false_ne_true
 | int a=>
  obtain ⟨t',rfl⟩:=ry
  cases x with
  | non=>cases rx;exact SeqAt.EqAt.int_none a t'
  | bl b=>cases rx;exact SeqAt.EqAt.int_bool a t' b
  | int b=>obtain ⟨t,rfl⟩:=rx;exact SeqAt.EqAt.int_int a t' b t
  | str b=>obtain ⟨t,rfl⟩:=rx;exact SeqAt.EqAt.int_str a t' b t
  | _=>exact absurd (show false=true from fx) Bool.false_ne_true
 | str a=>
  obtain ⟨t',rfl⟩:=ry
  cases x with
  | non=>cases rx;exact SeqAt.EqAt.str_none a t'
  | bl b=>cases rx;exact SeqAt.EqAt.str_bool a t' b
  | int b=>obtain ⟨t,rfl⟩:=rx;exact SeqAt.EqAt.str_int a t' b t
  | str b=>obtain ⟨t,rfl⟩:=rx;exact SeqAt.EqAt.str_str a t' b t
  | _=>exact absurd (show false=true from fx) Bool.false_ne_true
 | _=>exact absurd (show false=true from fy) Bool.false_ne_true
def eqU (x:V) (u:Value):Bool:=match u with
 | .none=>eqV .non x
 | .bool b=>eqV (.bl b) x
 | .int i _=>eqV (.int i) x
 | .str z _=>eqV (.str z) x
 | _=>false
theorem Zlw {x y:V}{u:Value} (r:RelV y u) (f:GC y=true):eqU x u=eqV y x:=by
 cases y with
 | non=>cases r;rfl
 | bl b=>cases r;rfl
 | int i=>obtain ⟨t,rfl⟩:=r;rfl
 | str z=>obtain ⟨t,rfl⟩:=r;rfl
 | _=>exact absurd (show false=true from f) Bool.false_ne_true
theorem Zfz {A:Around}{s:Shared}{x:V}{v:Value} (rx:RelV x v) (fx:GC x=true):∀{xs:List V}{us:List Value},Vals xs us->xs.all GC=true -> ∀u∈us,SeqAt.EqAt A s u v (eqU x u)
 | _,_,.nil,_=>fun u hu=>by cases hu
 | y::xs,u::us,.cons r t,f=>fun u' hu=>by
  rw [List.all_cons,Bool.and_eq_true] at f
  rcases List.mem_cons.mp hu with rfl | hu
  ·rw [Zlw r f.1];exact ZjT r rx f.1 fx
  ·exact Zfz rx fx t f.2 u' hu
theorem ZeR:WV X (.builtin "len") (fun xs H Q=>∃p ys,xs = [.ref p]/\(Zo X.K H p ys∨Uw X.K H p ys)/\Q (.int ys.length) H):=by
 intro pins s σ H xs us Q I r h
 obtain ⟨p,ys,rfl,hq,q⟩:=h
 obtain ⟨u,rfl,rx⟩:=vals1 r
 cases rx
 have hn:=Zdy
 rcases hq with hq | hq
 ·obtain ⟨its,r',pl,hz⟩:=I.list hq
  have hlen:=r'.length
  exact Calls.call_len_list pl.isList (by simp only [List.size_toArray]<;>lia) ⟨.int ys.length,H,I.tok _,⟨s.toks+1,by rw [List.size_toArray,hlen]⟩,q⟩
 ·obtain ⟨its,r',pl,hz⟩:=I.tuple hq
  have hlen:=r'.length
  exact len_tuple pl (by simp only [List.size_toArray]<;>lia) ⟨.int ys.length,H,I.tok _,⟨s.toks+1,by rw [List.size_toArray,hlen]⟩,q⟩
theorem ZeA:WV X (.type "list") (fun xs H Q=>∃p ys,xs = [.ref p]/\(Zo X.K H p ys∨Uw X.K H p ys) /\ ∀l,H l=none->Q (.ref l) (upd H l (.lst ys))):=by
 intro pins s σ H xs us Q I r h
 obtain ⟨p,ys,rfl,hq,q⟩:=h
 obtain ⟨u,rfl,rx⟩:=vals1 r
 cases rx
 have fin:∀(its:List Value),Vals ys its->ys.length<=sizeLine -> ∀(h':Heap) (c':Nat),(∀b o',s.heap.get? b=some o'->h'.get? b=some o') ->
   h'.get? s.heap.objs.size=some { cls:=.type "list", dict:=none,data:=.seq its.toArray c',slots:=#[] } -> EP X pins σ Q (.ref s.heap.objs.size) { s with heap:=h' }:=fun its r' hz h' c' kp e=>
  ⟨.ref s.heap.objs.size,_,I.laid (t':=s.toks) kp (Nat.le_refl _) (show Yy X.prog X.w _ h' _ (.lst ys) from ⟨hz,its,c',r',e⟩),rfl,q _ (I.hok.fresh (Nat.le_refl _))⟩
 rcases hq with hq | hq
 ·obtain ⟨its,r',pl,hz⟩:=I.list hq
  have hlen:=r'.length
  obtain ⟨o,ho,hc,n,hd⟩:=pl.isList
  exact call_list_seq p (.inl rfl) ho hc hd (fun h' c' kp e=>fin its r' hz h' c' kp e) (by simp only [List.size_toArray]<;>lia)
 ·obtain ⟨its,r',pl,hz⟩:=I.tuple hq
  have hlen:=r'.length
  obtain ⟨o,ho,hc,n,hd⟩:=pl
  exact call_list_seq p (.inr rfl) ho hc hd (fun h' c' kp e=>fin its r' hz h' c' kp e) (by simp only [List.size_toArray]<;>lia)
def tyV (K:PySem.W.Frag) (T:String) (x:V) (H:Hp):Prop:=match x with
 | .str _=>T = "str"
 | .int _=>T = "int"
 | .ref p=>(T = "list" /\ ∃xs,Zo K H p xs)∨(T = "tuple" /\ ∃o,K.lookup p=some o/\o.cls = .type "tuple" /\ o.dict=none) ∨
   (T = "dict" /\ ((∃kvs,H p=some (.dK kvs)) ∨ ∃kvs,H p=some (.dT kvs)))∨(T = "set" /\ ∃S n,H p=some (.set S n))
 | _=>False
theorem Zoq {pins:List (Addr×Obj)} {σ:St}{H:Hp}{s:Shared}{T:String}{x:V}{v:Value} (I:Inv X pins σ H s) (r:RelV x v) (ty:tyV X.K T x H):
  s.TypeIs v T /\ ∀a,v = .ref a -> ∃ob,s.heap.get? a=some ob/\ob.dict=none:=by
 cases x with
 | str z=>
  obtain ⟨t,rfl⟩:=r
  cases (show T = "str" from ty)
  exact ⟨typeIs_str s z t,fun _ e=>nomatch e⟩
 | int i=>
  obtain ⟨t,rfl⟩:=r
  cases (show T = "int" from ty)
  exact ⟨typeIs_int s i t,fun _ e=>nomatch e⟩
 | ref p=>
  cases r
  rcases ty with ⟨rfl,xs,hq⟩ | ⟨rfl,o,hk,hc,hd⟩ | ⟨rfl,hk⟩ | ⟨rfl,S,n,hk⟩
  ·obtain ⟨its,_,pl,_⟩:=I.list hq
   refine ⟨pl.isList.typeIs,fun a e=>?_⟩
   cases e
   obtain ⟨o,n,e,c,hd,_⟩:=pl
   exact ⟨o,e,hd⟩
  ·refine ⟨⟨o,I.kIn p o hk,hc⟩,fun a e=>?_⟩
   cases e
   exact ⟨o,I.kIn _ o hk,hd⟩
  ·have z:∃o,s.heap.get? p=some o/\o.ExactDict:=by
    rcases hk with ⟨kvs,hk⟩ | ⟨kvs,hk⟩
    ·obtain ⟨_,_,_,_,o,_,_,e,ex,_⟩:=I.hok p _ hk
     exact ⟨o,e,ex⟩
    ·obtain ⟨_,_,_,_,o,_,_,e,ex,_⟩:=I.hok p _ hk
     exact ⟨o,e,ex⟩
   obtain ⟨o,e,ex⟩:=z
   refine ⟨⟨o,e,ex.1⟩,fun a e2=>?_⟩
   cases e2
   exact ⟨o,e,ex.2.1⟩
  ·obtain ⟨o,_,_,_,e,ex,_⟩:=I.hok p _ hk
   refine ⟨⟨o,e,ex.1⟩,fun a e2=>?_⟩
   cases e2
   exact ⟨o,e,ex.2.1⟩
 | _=>exact False.elim ty
def tBM (K:PySem.W.Frag) (T:String) (r:V->List V->Hp->VK->Prop) (to:TE) (t:TA):TE:=fun σ H Q=>to σ H fun x H1=>tyV K T x H1/\t σ H1 fun xs H2=>r x xs H2 Q
variable {o e:Expr}{es:List Expr}{to:TE}{t:TA}{name:Str}{apos cpos:Pos}{T id:String}{r:V->List V->Hp->VK->Prop}
theorem JJ (pa:PlainAttrs T) (slot:Slot T name id) (hty:typeOf (.builtin id)=pure (.type "method_descriptor")) (hm:MtR X id r) (ho:PE X o to) (ha:PA X (e::es) t)
  (hbase:attributeBase o name X.env (eval o X.env)=eval o X.env:=by rfl)
  (hfew:((backTo cpos (starEach (e::es) X.env)).all (fun x=>!x.1)&&(backToKw cpos (keywordEach [] X.env)).all (fun x=>x.1.isSome)
   && decide ((e::es).length+([]:List Keyword).length+(if ([]:List Keyword).isEmpty then 0 else 1)<30))=true:=by rfl)
  (hline:(apos.endLine==cpos.line)=true:=by rfl) (hs:starEach (e::es) X.env=(false,eval e X.env)::starEach es X.env:=by rfl) (hplain:(backTo cpos (starEach es X.env)).any (·.1)=false:=by rfl):
  PE X (.Call (.Attribute o name apos) (e::es) [] cpos) (tBM X.K T r to t):=by
 intro pins s σ H Q I h
 refine wpAny_Call_method_late hbase hfew hline rfl (YG (ho pins s σ H _ I h) fun v s1 ⟨x,H1,I1,r1,ty,q1⟩=>?_)
 obtain ⟨h1,h2⟩:=Zoq I1 r1 ty
 refine ⟨T,id,pa,slot,hty,h1,h2,?_⟩
 have hA:=ha cpos pins s1 σ H1 _ I1 q1
 rw [hs] at hA ⊢
 refine Calls.callWith_builtin (by show (false||(backTo cpos (starEach es X.env)).any (·.1))=false;rw [hplain]<;>rfl) (Calls.evalArgs_plain ?_)
 exact YG hA fun us s2 ⟨vs,H2,I2,r2,q2⟩=>hm pins s2 σ H2 x vs v us Q I2 r1 r2 q2
end
def MtM (X:Cx) (id:String) (r:V->List V->Hp->VK->Prop):Prop:=
 ∀(pins:List (Addr×Obj)) (s:Shared) (σ:St) (H:Hp) (x:V) (xs:List V) (v:Value) (us:List Value) (Q:VK),Inv X pins σ H s->RelV x v->Vals xs us->r x xs H Q ->
  wpAny (model X.prog X.w) X.A (call (.builtin id) (v::us)) (EP X pins σ Q) X.xe s
theorem Vals.one:∀{x:V}{us:List Value},Vals [x] us -> ∃u,us = [u]/\RelV x u
 | _,_,.cons r .nil=>⟨_,rfl,r⟩
theorem Vals.two:∀{x y:V}{us:List Value},Vals [x,y] us -> ∃u v,us = [u,v]/\RelV x u/\RelV y v
 | _,_,_,.cons r (.cons q .nil)=>⟨_,_,rfl,r,q⟩
theorem Vals.rep {xs:List V}{us:List Value} (h:Vals xs us):∀k:Nat,Vals (List.replicate k xs).flatten (List.replicate k us).flatten
 | 0=>.nil
 | k+1=>by
  rw [List.replicate_succ,List.replicate_succ,List.flatten_cons,List.flatten_cons]
  exact Vals.append h (Vals.rep h k)
theorem foldl_rep (its:List Value):∀(k:Nat) (acc:List Value),
  List.foldl (fun x1 x2=>x1++x2) acc.toArray (List.replicate k its.toArray)=(acc++(List.replicate k its).flatten).toArray
 | 0,acc=>by simp
 | k+1,acc=>by
  have e:acc.toArray++its.toArray=(acc++its).toArray:=by simp
  have e2:(acc++its)++(List.replicate k its).flatten=acc++(List.replicate (k+1) its).flatten:=by
   rw [List.replicate_succ,List.flatten_cons,List.append_assoc]
  rw [<- e2,<- foldl_rep its k (acc++its),<- e,List.replicate_succ,List.foldl_cons]
section
variable {X:Cx}{pins:List (Addr×Obj)} {σ:St}{H:Hp}{s:Shared}{l b:Addr}{xs ys zs:List V}
theorem Inv.lset {its its':List Value}{n:Nat}{f:Array Value->Array Value}{t':Nat} (I:Inv X pins σ H s) (hH:H l=some (.lst xs))
  (e:s.heap.get? l=some { cls:=.type "list", data:=.seq its.toArray n }) (hf:f its.toArray=its'.toArray) (hv:Vals ys its') (hz:ys.length<=sizeLine):
  Inv X pins σ (upd H l (.lst ys)) { s with heap:=s.heap.update l (Obj.mapSeq f),toks:=t' }:=by
 have q:=PySem.IsL.update e f
 rw [hf] at q
 refine I.write (x:=l) (e:=l) (by rw [hH];exact trivial) (.inl rfl) (fun b' u hb hu=>(Heap.get?_update_other s.heap (Obj.mapSeq f) (Ne.symm hb)).trans hu) ⟨_,q⟩ ?_
 exact ⟨hz,its',_,hv,q⟩
theorem Inv.lnew {its:List Value}{t':Nat} (I:Inv X pins σ H s) (hv:Vals ys its) (hz:ys.length<=sizeLine):
  Inv X pins σ (upd H s.heap.objs.size (.lst ys)) { s with heap:=s.heap.push { cls:=.type "list", data:=.seq its.toArray },toks:=t' }:=
 I.laid (fun _ _ q=>Heap.get?_push_of_some _ q) (Nat.le_refl _) ⟨hz,its,0,hv,Heap.get?_push_size _ rfl⟩
theorem Inv.fresh (I:Inv X pins σ H s):H s.heap.objs.size=none:=I.hok.fresh (Nat.le_refl _)
theorem Inv.lstM (I:Inv X pins σ H s) (hH:H l=some (.lst xs)):xs.length<=sizeLine /\ ∃(its:List Value) (n:Nat),Vals xs its/\xs.length=its.length/\s.heap.get? l=some { cls:=.type "list", data:=.seq its.toArray n }:=by
 obtain ⟨z,its,n,r,e⟩:=I.hok l _ hH
 exact ⟨z,its,n,r,r.length,e⟩
theorem ZcY {n:Nat} (h:n<=sizeLine):Builtin.List.listTooLong n=false:=by
 unfold Builtin.List.listTooLong
 exact decide_eq_false (by lia)
end
section
variable {X:Cx}
def ZhR:V->List V->Hp->VK->Prop:=fun x vs H Q=>∃l xs y,x = .ref l/\vs = [y]/\H l=some (.lst xs)/\xs.length<sizeLine/\Q .non (upd H l (.lst (xs ++ [y])))
theorem Z4:MtM X "list.append" ZhR:=by
 intro pins s σ H x vs v us Q I rx rv h
 obtain ⟨l,xs,y,rfl,rfl,hH,hz,q⟩:=h
 cases rx
 obtain ⟨u,rfl,ru⟩:=rv.one
 obtain ⟨z,its,n,r,hl,e⟩:=I.lstM hH
 refine call_meets F.slot_list_append ⟨_,e,rfl⟩ F.entry_list_append (F.args_list_append_2 _ _) (PySem.list_append l its.toArray n u (by rw [List.size_toArray];lia)) ⟨e,?_⟩
 refine ⟨.non,_,I.lset (its':=its ++ [u]) hH e (by simp) (r.append (.cons ru .nil)) ?_,rfl,q⟩
 rw [List.length_append,List.length_singleton]
 lia
def Zqm:R2:=fun x y H Q=>∃l b xs zs,x = .ref l/\y = .ref b/\H l=some (.lst xs)/\H b=some (.lst zs)/\xs.length+zs.length<=sizeLine /\ ∀p,H p=none->Q (.ref p) (upd H p (.lst (xs++zs)))
theorem ZdH:OpR X (binaryOp .Add) Zqm:=by
 intro pins s σ H x y v u Q I rx ry h
 obtain ⟨l,b,xs,zs,rfl,rfl,hH,hB,hz,q⟩:=h
 cases rx
 cases ry
 obtain ⟨z,its,n,r,hl,e⟩:=I.lstM hH
 obtain ⟨z2,its2,n2,r2,hl2,e2⟩:=I.lstM hB
 refine PySem.P.add_list e e2 ?_ (by rw [List.size_toArray,List.size_toArray];lia)
 have ea:its.toArray++its2.toArray=(its++its2).toArray:=by simp
 rw [ea]
 exact ⟨.ref _,_,I.lnew (t':=s.toks) (r.append r2) (by rw [List.length_append];lia),rfl,q _ I.fresh⟩
def ZkV:R2:=fun x y H Q=>∃l k xs,x = .ref l/\y = .int k/\H l=some (.lst xs) /\ -(2 ^ 63)<=k/\k<2 ^ 63/\xs.length*k.toNat<=sizeLine /\
 ∀p,H p=none->Q (.ref p) (upd H p (.lst (List.replicate k.toNat xs).flatten))
theorem len_rep {α:Type} (xs:List α) (k:Nat):(List.replicate k xs).flatten.length=k*xs.length:=by
 induction k with
 | zero=>simp
 | succ k ih=>rw [List.replicate_succ,List.flatten_cons,List.length_append,ih,Nat.succ_mul,Nat.add_comm]
theorem ZaN:OpR X (binaryOp .Mult) ZkV:=by
 intro pins s σ H x y v u Q I rx ry h
 obtain ⟨l,k,xs,rfl,rfl,hH,h1,h2,hz,q⟩:=h
 cases rx
 obtain ⟨t,rfl⟩:=ry
 obtain ⟨z,its,n,r,hl,e⟩:=I.lstM hH
 have hlen:its.toArray.size*k.toNat<=sizeLine:=by rw [List.size_toArray,<- hl];exact hz
 have hcap:¬its.toArray.size*k.toNat>(2 ^ 63-1) / 8:=by
  have:(sizeLine:Nat)<=(2 ^ 63-1) / 8:=by decide
  lia
 have hfit:¬(!Builtin.List.listFitsIndex k)=true:=by
  rw [fitsIndex_both h1 h2]
  exact Bool.false_ne_true
 have hlong:¬Builtin.List.listTooLong (its.toArray.size*k.toNat)=true:=by
  rw [ZcY hlen]
  exact Bool.false_ne_true
 have hnew:List.foldl (fun x1 x2=>x1++x2) #[] (List.replicate (if its.toArray.isEmpty=true then 0 else k.toNat) its.toArray)=(List.replicate k.toNat its).flatten.toArray:=by
  have f0:∀m:Nat,List.foldl (fun x1 x2=>x1++x2) #[] (List.replicate m its.toArray)=(List.replicate m its).flatten.toArray:=fun m=>by
   have:=foldl_rep its m []
   rw [List.nil_append] at this
   exact this
  rw [f0]
  cases its with
  | nil=>simp
  | cons a r'=>rw [if_neg (by simp)]
 refine wpAny_binaryOp_repeat_ref (T := "list") (U := "int") (by decide) ⟨_,e,rfl⟩ (fun s'=>typeIs_int s' k t) noFill_list_mul F.fills_int_mul F.slot_int_rmul repeat_list F.slot_int_index.lookup
  (call_meets F.slot_int_rmul (typeIs_int s k t) F.entry_int_rmul (F.args_int_rmul_2 _ _) (int___rmul___int_list k t l its.toArray n)
   ⟨e,rfl,⟨_,e,rfl⟩,call_meets F.slot_list_mul ⟨_,e,rfl⟩ F.entry_list_mul (F.args_list_mul_2 _ _) (AutoListH.list___mul___list_int_3 l its.toArray n k t hfit hcap hlong) ⟨e,?_⟩⟩)
 rw [hnew]
 exact ⟨.ref _,_,I.lnew (t':=s.toks) (r.rep k.toNat) (by rw [len_rep,Nat.mul_comm];exact hz),rfl,q _ I.fresh⟩
end
section
variable {prog:Program}{w:World}{A:Around}{E:Value->Shared->Prop}{s:Shared}
theorem Zi4 (its its2:List Value) (a c:Nat):its.toArray.extract 0 a++its2.toArray++its.toArray.extract c its.toArray.size=(its.take a++its2++its.drop c).toArray:=by
  apply Array.toList_inj.mp
  first
    | (simp
       exact List.take_of_length_le (by simp))
    | simp [List.take_of_length_le]
    | simp
theorem Zdd {a c n:Nat} (hac:a<=c) (hc:c<=n):sliceBounds (some (a:Int)) (some (c:Int)) none n=((a:Int),(c:Int),1):=by
 simp only [sliceBounds,Option.getD_none]
 have h1:¬((a:Int)<0):=by lia
 have h2:¬((c:Int)<0):=by lia
 simp only [h1,h2,if_false,show (1:Int)>0 by decide,if_true]
 congr 1
 ·lia
 ·congr 1;lia
set_option maxRecDepth 100000 in
theorem ZdZ {l b sl:Addr}{items new:Array Value}{n n2:Nat}{vl vu:Value}{a c:Nat}{Q:Unit->Shared->Prop}
    (e:s.heap.get? l=some { cls:=.type "list", data:=.seq items n }) (e2:s.heap.get? b=some { cls:=.type "list", data:=.seq new n2 }) (hne:l≠b)
    (hs:s.heap.IsSliceOf sl vl vu .none) (pl:IsPart vl (some (a:Int))) (pu:IsPart vu (some (c:Int))) (hac:a<=c) (hc:c<=items.size)
    (hsz:items.size+new.size<=sizeLine) (h:Q () { s with heap:=s.heap.update l (Obj.mapSeq fun xs=>xs.extract 0 a++new++xs.extract c xs.size) }):
    wpAny (model prog w) A (setItem (.ref l) (.ref sl) (.ref b)) Q E s:=by
  have hl:s.heap.IsList l items:=PySem.IsL.isList e
  have hb:s.heap.IsList b new:=PySem.IsL.isList e2
  obtain ⟨os,hos,hcs,hds⟩:=id hs
  have hTs:s.TypeIs (.ref sl) "slice" := ⟨os,hos,hcs⟩
  have hstep:¬((rawPart none==rawInt 0)=true):=Bool.false_ne_true
  have hsame:Builtin.List.listSameRef (.ref l) (.ref b)=false:=by
    unfold Builtin.List.listSameRef
    exact beq_eq_false_iff_ne.mpr hne
  have hmax:(max (a:Int) (c:Int)).toNat=c:=by lia
  have hz':((fun xs:Array Value=>xs.extract 0 a++new++xs.extract c xs.size) items).size<=sizeLine+1:=by
    simp only [Array.size_append,Array.size_extract]
    lia
  unfold setItem
  try with_reducible refine wpAny_holding ?_
  first | refine wpAny_bind (wpAny_pure ?_) | skip
  refine wpAny_bind (wpAny_sequenceKey hl.typeIs (by decide) ?_)
  refine wpAny_bind (wpAny_callSpecial?_slot (name:=Str.ofString "__setitem__") hl.typeIs slot_list_setitem
    (wpAny_call_entry slot_list_setitem hl.typeIs entry_list_setitem ?_ (args_list_setitem _ _ _)))
  show wpAny _ _ (Builtin.List.listSubscript? (.ref sl) >>= _) _ _ s
  refine wpAny_bind ?_
  unfold Builtin.List.listSubscript?
  refine wpAny_bind (wpAny_specialOf hTs slice_no_index ?_)
  simp only [Option.isNone_none,if_true]
  refine wpAny_pure ?_
  show wpAny _ _ (typeOf (.ref sl) >>= _) _ _ s
  refine wpAny_bind (wpAny_typeOf hTs ?_)
  first
    | rw [if_neg (by decide)]
    | refine PySem.W.KFB.if_not (by decide) ?_
  rw [listSliceParts_eq]
  refine wpAny_bind (wpAny_bind (wpAny_field hos hds (x:=.none) rfl (wpAny_bind (wpAny_listPart .none ?_))))
  rw [if_neg hstep]
  refine wpAny_bind (wpAny_field hos hds (x:=vl) rfl (wpAny_bind (wpAny_listPart pl ?_)))
  refine wpAny_bind (wpAny_field hos hds (x:=vu) rfl (wpAny_bind (wpAny_listPart pu (wpAny_pure ?_))))
  first
    | simp only [hsame,Bool.false_eq_true,if_false]
    | refine PySem.W.KFB.if_not hsame ?_
    | (dsimp only
       rw [if_neg (by rw [hsame];exact Bool.false_ne_true)])
  refine wpAny_bind (m:=Builtin.List.listAllItems (.ref b) "must assign iterable to extended slice") ?_
  unfold Builtin.List.listAllItems
  refine wpAny_bind (wpAny_typeOf hb.typeIs ?_)
  first
    | refine PySem.W.KFB.if_so (by decide) ?_
    | rw [if_pos (by decide)]
    | simp only [beq_self_eq_true,Bool.true_or,if_true]
  unfold Builtin.List.listItems
  refine wpAny_bind (wpAny_seqItems e2 rfl (wpAny_pure ?_))
  refine wpAny_bind (wpAny_bind (wpAny_seqItems e rfl (wpAny_pure ?_)))
  refine wpAny_bind (wpAny_of_eq ((sliceIndices_raw (some (a:Int)) (some (c:Int)) none items.size (by simp)).trans (congrArg (pure:Int×Int×Int->Sem (Int×Int×Int)) (Zdd hac hc))) ?_)
  show wpAny _ _ (if ((1:Int)==1)=true then _ else _) _ _ s
  rw [if_pos (by decide)]
  refine wpAny_bind (wpAny_rule ?_)
  first
    | simp only [ZcY hsz,Bool.false_eq_true,if_false]
    | refine PySem.W.KFB.if_not (ZcY hsz) ?_
  first | refine wpAny_bind (wpAny_pure ?_) | skip
  show wpAny _ _ (updateSeq l (fun xs=>xs.extract 0 ((a:Int)).toNat++new++xs.extract (max (a:Int) (c:Int)).toNat xs.size) >>= _) _ _ s
  rw [hmax,Int.toNat_natCast]
  refine wpAny_bind (wpAny_updateSeq (hz:=Nat.le_trans (Nat.le_add_right _ _) hsz) (_hz':=hz') e rfl ?_)
  refine wpAny_bind (wpAny_letGo ?_)
  first
    | exact wpAny_bind (wpAny_pure (wpAny_pure ⟨.none,rfl,wpAny_pure h⟩))
    | exact wpAny_pure ⟨.none,rfl,wpAny_pure h⟩
end
section
variable {X:Cx}
theorem Zjv {pins:List (Addr×Obj)}{s:Shared} {σ:St}{H:Hp}{l b sl:Addr}{xs ys:List V}{a c:Int}{vl vu:Value}{Q:Unit->Shared->Prop} (I:Inv X pins σ H s)
  (hH:H l=some (.lst xs)) (hB:H b=some (.lst ys)) (hne:l≠b) (hs:s.heap.IsSliceOf sl vl vu .none) (ra:RelV (.int a) vl) (rc:RelV (.int c) vu) (h0:0<=a) (hac:a<=c) (hc:c<=xs.length)
  (hz:xs.length+ys.length<=sizeLine) (h:∀s',Inv X pins σ (upd H l (.lst (xs.take a.toNat++ys++xs.drop c.toNat))) s'->Q () s'):
  wpAny (model X.prog X.w) X.A (setItem (.ref l) (.ref sl) (.ref b)) Q X.xe s:=by
 obtain ⟨ta,rfl⟩:=ra
 obtain ⟨tc,rfl⟩:=rc
 obtain ⟨z,its,n,r,hl,e⟩:=I.lstM hH
 obtain ⟨z2,its2,n2,r2,hl2,e2⟩:=I.lstM hB
 obtain ⟨a',rfl⟩:=Int.eq_ofNat_of_zero_le h0
 obtain ⟨c',rfl⟩:=Int.eq_ofNat_of_zero_le (Int.le_trans h0 hac)
 simp only [Int.toNat_natCast] at h
 refine ZdZ (a:=a') (c:=c') e e2 hne hs (.int _ _) (.int _ _) (by lia) (by rw [List.size_toArray];lia) (by rw [List.size_toArray,List.size_toArray];lia) (h _ ?_)
 refine I.lset (its':=its.take a'++its2++its.drop c') (t':=s.toks) hH e ?_ (Vals.append (Vals.append (r.take _) r2) (r.drop _)) ?_
 ·exact Zi4 its its2 a' c'
 ·rw [List.length_append,List.length_append,List.length_take,List.length_drop]
  lia
end
end L2
namespace Att
open PySem PySem.W PySem.Calls PyProof.Rows
theorem Zcf {P:Params}{h:Heap}:∀(ns:List Int) (vs:List Value),WellAll P h vs (ns.map WData.int)->IntsAre vs ns:=by
 intro ns
 induction ns with
 | nil=>
  intro vs w
  rw [List.map_nil] at w
  cases w
  exact .nil
 | cons n ns ih=>
  intro vs w
  rw [List.map_cons] at w
  cases w with
  | cons a b=>
   cases a
   exact .cons _ _ (ih _ b)
theorem Zji {l:OpenLaw}{n:Nat} (hn:l.most=some n) {P:Params}{h:Heap}{args:List WData}{vals:List Value}
  (hpre:l.row.toRowW.claim.pre args=true) (hwl:WellAll P h vals args):
  ∃a vs ns,vals = [Value.ref a]/\args = [WData.list (ns.map WData.int)]/\h.get? a=some { cls:=.type "list", data:=.seq vs.toArray } /\ IntsAre vs ns/\ns.length<=n:=by
 have hsh:WShape.hasAll [] args [.list .int]=true:=(pre_splitW hpre).1
 have hc:l.pre.holds [] { args:=args } = true:=(pre_splitW hpre).2
 obtain ⟨d,r,rfl,h1,h2⟩:=hasAllW_cons hsh
 obtain rfl:=hasAllW_nil h2
 obtain ⟨xs,rfl,h3⟩:=hasW_list h1
 obtain ⟨ns,rfl⟩:=items_int h3
 have hlen:ns.length<=n:=by
  unfold OpenLaw.pre at hc
  have h4:(WTm.not (.lt (.lit (.int (n:Int))) (.len (.arg 0)))).holds [] { args:=[.list (ns.map .int)] } = true:=by
   have h4:=(holds_andW hc).1
   rw [hn] at h4
   exact h4
  have h5:=condW_of h4 (w_not (w_lt w_lit (w_len_list (w_arg rfl))))
  rw [List.length_map] at h5
  refine Nat.le_of_not_lt fun q=>?_
  have q':(n:Int)<((ns.length:Nat):Int):=by lia
  first
   | (rw [decide_eq_true q'] at h5;exact absurd h5 (by decide))
   | (simp at h5;lia)
 cases hwl with
 | cons w1 w2=>
  cases w2
  cases w1 with
  | list ho hall=>exact ⟨_,_,ns,rfl,rfl,ho,Zcf ns _ hall,hlen⟩
theorem Zi7 (l:OpenLaw) (args:List WData):l.row.toRowW.claim.post args (.bool true) args=true:=
 postW_of (r:=l.row.toRowW) (X:=(true==true))
  (show WShape.has [] (.bool true) .bool=true by first | rfl | decide | simp [WShape.has,WShape.arms,WShape.armsAll])
  (show (WTm.eq .res (.lit (.bool true))).value [] { args:=args,res:=some (.bool true),after:=args } = some (.bool (true==true)) from w_eq_bool (w_res rfl) w_lit) rfl
theorem ZfZ {l:OpenLaw}{n:Nat}{q:Program}{loose:List Str}{XP:(Str->Option Value)->Heap->Prop}{YP:World->Heap->Prop}{d:DefRec}
  (hn:l.most=some n) (hdf:d.params.defaults = [])
  (call:∀(w:World) (s₀ s₁:Shared) (mg mb:Str->Option Value) (fa:Addr) (o:Obj) (pm cd doc:Value) (a:Addr) (vs:List Value) (ns:List Int),
   Ground q loose [] XP w s₀ mg mb s₁.heap->YP w s₁.heap ->
   s₁.heap.get? fa=some o->o.data = .func (docDef d.name d.params d.body d.scope pm cd doc)->s₁.heap.CodeRec cd d.name->mg d.name=some (.ref fa) ->
   s₁.heap.get? a=some { cls:=.type "list", data:=.seq vs.toArray } -> IntsAre vs ns->ns.length<=n->s₁.gens = #[] ->
   codeAny (model l.prog w) callerA (.call (.ref fa) ⟨[.ref a],[]⟩) (fun r s'=>r = .ok (.ret (.bool true))/\OldK s₁.heap s'.heap/\s'.os=s₁.os/\AllBare s'.gens) s₁):
  WalkO q loose XP YP l.row.toRowW d [] (fun f vs=>PySem.call f vs):=by
 intro w s₀ s₁ mg mb G Y fa o pm cd doc dV kV ho hd hcd hD hmg hg args vals as hpre hlay hrd hwl hlo
 obtain rfl:dV = .none:=Dflts.none hD hdf
 obtain rfl:kV = .none:=Dflts.noKw hD
 obtain ⟨a,vs,ns,rfl,rfl,hobj,hints,hlen⟩:=Zji hn hpre hwl
 refine enter_call (codeAny_mono (call w s₀ s₁ mg mb fa o pm cd doc a vs ns G Y ho (fd_plain hd) hcd hmg hobj hints hlen hg) fun r s' hq=>?_)
 obtain ⟨rfl,h2,h3,h4⟩:=hq
 exact ⟨.inl ⟨.bool true,.bool true,[],rfl,fun _=>rfl,.bool true,Zi7 l _,fun _=>⟨List.Pairwise.nil,fun _ hm=>(nomatch hm)⟩⟩,h2,h3,h4⟩
section
variable {prog:Program}{w:World}{A:Around}{E:Value->Shared->Prop}{s:Shared}{K:Frag}
def ledger (h:Heap) (L d:Addr):List (Addr×Obj):=(List.range h.objs.size).filterMap fun a=>if a=L∨a=d then none else (h.get? a).map fun o=>(a,o)
end
end Att
namespace L2
open PySem PySem.Spec PyProof.Rows
theorem Zd8:∀{vs:List Value}{ns:List Int},IntsAre vs ns->Vals (ns.map V.int) vs
 | _,_,.nil=>.nil
 | _,_,.cons n t h=>.cons ⟨t,rfl⟩ (Zd8 h)
def ZnG (H:Hp):Prop:=∀b,H b=none ∨ ∃o xs,H b=some (.frz o (.lst xs))
theorem ZkX {P:Program}{w:World}{K:PySem.W.Frag}{mg mb:Str->Option Value}{CX:CXT}{k:Nat}{fa a:Addr}{fd:FuncData}{x:Str}{sp:Sp}{s₁:Shared}{vs:List Value}{ns:List Int}
  (KX:K.In s₁.heap) (hns:s₁.heap.Ns mainGlobals mg) (hb:s₁.heap.Ns builtinsNs mb) (hbb:∀x:Str,x ≠ "__name__" -> mb x=bootBuiltins x) (hlim:s₁.heap.NoLimit) (hg:s₁.gens = #[])
  (ha:s₁.heap.get? a=some { cls:=.type "list", data:=.seq vs.toArray }) (hi:IntsAre vs ns) (hl:ns.length<=sizeLine) (hr:J6 k callerA)
  (F:∀base:Heap,K.In base->base.Ns mainGlobals mg->ZX P w K mg base CX k fa fd [x] sp) (hbind:∀(s:Shared) (u:Value),BindsTo s fd ⟨[u],[]⟩ [(x,u)])
  (hsp:∀H:Hp,ZnG H->Zo K H a (ns.map V.int)->sp [.ref a] H (fun v _=>v = .bl true) fun _ _ _=>False)
  (hCX:∀H e s',CX [] H s₁ (fun _ _ _=>False) e s'->False):
  codeAny (model P w) callerA (.call (.ref fa) ⟨[.ref a],[]⟩) (fun r s'=>r = .ok (.ret (.bool true))/\OldK s₁.heap s'.heap/\s'.os=s₁.os/\AllBare s'.gens) s₁:=by
 have rv:=Zd8 hi
 have lenV:=hi.length
 have core:∀H:Hp,ZnG H->Zo K H a (ns.map V.int)->GL P w H s₁.heap->(∀b,H b≠none->b=a)->(H a≠none->K.lookup a=none) ->
   codeAny (model P w) callerA (.call (.ref fa) ⟨[.ref a],[]⟩) (fun r s'=>r = .ok (.ret (.bool true))/\OldK s₁.heap s'.heap/\s'.os=s₁.os/\AllBare s'.gens) s₁:=by
  intro H hO hS hok hA hK
  have base_of:∀{b:Addr}{o:Obj},s₁.heap.get? b=some o->H b=none->(ZeM s₁.heap H).get? b=some o:=fun e n=>Zld e n
  have noA:∀{b:Addr}{o:Obj}{es:Array DictEntry}{ep:Nat},s₁.heap.get? b=some o->o.data = .dict es ep->H b=none:=fun {b o es ep} e d=>by
   cases q:H b with
   | none=>rfl
   | some u=>
    have e':b=a:=hA b (by rw [q];simp)
    subst e'
    rw [ha] at e;cases e
    have d':Data.seq vs.toArray _=Data.dict es ep:=d
    cases d'
  have nsK:∀{b:Addr}{m:Str->Option Value},s₁.heap.Ns b m->(ZeM s₁.heap H).Ns b m:=fun {b m} ⟨o,es,ep,e,d,r⟩=>⟨o,es,ep,base_of e (noA e d),d,r⟩
  have hKb:K.In (ZeM s₁.heap H):=fun b o e=>base_of (KX b o e) (by
   cases q:H b with
   | none=>rfl
   | some u=>
    have e':b=a:=hA b (by rw [q];simp)
    subst e'
    rw [hK (by rw [q];simp)] at e;cases e)
  have hM:Mod K mg (ZeM s₁.heap H):=⟨hKb,nsK hns,⟨mb,nsK hb,hbb⟩,let ⟨mc,h1,h2⟩:=hlim;⟨mc,nsK h1,h2⟩⟩
  have e0:ZjQ P w K mg (ZeM s₁.heap H) callerA [] s₁ H:=⟨rfl,hM,fun b o e=>ZmM e,Nat.le_of_eq (ZiR _ _),trivial,fun b hb=>absurd (show b∈([]:List Addr) from hb) (by simp),hok,.of_eq hg⟩
  refine codeAny_mono ((F _ hKb (nsK hns)).run callerA [] s₁ H ⟨[.ref a],[]⟩ [.ref a] [.ref a] _ _ hr e0 (hbind s₁ (.ref a)) (.cons rfl .nil) (hsp H hO hS)) fun r s' h=>?_
  cases r with
  | error e=>exact (hCX H e s' h).elim
  | ok fl=>
   cases fl with
   | next=>exact False.elim h
   | brk=>exact False.elim h
   | cont=>exact False.elim h
   | ret u=>
    obtain ⟨v,H',os,bare,un,hok',r',q⟩:=h
    have q':v = .bl true:=q
    subst q'
    obtain rfl:u=Value.bool true:=r'
    refine ⟨rfl,OldK.of_keep fun b o e=>?_,os,bare⟩
    cases q:H b with
    | none=>exact un.keep b o e q (by intro z;exact absurd (show b∈([]:List Addr) from z) (by simp)) (by simp)
    | some u=>
     rcases hO b with z | ⟨ob,xs,z⟩
     ·rw [q] at z;cases z
     ·have z2:=un.frzs b ob _ z
      obtain ⟨e1,_⟩:=hok b _ z
      obtain ⟨e2,_⟩:=hok' b _ z2
      rw [e] at e1;cases e1
      exact e2
 cases hk:K.lookup a with
 | some o=>
  have e:=KX a o hk
  rw [ha] at e
  cases e
  refine core (fun _=>none) (fun _=>.inl rfl) (.inr ⟨_,vs.toArray,_,hk,rfl,rfl,rfl,by rw [List.size_toArray,lenV];exact hl,by simpa using rv⟩) (fun b u z=>by have z':(none:Option HO)=some u:=z;cases z') (fun b z=>absurd rfl z) fun z=>absurd rfl z
 | none=>
  refine core (fun b=>if b=a then some (.frz { cls:=.type "list", data:=.seq vs.toArray } (.lst (ns.map V.int))) else none) (fun b=>?_) (.inl (.inr ⟨{ cls:=.type "list", data:=.seq vs.toArray },if_pos rfl⟩)) (fun b u z=>?_) (fun b z=>?_) fun _=>hk
  ·by_cases hb:b=a
   ·exact .inr ⟨_,_,if_pos hb⟩
   ·exact .inl (if_neg hb)
  ·by_cases hb:b=a
   ·have z':=(if_pos hb).symm.trans z
    cases z'
    subst hb
    exact ⟨ha,by rw [List.length_map];exact hl,vs,_,rv,ha⟩
   ·have z':=(if_neg hb).symm.trans z
    cases z'
  ·by_cases hb:b=a
   ·exact hb
   ·exact absurd (if_neg hb) z
abbrev KOf {K:PySem.W.Frag}{h:Heap} (_:K.In h):PySem.W.Frag:=K
theorem ZlS {l:PySem.W.OpenLaw}{n k:Nat}{q:Program}{loose:List Str}{XP:(Str->Option Value)->Heap->Prop}{YP:World->Heap->Prop}{d:DefRec}{K:Params->PySem.W.Frag}{CX:World->CXT}{sp:World->Sp}{x:Str}
  (hn:l.most=some n) (hn2:n<=sizeLine) (hdf:d.params.defaults = []) (hr:J6 k callerA)
  (hY:∀(w:World) (h:Heap),YP w h->(K w.params).In h)
  (F:∀(w:World) (mg:Str->Option Value) (fa:Addr) (h:Heap),(K w.params).In h->h.Ns mainGlobals mg->mg d.name=some (.ref fa) ->
   ∃fd:FuncData,(∀(s:Shared) (u:Value),BindsTo s fd ⟨[u],[]⟩ [(x,u)]) /\
    ∀base:Heap,(K w.params).In base->base.Ns mainGlobals mg->ZX l.prog w (K w.params) mg base (CX w) k fa fd [x] (sp w))
  (hsp:∀(w:World) (H:Hp) (a:Addr) (ns:List Int),ns.length<=n->ZnG H->Zo (K w.params) H a (ns.map V.int)->sp w [.ref a] H (fun v _=>v = .bl true) fun _ _ _=>False)
  (hCX:∀(w:World) (H:Hp) (s:Shared) (e:Value) (s':Shared),CX w [] H s (fun _ _ _=>False) e s'->False):
  PySem.W.WalkO q loose XP YP l.row.toRowW d [] (fun f vs=>PySem.call f vs):=by
 refine Att.ZfZ hn hdf fun w s₀ s₁ mg mb fa o pm cd doc a vs ns G Y ho hd hcd hmg hobj hints hlen hg=>?_
 have KX:=hY w _ Y
 obtain ⟨fd,hb,hF⟩:=F w mg fa _ KX G.T.g hmg
 exact ZkX KX G.T.g G.T.b G.T.builtins G.T.nolimit hg hobj hints (Nat.le_trans hlen hn2) hr hF hb (fun H hO hS=>hsp w H a ns hlen hO hS) fun H e s'=>hCX w H s₁ e s'
def ZaW (s:Stmt):Arguments:=match s with
 | .FunctionDef _ a _ _ _ _ _ _ _ _=>a
 | _=>{ posonlyargs:=[],args:=[],vararg:=none,kwonlyargs:=[],kw_defaults:=[],kwarg:=none,defaults:=[] }
def Uh (s:Stmt):List Stmt:=match s with
 | .FunctionDef _ _ b _ _ _ _ _ _ _=>b
 | _=>[]
def Zi (s:Stmt):Scope:=match s with
 | .FunctionDef _ _ _ _ _ _ sc _ _ _=>sc
 | _=>{ kind:=.function,names:=[],isGenerator:=false,isCoroutine:=false }
abbrev J2:CXT:=fun _ _ _ _ _ _=>False
abbrev E0:XK:=fun _ _ _=>False
theorem ZkG {X:Cx}:Passes J2 X E0:=fun _ _ _ _ _ _ _ h=>h.elim
structure Yd (K:PySem.W.Frag) (x qual:Str) (st:Stmt) (f:Addr) (fd:FuncData):Prop where
 ex:∃(oc:Value) (od:Option Addr) (kV doc pm:Value) (an:Option Addr) (cdv ct:Value) (osl:Array (Option Value)),
  fd=PySem.W.fnOf x qual (ZaW st) (Uh st) (Zi st) .none kV doc pm an cdv ct/\K.lookup f=some ⟨oc,od,.func fd,osl⟩/\PySem.W.codeIn K cdv qual=true
 kp:PySem.W.keepIn K (.ref f)=true
section
variable {P:Program}{w:World}{K:PySem.W.Frag}{mg:Str->Option Value}{base:Heap}
theorem Yd.ok {x qual:Str}{st:Stmt}{f:Addr}{fd:FuncData}{N ps:List Str}{k:Nat}{sp:Sp} (F:Yd K x qual st f fd) (S:Zp N ps (Zi st)) (len:∀vs H Q E,sp vs H Q E->vs.length=ps.length)
  (hbody:∀(cdv:Value) (A:Around) (outer:List Env) (s:Shared) (H:Hp) (vs:List V) (Q:VK) (E:XK),J6 k (A.deeper (envOfC qual (Zi st) s.heap.objs.size f cdv))->sp vs H Q E ->
   ∃t,PSs (Ws J2 P w K mg base N qual (Zi st) f cdv A outer s H E).nox (Uh st) t/\t { nx:=fun _ H'=>Q .non H',rt:=Q } (start N vs) H):ZX P w K mg base J2 (k+1) f fd ps sp:=by
 obtain ⟨oc,od,kV,doc,pm,an,cdv,ct,osl,rfl,lk,hcd⟩:=F.ex
 refine Zm0 lk hcd S len fun A outer s H vs Q E hr hsp=>?_
 obtain ⟨t,h,q⟩:=hbody cdv A outer s H vs Q E hr hsp
 exact ⟨t,h.nox,q⟩
theorem Yd.binds {x qual:Str}{st:Stmt}{f:Addr}{fd:FuncData}{ps:List Str} (F:Yd K x qual st f fd)
  (h:∀(kV doc pm:Value) (an:Option Addr) (cdv ct:Value) (us:List Value),us.length=ps.length->bindArgs (PySem.W.fnOf x qual (ZaW st) (Uh st) (Zi st) .none kV doc pm an cdv ct) ⟨us,[]⟩=pure (ps.zip us)):Binds K fd ps []:=by
 obtain ⟨oc,od,kV,doc,pm,an,cdv,ct,osl,rfl,lk,hcd⟩:=F.ex
 exact .all (h kV doc pm an cdv ct)
theorem Zz {x qual:Str}{st:Stmt}{f:Addr}{oc:Value}{od an:Option Addr}{osl:Array (Option Value)}{kV doc pm cdv ct:Value} (l:K.lookup f=some ⟨oc,od,.func (PySem.W.fnOf x qual (ZaW st) (Uh st) (Zi st) .none kV doc pm an cdv ct),osl⟩)
  (c:PySem.W.codeIn K cdv qual=true) (k:PySem.W.keepIn K (.ref f)=true):Yd K x qual st f (PySem.W.fnOf x qual (ZaW st) (Uh st) (Zi st) .none kV doc pm an cdv ct):=⟨⟨oc,od,kV,doc,pm,an,cdv,ct,osl,rfl,l,c⟩,k⟩
end
theorem Zig {A:Around}{k:Nat} (hr:J6 k A):A.units+1<cLine:=Nat.lt_of_le_of_lt (Nat.add_le_add_left (by decide:1<=64) _) hr.units
theorem ZA {n:Nat} (h:n<=1000):n<sizeLine:=Nat.lt_of_le_of_lt h (by decide)
section
variable {X:Cx}
theorem pv (i:Nat) {x:Str}{pos:Pos} (hN:X.N[i]? = some x:=by rfl) (hv:Vis X.env.scope x:=by first | exact Or.inl rfl | exact Or.inr (Or.inl rfl) | exact Or.inr (Or.inr rfl)) (hd:(x==("__debug__" : Str))=false:=by decide)
  (hcd:(x==("__classdict__" : Str))=false:=by decide):PE X (.Name x pos) (ZpA i):=ZnE hN hv hd hcd
end
theorem ZdX {A B:Prop} (h:B):if false=true then A else B:=by
 rw [if_neg Bool.false_ne_true]
 exact h
theorem Zar {A B:Prop} (h:A):if true=true then A else B:=by
 rw [if_pos rfl]
 exact h
theorem Jy {c A B:Prop} [Decidable c] (h1:c->A) (h2:¬c->B):if c then A else B:=by
 by_cases h:c
 ·rw [if_pos h]
  exact h1 h
 ·rw [if_neg h]
  exact h2 h
def Ze (H H':Hp):Prop:=∀b o,H b=some o->H' b=some o
theorem Ze.refl (H:Hp):Ze H H:=fun _ _ h=>h
theorem Ze.trans {H H1 H2:Hp} (a:Ze H H1) (b:Ze H1 H2):Ze H H2:=fun c o h=>b c o (a c o h)
theorem Ze.free {H H':Hp} (e:Ze H H') {l:Addr} (h:H' l=Option.none):H l=Option.none:=by
 cases q:H l with
 | none=>rfl
 | some o=>
  rw [e l o q] at h
  cases h
theorem Ze.seq {K:PySem.W.Frag}{H H':Hp}{a:Addr}{xs:List V} (e:Ze H H') (h:Zo K H a xs):Zo K H' a xs:=by
 rcases h with (h | ⟨o,h⟩) | h
 ·exact .inl (.inl (e _ _ h))
 ·exact .inl (.inr ⟨o,e _ _ h⟩)
 ·exact .inr h
end L2
set_option maxHeartbeats 4000000
namespace L2
open PySem PySem.Spec PyProof.Rows
section
variable {prog:Program}{w:World}{A:Around}{R:Result->Shared->Prop}{s:Shared}
theorem Zjx {elt target iter:Expr}{ifs:List Expr}{scope:Scope}{pos:Pos}{it acc:Value}{env:Env} (I:Nat->Shared->Prop)
  (turn:∀n s,I n s->wpAny (model prog w) A (pyNext it) (fun r s₁=>match r with
   | none=>R (.ok .next) s₁
   | some v=>wpAny (model prog w) A (letOwnedTupleGo target it v) (fun _ s₁'=>wpAny (model prog w) A (assign target env v) (fun _ s₂=>
     wpAny (model prog w) A (forIn ifs true fun c r=>if r=true then do let ok <- isTrue c env (eval c env);pure (ForInStep.yield ok) else pure (ForInStep.yield r)) (fun ok s₃=>
      if ok=true then wpAny (model prog w) A (eval elt env) (fun x s₄=>
       wpAny (model prog w) A (call (.builtin "list.append") [acc,x]) (fun _ s₅=>∃m,m<n/\I m s₅) (fun _ _=>False) s₄) (fun _ _=>False) s₃
      else ∃m,m<n/\I m s₃) (fun _ _=>False) s₂) (fun _ _=>False) s₁') (fun _ _=>False) s₁) (fun _ _=>False) s)
  (n:Nat) (h:I n s):codeAny (model prog w) A (.compLoop (.ListComp elt [⟨target,iter,ifs,0⟩] scope pos) 0 it acc env) R s:=by
 refine codeAny_loop rfl I (fun n s hI=>?_) n h
 show wpAny _ A ((compTurn (.ListComp elt [⟨target,iter,ifs,0⟩] scope pos) 0 it acc env).onRaise (fun x=>do noteFrame x env;theTreesLotGoes x)) _ _ s
 refine wpAny_noted ?_
 rw [compTurn_list]
 refine wpAny_bind (wpAny_standAt (wpAny_bind (wpAny_mono (turn n s hI) (fun r s₁ h₁=>?_) fun _ _ h'=>h'.elim)))
 cases r with
 | none=>exact wpAny_pure h₁
 | some v=>
  refine wpAny_bind (wpAny_mono h₁ (fun _ s₁' h₁'=>?_) fun _ _ h'=>h'.elim)
  refine wpAny_bind (wpAny_mono h₁' (fun _ s₂ h₂=>wpAny_bind (wpAny_mono h₂ (fun ok s₃ h₃=>?_) fun _ _ h'=>h'.elim)) fun _ _ h'=>h'.elim)
  cases ok with
  | false=>exact wpAny_pure ⟨rfl,h₃⟩
  | true=>
   exact wpAny_bind (wpAny_bind (wpAny_mono h₃ (fun x s₄ h₄=>wpAny_bind (wpAny_mono h₄ (fun _ s₅ h₅=>wpAny_pure (wpAny_pure ⟨rfl,h₅⟩)) fun _ _ h'=>h'.elim)) fun _ _ h'=>h'.elim))
end
theorem ZeI (env:Env) (f:Str×NameKind->List (Str×Addr)->Sem (ForInStep (List (Str×Addr))))
  (hf:∀n k r,f (n,k) r=if (k==NameKind.free)=true then (do let a <- cellOf env n;pure (ForInStep.yield ((n,a)::r))) else pure (ForInStep.yield r)):
  ∀(ns:List (Str×NameKind)) (acc:List (Str×Addr)),(∀y∈ns,y.2 = .free -> ∃c,env.cells.lookup y.1=some c)->(∀x c,acc.lookup x=some c->env.cells.lookup x=some c) ->
   ∃cl,forIn ns acc f=pure cl/\(∀x c,cl.lookup x=some c->env.cells.lookup x=some c)/\(∀y∈ns,y.2 = .free -> ∃c,cl.lookup y.1=some c)/\(∀x c,acc.lookup x=some c -> ∃c',cl.lookup x=some c')
 | [],acc,_,ha=>⟨acc,by rw [List.forIn_nil],ha,fun _ h=>(nomatch h),fun x c h=>⟨c,h⟩⟩
 | (n,k)::r,acc,hn,ha=>by
  rw [List.forIn_cons,hf]
  by_cases hk:k = .free
  ·subst hk
   obtain ⟨c,hc⟩:=hn (n,.free) List.mem_cons_self rfl
   have hc':env.cells.lookup n=some c:=hc
   have e1:cellOf env n=pure c:=by unfold cellOf;rw [hc']
   obtain ⟨cl,h1,h2,h3,h4⟩:=ZeI env f hf r ((n,c)::acc) (fun y hy=>hn y (List.mem_cons_of_mem _ hy)) (fun x c' hx=>by
    rw [List.lookup_cons] at hx
    cases e:x==n with
    | true=>
     rw [e] at hx
     have:x=n:=by simpa using e
     subst this
     rw [<- Option.some.inj hx];exact hc'
    | false=>rw [e] at hx;exact ha x c' hx)
   refine ⟨cl,?_,h2,fun y hy hyf=>?_,fun x c' hx=>?_⟩
   ·rw [if_pos (by rfl),e1]
    exact h1
   ·rcases List.mem_cons.mp hy with e | hy
    ·subst e
     exact h4 n c (by simp)
    ·exact h3 y hy hyf
   ·cases e:x==n with
    | true=>exact h4 x c (by rw [List.lookup_cons,e])
    | false=>exact h4 x c' (by rw [List.lookup_cons,e];exact hx)
  ·have hk':(k==NameKind.free)=false:=by simpa using hk
   obtain ⟨cl,h1,h2,h3,h4⟩:=ZeI env f hf r acc (fun y hy=>hn y (List.mem_cons_of_mem _ hy)) ha
   refine ⟨cl,?_,h2,fun y hy hyf=>?_,h4⟩
   ·rw [hk',if_neg Bool.false_ne_true]
    exact h1
   ·rcases List.mem_cons.mp hy with e | hy
    ·subst e
     exact absurd hyf hk
    ·exact h3 y hy hyf
theorem Zij {scope:Scope}{env:Env} (h:∀y∈scope.names,y.2 = .free -> ∃c,env.cells.lookup y.1=some c):
  ∃cl,closureFor scope env=pure cl/\(∀x c,cl.lookup x=some c->env.cells.lookup x=some c)/\(∀y∈scope.names,y.2 = .free -> ∃c,cl.lookup y.1=some c):=by
 obtain ⟨cl,h1,h2,h3,_⟩:=ZeI env (fun x r=>match x with
  | (n,k)=>if (k==NameKind.free)=true then (do let a <- cellOf env n;pure (ForInStep.yield ((n,a)::r))) else pure (ForInStep.yield r)) (fun _ _ _=>rfl) scope.names [] h (fun x c q=>by simp at q)
 refine ⟨cl,?_,h2,h3⟩
 unfold closureFor
 refine Eq.trans ?_ h1
 have e:∀(m:Sem (List (Str×Addr))),(m >>= fun r=>(pure r >>= fun r=>pure r))=m:=fun m=>by simp only [pure_bind,bind_pure]
 exact e _
def Zce (n:Nat) (fi:List Nat) (σ:St):St:=List.replicate n none++fi.map fun i=>σ.getD i none
def Gf:TT:=fun _ H Q=>Q true H
def PTs (X:Cx) (ifs:List Expr) (t:TT):Prop:=
 ∀(pins:List (Addr×Obj)) (s:Shared) (σ:St) (H:Hp) (Q:Bool->Hp->Prop),Inv X pins σ H s->t σ H Q ->
  wpAny (model X.prog X.w) X.A (forIn ifs true fun c r=>if r=true then do let ok <- isTrue c X.env (eval c X.env);pure (ForInStep.yield ok) else pure (ForInStep.yield r)) (TP X pins σ Q) X.xe s
theorem Yf {X:Cx}:PTs X [] Gf:=fun pins s σ H Q I h=>wpAny_tests_nil ⟨H,I,h⟩
theorem ZiP {X:Cx}{c:Expr}{t:TT} (h:PT X c t):PTs X [c] t:=fun pins s σ H Q I q=>wpAny_tests_one (h pins s σ H Q I q)
structure ZU (N:List Str) (osc scope:Scope) (Ls Fs:List Str) (fi:List Nat):Prop where
 kind:scope.kind = .function
 cells:∀y∈scope.names,y.2 ≠ .cell
 names:∀y∈scope.names,y.2 = .local->scope.names.lookup y.1=some .local
 fre:∀x∈Fs,scope.names.lookup x=some .free
 all:∀y∈scope.names,y.2 = .free->osc.names.lookup y.1=some .cell∨osc.names.lookup y.1=some .free
 ix:fi.map (fun i=>N[i]?)=Fs.map some
def blk (X:Cx) (scope:Scope) (N:List Str) (cl:List (Str×Addr)) (C:Addr) (s3:Shared) (H3:Hp) (ex:List Addr):Cx:=
 { X with N:=N,s₀:=s3,H₀:=H3,env:=compEnvC scope cl C X.env,outer:=X.stack,stack:=X.stack,ex:=ex,fn:=fun _=>false,pn:=[],xe:=fun _ _=>False }
theorem Zbi {env:Env}:∀{names:List (Str×NameKind)}{x:Str},(∀y∈names,y.2 ≠ .cell) ->
    ((names.map fun (n,k)=>if (k==NameKind.free&&env.scope.kind == .function&&env.kindOf n==some .cell) then (n,NameKind.cell) else (n,k)).lookup x=some .cell ∨
     (names.map fun (n,k)=>if (k==NameKind.free&&env.scope.kind == .function&&env.kindOf n==some .cell) then (n,NameKind.cell) else (n,k)).lookup x=some .free) -> ∃y∈names,y.1=x/\y.2 = .free
  | [],_,_,h=>by simp at h
  | (n,k)::r,x,hc,h=>by
    have ih:=@Zbi env r x (fun y hy=>hc y (List.mem_cons_of_mem _ hy))
    cases hx:x==n with
    | true=>
      have e:x=n:=by simpa using hx
      subst e
      by_cases hb:(k==NameKind.free&&env.scope.kind == .function&&env.kindOf x==some .cell)=true
      · have:k = .free:=by
          simp only [Bool.and_eq_true,beq_iff_eq] at hb
          exact hb.1.1
        exact ⟨(x,k),List.mem_cons_self,rfl,this⟩
      · simp only [List.map_cons,if_neg hb,List.lookup_cons,hx] at h
        rcases h with h | h
        · exact absurd (Option.some.inj h) (hc (x,k) List.mem_cons_self)
        · exact ⟨(x,k),List.mem_cons_self,rfl,Option.some.inj h⟩
    | false=>
      have h':((r.map fun (n,k)=>if (k==NameKind.free&&env.scope.kind == .function&&env.kindOf n==some .cell) then (n,NameKind.cell) else (n,k)).lookup x=some .cell ∨
        (r.map fun (n,k)=>if (k==NameKind.free&&env.scope.kind == .function&&env.kindOf n==some .cell) then (n,NameKind.cell) else (n,k)).lookup x=some .free):=by
        by_cases hb:(k==NameKind.free&&env.scope.kind == .function&&env.kindOf n==some .cell)=true
        · simpa only [List.map_cons,if_pos hb,List.lookup_cons,hx] using h
        · simpa only [List.map_cons,if_neg hb,List.lookup_cons,hx] using h
      obtain ⟨y,hy,z⟩:=ih h'
      exact ⟨y,List.mem_cons_of_mem _ hy,z⟩
theorem Zbw {env:Env}{x:Str}:∀{names:List (Str×NameKind)},names.lookup x=some .free ->
    ((names.map fun (n,k)=>if (k==NameKind.free&&env.scope.kind == .function&&env.kindOf n==some .cell) then (n,NameKind.cell) else (n,k)).lookup x=some .cell ∨
     (names.map fun (n,k)=>if (k==NameKind.free&&env.scope.kind == .function&&env.kindOf n==some .cell) then (n,NameKind.cell) else (n,k)).lookup x=some .free)
  | [],h=>by simp at h
  | (n,k)::r,h=>by
    cases hx:x==n with
    | true=>
      have e:x=n:=by simpa using hx
      subst e
      rw [List.lookup_cons,hx] at h
      have hk:k = .free:=Option.some.inj h
      subst hk
      by_cases hb:(NameKind.free==NameKind.free&&env.scope.kind == .function&&env.kindOf x==some .cell)=true
      · left;simp only [List.map_cons,if_pos hb,List.lookup_cons,hx]
      · right;simp only [List.map_cons,if_neg hb,List.lookup_cons,hx]
    | false=>
      rw [List.lookup_cons,hx] at h
      have ih:=@Zbw env x r h
      by_cases hb:(k==NameKind.free&&env.scope.kind == .function&&env.kindOf n==some .cell)=true
      · simpa only [List.map_cons,if_pos hb,List.lookup_cons,hx] using ih
      · simpa only [List.map_cons,if_neg hb,List.lookup_cons,hx] using ih
theorem aLt {h:Heap}{b:Addr}{o:Obj} (e:h.get? b=some o):@LT.lt Nat _ b h.objs.size:=Heap.lt_size e
def LcW (J:It) (σ:St) (g:TG) (tc:TT) (te:TE) (H:Hp) (Q:VK):Prop:=
 ∃W:Nat->Nat->List V->Hp->Prop,(∃m,W 0 m [] H) /\ ∀i m ys H,W i m ys H ->
  (J.stop i H/\ys.length<=sizeLine /\ ∀D,H D=none->Q (.ref D) (upd H D (.lst ys))) ∨
  (J.go i H/\ys.length<=sizeLine /\ ∃N:List V->Hp->Prop,(∀ys' H',N ys' H' -> ∃m',m'<m/\W (i+1) m' ys' H') /\ ∀x H',J.yld i H x H'->g x σ H' fun σ2 H2=>
   tc σ2 H2 fun b H3=>if b=true then te σ2 H3 fun y H4=>N (ys ++ [y]) H4 else N ys H3)
def tLc (n:Nat) (fi:List Nat) (wi:TI) (g:TG) (tc:TT) (te:TE):TE:=fun σ H Q=>wi σ H fun J H1=>LcW J (Zce n fi σ) g tc te H1 Q
section
variable {X:Cx}{pins:List (Addr×Obj)} {σ:St}{tg elt iter:Expr}{ifs:List Expr}{scope:Scope}{pos:Pos}{Ls Fs:List Str}{fi:List Nat}{g:TG}{tc:TT}{te:TE}
theorem Zfw {H2:Hp}{s2:Shared}{it:Addr}{fp:List Addr}{tn:Nat->Heap->Prop}{J:It}{cl:List (Str×Addr)}{Q:VK}{E:Value->Shared->Prop}{RR:Value->Addr->Result->Shared->Prop}
  (S:ZU X.N X.env.scope scope Ls Fs fi) (hc:X.calm=true)
  (hb:∀C s3 H3 ex,PG (blk X scope (Ls++Fs) cl C s3 H3 ex) tg g/\PTs (blk X scope (Ls++Fs) cl C s3 H3 ex) ifs tc/\PE (blk X scope (Ls++Fs) cl C s3 H3 ex) elt te)
  (hcl1:∀x c,cl.lookup x=some c->X.env.cells.lookup x=some c) (hcl2:∀y∈scope.names,y.2 = .free -> ∃c,cl.lookup y.1=some c)
  (I2:Inv X pins σ H2 s2) (T:Turn X.prog X.w X.K tg J fp it tn) (st2:tn 0 s2.heap) (f2:∀b∈fp,ZdR X pins H2 b)
  (hW:∃W:Nat->Nat->List V->Hp->Prop,(∃m,W 0 m [] H2) /\ ∀i m ys H,W i m ys H ->
   (J.stop i H/\ys.length<=sizeLine /\ ∀D,H D=none->Q (.ref D) (upd H D (.lst ys))) ∨
   (J.go i H/\ys.length<=sizeLine /\ ∃N:List V->Hp->Prop,(∀ys' H',N ys' H' -> ∃m',m'<m/\W (i+1) m' ys' H') /\ ∀x H',J.yld i H x H'->g x (Zce Ls.length fi σ) H' fun σ2 H2=>
    tc σ2 H2 fun b H3=>if b=true then te σ2 H3 fun y H4=>N (ys ++ [y]) H4 else N ys H3))
  (fin:∀D C H' s' m,Inv X pins σ H' s'->Q (.ref D) H'->s'.heap.Ns C m->ZdR X pins H' C->RR (.ref D) C (.ok .next) s'):
  wpAny (model X.prog X.w) X.A (newList []) (fun acc s₃=>wpAny (model X.prog X.w) X.A (newFunctionEnv scope X.env.globals cl [] X.env.qual none .none (some X.env)) (fun cenv s₄=>
   codeAny (model X.prog X.w) X.A (.compStart (.ListComp elt [⟨tg,iter,ifs,0⟩] scope pos) 0 (.ref it) acc { cenv with scope:=relabel scope X.env }) (RR acc cenv.locals) s₄) E s₃) E s2:=by
 refine wpAny_newObj_type (wpAny_newFunctionEnv S.cells (by intro y hy;simp at hy) (fun h₁ hns₁ hsb₁=>?_) S.kind)
 dsimp only at hns₁ hsb₁ ⊢
 generalize hH3:s2.heap.push { cls:=.type "list", dict:=none,data:=.seq ([]:List Value).toArray } = h3 at hns₁ hsb₁ ⊢
 generalize hC:h3.objs.size=C at hns₁ hsb₁ ⊢
 generalize hD:s2.heap.objs.size=D
 have hCD:C=D+1:=by rw [<- hC,<- hH3,Heap.size_push,hD]
 have k23:∀b o,s2.heap.get? b=some o->h3.get? b=some o:=fun b o e=>by rw [<- hH3];exact Heap.get?_push_of_some _ e
 have k34:∀b o,h3.get? b=some o->h₁.get? b=some o:=fun b o e=>hsb₁.extBut b o (Nat.ne_of_lt (by have:=aLt e;lia)) (Heap.get?_push_of_some _ e)
 have hDo:h3.get? D=some { cls:=.type "list", data:=.seq ([]:List Value).toArray }:=by rw [<- hH3,<- hD];exact Heap.get?_push_size _ rfl
 obtain ⟨W,⟨m0,w0⟩,turn⟩:=hW
 have I3:Inv X pins σ H2 { s2 with heap:=h3 }:=I2.kept (t':=s2.toks) k23
 have frD:H2 D=none:=by rw [<- hD];exact I2.fresh
 have frC:H2 C=none:=I2.hok.fresh (by lia)
 have DL:D≠X.env.locals:=Nat.ne_of_gt (by have:@LT.lt Nat _ X.env.locals s2.heap.objs.size:=I2.lt;lia)
 have CL:C≠X.env.locals:=Nat.ne_of_gt (by have:@LT.lt Nat _ X.env.locals s2.heap.objs.size:=I2.lt;lia)
 have cellLt:∀x c,X.env.cells.lookup x=some c -> @LT.lt Nat _ c D:=fun x c e=>by
  obtain ⟨v,q⟩:=I2.cell x c e
  have:@LT.lt Nat _ c s2.heap.objs.size:=q.lt
  lia
 have fpLt:∀b∈fp,@LT.lt Nat _ b D:=fun b hb=>by
  obtain ⟨o,e,_⟩:=T.obj _ _ st2 b hb
  have:=aLt e
  lia
 have exLoc:∀b∈D::fp,b≠C/\(∀x c,X.env.cells.lookup x=some c->c≠b):=fun b hb=>by
  rcases List.mem_cons.mp hb with e | hb
  ·subst e
   exact ⟨Nat.ne_of_lt (by lia),fun x c e=>Nat.ne_of_lt (cellLt x c e)⟩
  ·exact ⟨Nat.ne_of_lt (by have:=fpLt b hb;lia),(f2 b hb).2.2.2.2.1⟩
 have ok':(blk X scope (Ls++Fs) cl C { s2 with heap:=h3 } H2 (D::fp)).Ok:=by
  refine ⟨I2.ok.mod,S.kind,I2.ok.glob,I2.ok.blt,?_,fun x y c e1 e2=>I2.ok.inj x y c (hcl1 x c e1) (hcl1 y c e2),fun x hx=>?_,fun x c hx=>absurd hx Bool.false_ne_true,I2.ok.hd,I2.ok.frames,.inl rfl,
   fun b hb=>⟨(exLoc b hb).1,fun x c e=>(exLoc b hb).2 x c (hcl1 x c e)⟩,I3.bs,Nat.le_trans I2.ok.bsz I3.sz,fun b o e hb=>?_,fun b hb=>?_,I3.stack,I3.stkFree⟩
  ·show h3.objs.size<=C
   lia
  ·obtain ⟨y,hy,e1,e2⟩:=Zbi S.cells hx
   obtain ⟨c,q⟩:=hcl2 y hy e2
   exact ⟨c,e1 ▸ q⟩
  ·rcases List.mem_cons.mp hb with z | hb
   ·exact absurd z (Nat.ne_of_lt (by have:=aLt (I2.bk b o e);lia))
   ·rcases (f2 b hb).2.2.2.1 with z | z
    ·exact I2.ok.noex b o e z
    ·have h1:@LT.lt Nat _ b X.base.objs.size:=aLt e
     have h2:@LE.le Nat _ X.base.objs.size X.s₀.heap.objs.size:=I2.ok.bsz
     have h3:@LE.le Nat _ X.s₀.heap.objs.size b:=z
     lia
  ·intro hz
   have hz':=I2.stkSub b hz
   rcases List.mem_cons.mp hb with e | hb
   ·subst e
    rcases List.mem_cons.mp hz' with z | z
    ·exact DL z
    ·exact I2.nofs (by lia) z
   ·rcases List.mem_cons.mp hz' with z | z
    ·exact (f2 b hb).2.1 z
    ·exact (f2 b hb).2.2.1 z
 obtain ⟨m2,hn2,hl2⟩:=id I2.loc
 have cap:∀(i:Nat) (x:Str) (v:V),(Ls++Fs)[i]? = some x->(Zce Ls.length fi σ)[i]? = some (some v) -> ∃u c,RelV v u/\((relabel scope X.env).names.lookup x=some .cell∨(relabel scope X.env).names.lookup x=some .free) /\
   cl.lookup x=some c/\X.env.cells.lookup x=some c/\s2.heap.IsCell c (some u):=by
  intro i x v e1 e2
  unfold Zce at e2
  by_cases hi:i<Ls.length
  ·rw [List.getElem?_append_left (by simpa using hi),List.getElem?_replicate,if_pos hi] at e2
   cases e2
  ·have hi':Ls.length<=i:=Nat.le_of_not_lt hi
   rw [List.getElem?_append_right hi'] at e1
   rw [List.getElem?_append_right (by simpa using hi'),List.length_replicate,List.getElem?_map] at e2
   cases e3:fi[i-Ls.length]? with
   | none=>rw [e3] at e2;cases e2
   | some j=>
    rw [e3] at e2
    have e4:σ.getD j none=some v:=Option.some.inj e2
    have e5:X.N[j]? = some x:=by
     have q:=congrArg (fun l=>l[i-Ls.length]?) S.ix
     simp only [List.getElem?_map,e3,e1,Option.map_some] at q
     exact Option.some.inj q
    have e6:σ[j]? = some (some v):=by
     rw [List.getD_eq_getElem?_getD] at e4
     cases e7:σ[j]? with
     | none=>rw [e7] at e4;cases e4
     | some z=>rw [e7] at e4;exact congrArg some e4
    have fx:=S.fre x (List.mem_of_getElem? e1)
    have al:=S.all (x,.free) (PySem.mem_of_lookup fx) rfl
    have vis:Vis X.env.scope x:=by
     rcases al with z | z
     ·exact .inr (.inl z)
     ·exact .inr (.inr z)
    obtain ⟨u,ru,lk⟩:=hl2 j x v e5 e6 vis
    rcases lk with ⟨k,_⟩ | ⟨k,c,ec,hcell⟩
    ·have k':X.env.scope.names.lookup x=some .local:=k
     rcases al with z | z
     ·rw [show X.env.scope.names.lookup x=some .cell from z] at k';cases k'
     ·rw [show X.env.scope.names.lookup x=some .free from z] at k';cases k'
    ·obtain ⟨c',ec'⟩:=hcl2 (x,.free) (PySem.mem_of_lookup fx) rfl
     have:c'=c:=Option.some.inj ((hcl1 x c' ec').symm.trans ec)
     subst this
     exact ⟨u,c',ru,Zbw fx,ec',ec,hcell⟩
 have capLen:(Zce Ls.length fi σ).length=(Ls++Fs).length:=by
  unfold Zce
  have q:=congrArg List.length S.ix
  simp only [List.length_map] at q
  rw [List.length_append,List.length_replicate,List.length_map,List.length_append,q]
 have re:∀{ps:List (Addr×Obj)} {σ':St}{H':Hp}{s':Shared},Inv (blk X scope (Ls++Fs) cl C { s2 with heap:=h3 } H2 (D::fp)) ps σ' H' s'->Inv (blk X scope (Ls++Fs) cl C { s2 with heap:=h3 } H2 (D::fp)) ps (Zce Ls.length fi σ) H' s':=by
  intro ps σ' H' s' J'
  refine ⟨J'.ok,J'.os,J'.bare,J'.base,?_,J'.cell,J'.free,J'.freeC,J'.pin,J'.hok,capLen⟩
  obtain ⟨m,hn,_⟩:=J'.loc
  refine ⟨m,hn,fun i x v e1 e2 _=>?_⟩
  obtain ⟨u,c,ru,kk,ec,ec2,o,ho,hd⟩:=cap i x v e1 e2
  obtain ⟨sl,q⟩:=J'.base.any (k23 c o ho) (I2.freeC x c ec2) fun z=>(exLoc c z).2 x c ec2 rfl
  exact ⟨u,ru,.inr ⟨kk,c,ec,_,q,hd⟩⟩
 have I4:Inv (blk X scope (Ls++Fs) cl C { s2 with heap:=h3 } H2 (D::fp)) [(D,{ cls:=.type "list", data:=.seq ([]:List Value).toArray })] (Zce Ls.length fi σ) H2 { s2 with heap:=h₁,toks:=s2.toks+([]:List (Str×Value)).length }:=by
  refine ⟨ok',rfl,I2.bare,Un.kept k34,⟨_,hns₁,fun i x v e1 e2 _=>?_⟩,fun x c e=>?_,frC,fun x c e=>I2.freeC x c (hcl1 x c e),fun p hp=>?_,I2.hok.kept fun b o e=>k34 b o (k23 b o e),capLen⟩
  ·obtain ⟨u,c,ru,kk,ec,ec2,o,ho,hd⟩:=cap i x v e1 e2
   exact ⟨u,ru,.inr ⟨kk,c,ec,o,k34 c o (k23 c o ho),hd⟩⟩
  ·obtain ⟨v,o,ho,hd⟩:=I2.cell x c (hcl1 x c e)
   exact ⟨v,o,k34 c o (k23 c o ho),hd⟩
  ·have hp':p=(D,{ cls:=.type "list", data:=.seq ([]:List Value).toArray }):=by
    have:p∈([]:List (Addr×Obj)) ++ [(D,{ cls:=.type "list", data:=.seq ([]:List Value).toArray })]:=hp
    simpa using this
   subst hp'
   refine ⟨k34 D _ hDo,frD,Nat.ne_of_lt (show @LT.lt Nat _ D C by lia),fun z=>?_,fun v z=>by cases z⟩
   rcases List.mem_cons.mp (I2.stkSub D z) with z | z
   ·exact DL z
   ·exact I2.nofs (by lia) z
 obtain ⟨hg,ht,he⟩:=hb C { s2 with heap:=h3 } H2 (D::fp)
 have back:∀{ps:List (Addr×Obj)} {σ':St}{H':Hp}{s':Shared}{ys:List V}{its:List Value}{n:Nat},Inv (blk X scope (Ls++Fs) cl C { s2 with heap:=h3 } H2 (D::fp)) ps σ' H' s'->s'.heap.get? D=some { cls:=.type "list", data:=.seq its.toArray n } ->
   H' D=none->Vals ys its->ys.length<=sizeLine->Inv X pins σ (upd H' D (.lst ys)) s'/\ZdR X pins (upd H' D (.lst ys)) C:=by
  intro ps σ' H' s' ys its n J' hDs hDn rv hz
  have neD:∀b o,s2.heap.get? b=some o->b≠D:=fun b o e=>Nat.ne_of_lt (by have:=aLt e;lia)
  have nex:∀b,b∉fp->b≠D->b∉D::fp:=fun b h1 h2 z=>(List.mem_cons.mp z).elim h2 h1
  have U:Un (We X.stack) fp H2 (upd H' D (.lst ys)) s2.heap s'.heap:=by
   refine ⟨fun b o e n hb hx=>J'.base.keep b o (k23 b o e) n hb (nex b hx (neD b o e)),fun b o e n hb hx=>J'.base.slot b o (k23 b o e) n hb (nex b hx (neD b o e)),fun b o e n hx=>?_,fun b o e hx=>J'.base.there b o (k23 b o e) (nex b hx (neD b o e)),fun b xs e=>?_,fun b o u e=>?_,fun b ps e=>?_⟩
   ·rw [Zj (neD b o e)]
    exact J'.base.free b o (k23 b o e) n (nex b hx (neD b o e))
   ·rw [Zj (Zg e frD)]
    exact J'.base.tups b xs e
   ·rw [Zj (Zg e frD)]
    exact J'.base.frzs b o u e
   ·obtain ⟨more,q⟩:=J'.base.tbls b ps e
    exact ⟨more,by rw [Zj (Zg e frD)];exact q⟩
  have hok':GL X.prog X.w (upd H' D (.lst ys)) s'.heap:=fun b u q=>by
   by_cases hbD:b=D
   ·subst hbD
    rw [Zb] at q
    cases q
    exact ⟨hz,its,n,rv,hDs⟩
   ·rw [Zj hbD] at q
    exact (J'.hok b u q).stay (fun c v _ r=>r) (fun c r=>by rw [Zj (Zg r hDn)];exact r) fun c xs r=>by rw [Zj (Zg r hDn)];exact r
  refine ⟨I2.call' J'.os U hok' J'.bare fun b hb=>⟨(f2 b hb).2.2.2.1,(f2 b hb).2.1,(f2 b hb).2.2.2.2.1,(f2 b hb).2.2.2.2.2⟩,?_⟩
  refine ⟨by rw [Zj (Nat.ne_of_gt (by lia))];exact J'.free,CL,I2.nofs (by lia),.inr (by have:=I2.sz;lia),fun x c e=>Nat.ne_of_lt (by have:=cellLt x c e;lia),fun p hp=>?_⟩
  have:=aLt (I2.pin p hp).1
  exact Nat.ne_of_lt (by lia)
 have loop:codeAny (model X.prog X.w) X.A (.compLoop (.ListComp elt [⟨tg,iter,ifs,0⟩] scope pos) 0 (.ref it) (.ref D) (compEnvC scope cl C X.env)) (RR (.ref D) C) { s2 with heap:=h₁,toks:=s2.toks+([]:List (Str×Value)).length }:=by
  refine Zjx (fun n s'=>∃(i:Nat) (ys:List V) (H':Hp) (its:List Value) (k:Nat),Inv (blk X scope (Ls++Fs) cl C { s2 with heap:=h3 } H2 (D::fp)) [(D,{ cls:=.type "list", data:=.seq its.toArray k })] (Zce Ls.length fi σ) H' s' /\
   Vals ys its/\tn i s'.heap/\(∀b∈fp,H' b=none)/\W i n ys H') ?_ m0 ⟨0,[],H2,[],0,I4,.nil,T.keep _ _ _ st2 fun b _ o e=>k34 b o (k23 b o e),fun b hb=>(f2 b hb).1,w0⟩
  rintro n s5 ⟨i,ys,H5,its,k,I5,rv,st5,fr5,w5⟩
  have stat:∀{H':Hp}{its':List Value}{k':Nat},(∀b∈fp,H' b=none) -> ∀b∈fp,ZdR (blk X scope (Ls++Fs) cl C { s2 with heap:=h3 } H2 (D::fp)) [(D,{ cls:=.type "list", data:=.seq its'.toArray k' })] H' b:=fun hn b hb=>by
   refine ⟨hn b hb,(exLoc b (List.mem_cons_of_mem _ hb)).1,fun z=>ok'.exfs b (List.mem_cons_of_mem _ hb) z,.inl (List.mem_cons_of_mem _ hb),fun x c e=>(exLoc b (List.mem_cons_of_mem _ hb)).2 x c (hcl1 x c e),fun p hp=>?_⟩
   have hp':p=_:=List.mem_singleton.mp hp
   rw [hp']
   have:=fpLt b hb
   show D≠b
   exact Nat.ne_of_gt this
  have pinD:=I5.pin (D,{ cls:=.type "list", data:=.seq its.toArray k }) (List.mem_singleton.mpr rfl)
  rcases turn i n ys H5 w5 with ⟨stop,hz,qn⟩ | ⟨go,hz,N,hN,step⟩
  ·refine wpAny_mono (T.done (blk X scope (Ls++Fs) cl C { s2 with heap:=h3 } H2 (D::fp)) rfl rfl rfl hc i _ s5 _ H5 _ I5 (stat fr5) st5 stop) (fun r s6 ⟨hr,I6⟩=>?_) fun _ _ h=>h
   subst hr
   have pin6:=I6.pin (D,{ cls:=.type "list", data:=.seq its.toArray k }) (List.mem_singleton.mpr rfl)
   obtain ⟨b1,b2⟩:=back I6 pin6.1 pin6.2.1 rv hz
   obtain ⟨m,hn,_⟩:=I6.loc
   exact fin D C _ s6 m b1 (qn D pin6.2.1) hn b2
  ·refine wpAny_mono (T.item (blk X scope (Ls++Fs) cl C { s2 with heap:=h3 } H2 (D::fp)) rfl rfl rfl hc i _ s5 _ H5 _ I5 (stat fr5) st5 go) (fun r s6 ⟨u,hr,h6⟩=>?_) fun _ _ h=>h
   subst hr
   refine wpAny_mono h6 (fun _ s7 ⟨x,H7,I7,r7,y7,st7,fr7⟩=>?_) fun _ _ h=>h
   have I7':=I7.pinned (stat fr7) (T.obj _ _ st7)
   refine wpAny_mono (hg _ s7 _ H7 x u _ I7' r7 (step x H7 y7)) (fun _ s8 ⟨σ8,H8,I8,q8⟩=>?_) fun _ _ h=>h
   refine wpAny_mono (ht _ s8 σ8 H8 _ I8 q8) (fun ok s9 ⟨H9,I9,q9⟩=>?_) fun _ _ h=>h
   have keepT:∀{σ':St}{H':Hp}{s':Shared},Inv (blk X scope (Ls++Fs) cl C { s2 with heap:=h3 } H2 (D::fp)) ([(D,{ cls:=.type "list", data:=.seq its.toArray k })]++Zdx fp s7.heap) σ' H' s'->tn (i+1) s'.heap /\ ∀b∈fp,H' b=none:=by
    intro σ' H' s' J'
    refine ⟨T.keep _ _ _ st7 fun b hb o e=>(J'.pin (b,o) (List.mem_append_right _ (List.mem_append_right _ (Ua hb e)))).1,fun b hb=>?_⟩
    obtain ⟨o,e,d⟩:=T.obj _ _ st7 b hb
    exact (J'.pin (b,o) (List.mem_append_right _ (List.mem_append_right _ (Ua hb e)))).2.1
   cases ok with
   | false=>
    rw [if_neg Bool.false_ne_true] at q9 ⊢
    obtain ⟨m',hm,w'⟩:=hN _ _ q9
    exact ⟨m',hm,i+1,ys,H9,its,k,re I9.unpinned,rv,(keepT I9).1,(keepT I9).2,w'⟩
   | true=>
    rw [if_pos rfl] at q9 ⊢
    refine wpAny_mono (he _ s9 σ8 H9 _ I9 q9) (fun v s10 ⟨y,H10,I10,r10,q10⟩=>?_) fun _ _ h=>h
    obtain ⟨m',hm,w'⟩:=hN _ _ q10
    obtain ⟨k10,f10⟩:=keepT I10
    have I11:Inv (blk X scope (Ls++Fs) cl C { s2 with heap:=h3 } H2 (D::fp)) [(D,{ cls:=.type "list", data:=.seq its.toArray k })] (Zce Ls.length fi σ) H10 s10:=re I10.unpinned
    have pin11:=I11.pin (D,{ cls:=.type "list", data:=.seq its.toArray k }) (List.mem_singleton.mpr rfl)
    refine wpAny_list_append_plain ⟨k,pin11.1⟩ (fun h' hp' sb=>?_) (by rw [List.size_toArray,<- rv.length];exact hz)
    obtain ⟨k',hk'⟩:=hp'
    have e1:its.toArray.push v=(its ++ [v]).toArray:=by simp
    rw [e1] at hk'
    have I12:Inv (blk X scope (Ls++Fs) cl C { s2 with heap:=h3 } H2 (D::fp)) [] (Zce Ls.length fi σ) H10 { s10 with heap:=h',toks:=s10.toks }:=
     (I11.pins_of (pins':=[]) fun p hp=>(nomatch hp)).turned (it:=D) (fun b o hb e=>(sb.2 b hb).trans e) pin11.2.1 pin11.2.2.1 (.inl List.mem_cons_self) (fun x c e=>(exLoc D List.mem_cons_self).2 x c (hcl1 x c e)) fun p hp=>(nomatch hp)
    have I13:Inv (blk X scope (Ls++Fs) cl C { s2 with heap:=h3 } H2 (D::fp)) [(D,{ cls:=.type "list", data:=.seq (its ++ [v]).toArray k' })] (Zce Ls.length fi σ) H10 { s10 with heap:=h',toks:=s10.toks }:=I12.pins_of fun p hp=>by
     have hp':p=_:=List.mem_singleton.mp hp
     subst hp'
     exact ⟨hk',pin11.2.1,pin11.2.2.1,pin11.2.2.2.1,fun v z=>by cases z⟩
    refine ⟨m',hm,i+1,ys ++ [y],H10,its ++ [v],k',I13,rv.append (.cons r10 .nil),?_,f10,w'⟩
    exact T.keep _ _ _ k10 fun b hb o e=>(sb.2 b (Nat.ne_of_lt (fpLt b hb))).trans e
 exact codeAny_compStart_list loop (T.self _ 0 _ _ _ (T.keep _ _ _ st2 fun b _ o e=>k34 b o (k23 b o e)) loop)
theorem WZ {wi:TI} (S:ZU X.N X.env.scope scope Ls Fs fi) (hc:X.calm=true) (hi:PI X tg iter wi)
  (hb:∀cl C s3 H3 ex,PG (blk X scope (Ls++Fs) cl C s3 H3 ex) tg g/\PTs (blk X scope (Ls++Fs) cl C s3 H3 ex) ifs tc/\PE (blk X scope (Ls++Fs) cl C s3 H3 ex) elt te)
  (hs:∀x,foldedSetIterable iter X.env x=pure x:=by intro _;rfl):PE X (.ListComp elt [⟨tg,iter,ifs,0⟩] scope pos) (tLc Ls.length fi wi g tc te):=by
 intro pins s σ H Q I h
 rw [eval_ListComp]
 obtain ⟨cl,hcl,hcl1,hcl2⟩:=Zij (scope:=scope) (env:=X.env) fun y hy hf=>I.ok.has y.1 (S.all y hy hf)
 refine wpAny_comprehension_free (use:=none) rfl hs hcl S.kind S.names (wpAny_mono (hi pins s σ H _ I h) (fun v s1 h1=>wpAny_mono h1 (fun itv s2 h2=>?_) fun _ _ e=>e) fun _ _ e=>e)
 obtain ⟨it,fp,tn,J,H2,e,I2,T,st2,f2,hW⟩:=h2
 subst e
 refine Zfw (RR:=fun acc C=>compPost (model X.prog X.w) X.A X.xe none (EP X pins σ Q) acc C) S hc (hb cl) hcl1 hcl2 I2 T st2 f2 hW fun D C H' s' m I' q hn f=>?_
 obtain ⟨f0,f1,f2,f3,f4,f5⟩:=f
 exact ⟨m,hn,fun h' hs'=>⟨.ref D,H',I'.turned (it:=C) (t':=s'.toks) (fun b o hb e=>(hs'.2 b hb).trans e) f0 f1 f3 f4 f5,rfl,q⟩⟩
theorem Zc2 {wi:TI}{i:Nat}{x:Str}{pos' spos:Pos} (hN:X.N.Nodup) (hi':X.N[i]? = some x) (hx:Loc X.env.scope x) (S:ZU X.N X.env.scope scope Ls Fs fi) (hc:X.calm=true) (hi:PI X tg iter wi)
  (hb:∀cl C s3 H3 ex,PG (blk X scope (Ls++Fs) cl C s3 H3 ex) tg g/\PTs (blk X scope (Ls++Fs) cl C s3 H3 ex) ifs tc/\PE (blk X scope (Ls++Fs) cl C s3 H3 ex) elt te)
  (hsw:swapsWith (.ListComp elt [⟨tg,iter,ifs,0⟩] scope pos) (some (.Name x pos')) spos.line X.env=pure true:=by rfl)
  (hs:∀x,foldedSetIterable iter X.env x=pure x:=by intro _;rfl) (hf:X.fn x=true∨X.env.scope.names.lookup x=some .local:=by first | exact .inl rfl | exact .inr rfl | assumption):
  PS X (.Assign [.Name x pos'] (.ListComp elt [⟨tg,iter,ifs,0⟩] scope pos) spos) (Zom (tLc Ls.length fi wi g tc te) (J0 i)):=by
 intro pins s σ H D' I h
 rw [exec_Assign_Name_used _ _ _ _ hsw]
 obtain ⟨cl,hcl,hcl1,hcl2⟩:=Zij (scope:=scope) (env:=X.env) fun y hy hf=>I.ok.has y.1 (S.all y hy hf)
 refine wpAny_bind (wpAny_standAt (wpAny_bind ?_))
 show wpAny _ X.A (do let _ <- comprehension (.ListComp elt [⟨tg,iter,ifs,0⟩] scope pos) scope X.env _ (newList []) false (eval iter X.env) (some (assign (.Name x pos') X.env))) _ _ s
 refine wpAny_bind (wpAny_mono (wpAny_comprehension_free (use:=some (assign (.Name x pos') X.env)) (Q:=fun _ s'=>SP X pins D' .next s') rfl hs hcl S.kind S.names
  (wpAny_mono (hi pins s σ H _ I h) (fun v s1 h1=>wpAny_mono h1 (fun itv s2 h2=>?_) fun _ _ e=>e) fun _ _ e=>e)) (fun _ s' hq=>wpAny_pure (wpAny_pure hq)) fun _ _ e=>e)
 obtain ⟨it,fp,tn,J,H2,e,I2,T,st2,f2,hW⟩:=h2
 subst e
 refine Zfw (RR:=fun acc C=>compPost (model X.prog X.w) X.A X.xe (some (assign (.Name x pos') X.env)) (fun _ s'=>SP X pins D' .next s') acc C) (Q:=fun x H1=>J0 i x σ H1 D'.nx) S hc (hb cl) hcl1 hcl2 I2 T st2 f2 hW fun D C H' s' m I' q hn f=>?_
 obtain ⟨f0,f1,f2,f3,f4,f5⟩:=f
 show wpAny _ X.A (assign (.Name x pos') X.env (.ref D)) _ _ _
 refine wpAny_assign_Name (Zd6 I' hN hi' hx (v:=.ref D) rfl (fun s'' I'' hch=>?_) hf)
 obtain ⟨a,sb,ha⟩:=hch
 have hCa:C≠a:=by
  rcases ha with z | z
  ·rw [z];exact f1
  ·exact (f4 x a z).symm
 exact ⟨m,hn.sameBut sb hCa,fun h' hs'=>⟨_,H',I''.turned (it:=C) (t':=s''.toks) (fun b o hb e=>(hs'.2 b hb).trans e) f0 f1 f3 f4 f5,q⟩⟩
end
end L2
namespace L2
open PySem PySem.Spec PyProof.Rows PyProof.V
def Ite (K:PySem.W.Frag) (a:Addr):It:=
 ⟨fun i H=>∃xs x,Zo K H a xs/\xs[i]? = some x,fun i H v H'=>∃p x,v = .ref p/\H p=none/\H'=upd H p (.tup [.int i,x]) /\ ∀xs,Zo K H a xs->xs[i]? = some x,fun i H=>∃xs,Zo K H a xs/\xs.length<=i⟩
theorem Zjt {P:Program}{w:World}{K:PySem.W.Frag}{es:List Expr}{k:Nat}{pos:Pos} (a e it:Addr) (hei:e≠it):
  Turn P w K (.Tuple es k pos) (Ite K a) [e,it] e (fun i h=>(∃old,IsEnum h e it i old)/\h.IsListIter it a i) where
 mem:=by simp
 obj:=fun i h st b hb=>by
  obtain ⟨⟨old,he⟩,o,ho,c,d⟩:=st
  rcases List.mem_cons.mp hb with z | z
  ·subst z
   exact ⟨_,he,fun v z=>by
    have z':Data.fields _=Data.cell v:=z
    cases z'⟩
  ·have z':b=it:=by simpa using z
   subst z'
   exact ⟨o,ho,fun v z=>by rw [d] at z;cases z⟩
 keep:=fun i h h' st k=>by
  obtain ⟨⟨old,he⟩,hi⟩:=st
  exact ⟨⟨old,k e (by simp) _ he⟩,hi.at fun o x=>k it (by simp) o x⟩
 item:=by
  intro X hP hw hK hc i pins s σ H E I hf st hg
  subst hP hw hK
  obtain ⟨xs,x,hq,hx⟩:=hg
  obtain ⟨its,rv,p,hz⟩:=I.list hq
  obtain ⟨u,hu,ru⟩:=rv.get hx
  obtain ⟨⟨old,he⟩,hi⟩:=st
  obtain ⟨e0,e1,e2,e3,e4,e5⟩:=hf e (by simp)
  obtain ⟨f0,f1,f2,f3,f4,f5⟩:=hf it (by simp)
  refine wpAny_pyNext_enum_item he hi p.isList (x:=u) (by simpa using hu) hei fun h' ho hit ht hsz kk=>⟨_,rfl,?_⟩
  refine wpAny_letOwnedTupleGo_enum (s:={ s with heap:=h',toks:=s.toks+1 }) ho fun h'' he'' hs''=>?_
  have Tn:@LT.lt Nat _ e s.heap.objs.size:=aLt he
  have kk2:∀b o,b≠e->b≠it->s.heap.get? b=some o->h''.get? b=some o:=fun b o h1 h2 q=>(hs''.2 b h1).trans (kk b o h1 h2 q)
  have nne:∀b u,H b=some u->b≠e/\b≠it:=fun b u q=>⟨fun z=>by (rw [z,e0] at q;cases q),fun z=>by (rw [z,f0] at q;cases q)⟩
  have fr:H s.heap.objs.size=none:=I.hok.fresh (Nat.le_refl _)
  have hT:h''.get? s.heap.objs.size=some { cls:=.type "tuple", data:=.seq #[.int i s.toks,u] }:=(hs''.2 _ (Nat.ne_of_gt Tn)).trans ht
  have nT:∀b o,s.heap.get? b=some o->b≠s.heap.objs.size:=fun b o q=>Nat.ne_of_lt (aLt q)
  have ok':GL X.prog X.w (upd H s.heap.objs.size (.tup [.int i,x])) h'':=fun b o q=>by
   by_cases hb:b=s.heap.objs.size
   ·subst hb
    rw [Zb] at q
    cases q
    exact ⟨show 2<=sizeLine by decide,[.int i s.toks,u],.cons ⟨_,rfl⟩ (.cons ru .nil),⟨_,hT,rfl,_,rfl⟩⟩
   ·rw [Zj hb] at q
    refine (I.hok b o q).stay (fun c v hc r=>?_) (fun c r=>by rw [Zj (Zg r fr)];exact r) fun c xs r=>by rw [Zj (Zg r fr)];exact r
    rcases hc with z | z
    ·subst z
     exact kk2 c v (nne c o q).1 (nne c o q).2 r
    ·exact kk2 c v (nne c _ z).1 (nne c _ z).2 r
  have I1:Inv X pins σ (upd H s.heap.objs.size (.tup [.int i,x])) { s with heap:=h'',gens:=s.gens,drawn:=s.drawn,toks:=s.toks+1 }:=by
   refine I.step (ch:=[e,it]) (fun b hb=>?_) (fun b o _ _ hc q _=>kk2 b o (fun z=>hc (by simp [z])) (fun z=>hc (by simp [z])) q) (fun b o _ _ hc q _=>⟨o.slots,kk2 b o (fun z=>hc (by simp [z])) (fun z=>hc (by simp [z])) q⟩)
    (fun b o _ q n=>by rw [Zj (nT b o q)];exact n) (fun b o hc q=>⟨o,kk2 b o (fun z=>hc (by simp [z])) (fun z=>hc (by simp [z])) q⟩) (fun b xs q=>by rw [Zj (Zg q fr)];exact q) (fun b o u q=>by rw [Zj (Zg q fr)];exact q)
    (fun b ps q=>⟨#[],by rw [Zj (Zg q fr),q];simp⟩) (fun m hm=>?_) ok' I.bare
   ·rcases List.mem_cons.mp hb with z | z
    ·subst z;exact ⟨e3,e1,e4,e5⟩
    ·have z':b=it:=by simpa using z
     subst z';exact ⟨f3,f1,f4,f5⟩
   ·obtain ⟨o,es,ep,ho,r⟩:=hm
    exact ⟨o,es,ep,kk2 _ o (Ne.symm e1) (Ne.symm f1) ho,r⟩
  refine ⟨.ref s.heap.objs.size,_,I1,rfl,⟨s.heap.objs.size,x,rfl,fr,rfl,fun ys hy=>by rw [I.list_inj hy hq];exact hx⟩,⟨⟨_,by simpa using he''⟩,hit.at fun o q=>(hs''.2 it (Ne.symm hei)).trans q⟩,fun b hb=>?_⟩
  have hbo:∃o,s.heap.get? b=some o:=by
   rcases List.mem_cons.mp hb with z | z
   ·subst z;exact ⟨_,he⟩
   ·have z':b=it:=by simpa using z
    subst z'
    obtain ⟨o,ho,_⟩:=hi
    exact ⟨o,ho⟩
  obtain ⟨o,hbo⟩:=hbo
  rw [Zj (nT b o hbo)]
  exact (hf b hb).1
 done:=by
  intro X hP hw hK hc i pins s σ H E I hf st hg
  subst hP hw hK
  obtain ⟨xs,hq,hx⟩:=hg
  obtain ⟨its,rv,p,hz⟩:=I.list hq
  obtain ⟨⟨old,he⟩,hi⟩:=st
  obtain ⟨f0,f1,f2,f3,f4,f5⟩:=hf it (by simp)
  have hl:=rv.length
  exact wpAny_pyNext_enum_end (I.ok.hd hc) he hi p.isList (by simp;lia) fun h' eb=>⟨rfl,I.turned (t':=s.toks) (fun b o hb e=>eb b o hb e) f0 f1 f3 f4 f5⟩
 self:=fun _ _ _ _ _ st h=>by
  obtain ⟨⟨old,he⟩,_⟩:=st
  exact wpAny_pyIter_enum he h
section
variable {X:Cx}
def ZmT (K:PySem.W.Frag) (ta:TA):TI:=fun σ H R=>ta σ H fun vs H1=>∃a,vs = [.ref a]/\(∃xs,Zo K H1 a xs)/\R (Ite K a) H1
theorem ZmH {a:Expr}{ta:TA}{p pos tpos:Pos}{es:List Expr}{k:Nat} (hg:Gl X "enumerate") (hm:X.mg "enumerate" = none) (ha:PA X [a] ta) (hs:starEach [a] X.env = [(false,eval a X.env)]:=by rfl):
  PI X (.Tuple es k tpos) (.Call (.Name "enumerate" p) [a] [] pos) (ZmT X.K ta):=by
 intro pins s σ H R I h
 refine Call_ (ZbW I hg hm boot_enumerate (PyProof.Rows.callWith_type1 (YG (ha pos pins s σ H _ I h) fun us s1 ⟨vs,H1,I1,r1,q1⟩=>?_) hs rfl))
 obtain ⟨l,e,⟨xs,hq⟩,q⟩:=q1
 subst e
 cases r1 with
 | cons r rr=>
  cases rr
  cases r
  obtain ⟨its,rv,pl,hz⟩:=I1.list hq
  refine call_enumerate_list pl.isList fun h' he hi hsz kk=>?_
  have I2:Inv X pins σ H1 { s1 with heap:=h' }:=I1.kept (t':=s1.toks) kk
  refine wpAny_pyIter_enum (s:={ s1 with heap:=h' }) he ?_
  refine ⟨_,[s1.heap.objs.size+1,s1.heap.objs.size],_,_,H1,rfl,I2,Zjt l _ _ (Nat.succ_ne_self _),⟨⟨_,he⟩,hi⟩,fun b hb=>?_,q⟩
  have hb':s1.heap.objs.size<=b:=by
   rcases List.mem_cons.mp hb with z | z
   ·subst z;exact Nat.le_succ _
   ·have z':b=s1.heap.objs.size:=by simpa using z
    subst z';exact Nat.le_refl _
  exact I1.fpOk hb' (I1.hok.fresh hb')
end
section
variable {X:Cx}
theorem GW:∀{ns:List Int}{vs:List Value},Vals (ns.map V.int) vs->IntsAre vs ns
 | [],_,r=>by cases r;exact .nil
 | n::ns,_,r=>by
  cases r with
  | cons r rr=>
   obtain ⟨t,rfl⟩:=r
   exact .cons n t (GW rr)
def ZkN (K:PySem.W.Frag):V->List V->Hp->VK->Prop:=fun x vs H Q=>∃(l:Addr) (xs:List V) (y:V),x = .ref l/\vs = [y]/\Zo K H l xs/\GC y=true/\xs.all GC=true/\Q (.int (xs.countP fun z=>eqV z y)) H
theorem Zdz {x:V}:∀{xs:List V}{us:List Value},Vals xs us->xs.all GC=true->us.countP (eqU x)=xs.countP fun y=>eqV y x
 | _,_,.nil,_=>rfl
 | _,_,.cons r rr,h=>by
  rw [List.all_cons,Bool.and_eq_true] at h
  rw [List.countP_cons,List.countP_cons,Zdz rr h.2,Zlw r h.1]
theorem ZjE:MtM X "list.count" (ZkN X.K):=by
 intro pins s σ H x vs v us Q I rx rv h
 obtain ⟨l,xs,y,rfl,rfl,hq,fy,fx,q⟩:=h
 cases rx
 obtain ⟨u,rfl,ru⟩:=rv.one
 obtain ⟨its,r,pl,hz⟩:=I.list hq
 obtain ⟨⟨c,dd,dt,sl⟩,ho,hc,n,hd⟩:=pl.isList
 simp only at hc hd
 subst hc hd
 refine call_meets F.slot_list_count ⟨_,ho,rfl⟩ F.entry_list_count (F.args_list_count_2 _ _) (SeqAt.list_countAt l its.toArray n dd sl u (eqU y)) ⟨ho,fun w hw=>Zfz ru fy r fx w (by simpa using hw),?_⟩
 refine ⟨.int _,H,I.tok _,⟨_,rfl⟩,?_⟩
 rw [show its.toArray.toList=its by simp,Zdz r fx]
 exact q
end
inductive Eqv (K:PySem.W.Frag) (H:Hp):Nat->V->V->Prop
 | flat {n:Nat}{x:V}:GC x=true->Eqv K H n x x
 | same {n:Nat}{a:Addr}:Eqv K H n (.ref a) (.ref a)
 | lst {n:Nat}{a b:Addr}{xs ys:List V}:Zo K H a xs->Zo K H b ys->xs.length=ys.length->(∀(i:Nat) (x y:V),xs[i]? = some x->ys[i]? = some y->Eqv K H n x y)->Eqv K H (n+1) (.ref a) (.ref b)
 | tup {n:Nat}{a b:Addr}{xs ys:List V}:Uw K H a xs->Uw K H b ys->xs.length=ys.length->(∀(i:Nat) (x y:V),xs[i]? = some x->ys[i]? = some y->Eqv K H n x y)->Eqv K H (n+1) (.ref a) (.ref b)
theorem all_true (n:Nat):((List.range n).all fun _=>true)=true:=by rw [List.all_eq_true];intro _ _;rfl
theorem ZjX {x:V} (h:GC x=true):eqV x x=true:=by
 cases x<;>simp_all [eqV,GC]
theorem Eqv.at {X:Cx}{pins:List (Addr×Obj)} {σ:St}{H:Hp}{s:Shared} (I:Inv X pins σ H s):∀{n:Nat}{x y:V}{u v:Value}{A:Around},Eqv X.K H n x y->RelV x u->RelV y v->A.units+n<cLine->SeqAt.EqAt A s u v true:=by
 intro n x y u v A h
 induction h generalizing u v A with
 | flat f=>
  intro ru rv _
  have:=ZjT (A:=A) (s:=s) ru rv f f
  rw [ZjX f] at this
  exact this
 | same=>
  intro ru rv _
  cases ru
  cases rv
  exact SeqAt.EqAt.same _
 | @lst n a b xs ys ha hb hl _ ih=>
  intro ru rv hu
  cases ru
  cases rv
  by_cases e:a=b
  ·subst e;exact SeqAt.EqAt.same _
  ·obtain ⟨its,r1,p1,_⟩:=I.list ha
   obtain ⟨its2,r2,p2,_⟩:=I.list hb
   have l1:=r1.length
   have l2:=r2.length
   refine SeqAt.EqAt.of_refs e ?_
   have q:=SeqAt.RcAt.lists (A:=A) (e:=fun _=>true) p1.isList p2.isList (by simp only [List.size_toArray];lia) (by lia) fun j h1 h2=>by
    simp only [List.size_toArray] at h1 h2
    obtain ⟨u1,e1,s1⟩:=r1.get (i:=j) (x:=xs[j]'(by lia)) (by simp)
    obtain ⟨u2,e2,s2⟩:=r2.get (i:=j) (x:=ys[j]'(by lia)) (by simp)
    have z1:its.toArray[j]=u1:=by
     have:its[j]? = some its[j]:=by simp [h1]
     rw [this] at e1
     simpa using Option.some.inj e1
    have z2:its2.toArray[j]=u2:=by
     have:its2[j]? = some its2[j]:=by simp [h2]
     rw [this] at e2
     simpa using Option.some.inj e2
    rw [z1,z2]
    exact ih j _ _ (by simp) (by simp) s1 s2 (by show A.units+1+n<cLine;lia)
   rw [all_true] at q
   exact q
 | @tup n a b xs ys ha hb hl _ ih=>
  intro ru rv hu
  cases ru
  cases rv
  by_cases e:a=b
  ·subst e;exact SeqAt.EqAt.same _
  ·obtain ⟨its,r1,p1,_⟩:=I.tuple ha
   obtain ⟨its2,r2,p2,_⟩:=I.tuple hb
   have l1:=r1.length
   have l2:=r2.length
   refine SeqAt.EqAt.of_refs e ?_
   have q:=SeqAt.RcAt.tuples (A:=A) (s:=s) (l:=a) (b:=b) (items:=its.toArray) (items2:=its2.toArray) (e:=fun _=>true) p1 p2 (by lia) fun j h1 h2=>by
    simp only [List.size_toArray] at h1 h2
    obtain ⟨u1,e1,s1⟩:=r1.get (i:=j) (x:=xs[j]'(by lia)) (by simp)
    obtain ⟨u2,e2,s2⟩:=r2.get (i:=j) (x:=ys[j]'(by lia)) (by simp)
    have z1:its.toArray[j]=u1:=by
     have:its[j]? = some its[j]:=by simp [h1]
     rw [this] at e1
     simpa using Option.some.inj e1
    have z2:its2.toArray[j]=u2:=by
     have:its2[j]? = some its2[j]:=by simp [h2]
     rw [this] at e2
     simpa using Option.some.inj e2
    rw [z1,z2]
    exact ih j _ _ (by simp) (by simp) s1 s2 (by show A.units+1+n<cLine;lia)
   have e3:(its.toArray.size==its2.toArray.size)=true:=by
    rw [beq_iff_eq];simp only [List.size_toArray];lia
   rw [e3,all_true] at q
   exact q
section
variable {X:Cx}
def Zlo (K:PySem.W.Frag) (b:Bool):R2:=fun x y H Q=>∃(p q:Addr) (xs ys:List V),x = .ref p/\y = .ref q/\Zo K H p xs/\Zo K H q ys/\xs.length=ys.length/\(∀(i:Nat) (x y:V),xs[i]? = some x->ys[i]? = some y->Eqv K H 60 x y)/\Q (.bl b) H
theorem Zep {pins:List (Addr×Obj)} {σ:St}{H:Hp}{s:Shared}{xs ys:List V}{its its2:List Value}{A:Around} (I:Inv X pins σ H s) (r1:Vals xs its) (r2:Vals ys its2) (hl:xs.length=ys.length) (h:∀(i:Nat) (x y:V),xs[i]? = some x->ys[i]? = some y->Eqv X.K H 60 x y) (hu:A.units+62<cLine):
  ∀j (h1:j<its.toArray.size) (h2:j<its2.toArray.size),SeqAt.EqAt A.in1 s its.toArray[j] its2.toArray[j] ((fun _=>true) j):=fun j h1 h2=>by
 have l1:=r1.length
 have l2:=r2.length
 simp only [List.size_toArray] at h1 h2
 obtain ⟨u1,e1,s1⟩:=r1.get (i:=j) (x:=xs[j]'(by lia)) (by simp)
 obtain ⟨u2,e2,s2⟩:=r2.get (i:=j) (x:=ys[j]'(by lia)) (by simp)
 have z1:its.toArray[j]=u1:=by
  have:its[j]? = some its[j]:=by simp [h1]
  rw [this] at e1
  simpa using Option.some.inj e1
 have z2:its2.toArray[j]=u2:=by
  have:its2[j]? = some its2[j]:=by simp [h2]
  rw [this] at e2
  simpa using Option.some.inj e2
 rw [z1,z2]
 exact Eqv.at I (h j _ _ (by simp) (by simp)) s1 s2 (by show A.units+1+60<cLine;lia)
theorem Zod (hu:X.A.units+64<cLine):OpR X (compareOp .Eq) (Zlo X.K true):=by
 intro pins s σ H x y v u Q I rx ry h
 obtain ⟨p,q,xs,ys,rfl,rfl,hp,hq,hl,he,hQ⟩:=h
 cases rx
 cases ry
 obtain ⟨its,r1,p1,_⟩:=I.list hp
 obtain ⟨its2,r2,p2,_⟩:=I.list hq
 have l1:=r1.length
 have l2:=r2.length
 refine SeqAt.eq_listAt (e:=fun _=>true) p1.isList p2.isList (by simp only [List.size_toArray];lia) (by lia) (Zep I r1 r2 hl he (by lia)) ⟨.bl true,H,I,?_,hQ⟩
 show Value.bool _=Value.bool true
 simp
theorem Zov (hu:X.A.units+64<cLine):OpR X (compareOp .NotEq) (Zlo X.K false):=by
 intro pins s σ H x y v u Q I rx ry h
 obtain ⟨p,q,xs,ys,rfl,rfl,hp,hq,hl,he,hQ⟩:=h
 cases rx
 cases ry
 obtain ⟨its,r1,p1,_⟩:=I.list hp
 obtain ⟨its2,r2,p2,_⟩:=I.list hq
 have l1:=r1.length
 have l2:=r2.length
 refine SeqAt.RcNeAt.lists (e:=fun _=>true) p1.isList p2.isList (by simp only [List.size_toArray];lia) (by lia) (Zep I r1 r2 hl he (by lia)) X.prog X.w _ _ ⟨.bl false,H,I,?_,hQ⟩
 show Value.bool _=Value.bool false
 simp
theorem Zk {K:PySem.W.Frag} (h:X.K=K):IxR X (Zpg K):=h ▸ ZlD
theorem ZcI {K:PySem.W.Frag} (h:X.K=K):IxR X (ZoY K):=h ▸ ZnZ
theorem JZ {K:PySem.W.Frag} (h:X.K=K):SlR X (ZoV K):=h ▸ ZmQ
theorem Zeg {K:PySem.W.Frag} (h:X.K=K):MtM X "list.count" (ZkN K):=h ▸ ZjE
theorem ZlV {K:PySem.W.Frag} (h:X.K=K) (hu:X.A.units+64<cLine):OpR X (compareOp .Eq) (Zlo K true):=h ▸ Zod hu
theorem Zbx {K:PySem.W.Frag} (h:X.K=K) (hu:X.A.units+64<cLine):OpR X (compareOp .NotEq) (Zlo K false):=h ▸ Zov hu
theorem ZW {K:PySem.W.Frag} (h:X.K=K):WV X (.builtin "len") (fun xs H Q=>∃p ys,xs = [.ref p]/\(Zo K H p ys∨Uw K H p ys)/\Q (.int ys.length) H):=h ▸ ZeR
theorem ZaG {K:PySem.W.Frag} (h:X.K=K):WV X (.type "list") (fun xs H Q=>∃p ys,xs = [.ref p]/\(Zo K H p ys∨Uw K H p ys) /\ ∀l,H l=none->Q (.ref l) (upd H l (.lst ys))):=h ▸ ZeA
theorem Yr {K:PySem.W.Frag}{es:List Expr}{k:Nat}{t:TGs}{n:Nat}{pos:Pos} (hk:X.K=K) (hc:X.calm=true) (h:PGs X es t) (hn:(assignEach es X.env).length=n:=by rfl) (hst:(assignEach es X.env).findIdx? (·.1)=none:=by rfl):PG X (.Tuple es k pos) (ZoG K n t):=hk ▸ ZnB hc h hn hst
theorem YU {K:PySem.W.Frag}{T:String}{name:Str}{r:V->List V->Hp->VK->Prop}{o e:Expr}{es:List Expr}{to:TE}{t:TA}{apos pos:Pos} (hk:X.K=K) (h:PE X (.Call (.Attribute o name apos) (e::es) [] pos) (tBM X.K T r to t)):PE X (.Call (.Attribute o name apos) (e::es) [] pos) (tBM K T r to t):=hk ▸ h
theorem ZC {K:PySem.W.Frag}{l tg:Expr}{tl:TE} (hk:X.K=K) (hl:PE X l tl):PI X tg l (ZmW K tl):=hk ▸ Zl3 hl
theorem UP {K:PySem.W.Frag}{a:Expr}{ta:TA}{p pos tpos:Pos}{es:List Expr}{k:Nat} (hk:X.K=K) (hg:Gl X "enumerate") (hm:X.mg "enumerate" = none) (ha:PA X [a] ta) (hs:starEach [a] X.env = [(false,eval a X.env)]:=by rfl):
  PI X (.Tuple es k tpos) (.Call (.Name "enumerate" p) [a] [] pos) (ZmT K ta):=hk ▸ ZmH hg hm ha hs
end
section
variable {g:TG}{tc:TT}{te:TE} {σ:St}{H:Hp}{Q:VK}{K:PySem.W.Frag}{a:Addr}{xs:List V}
theorem ZeO {J:It}{n:Nat} (hn:n<=sizeLine) (Pv:Nat->List V->Hp->Prop) (h0:Pv 0 [] H) (hlen:∀i ys H,Pv i ys H->ys.length<=i) (go:∀i ys H,i<n->Pv i ys H->J.go i H) (stop:∀ys H,Pv n ys H->J.stop n H)
  (hs:∀i ys H,i<n->Pv i ys H -> ∀x H',J.yld i H x H'->g x σ H' fun σ2 H2=>tc σ2 H2 fun b H3=>if b=true then te σ2 H3 fun y H4=>Pv (i+1) (ys ++ [y]) H4 else Pv (i+1) ys H3)
  (hd:∀ys H,Pv n ys H -> ∀D,H D=none->Q (.ref D) (upd H D (.lst ys))):LcW J σ g tc te H Q:=by
 unfold LcW
 refine ⟨fun i m ys H=>m=n-i/\i<=n/\Pv i ys H,⟨n,by simp,Nat.zero_le _,h0⟩,?_⟩
 rintro i m ys H ⟨rfl,hi,p⟩
 have hy:=hlen i ys H p
 by_cases hlt:i<n
 ·exact .inr ⟨go i ys H hlt p,by lia,Pv (i+1),fun ys' H' h2=>⟨n-(i+1),by lia,rfl,hlt,h2⟩,fun x H' y=>hs i ys H hlt p x H' y⟩
 ·have e:i=n:=by lia
  subst e
  exact .inl ⟨stop ys H p,by lia,hd ys H p⟩
theorem Y8 (hn:xs.length<=sizeLine) (Pv:Nat->List V->Hp->Prop) (h0:Pv 0 [] H) (hlen:∀i ys H,Pv i ys H->ys.length<=i) (hS:∀i ys H,Pv i ys H->Zo K H a xs)
  (hs:∀i x ys H,xs[i]? = some x->Pv i ys H->g x σ H fun σ2 H2=>tc σ2 H2 fun b H3=>if b=true then te σ2 H3 fun y H4=>Pv (i+1) (ys ++ [y]) H4 else Pv (i+1) ys H3)
  (hd:∀ys H,Pv xs.length ys H -> ∀D,H D=none->Q (.ref D) (upd H D (.lst ys))):LcW (Itl K a) σ g tc te H Q:=
 ZeO hn Pv h0 hlen (fun i ys H hi p=>⟨xs,xs[i],hS i ys H p,by simp [hi]⟩) (fun ys H p=>⟨xs,hS _ ys H p,Nat.le_refl _⟩) (fun i ys H hi p x H' y=>by
  obtain ⟨e,y⟩:=y
  subst e
  exact hs i x ys _ (y xs (hS i ys _ p)) p) hd
theorem ZdG {lo:Int}{n:Nat} (hn:n<=sizeLine) (Pv:Nat->List V->Hp->Prop) (h0:Pv 0 [] H) (hlen:∀i ys H,Pv i ys H->ys.length<=i)
  (hs:∀i ys H,i<n->Pv i ys H->g (.int (lo+i)) σ H fun σ2 H2=>tc σ2 H2 fun b H3=>if b=true then te σ2 H3 fun y H4=>Pv (i+1) (ys ++ [y]) H4 else Pv (i+1) ys H3)
  (hd:∀ys H,Pv n ys H -> ∀D,H D=none->Q (.ref D) (upd H D (.lst ys))):LcW (Itr lo n) σ g tc te H Q:=
 ZeO hn Pv h0 hlen (fun i ys H hi p=>hi) (fun ys H p=>Nat.le_refl _) (fun i ys H hi p x H' y=>by
  obtain ⟨e,y⟩:=y
  subst e y
  exact hs i ys _ hi p) hd
theorem Zlm (hn:xs.length<=sizeLine) (Pv:Nat->List V->Hp->Prop) (h0:Pv 0 [] H) (hlen:∀i ys H,Pv i ys H->ys.length<=i) (hS:∀i ys H,Pv i ys H->Zo K H a xs)
  (hs:∀i x p ys H,xs[i]? = some x->Pv i ys H->H p=none->g (.ref p) σ (upd H p (.tup [.int i,x])) fun σ2 H2=>tc σ2 H2 fun b H3=>if b=true then te σ2 H3 fun y H4=>Pv (i+1) (ys ++ [y]) H4 else Pv (i+1) ys H3)
  (hd:∀ys H,Pv xs.length ys H -> ∀D,H D=none->Q (.ref D) (upd H D (.lst ys))):LcW (Ite K a) σ g tc te H Q:=
 ZeO hn Pv h0 hlen (fun i ys H hi p=>⟨xs,xs[i],hS i ys H p,by simp [hi]⟩) (fun ys H p=>⟨xs,hS _ ys H p,Nat.le_refl _⟩) (fun i ys H hi p x H' y=>by
  obtain ⟨q,z,e1,e2,e3,y⟩:=y
  subst e1 e3
  exact hs i z q ys _ (y xs (hS i ys _ p)) p e2) hd
end
def YC (N:List Str) (osc scope:Scope) (Fs:List Str) (fi:List Nat):Bool:=
 (scope.kind == .function)&&scope.names.all (fun y=>y.2 != .cell)&&scope.names.all (fun y=>y.2 != .local||scope.names.lookup y.1==some .local)&&Fs.all (fun x=>scope.names.lookup x==some .free) &&
  scope.names.all (fun y=>y.2 != .free||osc.names.lookup y.1==some .cell||osc.names.lookup y.1==some .free)&&(fi.map (fun i=>N[i]?)==Fs.map some)
theorem ZU.of {N:List Str}{osc scope:Scope}{Ls Fs:List Str}{fi:List Nat} (h:YC N osc scope Fs fi=true):ZU N osc scope Ls Fs fi:=by
 simp only [YC,Bool.and_eq_true,List.all_eq_true,Bool.or_eq_true,bne_iff_ne,beq_iff_eq] at h
 obtain ⟨⟨⟨⟨⟨h1,h2⟩,h3⟩,h4⟩,h5⟩,h6⟩:=h
 refine ⟨h1,h2,fun y hy hl=>(h3 y hy).elim (fun z=>absurd hl z) id,h4,fun y hy hf=>?_,h6⟩
 rcases h5 y hy with (z | z) | z
 ·exact absurd hf z
 ·exact .inl z
 ·exact .inr z
def Yg (P:Program) (w:World) (K:PySem.W.Frag) (mg:Str->Option Value) (base:Heap) (k:Nat) (x:Str) (ps:List Str) (sp:Sp):Prop:=
 ∃(f:Addr) (fd:FuncData),ZX P w K mg base J2 k f fd ps sp/\mg x=some (.ref f)/\PySem.W.keepIn K (.ref f)=true/\Binds K fd ps []
theorem Zm {X:Cx}{j k:Nat}{x:Str}{ps:List Str}{sp:Sp}{p pos:Pos}{e:Expr}{es:List Expr}{t:TA} (h:Yg X.prog X.w X.K X.mg X.base j x ps sp) (hr:J6 k X.A) (ha:PA X (e::es) t) (hj:j<=k:=by decide) (hg:Gl X x:=by rfl) (hdb:(x==("__debug__" : Str))=false:=by decide)
  (he:starEach (e::es) X.env=(false,eval e X.env)::starEach es X.env:=by rfl) (hpl:(backTo pos (starEach es X.env)).any (·.1)=false:=by rfl):PE X (.Call (.Name x p) (e::es) [] pos) (Zk0 sp [] E0 t):=by
 obtain ⟨f,fd,G,hm,hk,hb⟩:=h
 exact Zh8 G (hr.mono hj) hg hm hk hb .nil ZkG ha hdb he hpl
def Jh (b:Addr) (H H':Hp):Prop:=∀c o,H c=some o->c≠b->H' c=some o
theorem Jh.refl (b:Addr) (H:Hp):Jh b H H:=fun _ _ h _=>h
theorem Jh.trans {b:Addr}{H H1 H2:Hp} (x:Jh b H H1) (y:Jh b H1 H2):Jh b H H2:=fun c o h n=>y c o (x c o h n) n
theorem Ze.frm {b:Addr}{H H':Hp} (x:Ze H H'):Jh b H H':=fun c o h _=>x c o h
theorem Ze.laid {H:Hp}{p:Addr}{o:HO} (h:H p=none):Ze H (upd H p o):=fun c u e=>by rw [Zj (Zg e h)];exact e
theorem Ze.step {H H':Hp}{p:Addr}{o:HO} (s:Ze H H') (h:H' p=none):Ze H (upd H' p o):=s.trans (.laid h)
theorem Jh.upd {b:Addr}{H:Hp}{o:HO}:Jh b H (upd H b o):=fun c u e n=>by rw [Zj n];exact e
theorem Jh.new {b p:Addr}{H H':Hp}{o:HO} (s:Jh b H H') (h:H' p=none):Jh b H (L2.upd H' p o):=s.trans (Ze.laid h).frm
theorem Ze.put {H H':Hp}{p:Addr}{o:HO} (s:Ze H H') (h:H p=none):Ze H (upd H' p o):=fun c u e=>by rw [Zj (Zg e h)];exact s c u e
def Bag (H:Hp) (b:Addr):Prop:=∃g r:Int,0<=g/\H b=some (.lst [.int g,.int r])
theorem Jh.free {b:Addr}{H H':Hp} (f:Jh b H H') (hb:Bag H' b) {p:Addr} (h:H' p=none):H p=none:=by
 cases q:H p with
 | none=>rfl
 | some o=>
  by_cases e:p=b
  ·subst e
   obtain ⟨g,r,_,z⟩:=hb
   rw [h] at z;cases z
  ·rw [f p o q e] at h;cases h
def Zu (H:Hp) (xs:List V) (ls:List (Str×Int)):Prop:=Paired (fun x (p:Str×Int)=>∃t,x=V.ref t/\H t=some (.tup [.str p.1,.int p.2])) xs ls
theorem Zu.mono {H H':Hp} (h:∀t p,H t=some (.tup p)->H' t=some (.tup p)):∀{xs:List V}{ls:List (Str×Int)},Zu H xs ls->Zu H' xs ls
 | _,_,.nil=>.nil
 | _,_,.cons ⟨t,e,q⟩ r=>.cons ⟨t,e,h t _ q⟩ (Zu.mono h r)
theorem Zu.same {H H':Hp} (s:Ze H H') {xs:List V}{ls:List (Str×Int)} (h:Zu H xs ls):Zu H' xs ls:=h.mono fun t p e=>s t _ e
theorem Zu.frm {b:Addr}{H H':Hp} (s:Jh b H H') (hb:Bag H b) {xs:List V}{ls:List (Str×Int)} (h:Zu H xs ls):Zu H' xs ls:=h.mono fun t p e=>s t _ e (fun z=>by
 obtain ⟨g,r,_,q⟩:=hb
 rw [z,q] at e;cases e)
theorem Zu.len {H:Hp}{xs:List V}{ls:List (Str×Int)} (h:Zu H xs ls):xs.length=ls.length:=Paired.length h
theorem Zu.get {H:Hp}:∀{xs:List V}{ls:List (Str×Int)}{i:Nat}{x:V},Zu H xs ls->xs[i]? = some x -> ∃p t,ls[i]? = some p/\x = .ref t/\H t=some (.tup [.str p.1,.int p.2])
 | _,_,_,_,.nil,e=>by simp at e
 | _,_,0,_,.cons ⟨t,e1,q⟩ _,e=>by simp at e;subst e;exact ⟨_,t,rfl,e1,q⟩
 | _,_,i+1,x,.cons _ r,e=>by
  obtain ⟨p,t,h1,h2⟩:=Zu.get (i:=i) (x:=x) r (by simpa using e)
  exact ⟨p,t,by simpa using h1,h2⟩
theorem Zu.snoc {H:Hp}{xs:List V}{ls:List (Str×Int)}{t:Addr}{x:Str}{k:Int} (h:Zu H xs ls) (e:H t=some (.tup [.str x,.int k])):Zu H (xs ++ [.ref t]) (ls ++ [(x,k)]):=Paired.snoc h ⟨t,rfl,e⟩
theorem Zu.append {H:Hp}:∀{xs ys:List V}{ls ms:List (Str×Int)},Zu H xs ls->Zu H ys ms->Zu H (xs++ys) (ls++ms)
 | _,_,_,_,.nil,s=>s
 | _,_,_,_,.cons r t,s=>.cons r (Zu.append t s)
inductive Wk:List (Str×Int)->Int->Prop
 | nil:Wk [] 0
 | born {ls:List (Str×Int)}{n k:Int}:Wk ls n->0<=k->k<=n->Wk (ls ++ [((("born" : Str),k):Str×Int)]) (n+2)
 | cross {ls:List (Str×Int)}{n k:Int}:Wk ls n->0<=k->k+1<n->Wk (ls ++ [((("cross" : Str),k):Str×Int)]) n
 | fin {ls:List (Str×Int)}{n k:Int}:Wk ls n->0<=k->k+1<n->Wk (ls ++ [((("end" : Str),k):Str×Int)]) (n-2)
def Kd (x:Str):Prop:=x = "born" ∨ x = "cross" ∨ x = "end"
theorem Wk.kd {ls:List (Str×Int)}{n:Int} (h:Wk ls n):∀p∈ls,Kd p.1:=by
 induction h with
 | nil=>intro p hp;cases hp
 | born _ _ _ ih=>intro p hp;rcases List.mem_append.mp hp with z | z;exact ih p z;rw [List.mem_singleton.mp z];exact .inl rfl
 | cross _ _ _ ih=>intro p hp;rcases List.mem_append.mp hp with z | z;exact ih p z;rw [List.mem_singleton.mp z];exact .inr (.inl rfl)
 | fin _ _ _ ih=>intro p hp;rcases List.mem_append.mp hp with z | z;exact ih p z;rw [List.mem_singleton.mp z];exact .inr (.inr rfl)
def Drw (H:Hp) (l:Addr) (ls:List (Str×Int)):Prop:=∃xs,H l=some (.lst xs)/\Zu H xs ls/\Wk ls 0/\ls.length<=60
def Ev (t:TT) (σ:St) (H:Hp) (β:Bool):Prop:=∀Q:Bool->Hp->Prop,Q β H->t σ H Q
theorem ZeU {t u:TT} {σ:St}{H:Hp} {β γ:Bool} (h1:Ev t σ H β) (h2:β = true->Ev u σ H γ):Ev (ZpC t u) σ H (β && γ):=fun Q q=>h1 _ (by
 cases β with
 | true=>rw [if_pos rfl];exact h2 rfl _ q
 | false=>rw [if_neg Bool.false_ne_true];exact q)
theorem Zpw {t u:TT} {σ:St}{H:Hp} {β γ:Bool} (h1:Ev t σ H β) (h2:β = false->Ev u σ H γ):Ev (tOr t u) σ H (β || γ):=fun Q q=>h1 _ (by
 cases β with
 | true=>rw [if_pos rfl];exact q
 | false=>rw [if_neg Bool.false_ne_true];exact h2 rfl _ q)
theorem Zpq {t:TT} {σ:St}{H:Hp} {β:Bool}{T U:Hp->Prop} (h:Ev t σ H β) (h1:β = true->T H) (h2:β = false->U H):t σ H fun b H1=>if b=true then T H1 else U H1:=h _ (by
 cases β with
 | true=>rw [if_pos rfl];exact h1 rfl
 | false=>rw [if_neg Bool.false_ne_true];exact h2 rfl)
theorem Zhq {tc:TT}{t u:TS}{D:Ends} {σ:St}{H:Hp} {β:Bool} (h:Ev tc σ H β) (h1:β = true->t D σ H) (h2:β = false->u D σ H):Zpj tc t u D σ H:=Zpq h h1 h2
theorem lcT {σ:St}{H:Hp}{A B:Hp->Prop} (h:A H):Gf σ H fun b H3=>if b=true then A H3 else B H3:=by
 show if true=true then A H else B H
 exact Zar h
theorem WT {H H1 H2:Hp}{b l t:Addr}{xs:List V}{ls:List (Str×Int)} (x:Str) (k:Int) (f0:Jh b H H1) (hb1:Bag H1 b) (hl:H1 l=some (.lst xs)) (hL:Zu H1 xs ls) (hlb:l≠b) (hlf:H l=none) (f2:Jh b H1 H2) (bag2:Bag H2 b) (ht:H2 t=none):
  (upd H2 t (.tup [.str x,.int k])) l=some (.lst xs)/\Bag (upd (upd H2 t (.tup [.str x,.int k])) l (.lst (xs ++ [.ref t]))) b/\Jh b H (upd (upd H2 t (.tup [.str x,.int k])) l (.lst (xs ++ [.ref t]))) /\
   (upd (upd H2 t (.tup [.str x,.int k])) l (.lst (xs ++ [.ref t]))) l=some (.lst (xs ++ [.ref t]))/\Zu (upd (upd H2 t (.tup [.str x,.int k])) l (.lst (xs ++ [.ref t]))) (xs ++ [.ref t]) (ls ++ [(x,k)]):=by
 have hl2:H2 l=some (.lst xs):=f2 l _ hl hlb
 have hlt:l≠t:=Zg hl2 ht
 have hbt:b≠t:=by
  obtain ⟨g,r,_,e⟩:=bag2
  exact Zg e ht
 refine ⟨by rw [Zj hlt];exact hl2,?_,fun c o e n=>?_,Zb,?_⟩
 ·obtain ⟨g,r,h0,e⟩:=bag2
  exact ⟨g,r,h0,by rw [Zj (Ne.symm hlb),Zj hbt];exact e⟩
 ·have e2:=f2 c o (f0 c o e n) n
  rw [Zj (Zg e hlf),Zj (Zg e2 ht)]
  exact e2
 ·refine Zu.snoc ?_ (by rw [Zj (Ne.symm hlt)];exact Zb)
  refine (hL.frm f2 hb1).mono fun t' p e=>?_
  rw [Zj (Zgq e hl2 (by intro z;cases z)),Zj (Zg e ht)]
  exact e
theorem lcG {i:Nat}{v:V} {σ:St}{H:Hp}{A B:St->Hp->Prop} (h:A (σ.set i (some v)) H):J0 i v σ H fun σ2 H2=>Gf σ2 H2 fun b H3=>if b=true then A σ2 H3 else B σ2 H3:=by
 show if true=true then A (σ.set i (some v)) H else B (σ.set i (some v)) H
 exact Zar h
def isK (ls:List (Str×Int)) (pr:Str->Bool) (i:Nat):Bool:=((ls[i]?).map fun q=>pr q.1)==some true
def Z0 (ls:List (Str×Int)) (pr:Str->Bool) (n:Nat):List Int:=(List.range n).filterMap fun i=>if isK ls pr i=true then some (i:Int) else none
theorem Wy (ls:List (Str×Int)) (pr:Str->Bool) (n:Nat):Z0 ls pr (n+1)=Z0 ls pr n++(if isK ls pr n=true then [(n:Int)] else []):=by
 unfold Z0
 rw [List.range_succ,List.filterMap_append]
 by_cases h:isK ls pr n=true<;>simp [h]
theorem Zgo {ls:List (Str×Int)}{pr:Str->Bool}{n:Nat}{q:Str×Int} (h:ls[n]? = some q) (hp:pr q.1=true):(Z0 ls pr n).map V.int ++ [V.int n]=(Z0 ls pr (n+1)).map V.int:=by
 have:isK ls pr n=true:=by unfold isK;rw [h];simp [hp]
 rw [Wy,this]
 simp
theorem Zim {ls:List (Str×Int)}{pr:Str->Bool}{n:Nat}{q:Str×Int} (h:ls[n]? = some q) (hp:pr q.1=false):(Z0 ls pr n).map V.int=(Z0 ls pr (n+1)).map V.int:=by
 have:isK ls pr n=false:=by unfold isK;rw [h];simp [hp]
 rw [Wy,this]
 simp
theorem JH (ls:List (Str×Int)) (pr:Str->Bool) (n:Nat):(Z0 ls pr n).length<=n:=by
 unfold Z0
 exact Nat.le_trans (List.length_filterMap_le _ _) (by simp)
def ZaE (x:Str):Int:=if x = "born" then 2 else if x = "end" then -2 else 0
def Yt (ls:List (Str×Int)):Int:=(ls.map fun p=>ZaE p.1).sum
theorem JM (ls:List (Str×Int)) (p:Str×Int):Yt (ls ++ [p])=Yt ls+ZaE p.1:=by
 unfold Yt
 simp
theorem Zoc {xs:List V}{t:Nat} (h:t<=xs.length):Zcj xs none (some (t:Int))=xs.take t:=by
 have e1:HT.sIx xs.length 0 none=0:=by unfold HT.sIx;rfl
 have e2:HT.sIx xs.length xs.length (some (t:Int))=t:=by
  have h0:¬((t:Int)<0):=by lia
  unfold HT.sIx
  simp [h0]
  lia
 unfold Zcj
 rw [e1,e2]
 simp
theorem U1 {K:PySem.W.Frag}{H:Hp}{p q:Addr}{xs:List V} (h1:H p=some (.lst xs)) (h2:H q=some (.lst xs)) (f:xs.all GC=true):Eqv K H 60 (.ref p) (.ref q):=
 .lst (Zo.of h1) (Zo.of h2) rfl fun i x y e1 e2=>by
  rw [e1] at e2
  cases e2
  exact .flat (List.all_eq_true.mp f x (List.mem_of_getElem? e1))
section
variable {X:Cx}
theorem Zf7 {v:Value}{a:Int} (h:IsPart v (some a)):RelV (.int a) v:=by
 cases h with
 | int _ t=>exact ⟨t,rfl⟩
def Zp7 (to:TE) (tl th:TO):TG:=fun v σ H Q=>to σ H fun x H1=>tl σ H1 fun lo H2=>th σ H2 fun hi H3=>∃(l b:Addr) (xs ys:List V) (a c:Int),x = .ref l/\v = .ref b/\lo=some a/\hi=some c/\H3 l=some (.lst xs)/\H3 b=some (.lst ys)/\l≠b /\
 0<=a/\a<=c/\c<=xs.length/\xs.length+ys.length<=sizeLine/\Q σ (upd H3 l (.lst (xs.take a.toNat++ys++xs.drop c.toNat)))
theorem ZgS {o:Expr}{lo hi:Option Expr}{to:TE}{tl th:TO}{p2 pos:Pos} (ho:PE X o to) (hl:PO X lo tl) (hu:PO X hi th):PG X (.Subscript o (.Slice lo hi none p2) pos) (Zp7 to tl th):=by
 intro pins s σ H v u Q I r h
 show wpAny _ _ (do
   let ov <- holding [u] (eval o X.env)
   let iv <- holding [u,ov] (eval (.Slice lo hi none p2) X.env)
   standAt pos
   holding [u,ov,iv] (setItem ov iv u)
   release [iv,u,ov] []) _ _ s
 refine wpAny_bind (wpAny_holding (YG (ho pins s σ H _ I h) fun ov s1 ⟨x,H1,I1,r1,q1⟩=>?_))
 refine wpAny_bind (wpAny_holding (wpAny_Slice (YG (hl pins s1 σ H1 _ I1 q1) fun vl s2 ⟨l',H2,I2,pl,q2⟩=>YG (hu pins s2 σ H2 _ I2 q2) fun vu s3 ⟨u',H3,I3,pu,q3⟩=>?_)))
 rw [evalPart_none]
 refine wpAny_pure ?_
 have I4:Inv X pins σ H3 { s3 with heap:=s3.heap.push { cls:=.type "slice", data:=.fields #[vl,vu,.none] } }:=I3.kept (t':=s3.toks) fun b ob q=>Heap.get?_push_of_some _ q
 obtain ⟨l,b,xs,ys,a,c,rfl,rfl,rfl,rfl,hx,hy,hne,h0,hac,hc,hz,q⟩:=q3
 cases r1
 cases r
 refine wpAny_bind (wpAny_standAt (wpAny_bind (wpAny_holding (Zjv I4 hx hy hne (Heap.IsSliceOf.new ..) (Zf7 pl) (Zf7 pu) h0 hac hc hz fun s5 I5=>?_))))
 exact wpAny_release ⟨σ,_,I5,q⟩
end
theorem ZiF (a c:Nat) (hac:a<=c):∀(its:List Value) (i:Nat),((its.zipIdx i).filterMap fun (p:Value×Nat)=>if (a<=p.2/\p.2<c) then none else some p.1)=its.take (a-i)++its.drop (c-i)
 | [],i=>by simp
 | x::r,i=>by
  have ih:=ZiF a c hac r (i+1)
  rw [List.zipIdx_cons,List.filterMap_cons]
  by_cases h1:i<a
  ·have e1:a-i=(a-(i+1))+1:=by lia
   have e2:c-i=(c-(i+1))+1:=by lia
   rw [if_neg (show ¬(a<=(x,i).2/\(x,i).2<c) by show ¬(a<=i/\i<c);lia)]
   simp only [ih]
   rw [e1,e2]
   simp
  ·by_cases h2:i<c
   ·have e1:a-i=0:=by lia
    have e1':a-(i+1)=0:=by lia
    have e2:c-i=(c-(i+1))+1:=by lia
    rw [if_pos (show (a<=(x,i).2/\(x,i).2<c) by show (a<=i/\i<c);lia)]
    simp only [ih]
    rw [e1,e1',e2]
    simp
   ·have e1:a-i=0:=by lia
    have e1':a-(i+1)=0:=by lia
    have e2:c-i=0:=by lia
    have e2':c-(i+1)=0:=by lia
    rw [if_neg (show ¬(a<=(x,i).2/\(x,i).2<c) by show ¬(a<=i/\i<c);lia)]
    simp only [ih]
    rw [e1,e1',e2,e2']
    simp
section
variable {prog:Program}{w:World}{A:Around}{E:Value->Shared->Prop}{s:Shared}
theorem Zd1 {l sl:Addr}{its:List Value}{n:Nat}{vl vu:Value}{a c:Nat}{Q:Unit->Shared->Prop}
  (e:s.heap.get? l=some { cls:=.type "list", data:=.seq its.toArray n }) (hs:s.heap.IsSliceOf sl vl vu .none) (pl:IsPart vl (some (a:Int))) (pu:IsPart vu (some (c:Int))) (hac:a<=c) (hc:c<=its.length)
  (hsz:its.length<=sizeLine) (h:∀f:Array Value->Array Value,f its.toArray=(its.take a++its.drop c).toArray->Q () { s with heap:=s.heap.update l (Obj.mapSeq f) }):
  wpAny (model prog w) A (delItem (.ref l) (.ref sl)) Q E s:=by
 have hl:s.heap.IsList l its.toArray:=PySem.IsL.isList e
 obtain ⟨os,hos,hcs,hds⟩:=id hs
 have hTs:s.TypeIs (.ref sl) "slice" := ⟨os,hos,hcs⟩
 have hstep:¬((rawPart none==rawInt 0)=true):=Bool.false_ne_true
 refine wpAny_delItem_slot hl.typeIs (by decide) F.slot_list_delitem (wpAny_call_entry F.slot_list_delitem hl.typeIs F.entry_list_delitem ?_ (F.args_list_delitem_2 _ _))
 show wpAny _ _ (Builtin.List.listSubscript? (.ref sl) >>= _) _ _ s
 refine wpAny_bind ?_
 unfold Builtin.List.listSubscript?
 refine wpAny_bind (wpAny_specialOf hTs slice_no_index ?_)
 simp only [Option.isNone_none,if_true]
 refine wpAny_pure ?_
 show wpAny _ _ (typeOf (.ref sl) >>= _) _ _ s
 refine wpAny_bind (wpAny_typeOf hTs ?_)
 first
  | rw [if_neg (by decide)]
  | refine PySem.W.KFB.if_not (by decide) ?_
 rw [listSliceParts_eq]
 refine wpAny_bind (wpAny_bind (wpAny_field hos hds (x:=.none) rfl (wpAny_bind (wpAny_listPart .none ?_))))
 rw [if_neg hstep]
 refine wpAny_bind (wpAny_field hos hds (x:=vl) rfl (wpAny_bind (wpAny_listPart pl ?_)))
 refine wpAny_bind (wpAny_field hos hds (x:=vu) rfl (wpAny_bind (wpAny_listPart pu (wpAny_pure ?_))))
 unfold Builtin.List.listItems
 refine wpAny_bind (wpAny_bind (wpAny_seqItems e rfl (wpAny_pure ?_)))
 refine wpAny_bind (wpAny_of_eq ((sliceIndices_raw (some (a:Int)) (some (c:Int)) none its.toArray.size (by simp)).trans (congrArg (pure:Int×Int×Int->Sem (Int×Int×Int)) (Zdd hac (by rw [List.size_toArray];exact hc)))) ?_)
 refine wpAny_bind (wpAny_rule ?_)
 have key:∀(F:Array Value->Array Value),F its.toArray=(its.take a++its.drop c).toArray -> ∀(g:Sem Fin),(∀s',Q () s'->wpAny (model prog w) A.in1 g (fun fin s'=>∃v,fin = .done (.ret v)/\Q () s') E s') ->
   wpAny (model prog w) A.in1 (Builtin.List.listUpdate (.ref l) F >>= fun _=>g) (fun fin s'=>∃v,fin = .done (.ret v)/\Q () s') E s:=fun F hF g hg=>by
  show wpAny (model prog w) A.in1 (updateSeq l F >>= fun _=>g) _ E s
  refine wpAny_bind (wpAny_updateSeq (hz:=by rw [List.size_toArray];exact hsz) (_hz':=?_) e rfl (hg _ (h F hF)))
  rw [hF,List.size_toArray,List.length_append,List.length_take,List.length_drop]
  lia
 refine key _ ?_ _ ?_
 ·refine congrArg List.toArray ((congrArg (fun f=>List.filterMap f its.zipIdx) (funext fun p=>?_)).trans (ZiF a c hac its 0))
  obtain ⟨x,k⟩:=p
  show (if (if (1:Int)>0 then decide ((a:Int)<=(k:Int))&&decide ((k:Int)<(c:Int))&&(((k:Int)-(a:Int)) % 1==0) else _)=true then none else some x)=if (a<=k/\k<c) then none else some x
  rw [if_pos (show (1:Int)>0 by decide)]
  have e0:((k:Int)-(a:Int)) % 1=0:=Int.emod_one _
  by_cases h1:a<=k/\k<c
  ·rw [if_pos h1,if_pos (by rw [e0];simp;lia)]
  ·rw [if_neg h1,if_neg (by rw [e0];simp;lia)]
 ·intro s' hq
  exact wpAny_bind (wpAny_letGo (wpAny_pure ⟨.none,rfl,hq⟩))
end
section
variable {X:Cx}
def Znh (to:TE) (tl th:TO):TS:=fun D σ H=>to σ H fun x H1=>tl σ H1 fun lo H2=>th σ H2 fun hi H3=>∃(l:Addr) (xs:List V) (a c:Int),x = .ref l/\lo=some a/\hi=some c/\H3 l=some (.lst xs)/\0<=a/\a<=c/\c<=xs.length/\D.nx σ (upd H3 l (.lst (xs.take a.toNat++xs.drop c.toNat)))
theorem ZjZ {o:Expr}{lo hi:Option Expr}{to:TE}{tl th:TO}{p2 p3 pos:Pos} (ho:PE X o to) (hl:PO X lo tl) (hu:PO X hi th):PS X (.Delete [.Subscript o (.Slice lo hi none p2) p3] pos) (Znh to tl th):=by
 intro pins s σ H D I h
 refine wpAny_Delete (wpAny_deleteEach_cons ?_)
 rw [arm_delete_Subscript]
 refine wpAny_bind (YG (ho pins s σ H _ I h) fun ov s1 ⟨x,H1,I1,r1,q1⟩=>?_)
 refine wpAny_bind (wpAny_holding (wpAny_Slice (YG (hl pins s1 σ H1 _ I1 q1) fun vl s2 ⟨l',H2,I2,pl,q2⟩=>YG (hu pins s2 σ H2 _ I2 q2) fun vu s3 ⟨u',H3,I3,pu,q3⟩=>?_)))
 rw [evalPart_none]
 refine wpAny_pure ?_
 have I4:Inv X pins σ H3 { s3 with heap:=s3.heap.push { cls:=.type "slice", data:=.fields #[vl,vu,.none] } }:=I3.kept (t':=s3.toks) fun b ob q=>Heap.get?_push_of_some _ q
 obtain ⟨l,xs,a,c,rfl,rfl,rfl,hx,h0,hac,hc,q⟩:=q3
 cases r1
 obtain ⟨z,its,n,r,hlen,e⟩:=I4.lstM hx
 obtain ⟨a',rfl⟩:=Int.eq_ofNat_of_zero_le h0
 obtain ⟨c',rfl⟩:=Int.eq_ofNat_of_zero_le (Int.le_trans h0 hac)
 simp only [Int.toNat_natCast] at q
 refine wpAny_bind (wpAny_standAt (wpAny_bind (wpAny_holding (Zd1 (a:=a') (c:=c') e (Heap.IsSliceOf.new ..) pl pu (by lia) (by lia) (by lia) fun f hf=>?_))))
 refine wpAny_release (wpAny_deleteEach_nil ?_)
 refine ⟨σ,_,I4.lset (its':=its.take a'++its.drop c') (t':=s3.toks) hx e hf (Vals.append (r.take _) (r.drop _)) ?_,q⟩
 rw [List.length_append,List.length_take,List.length_drop]
 lia
end
theorem Zfl {K:PySem.W.Frag}{a:Addr}{xs:List V}{g:TG}{tb:TS}{D:Ends} {σ:St}{H:Hp} (Pv:Nat->St->Hp->Prop) (h0:Pv 0 σ H) (hl:∀i σ H,i<=xs.length->Pv i σ H->Zo K H a xs)
  (hs:∀i x p σ H,xs[i]? = some x->Pv i σ H->H p=none->g (.ref p) σ (upd H p (.tup [.int i,x])) fun σ2 H2=>tb { D with nx:=Pv (i+1),ct:=Pv (i+1),bk:=D.nx } σ2 H2) (hd:∀ σ H,Pv xs.length σ H->D.nx σ H):
  ∃W:Nat->Nat->St->Hp->Prop,(∃m,W 0 m σ H) /\ ∀i m σ H,W i m σ H ->
   ((Ite K a).stop i H/\D.nx σ H)∨((Ite K a).go i H /\ ∃N:St->Hp->Prop,(∀ σ' H',N σ' H' -> ∃m',m'<m/\W (i+1) m' σ' H') /\ ∀x H',(Ite K a).yld i H x H'->g x σ H' fun σ2 H2=>tb { D with nx:=N,ct:=N,bk:=D.nx } σ2 H2):=by
 refine ⟨fun i m σ H=>m=xs.length-i/\i<=xs.length/\Pv i σ H,⟨xs.length,by simp,Nat.zero_le _,h0⟩,?_⟩
 rintro i m σ H ⟨rfl,hi,p⟩
 have q:=hl i σ H hi p
 by_cases hlt:i<xs.length
 ·refine .inr ⟨⟨xs,xs[i],q,by simp [hlt]⟩,Pv (i+1),fun σ' H' p'=>⟨xs.length-(i+1),by lia,rfl,hlt,p'⟩,fun x H' y=>?_⟩
  obtain ⟨r,z,e1,e2,e3,y⟩:=y
  subst e1 e3
  exact hs i z r σ _ (y xs q) p e2
 ·have e:i=xs.length:=by lia
  subst e
  exact .inl ⟨⟨xs,q,Nat.le_refl _⟩,hd σ H p⟩
def swp (r:List Int) (k:Nat):List Int:=(r.set k (r.getD (k+1) 0)).set (k+1) (r.getD k 0)
def stp (s:List Int×Int) (p:Str×Int):List Int×Int:=
 if p.1 = "born" then (s.1.take p.2.toNat ++ [s.2,s.2+1]++s.1.drop p.2.toNat,s.2+2) else if p.1 = "cross" then (swp s.1 p.2.toNat,s.2) else (s.1.take p.2.toNat++s.1.drop (p.2.toNat+2),s.2)
def rb (ls:List (Str×Int)):List Int×Int:=ls.foldl stp ([],0)
theorem ZR (ls:List (Str×Int)) (p:Str×Int):rb (ls ++ [p])=stp (rb ls) p:=by
 unfold rb
 rw [List.foldl_append]
 rfl
theorem Y1 {s:List Int×Int}{k:Int}:stp s ("born", k)=(s.1.take k.toNat ++ [s.2,s.2+1]++s.1.drop k.toNat,s.2+2):=if_pos rfl
theorem nb1:¬(("cross" : Str) = "born"):=by decide +kernel
theorem nb2:¬(("end" : Str) = "born"):=by decide +kernel
theorem nb3:¬(("end" : Str) = "cross"):=by decide +kernel
theorem YD {s:List Int×Int}{k:Int}:stp s ("cross", k)=(swp s.1 k.toNat,s.2):=(if_neg nb1).trans (if_pos rfl)
theorem JG {s:List Int×Int}{k:Int}:stp s ("end", k)=(s.1.take k.toNat++s.1.drop (k.toNat+2),s.2):=(if_neg nb2).trans (if_neg nb3)
theorem GN {ls:List (Str×Int)}{n:Int} (h:Wk ls n):((rb ls).1.length:Int)=n:=by
 induction h with
 | nil=>rfl
 | born h h0 h1 ih=>
  rw [ZR,Y1]
  simp only [List.length_append,List.length_take,List.length_drop,List.length_cons,List.length_nil]
  lia
 | cross h h0 h1 ih=>
  rw [ZR,YD]
  simp only [swp,List.length_set]
  exact ih
 | fin h h0 h1 ih=>
  rw [ZR,JG]
  simp only [List.length_append,List.length_take,List.length_drop]
  lia
theorem Zdl {α:Type}{a b:List α}{x y:α} (h:a ++ [x]=b ++ [y]):a=b/\x=y:=by
 have h1:=List.append_inj' h rfl
 exact ⟨h1.1,by simpa using h1.2⟩
theorem Znl {l:List (Str×Int)}{p:Str×Int}{m:Int} (h:Wk (l ++ [p]) m):∃n,Wk l n/\((p.1 = "born" /\ 0<=p.2/\p.2<=n)∨(p.1 = "cross" /\ 0<=p.2/\p.2+1<n)∨(p.1 = "end" /\ 0<=p.2/\p.2+1<n)):=by
 generalize hq:l ++ [p]=q at h
 cases h with
 | nil=>exact absurd hq (by simp)
 | born h h0 h1=>obtain ⟨rfl,rfl⟩:=Zdl hq;exact ⟨_,h,.inl ⟨rfl,h0,h1⟩⟩
 | cross h h0 h1=>obtain ⟨rfl,rfl⟩:=Zdl hq;exact ⟨_,h,.inr (.inl ⟨rfl,h0,h1⟩)⟩
 | fin h h0 h1=>obtain ⟨rfl,rfl⟩:=Zdl hq;exact ⟨_,h,.inr (.inr ⟨rfl,h0,h1⟩)⟩
theorem YH {ls:List (Str×Int)}{n:Int} (h:Wk ls n):∀i,∃m,Wk (ls.take i) m:=by
 induction h with
 | nil=>intro i;exact ⟨0,by simpa using Wk.nil⟩
 | @born l n k h h0 h1 ih=>
  intro i
  by_cases hi:i<=l.length
  ·rw [List.take_append_of_le_length hi];exact ih i
  ·rw [List.take_of_length_le (by rw [List.length_append,List.length_singleton];lia)];exact ⟨_,Wk.born h h0 h1⟩
 | @cross l n k h h0 h1 ih=>
  intro i
  by_cases hi:i<=l.length
  ·rw [List.take_append_of_le_length hi];exact ih i
  ·rw [List.take_of_length_le (by rw [List.length_append,List.length_singleton];lia)];exact ⟨_,Wk.cross h h0 h1⟩
 | @fin l n k h h0 h1 ih=>
  intro i
  by_cases hi:i<=l.length
  ·rw [List.take_append_of_le_length hi];exact ih i
  ·rw [List.take_of_length_le (by rw [List.length_append,List.length_singleton];lia)];exact ⟨_,Wk.fin h h0 h1⟩
theorem ZfU {ls:List (Str×Int)}{n:Int} (h:Wk ls n) {i:Nat}{p:Str×Int} (hp:ls[i]? = some p):
  ls.take (i+1)=ls.take i ++ [p]/\((p.1 = "born" /\ 0<=p.2/\p.2<=((rb (ls.take i)).1.length:Int))∨(p.1 = "cross" /\ 0<=p.2/\p.2+1<((rb (ls.take i)).1.length:Int))∨(p.1 = "end" /\ 0<=p.2/\p.2+1<((rb (ls.take i)).1.length:Int))):=by
 have e:ls.take (i+1)=ls.take i ++ [p]:=by rw [List.take_add_one,hp];rfl
 refine ⟨e,?_⟩
 obtain ⟨m,hm⟩:=YH h (i+1)
 rw [e] at hm
 obtain ⟨n',hn,c⟩:=Znl hm
 rw [GN hn]
 exact c
def Yz (H:Hp) (xs:List V) (rs:List (List Int)):Prop:=Paired (fun x (r:List Int)=>∃t,x=V.ref t/\H t=some (.lst (r.map V.int))) xs rs
theorem Yz.mono {H H':Hp} (h:∀t o,V.ref t∈xs->H t=some o->H' t=some o) {rs:List (List Int)} (r:Yz H xs rs):Yz H' xs rs:=by
 unfold Yz at *
 induction r with
 | nil=>exact .nil
 | cons a t ih=>
  obtain ⟨q,e,hq⟩:=a
  subst e
  exact .cons ⟨q,rfl,h q _ List.mem_cons_self hq⟩ (ih fun t o ht=>h t o (List.mem_cons_of_mem _ ht))
def rowsOf (ls:List (Str×Int)) (i:Nat):List (List Int):=(List.range i).map fun j=>(rb (ls.take j)).1
theorem Zb9 (ls:List (Str×Int)) (i:Nat):rowsOf ls (i+1)=rowsOf ls i ++ [(rb (ls.take i)).1]:=by
 unfold rowsOf
 rw [List.range_succ,List.map_append]
 rfl
theorem Yz.mem {H:Hp}{xs:List V}{rs:List (List Int)} (r:Yz H xs rs) {t:Addr} (h:V.ref t∈xs):∃q:List Int,H t=some (.lst (q.map V.int)):=by
 unfold Yz at r
 induction r with
 | nil=>cases h
 | cons a _ ih=>
  obtain ⟨q,e,hq⟩:=a
  rcases List.mem_cons.mp h with z | z
  ·rw [e] at z
   have:t=q:=V.ref.inj z
   subst this
   exact ⟨_,hq⟩
  ·exact ih z
theorem Yz.last {H:Hp}{rs:List (List Int)}{r:List Int}:∀{xs:List V} , Yz H xs (rs ++ [r]) -> ∃ys t,xs=ys ++ [V.ref t]/\H t=some (.lst (r.map V.int)):=by
 induction rs with
 | nil=>
  intro xs h
  cases h with
  | cons a b=>
   cases b
   obtain ⟨t,e,q⟩:=a
   exact ⟨[],t,by rw [e];rfl,q⟩
 | cons q rs ih=>
  intro xs h
  cases h with
  | @cons x _ l _ a b=>
   obtain ⟨ys,t,e,q⟩:=ih b
   exact ⟨x::ys,t,by rw [e];rfl,q⟩
theorem Yz.snoc {H:Hp}{xs:List V}{rs:List (List Int)}{t:Addr}{r:List Int} (h:Yz H xs rs) (e:H t=some (.lst (r.map V.int))):Yz H (xs ++ [.ref t]) (rs ++ [r]):=Paired.snoc h ⟨t,rfl,e⟩
theorem Yz.len {H:Hp}{xs:List V}{rs:List (List Int)} (h:Yz H xs rs):xs.length=rs.length:=Paired.length h
theorem ZbF {H H' G:Hp}{R w:Addr}{ys:List V}{ls:List (Str×Int)}{i:Nat} (hR:H R=none) (sm:Ze H H') (rv:Yz H' ys (rowsOf ls (i+1))) (ap:∀t,V.ref t∈ys->H t=none/\t≠R) (nd:ys.Nodup) (hw:H' w=none) (hwR:w≠R)
  (k:∀c o,H' c=some o->c≠R->G c=some o) (gw:G w=some (.lst ((rb (ls.take (i+1))).1.map V.int))):
  Ze H G/\Yz G (ys ++ [.ref w]) (rowsOf ls (i+2))/\(∀t,V.ref t∈ys ++ [V.ref w]->H t=none/\t≠R)/\(ys ++ [V.ref w]).Nodup:=by
 refine ⟨fun c o e=>k c o (sm c o e) (Zg e hR),?_,fun t ht=>?_,?_⟩
 ·rw [Zb9]
  exact Yz.snoc (rv.mono fun t o ht e=>k t o e (ap t ht).2) gw
 ·rcases List.mem_append.mp ht with z | z
  ·exact ap t z
  ·have:t=w:=V.ref.inj (List.mem_singleton.mp z)
   subst this
   exact ⟨sm.free hw,hwR⟩
 ·rw [List.nodup_append]
  refine ⟨nd,by simp,fun a ha b hb=>?_⟩
  rw [List.mem_singleton.mp hb]
  intro z
  subst z
  obtain ⟨q,e⟩:=rv.mem ha
  rw [hw] at e
  cases e
theorem Zit {ls:List (Str×Int)}{n:Int} (h:Wk ls n):n<=2*(ls.length:Int):=by
 induction h with
 | nil=>decide
 | born _ _ _ ih=>rw [List.length_append,List.length_singleton];lia
 | cross _ _ _ ih=>rw [List.length_append,List.length_singleton];lia
 | fin _ _ _ ih=>rw [List.length_append,List.length_singleton];lia
theorem JI {n j:Nat} (h:j<n):ixN n (j:Int)=some j:=by
 unfold ixN
 rw [if_pos (by lia),if_pos (by lia)]
 simp
theorem Zl8 (r:List Int) (k:Nat):((r.map V.int).set k (V.int (r.getD (k+1) 0))).set (k+1) (V.int (r.getD k 0))=(swp r k).map V.int:=by
 unfold swp
 rw [List.map_set,List.map_set]
theorem map_getD (r:List Int) {k:Nat} (h:k<r.length):(r.map V.int)[k]? = some (V.int (r.getD k 0)):=by
 rw [List.getElem?_map]
 simp [h]
def ZgM:Sp:=fun vs H Q _=>∃(l:Addr) (xs:List V) (ls:List (Str×Int)),vs = [.ref l]/\H l=some (.lst xs)/\Zu H xs ls/\ls.length<=60/\Wk ls 0 /\ ∀(p:Addr) (H':Hp) (ys:List V),H p=none->Ze H H'->H' p=some (.lst ys)->Yz H' ys (rowsOf ls (ls.length+1))->(∀t,V.ref t∈ys->H t=none/\t≠p)->ys.Nodup->Q (.ref p) H'
section
variable {κ:Type} [DecidableEq κ]
def GK (kvs:List (κ × V)) (k:κ):Option V:=(kvs.find? fun kv=>decide (kv.1=k)).map (·.2)
def putK (kvs:List (κ × V)) (k:κ) (v:V):List (κ × V):=
 if (kvs.any fun kv=>decide (kv.1=k))=true then kvs.map (fun kv=>if kv.1=k then (kv.1,v) else kv) else kvs ++ [(k,v)]
def Zc7 (kvs:List (κ × V)) (k:κ):List (κ × V):=kvs.filter fun kv=>decide (kv.1≠k)
theorem Zbq {p:κ × V}{r:List (κ × V)}{k:κ} (e:p.1=k):GK (p::r) k=some p.2:=by simp [GK,List.find?_cons,e]
theorem Zbu {p:κ × V}{r:List (κ × V)}{k:κ} (e:¬p.1=k):GK (p::r) k=GK r k:=by simp [GK,List.find?_cons,e]
theorem Zdq (k:κ):∀kvs:List (κ × V),(kvs.any fun kv=>decide (kv.1=k))=(GK kvs k).isSome
 | []=>rfl
 | p::r=>by
  rw [List.any_cons]
  by_cases e:p.1=k
  ·simp only [Zbq e,decide_eq_true e,Bool.true_or,Option.isSome_some]
  ·rw [Zbu e,decide_eq_false e,Bool.false_or];exact Zdq k r
theorem UB (kvs:List (κ × V)) (k:κ) (v:V):(putK kvs k v).length<=kvs.length+1:=by
 unfold putK
 split
 ·rw [List.length_map];lia
 ·rw [List.length_append,List.length_cons,List.length_nil];lia
theorem Za7.isSome_eq {o:Option V}{u:Option Value} (r:Za7 o u):o.isSome=u.isSome:=by
 cases o with
 | none=>cases u with
  | none=>rfl
  | some _=>exact (show False from r).elim
 | some _=>cases u with
  | none=>exact (show False from r).elim
  | some _=>rfl
theorem KV.val {kvs:List (κ × V)}{vs:List (κ × Value)} (r:KV kvs vs) (k:κ):Za7 (GK kvs k) (valueAt vs k):=by
 unfold KV at r
 induction r with
 | nil=>exact True.intro
 | @cons p q ps qs h t ih=>
  obtain ⟨h1,h2⟩:=h
  by_cases e:p.1=k
  ·have e':q.1=k:=h1.symm.trans e
   have b:valueAt (q::qs) k=some q.2:=by simp [valueAt,List.find?_cons,e']
   rw [Zbq e,b];exact h2
  ·have e':¬q.1=k:=fun z=>e (h1.trans z)
   have b:valueAt (q::qs) k=valueAt qs k:=by simp [valueAt,List.find?_cons,e']
   rw [Zbu e,b];exact ih
theorem KV.any {kvs:List (κ × V)}{vs:List (κ × Value)} (r:KV kvs vs) (k:κ):(kvs.any fun kv=>decide (kv.1=k))=vs.any fun kv=>decide (kv.1=k):=by
 unfold KV at r
 induction r with
 | nil=>rfl
 | cons h t ih=>rw [List.any_cons,List.any_cons,ih,h.1]
theorem KV.repl {kvs:List (κ × V)}{vs:List (κ × Value)} (r:KV kvs vs) (k:κ) {y:V}{u:Value} (ry:RelV y u):
  KV (kvs.map fun kv=>if kv.1=k then (kv.1,y) else kv) (vs.map fun kv=>if kv.1=k then (kv.1,u) else kv):=by
 unfold KV at r ⊢
 induction r with
 | nil=>exact .nil
 | @cons p q ps qs h t ih=>
  rw [List.map_cons,List.map_cons]
  refine .cons ?_ ih
  obtain ⟨h1,h2⟩:=h
  by_cases e:p.1=k
  ·rw [if_pos e,if_pos (h1.symm.trans e)];exact ⟨h1,ry⟩
  ·rw [if_neg e,if_neg (fun z=>e (h1.trans z))];exact ⟨h1,h2⟩
theorem KV.put {kvs:List (κ × V)}{vs:List (κ × Value)} (r:KV kvs vs) (k:κ) {y:V}{u:Value} (ry:RelV y u):KV (putK kvs k y) (stored vs k u):=by
 unfold putK stored
 rw [r.any k]
 by_cases e:(vs.any fun kv=>decide (kv.1=k))=true
 ·rw [if_pos e,if_pos e];exact r.repl k ry
 ·rw [if_neg e,if_neg e];exact Paired.snoc r ⟨rfl,ry⟩
theorem KV.length {kvs:List (κ × V)}{vs:List (κ × Value)} (r:KV kvs vs):kvs.length=vs.length:=Paired.length r
theorem ZjV (kvs:List (κ × V)) (k:κ):(Zc7 kvs k).length<=kvs.length:=List.length_filter_le _ _
end
theorem ZgF {P:Program}{w:World}{k:Key}{u:Value} (r:RelV (kV k) u):(Ys P w).is k u=true:=by
 cases k with
 | inl i=>obtain ⟨t,e⟩:=(show ∃t,u=Value.int i t from r);subst e;exact Zfy P w i t
 | inr x=>obtain ⟨t,e⟩:=(show ∃t,u=Value.str x t from r);subst e;exact ZfE P w x t
theorem Zd9 {P:Program}{w:World}:∀{ks:List Key}{us:List Value},Vals (ks.map kV) us->ItemsAre (Ys P w) ks us
 | [],_,r=>by rw [List.map_nil] at r;cases r;exact .nil
 | k::ks,_,r=>by
  rw [List.map_cons] at r
  cases r with
  | cons h t=>exact .cons (ZgF h) (Zd9 t)
abbrev KT (H:Hp):List (List Key×V)->List (List Key×Addr×Value)->Prop:=Paired fun p q=>p.1=q.1/\H q.2.1=some (.tup (p.1.map kV))/\RelV p.2 q.2.2
theorem KT.val {H:Hp}{kvs:List (List Key×V)}{xs:List (List Key×Addr×Value)} (r:KT H kvs xs) (k:List Key):Za7 (GK kvs k) ((atKey xs k).map (·.2)):=by
 induction r with
 | nil=>exact True.intro
 | @cons p q ps qs h t ih=>
  obtain ⟨h1,_,h2⟩:=h
  by_cases e:p.1=k
  ·have e':q.1=k:=h1.symm.trans e
   have b:atKey (q::qs) k=some q.2:=by simp [atKey,List.find?_cons,e']
   rw [Zbq e,b];exact h2
  ·have e':¬q.1=k:=fun z=>e (h1.trans z)
   have b:atKey (q::qs) k=atKey qs k:=by simp [atKey,List.find?_cons,e']
   rw [Zbu e,b];exact ih
theorem KT.repl {H:Hp}{kvs:List (List Key×V)}{xs:List (List Key×Addr×Value)} (r:KT H kvs xs) (k:List Key) {y:V}{u:Value} (ry:RelV y u):
  KT H (kvs.map fun kv=>if kv.1=k then (kv.1,y) else kv) (xs.map (putAt k u)):=by
 induction r with
 | nil=>exact .nil
 | @cons p q ps qs h t ih=>
  rw [List.map_cons,List.map_cons]
  refine .cons ?_ ih
  obtain ⟨h1,h2,h3⟩:=h
  unfold putAt
  by_cases e:p.1=k
  ·rw [if_pos e,if_pos (h1.symm.trans e)];exact ⟨h1,h2,ry⟩
  ·rw [if_neg e,if_neg (fun z=>e (h1.trans z))];exact ⟨h1,h2,h3⟩
theorem KT.put {H:Hp}{kvs:List (List Key×V)}{xs:List (List Key×Addr×Value)} (r:KT H kvs xs) (k:List Key) {b:Addr}{y:V}{u:Value} (hb:H b=some (.tup (k.map kV))) (ry:RelV y u):
  KT H (putK kvs k y) (storedH xs k b u):=by
 have e:(kvs.any fun kv=>decide (kv.1=k))=(atKey xs k).isSome:=by
  rw [Zdq,(r.val k).isSome_eq,Option.isSome_map]
 unfold putK storedH
 rw [e]
 by_cases q:(atKey xs k).isSome=true
 ·rw [if_pos q,if_pos q];exact r.repl k ry
 ·rw [if_neg q,if_neg q];exact Paired.snoc r ⟨rfl,hb,ry⟩
theorem KT.keeps {H H':Hp}{kvs:List (List Key×V)}{xs:List (List Key×Addr×Value)} (r:KT H kvs xs) (ht:∀b ys,H b=some (.tup ys)->H' b=some (.tup ys)):KT H' kvs xs:=
 Paired.mapP r fun _ _ z=>⟨z.1,ht _ _ z.2.1,z.2.2⟩
section
variable {P:Program}{w:World}{H:Hp}{h:Heap}{a:Addr}
theorem Zm7 {u:HO} (ok:GL P w H h) (e:Rd H a u):Yy P w H h a u:=e.ok ok
theorem ZiG {kvs:List (Key×V)} (ok:GL P w H h) (e:Rd H a (.dK kvs)):kvs.length<=sizeLine/\(a==sysModules)=false /\ ∃vs,KV kvs vs/\h.DictOf (Ys P w) a vs:=
 show Yy P w H h a (.dK kvs) from Zm7 ok e
theorem Zm8 {kvs:List (Key×V)} (ok:GL P w H h) (e:H a=some (.dK kvs)):kvs.length<=sizeLine/\(a==sysModules)=false /\ ∃vs,KV kvs vs/\h.DictOf (Ys P w) a vs:=ZiG ok (.inl e)
theorem ZdF {ks:List Key} (ok:GL P w H h) (e:H a=some (.tup (ks.map kV))):(tupleKind (Ys P w)).is h ks a:=by
 obtain ⟨_,its,r,o,h1,h2,n,h3⟩:=(show Yy P w H h a (.tup (ks.map kV)) from ok a _ e)
 exact ⟨o,its.toArray,n,h1,h2,h3,by simpa using Zd9 r⟩
theorem Zin {kvs:List (List Key×V)} (ok:GL P w H h) (e:Rd H a (.dT kvs)):kvs.length<=sizeLine/\(a==sysModules)=false /\
  ∃xs,KT H kvs xs/\h.DictOfH (tupleKind (Ys P w)) a xs:=by
 obtain ⟨z,y,xs,r,o,es,ep,h1,h2,h3,h4,h5⟩:=(show Yy P w H h a (.dT kvs) from Zm7 ok e)
 refine ⟨z,y,xs,r,o,es,ep,h1,h2,h3,h4,fun x hx=>?_,h5⟩
 have all:∀{l:List (List Key×V)}{m:List (List Key×Addr×Value)},KT H l m -> ∀x∈m,(tupleKind (Ys P w)).is h x.1 x.2.1:=by
  intro l m q
  induction q with
  | nil=>intro x hx;exact nomatch hx
  | @cons p q ps qs hq t ih=>
   intro x hx
   rcases List.mem_cons.mp hx with e | hx
   ·subst e
    exact ZdF ok (by rw [<- hq.1];exact hq.2.1)
   ·exact ih x hx
 exact all r x hx
theorem Zll {kvs:List (List Key×V)} (ok:GL P w H h) (e:H a=some (.dT kvs)):kvs.length<=sizeLine/\(a==sysModules)=false /\
  ∃xs,KT H kvs xs/\h.DictOfH (tupleKind (Ys P w)) a xs:=Zin ok (.inl e)
end
def Zdj (H:Hp) (a:Addr) (y:V) (r:Option V):Prop:=
 (∃kvs k,Rd H a (.dK kvs)/\y=kV k/\r=GK kvs k) ∨ ∃kvs k b,Rd H a (.dT kvs)/\y = .ref b/\H b=some (.tup (k.map kV))/\r=GK kvs k
def Zk6 (H:Hp) (a:Addr) (y v:V) (H':Hp):Prop:=
 (∃kvs k,H a=some (.dK kvs)/\y=kV k/\kvs.length<sizeLine/\H'=upd H a (.dK (putK kvs k v))) ∨
 ∃kvs k b,H a=some (.dT kvs)/\y = .ref b/\H b=some (.tup (k.map kV))/\kvs.length<sizeLine/\H'=upd H a (.dT (putK kvs k v))
theorem Zdj.k {H:Hp}{a:Addr}{kvs:List (Key×V)}{k:Key} (e:H a=some (.dK kvs)):Zdj H a (kV k) (GK kvs k):=.inl ⟨kvs,k,.inl e,rfl,rfl⟩
theorem Zdj.t {H:Hp}{a b:Addr}{kvs:List (List Key×V)}{k:List Key} (e:H a=some (.dT kvs)) (eb:H b=some (.tup (k.map kV))):Zdj H a (.ref b) (GK kvs k):=.inr ⟨kvs,k,b,.inl e,rfl,eb,rfl⟩
theorem Zk6.t {H:Hp}{a b:Addr}{kvs:List (List Key×V)}{k:List Key}{v:V} (e:H a=some (.dT kvs)) (eb:H b=some (.tup (k.map kV))) (hl:kvs.length<sizeLine):
  Zk6 H a (.ref b) v (upd H a (.dT (putK kvs k v))):=.inr ⟨kvs,k,b,e,rfl,eb,hl,rfl⟩
section
variable {X:Cx}{pins:List (Addr×Obj)} {σ:St}{H:Hp}{s:Shared}{a:Addr}{y v:V}{u r:Value}{o:Option V}{A:Around}{E:Value->Shared->Prop}
theorem Inv.big (I:Inv X pins σ H s):sysModules<s.heap.objs.size:=by
 have h:mainGlobals<s.heap.objs.size:=(I.mod.glob.keeps I.bk).lt
 exact Nat.lt_trans (by decide) h
theorem Zjz {Q:Value->Shared->Prop} (hu:A.units+1<cLine) (I:Inv X pins σ H s) (g:Zdj H a y (some v)) (ry:RelV y u) (h:∀w' s',Inv X pins σ H s'->RelV v w'->Q w' s'):
  wpAny (model X.prog X.w) A (getItem (.ref a) u) Q E s:=by
 rcases g with ⟨kvs,k,e,ey,l⟩ | ⟨kvs,k,b,e,ey,eb,l⟩
 ·subst ey
  obtain ⟨z,hd,vs,rel,dd⟩:=ZiG I.hok e
  obtain ⟨w',hw,rw'⟩:=Za7.some_of (v:=v) (o:=valueAt vs k) (by rw [l];exact rel.val k)
  exact wpAny_getItem_of (ZgF ry) dd.mapOf hw (h w' _ (I.tok _) rw')
 ·subst ey
  cases (show u=Value.ref b from ry)
  obtain ⟨z,hd,xs,rel,dd⟩:=Zin I.hok e
  obtain ⟨w',hw,rw'⟩:=Za7.some_of (v:=v) (o:=(atKey xs k).map (·.2)) (by rw [l];exact rel.val k)
  obtain ⟨p,hp,hp2⟩:=Option.map_eq_some_iff.mp hw
  refine wpAny_getItem_heap (tupleKind_room_in1 hu) (ZdF I.hok eb) dd hp ?_
  rw [hp2]
  exact h w' _ (I.tok _) rw'
theorem Zqi {Q:Value->Shared->Prop} (hu:A.units+1<cLine) (I:Inv X pins σ H s) (g:Zdj H a y o) (ry:RelV y u) (h:∀s',Inv X pins σ H s'->Q (.bool o.isSome) s'):
  wpAny (model X.prog X.w) A (compareOp .In u (.ref a)) Q E s:=by
 rcases g with ⟨kvs,k,e,ey,l⟩ | ⟨kvs,k,b,e,ey,eb,l⟩
 ·subst ey
  obtain ⟨z,hd,vs,rel,dd⟩:=ZiG I.hok e
  refine wpAny_in_of (ZgF ry) hd dd.mapOf ?_
  rw [<- (rel.val k).isSome_eq,<- l]
  exact h _ (I.tok _)
 ·subst ey
  cases (show u=Value.ref b from ry)
  obtain ⟨z,hd,xs,rel,dd⟩:=Zin I.hok e
  refine wpAny_in_heap (tupleKind_room_in1 hu) (ZdF I.hok eb) hd dd ?_
  have q:=(rel.val k).isSome_eq
  rw [Option.isSome_map] at q
  rw [<- q,<- l]
  exact h _ (I.tok _)
theorem Zcr {h':Heap}{t':Nat}{ob:HO} (I:Inv X pins σ H s) (mu:Mut (H a)) (hs:Heap.SameBut a s.heap h') (he:∃q,h'.get? a=some q) (new:Yy X.prog X.w (upd H a ob) h' a ob):
  Inv X pins σ (upd H a ob) { s with heap:=h',toks:=t' }:=
 I.write (x:=a) (e:=a) mu (.inl rfl) (fun b q hb z=>(hs.2 b hb).trans z) he new
theorem Zlr {P:Program}{w:World}{H':Hp}{h':Heap}{kvs:List (Key×V)}{vs:List (Key×Value)} (z:kvs.length<=sizeLine) (hd:(a==sysModules)=false) (rel:KV kvs vs) (dd:h'.DictOf (Ys P w) a vs):
  Yy P w H' h' a (.dK kvs):=⟨z,hd,vs,rel,dd⟩
theorem Zjq {H':Hp}{Q:Unit->Shared->Prop} (hu:A.units+1<cLine) (I:Inv X pins σ H s) (g:Zk6 H a y v H') (ry:RelV y u) (rv:RelV v r) (h:∀s',Inv X pins σ H' s'->Q () s'):
  wpAny (model X.prog X.w) A (setItem (.ref a) u r) Q E s:=by
 rcases g with ⟨kvs,k,e,ey,l,eH⟩ | ⟨kvs,k,b,e,ey,eb,l,eH⟩
 ·subst ey eH
  obtain ⟨z,hd,vs,rel,dd⟩:=Zm8 I.hok e
  have hz:vs.length<=sizeLine:=by rw [<- rel.length];exact z
  have hl:(putK kvs k v).length<=sizeLine:=by have:=UB kvs k v;lia
  refine wpAny_setItem_pairs (hsz:=hz) (ZgF ry) dd fun h' dd' hs=>h _ ?_
  have he:∃q,h'.get? a=some q:=let ⟨q,_,_,hq,_⟩:=dd';⟨q,hq⟩
  exact Zcr I (by rw [e];exact True.intro) hs he (Zlr hl hd (rel.put k rv) dd')
 ·subst ey eH
  cases (show u=Value.ref b from ry)
  obtain ⟨z,hd,xs,rel,dd⟩:=Zll I.hok e
  have hz:xs.length<=sizeLine:=by rw [<- Paired.length rel];exact z
  have hl:(putK kvs k v).length<=sizeLine:=by have:=UB kvs k v;lia
  refine wpAny_setItem_heap (hsz:=hz) (tupleKind_room_in1 hu) (ZdF I.hok eb) dd fun h' dd' hs=>h _ ?_
  obtain ⟨q,es,ep,hq,h2,h3,h4,_,h5⟩:=dd'
  refine Zcr I (by rw [e];exact True.intro) hs ⟨q,hq⟩ ⟨hl,hd,_,(rel.put k eb rv).keeps fun c ys ec=>?_,q,es,ep,hq,h2,h3,h4,h5⟩
  rw [Zj (Zgq ec e (fun z=>nomatch z))]
  exact ec
end
section
variable {X:Cx}{pins:List (Addr×Obj)} {σ:St}{H:Hp}{s:Shared}{a:Addr}{kvs:List (Key×V)}{k:Key}{u:Value}{A:Around}{E:Value->Shared->Prop}
end
theorem Zgr {X:Cx}{pins:List (Addr×Obj)} {σ:St}{H:Hp}{s:Shared}{a:Addr}{y:V}{o:Option V} (I:Inv X pins σ H s) (g:Zdj H a y o):s.TypeIs (.ref a) "dict" := by
 rcases g with ⟨kvs,k,e,_,_⟩ | ⟨kvs,k,b,e,_,_,_⟩
 ·obtain ⟨_,_,vs,_,dd⟩:=ZiG I.hok e
  exact dd.typeIs
 ·obtain ⟨_,_,xs,_,dd⟩:=Zin I.hok e
  exact dd.typeIs
def Zqa (ty td:TE):TE:=fun σ H Q=>ty σ H fun y H1=>td σ H1 fun x H2=>∃a o,x = .ref a/\Zdj H2 a y o/\Q (.bl o.isSome) H2
section
variable {X:Cx}{o i e value:Expr}{pos pos' tpos:Pos}{td ty tv:TE}
theorem Znt (hu:X.A.units+1<cLine) (hi:PE X i ty) (ho:PE X o td):PC X .In i o (Zqa ty td):=by
 intro pins s σ H Q I h
 refine YG (hi pins s σ H _ I h) fun iv s1 ⟨y,H1,I1,ry,q1⟩=>YG (ho pins s1 σ H1 _ I1 q1) fun u s2 ⟨x,H2,I2,rx,a,ov,ex,g,q2⟩=>?_
 subst ex
 obtain rfl:u=Value.ref a:=rx
 exact Zqi hu I2 g ry fun s3 I3=>⟨.bl ov.isSome,H2,I3,rfl,q2⟩
end
theorem Zkc {P:Program}{w:World}{H:Hp} (h:Heap) (hb:sysModules<h.objs.size):Yy P w H (h.push { cls:=.type "dict", data:=.dict #[] }) h.objs.size (.dK []):=
 ⟨Nat.zero_le _,beq_eq_false_iff_ne.mpr (Ne.symm (Nat.ne_of_lt hb)),[],.nil,Heap.DictOf.new h⟩
theorem Zka {P:Program}{w:World}{H:Hp} (h:Heap) (hb:sysModules<h.objs.size):Yy P w H (h.push { cls:=.type "dict", data:=.dict #[] }) h.objs.size (.dT []):=
 ⟨Nat.zero_le _,beq_eq_false_iff_ne.mpr (Ne.symm (Nat.ne_of_lt hb)),[],.nil,_,#[],0,Heap.get?_push_size _ rfl,⟨rfl,rfl,rfl⟩,rfl,rfl,List.nodup_nil⟩
def Zns:TE:=fun _ H Q=>∀p,H p=none->Q (.ref p) (upd H p (.dT []))
section
variable {X:Cx}{pos:Pos}
theorem Zgw:PE X (.Dict [] [] pos) Zns:=fun pins s σ H Q I h=>
 wpAny_Dict_empty ⟨.ref s.heap.objs.size,_,I.laid (a:=s.heap.objs.size) (o:=.dT []) (t':=s.toks) (fun _ _ q=>Heap.get?_push_of_some _ q) (Nat.le_refl _) (Zka s.heap I.big),rfl,h _ (I.hok.fresh (Nat.le_refl _))⟩
end
theorem Yy.there {P:Program}{w:World}{H:Hp}{h:Heap}{a:Addr}{o:HO} (x:Yy P w H h a o):∃ob,h.get? a=some ob:=by
 cases o with
 | lst xs=>obtain ⟨_,_,_,_,e⟩:=x;exact ⟨_,e⟩
 | tup xs=>obtain ⟨_,_,_,_,e,_⟩:=x;exact ⟨_,e⟩
 | dK kvs=>obtain ⟨_,_,_,_,o,_,_,e,_⟩:=x;exact ⟨_,e⟩
 | dT kvs=>obtain ⟨_,_,_,_,o,_,_,e,_⟩:=x;exact ⟨_,e⟩
 | set S n=>obtain ⟨o,_,_,_,e,_⟩:=x;exact ⟨_,e⟩
 | ins C dx fs=>obtain ⟨_,_,_,e,_⟩:=x;exact ⟨_,e⟩
 | own y=>obtain ⟨_,e⟩:=x;exact ⟨_,e⟩
 | xd fs=>obtain ⟨_,⟨_,_,_,e,_⟩,_⟩:=x;exact ⟨_,e⟩
 | rng lo hi=>obtain ⟨_,_,_,e⟩:=x;exact ⟨_,e⟩
 | frz ob u=>obtain ⟨e,_⟩:=x;exact ⟨_,e⟩
 | tbl ps=>exact ⟨_,x⟩
 | met f y=>exact ⟨_,x⟩
 | ext φ=>obtain ⟨_,⟨_,e⟩,_⟩:=x;exact ⟨_,e⟩
theorem Zlj {h:Heap}{a:Addr}{m m':Str->Option Value} (x:h.Ns a m) (y:h.Ns a m'):m=m':=by
 obtain ⟨o,es,ep,ho,hd,_,hm⟩:=x
 obtain ⟨o',es',ep',ho',hd',_,hm'⟩:=y
 rw [ho] at ho'
 cases ho'
 rw [hd] at hd'
 cases hd'
 exact funext fun n=>(hm n).symm.trans (hm' n)
section
variable {X:Cx}{pins:List (Addr×Obj)} {σ:St}{H:Hp}{s:Shared}
theorem Inv.laidN {h':Heap}{D:Addr}{o:HO}{t':Nat}{m:Str->Option Value} (I:Inv X pins σ H s) (F:Fr X.base X.env.locals s.heap m) (F':Fr X.base X.env.locals h' m)
  (N':News X.base X.env.locals h' (W9 X.base s.heap X.env.locals)) (hD:s.heap.get? D=none) (hn:H D=none) (new:Yy X.prog X.w (upd H D o) h' D o):Inv X pins σ (upd H D o) { s with heap:=h',toks:=t' }:=by
 have kp:∀b u,b≠X.env.locals->s.heap.get? b=some u->h'.get? b=some u:=fun b u hb e=>by
  cases q:X.base.get? b with
  | some v=>
   have e1:=F'.keep b v q
   have e2:=F.keep b v q
   rw [e] at e2
   cases e2
   exact e1
  | none=>exact (N' (b,u) (Gj hb q e)).1
 have neL:∀b u,H b=some u->b≠X.env.locals:=fun b u e z=>by rw [z,I.free] at e;cases e
 refine I.step (g':=s.gens) (d':=s.drawn) (ch:=[]) (fun _ z=>nomatch z) (fun b ob hb _ _ e _=>kp b ob hb e) (fun b ob hb _ _ e _=>⟨ob.slots,kp b ob hb e⟩) (fun b ob _ e n=>?_) (fun b ob _ e=>?_) (fun b xs e=>?_) (fun b ob u e=>?_) (fun b ps e=>⟨#[],?_⟩) (fun m' hm=>?_) (fun b u e=>?_) I.bare
 ·rw [Zj (fun z=>by subst z;rw [hD] at e;cases e)]
  exact n
 ·by_cases hb:b=X.env.locals
  ·subst hb
   obtain ⟨ob',_,_,z,_⟩:=F'.ns
   exact ⟨ob',z⟩
  ·exact ⟨ob,kp b ob hb e⟩
 ·rw [Zj (Zg e hn)];exact e
 ·rw [Zj (Zg e hn)];exact e
 ·rw [Zj (Zg e hn),e];simp
 ·rw [Zlj hm F.ns];exact F'.ns
 ·by_cases hb:b=D
  ·subst hb;rw [Zb] at e;cases e;exact new
  ·rw [Zj hb] at e
   refine (I.hok b u e).stay (fun c v hc q=>kp c v ?_ q) (fun c q=>by rw [Zj (Zg q hn)];exact q) fun c xs q=>by rw [Zj (Zg q hn)];exact q
   rcases hc with z | z
   ·subst z;exact neL _ u e
   ·exact neL c _ z
end
section
variable {X:Cx}
def Zp0:R2:=fun x y H Q=>∃a v,x = .ref a/\Zdj H a y (some v)/\Q v H
theorem ZmE (hu:X.A.units+1<cLine):IxR X Zp0:=by
 intro value slice pins s σ H x y v u Q I rx ry h hs
 obtain ⟨a,w,rfl,g,q⟩:=h
 cases rx
 exact tail_any (ops:=[.ref a,u]) (Zgr I g) PySem.F.slot_dict_getitem.lookup (Zjz hu I g ry fun w' s3 I3 rw'=>⟨w,H,I3,rw',q⟩) hs
def Zo7:V->V->V->Hp->(Hp->Prop)->Prop:=fun o i v H Q=>∃a H',o = .ref a/\Zk6 H a i v H'/\Q H'
theorem set_dict (hu:X.A.units+1<cLine):Zoy X Zo7:=by
 intro pins s σ H o i v ov iv u Q I ro ri rv h
 obtain ⟨a,H',rfl,g,q⟩:=h
 cases ro
 exact Zjq hu I g ri rv fun s' I'=>⟨H',I',q⟩
end
def JU {α:Type}:List α -> List α
 | []=>[]
 | [x]=>[x]
 | x::_::r=>x::JU r
theorem ZhZ {α:Type}:∀(xs:List α) (i:Nat),(JU xs)[i]? = xs[2*i]?
 | [],i=>by simp [JU]
 | [x],0=>by simp [JU]
 | [x],i+1=>by simp [JU]
 | x::y::r,0=>by simp [JU]
 | x::y::r,i+1=>by
  have:=ZhZ r i
  have e:2*(i+1)=2*i+2:=by lia
  rw [e]
  simpa [JU] using this
theorem Zir {α:Type}:∀(xs:List α),(JU xs).length=(xs.length+1) / 2
 | []=>by simp [JU]
 | [x]=>by simp [JU]
 | x::y::r=>by
  have:=Zir r
  simp only [JU,List.length_cons,this]
  lia
theorem Zki (its:List Value):slicePick its.toArray none none (some 2)=(JU its).toArray:=by
 unfold slicePick sliceBounds sliceRange
 simp only [Option.getD_some,List.size_toArray]
 rw [if_pos (show (2:Int)>0 by decide),if_pos (show (2:Int)>0 by decide),if_pos (show (2:Int)>0 by decide)]
 congr 1
 have ec:(if (0:Int)<(its.length:Int) then ((its.length:Int)-0+2-1) / 2 else 0).toNat=(its.length+1) / 2:=by
  split<;>lia
 rw [ec]
 apply List.ext_getElem?
 intro i
 rw [ZhZ]
 rw [List.filterMap_map]
 have key:∀n,n<=(its.length+1) / 2->(List.filterMap ((fun (x:Nat)=>its.toArray[x]?) ∘ fun (k:Nat)=>((0:Int)+2*(k:Int)).toNat) (List.range n))=(List.range n).map fun k=>its.getD (2*k) Value.none:=by
  intro n
  induction n with
  | zero=>intro _;rfl
  | succ n ih=>
   intro hn
   rw [List.range_succ,List.filterMap_append,ih (by lia),List.map_append]
   have e:((0:Int)+2*(n:Int)).toNat=2*n:=by lia
   have hl:2*n<its.length:=by lia
   have e':((2:Int)*(n:Int)).toNat=2*n:=by lia
   simp [e',hl,List.filterMap_cons]
 rw [key _ (Nat.le_refl _)]
 by_cases hi:i<(its.length+1) / 2
 ·have hl:2*i<its.length:=by lia
  simp [hi,hl]
 ·have h1:its[2*i]? = none:=List.getElem?_eq_none_iff.mpr (by lia)
  rw [h1]
  exact List.getElem?_eq_none_iff.mpr (by simp;lia)
theorem Vals.JU:∀{xs:List V}{us:List Value},Vals xs us->Vals (L2.JU xs) (L2.JU us)
 | _,_,.nil=>.nil
 | _,_,.cons r .nil=>.cons r .nil
 | _,_,.cons r (.cons _ t)=>.cons r (Vals.JU t)
section
variable {X:Cx}
def Zp8 (K:PySem.W.Frag) (te:TE):TE:=fun σ H Q=>te σ H fun x H1=>∃a xs,x = .ref a/\Zo K H1 a xs /\ ∀p,H1 p=none->Q (.ref p) (upd H1 p (.lst (JU xs)))
theorem ZgR {K:PySem.W.Frag}{e:Expr}{te:TE}{p2 p3 pos:Pos}{j:Nat} (hk:X.K=K) (he:PE X e te):PE X (.Subscript e (.Slice none none (some (.Constant (.int 2) j p3)) p2) pos) (Zp8 K te):=by
 subst hk
 intro pins s σ H Q I h
 refine Subscript_ (YG (he pins s σ H _ I h) fun v s1 ⟨x,H1,I1,r1,q1⟩=>?_)
 refine wpAny_Slice ?_
 rw [evalPart_none]
 refine wpAny_pure ?_
 refine wpAny_pure ?_
 rw [evalPart_some]
 refine wpAny_Constant_int ?_
 obtain ⟨a,xs,rfl,hx,q⟩:=q1
 cases r1
 have I2:=I1.tok (s1.toks+1)
 obtain ⟨its,r,ht,hz⟩:=I2.list hx
 have hlen:=r.length
 have I3:Inv X pins σ H1 { s1 with heap:=s1.heap.push { cls:=.type "slice", data:=.fields #[.none,.none,.int 2 s1.toks] },toks:=s1.toks+1 }:=I2.kept (t':=s1.toks+1) fun b ob q=>Heap.get?_push_of_some _ q
 obtain ⟨its,r,ht,hz⟩:=I3.list hx
 have hlen:=r.length
 refine tail_any (ops:=[.ref a,.ref s1.heap.objs.size]) ht.isList.typeIs slot_list_getitem.lookup (Q:=EP X pins σ Q) ?_ (by with_unfolding_all rfl)
 refine wpAny_getItem_list_slice (st:=some 2) ht.isList (Heap.IsSliceOf.new ..) .none .none (.int 2 _) (by decide) ?_ (by rw [List.size_toArray]<;>lia)
 rw [Zki]
 refine ⟨.ref _,_,I3.laid (t':=s1.toks+1) (o:=.lst (JU xs)) (fun b ob q=>Heap.get?_push_of_some _ q) (Nat.le_refl _) ?_,rfl,q _ (I3.hok.fresh (Nat.le_refl _))⟩
 refine ⟨?_,_,0,r.JU,Heap.get?_push_size _ rfl⟩
 rw [Zir]
 lia
end
def bw (x:Int):Int:=if x % 2=0 then x+1 else x-1
theorem Jg (x:Int):bw (bw x)=x:=by unfold bw;split<;>split<;>lia
theorem Zpv (x:Int):bw x≠x:=by unfold bw;split<;>lia
structure YN (m:Int->Int) (N:Int):Prop where
 lo:∀x,0<=x->x<N->0<=m x
 hi:∀x,0<=x->x<N->m x<N
 inv:∀x,0<=x->x<N->m (m x)=x
 ne:∀x,0<=x->x<N->m x≠x
 ev:N % 2=0
theorem Zhh {N x:Int} (e:N % 2=0) (h0:0<=x) (h1:x<N):0<=bw x/\bw x<N:=by unfold bw;split<;>lia
def gt (m:Int->Int) (f:Int):Nat->Int
 | 0=>f
 | i+1=>bw (m (gt m f i))
def Ux (m:Int->Int) (f:Int):Nat->List Int
 | 0=>[]
 | i+1=>Ux m f i ++ [gt m f i,m (gt m f i)]
theorem JW (m:Int->Int) (f:Int):∀i,(Ux m f i).length=2*i
 | 0=>rfl
 | i+1=>by
  simp only [Ux,List.length_append,JW m f i,List.length_cons,List.length_nil]
  lia
theorem Yo {m:Int->Int}{f x:Int}:∀{i:Nat},x∈Ux m f i ↔ ∃j,j<i/\(x=gt m f j∨x=m (gt m f j))
 | 0=>by simp [Ux]
 | i+1=>by
  simp only [Ux,List.mem_append,Yo (i:=i),List.mem_cons,List.not_mem_nil,or_false]
  constructor
  ·rintro (⟨j,h,e⟩ | h)
   ·exact ⟨j,by lia,e⟩
   ·exact ⟨i,by lia,h⟩
  ·rintro ⟨j,h,e⟩
   by_cases hj:j=i
   ·subst hj;exact .inr e
   ·exact .inl ⟨j,by lia,e⟩
section
variable {m:Int->Int}{N f:Int}
theorem Z6 (M:YN m N) (h0:0<=f) (h1:f<N):∀i,0<=gt m f i/\gt m f i<N
 | 0=>⟨h0,h1⟩
 | i+1=>by
  obtain ⟨a,b⟩:=Z6 M h0 h1 i
  exact Zhh M.ev (M.lo _ a b) (M.hi _ a b)
theorem ZkR (M:YN m N) (h0:0<=f) (h1:f<N):∀d j,gt m f (j+d)≠m (gt m f j)
 | 0,j=>fun e=>M.ne _ (Z6 M h0 h1 j).1 (Z6 M h0 h1 j).2 e.symm
 | 1,j=>Zpv _
 | d+2,j=>fun e=>by
  refine ZkR M h0 h1 d (j+1) ?_
  have e1:bw (m (gt m f (j+d+1)))=m (gt m f j):=e
  have e2:m (gt m f (j+d+1))=bw (m (gt m f j)):=by rw [<- e1,Jg]
  have e3:gt m f (j+1)=m (gt m f (j+d+1)):=e2.symm
  have dm:=Z6 M h0 h1 (j+d+1)
  rw [e3,M.inv _ dm.1 dm.2]
  congr 1
  lia
theorem Zgp (M:YN m N) (h0:0<=f) (h1:f<N) (i j:Nat):gt m f i≠m (gt m f j):=by
 by_cases h:j<=i
 ·have:=ZkR M h0 h1 (i-j) j
  rwa [show j+(i-j)=i by lia] at this
 ·intro e
  refine ZkR M h0 h1 (j-i) i ?_
  rw [show i+(j-i)=j by lia,e]
  exact (M.inv _ (Z6 M h0 h1 j).1 (Z6 M h0 h1 j).2).symm
theorem Zm9 (M:YN m N) {x y:Int} (hx:0<=x/\x<N) (hy:0<=y/\y<N) (e:m x=m y):x=y:=by
 rw [<- M.inv x hx.1 hx.2,e,M.inv y hy.1 hy.2]
theorem ZhU (M:YN m N) (h0:0<=f) (h1:f<N):∀j d,gt m f (j+d)=gt m f j->gt m f d=f
 | 0,d,e=>by simpa [gt] using e
 | j+1,d,e=>by
  refine ZhU M h0 h1 j d (Zm9 M (Z6 M h0 h1 _) (Z6 M h0 h1 _) ?_)
  have e1:bw (m (gt m f (j+d)))=bw (m (gt m f j)):=by
   have:j+1+d=j+d+1:=by lia
   rw [this] at e
   exact e
  rw [<- Jg (m (gt m f (j+d))),e1,Jg]
theorem Zic (M:YN m N) (h0:0<=f) (h1:f<N) {i j:Nat} (hj:j<i) (e:gt m f i=gt m f j):gt m f (i-j)=f:=by
 refine ZhU M h0 h1 j (i-j) ?_
 rw [show j+(i-j)=i by lia]
 exact e
theorem ZbN (M:YN m N) (h0:0<=f) (h1:f<N):∀i,(∀j,1<=j->j<i->gt m f j≠f)->(Ux m f i).Nodup
 | 0,_=>by simp [Ux]
 | i+1,h=>by
  have ih:=ZbN M h0 h1 i fun j a b=>h j a (by lia)
  show (Ux m f i ++ [gt m f i,m (gt m f i)]).Nodup
  rw [List.nodup_append]
  refine ⟨ih,by simp [Zgp M h0 h1 i i],fun a ha b hb=>?_⟩
  obtain ⟨j,hj,e⟩:=Yo.mp ha
  have hb:b=gt m f i∨b=m (gt m f i):=by simpa using hb
  intro z
  subst z
  rcases e with e | e<;>rcases hb with z | z
  ·exact h (i-j) (by lia) (by lia) (Zic M h0 h1 hj (z.symm.trans e))
  ·exact Zgp M h0 h1 j i (e.symm.trans z)
  ·exact Zgp M h0 h1 i j (z.symm.trans e)
  ·exact h (i-j) (by lia) (by lia) (Zic M h0 h1 hj (Zm9 M (Z6 M h0 h1 _) (Z6 M h0 h1 _) (z.symm.trans e)))
theorem Ziy (M:YN m N) (h0:0<=f) (h1:f<N) {i:Nat}{x:Int} (hx:x∈Ux m f i):0<=x/\x<N:=by
 obtain ⟨j,_,e | e⟩:=Yo.mp hx
 ·rw [e];exact Z6 M h0 h1 j
 ·rw [e];exact ⟨M.lo _ (Z6 M h0 h1 j).1 (Z6 M h0 h1 j).2,M.hi _ (Z6 M h0 h1 j).1 (Z6 M h0 h1 j).2⟩
theorem Gi:∀(n:Nat) (l:List Int),l.Nodup->(∀x∈l,0<=x/\x<(n:Int))->l.length<=n
 | 0,l,_,h=>by
  cases l with
  | nil=>simp
  | cons x _=>have:=h x List.mem_cons_self;lia
 | n+1,l,nd,h=>by
  by_cases hn:(n:Int)∈l
  ·have h1:=Gi n (l.erase (n:Int)) (nd.erase _) fun x hx=>by
    have h2:=(nd.mem_erase_iff).mp hx
    have:=h x h2.2
    have:=h2.1
    lia
   rw [List.length_erase_of_mem hn] at h1
   lia
  ·have h1:=Gi n l nd fun x hx=>by
    have:=h x hx
    have h3:x≠(n:Int):=fun z=>hn (z ▸ hx)
    lia
   lia
theorem ZbS (M:YN m N) (h0:0<=f) (h1:f<N) {i:Nat} (h:∀j,1<=j->j<i->gt m f j≠f):2*(i:Int)<=N:=by
 have:=Gi N.toNat (Ux m f i) (ZbN M h0 h1 i h) fun x hx=>by
  have:=Ziy M h0 h1 hx
  lia
 rw [JW] at this
 lia
end
def Yq (m:Int->Int) (f:Int) (T:List Int):Prop:=∃L,1<=L/\gt m f L=f/\(∀j,1<=j->j<L->gt m f j≠f)/\T=Ux m f L
theorem Yq.uniq {m:Int->Int}{f:Int}{T T':List Int} (a:Yq m f T) (b:Yq m f T'):T=T':=by
 obtain ⟨L,h1,e1,n1,rfl⟩:=a
 obtain ⟨L',h2,e2,n2,rfl⟩:=b
 have:L=L':=by
  rcases Nat.lt_trichotomy L L' with z | z | z
  ·exact absurd e1 (n2 L h1 z)
  ·exact z
  ·exact absurd e2 (n1 L' h2 z)
 rw [this]
theorem Yq.self {m:Int->Int}{f:Int}{T:List Int} (a:Yq m f T):f∈T:=by
 obtain ⟨L,h1,e1,n1,rfl⟩:=a
 exact Yo.mpr ⟨0,by lia,.inl rfl⟩
theorem Yq.dom {m:Int->Int}{N f:Int}{T:List Int} (M:YN m N) (h0:0<=f) (h1:f<N) (a:Yq m f T):∀x∈T,0<=x/\x<N:=by
 obtain ⟨L,_,_,_,rfl⟩:=a
 exact fun x hx=>Ziy M h0 h1 hx
theorem Yq.nodup {m:Int->Int}{N f:Int}{T:List Int} (M:YN m N) (h0:0<=f) (h1:f<N) (a:Yq m f T):T.Nodup:=by
 obtain ⟨L,_,_,n,rfl⟩:=a
 exact ZbN M h0 h1 L n
theorem Yq.len {m:Int->Int}{N f:Int}{T:List Int} (M:YN m N) (h0:0<=f) (h1:f<N) (a:Yq m f T):(T.length:Int)<=N:=by
 obtain ⟨L,_,_,n,rfl⟩:=a
 have:=ZbS M h0 h1 n
 rw [JW]
 lia
theorem Yq.closed {m:Int->Int}{N f:Int}{T:List Int} (M:YN m N) (h0:0<=f) (h1:f<N) (a:Yq m f T):∀x∈T,m x∈T/\bw x∈T:=by
 obtain ⟨L,hL,eL,n,rfl⟩:=a
 intro x hx
 obtain ⟨j,hj,e | e⟩:=Yo.mp hx
 ·subst e
  refine ⟨Yo.mpr ⟨j,hj,.inr rfl⟩,?_⟩
  cases j with
  | zero=>
   refine Yo.mpr ⟨L-1,by lia,.inr ?_⟩
   have:gt m f (L-1+1)=f:=by rw [show L-1+1=L by lia];exact eL
   have e2:bw (m (gt m f (L-1)))=f:=this
   show bw f=_
   rw [<- e2,Jg,e2]
  | succ j=>exact Yo.mpr ⟨j,by lia,.inr (Jg _)⟩
 ·subst e
  refine ⟨?_,?_⟩
  ·rw [M.inv _ (Z6 M h0 h1 j).1 (Z6 M h0 h1 j).2]
   exact Yo.mpr ⟨j,hj,.inl rfl⟩
  ·by_cases z:j+1=L
   ·refine Yo.mpr ⟨0,by lia,.inl ?_⟩
    show gt m f (j+1)=f
    rw [z,eL]
   ·exact Yo.mpr ⟨j+1,by lia,.inl rfl⟩
theorem GB {m:Int->Int}{N f:Int} (M:YN m N) (h0:0<=f) (h1:f<N) {S:List Int} (cl:∀x∈S,m x∈S/\bw x∈S) (hf:f∉S):∀i,gt m f i∉S/\m (gt m f i)∉S
 | 0=>⟨hf,fun h=>hf (by
  have:m (m f)∈S:=(cl _ h).1
  rwa [M.inv _ h0 h1] at this)⟩
 | i+1=>by
  have ih:=GB M h0 h1 cl hf i
  have a:gt m f (i+1)∉S:=fun h=>ih.2 (by
   have:=(cl _ h).2
   rwa [show bw (gt m f (i+1))=m (gt m f i) from Jg _] at this)
  refine ⟨a,fun h=>a ?_⟩
  have:=(cl _ h).1
  rwa [M.inv _ (Z6 M h0 h1 (i+1)).1 (Z6 M h0 h1 (i+1)).2] at this
inductive GA (m:Int->Int):Nat->List (List Int)->Prop
 | nil:GA m 0 []
 | add {i:Nat}{ts:List (List Int)}{T:List Int}:GA m i ts->(i:Int)∉ts.flatten->Yq m (i:Int) T->GA m (i+1) (ts ++ [T])
 | skip {i:Nat}{ts:List (List Int)}:GA m i ts->(i:Int)∈ts.flatten->GA m (i+1) ts
theorem GA.uniq {m:Int->Int}{i:Nat}{ts:List (List Int)} (a:GA m i ts):∀{ts':List (List Int)},GA m i ts'->ts=ts':=by
 induction a with
 | nil=>intro ts' b;cases b;rfl
 | add a h t ih=>
  intro ts' b
  cases b with
  | add b h' t'=>rw [ih b,t.uniq t']
  | skip b h'=>rw [ih b] at h;exact absurd h' h
 | skip a h ih=>
  intro ts' b
  cases b with
  | add b h' t'=>rw [ih b] at h;exact absurd h h'
  | skip b h'=>exact ih b
theorem GA.mem {m:Int->Int}{i:Nat}{ts:List (List Int)} (a:GA m i ts):∀j:Nat,j<i->(j:Int)∈ts.flatten:=by
 induction a with
 | nil=>intro j hj;lia
 | @add i ts T a h t ih=>
  intro j hj
  rw [List.flatten_append,List.mem_append]
  by_cases e:j=i
  ·subst e;exact .inr (by simpa using t.self)
  ·exact .inl (ih j (by lia))
 | @skip i ts a h ih=>
  intro j hj
  by_cases e:j=i
  ·subst e;exact h
  ·exact ih j (by lia)
theorem GA.good {m:Int->Int}{N:Int} (M:YN m N) {i:Nat}{ts:List (List Int)} (a:GA m i ts) (hi:(i:Int)<=N):ts.flatten.Nodup/\(∀x∈ts.flatten,0<=x/\x<N)/\(∀x∈ts.flatten,m x∈ts.flatten/\bw x∈ts.flatten):=by
 induction a with
 | nil=>simp
 | @add i ts T a h t ih=>
  obtain ⟨n,d,c⟩:=ih (by lia)
  have h0:(0:Int)<=(i:Int):=by lia
  have h1:(i:Int)<N:=by lia
  rw [List.flatten_append]
  have e:[T].flatten=T:=by simp
  rw [e]
  refine ⟨?_,fun x hx=>?_,fun x hx=>?_⟩
  ·rw [List.nodup_append]
   refine ⟨n,t.nodup M h0 h1,fun a ha b hb z=>?_⟩
   subst z
   obtain ⟨L,_,_,_,rfl⟩:=t
   obtain ⟨j,_,e | e⟩:=Yo.mp hb
   ·exact (GB M h0 h1 c h j).1 (e ▸ ha)
   ·exact (GB M h0 h1 c h j).2 (e ▸ ha)
  ·rcases List.mem_append.mp hx with z | z
   ·exact d x z
   ·exact t.dom M h0 h1 x z
  ·rw [List.mem_append,List.mem_append]
   rcases List.mem_append.mp hx with z | z
   ·exact ⟨.inl (c x z).1,.inl (c x z).2⟩
   ·exact ⟨.inr (t.closed M h0 h1 x z).1,.inr (t.closed M h0 h1 x z).2⟩
 | skip a h ih=>exact ih (by lia)
theorem GA.len {m:Int->Int}{N:Int} (M:YN m N) {i:Nat}{ts:List (List Int)} (a:GA m i ts) (hi:(i:Int)<=N):ts.length<=i:=by
 induction a with
 | nil=>simp
 | add a h t ih=>have:=ih (by lia);simp;lia
 | skip a h ih=>have:=ih (by lia);lia
def rowAt (ls:List (Str×Int)) (t:Nat):List Int:=(rb (ls.take t)).1
def Jj (ls:List (Str×Int)) (t:Nat):Int×Int:=((rowAt ls t).getD ((ls.getD t ("", 0)).2.toNat) 0,(rowAt ls t).getD ((ls.getD t ("", 0)).2.toNat+1) 0)
def isE:Str->Bool:=fun x=>decide (x = "end")
def isC:Str->Bool:=fun x=>decide (x = "cross")
def Gv (ls:List (Str×Int)) (i:Nat):List (Int×Int):=(Z0 ls isE i).map fun t=>Jj ls t.toNat
def ZO (ps:List (Int×Int)):List Int:=ps.flatMap fun p=>[p.1,p.2]
theorem Um (a b:List (Int×Int)):ZO (a++b)=ZO a++ZO b:=by simp [ZO]
theorem ZbR (ps:List (Int×Int)):(ZO ps).length=2*ps.length:=by
 induction ps with
 | nil=>rfl
 | cons p r ih=>
  have:ZO (p::r) = [p.1,p.2]++ZO r:=by simp [ZO]
  rw [this,List.length_append,ih]
  simp
  lia
theorem Zei (ls:List (Str×Int)) (i:Nat):Gv ls (i+1)=Gv ls i++(if isK ls isE i=true then [Jj ls i] else []):=by
 unfold Gv
 rw [Wy,List.map_append]
 by_cases h:isK ls isE i=true<;>simp [h]
def ZaL (n:Nat):List Int:=(List.range n).map fun (x:Nat)=>(x:Int)
theorem ZkE (n:Nat):ZaL (n+2)=ZaL n ++ [(n:Int),(n:Int)+1]:=by
 unfold ZaL
 rw [List.range_succ,List.range_succ]
 simp
theorem J9 {n:Nat}{x:Int}:x∈ZaL n ↔ 0<=x/\x<(n:Int):=by
 unfold ZaL
 rw [List.mem_map]
 constructor
 ·rintro ⟨a,h,rfl⟩
  have:=List.mem_range.mp h
  lia
 ·rintro ⟨h0,h1⟩
  exact ⟨x.toNat,List.mem_range.mpr (by lia),by lia⟩
theorem GU (n:Nat):(ZaL n).Nodup:=by
 unfold ZaL
 rw [List.nodup_iff_pairwise_ne,List.pairwise_map]
 exact (List.nodup_iff_pairwise_ne.mp List.nodup_range).imp fun h e=>h (by lia)
theorem Za0 (n:Nat):(ZaL n).length=n:=by simp [ZaL]
theorem Zmh (r:List Int) (k:Nat) (h:k+1<r.length):r=r.take k ++ [r.getD k 0,r.getD (k+1) 0]++r.drop (k+2):=by
 have e1:r.drop k=r[k]::r.drop (k+1):=List.drop_eq_getElem_cons (by lia)
 have e2:r.drop (k+1)=r[k+1]::r.drop (k+2):=List.drop_eq_getElem_cons h
 have e:r.take k++r.drop k=r:=List.take_append_drop k r
 rw [e1,e2] at e
 have h1:r.getD k 0=r[k]:=by simp [show k<r.length by lia]
 have h2:r.getD (k+1) 0=r[k+1]:=by simp [h]
 rw [h1,h2]
 simpa using e.symm
theorem Zfm (r:List Int) (k:Nat) (h:k+1<r.length):swp r k=r.take k ++ [r.getD (k+1) 0,r.getD k 0]++r.drop (k+2):=by
 have hl:(r.take k).length=k:=by rw [List.length_take];lia
 unfold swp
 generalize ha:r.getD k 0=a
 generalize hb:r.getD (k+1) 0=b
 have e:=Zmh r k h
 rw [ha,hb] at e
 generalize r.take k=p at e hl ⊢
 generalize r.drop (k+2)=q at e ⊢
 subst e
 rw [List.append_assoc,List.set_append_right _ _ (by lia),hl,List.set_append_right _ _ (by lia),hl]
 simp
theorem Zbk {ls:List (Str×Int)} (hW:Wk ls 0):∀i,i<=ls.length->0<=(rb (ls.take i)).2/\(rb (ls.take i)).2 % 2=0/\(rowAt ls i++ZO (Gv ls i)).Perm (ZaL (rb (ls.take i)).2.toNat)
 | 0,_=>by
  refine ⟨Int.le_refl _,rfl,?_⟩
  exact List.Perm.refl _
 | i+1,hi=>by
  obtain ⟨ih0,ih1,ih⟩:=Zbk hW i (by lia)
  have hq:ls[i]? = some ls[i]:=by simp [show i<ls.length by lia]
  obtain ⟨tk,c⟩:=ZfU hW hq
  have gd:ls.getD i ("", 0)=ls[i]:=by simp [show i<ls.length by lia]
  unfold rowAt at ih ⊢
  generalize hp:ls[i]=p at *
  obtain ⟨px,pk⟩:=p
  rw [tk,ZR,Zei]
  have kk:∀pr:Str->Bool,isK ls pr i=pr px:=fun pr=>by
   unfold isK
   rw [hq]
   cases h:pr px<;>simp [h]
  rw [kk]
  rcases c with ⟨e,b0,b1⟩ | ⟨e,b0,b1⟩ | ⟨e,b0,b1⟩
  ·have e:px = "born" := e
   subst e
   rw [Y1]
   have hf:isE "born" = false:=by unfold isE;decide +kernel
   rw [hf]
   simp only [Bool.false_eq_true,if_false,List.append_nil]
   generalize hr:rb (ls.take i)=s at *
   obtain ⟨r,b⟩:=s
   refine ⟨by lia,by lia,?_⟩
   have e2:(b+2).toNat=b.toNat+2:=by lia
   rw [e2,ZkE]
   have e3:((b.toNat:Nat):Int)=b:=by lia
   rw [e3]
   have p1:(r.take pk.toNat ++ [b,b+1]++r.drop pk.toNat).Perm (r ++ [b,b+1]):=by
    rw [List.append_assoc]
    refine (List.Perm.append_left _ List.perm_append_comm).trans ?_
    rw [<- List.append_assoc,List.take_append_drop]
   refine (p1.append_right _).trans ?_
   rw [List.append_assoc]
   refine (List.Perm.append_left _ List.perm_append_comm).trans ?_
   rw [<- List.append_assoc]
   exact ih.append_right _
  ·have e:px = "cross" := e
   subst e
   rw [YD]
   have hf:isE "cross" = false:=by unfold isE;decide +kernel
   rw [hf]
   simp only [Bool.false_eq_true,if_false,List.append_nil]
   refine ⟨ih0,ih1,?_⟩
   have hk:pk.toNat+1<(rb (ls.take i)).1.length:=by
    have b1:pk+1<_:=b1
    have b0:0<=pk:=b0
    lia
   refine List.Perm.trans ?_ ih
   refine List.Perm.append_right _ ?_
   rw [Zfm _ _ hk]
   conv=>rhs;rw [Zmh _ _ hk]
   exact List.Perm.append_right _ (List.Perm.append_left _ (List.Perm.swap _ _ _))
  ·have e:px = "end" := e
   subst e
   rw [JG]
   have hf:isE "end" = true:=by unfold isE;simp
   rw [hf]
   simp only [if_true]
   refine ⟨ih0,ih1,?_⟩
   have hk:pk.toNat+1<(rb (ls.take i)).1.length:=by
    have b1:pk+1<_:=b1
    have b0:0<=pk:=b0
    lia
   refine List.Perm.trans ?_ ih
   rw [Um]
   have pr:ZO [Jj ls i] = [(rb (ls.take i)).1.getD pk.toNat 0,(rb (ls.take i)).1.getD (pk.toNat+1) 0]:=by
    unfold Jj rowAt
    rw [gd]
    simp [ZO]
   rw [pr]
   conv=>rhs;rw [Zmh _ _ hk]
   generalize (rb (ls.take i)).1.take pk.toNat=A
   generalize (rb (ls.take i)).1.drop (pk.toNat+2)=B
   generalize [(rb (ls.take i)).1.getD pk.toNat 0,(rb (ls.take i)).1.getD (pk.toNat+1) 0]=C
   generalize ZO (Gv ls i)=F
   rw [List.append_assoc,List.append_assoc,List.append_assoc]
   refine List.Perm.append_left _ ?_
   rw [<- List.append_assoc]
   exact List.perm_append_comm
def Yb (ls:List (Str×Int)):List (Int×Int):=Gv ls ls.length
def Yp (ls:List (Str×Int)):Nat:=2*(Yb ls).length
theorem WU {ls:List (Str×Int)} (hW:Wk ls 0):(ZO (Yb ls)).Perm (ZaL (Yp ls)):=by
 obtain ⟨h0,h1,h2⟩:=Zbk hW ls.length (Nat.le_refl _)
 have e:rowAt ls ls.length = []:=by
  unfold rowAt
  rw [List.take_of_length_le (Nat.le_refl _)]
  have:=GN hW
  exact List.length_eq_zero_iff.mp (by lia)
 rw [e,List.nil_append] at h2
 have hl:=h2.length_eq
 rw [Za0,ZbR] at hl
 show (ZO (Gv ls ls.length)).Perm (ZaL (2*(Gv ls ls.length).length))
 rw [hl]
 exact h2
def YW:List (Int×Int)->Int->Int
 | [],_=>0
 | p::r,x=>if x=p.1 then p.2 else if x=p.2 then p.1 else YW r x
theorem U9:∀{ps:List (Int×Int)}{u l:Int},(ZO ps).Nodup->(u,l)∈ps->YW ps u=l/\YW ps l=u
 | [],_,_,_,h=>by cases h
 | p::r,u,l,nd,h=>by
  have e:ZO (p::r)=p.1::p.2::ZO r:=by simp [ZO]
  rw [e] at nd
  obtain ⟨n1,nd2⟩:=List.nodup_cons.mp nd
  obtain ⟨n2,nd3⟩:=List.nodup_cons.mp nd2
  rcases List.mem_cons.mp h with z | z
  ·subst z
   refine ⟨by simp [YW],?_⟩
   have:l≠u:=fun z=>n1 (by simp [z])
   simp [YW,this]
  ·have m1:u∈ZO r:=List.mem_flatMap.mpr ⟨(u,l),z,by simp⟩
   have m2:l∈ZO r:=List.mem_flatMap.mpr ⟨(u,l),z,by simp⟩
   have ih:=U9 nd3 z
   have a1:u≠p.1:=fun z=>n1 (List.mem_cons_of_mem _ (z ▸ m1))
   have a2:u≠p.2:=fun z=>n2 (z ▸ m1)
   have a3:l≠p.1:=fun z=>n1 (List.mem_cons_of_mem _ (z ▸ m2))
   have a4:l≠p.2:=fun z=>n2 (z ▸ m2)
   simp only [YW,a1,a2,a3,a4,if_false]
   exact ih
theorem ZaK {ps:List (Int×Int)} (nd:(ZO ps).Nodup) {u l:Int} (h:(u,l)∈ps):u≠l:=by
 induction ps with
 | nil=>cases h
 | cons p r ih=>
  have e:ZO (p::r)=p.1::p.2::ZO r:=by simp [ZO]
  rw [e] at nd
  obtain ⟨n1,nd2⟩:=List.nodup_cons.mp nd
  obtain ⟨n2,nd3⟩:=List.nodup_cons.mp nd2
  rcases List.mem_cons.mp h with z | z
  ·subst z;intro z;exact n1 (by simp [z])
  ·exact ih nd3 z
theorem YS {ls:List (Str×Int)} (hW:Wk ls 0):YN (YW (Yb ls)) (Yp ls):=by
 have pm:=WU hW
 have nd:(ZO (Yb ls)).Nodup:=pm.nodup_iff.mpr (GU _)
 have get:∀x:Int,0<=x->x<(Yp ls:Int) -> ∃u l,(u,l)∈Yb ls/\(x=u∨x=l):=fun x h0 h1=>by
  have:x∈ZO (Yb ls):=pm.mem_iff.mpr (J9.mpr ⟨h0,h1⟩)
  obtain ⟨p,hp,hx⟩:=List.mem_flatMap.mp this
  exact ⟨p.1,p.2,hp,by simpa using hx⟩
 have dom:∀u l,(u,l)∈Yb ls->(0<=u/\u<(Yp ls:Int))/\(0<=l/\l<(Yp ls:Int)):=fun u l h=>
  ⟨J9.mp (pm.mem_iff.mp (List.mem_flatMap.mpr ⟨(u,l),h,by simp⟩)),J9.mp (pm.mem_iff.mp (List.mem_flatMap.mpr ⟨(u,l),h,by simp⟩))⟩
 refine ⟨fun x h0 h1=>?_,fun x h0 h1=>?_,fun x h0 h1=>?_,fun x h0 h1=>?_,by unfold Yp;lia⟩
 all_goals
  obtain ⟨u,l,hm,rfl | rfl⟩:=get x h0 h1
  all_goals
   obtain ⟨a,b⟩:=U9 nd hm
   obtain ⟨d1,d2⟩:=dom _ _ hm
   have ne:=ZaK nd hm
   first
    | (rw [a];exact d2.1)
    | (rw [b];exact d1.1)
    | (rw [a];exact d2.2)
    | (rw [b];exact d1.2)
    | (rw [a,b])
    | (rw [b,a])
    | (rw [a];exact Ne.symm ne)
    | (rw [b];exact ne)
theorem ZnA {x:Int} (h:0<=x):Builtin.bitXor x 1=bw x:=by
 obtain ⟨n,rfl⟩:=Int.eq_ofNat_of_zero_le h
 unfold bw
 have ho:Builtin.bitOr (n:Int) 1=((n ||| 1:Nat):Int):=by
  have e1:decide (0<=Builtin.bitNot (n:Int))=false:=by unfold Builtin.bitNot;rw [decide_eq_false_iff_not];lia
  have e2:decide (0<=Builtin.bitNot (1:Int))=false:=by decide
  have e3:(Builtin.bitNot (Builtin.bitNot (n:Int))).toNat=n:=by unfold Builtin.bitNot;lia
  have e4:(Builtin.bitNot (Builtin.bitNot (1:Int))).toNat=1:=by decide
  unfold Builtin.bitOr Builtin.bitAnd
  rw [e1,e2]
  simp only [e3,e4]
  unfold Builtin.bitNot
  lia
 have ha:Builtin.bitAnd (n:Int) 1=((n &&& 1:Nat):Int):=by
  unfold Builtin.bitAnd
  simp
 unfold Builtin.bitXor
 rw [ho,ha]
 have h1:n &&& 1=n % 2:=Nat.and_one_is_mod n
 have h2:n ||| 1=n+1-n % 2:=by
  have d:(n ||| 1) / 2=n / 2:=by rw [Nat.or_div_two];simp
  have m:(n ||| 1) % 2=1:=Nat.or_mod_two_eq_one.mpr (.inr rfl)
  lia
 rw [h1,h2]
 split<;>lia
section
variable {X:Cx}
end
def Ji (H:Hp) (ys:List V) (ps:List (Int×Int)):Prop:=Paired (fun v (p:Int×Int)=>∃a,v=V.ref a/\H a=some (.tup [.int p.1,.int p.2])) ys ps
theorem Ji.mono {H H':Hp} (h:∀t p,H t=some (.tup p)->H' t=some (.tup p)):∀{xs:List V}{ps:List (Int×Int)},Ji H xs ps->Ji H' xs ps
 | _,_,.nil=>.nil
 | _,_,.cons ⟨t,e,q⟩ r=>.cons ⟨t,e,h t _ q⟩ (Ji.mono h r)
theorem Ji.len {H:Hp}{xs:List V}{ps:List (Int×Int)} (h:Ji H xs ps):xs.length=ps.length:=Paired.length h
theorem Ji.get {H:Hp}:∀{xs:List V}{ps:List (Int×Int)}{i:Nat}{x:V},Ji H xs ps->xs[i]? = some x -> ∃p t,ps[i]? = some p/\x = .ref t/\H t=some (.tup [.int p.1,.int p.2])
 | _,_,_,_,.nil,e=>by simp at e
 | _,_,0,_,.cons ⟨t,e1,q⟩ _,e=>by simp at e;subst e;exact ⟨_,t,rfl,e1,q⟩
 | _,_,i+1,x,.cons _ r,e=>by
  obtain ⟨p,t,h1,h2⟩:=Ji.get (i:=i) (x:=x) r (by simpa using e)
  exact ⟨p,t,by simpa using h1,h2⟩
theorem Ji.snoc {H:Hp}{xs:List V}{ps:List (Int×Int)}{t:Addr}{p:Int×Int} (h:Ji H xs ps) (e:H t=some (.tup [.int p.1,.int p.2])):Ji H (xs ++ [.ref t]) (ps ++ [p]):=Paired.snoc h ⟨t,rfl,e⟩
theorem Yz.at {H:Hp}:∀{xs:List V}{rs:List (List Int)}{i:Nat}{r:List Int},Yz H xs rs->rs[i]? = some r -> ∃p,xs[i]? = some (.ref p)/\H p=some (.lst (r.map V.int))
 | _,_,_,_,.nil,e=>by simp at e
 | _,_,0,_,.cons ⟨t,e1,q⟩ _,e=>by simp at e;subst e;exact ⟨t,by simp [e1],q⟩
 | _,_,i+1,r,.cons _ rr,e=>by
  obtain ⟨p,h1,h2⟩:=Yz.at (i:=i) (r:=r) rr (by simpa using e)
  exact ⟨p,by simpa using h1,h2⟩
theorem Yz.atX {H:Hp}:∀{xs:List V}{rs:List (List Int)}{i:Nat}{x:V},Yz H xs rs->xs[i]? = some x -> ∃(p:Addr) (r:List Int),rs[i]? = some r/\x = .ref p/\H p=some (.lst (r.map V.int))
 | _,_,_,_,.nil,e=>by simp at e
 | _,_,0,_,.cons ⟨t,e1,q⟩ _,e=>by simp at e;subst e;exact ⟨t,_,rfl,e1,q⟩
 | _,_,i+1,x,.cons _ r,e=>by
  obtain ⟨p,q,h1,h2⟩:=Yz.atX (i:=i) (x:=x) r (by simpa using e)
  exact ⟨p,q,by simpa using h1,h2⟩
theorem Zjf (ls:List (Str×Int)) {i n:Nat} (h:i<n):(rowsOf ls n)[i]? = some (rowAt ls i):=by
 unfold rowsOf rowAt
 rw [List.getElem?_map]
 simp [h]
theorem ZiA {ls:List (Str×Int)} (hW:Wk ls 0) {t:Nat}{q:Str×Int} (hq:ls[t]? = some q) (hb:q.1 ≠ "born"):0<=q.2/\q.2.toNat+1<(rowAt ls t).length/\Jj ls t=((rowAt ls t).getD q.2.toNat 0,(rowAt ls t).getD (q.2.toNat+1) 0):=by
 obtain ⟨_,c⟩:=ZfU hW hq
 have gd:ls.getD t ("", 0)=q:=by simp [hq]
 have e:Jj ls t=((rowAt ls t).getD q.2.toNat 0,(rowAt ls t).getD (q.2.toNat+1) 0):=by unfold Jj;rw [gd]
 rcases c with ⟨z,_⟩ | ⟨_,b0,b1⟩ | ⟨_,b0,b1⟩
 ·exact absurd z hb
 ·exact ⟨b0,by unfold rowAt;lia,e⟩
 ·exact ⟨b0,by unfold rowAt;lia,e⟩
theorem YI {ns:List Int}{i:Nat}{x:V} (h:(ns.map V.int)[i]? = some x):∃t,ns[i]? = some t/\x=V.int t:=by
 rw [List.getElem?_map] at h
 cases e:ns[i]? with
 | none=>rw [e] at h;cases h
 | some z=>rw [e] at h;exact ⟨z,rfl,(Option.some.inj h).symm⟩
theorem YT {α β:Type}{ns:List α}{i:Nat}{t:α} (f:α -> β) (h:ns[i]? = some t):(ns.take (i+1)).map f=(ns.take i).map f ++ [f t]:=by
 rw [List.take_add_one,h]
 simp
theorem Zbe {ls:List (Str×Int)}{pr:Str->Bool}{n:Nat}{x:Int} (h:x∈Z0 ls pr n):0<=x/\x.toNat<n /\ ∃q,ls[x.toNat]? = some q/\pr q.1=true:=by
 unfold Z0 at h
 obtain ⟨i,hi,e⟩:=List.mem_filterMap.mp h
 have hi':=List.mem_range.mp hi
 by_cases hk:isK ls pr i=true
 ·rw [if_pos hk] at e
  have e:(i:Int)=x:=Option.some.inj e
  subst e
  refine ⟨by lia,by simpa using hi',?_⟩
  unfold isK at hk
  cases hq:ls[i]? with
  | none=>rw [hq] at hk;cases hk
  | some q=>
   rw [hq] at hk
   refine ⟨q,by simpa using hq,by simpa using hk⟩
 ·rw [if_neg hk] at e;cases e
theorem JP {ls:List (Str×Int)} (hl:ls.length<=60):Yp ls<=120:=by
 unfold Yp Yb Gv
 rw [List.length_map]
 have:=JH ls isE ls.length
 lia
section
variable {X:Cx}{pins:List (Addr×Obj)} {σ:St}{H:Hp}{s:Shared}
theorem Inv.keptN {h':Heap}{t':Nat}{m:Str->Option Value} (I:Inv X pins σ H s) (F:Fr X.base X.env.locals s.heap m) (F':Fr X.base X.env.locals h' m)
  (N':News X.base X.env.locals h' (W9 X.base s.heap X.env.locals)):Inv X pins σ H { s with heap:=h',toks:=t' }:=by
 have kp:∀b u,b≠X.env.locals->s.heap.get? b=some u->h'.get? b=some u:=fun b u hb e=>by
  cases q:X.base.get? b with
  | some v=>
   have e1:=F'.keep b v q
   have e2:=F.keep b v q
   rw [e] at e2
   cases e2
   exact e1
  | none=>exact (N' (b,u) (Gj hb q e)).1
 have neL:∀b u,H b=some u->b≠X.env.locals:=fun b u e z=>by rw [z,I.free] at e;cases e
 refine I.step (g':=s.gens) (d':=s.drawn) (ch:=[]) (fun _ z=>nomatch z) (fun b ob hb _ _ e _=>kp b ob hb e) (fun b ob hb _ _ e _=>⟨ob.slots,kp b ob hb e⟩) (fun b ob _ e n=>n) (fun b ob _ e=>?_) (fun b xs e=>e) (fun b ob u e=>e) (fun b ps e=>⟨#[],by rw [e];simp⟩) (fun m' hm=>?_) (fun b u e=>?_) I.bare
 ·by_cases hb:b=X.env.locals
  ·subst hb
   obtain ⟨ob',_,_,z,_⟩:=F'.ns
   exact ⟨ob',z⟩
  ·exact ⟨ob,kp b ob hb e⟩
 ·rw [Zlj hm F.ns];exact F'.ns
 ·refine (I.hok b u e).stay (fun c v hc q=>kp c v ?_ q) (fun c q=>q) fun c xs q=>q
  rcases hc with z | z
  ·subst z;exact neL _ u e
  ·exact neL c _ z
end
section
variable {X:Cx}
theorem ZkZ (hc:X.calm=true):WV X (.builtin "sum") (fun xs H Q=>∃(p:Addr) (ns:List Int),xs = [.ref p]/\Zo X.K H p (ns.map V.int)/\Q (.int ns.sum) H):=by
 intro pins s σ H xs us Q I r h
 obtain ⟨p,ns,rfl,hq,q⟩:=h
 obtain ⟨u,rfl,ru⟩:=r.one
 cases ru
 obtain ⟨its,rv,pl,hz⟩:=I.list hq
 obtain ⟨m,fr⟩:=I.fr
 refine LSm.sum_ints fr (news:=W9 X.base s.heap X.env.locals) ZfH (I.ok.hd hc) pl.isList (GW rv) fun h' tk t' fr' nw'=>?_
 exact ⟨.int ns.sum,H,I.keptN fr fr' nw',⟨t',rfl⟩,q⟩
theorem Zjl {K:PySem.W.Frag} (h:X.K=K) (hc:X.calm=true):WV X (.builtin "sum") (fun xs H Q=>∃(p:Addr) (ns:List Int),xs = [.ref p]/\Zo K H p (ns.map V.int)/\Q (.int ns.sum) H):=h ▸ ZkZ hc
end
theorem Zmw {x:Int} (h:0<=x):Builtin.bitAnd x 1=x % 2:=by
 obtain ⟨n,rfl⟩:=Int.eq_ofNat_of_zero_le h
 have ha:Builtin.bitAnd (n:Int) 1=((n &&& 1:Nat):Int):=by
  unfold Builtin.bitAnd
  simp
 rw [ha,Nat.and_one_is_mod]
 lia
end L2
namespace L2
open PySem PySem.Spec PyProof.Rows PyProof.V
def Itz (K:PySem.W.Frag) (a b:Addr):It:=
  ⟨fun i H=>∃xs ys x y,Zo K H a xs/\Zo K H b ys/\xs[i]? = some x/\ys[i]? = some y,
   fun i H v H'=>∃p x y,v = .ref p/\H p=none/\H'=upd H p (.tup [x,y])/\(∀xs,Zo K H a xs->xs[i]? = some x)/\(∀ys,Zo K H b ys->ys[i]? = some y),
   fun i H=>∃xs ys,Zo K H a xs/\Zo K H b ys/\(xs.length<=i∨ys.length<=i)⟩
theorem Zj2 {P:Program}{w:World}{K:PySem.W.Frag}{es:List Expr}{k:Nat}{pos:Pos} (a b z TI TO i1 i2:Addr) (ap:ZipApart z TI TO i1 i2 a b):
  Turn P w K (.Tuple es k pos) (Itz K a b) [z,TI,TO,i1,i2] z (fun i h=>IsZip h z TI TO .none/\IsPair h TI (.ref i1) (.ref i2)/\(∃u v,IsPair h TO u v)/\h.IsListIter i1 a i/\h.IsListIter i2 b i) where
 mem:=by simp
 obj:=fun i h st c hc=>by
  obtain ⟨h1,h2,⟨u,v,h3⟩,⟨o1,ho1,c1,d1⟩,⟨o2,ho2,c2,d2⟩⟩:=st
  simp only [List.mem_cons,List.not_mem_nil,or_false] at hc
  rcases hc with e | e | e | e | e
  ·subst e;exact ⟨_,h1,fun v z=>by have z':Data.fields _=Data.cell v:=z;cases z'⟩
  ·subst e;exact ⟨_,h2,fun v z=>by have z':Data.seq _ _=Data.cell v:=z;cases z'⟩
  ·subst e;exact ⟨_,h3,fun v z=>by have z':Data.seq _ _=Data.cell v:=z;cases z'⟩
  ·subst e;exact ⟨o1,ho1,fun v z=>by rw [d1] at z;cases z⟩
  ·subst e;exact ⟨o2,ho2,fun v z=>by rw [d2] at z;cases z⟩
 keep:=fun i h h' st k=>by
  obtain ⟨h1,h2,⟨u,v,h3⟩,h4,h5⟩:=st
  exact ⟨k z (by simp) _ h1,k TI (by simp) _ h2,⟨u,v,k TO (by simp) _ h3⟩,h4.at fun o x=>k i1 (by simp) o x,h5.at fun o x=>k i2 (by simp) o x⟩
 item:=by
  intro X hP hw hK hc i pins s σ H E I hf st hg
  subst hP hw hK
  obtain ⟨xs,ys,x,y,hq1,hq2,hx,hy⟩:=hg
  obtain ⟨its1,rv1,p1,hz1⟩:=I.list hq1
  obtain ⟨its2,rv2,p2,hz2⟩:=I.list hq2
  obtain ⟨u,hu,ru⟩:=rv1.get hx
  obtain ⟨v,hv,rv⟩:=rv2.get hy
  obtain ⟨h1,h2,⟨oa,ob,h3⟩,h4,h5⟩:=st
  refine wpAny_pyNext_zip_item ap h1 h2 h3 h4 h5 p1.isList p2.isList (x:=u) (y:=v) (by simpa using hu) (by simpa using hv) fun h' g1 g2 g3 g4 g5 hsz kk=>⟨_,rfl,?_⟩
  refine wpAny_letOwnedTupleGo_zip (s:={ s with heap:=h' }) g1 fun h'' e1 hs''=>?_
  have lt:∀c ∈ [z,TI,TO,i1,i2],@LT.lt Nat _ c s.heap.objs.size:=fun c hc=>by
   simp only [List.mem_cons,List.not_mem_nil,or_false] at hc
   rcases hc with e | e | e | e | e
   ·subst e;exact aLt h1
   ·subst e;exact aLt h2
   ·subst e;exact aLt h3
   ·subst e;obtain ⟨o,ho,_⟩:=h4;exact aLt ho
   ·subst e;obtain ⟨o,ho,_⟩:=h5;exact aLt ho
  have kk2:∀c o,c≠z->c≠TO->c≠i1->c≠i2->s.heap.get? c=some o->h''.get? c=some o:=fun c o n1 n2 n3 n4 q=>(hs''.2 c n1).trans (kk c o n1 n2 n3 n4 q)
  have nne:∀c o,H c=some o->c≠z/\c≠TO/\c≠i1/\c≠i2:=fun c o q=>by
   refine ⟨fun e=>?_,fun e=>?_,fun e=>?_,fun e=>?_⟩
   ·rw [e,(hf z (by simp)).1] at q;cases q
   ·rw [e,(hf TO (by simp)).1] at q;cases q
   ·rw [e,(hf i1 (by simp)).1] at q;cases q
   ·rw [e,(hf i2 (by simp)).1] at q;cases q
  have fr:H s.heap.objs.size=none:=I.hok.fresh (Nat.le_refl _)
  have hT:h''.get? s.heap.objs.size=some { cls:=.type "tuple", data:=.seq #[u,v] }:=(hs''.2 _ (Nat.ne_of_gt (lt z (by simp)))).trans g5
  have nT:∀c o,s.heap.get? c=some o->c≠s.heap.objs.size:=fun c o q=>Nat.ne_of_lt (aLt q)
  have ok':GL X.prog X.w (upd H s.heap.objs.size (.tup [x,y])) h'':=fun c o q=>by
   by_cases hb:c=s.heap.objs.size
   ·subst hb
    rw [Zb] at q
    cases q
    exact ⟨show 2<=sizeLine by decide,[u,v],.cons ru (.cons rv .nil),⟨_,hT,rfl,_,rfl⟩⟩
   ·rw [Zj hb] at q
    refine (I.hok c o q).stay (fun d v hd r=>?_) (fun d r=>by rw [Zj (Zg r fr)];exact r) fun d xs r=>by rw [Zj (Zg r fr)];exact r
    rcases hd with e | e
    ·subst e
     obtain ⟨n1,n2,n3,n4⟩:=nne d o q
     exact kk2 d v n1 n2 n3 n4 r
    ·obtain ⟨n1,n2,n3,n4⟩:=nne d _ e
     exact kk2 d v n1 n2 n3 n4 r
  have notin:∀c,c ∉ [z,TI,TO,i1,i2]->c≠z/\c≠TO/\c≠i1/\c≠i2:=fun c hc=>by
   simp only [List.mem_cons,List.not_mem_nil,or_false,not_or] at hc
   exact ⟨hc.1,hc.2.2.1,hc.2.2.2.1,hc.2.2.2.2⟩
  have I1:Inv X pins σ (upd H s.heap.objs.size (.tup [x,y])) { s with heap:=h'',gens:=s.gens,drawn:=s.drawn,toks:=s.toks }:=by
   refine I.step (ch:=[z,TI,TO,i1,i2]) (fun c hc=>?_) (fun c o _ _ hc q _=>?_) (fun c o _ _ hc q _=>⟨o.slots,?_⟩)
    (fun c o _ q n=>by rw [Zj (nT c o q)];exact n) (fun c o hc q=>⟨o,?_⟩) (fun c xs q=>by rw [Zj (Zg q fr)];exact q) (fun c o u q=>by rw [Zj (Zg q fr)];exact q)
    (fun c ps q=>⟨#[],by rw [Zj (Zg q fr),q];simp⟩) (fun m hm=>?_) ok' I.bare
   ·obtain ⟨f0,f1,f2,f3,f4,f5⟩:=hf c hc
    exact ⟨f3,f1,f4,f5⟩
   ·obtain ⟨n1,n2,n3,n4⟩:=notin c hc;exact kk2 c o n1 n2 n3 n4 q
   ·obtain ⟨n1,n2,n3,n4⟩:=notin c hc;exact kk2 c o n1 n2 n3 n4 q
   ·obtain ⟨n1,n2,n3,n4⟩:=notin c hc;exact kk2 c o n1 n2 n3 n4 q
   ·obtain ⟨o,es,ep,ho,r⟩:=hm
    exact ⟨o,es,ep,kk2 _ o (Ne.symm (hf z (by simp)).2.1) (Ne.symm (hf TO (by simp)).2.1) (Ne.symm (hf i1 (by simp)).2.1) (Ne.symm (hf i2 (by simp)).2.1) ho,r⟩
  refine ⟨.ref s.heap.objs.size,_,I1,rfl,⟨s.heap.objs.size,x,y,rfl,fr,rfl,fun zs hz=>by rw [I.list_inj hz hq1];exact hx,fun zs hz=>by rw [I.list_inj hz hq2];exact hy⟩,
   ⟨e1,kk2 TI _ ap.TIz ap.TITO ap.TIi1 ap.TIi2 h2,⟨u,v,(hs''.2 TO ap.TOz).trans g2⟩,g3.at fun o q=>(hs''.2 i1 ap.i1z).trans q,g4.at fun o q=>(hs''.2 i2 ap.i2z).trans q⟩,fun c hc=>?_⟩
  rw [Zj (Nat.ne_of_lt (lt c hc))]
  exact (hf c hc).1
 done:=by
  intro X hP hw hK hc i pins s σ H E I hf st hg
  subst hP hw hK
  obtain ⟨xs,ys,hq1,hq2,hx⟩:=hg
  obtain ⟨its1,rv1,p1,hz1⟩:=I.list hq1
  obtain ⟨its2,rv2,p2,hz2⟩:=I.list hq2
  obtain ⟨h1,h2,⟨oa,ob,h3⟩,h4,h5⟩:=st
  have l1:=rv1.length
  have l2:=rv2.length
  refine wpAny_pyNext_zip_end (I.ok.hd hc) ap h1 h2 h3 h4 h5 p1.isList p2.isList (by rcases hx with e | e;exact .inl (by simp;lia);exact .inr (by simp;lia)) fun h' kk=>⟨rfl,?_⟩
  have nne:∀c o,H c=some o->c≠z/\c≠TO/\c≠i1/\c≠i2:=fun c o q=>by
   refine ⟨fun e=>?_,fun e=>?_,fun e=>?_,fun e=>?_⟩
   ·rw [e,(hf z (by simp)).1] at q;cases q
   ·rw [e,(hf TO (by simp)).1] at q;cases q
   ·rw [e,(hf i1 (by simp)).1] at q;cases q
   ·rw [e,(hf i2 (by simp)).1] at q;cases q
  have notin:∀c,c ∉ [z,TI,TO,i1,i2]->c≠z/\c≠TO/\c≠i1/\c≠i2:=fun c hc=>by
   simp only [List.mem_cons,List.not_mem_nil,or_false,not_or] at hc
   exact ⟨hc.1,hc.2.2.1,hc.2.2.2.1,hc.2.2.2.2⟩
  have ok':GL X.prog X.w H h':=fun c o q=>by
   refine (I.hok c o q).stay (fun d v hd r=>?_) (fun d r=>r) fun d xs r=>r
   rcases hd with e | e
   ·subst e
    obtain ⟨n1,n2,n3,n4⟩:=nne d o q
    exact kk d v n1 n2 n3 n4 r
   ·obtain ⟨n1,n2,n3,n4⟩:=nne d _ e
    exact kk d v n1 n2 n3 n4 r
  refine I.step (g':=s.gens) (d':=s.drawn) (t':=s.toks) (ch:=[z,TI,TO,i1,i2]) (fun c hc=>?_) (fun c o _ _ hc q _=>?_) (fun c o _ _ hc q _=>⟨o.slots,?_⟩)
    (fun c o _ q n=>n) (fun c o hc q=>⟨o,?_⟩) (fun c xs q=>q) (fun c o u q=>q) (fun c ps q=>⟨#[],by rw [q];simp⟩) (fun m hm=>?_) ok' I.bare
  ·obtain ⟨f0,f1,f2,f3,f4,f5⟩:=hf c hc
   exact ⟨f3,f1,f4,f5⟩
  ·obtain ⟨n1,n2,n3,n4⟩:=notin c hc;exact kk c o n1 n2 n3 n4 q
  ·obtain ⟨n1,n2,n3,n4⟩:=notin c hc;exact kk c o n1 n2 n3 n4 q
  ·obtain ⟨n1,n2,n3,n4⟩:=notin c hc;exact kk c o n1 n2 n3 n4 q
  ·obtain ⟨o,es,ep,ho,r⟩:=hm
   exact ⟨o,es,ep,kk _ o (Ne.symm (hf z (by simp)).2.1) (Ne.symm (hf TO (by simp)).2.1) (Ne.symm (hf i1 (by simp)).2.1) (Ne.symm (hf i2 (by simp)).2.1) ho,r⟩
 self:=fun _ _ _ _ _ st h=>wpAny_pyIter_zip st.1 h
section
variable {X:Cx}
def Zpx (K:PySem.W.Frag) (ta:TA):TI:=fun σ H R=>ta σ H fun vs H1=>∃a b,vs = [.ref a,.ref b]/\(∃xs,Zo K H1 a xs)/\(∃ys,Zo K H1 b ys)/\R (Itz K a b) H1
theorem Zoi {a b:Expr}{ta:TA}{p pos tpos:Pos}{es:List Expr}{k:Nat} (hg:Gl X "zip") (hm:X.mg "zip" = none) (ha:PA X [a,b] ta) (hs:starEach [a,b] X.env = [(false,eval a X.env),(false,eval b X.env)]:=by rfl) (hs2:starEach [b] X.env = [(false,eval b X.env)]:=by rfl):
  PI X (.Tuple es k tpos) (.Call (.Name "zip" p) [a,b] [] pos) (Zpx X.K ta):=by
 intro pins s σ H R I h
 refine Call_ (ZbW I hg hm boot_zip (PyProof.Rows.callWith_type1 (YG (ha pos pins s σ H _ I h) fun us s1 ⟨vs,H1,I1,r1,q1⟩=>?_) (by rw [hs,hs2]) (by rw [hs2];rfl)))
 obtain ⟨l1,l2,e,⟨xs,hq1⟩,⟨ys,hq2⟩,q⟩:=q1
 subst e
 obtain ⟨u,v,rfl,ru,rv⟩:=r1.two
 cases ru
 cases rv
 obtain ⟨its1,rv1,p1,hz1⟩:=I1.list hq1
 obtain ⟨its2,rv2,p2,hz2⟩:=I1.list hq2
 have L1:@LT.lt Nat _ l1 s1.heap.objs.size:=by obtain ⟨o,ho,_⟩:=p1.isList;exact aLt ho
 have L2:@LT.lt Nat _ l2 s1.heap.objs.size:=by obtain ⟨o,ho,_⟩:=p2.isList;exact aLt ho
 refine call_zip_2 p1.isList p2.isList fun h' g1 g2 g3 g4 g5 hsz kk=>?_
 have I2:Inv X pins σ H1 { s1 with heap:=h' }:=I1.kept (t':=s1.toks) kk
 refine wpAny_pyIter_zip (s:={ s1 with heap:=h' }) g1 ?_
 have ap:ZipApart (s1.heap.objs.size+4) (s1.heap.objs.size+2) (s1.heap.objs.size+3) s1.heap.objs.size (s1.heap.objs.size+1) l1 l2:=by
  constructor<;>(intro e;have e':@Eq Nat _ _:=e;lia)
 refine ⟨_,[s1.heap.objs.size+4,s1.heap.objs.size+2,s1.heap.objs.size+3,s1.heap.objs.size,s1.heap.objs.size+1],_,_,H1,rfl,I2,Zj2 l1 l2 _ _ _ _ _ ap,⟨g1,g2,⟨_,_,g3⟩,g4,g5⟩,fun c hc=>?_,q⟩
 have hb':@LE.le Nat _ s1.heap.objs.size c:=by
  simp only [List.mem_cons,List.not_mem_nil,or_false] at hc
  rcases hc with e | e | e | e | e<;>(subst e;first | exact Nat.le_refl _ | exact Nat.le_add_right _ _)
 exact I1.fpOk hb' (I1.hok.fresh hb')
theorem ZeT {K:PySem.W.Frag}{a b:Expr}{ta:TA}{p pos tpos:Pos}{es:List Expr}{k:Nat} (hk:X.K=K) (hg:Gl X "zip") (hm:X.mg "zip" = none) (ha:PA X [a,b] ta) (hs:starEach [a,b] X.env = [(false,eval a X.env),(false,eval b X.env)]:=by rfl) (hs2:starEach [b] X.env = [(false,eval b X.env)]:=by rfl):
  PI X (.Tuple es k tpos) (.Call (.Name "zip" p) [a,b] [] pos) (Zpx K ta):=hk ▸ Zoi hg hm ha hs hs2
theorem Znf {K:PySem.W.Frag}{a b:Addr}{xs ys:List V}{g:TG}{tc:TT}{te:TE} {σ:St}{H:Hp}{Q:VK} (hn:xs.length<=sizeLine) (hl:xs.length<=ys.length) (Pv:Nat->List V->Hp->Prop) (h0:Pv 0 [] H) (hlen:∀i zs H,Pv i zs H->zs.length<=i) (hS:∀i zs H,Pv i zs H->Zo K H a xs/\Zo K H b ys)
  (hs:∀i x y p zs H,xs[i]? = some x->ys[i]? = some y->Pv i zs H->H p=none->g (.ref p) σ (upd H p (.tup [x,y])) fun σ2 H2=>tc σ2 H2 fun b H3=>if b=true then te σ2 H3 fun y H4=>Pv (i+1) (zs ++ [y]) H4 else Pv (i+1) zs H3)
  (hd:∀zs H,Pv xs.length zs H -> ∀D,H D=none->Q (.ref D) (upd H D (.lst zs))):LcW (Itz K a b) σ g tc te H Q:=
 ZeO hn Pv h0 hlen (fun i zs H hi p=>⟨xs,ys,xs[i],ys[i]'(by lia),(hS i zs H p).1,(hS i zs H p).2,by simp [hi],by simp [show i<ys.length by lia]⟩) (fun zs H p=>⟨xs,ys,(hS _ zs H p).1,(hS _ zs H p).2,.inl (Nat.le_refl _)⟩) (fun i zs H hi p x H' y=>by
  obtain ⟨q,u,v,e1,e2,e3,y1,y2⟩:=y
  subst e1 e3
  exact hs i u v q zs _ (y1 xs (hS i zs _ p).1) (y2 ys (hS i zs _ p).2) p e2) hd
end
end L2
namespace L2
open PySem PySem.Spec PyProof.Rows PyProof.V
section
variable {X:Cx}
end
section
variable {X:Cx}
end
end L2
namespace L2
open PySem PySem.Spec PyProof.Rows PyProof.V
section
variable {prog:Program}{w:World}{A:Around}{E:Value->Shared->Prop}{s:Shared}
end
section
variable {X:Cx}
end
inductive Sim (H:Hp):V->Prop
 | non:Sim H .non
 | bl (b:Bool):Sim H (.bl b)
 | int (i:Int):Sim H (.int i)
 | str (x:Str):Sim H (.str x)
 | lst {a:Addr}{xs:List V} (e:H a=some (.lst xs)):Sim H (.ref a)
 | tup {a:Addr}{xs:List V} (e:H a=some (.tup xs)):Sim H (.ref a)
def isStr:V->Bool
 | .str _=>true
 | _=>false
def isIn:V->Bool
 | .int _=>true
 | _=>false
inductive Zfg (H:Hp):V->Option (Str×Int)->Prop
 | yes {a:Addr}{x:Str}{k:Int} (e:H a=some (.tup [.str x,.int k])):Zfg H (.ref a) (some (x,k))
 | non:Zfg H .non none
 | bl (b:Bool):Zfg H (.bl b) none
 | int (i:Int):Zfg H (.int i) none
 | str (x:Str):Zfg H (.str x) none
 | lst {a:Addr}{xs:List V} (e:H a=some (.lst xs)):Zfg H (.ref a) none
 | len {a:Addr}{xs:List V} (e:H a=some (.tup xs)) (n:xs.length≠2):Zfg H (.ref a) none
 | fst {a:Addr}{u w:V} (e:H a=some (.tup [u,w])) (s:Sim H u) (n:isStr u=false):Zfg H (.ref a) none
 | snd {a:Addr}{x:Str}{w:V} (e:H a=some (.tup [.str x,w])) (s:Sim H w) (n:isIn w=false):Zfg H (.ref a) none
section
variable {env:Env}{r:List Expr}
end
section
variable {X:Cx}{e a b:Expr}{es:List Expr}{te ta tb:TE}{t:TA}{pos:Pos}{st:Stmt}{rest:List Stmt}{ts us:TS}
structure PEc (X:Cx) (e:Expr) (t:TE):Prop where
 out:PE X e t
structure PAc (X:Cx) (es:List Expr) (t:TA):Prop where
 out:PA X es t
structure PSc (X:Cx) (st:Stmt) (t:TS):Prop where
 out:PS X st t
structure ZqK (X:Cx) (st:List Stmt) (t:TS):Prop where
 out:PSs X st t
end
inductive Lit
 | non | bl (b:Bool) | int (i:Int) | str (x:Str) | tup (l:List Lit) | lst (l:List Lit)
mutual
inductive Zgg (H:Hp):V->Lit->Prop
 | non:Zgg H .non .non
 | bl (b:Bool):Zgg H (.bl b) (.bl b)
 | int (i:Int):Zgg H (.int i) (.int i)
 | str (x:Str):Zgg H (.str x) (.str x)
 | tup {a:Addr}{xs:List V}{l:List Lit} (e:H a=some (.tup xs)) (r:Zen H xs l):Zgg H (.ref a) (.tup l)
 | lst {a:Addr}{xs:List V}{l:List Lit} (e:H a=some (.lst xs)) (r:Zen H xs l):Zgg H (.ref a) (.lst l)
inductive Zen (H:Hp):List V->List Lit->Prop
 | nil:Zen H [] []
 | cons {v:V}{vs:List V}{l:Lit}{ls:List Lit} (a:Zgg H v l) (r:Zen H vs ls):Zen H (v::vs) (l::ls)
end
section
variable {X:Cx}{G:St->Hp->Prop}{e a b:Expr}{es:List Expr}{pos:Pos}{l:Lit}{ls la lb:List Lit}
def tL (G:St->Hp->Prop) (l:Lit):TE:=fun σ H Q=>G σ H /\ ∀v H',Ze H H'->Zgg H' v l->Q v H'
def tLs (G:St->Hp->Prop) (l:List Lit):TA:=fun σ H Q=>G σ H /\ ∀v H',Ze H H'->Zen H' v l->Q v H'
structure PL (X:Cx) (G:St->Hp->Prop) (e:Expr) (l:Lit):Prop where
 out:PE X e (tL G l)
structure PLs (X:Cx) (G:St->Hp->Prop) (es:List Expr) (l:List Lit):Prop where
 out:PA X es (tLs G l)
end
section
variable {X:Cx}{G:St->Hp->Prop}{es:List Expr}{pos:Pos}{ls:List Lit}
end
section
variable {X:Cx}{st:Stmt}{rest:List Stmt}{t u:TS}
end
def Exc (h:Heap) (a T:Addr) (C:Value):Prop:=
 ∃oe vs oT ts,h.get? a=some oe/\oe.cls=C/\oe.data = .fields vs/\vs[1]? = some (.ref T)/\h.get? T=some oT/\oT.data = .fields ts/\ts[3]? = some .none/\T≠a
theorem Exc.ne_dict {h:Heap}{a T b:Addr}{C:Value}{o:Obj} (x:Exc h a T C) (e:h.get? b=some o) (d:∀vs,o.data ≠ .fields vs):b≠a/\b≠T:=by
 obtain ⟨oe,vs,oT,ts,p1,_,p3,_,p5,p6,_,_⟩:=x
 refine ⟨fun z=>?_,fun z=>?_⟩
 ·rw [z,p1] at e;cases e;exact d _ p3
 ·rw [z,p5] at e;cases e;exact d _ p6
theorem ZgZ (l:List Env):∀env∈l,∀b,env.frame=some b->b∈We l:=fun env he b hb=>List.mem_filterMap.mpr ⟨env,he,hb⟩
section
variable {M:Model}{A:Around}{E:Value->Shared->Prop}{s:Shared}{env:Env}{outer:List Env}{L a T:Addr}{C:Value}{base h:Heap}{Q:Unit->Shared->Prop}
theorem Zhm {args:List Value} (hfr:A.frames=some (env::outer)) (hf:env.frame=some L) (hl:h.FunFrames base (env::outer)) (hx:Heap.MadeExcOf h s.heap a C args)
  (hQ:∀h' T,(∀b o,h.get? b=some o->b∉We (env::outer)->h'.get? b=some o)->(∀b o,h.get? b=some o->b∈We (env::outer) -> ∃sl,h'.get? b=some { o with slots:=sl }) ->
   Exc h' a T C->h.get? a=none->h.get? T=none->Q () { s with heap:=h' }):wpAny M A (leaving env (.ref a)) Q E s:=by
 have hin:=ZgZ (env::outer)
 refine wpAny_leaves_madeW (base:=PySem.W.hideAll h (We (env::outer))) hfr hf (fun b o q=>PySem.W.of_hideAll _ q) (PySem.W.funFrames_hide hl hin) hx fun h' t fl _ _ up=>?_
 obtain ⟨st,ea,ff,oe,vs,T,oT,ts,p1,⟨p2,_⟩,p3,p4,p5,p6,p7,p8,p9⟩:=fl
 have slot:∀b o,h.get? b=some o->b∈We (env::outer) -> ∃sl,h'.get? b=some { o with slots:=sl }:=fun b o e hb=>by
  obtain ⟨_,o',e',d⟩:=hl.mem hb
  rw [e] at e'
  cases e'
  exact up b o (hx.keeps b o e) d
 refine hQ h' T (fun b o e n=>st b o (PySem.W.hideAll_get _ e n)) slot ⟨oe,vs,oT,ts,p1,p2,p3,p4,p7,p8,p9,p6⟩ hx.new ?_
 cases q:h.get? T with
 | none=>rfl
 | some o=>
  exfalso
  by_cases hb:T∈We (env::outer)
  ·obtain ⟨_,o',e',d⟩:=hl.mem hb
   obtain ⟨sl,z⟩:=slot T o' e' hb
   rw [z] at p7
   cases p7
   exact d _ p8
  ·rw [PySem.W.hideAll_get _ q hb] at p5
   cases p5
theorem Zli (hfr:A.frames=some (env::outer)) (hf:env.frame=some L) (hl:s.heap.FunFrames base (env::outer)) (hx:Exc s.heap a T C)
  (hQ:∀h' T',(∀b o,s.heap.get? b=some o->b∉We (env::outer)->b≠a->b≠T->h'.get? b=some o)->(∀b o,s.heap.get? b=some o->b∈We (env::outer) -> ∃sl,h'.get? b=some { o with slots:=sl }) ->
   Exc h' a T' C->(T'=T∨s.heap.get? T'=none)->Q () { s with heap:=h' }):wpAny M A (leaving env (.ref a)) Q E s:=by
 have hin:∀e∈env::outer,∀b,e.frame=some b->b∈a::T::We (env::outer):=fun e he b hb=>List.mem_cons_of_mem _ (List.mem_cons_of_mem _ (ZgZ _ e he b hb))
 obtain ⟨oe,vs,oT,ts,p1,p2,p3,p4,p5,p6,p7,p8⟩:=id hx
 have hsz:0<vs.size:=Nat.lt_of_le_of_lt (Nat.zero_le _) (Array.getElem?_eq_some_iff.mp p4).1
 have none_a:(PySem.W.hideAll s.heap (a::T::We (env::outer))).get? a=none:=PySem.W.hideAll_none _ (List.mem_cons_self)
 have none_T:(PySem.W.hideAll s.heap (a::T::We (env::outer))).get? T=none:=PySem.W.hideAll_none _ (List.mem_cons_of_mem _ List.mem_cons_self)
 refine wpAny_leaves_onW (base:=PySem.W.hideAll s.heap (a::T::We (env::outer))) (a0:=vs[0]) hfr hf
  ⟨fun b o q=>PySem.W.of_hideAll _ q,none_a,PySem.W.funFrames_hide hl hin,oe,vs,T,oT,ts,p1,⟨p2,Array.getElem?_eq_getElem hsz⟩,p3,p4,none_T,p8,p5,p6,p7⟩ fun h' fl up=>?_
 obtain ⟨st,ea,ff,oe',vs',T',oT',ts',q1,⟨q2,_⟩,q3,q4,q5,q6,q7,q8,q9⟩:=fl
 have slot:∀b o,s.heap.get? b=some o->b∈We (env::outer) -> ∃sl,h'.get? b=some { o with slots:=sl }:=fun b o e hb=>by
  obtain ⟨_,o',e',d⟩:=hl.mem hb
  rw [e] at e'
  cases e'
  exact up b o e d
 refine hQ h' T' (fun b o e n na nT=>st b o (PySem.W.hideAll_get _ e fun z=>?_)) slot ⟨oe',vs',oT',ts',q1,q2,q3,q4,q7,q8,q9,q6⟩ ?_
 ·rcases List.mem_cons.mp z with z | z
  ·exact na z
  ·rcases List.mem_cons.mp z with z | z
   ·exact nT z
   ·exact n z
 ·by_cases z:T'=T
  ·exact .inl z
  ·right
   cases q:s.heap.get? T' with
   | none=>rfl
   | some o=>
    exfalso
    by_cases hb:T'∈We (env::outer)
    ·obtain ⟨_,o',e',d⟩:=hl.mem hb
     obtain ⟨sl,w⟩:=slot T' o' e' hb
     rw [w] at q7
     cases q7
     exact d _ q8
    ·rw [PySem.W.hideAll_get _ q fun y=>?_] at q5
     ·cases q5
     ·rcases List.mem_cons.mp y with y | y
      ·exact q6 y
      ·rcases List.mem_cons.mp y with y | y
       ·exact z y
       ·exact hb y
end
def CX1 (P:Program) (w:World):CXT:=fun outer H s E e s'=>∃(a T C:Addr) (H':Hp),e = .ref a/\s'.os=s.os/\AllBare s'.gens/\Un (We outer) [] H H' s.heap s'.heap/\GL P w H' s'.heap /\
 Exc s'.heap a T (.ref C)/\s.heap.get? a=none/\s.heap.get? T=none/\H' a=none/\H' T=none/\E (.ref C) none H'
section
variable {P:Program}{w:World}{K:PySem.W.Frag}{mg:Str->Option Value}{base:Heap}{N:List Str}{qual:Str}{scope:Scope}{f:Addr}{cd:Value}{A:Around}{outer:List Env}{s₀ s:Shared}{H₀ H:Hp}{E:XK}{CX:CXT}{pins:List (Addr×Obj)} {σ:L2.St}
theorem ZdV {h:Heap}{b:Addr}{o:HO} (ok:GL P w H h) (e:H b=some o):∃ob,h.get? b=some ob:=(ok b o e).there
theorem Jc {h:Heap}{b:Addr} (ok:GL P w H h) (e:h.get? b=none):H b=none:=by
 cases q:H b with
 | none=>rfl
 | some o=>
  obtain ⟨ob,z⟩:=ZdV ok q
  rw [e] at z
  cases z
theorem Zej {a T:Addr}{h':Heap} (I:Inv (Ws CX P w K mg base N qual scope f cd A outer s₀ H₀ E) pins σ H s)
  (na:H a=none/\s₀.heap.get? a=none) (nT:H T=none/\s₀.heap.get? T=none)
  (keep:∀b o,s.heap.get? b=some o->b∉We (Ws CX P w K mg base N qual scope f cd A outer s₀ H₀ E).stack->b≠a->b≠T->h'.get? b=some o)
  (slot:∀b o,s.heap.get? b=some o->b∈We (Ws CX P w K mg base N qual scope f cd A outer s₀ H₀ E).stack -> ∃sl,h'.get? b=some { o with slots:=sl }):
  Un (We outer) [] H₀ H s₀.heap h'/\GL P w H h':=by
 have B:Un (We outer) [] H₀ H s₀.heap s.heap:=I.base
 have neL:∀b o,s₀.heap.get? b=some o->b∉We outer->b∉We (Ws CX P w K mg base N qual scope f cd A outer s₀ H₀ E).stack:=fun b o e nb hb=>by
  rcases List.mem_cons.mp (I.stkSub b hb) with z | z
  ·exact absurd (Nat.lt_of_lt_of_le (Heap.lt_size e) I.ok.above) (by rw [z];exact Nat.lt_irrefl _)
  ·exact nb z
 have nea:∀b o,s₀.heap.get? b=some o->b≠a/\b≠T:=fun b o e=>⟨(fun z=>by rw [z,na.2] at e;cases e),(fun z=>by rw [z,nT.2] at e;cases e)⟩
 have any:∀b o,s.heap.get? b=some o->b≠a->b≠T -> ∃o',h'.get? b=some o':=fun b o e z1 z2=>by
  by_cases hb:b∈We (Ws CX P w K mg base N qual scope f cd A outer s₀ H₀ E).stack
  ·obtain ⟨sl,q⟩:=slot b o e hb
   exact ⟨_,q⟩
  ·exact ⟨o,keep b o e hb z1 z2⟩
 refine ⟨⟨fun b o e n hb hx=>keep b o (B.keep b o e n hb hx) (neL b o e hb) (nea b o e).1 (nea b o e).2,fun b o e n hb hx=>?_,B.free,fun b o e hx=>?_,B.tups,B.frzs,B.tbls⟩,fun b u e=>?_⟩
 ·obtain ⟨sl,q⟩:=B.slot b o e n hb hx
  obtain ⟨sl',q'⟩:=slot b _ q (by
   show b∈We (envOfC qual scope s₀.heap.objs.size f cd::outer)
   unfold We
   rw [List.filterMap_cons]
   exact List.mem_cons_of_mem _ hb)
  exact ⟨sl',q'⟩
 ·obtain ⟨o',q⟩:=B.there b o e hx
  exact any b o' q (nea b o e).1 (nea b o e).2
 ·refine (I.hok b u e).stay (fun c v hc q=>?_) (fun _ q=>q) fun _ _ q=>q
  have hH:H c≠none:=by
   rcases hc with rfl | z
   ·rw [e];exact fun z=>nomatch z
   ·rw [z];exact fun z=>nomatch z
  exact keep c v q (fun z=>hH (I.stkFree c z)) (fun z=>hH (by rw [z];exact na.1)) (fun z=>hH (by rw [z];exact nT.1))
theorem JA {b:Addr} (I:Inv (Ws CX P w K mg base N qual scope f cd A outer s₀ H₀ E) pins σ H s) (e:s.heap.get? b=none):s₀.heap.get? b=none:=by
 cases q:s₀.heap.get? b with
 | none=>rfl
 | some o=>
  obtain ⟨o',z⟩:=I.base.there b o q (fun y=>nomatch y)
  rw [e] at z
  cases z
theorem ZlC {a C:Addr}{args:List Value}{h':Heap}{tk:Nat} (I:Inv (Ws (CX1 P w) P w K mg base N qual scope f cd A outer s₀ H₀ E) pins σ H s) (hx:Heap.MadeExcOf s.heap h' a (.ref C) args) (hE:E (.ref C) none H):
  (Ws (CX1 P w) P w K mg base N qual scope f cd A outer s₀ H₀ E).xe (.ref a) { s with heap:=h',toks:=tk }:=by
 refine Zhm (L:=s₀.heap.objs.size) I.ok.frames rfl I.stack (s:={ s with heap:=h',toks:=tk }) hx fun h2 T keep slot ex na nT=>?_
 obtain ⟨u,ok⟩:=Zej I ⟨Jc I.hok na,JA I na⟩ ⟨Jc I.hok nT,JA I nT⟩ (fun b o e n _ _=>keep b o e n) slot
 exact ⟨a,T,C,H,rfl,I.os,I.bare,u,ok,ex,JA I na,JA I nT,Jc I.hok na,Jc I.hok nT,hE⟩
theorem ZhS:Passes (CX1 P w) (Ws (CX1 P w) P w K mg base N qual scope f cd A outer s₀ H₀ E) E:=by
 intro pins σ H s e s' I c
 obtain ⟨a,T,C,H',rfl,os,bare,un,ok,ex,na,nT,ha,hT,hE⟩:=c
 have I':Inv (Ws (CX1 P w) P w K mg base N qual scope f cd A outer s₀ H₀ E) pins σ H' s':=I.call' os un ok bare (fun b z=>nomatch z)
 refine Zli (L:=s₀.heap.objs.size) I'.ok.frames rfl I'.stack ex fun h2 T' keep slot ex' oT=>?_
 obtain ⟨u,ok'⟩:=Zej I' ⟨ha,JA I na⟩ ⟨hT,JA I nT⟩ keep slot
 refine ⟨a,T',C,H',rfl,I'.os,I'.bare,u,ok',ex',JA I na,?_,ha,?_,hE⟩
 ·rcases oT with z | z
  ·rw [z];exact JA I nT
  ·exact JA I' z
 ·rcases oT with z | z
  ·rw [z];exact hT
  ·exact Jc I'.hok z
end
theorem ZkM {K:PySem.W.Frag}{C:Addr}{bmB:List Value}{newId:String}{h:Heap} (KI:K.In h) (hq:PySem.W.excIn K C bmB newId=true):
  ∃bm N nm qn bs hd sn sub ab col dd k0 k1 k2 k3 k5 mN,h.get? C=some (excClassObj nm qn C N bs bm hd sn sub ab col dd k0 k1 k2 k3 k5 newId)/\h.Ns N mN/\mN "__init__" = none/\OwnTail h bmB bm:=by
 unfold PySem.W.excIn at hq
 split at hq
 ·rename_i dd dat slots hob
  split at hq
  ·rename_i C2 tail k0 k1 k2 k3 nid k5 hmro hsl
   simp only [Bool.and_eq_true,Bool.not_eq_true',beq_iff_eq] at hq
   obtain ⟨⟨⟨⟨⟨e1,e2⟩,e3⟩,e4⟩,e5⟩,e6⟩:=hq
   subst e1
   subst e2
   obtain ⟨nm,bs,mro,ns,qn,hd,sn,sub,ab,col,del⟩:=dat
   simp only at hmro e3 e5 e6
   subst hmro
   subst e3
   obtain ⟨sl⟩:=slots
   simp only at hsl
   subst hsl
   exact ⟨tail,ns,nm,qn,bs,hd,sn,sub,ab,col,dd,k0,k1,k2,k3,k5,_,KI _ _ hob,.of_isNs (PySem.W.isNs_of_in KI e5),PySem.W.nsMap_none_of_in KI e5 e6,PySem.W.tail_of_in KI e4⟩
  ·exact nomatch hq
 ·exact nomatch hq
def bmV:List Value:=[.type "ValueError", .type "Exception", .type "BaseException", .type "object"]
def ZnL (C:Addr) (E:XK) (ta:TA):TS:=fun _ σ H=>ta σ H fun vs H1=>vs.length<=sizeLine/\E (.ref C) none H1
section
variable {P:Program}{w:World}{K:PySem.W.Frag}{mg:Str->Option Value}{base:Heap}{N:List Str}{qual:Str}{scope:Scope}{f:Addr}{cd:Value}{A:Around}{outer:List Env}{s₀:Shared}{H₀:Hp}{E:XK}
theorem ZfL {x:Str}{C:Addr}{e:Expr}{es:List Expr}{ta:TA}{np cpos pos:Pos} (hg:Gl (Ws (CX1 P w) P w K mg base N qual scope f cd A outer s₀ H₀ E) x) (hm:mg x=some (.ref C)) (hc:PySem.W.excIn K C bmV "ValueError.__new__" = true)
  (ha:PA (Ws (CX1 P w) P w K mg base N qual scope f cd A outer s₀ H₀ E) (e::es) ta)
  (he:starEach (e::es) (Ws (CX1 P w) P w K mg base N qual scope f cd A outer s₀ H₀ E).env=(false,eval e (Ws (CX1 P w) P w K mg base N qual scope f cd A outer s₀ H₀ E).env)::starEach es (Ws (CX1 P w) P w K mg base N qual scope f cd A outer s₀ H₀ E).env:=by rfl)
  (hp:(backTo cpos (starEach es (Ws (CX1 P w) P w K mg base N qual scope f cd A outer s₀ H₀ E).env)).any (·.1)=false:=by rfl) (hd:(x==("__debug__" : Str))=false:=by decide):
  PS (Ws (CX1 P w) P w K mg base N qual scope f cd A outer s₀ H₀ E) (.Raise (some (.Call (.Name x np) (e::es) [] cpos)) none pos) (ZnL C E ta):=by
 intro pins s σ H D I h
 obtain ⟨bm,NN,nm,qn,bs,hdc,sn,sub,ab,col,dd,k0,k1,k2,k3,k5,mN,hC,hN,hni,T⟩:=ZkM I.mod.kin hc
 have hb:bmV.contains (.type "BaseException")=true:=PySem.F.excBase_ValueError.hasBase
 refine wpAny_Raise_call_subT (C:=C) (nm:=nm) (q:=qn) (N:=NN) (bs:=bs) (bm:=bm) (bmB:=bmV) (hdct:=hdc) (sn:=sn) (sub:=sub) (ab:=ab) (col:=col) (dd:=dd) (k0:=k0) (k1:=k1) (k2:=k2) (k3:=k3) (k5:=k5)
  (newId := "ValueError.__new__") PySem.F.excBase_ValueError (mN:=mN) (T.hasType hb) (I.ok.hd rfl) (by rw [he];show (false||(backTo cpos (starEach es _)).any (·.1))=false;rw [hp];rfl) hni (Zam I hg hm ⟨rfl,?_⟩ hd)
 have hz:=ha cpos pins s σ H _ I h
 rw [he] at hz ⊢
 refine Calls.evalArgs_plain (wpAny_mono hz (fun us s2 ⟨vs,H2,I2,rv,hl,hE⟩=>?_) fun _ _ y=>y)
 refine ⟨rfl,by rw [<- rv.length];exact hl,I2.bk _ _ hC,hN.keeps I2.bk,T.keeps I2.bk,fun h' a mk=>?_⟩
 exact ZlC (tk:=s2.toks) I2 mk hE
end
structure Zqx (M:Model) (h:Heap) (C:Addr):Prop where
 ga:PySem.W.Looks M h (typeLookup (.ref C) "__getattribute__") (some (.builtin "BaseException.__getattribute__"))
 ca:PySem.W.Looks M h (typeLookup (.ref C) "__class__") (some (.builtin "object.__class__"))
 ob:PySem.W.Looks M h (isSubtype (.ref C) (.type "object")) true
 be:PySem.W.Looks M h (isSubtype (.ref C) (.type "BaseException")) true
 gn:PySem.W.Looks M h (typeLookup (.ref C) "__getattr__") none
section
variable {prog:Program}{w:World}{A:Around}{E:Value->Shared->Prop}{h:Heap}{g:Array GenState}{d:Drawn}{t:Nat}{os:OsState}{a C:Addr}{o:Obj}
end
section
variable {M:Model}{A:Around}{E:Value->Shared->Prop}{h:Heap}{g:Array GenState}{d:Drawn}{t:Nat}{os:OsState}
variable {nm q nmD qD:Str}{C N D ND:Addr}{bs bm bsD bmD:List Value}{hdct hdD:Bool}{sn snD:List Str}{sub subD:List Value}{ab abD:Bool}{col colD:Option Bool}{dd ddD:Option Addr}{k0 k1 k2 k3 k5 j0 j1 j2 j3 j5:Option Value}{newId newD:String}
theorem Zjy {e:Addr}{oe:Obj}{Q:Bool->Shared->Prop} (hD:h.get? D=some (excClassObj nmD qD D ND bsD bmD hdD snD subD abD colD ddD j0 j1 j2 j3 j5 newD)) (he:h.get? e=some oe) (hcls:oe.cls = .ref C)
  (hbD:bmD.contains (.type "BaseException")=true) (hsub:PySem.W.Looks M h (isSubtype (.ref C) (.ref D)) true) (hq:Q true ⟨h,g,d,t,os⟩):wpAny M A (excMatches (.ref e) (.ref D)) Q E ⟨h,g,d,t,os⟩:=by
 have hcB:(Value.ref D::bmD).contains (.type "BaseException")=true:=by rw [List.contains_cons,hbD,Bool.or_true]
 have f:=tc_notTuple
 unfold excMatches
 repeat (first | (with_reducible refine wpAny_loadPart_at he ?_;rw [hcls]) | with_reducible refine wpAny_loadPart_at hD ?_ | (with_reducible refine wpAny_isSubtype_exc hD ?_;rw [hcB]) | with_reducible refine hsub.at ?_ | wp_step)
 exact hq
end
abbrev Cx.nailed (X:Cx) (pins:List (Addr×Obj)):Cx:={ X with pn:=X.pn++pins }
theorem Cx.Ok.nailed {X:Cx} (ok:X.Ok) (pins:List (Addr×Obj)):(X.nailed pins).Ok:=
 ⟨ok.mod,ok.kind,ok.glob,ok.blt,ok.above,ok.inj,ok.has,ok.cab,ok.hd,ok.frames,ok.stk,ok.exf,ok.bs,ok.bsz,ok.noex,ok.exfs,ok.funs,ok.frf⟩
theorem Cx.Ok.unnailed {X:Cx}{pins:List (Addr×Obj)} (ok:(X.nailed pins).Ok):X.Ok:=
 ⟨ok.mod,ok.kind,ok.glob,ok.blt,ok.above,ok.inj,ok.has,ok.cab,ok.hd,ok.frames,ok.stk,ok.exf,ok.bs,ok.bsz,ok.noex,ok.exfs,ok.funs,ok.frf⟩
section
variable {X:Cx}{pins ps:List (Addr×Obj)} {σ:L2.St}{H:Hp}{s:Shared}
theorem Inv.nail (I:Inv X pins σ H s):Inv (X.nailed pins) [] σ H s:=⟨I.ok.nailed pins,I.os,I.bare,I.base,I.loc,I.cell,I.free,I.freeC,fun p hp=>I.pin p (by simpa using hp),I.hok,I.len⟩
theorem Inv.unnail (I:Inv (X.nailed pins) ps σ H s):Inv X pins σ H s:=⟨I.ok.unnailed,I.os,I.bare,I.base,I.loc,I.cell,I.free,I.freeC,fun p hp=>I.pin p (List.mem_append_left _ hp),I.hok,I.len⟩
theorem Inv.left {a T:Addr}{h':Heap} (I:Inv X pins σ H s) (hex:X.ex = []) (na:H a=none/\X.s₀.heap.get? a=none) (nT:H T=none/\X.s₀.heap.get? T=none)
  (np:∀p∈X.pn++pins,p.1≠a/\p.1≠T) (xc:∃C,Exc s.heap a T C)
  (keep:∀b o,s.heap.get? b=some o->b∉We X.stack->b≠a->b≠T->h'.get? b=some o) (slot:∀b o,s.heap.get? b=some o->b∈We X.stack -> ∃sl,h'.get? b=some { o with slots:=sl }):
  Inv X pins σ H { s with heap:=h' }:=by
 obtain ⟨C0,xc⟩:=xc
 have up:∀b o,s.heap.get? b=some o->b≠a->b≠T -> ∃sl,h'.get? b=some { o with slots:=sl }:=fun b o e z1 z2=>by
  by_cases hb:b∈We X.stack
  ·exact slot b o e hb
  ·exact ⟨o.slots,keep b o e hb z1 z2⟩
 have neL:∀b o,X.s₀.heap.get? b=some o->b∉X.fs->b∉We X.stack:=fun b o e nb hb=>by
  rcases List.mem_cons.mp (I.stkSub b hb) with z | z
  ·exact absurd (Nat.lt_of_lt_of_le (Heap.lt_size e) I.ok.above) (by rw [z];exact Nat.lt_irrefl _)
  ·exact nb z
 have nea:∀b o,X.s₀.heap.get? b=some o->b≠a/\b≠T:=fun b o e=>⟨(fun z=>by rw [z,na.2] at e;cases e),(fun z=>by rw [z,nT.2] at e;cases e)⟩
 have cellK:∀c v,s.heap.IsCell c v->h'.IsCell c v:=fun c v ⟨o,e,dt⟩=>by
  have n:=xc.ne_dict e (fun vs z=>by rw [dt] at z;cases z)
  obtain ⟨sl,e'⟩:=up c o e n.1 n.2
  exact ⟨_,e',dt⟩
 refine ⟨I.ok,I.os,I.bare,⟨fun b o e n hb hx=>?_,fun b o e n hb hx=>?_,I.base.free,fun b o e hx=>?_,I.base.tups,I.base.frzs,I.base.tbls⟩,?_,fun x c e=>?_,I.free,I.freeC,fun p hp=>?_,fun b u e=>?_,I.len⟩
 ·exact keep b o (I.base.keep b o e n hb hx) (neL b o e hb) (nea b o e).1 (nea b o e).2
 ·obtain ⟨sl,e1⟩:=I.base.slot b o e n hb hx
  obtain ⟨sl',e2⟩:=up b _ e1 (nea b o e).1 (nea b o e).2
  exact ⟨sl',e2⟩
 ·obtain ⟨o',e1⟩:=I.base.there b o e hx
  obtain ⟨sl,e2⟩:=up b o' e1 (nea b o e).1 (nea b o e).2
  exact ⟨_,e2⟩
 ·obtain ⟨m,⟨o,es,ep,ho,hd,r⟩,hl⟩:=I.loc
  have n:=xc.ne_dict ho (fun vs z=>by rw [hd] at z;cases z)
  obtain ⟨sl,e'⟩:=up _ o ho n.1 n.2
  refine ⟨m,⟨_,es,ep,e',hd,r⟩,fun i x v e1 e2 e3=>?_⟩
  obtain ⟨u,rv,l⟩:=hl i x v e1 e2 e3
  refine ⟨u,rv,?_⟩
  rcases l with l | ⟨k,c,e,z⟩
  ·exact .inl l
  ·exact .inr ⟨k,c,e,cellK c _ z⟩
 ·obtain ⟨v,z⟩:=I.cell x c e
  exact ⟨v,cellK c v z⟩
 ·obtain ⟨e,n,ne,nf,dd⟩:=I.pin p hp
  have nst:p.1∉We X.stack:=fun hb=>by
   rcases List.mem_cons.mp (I.stkSub _ hb) with z | z
   ·exact ne z
   ·exact nf z
  exact ⟨keep p.1 p.2 e nst (np p hp).1 (np p hp).2,n,ne,nf,dd⟩
 ·refine (I.hok b u e).stay (fun c v hc q=>?_) (fun _ q=>q) fun _ _ q=>q
  have hH:H c≠none:=by
   rcases hc with rfl | z
   ·rw [e];exact fun z=>nomatch z
   ·rw [z];exact fun z=>nomatch z
  exact keep c v q (fun z=>hH (I.stkFree c z)) (fun z=>hH (by rw [z];exact na.1)) (fun z=>hH (by rw [z];exact nT.1))
theorem looked {M:Model}{E:Value->Shared->Prop}{a T:Addr}{C:Value}{env:Env}{outer:List Env}{L:Addr}{base:Heap}{A:Around}{Q:Unit->Shared->Prop} (hfr:A.frames=some (env::outer)) (hf:env.frame=some L) (hl:s.heap.FunFrames base (env::outer)) (hx:Exc s.heap a T C)
  (hQ:∀h' T',(∀b o,s.heap.get? b=some o->b∉We (env::outer)->b≠a->b≠T->h'.get? b=some o)->(∀b o,s.heap.get? b=some o->b∈We (env::outer) -> ∃sl,h'.get? b=some { o with slots:=sl }) ->
   Exc h' a T' C->(T'=T∨s.heap.get? T'=none)->Q () { s with heap:=h' }):wpAny M A (noteFrame (.ref a) env) (fun _ s₂=>wpAny M A (setFlight (.ref a) none) Q E s₂) E s:=by
 have hin:∀e∈env::outer,∀b,e.frame=some b->b∈a::T::We (env::outer):=fun e he b hb=>List.mem_cons_of_mem _ (List.mem_cons_of_mem _ (ZgZ _ e he b hb))
 obtain ⟨oe,vs,oT,ts,p1,p2,p3,p4,p5,p6,p7,p8⟩:=id hx
 have hsz:0<vs.size:=Nat.lt_of_le_of_lt (Nat.zero_le _) (Array.getElem?_eq_some_iff.mp p4).1
 have none_a:(PySem.W.hideAll s.heap (a::T::We (env::outer))).get? a=none:=PySem.W.hideAll_none _ (List.mem_cons_self)
 have none_T:(PySem.W.hideAll s.heap (a::T::We (env::outer))).get? T=none:=PySem.W.hideAll_none _ (List.mem_cons_of_mem _ List.mem_cons_self)
 refine wpAny_looks_onW (base:=PySem.W.hideAll s.heap (a::T::We (env::outer))) (a0:=vs[0]) hfr hf
  ⟨fun b o q=>PySem.W.of_hideAll _ q,none_a,PySem.W.funFrames_hide hl hin,oe,vs,T,oT,ts,p1,⟨p2,Array.getElem?_eq_getElem hsz⟩,p3,p4,none_T,p8,p5,p6,p7⟩ fun h1 held up1=>?_
 refine wpAny_landsW (s:={ s with heap:=h1 }) held fun h' fl up2=>?_
 have up:=up1.trans up2
 obtain ⟨st,ea,ff,oe',vs',T',oT',ts',q1,⟨q2,_⟩,q3,q4,q5,q6,q7,q8,q9⟩:=fl
 have slot:∀b o,s.heap.get? b=some o->b∈We (env::outer) -> ∃sl,h'.get? b=some { o with slots:=sl }:=fun b o e hb=>by
  obtain ⟨_,o',e',d⟩:=hl.mem hb
  rw [e] at e'
  cases e'
  exact up b o e d
 refine hQ h' T' (fun b o e n na nT=>st b o (PySem.W.hideAll_get _ e fun z=>?_)) slot ⟨oe',vs',oT',ts',q1,q2,q3,q4,q7,q8,q9,q6⟩ ?_
 ·rcases List.mem_cons.mp z with z | z
  ·exact na z
  ·rcases List.mem_cons.mp z with z | z
   ·exact nT z
   ·exact n z
 ·by_cases z:T'=T
  ·exact .inl z
  ·right
   cases q:s.heap.get? T' with
   | none=>rfl
   | some o=>
    exfalso
    by_cases hb:T'∈We (env::outer)
    ·obtain ⟨_,o',e',d⟩:=hl.mem hb
     obtain ⟨sl,w⟩:=slot T' o' e' hb
     rw [w] at q7
     cases q7
     exact d _ q8
    ·rw [PySem.W.hideAll_get _ q fun y=>?_] at q5
     ·cases q5
     ·rcases List.mem_cons.mp y with y | y
      ·exact q6 y
      ·rcases List.mem_cons.mp y with y | y
       ·exact z y
       ·exact hb y
theorem landed {M:Model}{A:Around}{E:Value->Shared->Prop}{a T:Addr}{C:Value}{Q:Unit->Shared->Prop} (hx:Exc s.heap a T C) (hQ:∀h',(∀b o,s.heap.get? b=some o->b≠a->b≠T->h'.get? b=some o)->(∃T',Exc h' a T' C/\(T'=T∨s.heap.get? T'=none))->Q () { s with heap:=h' }):
  wpAny M A (setFlight (.ref a) none) Q E s:=by
 obtain ⟨oe,vs,oT,ts,p1,p2,p3,p4,p5,p6,p7,p8⟩:=id hx
 have hsz:0<vs.size:=Nat.lt_of_le_of_lt (Nat.zero_le _) (Array.getElem?_eq_some_iff.mp p4).1
 have none_T:(PySem.W.hideAll s.heap [a,T]).get? T=none:=PySem.W.hideAll_none _ (List.mem_cons_of_mem _ List.mem_cons_self)
 refine wpAny_setFlight_noneW (base:=PySem.W.hideAll s.heap [a,T]) (l:=[]) (a0:=vs[0]) (fl:=.none) (fun b o q=>PySem.W.of_hideAll _ q) trivial ⟨oe,vs,T,oT,ts,p1,⟨p2,Array.getElem?_eq_getElem hsz⟩,p3,p4,none_T,p8,p5,p6,p7⟩ fun h' st _ tr _=>?_
 obtain ⟨oe',vs',T',oT',ts',q1,⟨q2,_⟩,q3,q4,q5,q6,q7,q8,q9⟩:=tr
 refine hQ h' (fun b o e na nT=>st b o (PySem.W.hideAll_get _ e fun z=>?_)) ⟨T',⟨oe',vs',oT',ts',q1,q2,q3,q4,q7,q8,q9,q6⟩,?_⟩
 ·rcases List.mem_cons.mp z with z | z
  ·exact na z
  ·exact nT (List.mem_singleton.mp z)
 ·by_cases z:T'=T
  ·exact .inl z
  ·right
   cases q:s.heap.get? T' with
   | none=>rfl
   | some o=>
    exfalso
    rw [PySem.W.hideAll_get _ q fun y=>?_] at q5
    ·cases q5
    ·rcases List.mem_cons.mp y with y | y
     ·exact q6 y
     ·exact z (List.mem_singleton.mp y)
end
section
variable {X:Cx}{pins:List (Addr×Obj)} {σ:L2.St}{H:Hp}{s:Shared}{R:Addr->Hp->Prop}
abbrev Cx.suite (X:Cx) (pins:List (Addr×Obj)) (a:Addr):Cx:={ X with pn:=X.pn++pins,A:=X.A.mark (some (.ref a)),calm:=false,xe:=fun _ _=>False }
theorem Cx.Ok.suite {X:Cx} (ok:X.Ok) (pins:List (Addr×Obj)) (a:Addr):(X.suite pins a).Ok:=
 ⟨ok.mod,ok.kind,ok.glob,ok.blt,ok.above,ok.inj,ok.has,ok.cab,(fun z=>nomatch z),ok.frames,ok.stk,ok.exf,ok.bs,ok.bsz,ok.noex,ok.exfs,ok.funs,ok.frf⟩
theorem Inv.suite (I:Inv (X.nailed pins) [] σ H s) (ok:X.Ok) (a:Addr):Inv (X.suite pins a) [] σ H s:=⟨ok.suite pins a,I.os,I.bare,I.base,I.loc,I.cell,I.free,I.freeC,I.pin,I.hok,I.len⟩
theorem Inv.unsuite {a:Addr}{ps:List (Addr×Obj)} (I:Inv (X.suite pins a) ps σ H s) (ok:X.Ok):Inv X pins σ H s:=⟨ok,I.os,I.bare,I.base,I.loc,I.cell,I.free,I.freeC,fun p hp=>I.pin p (List.mem_append_left _ hp),I.hok,I.len⟩
end
section
variable {P:Program}{w:World}{K:PySem.W.Frag}{mg:Str->Option Value}{base:Heap}
theorem Yd.okX {x qual:Str}{st:Stmt}{f:Addr}{fd:FuncData}{N ps:List Str}{k:Nat}{sp:Sp} (F:Yd K x qual st f fd) (S:Zp N ps (Zi st)) (len:∀vs H Q E,sp vs H Q E->vs.length=ps.length)
  (hbody:∀(cdv:Value) (A:Around) (outer:List Env) (s:Shared) (H:Hp) (vs:List V) (Q:VK) (E:XK),J6 k (A.deeper (envOfC qual (Zi st) s.heap.objs.size f cdv))->sp vs H Q E ->
   ∃t,PSs (Ws (CX1 P w) P w K mg base N qual (Zi st) f cdv A outer s H E) (Uh st) t/\t { nx:=fun _ H'=>Q .non H',rt:=Q } (start N vs) H):ZX P w K mg base (CX1 P w) (k+1) f fd ps sp:=by
 obtain ⟨oc,od,kV,doc,pm,an,cdv,ct,osl,rfl,lk,hcd⟩:=F.ex
 exact Zm0 lk hcd S len fun A outer s H vs Q E hr hsp=>hbody cdv A outer s H vs Q E hr hsp
def Zat (P:Program) (w:World) (K:PySem.W.Frag) (mg:Str->Option Value) (base:Heap) (k:Nat) (x:Str) (ps:List Str) (sp:Sp):Prop:=
 ∃(f:Addr) (fd:FuncData),ZX P w K mg base (CX1 P w) k f fd ps sp/\mg x=some (.ref f)/\PySem.W.keepIn K (.ref f)=true/\Binds K fd ps []
theorem Wv {X:Cx}{k:Nat}{x:Str}{ps:List Str}{sp:Sp}{p pos:Pos}{e:Expr}{es:List Expr}{t:TA}{E:XK} (h:Zat X.prog X.w X.K X.mg X.base k x ps sp) (hr:J6 k X.A) (hx:Passes (CX1 X.prog X.w) X E) (ha:PA X (e::es) t) (hg:Gl X x:=by rfl) (hdb:(x==("__debug__" : Str))=false:=by decide)
  (he:starEach (e::es) X.env=(false,eval e X.env)::starEach es X.env:=by rfl) (hpl:(backTo pos (starEach es X.env)).any (·.1)=false:=by rfl):PE X (.Call (.Name x p) (e::es) [] pos) (Zk0 sp [] E t):=by
 obtain ⟨f,fd,G,hm,hk,hb⟩:=h
 exact Zh8 G hr hg hm hk hb .nil hx ha hdb he hpl
structure ZoU (k:Nat) (A:Around):Prop where
 dp:A.depth+3*k+5<recursionLimit
 un:A.units+16*k+200<cLine
structure Zqw (P:Program) (w:World) (K:PySem.W.Frag) (mg:Str->Option Value) (base:Heap) (k:Nat) (f:Addr) (fd:FuncData) (ps:List Str) (sp:Sp):Prop where
 len:∀vs H Q E,sp vs H Q E->vs.length=ps.length
 run:∀(A:Around) (outer:List Env) (s:Shared) (H:Hp) (args:Args) (us:List Value) (vs:List V) (Q:VK),ZoU k A->ZjQ P w K mg base A outer s H->BindsTo s fd args (ps.zip us)->Vals vs us->sp vs H Q E0 ->
  codeAny (model P w) A (.call (.ref f) args) (CR J2 outer P w H s Q E0) s
end
structure ZqR (K:PySem.W.Frag) (C:Addr):Prop where
 ga:PySem.W.findIn K (.ref C) "__getattribute__" = some (some (.builtin "BaseException.__getattribute__"))
 gn:PySem.W.findIn K (.ref C) "__getattr__" = some none
 ca:PySem.W.findIn K (.ref C) "__class__" = some (some (.builtin "object.__class__"))
 ob:PySem.W.mroIn K C (.type "object")=some true
 be:PySem.W.mroIn K C (.type "BaseException")=some true
 cl:(PySem.W.clsIn K C).isSome=true
def ZgX:List (TE×TE)->St->Hp->(List (V×V)->Hp->Prop)->Prop
 | [],_,H,Q=>Q [] H
 | (tk,tv)::r,σ,H,Q=>tk σ H fun x H1=>tv σ H1 fun y H2=>ZgX r σ H2 fun ps H3=>Q ((x,y)::ps) H3
abbrev VV:List (V×V)->List (Value×Value)->Prop:=Paired fun p q=>RelV p.1 q.1/\RelV p.2 q.2
def PPs (X:Cx) (pos:Pos) (keys:List (Option Expr)) (values:List Expr) (trs:List (TE×TE)):Prop:=
 ∀(pins:List (Addr×Obj)) (s:Shared) (σ:St) (H:Hp) (Q:List (V×V)->Hp->Prop),Inv X pins σ H s->ZgX trs σ H Q ->
  wpAny (model X.prog X.w) X.A (evalPairs (pairTrees keys values X.env pos)) (fun vs s'=>∃ps H',Inv X pins σ H' s'/\VV ps vs/\Q ps H') X.xe s
theorem ZmB {X:Cx}{pos:Pos}:PPs X pos [] [] []:=fun pins s σ H Q I h=>pairTrees_nil_walk ⟨[],H,I,.nil,h⟩
theorem ZcT {X:Cx}{pos:Pos}{k v:Expr}{ks:List (Option Expr)}{vs:List Expr}{tk tv:TE}{trs:List (TE×TE)} (hk:PE X k tk) (hv:PE X v tv) (hr:PPs X pos ks vs trs):
  PPs X pos (some k::ks) (v::vs) ((tk,tv)::trs):=fun pins s σ H Q I h=>
 pairTrees_cons_walk (YG (hk pins s σ H _ I h) fun u s1 ⟨x,H1,I1,rx,q1⟩=>YG (hv pins s1 σ H1 _ I1 q1) fun w2 s2 ⟨y,H2,I2,ry,q2⟩=>
  YG (hr pins s2 σ H2 _ I2 q2) fun ws s3 ⟨ps,H3,I3,rel,q3⟩=>⟨(x,y)::ps,H3,I3,.cons ⟨rx,ry⟩ rel,q3⟩)
def U8 (kvs more:List (Key×V)):List (Key×V):=more.foldl (fun acc kv=>putK acc kv.1 kv.2) kvs
theorem KV.merge:∀{more:List (Key×V)}{rs:List (Key×Value)}{kvs:List (Key×V)}{vs:List (Key×Value)},KV more rs->KV kvs vs->KV (U8 kvs more) (merged vs rs):=by
 intro more rs kvs vs r
 unfold KV at r
 induction r generalizing kvs vs with
 | nil=>intro q;exact q
 | @cons p q ps qs h t ih=>
  intro r0
  have e:KV (putK kvs p.1 p.2) (stored vs q.1 q.2):=by
   have:=r0.put p.1 h.2
   rw [<- h.1];exact this
  exact ih e
theorem Zaz:∀(more kvs:List (Key×V)),(U8 kvs more).length<=kvs.length+more.length
 | [],kvs=>by show kvs.length<=kvs.length+0;lia
 | p::r,kvs=>by
  have h1:=Zaz r (putK kvs p.1 p.2)
  have h2:=UB kvs p.1 p.2
  show (U8 (putK kvs p.1 p.2) r).length<=_
  rw [List.length_cons];lia
theorem ZdJ {P:Program}{w:World}:∀{kvs:List (Key×V)}{ws:List (Value×Value)},VV (kvs.map fun kv=>(kV kv.1,kv.2)) ws -> ∃rs,Carries (Ys P w) ws rs/\KV kvs rs
 | [],_,r=>by rw [List.map_nil] at r;cases r;exact ⟨[],True.intro,.nil⟩
 | p::kvs,_,r=>by
  rw [List.map_cons] at r
  cases r with
  | @cons a b as bs h t=>
   obtain ⟨rs,c,q⟩:=ZdJ (P:=P) (w:=w) t
   obtain ⟨b1,b2⟩:=b
   exact ⟨(p.1,b2)::rs,⟨ZgF h.1,rfl,c⟩,.cons ⟨rfl,h.2⟩ q⟩
def Zo4 (trs:List (TE×TE)):TE:=fun σ H Q=>∀p,H p=none->ZgX trs σ (upd H p (.dK [])) fun ps H2=>H2 p=some (.dK []) /\ ∃kvs:List (Key×V),ps=kvs.map (fun kv=>(kV kv.1,kv.2))/\kvs.length<=15/\Q (.ref p) (upd H2 p (.dK (U8 [] kvs)))
theorem ZmA {X:Cx}{pos:Pos}{keys:List (Option Expr)}{values:List Expr}{trs:List (TE×TE)} (h:PPs X pos keys values trs) (hall:keys.all (·.isSome)=true) (hl:keys.length=values.length) (h0:keys ≠ [])
  (h15:keys.length<=15):PE X (.Dict keys values pos) (Zo4 trs):=by
 intro pins s σ H Q I q
 have hn:=I.hok.fresh (Nat.le_refl s.heap.objs.size)
 have I1:=I.laid (a:=s.heap.objs.size) (o:=.dK []) (h':=s.heap.push { cls:=.type "dict", data:=.dict #[] }) (t':=s.toks) (fun _ _ q=>Heap.get?_push_of_some _ q) (Nat.le_refl _) (Zkc s.heap I.big)
 refine wpAny_Dict_walk (knd:=Ys X.prog X.w) hall hl h0 h15 (YG (h pins _ σ _ _ I1 (q _ hn)) fun ws s2 ⟨ps,H2,I2,rel,e,kvs,ep,lk,q2⟩=>?_)
 subst ep
 obtain ⟨rs,c,rk⟩:=ZdJ (P:=X.prog) (w:=X.w) rel
 obtain ⟨z,hd,vs0,r0,dd⟩:=Zm8 I2.hok e
 cases r0
 refine ⟨rs,c,dd,fun h' dd' hs=>⟨.ref s.heap.objs.size,_,?_,rfl,q2⟩⟩
 have hz:(U8 [] kvs).length<=sizeLine:=by
  have h1:=Zaz kvs []
  rw [List.length_nil] at h1
  rw [sizeLine_eq];lia
 have he:∃q,h'.get? s.heap.objs.size=some q:=let ⟨q,_,_,hq,_⟩:=dd';⟨q,hq⟩
 exact Zcr I2 (by rw [e];exact True.intro) hs he (Zlr hz hd (rk.merge .nil) dd')
section
variable {X:Cx}{tg:Expr}
end
theorem Ziv {K:PySem.W.Frag}{a b:Addr}{xs ys:List V}{g:TG}{tb:TS}{D:Ends} {σ:L2.St}{H:Hp} (hl:xs.length=ys.length) (Pv:Nat->L2.St->Hp->Prop) (h0:Pv 0 σ H) (hS:∀i σ H,Pv i σ H->Zo K H a xs/\Zo K H b ys)
  (hs:∀i x y p σ H,xs[i]? = some x->ys[i]? = some y->Pv i σ H->H p=none->g (.ref p) σ (upd H p (.tup [x,y])) fun σ2 H2=>tb { D with nx:=Pv (i+1),ct:=Pv (i+1),bk:=D.nx } σ2 H2) (hd:∀ σ H,Pv xs.length σ H->D.nx σ H):
  ∃W:Nat->Nat->L2.St->Hp->Prop,(∃m,W 0 m σ H) /\ ∀i m σ H,W i m σ H ->
   ((Itz K a b).stop i H/\D.nx σ H)∨((Itz K a b).go i H /\ ∃N:L2.St->Hp->Prop,(∀ σ' H',N σ' H' -> ∃m',m'<m/\W (i+1) m' σ' H') /\ ∀x H',(Itz K a b).yld i H x H'->g x σ H' fun σ2 H2=>tb { D with nx:=N,ct:=N,bk:=D.nx } σ2 H2):=by
 refine ⟨fun i m σ H=>m=xs.length-i/\i<=xs.length/\Pv i σ H,⟨xs.length,by simp,Nat.zero_le _,h0⟩,?_⟩
 rintro i m σ H ⟨rfl,hi,p⟩
 obtain ⟨s1,s2⟩:=hS i σ H p
 by_cases hlt:i<xs.length
 ·refine .inr ⟨⟨xs,ys,xs[i],ys[i]'(by lia),s1,s2,by simp [hlt],by simp [show i<ys.length by lia]⟩,Pv (i+1),fun σ' H' p'=>⟨xs.length-(i+1),by lia,rfl,hlt,p'⟩,fun x H' y=>?_⟩
  obtain ⟨q,u,v,e1,e2,e3,y1,y2⟩:=y
  subst e1 e3
  exact hs i u v q σ _ (y1 xs s1) (y2 ys s2) p e2
 ·exact .inl ⟨⟨xs,ys,s1,s2,.inl (by lia)⟩,hd σ H ((show i=xs.length by lia) ▸ p)⟩
end L2
namespace L2
open PySem PySem.Spec PyProof.Rows PyProof.V
section
variable {X:Cx}
def ZoK (K:PySem.W.Frag):R2:=fun x y H Q=>∃(p q:Addr) (ns ms:List Int),x = .ref p/\y = .ref q/\Zo K H p (ns.map V.int)/\Zo K H q (ms.map V.int)/\Q (.bl (decide (ns=ms))) H
theorem ZiE {ns:List Int}{its:List Value} (r:Vals (ns.map V.int) its) {j:Nat} (h:j<its.toArray.size):∃t,its.toArray[j] = .int (ns.getD j 0) t:=by
 have l:=r.length
 rw [List.length_map] at l
 have hj:j<ns.length:=by simp only [List.size_toArray] at h;lia
 obtain ⟨u,e,ru⟩:=r.get (i:=j) (x:=V.int ns[j]) (by simp [hj])
 obtain ⟨t,q⟩:=(show ∃t,u=Value.int ns[j] t from ru)
 have hi:j<its.length:=by lia
 refine ⟨t,?_⟩
 have:its[j]? = some its[j]:=by simp [hi]
 rw [this] at e
 have e2:=Option.some.inj e
 simp [hj]
 rw [e2,q]
theorem Zn3 (hu:X.A.units+64<cLine):OpR X (compareOp .Eq) (ZoK X.K):=by
 intro pins s σ H x y v u Q I rx ry h
 obtain ⟨p,q,ns,ms,rfl,rfl,hp,hq,hQ⟩:=h
 cases rx
 cases ry
 obtain ⟨its,r1,p1,_⟩:=I.list hp
 obtain ⟨its2,r2,p2,_⟩:=I.list hq
 have l1:=r1.length
 have l2:=r2.length
 rw [List.length_map] at l1 l2
 by_cases hl:ns.length=ms.length
 ·refine SeqAt.eq_listAt (e:=fun j=>ns.getD j 0==ms.getD j 0) p1.isList p2.isList (by simp only [List.size_toArray];lia) (by lia) (fun j h1 h2=>?_) ⟨.bl (decide (ns=ms)),H,I,?_,hQ⟩
  ·obtain ⟨t1,e1⟩:=ZiE r1 h1
   obtain ⟨t2,e2⟩:=ZiE r2 h2
   rw [e1,e2]
   exact SeqAt.EqAt.int_int _ _ _ _
  ·show Value.bool _=Value.bool _
   congr 1
   rw [Bool.eq_iff_iff,List.all_eq_true,decide_eq_true_iff]
   constructor
   ·intro z
    refine List.ext_getElem hl fun i h1 h2=>?_
    have:=z i (List.mem_range.mpr (by simp only [List.size_toArray];lia))
    simpa [h1,h2] using this
   ·intro z i _
    rw [z]
    simp
 ·refine SeqAt.eq_list_lengthsAt p1.isList p2.isList (by simp only [List.size_toArray];rw [bne_iff_ne];lia) (by lia) ⟨.bl (decide (ns=ms)),H,I,?_,hQ⟩
  rw [decide_eq_false (fun z=>hl (by rw [z]))]
  rfl
theorem Zmd {K:PySem.W.Frag} (h:X.K=K) (hu:X.A.units+64<cLine):OpR X (compareOp .Eq) (ZoK K):=h ▸ Zn3 hu
end
def Znx (b:Nat->Bool):List Nat:=(bif b 0 then [0] else [])++((bif b 1 then [1] else [])++((bif b 2 then [2] else [])++(bif b 3 then [3] else [])))
def ZpW (b:Nat->Bool) (led:Bool) (f m:Nat):SetTable:={ mask:=7,place:=(Znx b).toArray,dummies:=#[],finger:=f,led:=led,moves:=m,plain:=true }
def EK:Int×Value->Nat->Prop:=fun e k=>e.1=hashInt (k:Int) /\ ∃t,e.2 = .int (k:Int) t
def SO (w:World) (a:Addr) (b:Nat->Bool) (ep:Nat) (es:Array (Int×Value)) (h:Heap):Prop:=
 ∃o led f m,h.get? a=some o/\o.ExactSet/\o.data = .set es ep (ZpW b led f m)/\(w.params.followText "set-order" = true∨led=true)/\Paired EK es.toList (Znx b)
section
variable {prog:Program}{w:World}{A:Around}{E:Value->Shared->Prop}{s:Shared}{a:Addr}{b:Nat->Bool}{ep:Nat}{es:Array (Int×Value)}
end
def Zqp (w:World) (a:Addr) (ep:Nat) (es:Array (Int×Value)):Array (Int×Value):=if w.params.followText "set-order" = true then pickOrder (w.params.setOrder a ep) es else es
section
variable {prog:Program}{w:World}{A:Around}{E:Value->Shared->Prop}{s:Shared}{a it:Addr}{b:Nat->Bool}{ep i:Nat}{es:Array (Int×Value)}
end
section
variable {prog:Program}{w:World}{A:Around}{E:Value->Shared->Prop}{s:Shared}{a it:Addr}{b:Nat->Bool}{ep i:Nat}{es:Array (Int×Value)}
structure Wlk (prog:Program) (w:World) (a:Addr) (ep:Nat) (es:Array (Int×Value)) (f:Nat->Nat) (C:Heap->Prop):Prop where
 there:∀{h},C h -> ∃o t,h.get? a=some o/\o.ExactSet/\o.data = .set es ep t/\t.fits es.size=true/\t.plain=true
 kept:∀{h h'},C h->(∀o,h.get? a=some o->h'.get? a=some o)->C h'
 first:f 0=0
 next:∀{A E s i}{Q:Option (Value×Nat)->Shared->Prop},C s.heap->i<=es.size->Q (((Zqp w a ep es)[i]?).map fun e=>(e.2,f (i+1))) s->wpAny (model prog w) A (setNext a (f i) i ep) Q E s
section
variable {f:Nat->Nat}{C:Heap->Prop} (N:Wlk prog w a ep es f C)
include N
end
end
def ZqQ (w:World) (a:Addr) (ks:List Nat):HO:=.ext fun h=>∃b ep es,Znx b=ks/\SO w a b ep es h
section
variable {X:Cx}
end
def ZlI:Bool->Keyed->Array Keyed->Nat->Nat->Nat->StateT SortSt Sem (Option Nat):=sortPriv% PySem.Builtin.gallop
def Zle:Array Keyed->Array Keyed->StateT SortSt Sem (Array Keyed):=sortPriv% PySem.Builtin.mergeLo
def ZkI:Array Keyed->Array Keyed->StateT SortSt Sem (Array Keyed):=sortPriv% PySem.Builtin.mergeHi
def Zgd:Nat->StateT SortSt Sem Bool:=sortPriv% PySem.Builtin.mergeAt
structure Wo (lt:Keyed->Keyed->Bool):Prop where
 irr:∀p,lt p p=false
 asym:∀p q,lt p q=true->lt q p=false
 neg:∀p q r,lt p r=true->lt p q=true∨lt q r=true
theorem Wo.leT {lt : Keyed -> Keyed -> Bool} (C : Wo lt) {p q r : Keyed} (h1 : lt q p = false) (h2 : lt r q = false) : lt r p = false := by
  cases h : lt r p with
  | false => rfl
  | true => rcases C.neg r q p h with z | z
            · rw [z] at h2; cases h2
            · rw [z] at h1; cases h1
theorem Wo.flip {lt:Keyed->Keyed->Bool} (C:Wo lt):Wo (fun x y=>lt y x):=⟨fun p=>C.irr p,fun p q h=>C.asym q p h,fun p q r h=>(C.neg r q p h).symm⟩
structure Cmp (prog:Program) (w:World) (A:Around) (E:Value->Shared->Prop) (s:Shared) (kd:SortKind) (D:Keyed->Prop) (lt:Keyed->Keyed->Bool):Prop where
 cmp:∀(p q:Keyed) (st:SortSt) (Q:Option Bool->SortSt->Prop),D p->D q->kindOf st=kd->Q (some (lt p q)) st->wpS (model prog w) A E s (lt' p q) Q st
 wo:Wo lt
section
variable {prog:Program}{w:World}{A:Around}{E:Value->Shared->Prop}{s:Shared}{kd:SortKind}{D:Keyed->Prop}{lt:Keyed->Keyed->Bool}
def byd (lt:Keyed->Keyed->Bool) (left:Bool) (key:Keyed) (arr:Array Keyed) (base i:Nat):Bool:=match arr[base+i]? with
 | some x=>if left=true then lt x key else !lt key x
 | none=>false
theorem Zc1 (C:Cmp prog w A E s kd D lt) {left:Bool}{key:Keyed}{arr:Array Keyed}{base i:Nat}{st:SortSt}{Q:Option Bool->SortSt->Prop} (hk:D key) (hx:∃x,arr[base+i]? = some x/\D x) (hs:kindOf st=kd)
  (h:Q (some (byd lt left key arr base i)) st):wpS (model prog w) A E s (elem' arr (base+i) >>= fun x=>if left=true then lt' x key else (lt' key x >>= fun r=>pure (r.map fun x=>!x))) Q st:=by
 obtain ⟨x,e,d⟩:=hx
 unfold byd at h
 rw [e] at h
 rw [elem'_eq,e]
 refine wpS_bind (wpS_pure ?_)
 cases left with
 | true=>rw [if_pos rfl];exact C.cmp x key st Q d hk hs (by simpa using h)
 | false=>
  rw [if_neg (by simp)]
  exact wpS_bind (C.cmp key x st _ hk d hs (wpS_pure (by simpa using h)))
theorem ZfD {n:Nat}{st:SortSt}{Q:Option Nat->SortSt->Prop}{body:Nat->Option (Option Nat)×Nat×Nat->StateT SortSt Sem (ForInStep (Option (Option Nat)×Nat×Nat))}{rest:Option (Option Nat)×Nat×Nat->StateT SortSt Sem (Option Nat)} (f:Nat->Bool)
  (mono:∀i j,i<=j->j<n->f j=true->f i=true)
  (hb1:∀x lo hi (R:ForInStep (Option (Option Nat)×Nat×Nat)->SortSt->Prop),lo>=hi->R (.done (none,lo,hi)) st->wpS (model prog w) A E s (body x (none,lo,hi)) R st)
  (hb2:∀x lo hi (R:ForInStep (Option (Option Nat)×Nat×Nat)->SortSt->Prop),lo<hi->hi<=n->R (.yield (if f (lo+(hi-lo) / 2)=true then (none,lo+(hi-lo) / 2+1,hi) else (none,lo,lo+(hi-lo) / 2))) st->wpS (model prog w) A E s (body x (none,lo,hi)) R st)
  (hr:∀lo hi,Q (some hi) st->wpS (model prog w) A E s (rest (none,lo,hi)) Q st)
  (h:∀k,k<=n->(∀i,i<k->f i=true)->(∀i,k<=i->i<n->f i=false)->Q (some k) st)
  (lo hi:Nat) (h1:lo<=hi) (h2:hi<=n) (h3:∀i,i<lo->f i=true) (h4:∀i,hi<=i->i<n->f i=false):wpS (model prog w) A E s (forIn [:n] (none,lo,hi) body >>= rest) Q st:=by
 refine wpS_bind (wpS_mono (wpS_forRange (I:=fun x c st'=>st'=st /\ ∃lo hi,c=(none,lo,hi)/\lo<=hi/\hi<=n/\hi-lo<=n-x/\(∀i,i<lo->f i=true) /\ ∀i,hi<=i->i<n->f i=false)
  (Q:=fun c st'=>st'=st /\ ∃lo hi,c=(none,lo,hi)/\lo=hi/\hi<=n/\(∀i,i<lo->f i=true) /\ ∀i,hi<=i->i<n->f i=false) ?_ ?_ ⟨rfl,lo,hi,rfl,h1,h2,by lia,h3,h4⟩) ?_)
 ·rintro x c st' _ hxn ⟨rfl,lo,hi,rfl,g1,g2,g3,g4,g5⟩
  by_cases hge:lo>=hi
  ·exact hb1 x lo hi _ hge ⟨rfl,lo,hi,rfl,by lia,g2,g4,g5⟩
  ·refine hb2 x lo hi _ (by lia) g2 ?_
   cases e:f (lo+(hi-lo) / 2) with
   | true=>exact ⟨rfl,_,hi,rfl,by lia,g2,by lia,fun i hi'=>mono i _ (by lia) (by lia) e,g5⟩
   | false=>
    refine ⟨rfl,lo,_,rfl,by lia,by lia,by lia,g4,fun i h1 h2=>?_⟩
    cases z:f i with
    | false=>rfl
    | true=>rw [mono _ i h1 h2 z] at e;cases e
 ·rintro c st' ⟨rfl,lo,hi,rfl,g1,g2,g3,g4,g5⟩
  exact ⟨rfl,lo,hi,rfl,by lia,g2,g4,g5⟩
 ·rintro c st' ⟨rfl,lo,hi,rfl,rfl,g2,g4,g5⟩
  exact hr lo lo (h lo g2 g4 g5)
theorem Ju (C:Cmp prog w A E s kd D lt) {left:Bool}{key:Keyed}{arr:Array Keyed}{base n hint:Nat}{st:SortSt}{Q:Option Nat->SortSt->Prop} (hk:D key) (hx:∀i,i<n -> ∃x,arr[base+i]? = some x/\D x) (hh:hint<n) (hs:kindOf st=kd)
  (mono:∀i j,i<=j->j<n->byd lt left key arr base j=true->byd lt left key arr base i=true)
  (h:∀k,k<=n->(∀i,i<k->byd lt left key arr base i=true)->(∀i,k<=i->i<n->byd lt left key arr base i=false)->Q (some k) st):
  wpS (model prog w) A E s (ZlI left key arr base n hint) Q st:=by
 have monoF:∀i j,i<=j->j<n->byd lt left key arr base i=false->byd lt left key arr base j=false:=fun i j hij hj z=>by
  cases e:byd lt left key arr base j with
  | false=>rfl
  | true=>rw [mono i j hij hj e] at z;cases z
 refine wpS_bind (Zc1 C hk (hx hint hh) hs ?_)
 cases hr:byd lt left key arr base hint with
 | true=>
  dsimp only
  rw [if_pos rfl]
  refine wpS_bind (wpS_mono (wpS_forRange (I:=fun x c st'=>st'=st /\ ∃lo of,c=(none,lo,of)/\lo<of/\lo<n-hint/\x<of/\byd lt left key arr base (hint+lo)=true)
   (Q:=fun c st'=>st'=st /\ ∃lo of,c=(none,lo,of)/\lo<of/\lo<n-hint/\byd lt left key arr base (hint+lo)=true/\(of<n-hint->byd lt left key arr base (hint+of)=false)) ?_ ?_ ⟨rfl,0,1,rfl,by lia,by lia,by lia,hr⟩) ?_)
  ·rintro x c st' _ hxn ⟨rfl,lo,of,rfl,g1,g2,g3,g4⟩
   dsimp only
   by_cases hge:of>=n-hint
   ·rw [if_pos hge]
    exact wpS_pure ⟨rfl,lo,of,rfl,g1,g2,g4,fun z=>by lia⟩
   ·rw [if_neg hge]
    refine wpS_bind (Zc1 C hk (hx (hint+of) (by lia)) hs ?_)
    cases e:byd lt left key arr base (hint+of) with
    | true=>exact wpS_pure ⟨rfl,of,_,rfl,by lia,by lia,by lia,e⟩
    | false=>exact wpS_pure ⟨rfl,lo,of,rfl,g1,g2,g4,fun _=>e⟩
  ·rintro c st' ⟨rfl,lo,of,rfl,g1,g2,g3,g4⟩
   exact ⟨rfl,lo,of,rfl,g1,g2,g4,fun z=>by lia⟩
  ·rintro c st' ⟨rfl,lo,of,rfl,g1,g2,g4,g5⟩
   dsimp only
   refine ZfD (byd lt left key arr base) mono (fun x lo hi R hge hR=>?_) (fun x lo hi R hlt hn hR=>?_) (fun lo hi hq=>wpS_pure hq) h _ _ ?_ ?_ ?_ ?_
   ·dsimp only
    rw [if_pos hge]
    exact wpS_pure hR
   ·dsimp only
    rw [if_neg (by lia)]
    refine wpS_bind (Zc1 C hk (hx _ (by lia)) hs ?_)
    cases e:byd lt left key arr base (lo+(hi-lo) / 2) with
    | true=>rw [e,if_pos rfl] at hR;exact wpS_pure hR
    | false=>rw [e,if_neg (by simp)] at hR;exact wpS_pure hR
   ·lia
   ·lia
   ·exact fun i hi=>mono i (hint+lo) (by lia) (by lia) g4
   ·intro i h1 h2
    by_cases z:of<n-hint
    ·exact monoF (hint+of) i (by lia) h2 (g5 z)
    ·lia
 | false=>
  dsimp only
  rw [if_neg (by simp)]
  refine wpS_bind (wpS_mono (wpS_forRange (I:=fun x c st'=>st'=st /\ ∃lo of,c=(none,lo,of)/\lo<of/\lo<hint+1/\x<of/\byd lt left key arr base (hint-lo)=false)
   (Q:=fun c st'=>st'=st /\ ∃lo of,c=(none,lo,of)/\lo<of/\lo<hint+1/\byd lt left key arr base (hint-lo)=false/\(of<hint+1->byd lt left key arr base (hint-of)=true)) ?_ ?_ ⟨rfl,0,1,rfl,by lia,by lia,by lia,hr⟩) ?_)
  ·rintro x c st' _ hxn ⟨rfl,lo,of,rfl,g1,g2,g3,g4⟩
   dsimp only
   by_cases hge:of>=hint+1
   ·rw [if_pos hge]
    exact wpS_pure ⟨rfl,lo,of,rfl,g1,g2,g4,fun z=>by lia⟩
   ·rw [if_neg hge]
    refine wpS_bind (Zc1 C hk (hx (hint-of) (by lia)) hs ?_)
    cases e:byd lt left key arr base (hint-of) with
    | true=>exact wpS_pure ⟨rfl,lo,of,rfl,g1,g2,g4,fun _=>e⟩
    | false=>exact wpS_pure ⟨rfl,of,_,rfl,by lia,by lia,by lia,e⟩
  ·rintro c st' ⟨rfl,lo,of,rfl,g1,g2,g3,g4⟩
   exact ⟨rfl,lo,of,rfl,g1,g2,g4,fun z=>by lia⟩
  ·rintro c st' ⟨rfl,lo,of,rfl,g1,g2,g4,g5⟩
   dsimp only
   refine ZfD (byd lt left key arr base) mono (fun x lo hi R hge hR=>?_) (fun x lo hi R hlt hn hR=>?_) (fun lo hi hq=>wpS_pure hq) h _ _ ?_ ?_ ?_ ?_
   ·dsimp only
    rw [if_pos hge]
    exact wpS_pure hR
   ·dsimp only
    rw [if_neg (by lia)]
    refine wpS_bind (Zc1 C hk (hx _ (by lia)) hs ?_)
    cases e:byd lt left key arr base (lo+(hi-lo) / 2) with
    | true=>rw [e,if_pos rfl] at hR;exact wpS_pure hR
    | false=>rw [e,if_neg (by simp)] at hR;exact wpS_pure hR
   ·lia
   ·lia
   ·intro i hi
    by_cases z:of<hint+1
    ·exact mono i (hint-of) (by lia) (by lia) (g5 z)
    ·lia
   ·exact fun i h1 h2=>monoF (hint-lo) i (by lia) h2 g4
end
section
variable {prog:Program}{w:World}{A:Around}{E:Value->Shared->Prop}{s:Shared}{kd:SortKind}{D:Keyed->Prop}{lt:Keyed->Keyed->Bool}
def Ww (lt:Keyed->Keyed->Bool) (l:List Keyed):Prop:=l.Pairwise fun p q=>lt q p=false
theorem Zao (C:Wo lt) {l:List Keyed} (h:Ww lt l) {i j:Nat}{p q:Keyed} (hi:l[i]? = some p) (hj:l[j]? = some q) (hij:i<=j):lt q p=false:=by
 obtain ⟨h1,rfl⟩:=List.getElem?_eq_some_iff.mp hi
 obtain ⟨h2,rfl⟩:=List.getElem?_eq_some_iff.mp hj
 rcases Nat.lt_or_ge i j with z | z
 ·exact List.pairwise_iff_getElem.mp h i j h1 h2 z
 ·obtain rfl:i=j:=by lia
  exact C.irr _
theorem Yh {arr:Array Keyed}{i:Nat}{x:Keyed}{st:SortSt}{Q:Keyed->SortSt->Prop}{M:Model} (e:arr[i]? = some x) (h:Q x st):wpS M A E s (elem' arr i) Q st:=by
 rw [elem'_eq,e];exact wpS_pure h
def Eqg (st st':SortSt):Prop:=kindOf st'=kindOf st/\arrOf st'=arrOf st/\pendingOf st'=pendingOf st/\failedOf st'=failedOf st
theorem Eqg.refl (st:SortSt):Eqg st st:=⟨rfl,rfl,rfl,rfl⟩
structure Mg (lt:Keyed->Keyed->Bool) (a b out:List Keyed) (ia ib:Nat):Prop where
 srt:Ww lt out
 pm:(out++(a.drop ia++b.drop ib)).Perm (a++b)
 le:∀p∈out,∀q∈a.drop ia++b.drop ib,lt q p=false
theorem drop_cons {l:List Keyed}{i:Nat}{x:Keyed} (e:l[i]? = some x):l.drop i=x::l.drop (i+1):=by
 obtain ⟨h,rfl⟩:=List.getElem?_eq_some_iff.mp e
 exact List.drop_eq_getElem_cons h
theorem JE {l:List Keyed} (h:Ww lt l) (i:Nat):Ww lt (l.drop i):=List.Pairwise.sublist (List.drop_sublist _ _) h
theorem Zdk {l:List Keyed}{x:Keyed} (h:Ww lt l) (hx:∀p∈l,lt x p=false):Ww lt (l ++ [x]):=by
 refine List.pairwise_append.mpr ⟨h,List.pairwise_singleton _ _,fun p hp q hq=>?_⟩
 rw [List.mem_singleton.mp hq];exact hx p hp
theorem Mg.takeA (C:Wo lt) {a b out:List Keyed}{ia ib:Nat} (g:Mg lt a b out ia ib) (sa:Ww lt a) (sb:Ww lt b) {x:Keyed} (e:a[ia]? = some x) (h:∀y,b[ib]? = some y->lt y x=false):Mg lt a b (out ++ [x]) (ia+1) ib:=by
 have da:=drop_cons e
 have xin:x∈a.drop ia++b.drop ib:=by rw [da];simp
 refine ⟨Zdk g.srt fun p hp=>g.le p hp x xin,?_,fun p hp q hq=>?_⟩
 ·have:=g.pm
  rw [da] at this
  simpa using this
 ·rcases List.mem_append.mp hp with hp | hp
  ·refine g.le p hp q ?_
   rw [da]
   rcases List.mem_append.mp hq with z | z
   ·exact List.mem_append_left _ (List.mem_cons_of_mem _ z)
   ·exact List.mem_append_right _ z
  ·rw [List.mem_singleton.mp hp]
   rcases List.mem_append.mp hq with z | z
   ·have:=JE sa ia
    rw [da] at this
    exact (List.pairwise_cons.mp this).1 q z
   ·cases hb:b[ib]? with
    | none=>rw [List.drop_eq_nil_of_le (List.getElem?_eq_none_iff.mp hb)] at z;cases z
    | some y=>
     have hy:=h y hb
     have db:=drop_cons hb
     rw [db] at z
     rcases List.mem_cons.mp z with rfl | z
     ·exact hy
     ·have sb':=JE sb ib
      rw [db] at sb'
      exact C.leT hy ((List.pairwise_cons.mp sb').1 q z)
theorem Mg.takeB (C:Wo lt) {a b out:List Keyed}{ia ib:Nat} (g:Mg lt a b out ia ib) (sa:Ww lt a) (sb:Ww lt b) {x:Keyed} (e:b[ib]? = some x) (h:∀y,a[ia]? = some y->lt y x=false):Mg lt a b (out ++ [x]) ia (ib+1):=by
 have db:=drop_cons e
 have xin:x∈a.drop ia++b.drop ib:=by rw [db];simp
 refine ⟨Zdk g.srt fun p hp=>g.le p hp x xin,?_,fun p hp q hq=>?_⟩
 ·refine List.Perm.trans ?_ g.pm
  rw [db,List.append_assoc]
  refine List.Perm.append_left _ ?_
  exact (List.perm_middle (a:=x) (l₁:=a.drop ia) (l₂:=b.drop (ib+1))).symm
 ·rcases List.mem_append.mp hp with hp | hp
  ·refine g.le p hp q ?_
   rw [db]
   rcases List.mem_append.mp hq with z | z
   ·exact List.mem_append_left _ z
   ·exact List.mem_append_right _ (List.mem_cons_of_mem _ z)
  ·rw [List.mem_singleton.mp hp]
   rcases List.mem_append.mp hq with z | z
   ·cases ha:a[ia]? with
    | none=>rw [List.drop_eq_nil_of_le (List.getElem?_eq_none_iff.mp ha)] at z;cases z
    | some y=>
     have hy:=h y ha
     have da:=drop_cons ha
     rw [da] at z
     rcases List.mem_cons.mp z with rfl | z
     ·exact hy
     ·have sa':=JE sa ia
      rw [da] at sa'
      exact C.leT hy ((List.pairwise_cons.mp sa').1 q z)
   ·have:=JE sb ib
    rw [db] at this
    exact (List.pairwise_cons.mp this).1 q z
theorem ZfM {l:List Keyed}{i k:Nat}{x:Keyed} (e:l[i+k]? = some x):(l.drop i).take (k+1)=(l.drop i).take k ++ [x]:=by
 rw [List.take_add_one,List.getElem?_drop,e];rfl
theorem Mg.takeAs (C:Wo lt) {a b:List Keyed} (sa:Ww lt a) (sb:Ww lt b) {ia ib:Nat}{out:List Keyed} (g:Mg lt a b out ia ib):∀k,ia+k<=a.length->(∀i,i<k -> ∀x y,a[ia+i]? = some x->b[ib]? = some y->lt y x=false)->Mg lt a b (out++(a.drop ia).take k) (ia+k) ib
 | 0,_,_=>by simpa using g
 | k+1,hk,h=>by
  have ih:=Mg.takeAs C sa sb g k (by lia) fun i hi=>h i (by lia)
  obtain ⟨x,hx⟩:∃x,a[ia+k]? = some x:=⟨a[ia+k]'(by lia),List.getElem?_eq_getElem (by lia)⟩
  have:=ih.takeA C sa sb hx fun y hy=>h k (by lia) x y hx hy
  rw [ZfM hx,<- List.append_assoc]
  exact this
theorem Mg.takeBs (C:Wo lt) {a b:List Keyed} (sa:Ww lt a) (sb:Ww lt b) {ia ib:Nat}{out:List Keyed} (g:Mg lt a b out ia ib):∀k,ib+k<=b.length->(∀i,i<k -> ∀x y,b[ib+i]? = some x->a[ia]? = some y->lt y x=false)->Mg lt a b (out++(b.drop ib).take k) ia (ib+k)
 | 0,_,_=>by simpa using g
 | k+1,hk,h=>by
  have ih:=Mg.takeBs C sa sb g k (by lia) fun i hi=>h i (by lia)
  obtain ⟨x,hx⟩:∃x,b[ib+k]? = some x:=⟨b[ib+k]'(by lia),List.getElem?_eq_getElem (by lia)⟩
  have:=ih.takeB C sa sb hx fun y hy=>h k (by lia) x y hx hy
  rw [ZfM hx,<- List.append_assoc]
  exact this
def Mgd (lt:Keyed->Keyed->Bool) (a b r:List Keyed):Prop:=Ww lt r/\r.Perm (a++b)
theorem Mg.done {a b out:List Keyed}{ia ib:Nat} (g:Mg lt a b out ia ib) (sa:Ww lt a) (sb:Ww lt b) (h:a.length<=ia∨b.length<=ib):Mgd lt a b (out++a.drop ia++b.drop ib):=by
 refine ⟨?_,by rw [List.append_assoc];exact g.pm⟩
 rw [List.append_assoc]
 refine List.pairwise_append.mpr ⟨g.srt,?_,fun p hp q hq=>g.le p hp q hq⟩
 rcases h with h | h
 ·rw [List.drop_eq_nil_of_le h,List.nil_append];exact JE sb ib
 ·rw [List.drop_eq_nil_of_le h,List.append_nil];exact JE sa ia
theorem Mg.lastA {a b out:List Keyed}{ia ib:Nat} (g:Mg lt a b out ia ib) (sb:Ww lt b) (h:ia+1=a.length) (hl:∀x,a[ia]? = some x -> ∀y∈b,lt x y=false):Mgd lt a b (out++b.drop ib++a.drop ia):=by
 obtain ⟨x,hx⟩:∃x,a[ia]? = some x:=⟨a[ia]'(by lia),List.getElem?_eq_getElem (by lia)⟩
 have da:a.drop ia = [x]:=by rw [drop_cons hx,List.drop_eq_nil_of_le (by lia)]
 refine ⟨?_,?_⟩
 ·rw [List.append_assoc,da]
  refine List.pairwise_append.mpr ⟨g.srt,Zdk (JE sb ib) fun p hp=>hl x hx p (List.mem_of_mem_drop hp),fun p hp q hq=>g.le p hp q ?_⟩
  rw [da]
  rcases List.mem_append.mp hq with z | z
  ·exact List.mem_append_right _ z
  ·exact List.mem_append_left _ z
 ·rw [List.append_assoc]
  exact (List.Perm.append_left _ List.perm_append_comm).trans g.pm
end
section
variable {prog:Program}{w:World}{A:Around}{E:Value->Shared->Prop}{s:Shared}{kd:SortKind}{D:Keyed->Prop}{lt:Keyed->Keyed->Bool}
theorem JR {l:Array Keyed}{i k:Nat}:(l.extract i (i+k)).toList=(l.toList.drop i).take k:=by
 rw [Array.toList_extract,List.extract_eq_take_drop];congr 1;lia
theorem Yv {l:Array Keyed}{i:Nat}:(l.extract i).toList=l.toList.drop i:=by
 rw [Array.toList_extract,List.extract_eq_take_drop]
 exact List.take_of_length_le (by simp)
theorem JS {key:Keyed}{arr:Array Keyed}{base i:Nat}{x:Keyed} (e:arr.toList[base+i]? = some x):byd lt false key arr base i = !lt key x:=by
 unfold byd;rw [<- Array.getElem?_toList,e];simp
theorem Y4 {key:Keyed}{arr:Array Keyed}{base i:Nat}{x:Keyed} (e:arr.toList[base+i]? = some x):byd lt true key arr base i=lt x key:=by
 unfold byd;rw [<- Array.getElem?_toList,e];simp
theorem GD (C:Cmp prog w A E s kd D lt) {left:Bool}{key:Keyed}{arr:Array Keyed}{base n:Nat} (hs:Ww lt arr.toList) (hn:base+n<=arr.toList.length):
  ∀i j,i<=j->j<n->byd lt left key arr base j=true->byd lt left key arr base i=true:=fun i j hij hj h=>by
 have ei:arr.toList[base+i]? = some (arr.toList[base+i]'(by lia)):=List.getElem?_eq_getElem (by lia)
 have ej:arr.toList[base+j]? = some (arr.toList[base+j]'(by lia)):=List.getElem?_eq_getElem (by lia)
 have le:=Zao C.wo hs ei ej (by lia)
 cases left with
 | true=>
  rw [Y4 ej] at h
  rw [Y4 ei]
  rcases C.wo.neg _ (arr.toList[base+i]'(by lia)) _ h with z | z
  ·rw [z] at le;cases le
  ·exact z
 | false=>
  rw [JS ej] at h
  rw [JS ei]
  cases z:lt key (arr.toList[base+i]'(by lia)) with
  | false=>rfl
  | true=>
   rcases C.wo.neg _ (arr.toList[base+j]'(by lia)) _ z with y | y
   ·rw [y] at h;cases h
   ·rw [y] at le;cases le
section
variable {β:Type}{st:SortSt}{Q:β -> SortSt->Prop}{M:Model}
theorem ZM {c:Bool}{X Y:StateT SortSt Sem β} (h1:c=true->wpS M A E s X Q st) (h2:c=false->wpS M A E s Y Q st):wpS M A E s (if c=true then X else Y) Q st:=by
 cases c with
 | true=>exact h1 rfl
 | false=>exact h2 rfl
theorem JL {k n:Nat}{X Y:StateT SortSt Sem β} (h1:k>n->wpS M A E s X Q st) (h2:k<=n->wpS M A E s Y Q st):wpS M A E s (if k>n then X else Y) Q st:=by
 by_cases h:k>n
 ·rw [if_pos h];exact h1 h
 ·rw [if_neg h];exact h2 (by lia)
end
theorem Z8 {m n:Nat} (h:(m==n)=false):m≠n:=fun e=>by rw [e] at h;simp at h
theorem Zhk (C:Cmp prog w A E s kd D lt) {a b:Array Keyed}{st:SortSt}{Q:Array Keyed->SortSt->Prop} (hda:∀x∈a.toList,D x) (hdb:∀x∈b.toList,D x) (sa:Ww lt a.toList) (sb:Ww lt b.toList) (hs:kindOf st=kd)
  (na:0<a.toList.length) (nb:0<b.toList.length) (hf:∀x y,a.toList[0]? = some x->b.toList[0]? = some y->lt x y=false) (hl:∀x,a.toList[a.toList.length-1]? = some x -> ∀y∈b.toList,lt x y=false)
  (h:∀r st',Mgd lt a.toList b.toList r.toList->Eqg st st'->Q r st'):wpS (model prog w) A E s (Zle a b) Q st:=by
 have za:a.size=a.toList.length:=by simp
 have zb:b.size=b.toList.length:=by simp
 have ea:∀i,i<a.toList.length -> ∃x,a[i]? = some x/\D x/\a.toList[i]? = some x:=fun i hi=>⟨a.toList[i],by rw [<- Array.getElem?_toList];exact List.getElem?_eq_getElem hi,hda _ (List.getElem_mem hi),List.getElem?_eq_getElem hi⟩
 have eb:∀i,i<b.toList.length -> ∃x,b[i]? = some x/\D x/\b.toList[i]? = some x:=fun i hi=>⟨b.toList[i],by rw [<- Array.getElem?_toList];exact List.getElem?_eq_getElem hi,hdb _ (List.getElem_mem hi),List.getElem?_eq_getElem hi⟩
 refine wpS_bind (wpS_lift (wpAny_rule ⟨rfl,?_⟩))
 obtain ⟨b0,hb0,db0,lb0⟩:=eb 0 nb
 obtain ⟨a0,ha0,da0,la0⟩:=ea 0 na
 refine wpS_bind (Yh hb0 ?_)
 have g0:Mg lt a.toList b.toList [b0] 0 1:=by
  have g:Mg lt a.toList b.toList [] 0 0:=⟨.nil,by simp,fun p hp=>(by cases hp)⟩
  exact g.takeB C.wo sa sb lb0 fun y hy=>hf y b0 hy lb0
 show wpS _ _ _ _ (if (1==b.size)=true then _ else if (0+1==a.size)=true then _ else _) _ _
 by_cases c1:(1==b.size)=true
 ·rw [if_pos c1]
  refine wpS_pure (h _ st ?_ (Eqg.refl st))
  simp only [Array.toList_append,Yv]
  exact g0.done sa sb (.inr (by rw [<- zb,<- eq_of_beq c1];exact Nat.le_refl _))
 rw [if_neg c1]
 by_cases c2:(0+1==a.size)=true
 ·rw [if_pos c2]
  refine wpS_pure (h _ st ?_ (Eqg.refl st))
  simp only [Array.toList_append,Yv]
  exact g0.lastA sb (by rw [<- za];exact eq_of_beq c2) fun x hx=>hl x (by rw [<- za,<- eq_of_beq c2];exact hx)
 rw [if_neg c2]
 have n1:1<b.toList.length:=by
  rcases Nat.lt_or_ge 1 b.toList.length with z | z
  ·exact z
  ·exact absurd (by rw [zb,show b.toList.length=1 by lia];rfl) c1
 have n2:1<a.toList.length:=by
  rcases Nat.lt_or_ge 1 a.toList.length with z | z
  ·exact z
  ·exact absurd (by rw [za,show a.toList.length=1 by lia];rfl) c2
 refine wpS_bind (wpS_get ?_)
 refine wpS_bind (wpS_mono (wpS_forRange (I:=fun x c st'=>∃(out:Array Keyed) (ia ib mg:Nat),c=(none,out,ia,ib,mg)/\Mg lt a.toList b.toList out.toList ia ib/\ia+1<a.toList.length/\ib<b.toList.length/\x<=ia+ib/\Eqg st st')
  (Q:=fun c st'=>∃r,c.1=some r/\Mgd lt a.toList b.toList r.toList/\Eqg st st') ?_ ?_ ⟨#[b0],0,1,_,rfl,g0,by lia,n1,by lia,Eqg.refl st⟩) ?_)
 ·rintro x c st1 _ hx ⟨out,ia,ib,mg,rfl,g,l1,l2,l3,q1⟩
  refine wpS_bind (wpS_mono (wpS_forRange (I:=fun y c st'=>st'=st1 /\ ∃(out:Array Keyed) (ia ib ac bc:Nat),c=(none,out,ia,ib,ac,bc)/\Mg lt a.toList b.toList out.toList ia ib/\ia+1<a.toList.length/\ib<b.toList.length/\x+y<=ia+ib)
   (Q:=fun c st'=>st'=st1/\((∃(out:Array Keyed) (ia ib ac bc:Nat),c=(none,out,ia,ib,ac,bc)/\Mg lt a.toList b.toList out.toList ia ib/\ia+1<a.toList.length/\ib<b.toList.length/\x+1<=ia+ib) ∨ ∃r,c.1=some r/\Mgd lt a.toList b.toList r.toList)) ?_ ?_ ⟨rfl,out,ia,ib,0,0,rfl,g,l1,l2,l3⟩) ?_)
  ·rintro y c st' _ hy ⟨rfl,out,ia,ib,ac,bc,rfl,g,l1,l2,l3⟩
   obtain ⟨xb,hb,db,lb⟩:=eb ib l2
   obtain ⟨xa,ha,da,la⟩:=ea ia (by lia)
   refine wpS_bind (Yh hb (wpS_bind (Yh ha (wpS_bind (C.cmp xb xa _ _ db da (q1.1.trans hs) ?_)))))
   cases e:lt xb xa with
   | true=>
    refine wpS_bind (Yh hb ?_)
    have g':=g.takeB C.wo sa sb lb fun y hy=>by rw [la] at hy;cases hy;exact C.wo.asym _ _ e
    dsimp only
    by_cases c3:(ib+1==b.size)=true
    ·rw [if_pos c3]
     refine wpS_pure ⟨rfl,.inr ⟨_,rfl,?_⟩⟩
     simp only [Array.toList_append,Array.toList_push,Yv]
     exact g'.done sa sb (.inr (by rw [<- zb,<- eq_of_beq c3];exact Nat.le_refl _))
    ·rw [if_neg c3]
     have c4:ib+1<b.toList.length:=by
      rcases Nat.lt_or_ge (ib+1) b.toList.length with z | z
      ·exact z
      ·exact absurd (by rw [zb,show b.toList.length=ib+1 by lia];simp) c3
     split
     ·exact wpS_pure ⟨rfl,.inl ⟨_,_,_,_,_,rfl,by rw [Array.toList_push];exact g',l1,c4,by lia⟩⟩
     ·exact wpS_pure ⟨rfl,_,_,_,_,_,rfl,by rw [Array.toList_push];exact g',l1,c4,by lia⟩
   | false=>
    refine wpS_bind (Yh ha ?_)
    have g':=g.takeA C.wo sa sb la fun y hy=>by rw [lb] at hy;cases hy;exact e
    dsimp only
    by_cases c3:(ia+1+1==a.size)=true
    ·rw [if_pos c3]
     refine wpS_pure ⟨rfl,.inr ⟨_,rfl,?_⟩⟩
     simp only [Array.toList_append,Array.toList_push,Yv]
     have c5:ia+1+1=a.toList.length:=by rw [<- za];exact eq_of_beq c3
     exact g'.lastA sb c5 fun x hx=>hl x (by rw [<- c5];exact hx)
    ·rw [if_neg c3]
     have c4:ia+1+1<a.toList.length:=by
      rcases Nat.lt_or_ge (ia+1+1) a.toList.length with z | z
      ·exact z
      ·exact absurd (by rw [za,show a.toList.length=ia+1+1 by lia];simp) c3
     split
     ·exact wpS_pure ⟨rfl,.inl ⟨_,_,_,_,_,rfl,by rw [Array.toList_push];exact g',c4,l2,by lia⟩⟩
     ·exact wpS_pure ⟨rfl,_,_,_,_,_,rfl,by rw [Array.toList_push];exact g',c4,l2,by lia⟩
  ·rintro c st' ⟨rfl,out,ia,ib,ac,bc,rfl,g,l1,l2,l3⟩
   lia
  ·rintro c st' ⟨rfl,⟨out,ia,ib,ac,bc,rfl,g,l1,l2,l3⟩ | ⟨r,hr,hm⟩⟩
   ·refine wpS_bind (wpS_lift (wpAny_rule ⟨rfl,?_⟩))
    refine wpS_bind (wpS_mono (wpS_forRange (I:=fun y c st'=>Eqg st st' /\ ∃(out:Array Keyed) (ia ib mg ac bc:Nat),c=(none,out,ia,ib,mg,ac,bc)/\Mg lt a.toList b.toList out.toList ia ib/\ia+1<a.toList.length/\ib<b.toList.length/\x+1+y<=ia+ib)
     (Q:=fun c st'=>Eqg st st'/\((∃(out:Array Keyed) (ia ib mg ac bc:Nat),c=(none,out,ia,ib,mg,ac,bc)/\Mg lt a.toList b.toList out.toList ia ib/\ia+1<a.toList.length/\ib<b.toList.length/\x+1<=ia+ib) ∨ ∃r,c.1=some r/\Mgd lt a.toList b.toList r.toList)) ?_ ?_ ⟨q1,out,ia,ib,_,ac,bc,rfl,g,l1,l2,l3⟩) ?_)
    ·rintro y c st2 _ hy ⟨q2,out,ia,ib,mg,ac,bc,rfl,g,l1,l2,l3⟩
     obtain ⟨xb,hb,db,lb⟩:=eb ib l2
     refine JL (k:=mg) (n:=1) (fun _=>?_) (fun _=>?_)
     all_goals (
      refine wpS_bind (wpS_modify ?_)
      refine wpS_bind (Yh hb ?_)
      refine wpS_bind (Ju (base:=ia) (n:=a.size-ia) (hint:=0) C db (fun i hi=>let ⟨x,h1,h2,_⟩:=ea (ia+i) (by lia);⟨x,h1,h2⟩) (by lia) (q2.1.trans hs) (GD C sa (by lia)) fun k hk k1 k2=>?_)
      have f1:∀i,i<k -> ∀x y,a.toList[ia+i]? = some x->b.toList[ib]? = some y->lt y x=false:=fun i hi x y hx hy=>by
       have:=k1 i hi
       rw [JS hx] at this
       rw [lb] at hy
       cases hy
       simpa using this
      have gk:=g.takeAs C.wo sa sb k (by lia) f1
      have m3:∀x,a.toList[ia+k]? = some x->lt xb x=true:=fun x hx=>by
       have:=k2 k (Nat.le_refl _) (by have:=(List.getElem?_eq_some_iff.mp hx).1;lia)
       rw [JS hx] at this
       simpa using this
      refine JL (k:=k) (n:=0) (fun k0=>?_) (fun k0=>?_)
      ·refine ZM (c:=(ia+k+1==a.size)) (fun c3=>?_) (fun c3=>ZM (c:=(ia+k==a.size)) (fun c4=>?_) (fun c4=>?_))
       ·refine wpS_pure ⟨q2,.inr ⟨_,rfl,?_⟩⟩
        have c3':ia+k+1=a.toList.length:=by rw [<- za];exact eq_of_beq c3
        have:=gk.lastA sb c3' fun x hx=>hl x (by rw [<- c3'];exact hx)
        simp only [Array.toList_append,Array.toList_push,Yv,JR] at this ⊢
        exact this
       ·refine wpS_pure ⟨q2,.inr ⟨_,rfl,?_⟩⟩
        have:=gk.done sa sb (.inl (by rw [<- za,<- eq_of_beq c4];exact Nat.le_refl _))
        simp only [Array.toList_append,Array.toList_push,Yv,JR] at this ⊢
        exact this
       ·have c3':=Z8 c3
        have c4':=Z8 c4
        have m4':=m3
        have g1:Mg lt a.toList b.toList (out++a.extract ia (ia+k)).toList (ia+k) ib:=by
         simp only [Array.toList_append,Array.toList_push,Yv,JR] at gk ⊢
         exact gk
        refine wpS_bind (Yh hb ?_)
        have g2:=g1.takeB C.wo sa sb lb fun y hy=>C.wo.asym _ _ (m4' y hy)
        refine ZM (c:=(ib+1==b.size)) (fun c5=>?_) (fun c5=>?_)
        ·refine wpS_pure ⟨q2,.inr ⟨_,rfl,?_⟩⟩
         have:=g2.done sa sb (.inr (by rw [<- zb,<- eq_of_beq c5];exact Nat.le_refl _))
         simp only [Array.toList_append,Array.toList_push,Yv,JR] at this ⊢
         exact this
        ·have c6:=Z8 c5
         obtain ⟨xa,ha,da,la⟩:=ea (ia+k) (by lia)
         refine wpS_bind (Yh ha ?_)
         refine wpS_bind (Ju (left:=true) (base:=ib+1) (n:=b.size-(ib+1)) (hint:=0) C da (fun i hi=>let ⟨x,h1,h2,_⟩:=eb (ib+1+i) (by lia);⟨x,h1,h2⟩) (by lia) (q2.1.trans hs) (GD C sb (by lia)) fun k' hk' k1' k2'=>?_)
         have f2:∀i,i<k' -> ∀x y,b.toList[ib+1+i]? = some x->a.toList[ia+k]? = some y->lt y x=false:=fun i hi x y hx hy=>by
          have:=k1' i hi
          rw [Y4 hx] at this
          rw [la] at hy
          cases hy
          exact C.wo.asym _ _ this
         have gk':=g2.takeBs C.wo sa sb k' (by lia) f2
         have m5:∀y,b.toList[ib+1+k']? = some y->lt y xa=false:=fun y hy=>by
          have:=k2' k' (Nat.le_refl _) (by have:=(List.getElem?_eq_some_iff.mp hy).1;lia)
          rw [Y4 hy] at this
          exact this
         refine JL (k:=k') (n:=0) (fun k0'=>?_) (fun k0'=>?_)
         ·refine ZM (c:=(ib+1+k'==b.size)) (fun c9=>?_) (fun c9=>?_)
          ·refine wpS_pure ⟨q2,.inr ⟨_,rfl,?_⟩⟩
           have:=gk'.done sa sb (.inr (by rw [<- zb,<- eq_of_beq c9];exact Nat.le_refl _))
           simp only [Array.toList_append,Array.toList_push,Yv,JR] at this ⊢
           exact this
          ·have c9':=Z8 c9
           have m4:=m5
           have g3:Mg lt a.toList b.toList (((out++a.extract ia (ia+k)).push xb)++b.extract (ib+1) (ib+1+k')).toList (ia+k) (ib+1+k'):=by
            simp only [Array.toList_append,Array.toList_push,Yv,JR] at gk' ⊢
            exact gk'
           refine wpS_bind (Yh ha ?_)
           have g4:=g3.takeA C.wo sa sb la m4
           refine ZM (c:=((ia+k)+1+1==a.size)) (fun c7=>?_) (fun c7=>?_)
           ·refine wpS_pure ⟨q2,.inr ⟨_,rfl,?_⟩⟩
            have c8:(ia+k)+1+1=a.toList.length:=by rw [<- za];exact eq_of_beq c7
            have:=g4.lastA sb c8 fun x hx=>hl x (by rw [<- c8];exact hx)
            simp only [Array.toList_append,Array.toList_push,Yv,JR] at this ⊢
            exact this
           ·have c8:=Z8 c7
            refine ZM (fun _=>?_) (fun _=>?_)
            ·exact wpS_pure ⟨q2,.inl ⟨(((out++a.extract ia (ia+k)).push xb)++b.extract (ib+1) (ib+1+k')).push xa,(ia+k)+1,(ib+1+k'),_,_,_,rfl,by rw [Array.toList_push];exact g4,by lia,by lia,by lia⟩⟩
            ·exact wpS_pure ⟨q2,(((out++a.extract ia (ia+k)).push xb)++b.extract (ib+1) (ib+1+k')).push xa,(ia+k)+1,(ib+1+k'),_,_,_,rfl,by rw [Array.toList_push];exact g4,by lia,by lia,by lia⟩
         ·obtain rfl:k'=0:=by lia
          have m4:=m5
          have g3:Mg lt a.toList b.toList ((out++a.extract ia (ia+k)).push xb).toList (ia+k) (ib+1):=by
           rw [Array.toList_push]
           exact g2
          refine wpS_bind (Yh ha ?_)
          have g4:=g3.takeA C.wo sa sb la m4
          refine ZM (c:=((ia+k)+1+1==a.size)) (fun c7=>?_) (fun c7=>?_)
          ·refine wpS_pure ⟨q2,.inr ⟨_,rfl,?_⟩⟩
           have c8:(ia+k)+1+1=a.toList.length:=by rw [<- za];exact eq_of_beq c7
           have:=g4.lastA sb c8 fun x hx=>hl x (by rw [<- c8];exact hx)
           simp only [Array.toList_append,Array.toList_push,Yv,JR] at this ⊢
           exact this
          ·have c8:=Z8 c7
           refine ZM (fun _=>?_) (fun _=>?_)
           ·exact wpS_pure ⟨q2,.inl ⟨((out++a.extract ia (ia+k)).push xb).push xa,(ia+k)+1,(ib+1),_,_,_,rfl,by rw [Array.toList_push];exact g4,by lia,by lia,by lia⟩⟩
           ·exact wpS_pure ⟨q2,((out++a.extract ia (ia+k)).push xb).push xa,(ia+k)+1,(ib+1),_,_,_,rfl,by rw [Array.toList_push];exact g4,by lia,by lia,by lia⟩
      ·obtain rfl:k=0:=by lia
       have m4':=m3
       have g1:=g
       refine wpS_bind (Yh hb ?_)
       have g2:=g1.takeB C.wo sa sb lb fun y hy=>C.wo.asym _ _ (m4' y hy)
       refine ZM (c:=(ib+1==b.size)) (fun c5=>?_) (fun c5=>?_)
       ·refine wpS_pure ⟨q2,.inr ⟨_,rfl,?_⟩⟩
        have:=g2.done sa sb (.inr (by rw [<- zb,<- eq_of_beq c5];exact Nat.le_refl _))
        simp only [Array.toList_append,Array.toList_push,Yv,JR] at this ⊢
        exact this
       ·have c6:=Z8 c5
        obtain ⟨xa,ha,da,la⟩:=ea (ia) (by lia)
        refine wpS_bind (Yh ha ?_)
        refine wpS_bind (Ju (left:=true) (base:=ib+1) (n:=b.size-(ib+1)) (hint:=0) C da (fun i hi=>let ⟨x,h1,h2,_⟩:=eb (ib+1+i) (by lia);⟨x,h1,h2⟩) (by lia) (q2.1.trans hs) (GD C sb (by lia)) fun k' hk' k1' k2'=>?_)
        have f2:∀i,i<k' -> ∀x y,b.toList[ib+1+i]? = some x->a.toList[ia]? = some y->lt y x=false:=fun i hi x y hx hy=>by
         have:=k1' i hi
         rw [Y4 hx] at this
         rw [la] at hy
         cases hy
         exact C.wo.asym _ _ this
        have gk':=g2.takeBs C.wo sa sb k' (by lia) f2
        have m5:∀y,b.toList[ib+1+k']? = some y->lt y xa=false:=fun y hy=>by
         have:=k2' k' (Nat.le_refl _) (by have:=(List.getElem?_eq_some_iff.mp hy).1;lia)
         rw [Y4 hy] at this
         exact this
        refine JL (k:=k') (n:=0) (fun k0'=>?_) (fun k0'=>?_)
        ·refine ZM (c:=(ib+1+k'==b.size)) (fun c9=>?_) (fun c9=>?_)
         ·refine wpS_pure ⟨q2,.inr ⟨_,rfl,?_⟩⟩
          have:=gk'.done sa sb (.inr (by rw [<- zb,<- eq_of_beq c9];exact Nat.le_refl _))
          simp only [Array.toList_append,Array.toList_push,Yv,JR] at this ⊢
          exact this
         ·have c9':=Z8 c9
          have m4:=m5
          have g3:Mg lt a.toList b.toList ((out.push xb)++b.extract (ib+1) (ib+1+k')).toList (ia) (ib+1+k'):=by
           simp only [Array.toList_append,Array.toList_push,Yv,JR] at gk' ⊢
           exact gk'
          refine wpS_bind (Yh ha ?_)
          have g4:=g3.takeA C.wo sa sb la m4
          refine ZM (c:=((ia)+1+1==a.size)) (fun c7=>?_) (fun c7=>?_)
          ·refine wpS_pure ⟨q2,.inr ⟨_,rfl,?_⟩⟩
           have c8:(ia)+1+1=a.toList.length:=by rw [<- za];exact eq_of_beq c7
           have:=g4.lastA sb c8 fun x hx=>hl x (by rw [<- c8];exact hx)
           simp only [Array.toList_append,Array.toList_push,Yv,JR] at this ⊢
           exact this
          ·have c8:=Z8 c7
           refine ZM (fun _=>?_) (fun _=>?_)
           ·exact wpS_pure ⟨q2,.inl ⟨((out.push xb)++b.extract (ib+1) (ib+1+k')).push xa,(ia)+1,(ib+1+k'),_,_,_,rfl,by rw [Array.toList_push];exact g4,by lia,by lia,by lia⟩⟩
           ·exact wpS_pure ⟨q2,((out.push xb)++b.extract (ib+1) (ib+1+k')).push xa,(ia)+1,(ib+1+k'),_,_,_,rfl,by rw [Array.toList_push];exact g4,by lia,by lia,by lia⟩
        ·obtain rfl:k'=0:=by lia
         have m4:=m5
         have g3:Mg lt a.toList b.toList (out.push xb).toList (ia) (ib+1):=by
          rw [Array.toList_push]
          exact g2
         refine wpS_bind (Yh ha ?_)
         have g4:=g3.takeA C.wo sa sb la m4
         refine ZM (c:=((ia)+1+1==a.size)) (fun c7=>?_) (fun c7=>?_)
         ·refine wpS_pure ⟨q2,.inr ⟨_,rfl,?_⟩⟩
          have c8:(ia)+1+1=a.toList.length:=by rw [<- za];exact eq_of_beq c7
          have:=g4.lastA sb c8 fun x hx=>hl x (by rw [<- c8];exact hx)
          simp only [Array.toList_append,Array.toList_push,Yv,JR] at this ⊢
          exact this
         ·have c8:=Z8 c7
          refine ZM (fun _=>?_) (fun _=>?_)
          ·exact wpS_pure ⟨q2,.inl ⟨(out.push xb).push xa,(ia)+1,(ib+1),_,_,_,rfl,by rw [Array.toList_push];exact g4,by lia,by lia,by lia⟩⟩
          ·exact wpS_pure ⟨q2,(out.push xb).push xa,(ia)+1,(ib+1),_,_,_,rfl,by rw [Array.toList_push];exact g4,by lia,by lia,by lia⟩)
    ·rintro c st' ⟨q2,out,ia,ib,mg,ac,bc,rfl,g,l1,l2,l3⟩
     lia
    ·rintro c st' ⟨q2,⟨out,ia,ib,mg,ac,bc,rfl,g,l1,l2,l3⟩ | ⟨r,hr,hm⟩⟩
     ·exact wpS_bind (wpS_modify (wpS_pure ⟨_,_,_,_,rfl,g,l1,l2,l3,q2⟩))
     ·obtain ⟨c1,c2⟩:=c
      dsimp only at hr
      subst hr
      exact wpS_pure ⟨r,rfl,hm,q2⟩
   ·obtain ⟨c1,c2⟩:=c
    dsimp only at hr
    subst hr
    exact wpS_pure ⟨r,rfl,hm,q1⟩
 ·rintro c st' ⟨out,ia,ib,mg,rfl,g,l1,l2,l3,q1⟩
  lia
 ·rintro c st' ⟨r,hr,hm,q1⟩
  obtain ⟨c1,c2⟩:=c
  dsimp only at hr
  subst hr
  exact wpS_pure (h r st' hm q1)
end
section
variable {prog:Program}{w:World}{A:Around}{E:Value->Shared->Prop}{s:Shared}{kd:SortKind}{D:Keyed->Prop}{lt:Keyed->Keyed->Bool}
theorem Ui {l:List Keyed}{n:Nat} (h0:0<n) (h:n<=l.length):l.reverse[l.length-n]? = l[n-1]?:=by
 rw [List.getElem?_reverse (by lia)];congr 1;lia
theorem Zaa {l:List Keyed}{n:Nat} (h:n<=l.length):l.reverse.drop (l.length-n)=(l.take n).reverse:=by
 rw [List.drop_reverse];congr 2;lia
theorem ZfR {l:List Keyed}{n m:Nat} (h:n<=l.length) (hm:m<=n):(l.reverse.drop (l.length-n)).take (n-m)=((l.drop m).take (n-m)).reverse:=by
 rw [Zaa h,List.take_reverse,List.length_take,Nat.min_eq_left h,List.drop_take]
 congr 2
 ·lia
 ·congr 1;lia
theorem Zis {a b r:List Keyed} (h:Mgd (fun x y=>lt y x) b.reverse a.reverse r):Mgd lt a b r.reverse:=by
 refine ⟨List.pairwise_reverse.mpr h.1,?_⟩
 refine (List.reverse_perm r).trans (h.2.trans ?_)
 refine ((List.reverse_perm b).append (List.reverse_perm a)).trans ?_
 exact List.perm_append_comm
def Mh (lt:Keyed->Keyed->Bool) (a b:List Keyed) (out:List Keyed) (na nb:Nat):Prop:=Mg (fun x y=>lt y x) b.reverse a.reverse out (b.length-nb) (a.length-na)
theorem Mh.done {a b out:List Keyed}{na nb:Nat} (g:Mh lt a b out na nb) (sa:Ww lt a) (sb:Ww lt b) (ha:na<=a.length) (hb:nb<=b.length) (h:na=0∨nb=0):Mgd lt a b (a.take na++b.take nb++out.reverse):=by
 have:=Zis (Mg.done (lt:=fun x y=>lt y x) g (List.pairwise_reverse.mpr sb) (List.pairwise_reverse.mpr sa) (by rw [List.length_reverse,List.length_reverse];lia))
 rw [Zaa ha,Zaa hb] at this
 simpa using this
theorem Mh.firstB {a b out:List Keyed}{na nb:Nat} (g:Mh lt a b out na nb) (sa:Ww lt a) (ha:na<=a.length) (hb:nb<=b.length) (h:nb=1) (hf:∀x,b[0]? = some x -> ∀y∈a,lt y x=false):Mgd lt a b (b.take nb++a.take na++out.reverse):=by
 have:=Zis (Mg.lastA (lt:=fun x y=>lt y x) g (List.pairwise_reverse.mpr sa) (by rw [List.length_reverse];lia) fun x hx y hy=>by
  rw [Ui (by lia) hb,h] at hx
  exact hf x hx y (by simpa using hy))
 rw [Zaa ha,Zaa hb] at this
 simpa using this
theorem Mh.takeA (C:Wo lt) {a b out:List Keyed}{na nb:Nat} (g:Mh lt a b out na nb) (sa:Ww lt a) (sb:Ww lt b) (h0:0<na) (ha:na<=a.length) (hb:nb<=b.length) {x:Keyed} (e:a[na-1]? = some x) (h:0<nb -> ∀y,b[nb-1]? = some y->lt x y=false):Mh lt a b (out ++ [x]) (na-1) nb:=by
 have:=Mg.takeB (lt:=fun x y=>lt y x) C.flip g (List.pairwise_reverse.mpr sb) (List.pairwise_reverse.mpr sa) (x:=x) (by rw [Ui h0 ha];exact e) fun y hy=>by
  have hp:0<nb:=by
   have:=(List.getElem?_eq_some_iff.mp hy).1
   rw [List.length_reverse] at this
   lia
  rw [Ui hp hb] at hy
  exact h hp y hy
 unfold Mh
 rw [show a.length-(na-1)=a.length-na+1 by lia]
 exact this
theorem Mh.takeB (C:Wo lt) {a b out:List Keyed}{na nb:Nat} (g:Mh lt a b out na nb) (sa:Ww lt a) (sb:Ww lt b) (h0:0<nb) (ha:na<=a.length) (hb:nb<=b.length) {x:Keyed} (e:b[nb-1]? = some x) (h:0<na -> ∀y,a[na-1]? = some y->lt x y=false):Mh lt a b (out ++ [x]) na (nb-1):=by
 have:=Mg.takeA (lt:=fun x y=>lt y x) C.flip g (List.pairwise_reverse.mpr sb) (List.pairwise_reverse.mpr sa) (x:=x) (by rw [Ui h0 hb];exact e) fun y hy=>by
  have hp:0<na:=by
   have:=(List.getElem?_eq_some_iff.mp hy).1
   rw [List.length_reverse] at this
   lia
  rw [Ui hp ha] at hy
  exact h hp y hy
 unfold Mh
 rw [show b.length-(nb-1)=b.length-nb+1 by lia]
 exact this
theorem Mh.takeAs (C:Wo lt) {a b out:List Keyed}{na nb:Nat} (g:Mh lt a b out na nb) (sa:Ww lt a) (sb:Ww lt b) (ha:na<=a.length) (hb:nb<=b.length) {m:Nat} (hm:m<=na) (h:∀i,m<=i->i<na -> ∀x y,a[i]? = some x->b[nb-1]? = some y->lt x y=false):Mh lt a b (out++((a.drop m).take (na-m)).reverse) m nb:=by
 have:=Mg.takeBs (lt:=fun x y=>lt y x) C.flip (List.pairwise_reverse.mpr sb) (List.pairwise_reverse.mpr sa) g (na-m) (by rw [List.length_reverse];lia) fun i hi x y hx hy=>by
  have hp:0<nb:=by
   have:=(List.getElem?_eq_some_iff.mp hy).1
   rw [List.length_reverse] at this
   lia
  rw [Ui hp hb] at hy
  rw [show a.length-na+i=a.length-(na-i) by lia,Ui (by lia) (by lia)] at hx
  exact h (na-i-1) (by lia) (by lia) x y hx hy
 unfold Mh
 rw [ZfR ha hm] at this
 rw [show a.length-m=a.length-na+(na-m) by lia]
 exact this
theorem Mh.takeBs (C:Wo lt) {a b out:List Keyed}{na nb:Nat} (g:Mh lt a b out na nb) (sa:Ww lt a) (sb:Ww lt b) (ha:na<=a.length) (hb:nb<=b.length) {m:Nat} (hm:m<=nb) (h:∀i,m<=i->i<nb -> ∀x y,b[i]? = some x->a[na-1]? = some y->lt x y=false):Mh lt a b (out++((b.drop m).take (nb-m)).reverse) na m:=by
 have:=Mg.takeAs (lt:=fun x y=>lt y x) C.flip (List.pairwise_reverse.mpr sb) (List.pairwise_reverse.mpr sa) g (nb-m) (by rw [List.length_reverse];lia) fun i hi x y hx hy=>by
  have hp:0<na:=by
   have:=(List.getElem?_eq_some_iff.mp hy).1
   rw [List.length_reverse] at this
   lia
  rw [Ui hp ha] at hy
  rw [show b.length-nb+i=b.length-(nb-i) by lia,Ui (by lia) (by lia)] at hx
  exact h (nb-i-1) (by lia) (by lia) x y hx hy
 unfold Mh
 rw [ZfR hb hm] at this
 rw [show b.length-m=b.length-nb+(nb-m) by lia]
 exact this
theorem ZL {l:Array Keyed}{m n:Nat}:(l.extract m n).toList=(l.toList.drop m).take (n-m):=by
 rw [Array.toList_extract,List.extract_eq_take_drop]
theorem JK {l:Array Keyed}{n:Nat}:(l.extract 0 n).toList=l.toList.take n:=by
 rw [Array.toList_extract,List.extract_eq_take_drop];simp
theorem Zhp (C:Cmp prog w A E s kd D lt) {a b:Array Keyed}{st:SortSt}{Q:Array Keyed->SortSt->Prop} (hda:∀x∈a.toList,D x) (hdb:∀x∈b.toList,D x) (sa:Ww lt a.toList) (sb:Ww lt b.toList) (hs:kindOf st=kd)
  (na0:0<a.toList.length) (nb0:0<b.toList.length) (hf:∀x y,a.toList[0]? = some x->b.toList[0]? = some y->lt x y=false) (hl:∀x,a.toList[a.toList.length-1]? = some x -> ∀y∈b.toList,lt x y=false)
  (h:∀r st',Mgd lt a.toList b.toList r.toList->Eqg st st'->Q r st'):wpS (model prog w) A E s (ZkI a b) Q st:=by
 have za:a.size=a.toList.length:=by simp
 have zb:b.size=b.toList.length:=by simp
 have ea:∀i,i<a.toList.length -> ∃x,a[i]? = some x/\D x/\a.toList[i]? = some x:=fun i hi=>⟨a.toList[i],by rw [<- Array.getElem?_toList];exact List.getElem?_eq_getElem hi,hda _ (List.getElem_mem hi),List.getElem?_eq_getElem hi⟩
 have eb:∀i,i<b.toList.length -> ∃x,b[i]? = some x/\D x/\b.toList[i]? = some x:=fun i hi=>⟨b.toList[i],by rw [<- Array.getElem?_toList];exact List.getElem?_eq_getElem hi,hdb _ (List.getElem_mem hi),List.getElem?_eq_getElem hi⟩
 have hfb:∀x,b.toList[0]? = some x -> ∀y∈a.toList,lt y x=false:=fun x hx y hy=>by
  obtain ⟨i,hi,rfl⟩:=List.getElem_of_mem hy
  obtain ⟨a0,_,_,la0⟩:=ea 0 na0
  exact C.wo.leT (hf a0 x la0 hx) (Zao C.wo sa la0 (List.getElem?_eq_getElem hi) (Nat.zero_le _))
 refine wpS_bind (wpS_lift (wpAny_rule ⟨rfl,?_⟩))
 obtain ⟨x0,hx0,dx0,lx0⟩:=ea (a.size-1) (by lia)
 refine wpS_bind (Yh hx0 ?_)
 have g0:Mh lt a.toList b.toList [x0] (a.size-1) b.size:=by
  have g:Mh lt a.toList b.toList [] a.toList.length b.toList.length:=⟨.nil,by
   simp only [Nat.sub_self,List.drop_zero,List.nil_append]
   exact List.Perm.refl _,fun p hp=>(by cases hp)⟩
  have:=g.takeA C.wo sa sb na0 (Nat.le_refl _) (Nat.le_refl _) (by rw [<- za];exact lx0) fun _ y hy=>hl x0 (by rw [<- za];exact lx0) y (List.mem_of_getElem? hy)
  rw [za,zb]
  exact this
 show wpS _ _ _ _ (if (a.size-1==0)=true then _ else if (b.size==1)=true then _ else _) _ _
 refine ZM (fun c1=>?_) (fun c1=>ZM (fun c2=>?_) (fun c2=>?_))
 ·refine wpS_pure (h _ st ?_ (Eqg.refl st))
  have:=g0.done sa sb (by lia) (by lia) (.inl (eq_of_beq c1))
  simp only [Array.toList_append,Array.toList_reverse,JK] at this ⊢
  exact this
 ·refine wpS_pure (h _ st ?_ (Eqg.refl st))
  have:=g0.firstB sa (by lia) (by lia) (eq_of_beq c2) hfb
  simp only [Array.toList_append,Array.toList_reverse,JK] at this ⊢
  exact this
 have c1':=Z8 c1
 have c2':=Z8 c2
 refine wpS_bind (wpS_get ?_)
 refine wpS_bind (wpS_mono (wpS_forRange (I:=fun x c st'=>∃(out:Array Keyed) (na nb mg:Nat),c=(none,na,nb,out,mg)/\Mh lt a.toList b.toList out.toList na nb/\0<na/\na<=a.toList.length/\1<nb/\nb<=b.toList.length/\x+na+nb<=a.size+b.size/\Eqg st st')
  (Q:=fun c st'=>∃r,c.1=some r/\Mgd lt a.toList b.toList r.toList/\Eqg st st') ?_ ?_ ⟨#[x0],a.size-1,b.size,_,rfl,g0,by lia,by lia,by lia,by lia,by lia,Eqg.refl st⟩) ?_)
 ·rintro x c st1 _ hx ⟨out,na,nb,mg,rfl,g,l1,l1',l2,l2',l3,q1⟩
  refine wpS_bind (wpS_mono (wpS_forRange (I:=fun y c st'=>st'=st1 /\ ∃(out:Array Keyed) (na nb ac bc:Nat),c=(none,na,nb,out,ac,bc)/\Mh lt a.toList b.toList out.toList na nb/\0<na/\na<=a.toList.length/\1<nb/\nb<=b.toList.length/\x+y+na+nb<=a.size+b.size)
   (Q:=fun c st'=>st'=st1/\((∃(out:Array Keyed) (na nb ac bc:Nat),c=(none,na,nb,out,ac,bc)/\Mh lt a.toList b.toList out.toList na nb/\0<na/\na<=a.toList.length/\1<nb/\nb<=b.toList.length/\x+1+na+nb<=a.size+b.size) ∨ ∃r,c.1=some r/\Mgd lt a.toList b.toList r.toList)) ?_ ?_ ⟨rfl,out,na,nb,0,0,rfl,g,l1,l1',l2,l2',l3⟩) ?_)
  ·rintro y c st' _ hy ⟨rfl,out,na,nb,ac,bc,rfl,g,l1,l1',l2,l2',l3⟩
   obtain ⟨xb,hb,db,lb⟩:=eb (nb-1) (by lia)
   obtain ⟨xa,ha,da,la⟩:=ea (na-1) (by lia)
   refine wpS_bind (Yh hb (wpS_bind (Yh ha (wpS_bind (C.cmp xb xa _ _ db da (q1.1.trans hs) ?_)))))
   cases e:lt xb xa with
   | true=>
    refine wpS_bind (Yh ha ?_)
    have g':=g.takeA C.wo sa sb l1 l1' l2' la fun _ y hy=>by rw [lb] at hy;cases hy;exact C.wo.asym _ _ e
    refine ZM (c:=(na-1==0)) (fun c3=>?_) (fun c3=>?_)
    ·refine wpS_pure ⟨rfl,.inr ⟨_,rfl,?_⟩⟩
     have:=g'.done sa sb (by lia) l2' (.inl (eq_of_beq c3))
     simp only [Array.toList_append,Array.toList_push,Array.toList_reverse,JK,ZL] at this ⊢
     exact this
    ·have c4:=Z8 c3
     dsimp only
     split
     ·exact wpS_pure ⟨rfl,.inl ⟨out.push xa,na-1,nb,_,_,rfl,by rw [Array.toList_push];exact g',by lia,by lia,l2,l2',by lia⟩⟩
     ·exact wpS_pure ⟨rfl,out.push xa,na-1,nb,_,_,rfl,by rw [Array.toList_push];exact g',by lia,by lia,l2,l2',by lia⟩
   | false=>
    refine wpS_bind (Yh hb ?_)
    have g':=g.takeB C.wo sa sb (by lia) l1' l2' lb fun _ y hy=>by rw [la] at hy;cases hy;exact e
    refine ZM (c:=(nb-1==1)) (fun c3=>?_) (fun c3=>?_)
    ·refine wpS_pure ⟨rfl,.inr ⟨_,rfl,?_⟩⟩
     have:=g'.firstB sa l1' (by lia) (eq_of_beq c3) hfb
     simp only [Array.toList_append,Array.toList_push,Array.toList_reverse,JK,ZL] at this ⊢
     exact this
    ·have c4:=Z8 c3
     dsimp only
     split
     ·exact wpS_pure ⟨rfl,.inl ⟨out.push xb,na,nb-1,_,_,rfl,by rw [Array.toList_push];exact g',l1,l1',by lia,by lia,by lia⟩⟩
     ·exact wpS_pure ⟨rfl,out.push xb,na,nb-1,_,_,rfl,by rw [Array.toList_push];exact g',l1,l1',by lia,by lia,by lia⟩
  ·rintro c st' ⟨rfl,out,na,nb,ac,bc,rfl,g,l1,l1',l2,l2',l3⟩
   lia
  ·rintro c st' ⟨rfl,⟨out,na,nb,ac,bc,rfl,g,l1,l1',l2,l2',l3⟩ | ⟨r,hr,hm⟩⟩
   ·refine wpS_bind (wpS_lift (wpAny_rule ⟨rfl,?_⟩))
    refine wpS_bind (wpS_mono (wpS_forRange (I:=fun y c st'=>Eqg st st' /\ ∃(out:Array Keyed) (na nb mg ac bc:Nat),c=(none,na,nb,out,mg,ac,bc)/\Mh lt a.toList b.toList out.toList na nb/\0<na/\na<=a.toList.length/\1<nb/\nb<=b.toList.length/\x+1+y+na+nb<=a.size+b.size)
     (Q:=fun c st'=>Eqg st st'/\((∃(out:Array Keyed) (na nb mg ac bc:Nat),c=(none,na,nb,out,mg,ac,bc)/\Mh lt a.toList b.toList out.toList na nb/\0<na/\na<=a.toList.length/\1<nb/\nb<=b.toList.length/\x+1+na+nb<=a.size+b.size) ∨ ∃r,c.1=some r/\Mgd lt a.toList b.toList r.toList)) ?_ ?_ ⟨q1,out,na,nb,_,ac,bc,rfl,g,l1,l1',l2,l2',l3⟩) ?_)
    ·rintro y c st2 _ hy ⟨q2,out,na,nb,mg,ac,bc,rfl,g,l1,l1',l2,l2',l3⟩
     obtain ⟨xb,hb,db,lb⟩:=eb (nb-1) (by lia)
     refine JL (k:=mg) (n:=1) (fun _=>?_) (fun _=>?_)
     all_goals (
      refine wpS_bind (wpS_modify ?_)
      refine wpS_bind (Yh hb ?_)
      refine wpS_bind (Ju (left:=false) (arr:=a) (base:=0) (n:=na) (hint:=na-1) C db (fun i hi=>let ⟨x,h1,h2,_⟩:=ea (0+i) (by lia);⟨x,h1,h2⟩) (by lia) (q2.1.trans hs) (GD C sa (by lia)) fun k hk k1 k2=>?_)
      have gk:=g.takeAs C.wo sa sb (by lia) (by lia) (m:=k) (by lia) fun i h1 h2 x y hx hy=>by
       have:=k2 i h1 h2
       rw [JS (by rw [Nat.zero_add];exact hx)] at this
       rw [lb] at hy
       cases hy
       exact C.wo.asym _ _ (by simpa using this)
      have m3:0<k -> ∀y,a.toList[k-1]? = some y->lt xb y=false:=fun hp y hy=>by
       have:=k1 (k-1) (by lia)
       rw [JS (by rw [Nat.zero_add];exact hy)] at this
       simpa using this
      refine JL (k:=na-k) (n:=0) (fun k0=>?_) (fun k0=>?_)
      ·refine ZM (c:=(k==0)) (fun c3=>?_) (fun c3=>?_)
       ·refine wpS_pure ⟨q2,.inr ⟨_,rfl,?_⟩⟩
        have:=gk.done sa sb (by lia) (by lia) (.inl (eq_of_beq c3))
        simp only [Array.toList_append,Array.toList_push,Array.toList_reverse,JK,ZL] at this ⊢
        exact this
       ·have c3':=Z8 c3
        have g1:Mh lt a.toList b.toList (out++(a.extract k na).reverse).toList k nb:=by
         simp only [Array.toList_append,Array.toList_push,Array.toList_reverse,JK,ZL] at gk ⊢
         exact gk
        refine wpS_bind (Yh hb ?_)
        have g2:=g1.takeB C.wo sa sb (by lia) (by lia) (by lia) lb m3
        refine ZM (c:=(nb-1==1)) (fun c5=>?_) (fun c5=>?_)
        ·refine wpS_pure ⟨q2,.inr ⟨_,rfl,?_⟩⟩
         have:=g2.firstB sa (by lia) (by lia) (eq_of_beq c5) hfb
         simp only [Array.toList_append,Array.toList_push,Array.toList_reverse,JK,ZL] at this ⊢
         exact this
        ·have c6:=Z8 c5
         obtain ⟨xa,ha,da,la⟩:=ea (k-1) (by lia)
         refine wpS_bind (Yh ha ?_)
         refine wpS_bind (Ju (left:=true) (arr:=b) (base:=0) (n:=nb-1) (hint:=nb-1-1) C da (fun i hi=>let ⟨x,h1,h2,_⟩:=eb (0+i) (by lia);⟨x,h1,h2⟩) (by lia) (q2.1.trans hs) (GD C sb (by lia)) fun k' hk' k1' k2'=>?_)
         have gk':=g2.takeBs C.wo sa sb (by lia) (by lia) (m:=k') (by lia) fun i h1 h2 x y hx hy=>by
          have:=k2' i h1 h2
          rw [Y4 (by rw [Nat.zero_add];exact hx)] at this
          rw [la] at hy
          cases hy
          exact this
         have m5:0<k' -> ∀y,b.toList[k'-1]? = some y->lt xa y=false:=fun hp y hy=>by
          have:=k1' (k'-1) (by lia)
          rw [Y4 (by rw [Nat.zero_add];exact hy)] at this
          exact C.wo.asym _ _ this
         refine JL (k:=nb-1-k') (n:=0) (fun k0'=>?_) (fun k0'=>?_)
         ·refine ZM (c:=(k'==1)) (fun c9=>?_) (fun c9=>ZM (c:=(k'==0)) (fun c10=>?_) (fun c10=>?_))
          ·refine wpS_pure ⟨q2,.inr ⟨_,rfl,?_⟩⟩
           have:=gk'.firstB sa (by lia) (by lia) (eq_of_beq c9) hfb
           simp only [Array.toList_append,Array.toList_push,Array.toList_reverse,JK,ZL] at this ⊢
           exact this
          ·refine wpS_pure ⟨q2,.inr ⟨_,rfl,?_⟩⟩
           have:=gk'.done sa sb (by lia) (by lia) (.inr (eq_of_beq c10))
           simp only [Array.toList_append,Array.toList_push,Array.toList_reverse,JK,ZL] at this ⊢
           exact this
          ·have c9':=Z8 c9
           have c10':=Z8 c10
           have m4:=m5
           have g3:Mh lt a.toList b.toList (((out++(a.extract k na).reverse).push xb)++(b.extract k' (nb-1)).reverse).toList (k) k':=by
            simp only [Array.toList_append,Array.toList_push,Array.toList_reverse,JK,ZL] at gk' ⊢
            exact gk'
           refine wpS_bind (Yh ha ?_)
           have g4:=g3.takeA C.wo sa sb (by lia) (by lia) (by lia) la m4
           refine ZM (c:=((k)-1==0)) (fun c7=>?_) (fun c7=>?_)
           ·refine wpS_pure ⟨q2,.inr ⟨_,rfl,?_⟩⟩
            have:=g4.done sa sb (by lia) (by lia) (.inl (eq_of_beq c7))
            simp only [Array.toList_append,Array.toList_push,Array.toList_reverse,JK,ZL] at this ⊢
            exact this
           ·have c8:=Z8 c7
            refine ZM (fun _=>?_) (fun _=>?_)
            ·exact wpS_pure ⟨q2,.inl ⟨(((out++(a.extract k na).reverse).push xb)++(b.extract k' (nb-1)).reverse).push xa,(k)-1,k',_,_,_,rfl,by rw [Array.toList_push];exact g4,by lia,by lia,by lia,by lia,by lia⟩⟩
            ·exact wpS_pure ⟨q2,(((out++(a.extract k na).reverse).push xb)++(b.extract k' (nb-1)).reverse).push xa,(k)-1,k',_,_,_,rfl,by rw [Array.toList_push];exact g4,by lia,by lia,by lia,by lia,by lia⟩
         ·obtain rfl:k'=nb-1:=by lia
          have m4:=m5
          have g3:Mh lt a.toList b.toList ((out++(a.extract k na).reverse).push xb).toList (k) (nb-1):=by
           rw [Array.toList_push]
           exact g2
          refine wpS_bind (Yh ha ?_)
          have g4:=g3.takeA C.wo sa sb (by lia) (by lia) (by lia) la m4
          refine ZM (c:=((k)-1==0)) (fun c7=>?_) (fun c7=>?_)
          ·refine wpS_pure ⟨q2,.inr ⟨_,rfl,?_⟩⟩
           have:=g4.done sa sb (by lia) (by lia) (.inl (eq_of_beq c7))
           simp only [Array.toList_append,Array.toList_push,Array.toList_reverse,JK,ZL] at this ⊢
           exact this
          ·have c8:=Z8 c7
           refine ZM (fun _=>?_) (fun _=>?_)
           ·exact wpS_pure ⟨q2,.inl ⟨((out++(a.extract k na).reverse).push xb).push xa,(k)-1,(nb-1),_,_,_,rfl,by rw [Array.toList_push];exact g4,by lia,by lia,by lia,by lia,by lia⟩⟩
           ·exact wpS_pure ⟨q2,((out++(a.extract k na).reverse).push xb).push xa,(k)-1,(nb-1),_,_,_,rfl,by rw [Array.toList_push];exact g4,by lia,by lia,by lia,by lia,by lia⟩
      ·obtain rfl:k=na:=by lia
       have g1:=g
       refine wpS_bind (Yh hb ?_)
       have g2:=g1.takeB C.wo sa sb (by lia) (by lia) (by lia) lb m3
       refine ZM (c:=(nb-1==1)) (fun c5=>?_) (fun c5=>?_)
       ·refine wpS_pure ⟨q2,.inr ⟨_,rfl,?_⟩⟩
        have:=g2.firstB sa (by lia) (by lia) (eq_of_beq c5) hfb
        simp only [Array.toList_append,Array.toList_push,Array.toList_reverse,JK,ZL] at this ⊢
        exact this
       ·have c6:=Z8 c5
        obtain ⟨xa,ha,da,la⟩:=ea (k-1) (by lia)
        refine wpS_bind (Yh ha ?_)
        refine wpS_bind (Ju (left:=true) (arr:=b) (base:=0) (n:=nb-1) (hint:=nb-1-1) C da (fun i hi=>let ⟨x,h1,h2,_⟩:=eb (0+i) (by lia);⟨x,h1,h2⟩) (by lia) (q2.1.trans hs) (GD C sb (by lia)) fun k' hk' k1' k2'=>?_)
        have gk':=g2.takeBs C.wo sa sb (by lia) (by lia) (m:=k') (by lia) fun i h1 h2 x y hx hy=>by
         have:=k2' i h1 h2
         rw [Y4 (by rw [Nat.zero_add];exact hx)] at this
         rw [la] at hy
         cases hy
         exact this
        have m5:0<k' -> ∀y,b.toList[k'-1]? = some y->lt xa y=false:=fun hp y hy=>by
         have:=k1' (k'-1) (by lia)
         rw [Y4 (by rw [Nat.zero_add];exact hy)] at this
         exact C.wo.asym _ _ this
        refine JL (k:=nb-1-k') (n:=0) (fun k0'=>?_) (fun k0'=>?_)
        ·refine ZM (c:=(k'==1)) (fun c9=>?_) (fun c9=>ZM (c:=(k'==0)) (fun c10=>?_) (fun c10=>?_))
         ·refine wpS_pure ⟨q2,.inr ⟨_,rfl,?_⟩⟩
          have:=gk'.firstB sa (by lia) (by lia) (eq_of_beq c9) hfb
          simp only [Array.toList_append,Array.toList_push,Array.toList_reverse,JK,ZL] at this ⊢
          exact this
         ·refine wpS_pure ⟨q2,.inr ⟨_,rfl,?_⟩⟩
          have:=gk'.done sa sb (by lia) (by lia) (.inr (eq_of_beq c10))
          simp only [Array.toList_append,Array.toList_push,Array.toList_reverse,JK,ZL] at this ⊢
          exact this
         ·have c9':=Z8 c9
          have c10':=Z8 c10
          have m4:=m5
          have g3:Mh lt a.toList b.toList ((out.push xb)++(b.extract k' (nb-1)).reverse).toList (k) k':=by
           simp only [Array.toList_append,Array.toList_push,Array.toList_reverse,JK,ZL] at gk' ⊢
           exact gk'
          refine wpS_bind (Yh ha ?_)
          have g4:=g3.takeA C.wo sa sb (by lia) (by lia) (by lia) la m4
          refine ZM (c:=((k)-1==0)) (fun c7=>?_) (fun c7=>?_)
          ·refine wpS_pure ⟨q2,.inr ⟨_,rfl,?_⟩⟩
           have:=g4.done sa sb (by lia) (by lia) (.inl (eq_of_beq c7))
           simp only [Array.toList_append,Array.toList_push,Array.toList_reverse,JK,ZL] at this ⊢
           exact this
          ·have c8:=Z8 c7
           refine ZM (fun _=>?_) (fun _=>?_)
           ·exact wpS_pure ⟨q2,.inl ⟨((out.push xb)++(b.extract k' (nb-1)).reverse).push xa,(k)-1,k',_,_,_,rfl,by rw [Array.toList_push];exact g4,by lia,by lia,by lia,by lia,by lia⟩⟩
           ·exact wpS_pure ⟨q2,((out.push xb)++(b.extract k' (nb-1)).reverse).push xa,(k)-1,k',_,_,_,rfl,by rw [Array.toList_push];exact g4,by lia,by lia,by lia,by lia,by lia⟩
        ·obtain rfl:k'=nb-1:=by lia
         have m4:=m5
         have g3:Mh lt a.toList b.toList (out.push xb).toList (k) (nb-1):=by
          rw [Array.toList_push]
          exact g2
         refine wpS_bind (Yh ha ?_)
         have g4:=g3.takeA C.wo sa sb (by lia) (by lia) (by lia) la m4
         refine ZM (c:=((k)-1==0)) (fun c7=>?_) (fun c7=>?_)
         ·refine wpS_pure ⟨q2,.inr ⟨_,rfl,?_⟩⟩
          have:=g4.done sa sb (by lia) (by lia) (.inl (eq_of_beq c7))
          simp only [Array.toList_append,Array.toList_push,Array.toList_reverse,JK,ZL] at this ⊢
          exact this
         ·have c8:=Z8 c7
          refine ZM (fun _=>?_) (fun _=>?_)
          ·exact wpS_pure ⟨q2,.inl ⟨(out.push xb).push xa,(k)-1,(nb-1),_,_,_,rfl,by rw [Array.toList_push];exact g4,by lia,by lia,by lia,by lia,by lia⟩⟩
          ·exact wpS_pure ⟨q2,(out.push xb).push xa,(k)-1,(nb-1),_,_,_,rfl,by rw [Array.toList_push];exact g4,by lia,by lia,by lia,by lia,by lia⟩)
    ·rintro c st' ⟨q2,out,na,nb,mg,ac,bc,rfl,g,l1,l1',l2,l2',l3⟩
     lia
    ·rintro c st' ⟨q2,⟨out,na,nb,mg,ac,bc,rfl,g,l1,l1',l2,l2',l3⟩ | ⟨r,hr,hm⟩⟩
     ·exact wpS_bind (wpS_modify (wpS_pure ⟨out,na,nb,_,rfl,g,l1,l1',l2,l2',l3,q2⟩))
     ·obtain ⟨c1,c2⟩:=c
      dsimp only at hr
      subst hr
      exact wpS_pure ⟨r,rfl,hm,q2⟩
   ·obtain ⟨c1,c2⟩:=c
    dsimp only at hr
    subst hr
    exact wpS_pure ⟨r,rfl,hm,q1⟩
 ·rintro c st' ⟨out,na,nb,mg,rfl,g,l1,l1',l2,l2',l3,q1⟩
  lia
 ·rintro c st' ⟨r,hr,hm,q1⟩
  obtain ⟨c1,c2⟩:=c
  dsimp only at hr
  subst hr
  exact wpS_pure (h r st' hm q1)
end
def Zi9:Nat->Nat->StateT SortSt Sem (Option Nat):=sortPriv% PySem.Builtin.countRun
def Zf9:Nat->Nat->Nat->StateT SortSt Sem Bool:=sortPriv% PySem.Builtin.binarySort
def ZiV:StateT SortSt Sem Unit:=sortPriv% PySem.Builtin.sortRuns
theorem ZfA:∀(M:List Keyed) (n o:Nat) (arr:Array Keyed) (A B C:List Keyed),arr.toList=A++(B++C)->A.length=o+n->B.length=M.length ->
  ((M.zipIdx n).foldl (fun a x=>match x with | (p,j)=>a.setIfInBounds (o+j) p) arr).toList=A++(M++C)
 | [],n,o,arr,A,B,C,h,_,hb=>by
  obtain rfl:B = []:=List.length_eq_zero_iff.mp hb
  simpa using h
 | x::M,n,o,arr,A,[],C,h,_,hb=>by cases hb
 | x::M,n,o,arr,A,y::B,C,h,ha,hb=>by
  rw [List.zipIdx_cons,List.foldl_cons]
  have e:(arr.setIfInBounds (o+n) x).toList=(A ++ [x])++(B++C):=by
   rw [Array.toList_setIfInBounds,h,<- ha,List.set_append_right _ _ (Nat.le_refl _),Nat.sub_self]
   simp
  have:=ZfA M (n+1) o _ (A ++ [x]) B C e (by simp;lia) (by simpa using hb)
  rw [this]
  simp
section
variable {prog:Program}{w:World}{A:Around}{E:Value->Shared->Prop}{s:Shared}{kd:SortKind}{D:Keyed->Prop}{lt:Keyed->Keyed->Bool}
theorem ZmO {M:Model}{st st':SortSt}{Q:PUnit->SortSt->Prop} (h:Q ⟨⟩ st'):wpS M A E s (set st':StateT SortSt Sem PUnit) Q st:=by
 unfold wpS;rw [StateT.run_set];exact wpAny_pure ⟨rfl,h⟩
theorem Zae {left:Bool}{key:Keyed}{arr:Array Keyed}{base i:Nat}{x:Keyed} (e:arr.toList[base+i]? = some x):byd lt left key arr base i=if left=true then lt x key else !lt key x:=by
 cases left with
 | true=>rw [Y4 e];rfl
 | false=>rw [JS e];rfl
theorem Zer (C:Wo lt) {left:Bool}{key:Keyed}{arr:Array Keyed}{base:Nat}{X:List Keyed} (hX:∀i,i<X.length->arr.toList[base+i]? = X[i]?) (sX:Ww lt X):
  ∀i j,i<=j->j<X.length->byd lt left key arr base j=true->byd lt left key arr base i=true:=fun i j hij hj h=>by
 have hi:i<X.length:=by lia
 have ei:arr.toList[base+i]? = some X[i]:=by rw [hX i hi,List.getElem?_eq_getElem hi]
 have ej:arr.toList[base+j]? = some X[j]:=by rw [hX j hj,List.getElem?_eq_getElem hj]
 have le:=Zao C sX (List.getElem?_eq_getElem (by lia:i<X.length)) (List.getElem?_eq_getElem hj) hij
 rw [Zae ej] at h
 rw [Zae ei]
 cases left with
 | true=>
  simp only [if_true] at h ⊢
  rcases C.neg _ (X[i]'(by lia)) _ h with z | z
  ·rw [z] at le;cases le
  ·exact z
 | false=>
  simp only [Bool.false_eq_true,if_false] at h ⊢
  cases z:lt key (X[i]'(by lia)) with
  | false=>rfl
  | true=>
   rcases C.neg _ (X[j]'hj) _ z with y | y
   ·rw [y] at h;cases h
   ·rw [y] at le;cases le
theorem Zhx (C:Cmp prog w A E s kd D lt) {i sa na pw sb nb pw2:Nat}{st:SortSt}{P X Y S:List Keyed}{Q:Bool->SortSt->Prop}
  (hp1:(pendingOf st)[i]? = some (sa,na,pw)) (hp2:(pendingOf st)[i+1]? = some (sb,nb,pw2)) (hA:(arrOf st).toList=P++(X++(Y++S))) (hsa:sa=P.length) (hna:na=X.length) (hsb:sb=P.length+X.length) (hnb:nb=Y.length)
  (x0:0<X.length) (y0:0<Y.length) (sX:Ww lt X) (sY:Ww lt Y) (hD:∀x∈(arrOf st).toList,D x) (hk:kindOf st=kd) (hf:failedOf st=none)
  (h:∀Z st',Ww lt Z->Z.Perm (X++Y)->(arrOf st').toList=P++(Z++S)->pendingOf st'=((pendingOf st).setIfInBounds i (sa,na+nb,pw)).eraseIdxIfInBounds (i+1)->kindOf st'=kd->failedOf st'=none->Q true st'):
  wpS (model prog w) A E s (Zgd i) Q st:=by
 subst hsa hna hsb hnb
 have eX:∀j,j<X.length->(arrOf st).toList[P.length+j]? = X[j]?:=fun j hj=>by
  rw [hA,List.getElem?_append_right (by omega),Nat.add_sub_cancel_left,List.getElem?_append_left hj]
 have eY:∀j,j<Y.length->(arrOf st).toList[P.length+X.length+j]? = Y[j]?:=fun j hj=>by
  rw [hA,List.getElem?_append_right (by omega),List.getElem?_append_right (by omega),List.getElem?_append_left (by omega)]
  congr 1;omega
 have dX:∀x∈X,D x:=fun x hx=>hD x (by rw [hA];simp [hx])
 have dY:∀x∈Y,D x:=fun x hx=>hD x (by rw [hA];simp [hx])
 refine wpS_bind (wpS_get ?_)
 rw [show (sortPriv% PySem.Builtin.SortState.pending) st=pendingOf st from rfl,hp1,hp2]
 refine wpS_bind (ZmO ?_)
 have ey0:(arrOf st)[P.length+X.length]? = some (Y[0]'y0):=by
  have:=eY 0 y0
  rw [<- Array.getElem?_toList,Nat.add_zero] at *
  rw [this,List.getElem?_eq_getElem y0]
 refine wpS_bind (Yh ey0 ?_)
 refine wpS_bind (Ju (left:=false) (arr:=arrOf st) (base:=P.length) (n:=X.length) (hint:=0) C (dY _ (List.getElem_mem y0)) (fun j hj=>⟨X[j],by rw [<- Array.getElem?_toList,eX j hj,List.getElem?_eq_getElem hj],dX _ (List.getElem_mem hj)⟩) x0 hk (Zer C.wo eX sX) fun k hk1 k1 k2=>?_)
 have f1:∀j (hj:j<X.length),j<k->lt (Y[0]'y0) X[j]=false:=fun j hj hjk=>by
  have:=k1 j hjk
  rw [Zae (by rw [eX j hj,List.getElem?_eq_getElem hj])] at this
  simpa using this
 have f2:∀j (hj:j<X.length),k<=j->lt (Y[0]'y0) X[j]=true:=fun j hj hjk=>by
  have:=k2 j hjk hj
  rw [Zae (by rw [eX j hj,List.getElem?_eq_getElem hj])] at this
  simpa using this
 have lowX:∀x∈X.take k,∀y∈Y,lt y x=false:=fun x hx y hy=>by
  obtain ⟨j,hj,rfl⟩:=List.getElem_of_mem hx
  rw [List.length_take] at hj
  rw [List.getElem_take]
  obtain ⟨j2,hj2,rfl⟩:=List.getElem_of_mem hy
  exact C.wo.leT (f1 j (by omega) (by omega)) (Zao C.wo sY (List.getElem?_eq_getElem y0) (List.getElem?_eq_getElem hj2) (Nat.zero_le _))
 refine ZM (c:=(X.length-k==0)) (fun c1=>?_) (fun c1=>?_)
 ·refine wpS_pure (h (X++Y) _ ?_ (List.Perm.refl _) (by rw [List.append_assoc];exact hA) rfl hk hf)
  have ek:X.take k=X:=List.take_of_length_le (by have:=eq_of_beq c1;omega)
  rw [ek] at lowX
  exact List.pairwise_append.mpr ⟨sX,sY,lowX⟩
 have c1':=Z8 c1
 have exl:(arrOf st)[P.length+k+(X.length-k)-1]? = some (X[X.length-1]'(by omega)):=by
  have:=eX (X.length-1) (by omega)
  rw [<- Array.getElem?_toList,show P.length+k+(X.length-k)-1=P.length+(X.length-1) by omega,this,List.getElem?_eq_getElem (by omega)]
 refine wpS_bind (Yh exl ?_)
 refine wpS_bind (Ju (left:=true) (arr:=arrOf st) (base:=P.length+X.length) (n:=Y.length) (hint:=Y.length-1) C (dX _ (List.getElem_mem (by omega))) (fun j hj=>⟨Y[j],by rw [<- Array.getElem?_toList,eY j hj,List.getElem?_eq_getElem hj],dY _ (List.getElem_mem hj)⟩) (by omega) hk (Zer C.wo eY sY) fun m hm1 m1 m2=>?_)
 have f3:∀j (hj:j<Y.length),j<m->lt Y[j] (X[X.length-1]'(by omega))=true:=fun j hj hjm=>by
  have:=m1 j hjm
  rw [Zae (by rw [eY j hj,List.getElem?_eq_getElem hj])] at this
  simpa using this
 have f4:∀j (hj:j<Y.length),m<=j->lt Y[j] (X[X.length-1]'(by omega))=false:=fun j hj hjm=>by
  have:=m2 j hjm hj
  rw [Zae (by rw [eY j hj,List.getElem?_eq_getElem hj])] at this
  simpa using this
 have m0:m≠0:=fun z=>by
  have:=f4 0 y0 (by omega)
  rw [f2 (X.length-1) (by omega) (by omega)] at this
  cases this
 refine ZM (c:=(m==0)) (fun c2=>absurd (eq_of_beq c2) m0) (fun c2=>?_)
 have tx:((arrOf st).extract (P.length+k) (P.length+X.length)).toList=X.drop k:=by
  rw [ZL,hA,List.drop_append,List.drop_eq_nil_of_le (by omega),List.nil_append,show P.length+k-P.length=k by omega,List.drop_append_of_le_length (by omega),List.take_append_of_le_length (by rw [List.length_drop];omega),List.take_of_length_le (by rw [List.length_drop];omega)]
 have ty:((arrOf st).extract (P.length+X.length) (P.length+X.length+m)).toList=Y.take m:=by
  rw [ZL,hA,<- List.append_assoc,List.drop_append,List.drop_eq_nil_of_le (by simp),List.nil_append,List.length_append,Nat.sub_self,List.drop_zero,List.take_append_of_le_length (by omega)]
  congr 1;omega
 have sX2:Ww lt (X.drop k):=JE sX k
 have sY1:Ww lt (Y.take m):=List.Pairwise.sublist (List.take_sublist _ _) sY
 have lX2:(X.drop k).length=X.length-k:=List.length_drop
 have lY1:(Y.take m).length=m:=by rw [List.length_take];omega
 have hff:∀x y,(X.drop k)[0]? = some x->(Y.take m)[0]? = some y->lt x y=false:=fun x y hx hy=>by
  rw [List.getElem?_drop,Nat.add_zero,List.getElem?_eq_getElem (by omega)] at hx
  rw [List.getElem?_take_of_lt (by omega),List.getElem?_eq_getElem y0] at hy
  cases hx;cases hy
  exact C.wo.asym _ _ (f2 k (by omega) (Nat.le_refl _))
 have hll:∀x,(X.drop k)[(X.drop k).length-1]? = some x -> ∀y∈Y.take m,lt x y=false:=fun x hx y hy=>by
  rw [lX2,List.getElem?_drop,show k+(X.length-k-1)=X.length-1 by omega,List.getElem?_eq_getElem (by omega)] at hx
  cases hx
  obtain ⟨j,hj,rfl⟩:=List.getElem_of_mem hy
  rw [lY1] at hj
  rw [List.getElem_take]
  exact C.wo.asym _ _ (f3 j (by omega) hj)
 have fin:∀(r:Array Keyed) (st':SortSt),Mgd lt (X.drop k) (Y.take m) r.toList->Eqg (SortSt.mk' (kindOf st) (arrOf st) (((pendingOf st).setIfInBounds i (P.length,X.length+Y.length,pw)).eraseIdxIfInBounds (i+1)) (gallopOf st) (failedOf st)) st' ->
   Q true (SortSt.mk' (kindOf st') (List.foldl (fun a x=>match x with | (p,j)=>a.setIfInBounds (P.length+k+j) p) (arrOf st') r.toList.zipIdx) (pendingOf st') (gallopOf st') (failedOf st')):=fun r st' hm q=>by
  obtain ⟨q1,q2,q3,q4⟩:=q
  refine h (X.take k++(r.toList++Y.drop m)) _ ?_ ?_ ?_ q3 (q1.trans hk) (q4.trans hf)
  ·have rle:∀p∈r.toList,∀q∈Y.drop m,lt q p=false:=fun p hp q hq=>by
    have hq':∃j,∃hj:j<Y.length,m<=j/\Y[j]=q:=by
     obtain ⟨j,hj,rfl⟩:=List.getElem_of_mem hq
     rw [List.length_drop] at hj
     exact ⟨m+j,by omega,by omega,by rw [List.getElem_drop]⟩
    obtain ⟨j,hj,hmj,rfl⟩:=hq'
    rcases List.mem_append.mp (hm.2.mem_iff.mp hp) with z | z
    ·obtain ⟨j2,hj2,rfl⟩:=List.getElem_of_mem (List.mem_of_mem_drop z)
     exact C.wo.leT (Zao C.wo sX (List.getElem?_eq_getElem hj2) (List.getElem?_eq_getElem (by omega:X.length-1<X.length)) (by omega)) (f4 j hj hmj)
    ·obtain ⟨j2,hj2,rfl⟩:=List.getElem_of_mem z
     rw [lY1] at hj2
     rw [List.getElem_take]
     exact Zao C.wo sY (List.getElem?_eq_getElem (by omega)) (List.getElem?_eq_getElem hj) (by omega)
   refine List.pairwise_append.mpr ⟨List.Pairwise.sublist (List.take_sublist _ _) sX,List.pairwise_append.mpr ⟨hm.1,JE sY m,rle⟩,fun p hp q hq=>?_⟩
   rcases List.mem_append.mp hq with z | z
   ·rcases List.mem_append.mp (hm.2.mem_iff.mp z) with y | y
    ·have:Ww lt (X.take k++X.drop k):=by rw [List.take_append_drop];exact sX
     exact (List.pairwise_append.mp this).2.2 p hp q y
    ·exact lowX p hp q (List.mem_of_mem_take y)
   ·exact lowX p hp q (List.mem_of_mem_drop z)
  ·have e1:(X.take k++(r.toList++Y.drop m)).Perm (X.take k++((X.drop k++Y.take m)++Y.drop m)):=List.Perm.append_left _ (hm.2.append_right _)
   refine e1.trans ?_
   rw [List.append_assoc,List.take_append_drop,<- List.append_assoc,List.take_append_drop]
  ·show (List.foldl _ (arrOf st') r.toList.zipIdx).toList=_
   rw [q2]
   have:=ZfA r.toList 0 (P.length+k) (arrOf st) (P++X.take k) (X.drop k++Y.take m) (Y.drop m++S) (by
    show (arrOf st).toList=_
    rw [hA]
    have e1:X=X.take k++X.drop k:=(List.take_append_drop k X).symm
    have e2:Y=Y.take m++Y.drop m:=(List.take_append_drop m Y).symm
    conv=>lhs;rw [e1,e2]
    simp only [List.append_assoc]) (by rw [List.length_append,List.length_take];omega) hm.2.length_eq.symm
   rw [show (List.foldl (fun a x=>match x with | (p,j)=>a.setIfInBounds (P.length+k+j) p) (arrOf st) r.toList.zipIdx)=_ from rfl] at this
   rw [this]
   simp only [List.append_assoc]
 have dx:∀x∈((arrOf st).extract (P.length+k) (P.length+X.length)).toList,D x:=fun x hx=>dX x (by rw [tx] at hx;exact List.mem_of_mem_drop hx)
 have dy:∀x∈((arrOf st).extract (P.length+X.length) (P.length+X.length+m)).toList,D x:=fun x hx=>dY x (by rw [ty] at hx;exact List.mem_of_mem_take hx)
 show wpS _ _ _ _ (if X.length-k<=m then _ else _) _ _
 by_cases c3:X.length-k<=m
 ·rw [if_pos c3]
  refine wpS_bind (Zhk (a:=(arrOf st).extract (P.length+k) (P.length+X.length)) (b:=(arrOf st).extract (P.length+X.length) (P.length+X.length+m)) C dx dy (by rw [tx];exact sX2) (by rw [ty];exact sY1) hk (by rw [tx,lX2];omega) (by rw [ty,lY1];omega) (by rw [tx,ty];exact hff) (by rw [tx,ty];exact hll) fun r st' hm q=>?_)
  rw [tx,ty] at hm
  refine wpS_bind (wpS_modify (wpS_bind (wpS_get (wpS_pure ?_))))
  have e:(failedOf st').isNone=true:=by rw [q.2.2.2];show (failedOf st).isNone=true;rw [hf];rfl
  have:=fin r st' hm q
  rw [<- e] at this
  exact this
 ·rw [if_neg c3]
  refine wpS_bind (Zhp (a:=(arrOf st).extract (P.length+k) (P.length+X.length)) (b:=(arrOf st).extract (P.length+X.length) (P.length+X.length+m)) C dx dy (by rw [tx];exact sX2) (by rw [ty];exact sY1) hk (by rw [tx,lX2];omega) (by rw [ty,lY1];omega) (by rw [tx,ty];exact hff) (by rw [tx,ty];exact hll) fun r st' hm q=>?_)
  rw [tx,ty] at hm
  refine wpS_bind (wpS_modify (wpS_bind (wpS_get (wpS_pure ?_))))
  have e:(failedOf st').isNone=true:=by rw [q.2.2.2];show (failedOf st).isNone=true;rw [hf];rfl
  have:=fin r st' hm q
  rw [<- e] at this
  exact this
end
section
variable {prog:Program}{w:World}{A:Around}{E:Value->Shared->Prop}{s:Shared}{kd:SortKind}{D:Keyed->Prop}{lt:Keyed->Keyed->Bool}
def ZbV (lt:Keyed->Keyed->Bool) (arr:Array Keyed) (lo m:Nat):Prop:=∀i j p q,i<=j->j<m->arr[lo+i]? = some p->arr[lo+j]? = some q->lt q p=false
def Za6 (lt:Keyed->Keyed->Bool) (arr:Array Keyed) (lo m:Nat):Prop:=∀i j p q,i<=j->j<m->arr[lo+i]? = some p->arr[lo+j]? = some q->lt p q=false
def EqS (lt:Keyed->Keyed->Bool) (arr:Array Keyed) (b e:Nat):Prop:=∀i j p q,b<=i->i<e->b<=j->j<e->arr[i]? = some p->arr[j]? = some q->lt p q=false
structure Kp (lo n:Nat) (st st':SortSt):Prop where
 kind:kindOf st'=kindOf st
 pend:pendingOf st'=pendingOf st
 fail:failedOf st'=failedOf st
 perm:(arrOf st').toList.Perm (arrOf st).toList
 out:∀i,i<lo∨lo+n<=i->(arrOf st')[i]? = (arrOf st)[i]?
theorem Kp.refl (lo n:Nat) (st:SortSt):Kp lo n st st:=⟨rfl,rfl,rfl,.refl _,fun _ _=>rfl⟩
theorem Kp.trans {lo n:Nat}{a b c:SortSt} (x:Kp lo n a b) (y:Kp lo n b c):Kp lo n a c:=⟨y.kind.trans x.kind,y.pend.trans x.pend,y.fail.trans x.fail,y.perm.trans x.perm,fun i h=>(y.out i h).trans (x.out i h)⟩
theorem Kp.size {lo n:Nat}{a b:SortSt} (x:Kp lo n a b):(arrOf b).size=(arrOf a).size:=by
 have:=x.perm.length_eq
 simpa using this
theorem ZfG {arr:Array Keyed}{i:Nat} (h:i<arr.size):∃x,arr[i]? = some x:=⟨arr[i],getElem?_pos arr i h⟩
theorem JF (C:Cmp prog w A E s kd D lt) {st:SortSt}{i j:Nat}{Q:Option Bool->SortSt->Prop} (hi:i<(arrOf st).size) (hj:j<(arrOf st).size) (hD:∀x∈(arrOf st).toList,D x) (hk:kindOf st=kd)
  (h:∀p q,(arrOf st)[i]? = some p->(arrOf st)[j]? = some q->Q (some (lt p q)) st):wpS (model prog w) A E s (ltAt' i j) Q st:=by
 obtain ⟨p,hp⟩:=ZfG hi
 obtain ⟨q,hq⟩:=ZfG hj
 rw [ltAt'_eq]
 refine wpS_bind (wpS_get ?_)
 show wpS _ _ _ _ (elem' (arrOf st) i >>= fun x=>elem' (arrOf st) j >>= fun y=>lt' x y) Q st
 refine wpS_bind (Yh hp (wpS_bind (Yh hq (C.cmp p q st Q (hD p ?_) (hD q ?_) hk (h p q hp hq)))))
 ·exact List.mem_of_getElem? (by rw [Array.getElem?_toList];exact hp)
 ·exact List.mem_of_getElem? (by rw [Array.getElem?_toList];exact hq)
theorem Ue {M:Model}{i j:Nat}{st:SortSt}{Q:Unit->SortSt->Prop} (h:Q () (setArr st (mirror (arrOf st) i j ((j-i) / 2)))):wpS M A E s (reverseSlice' i j) Q st:=by
 rw [reverseSlice'_eq];exact wpS_modify h
theorem Ja {lo n i j:Nat}{st:SortSt} (h1:lo<=i) (h2:j<=lo+n) (h3:lo+n<=(arrOf st).size):Kp lo n st (setArr st (mirror (arrOf st) i j ((j-i) / 2))):=by
 refine ⟨rfl,rfl,rfl,Array.perm_iff_toList_perm.mp (mirror_perm _ _ _ _),fun k hk=>?_⟩
 show (mirror (arrOf st) i j ((j-i) / 2))[k]? = _
 rw [getElem?_mirror_all (by lia),if_neg (by lia)]
theorem WG {arr:Array Keyed}{lo m b e:Nat} (h:Za6 lt arr lo m) (he:EqS lt arr b e) (h1:lo<=b) (h2:e<=lo+m) (h3:lo+m<=arr.size):Za6 lt (mirror arr b e ((e-b) / 2)) lo m:=by
 intro i j p q hij hj hp hq
 rw [getElem?_mirror_all (by lia)] at hp hq
 by_cases ci:b<=lo+i/\lo+i<e<;>by_cases cj:b<=lo+j/\lo+j<e
 ·rw [if_pos ci] at hp
  rw [if_pos cj] at hq
  exact he _ _ p q (by lia) (by lia) (by lia) (by lia) hp hq
 ·rw [if_pos ci] at hp
  rw [if_neg cj] at hq
  exact h (b+e-1-(lo+i)-lo) j p q (by lia) hj (by rw [show lo+(b+e-1-(lo+i)-lo)=b+e-1-(lo+i) by lia];exact hp) hq
 ·rw [if_neg ci] at hp
  rw [if_pos cj] at hq
  exact h i (b+e-1-(lo+j)-lo) p q (by lia) (by lia) hp (by rw [show lo+(b+e-1-(lo+j)-lo)=b+e-1-(lo+j) by lia];exact hq)
 ·rw [if_neg ci] at hp
  rw [if_neg cj] at hq
  exact h i j p q hij hj hp hq
theorem Uk {arr:Array Keyed}{lo m:Nat} (h:Za6 lt arr lo m) (h3:lo+m<=arr.size):ZbV lt (mirror arr lo (lo+m) ((lo+m-lo) / 2)) lo m:=by
 intro i j p q hij hj hp hq
 rw [getElem?_mirror_all (by lia),if_pos (by lia)] at hp hq
 exact h (m-1-j) (m-1-i) q p (by lia) (by lia) (by rw [<- hq];congr 1;lia) (by rw [<- hp];congr 1;lia)
theorem Gy (C:Wo lt) {arr:Array Keyed}{lo m:Nat} (h:Za6 lt arr lo m) (hm:0<m) {d e:Keyed} (hd:arr[lo+m-1]? = some d) (he:arr[lo+m]? = some e) (hde:lt d e=false):Za6 lt arr lo (m+1):=by
 intro i j p q hij hj hp hq
 by_cases c:j<m
 ·exact h i j p q hij c hp hq
 ·obtain rfl:j=m:=by lia
  rw [he] at hq
  cases hq
  by_cases c2:i=j
  ·subst c2
   rw [he] at hp
   cases hp
   exact C.irr _
  ·exact C.leT hde (h i (j-1) p d (by lia) (by lia) hp (by rw [show lo+(j-1)=lo+j-1 by lia];exact hd))
theorem Zjk (C:Wo lt) {arr:Array Keyed}{lo m:Nat} (h:ZbV lt arr lo m) (hm:0<m) {d e:Keyed} (hd:arr[lo+m-1]? = some d) (he:arr[lo+m]? = some e) (hde:lt e d=false):ZbV lt arr lo (m+1):=by
 intro i j p q hij hj hp hq
 by_cases c:j<m
 ·exact h i j p q hij c hp hq
 ·obtain rfl:j=m:=by lia
  rw [he] at hq
  cases hq
  by_cases c2:i=j
  ·subst c2
   rw [he] at hp
   cases hp
   exact C.irr _
  ·exact C.leT (h i (j-1) p d (by lia) (by lia) hp (by rw [show lo+(j-1)=lo+j-1 by lia];exact hd)) hde
theorem ZbU (C:Wo lt) {x lo:Nat} (arr:Array Keyed):EqS lt arr (lo+x-(0+1)) (lo+x):=fun i j p q i1 i2 j1 j2 hp hq=>by
 obtain rfl:i=j:=by lia
 rw [hp] at hq;cases hq;exact C.irr _
theorem Zh9 (C:Wo lt) {arr:Array Keyed}{b e:Nat} (h:EqS lt arr b e) (hb:b<e) {d x:Keyed} (hd:arr[e-1]? = some d) (hx:arr[e]? = some x) (h1:lt x d=false) (h2:lt d x=false):EqS lt arr b (e+1):=fun i j p q i1 i2 j1 j2 hp hq=>by
 by_cases ci:i<e<;>by_cases cj:j<e
 ·exact h i j p q i1 ci j1 cj hp hq
 ·obtain rfl:j=e:=by lia
  rw [hx] at hq;cases hq
  exact C.leT h2 (h i (j-1) p d i1 ci (by lia) (by lia) hp hd)
 ·obtain rfl:i=e:=by lia
  rw [hx] at hp;cases hp
  exact C.leT (h (i-1) j d q (by lia) (by lia) j1 cj hd hq) h1
 ·obtain rfl:i=e:=by lia
  obtain rfl:j=i:=by lia
  rw [hp] at hq;cases hq;exact C.irr _
theorem U4 (C:Cmp prog w A E s kd D lt) {lo n a:Nat}{st:SortSt}{Q:Option (Option Nat)×Nat->SortSt->Prop}{body:Nat->Option (Option Nat)×Nat->StateT SortSt Sem (ForInStep (Option (Option Nat)×Nat))}
  (hb:∀x m (R:ForInStep (Option (Option Nat)×Nat)->SortSt->Prop),1<=m->m<n->(∀p q,(arrOf st)[lo+m]? = some p->(arrOf st)[lo+m-1]? = some q->R (if lt p q=true then .done (none,m) else .yield (none,m+1)) st)->wpS (model prog w) A E s (body x (none,m)) R st)
  (ha:1<=a) (han:a<=n) (hsz:lo+n<=(arrOf st).size) (hs:ZbV lt (arrOf st) lo a)
  (h:∀m,a<=m->m<=n->ZbV lt (arrOf st) lo m->(m<n -> ∀p q,(arrOf st)[lo+m]? = some p->(arrOf st)[lo+m-1]? = some q->lt p q=true)->Q (none,m) st):wpS (model prog w) A E s (forIn [a:n] (none,a) body) Q st:=by
 refine wpS_forRange (I:=fun x c st'=>st'=st/\c=(none,x)/\ZbV lt (arrOf st) lo x) ?_ ?_ ⟨rfl,rfl,hs⟩
 ·rintro x c st' hax hxn ⟨rfl,rfl,g⟩
  refine hb x x _ (by lia) hxn fun p q hp hq=>?_
  cases e:lt p q with
  | true=>
   exact h x hax (by lia) g fun _ p' q' hp' hq'=>by
    rw [hp] at hp';rw [hq] at hq';cases hp';cases hq';exact e
  | false=>exact ⟨rfl,rfl,Zjk C.wo g (by lia) hq hp e⟩
 ·rintro c st' ⟨rfl,rfl,g⟩
  rw [show max a n=n by lia] at g ⊢
  exact h n han (Nat.le_refl _) g fun z=>by lia
theorem Zgx (C:Cmp prog w A E s kd D lt) {lo n:Nat}{st:SortSt}{Q:Option Nat->SortSt->Prop} (hn:0<n) (hsz:lo+n<=(arrOf st).size) (hD:∀x∈(arrOf st).toList,D x) (hk:kindOf st=kd)
  (h:∀m st',1<=m->m<=n->Kp lo n st st'->ZbV lt (arrOf st') lo m->Q (some m) st'):wpS (model prog w) A E s (Zi9 lo n) Q st:=by
 have s1:∀arr:Array Keyed,ZbV lt arr lo 1:=fun arr i j p q hij hj hp hq=>by
  obtain rfl:i=0:=by lia
  obtain rfl:j=0:=by lia
  rw [hp] at hq;cases hq;exact C.wo.irr _
 refine wpS_bind (U4 C (lo:=lo) (n:=n) (a:=1) (st:=st) (fun x m R h1 h2 hR=>?_) (Nat.le_refl _) hn hsz (s1 _) fun m hm1 hm2 g nx=>?_)
 ·refine wpS_bind (JF C (by lia) (by lia) hD hk fun p q hp hq=>?_)
  have:=hR p q hp hq
  cases e:lt p q with
  | true=>rw [e] at this;exact wpS_pure this
  | false=>rw [e] at this;exact wpS_pure this
 refine ZM (c:=(m==n)) (fun c1=>wpS_pure (h m st hm1 hm2 (Kp.refl _ _ _) g)) (fun c1=>?_)
 have c1':=Z8 c1
 obtain ⟨pl,hpl⟩:=ZfG (show lo+m<(arrOf st).size by lia)
 obtain ⟨ql,hql⟩:=ZfG (show lo+m-1<(arrOf st).size by lia)
 have less:=nx (by lia) pl ql hpl hql
 refine JL (k:=m) (n:=1) (fun z=>?_) (fun z=>?_)
 ·refine wpS_bind (JF C (i:=lo) (j:=lo+m-1) (by lia) (by lia) hD hk fun p q hp hq=>?_)
  cases e:lt p q with
  | true=>exact wpS_pure (h m st hm1 hm2 (Kp.refl _ _ _) g)
  | false=>
   have eqs:EqS lt (arrOf st) lo (lo+m):=fun i j a b i1 i2 j1 j2 ha hb=>by
    have ha':(arrOf st)[lo+(i-lo)]? = some a:=by rw [show lo+(i-lo)=i by lia];exact ha
    have hb':(arrOf st)[lo+(j-lo)]? = some b:=by rw [show lo+(j-lo)=j by lia];exact hb
    have l1:=g (i-lo) (m-1) a q (by lia) (by lia) ha' (by rw [<- hq];congr 1;lia)
    have l2:=g 0 (j-lo) p b (by lia) (by lia) (by rw [Nat.add_zero];exact hp) hb'
    have l3:=g 0 (i-lo) p a (by lia) (by lia) (by rw [Nat.add_zero];exact hp) ha'
    have l4:=g (j-lo) (m-1) b q (by lia) (by lia) hb' (by rw [<- hq];congr 1;lia)
    exact C.wo.leT l4 (C.wo.leT e l3)
   refine wpS_bind (Ue (i:=lo) (j:=lo+m) ?_)
   have k1:=Ja (lo:=lo) (n:=n) (i:=lo) (j:=lo+m) (st:=st) (Nat.le_refl _) (by lia) hsz
   have non0:Za6 lt (arrOf st) lo m:=fun i j a b hij hj ha hb=>eqs _ _ a b (by lia) (by lia) (by lia) (by lia) ha hb
   have non1:Za6 lt (arrOf (setArr st (mirror (arrOf st) lo (lo+m) ((lo+m-lo) / 2)))) lo (m+1):=WG (Gy C.wo non0 (by lia) hql hpl (C.wo.asym _ _ less)) eqs (Nat.le_refl _) (by lia) (by lia)
   generalize setArr st (mirror (arrOf st) lo (lo+m) ((lo+m-lo) / 2))=st1 at k1 non1 ⊢
   refine wpS_bind (wpS_lift (wpAny_rule ⟨rfl,?_⟩))
   refine wpS_bind (wpS_mono (wpS_forRange (a:=m+1) (b:=n) (I:=fun x c st'=>∃neq,c=(none,x,neq)/\Kp lo n st st'/\Za6 lt (arrOf st') lo x/\neq+1<=x/\EqS lt (arrOf st') (lo+x-(neq+1)) (lo+x))
    (Q:=fun c st'=>∃x neq,c=(none,x,neq)/\m+1<=x/\x<=n/\Kp lo n st st'/\Za6 lt (arrOf st') lo x/\neq+1<=x/\EqS lt (arrOf st') (lo+x-(neq+1)) (lo+x)) ?_ ?_ ⟨0,rfl,k1,non1,by lia,ZbU C.wo _⟩) ?_)
   ·rintro x c st2 hx1 hx2 ⟨neq,rfl,k2,g2,e1,e2⟩
    have z2:=k2.size
    have hD2:∀y∈(arrOf st2).toList,D y:=fun y hy=>hD y (k2.perm.mem_iff.mp hy)
    have hk2:=k2.kind.trans hk
    refine wpS_bind (JF C (i:=lo+x) (j:=lo+x-1) (by lia) (by lia) hD2 hk2 fun p q hp hq=>?_)
    cases e:lt p q with
    | true=>
     have gs:=Gy C.wo g2 (by lia) hq hp (C.wo.asym _ _ e)
     refine JL (k:=neq) (n:=0) (fun z=>?_) (fun z=>?_)
     ·refine wpS_bind (Ue (i:=lo+x-(neq+1)) (j:=lo+x) ?_)
      exact wpS_pure ⟨0,rfl,k2.trans (Ja (by lia) (by lia) (by lia)),WG gs e2 (by lia) (by lia) (by lia),by lia,ZbU C.wo _⟩
     ·exact wpS_pure ⟨0,rfl,k2,gs,by lia,ZbU C.wo _⟩
    | false=>
     refine wpS_bind (JF C (i:=lo+x-1) (j:=lo+x) (by lia) (by lia) hD2 hk2 fun q' p' hq' hp'=>?_)
     rw [hq] at hq'
     rw [hp] at hp'
     cases hq';cases hp'
     cases e':lt q p with
     | true=>exact wpS_pure ⟨x,neq,rfl,hx1,by lia,k2,g2,e1,e2⟩
     | false=>
      refine wpS_pure ⟨neq+1,rfl,k2,Gy C.wo g2 (by lia) hq hp e',by lia,?_⟩
      have:=Zh9 C.wo e2 (by lia) hq hp e e'
      rw [show lo+(x+1)-(neq+1+1)=lo+x-(neq+1) by lia]
      exact this
   ·rintro c st2 ⟨neq,rfl,k2,g2,e1,e2⟩
    rw [show max (m+1) n=n by lia] at g2 e1 e2 ⊢
    exact ⟨n,neq,rfl,by lia,Nat.le_refl _,k2,g2,e1,e2⟩
   ·rintro c st2 ⟨x,neq,rfl,x1,x2,k2,g2,e1,e2⟩
    have z2:=k2.size
    refine JL (k:=neq) (n:=0) (fun z=>?_) (fun z=>?_)
    ·refine wpS_bind (Ue (i:=lo+x-(neq+1)) (j:=lo+x) ?_)
     have k3:=k2.trans (Ja (lo:=lo) (n:=n) (i:=lo+x-(neq+1)) (j:=lo+x) (st:=st2) (by lia) (by lia) (by lia))
     have g3:Za6 lt (arrOf (setArr st2 (mirror (arrOf st2) (lo+x-(neq+1)) (lo+x) ((lo+x-(lo+x-(neq+1))) / 2)))) lo x:=WG g2 e2 (by lia) (by lia) (by lia)
     generalize setArr st2 (mirror (arrOf st2) (lo+x-(neq+1)) (lo+x) ((lo+x-(lo+x-(neq+1))) / 2))=st3 at k3 g3 ⊢
     refine wpS_bind (Ue (i:=lo) (j:=lo+x) ?_)
     have z3:=k3.size
     have k4:=k3.trans (Ja (lo:=lo) (n:=n) (i:=lo) (j:=lo+x) (st:=st3) (Nat.le_refl _) (by lia) (by lia))
     have g4:=Uk g3 (by lia)
     refine wpS_bind (U4 C (lo:=lo) (n:=n) (a:=x) (st:=setArr st3 (mirror (arrOf st3) lo (lo+x) ((lo+x-lo) / 2))) (fun y m' R h1 h2 hR=>?_) (by lia) x2 (by rw [k4.size];exact hsz) g4 fun m' a1 a2 g5 _=>wpS_pure (h m' _ (by lia) a2 k4 g5))
     refine wpS_bind (JF C (by rw [k4.size];lia) (by rw [k4.size];lia) (fun y hy=>hD y (k4.perm.mem_iff.mp hy)) (k4.kind.trans hk) fun p q hp hq=>?_)
     have:=hR p q hp hq
     cases e:lt p q with
     | true=>rw [e] at this;exact wpS_pure this
     | false=>rw [e] at this;exact wpS_pure this
    ·have k3:=k2
     have g3:=g2
     refine wpS_bind (Ue (i:=lo) (j:=lo+x) ?_)
     have z3:=k3.size
     have k4:=k3.trans (Ja (lo:=lo) (n:=n) (i:=lo) (j:=lo+x) (st:=st2) (Nat.le_refl _) (by lia) (by lia))
     have g4:=Uk g3 (by lia)
     refine wpS_bind (U4 C (lo:=lo) (n:=n) (a:=x) (st:=setArr st2 (mirror (arrOf st2) lo (lo+x) ((lo+x-lo) / 2))) (fun y m' R h1 h2 hR=>?_) (by lia) x2 (by rw [k4.size];exact hsz) g4 fun m' a1 a2 g5 _=>wpS_pure (h m' _ (by lia) a2 k4 g5))
     refine wpS_bind (JF C (by rw [k4.size];lia) (by rw [k4.size];lia) (fun y hy=>hD y (k4.perm.mem_iff.mp hy)) (k4.kind.trans hk) fun p q hp hq=>?_)
     have:=hR p q hp hq
     cases e:lt p q with
     | true=>rw [e] at this;exact wpS_pure this
     | false=>rw [e] at this;exact wpS_pure this
 ·obtain rfl:m=1:=by lia
  have k1:=Kp.refl lo n st
  have non1:Za6 lt (arrOf st) lo (1+1):=Gy C.wo (fun i j a b hij hj ha hb=>by
   obtain rfl:i=0:=by lia
   obtain rfl:j=0:=by lia
   rw [ha] at hb;cases hb;exact C.wo.irr _) (by lia) hql hpl (C.wo.asym _ _ less)
  refine wpS_bind (wpS_lift (wpAny_rule ⟨rfl,?_⟩))
  refine wpS_bind (wpS_mono (wpS_forRange (a:=1+1) (b:=n) (I:=fun x c st'=>∃neq,c=(none,x,neq)/\Kp lo n st st'/\Za6 lt (arrOf st') lo x/\neq+1<=x/\EqS lt (arrOf st') (lo+x-(neq+1)) (lo+x))
   (Q:=fun c st'=>∃x neq,c=(none,x,neq)/\1+1<=x/\x<=n/\Kp lo n st st'/\Za6 lt (arrOf st') lo x/\neq+1<=x/\EqS lt (arrOf st') (lo+x-(neq+1)) (lo+x)) ?_ ?_ ⟨0,rfl,k1,non1,by lia,ZbU C.wo _⟩) ?_)
  ·rintro x c st2 hx1 hx2 ⟨neq,rfl,k2,g2,e1,e2⟩
   have z2:=k2.size
   have hD2:∀y∈(arrOf st2).toList,D y:=fun y hy=>hD y (k2.perm.mem_iff.mp hy)
   have hk2:=k2.kind.trans hk
   refine wpS_bind (JF C (i:=lo+x) (j:=lo+x-1) (by lia) (by lia) hD2 hk2 fun p q hp hq=>?_)
   cases e:lt p q with
   | true=>
    have gs:=Gy C.wo g2 (by lia) hq hp (C.wo.asym _ _ e)
    refine JL (k:=neq) (n:=0) (fun z=>?_) (fun z=>?_)
    ·refine wpS_bind (Ue (i:=lo+x-(neq+1)) (j:=lo+x) ?_)
     exact wpS_pure ⟨0,rfl,k2.trans (Ja (by lia) (by lia) (by lia)),WG gs e2 (by lia) (by lia) (by lia),by lia,ZbU C.wo _⟩
    ·exact wpS_pure ⟨0,rfl,k2,gs,by lia,ZbU C.wo _⟩
   | false=>
    refine wpS_bind (JF C (i:=lo+x-1) (j:=lo+x) (by lia) (by lia) hD2 hk2 fun q' p' hq' hp'=>?_)
    rw [hq] at hq'
    rw [hp] at hp'
    cases hq';cases hp'
    cases e':lt q p with
    | true=>exact wpS_pure ⟨x,neq,rfl,hx1,by lia,k2,g2,e1,e2⟩
    | false=>
     refine wpS_pure ⟨neq+1,rfl,k2,Gy C.wo g2 (by lia) hq hp e',by lia,?_⟩
     have:=Zh9 C.wo e2 (by lia) hq hp e e'
     rw [show lo+(x+1)-(neq+1+1)=lo+x-(neq+1) by lia]
     exact this
  ·rintro c st2 ⟨neq,rfl,k2,g2,e1,e2⟩
   rw [show max (1+1) n=n by lia] at g2 e1 e2 ⊢
   exact ⟨n,neq,rfl,by lia,Nat.le_refl _,k2,g2,e1,e2⟩
  ·rintro c st2 ⟨x,neq,rfl,x1,x2,k2,g2,e1,e2⟩
   have z2:=k2.size
   refine JL (k:=neq) (n:=0) (fun z=>?_) (fun z=>?_)
   ·refine wpS_bind (Ue (i:=lo+x-(neq+1)) (j:=lo+x) ?_)
    have k3:=k2.trans (Ja (lo:=lo) (n:=n) (i:=lo+x-(neq+1)) (j:=lo+x) (st:=st2) (by lia) (by lia) (by lia))
    have g3:Za6 lt (arrOf (setArr st2 (mirror (arrOf st2) (lo+x-(neq+1)) (lo+x) ((lo+x-(lo+x-(neq+1))) / 2)))) lo x:=WG g2 e2 (by lia) (by lia) (by lia)
    generalize setArr st2 (mirror (arrOf st2) (lo+x-(neq+1)) (lo+x) ((lo+x-(lo+x-(neq+1))) / 2))=st3 at k3 g3 ⊢
    refine wpS_bind (Ue (i:=lo) (j:=lo+x) ?_)
    have z3:=k3.size
    have k4:=k3.trans (Ja (lo:=lo) (n:=n) (i:=lo) (j:=lo+x) (st:=st3) (Nat.le_refl _) (by lia) (by lia))
    have g4:=Uk g3 (by lia)
    refine wpS_bind (U4 C (lo:=lo) (n:=n) (a:=x) (st:=setArr st3 (mirror (arrOf st3) lo (lo+x) ((lo+x-lo) / 2))) (fun y m' R h1 h2 hR=>?_) (by lia) x2 (by rw [k4.size];exact hsz) g4 fun m' a1 a2 g5 _=>wpS_pure (h m' _ (by lia) a2 k4 g5))
    refine wpS_bind (JF C (by rw [k4.size];lia) (by rw [k4.size];lia) (fun y hy=>hD y (k4.perm.mem_iff.mp hy)) (k4.kind.trans hk) fun p q hp hq=>?_)
    have:=hR p q hp hq
    cases e:lt p q with
    | true=>rw [e] at this;exact wpS_pure this
    | false=>rw [e] at this;exact wpS_pure this
   ·have k3:=k2
    have g3:=g2
    refine wpS_bind (Ue (i:=lo) (j:=lo+x) ?_)
    have z3:=k3.size
    have k4:=k3.trans (Ja (lo:=lo) (n:=n) (i:=lo) (j:=lo+x) (st:=st2) (Nat.le_refl _) (by lia) (by lia))
    have g4:=Uk g3 (by lia)
    refine wpS_bind (U4 C (lo:=lo) (n:=n) (a:=x) (st:=setArr st2 (mirror (arrOf st2) lo (lo+x) ((lo+x-lo) / 2))) (fun y m' R h1 h2 hR=>?_) (by lia) x2 (by rw [k4.size];exact hsz) g4 fun m' a1 a2 g5 _=>wpS_pure (h m' _ (by lia) a2 k4 g5))
    refine wpS_bind (JF C (by rw [k4.size];lia) (by rw [k4.size];lia) (fun y hy=>hD y (k4.perm.mem_iff.mp hy)) (k4.kind.trans hk) fun p q hp hq=>?_)
    have:=hR p q hp hq
    cases e:lt p q with
    | true=>rw [e] at this;exact wpS_pure this
    | false=>rw [e] at this;exact wpS_pure this
end
section
variable {prog:Program}{w:World}{A:Around}{E:Value->Shared->Prop}{s:Shared}{kd:SortKind}{D:Keyed->Prop}{lt:Keyed->Keyed->Bool}
theorem Zmt {M:Model}{i j:Nat}{st:SortSt}{Q:Unit->SortSt->Prop} (h:Q () (setArr st (bubble (arrOf st) i (i-j)))):wpS M A E s (moveDown' i j) Q st:=by
 rw [moveDown'_eq];exact wpS_modify h
theorem Zd0 (C:Cmp prog w A E s kd D lt) {lo n ok:Nat}{st:SortSt}{Q:Bool->SortSt->Prop} (h1:1<=ok) (hok:ok<=n) (hsz:lo+n<=(arrOf st).size) (hD:∀x∈(arrOf st).toList,D x) (hk:kindOf st=kd) (hs:ZbV lt (arrOf st) lo ok)
  (h:∀st',Kp lo n st st'->ZbV lt (arrOf st') lo n->Q true st'):wpS (model prog w) A E s (Zf9 lo n ok) Q st:=by
 refine wpS_bind (wpS_mono (wpS_forRange (a:=max ok 1) (b:=n) (I:=fun k c st'=>c=(none,())/\Kp lo n st st'/\ZbV lt (arrOf st') lo k) (Q:=fun c st'=>c=(none,())/\Kp lo n st st'/\ZbV lt (arrOf st') lo n) ?_ ?_ ⟨rfl,Kp.refl _ _ _,by rw [show max ok 1=ok by lia];exact hs⟩) ?_)
 ·rintro k c st1 hk1 hk2 ⟨rfl,kp,g⟩
  have z1:=kp.size
  obtain ⟨e,he⟩:=ZfG (show lo+k<(arrOf st1).size by lia)
  refine wpS_bind (wpS_mono (wpS_forRange (a:=0) (b:=k) (I:=fun x c st'=>st'=st1 /\ ∃l r,c=(none,l,r)/\l<=r/\r<=k/\r-l<=k-x/\(∀i p,i<l->(arrOf st1)[lo+i]? = some p->lt e p=false) /\ ∀i p,r<=i->i<k->(arrOf st1)[lo+i]? = some p->lt e p=true)
   (Q:=fun c st'=>st'=st1 /\ ∃l r,c=(none,l,r)/\l<=k/\(∀i p,i<l->(arrOf st1)[lo+i]? = some p->lt e p=false) /\ ∀i p,l<=i->i<k->(arrOf st1)[lo+i]? = some p->lt e p=true) ?_ ?_ ⟨rfl,0,k,rfl,by lia,by lia,by lia,fun i p hi=>by lia,fun i p h1 h2=>by lia⟩) ?_)
  ·rintro x c st' _ hx ⟨rfl,l,r,rfl,g1,g2,g3,g4,g5⟩
   dsimp only
   by_cases hge:l>=r
   ·rw [if_pos hge]
    obtain rfl:l=r:=by lia
    exact wpS_pure ⟨rfl,l,l,rfl,g2,g4,g5⟩
   ·rw [if_neg hge]
    refine wpS_bind (JF C (i:=lo+k) (j:=lo+(l+r) / 2) (by lia) (by lia) (fun y hy=>hD y (kp.perm.mem_iff.mp hy)) (kp.kind.trans hk) fun p q hp hq=>?_)
    rw [he] at hp
    cases hp
    cases c:lt e q with
    | true=>
     refine wpS_pure ⟨rfl,l,(l+r) / 2,rfl,by lia,by lia,by lia,g4,fun i p i1 i2 hp=>?_⟩
     rcases C.wo.neg e p q c with z | z
     ·exact z
     ·rw [g ((l+r) / 2) i q p i1 i2 hq hp] at z;cases z
    | false=>
     refine wpS_pure ⟨rfl,(l+r) / 2+1,r,rfl,by lia,by lia,by lia,fun i p i1 hp=>?_,g5⟩
     exact C.wo.leT (g i ((l+r) / 2) p q (by lia) (by lia) hp hq) c
  ·rintro c st' ⟨rfl,l,r,rfl,g1,g2,g3,g4,g5⟩
   obtain rfl:l=r:=by lia
   exact ⟨rfl,l,l,rfl,g2,g4,g5⟩
  ·rintro c st' ⟨rfl,l,r,rfl,g2,g4,g5⟩
   refine wpS_bind (Zmt (i:=lo+k) (j:=lo+l) ?_)
   have sz:lo+k<(arrOf st').size:=by lia
   refine wpS_pure ⟨rfl,kp.trans ⟨rfl,rfl,rfl,Array.perm_iff_toList_perm.mp (bubble_perm _ _ _),fun i hi=>?_⟩,fun i j p q hij hj hp hq=>?_⟩
   ·show (bubble (arrOf st') (lo+k) (lo+k-(lo+l)))[i]? = _
    rw [getElem?_bubble sz _ (by lia),if_neg (by lia),if_neg (by lia)]
   ·rw [show arrOf (setArr st' (bubble (arrOf st') (lo+k) (lo+k-(lo+l))))=bubble (arrOf st') (lo+k) (lo+k-(lo+l)) from rfl,getElem?_bubble sz _ (by lia)] at hp hq
    rw [show lo+k-(lo+k-(lo+l))=lo+l by lia] at hp hq
    by_cases ci:i=l<;>by_cases cj:j=l
    ·subst ci;subst cj
     rw [if_pos rfl] at hp hq
     rw [hp] at hq;cases hq;exact C.wo.irr _
    ·subst ci
     rw [if_pos rfl,he] at hp
     cases hp
     rw [if_neg (by lia),if_pos (by lia)] at hq
     exact C.wo.asym _ _ (g5 (j-1) q (by lia) (by lia) (by rw [<- hq];congr 1;lia))
    ·subst cj
     rw [if_neg (by lia),if_neg (by lia)] at hp
     rw [if_pos rfl,he] at hq
     cases hq
     exact g4 i p (by lia) hp
    ·rw [if_neg (by lia)] at hp hq
     by_cases di:i<l<;>by_cases dj:j<l
     ·rw [if_neg (by lia)] at hp hq
      exact g i j p q hij (by lia) hp hq
     ·rw [if_neg (by lia)] at hp
      rw [if_pos (by lia)] at hq
      exact g i (j-1) p q (by lia) (by lia) hp (by rw [<- hq];congr 1;lia)
     ·lia
     ·rw [if_pos (by lia)] at hp hq
      exact g (i-1) (j-1) p q (by lia) (by lia) (by rw [<- hp];congr 1;lia) (by rw [<- hq];congr 1;lia)
 ·rintro c st1 ⟨rfl,kp,g⟩
  rw [show max (max ok 1) n=n by lia] at g
  exact ⟨rfl,kp,g⟩
 ·rintro c st1 ⟨rfl,kp,g⟩
  exact wpS_pure (h st1 kp g)
def Gm (p:List (Nat×Nat×Nat)) (rs:List (List Keyed)):Prop:=p.length=rs.length /\ ∀i r,rs[i]? = some r -> ∃pw,p[i]? = some ((rs.take i).flatten.length,r.length,pw)
theorem ZjY:Gm [] []:=⟨rfl,fun i r h=>by simp at h⟩
theorem Zju {p:List (Nat×Nat×Nat)}{rs:List (List Keyed)} (h:Gm p rs) (r:List Keyed) (pw:Nat):Gm (p ++ [(rs.flatten.length,r.length,pw)]) (rs ++ [r]):=by
 refine ⟨by simp [h.1],fun i x hx=>?_⟩
 by_cases c:i<rs.length
 ·rw [List.getElem?_append_left c] at hx
  obtain ⟨q,hq⟩:=h.2 i x hx
  exact ⟨q,by rw [List.getElem?_append_left (by rw [h.1];exact c),hq,List.take_append_of_le_length (by lia)]⟩
 ·have hi:i=rs.length:=by
   have:=(List.getElem?_eq_some_iff.mp hx).1
   rw [List.length_append,List.length_singleton] at this
   lia
  subst hi
  rw [List.getElem?_append_right (Nat.le_refl _),Nat.sub_self] at hx
  simp at hx
  subst hx
  refine ⟨pw,?_⟩
  rw [<- h.1,List.getElem?_append_right (Nat.le_refl _),Nat.sub_self,h.1,List.take_append_of_le_length (Nat.le_refl _),List.take_of_length_le (Nat.le_refl _)]
  rfl
theorem ZjJ {p:List (Nat×Nat×Nat)}{rs:List (List Keyed)} (h:Gm p rs) (k:Nat) (f:Nat×Nat×Nat->Nat×Nat×Nat) (hf:∀a b c,∃d,f (a,b,c)=(a,b,d)):Gm (p.modify k f) rs:=by
 refine ⟨by rw [List.length_modify];exact h.1,fun i x hx=>?_⟩
 obtain ⟨q,hq⟩:=h.2 i x hx
 rw [List.getElem?_modify,hq]
 by_cases c:k=i
 ·obtain ⟨d,hd⟩:=hf (rs.take i).flatten.length x.length q
  exact ⟨d,by rw [Option.map_eq_map,Option.map_some,if_pos c,hd]⟩
 ·exact ⟨q,by simp [c]⟩
theorem Zhu {p:List (Nat×Nat×Nat)}{U B:List (List Keyed)}{X Y Z:List Keyed}{pw:Nat} (h:Gm p (U++(X::Y::B))) (hz:Z.length=X.length+Y.length):Gm ((p.set U.length (U.flatten.length,X.length+Y.length,pw)).eraseIdx (U.length+1)) (U++(Z::B)):=by
 have hl:=h.1
 simp only [List.length_append,List.length_cons] at hl
 refine ⟨by rw [List.length_eraseIdx_of_lt (by rw [List.length_set];lia),List.length_set];simp only [List.length_append,List.length_cons];lia,fun i x hx=>?_⟩
 rw [List.getElem?_eraseIdx]
 by_cases c1:i<U.length
 ·rw [if_pos (by lia),List.getElem?_set_ne (by lia)]
  rw [List.getElem?_append_left c1] at hx
  obtain ⟨q,hq⟩:=h.2 i x (by rw [List.getElem?_append_left c1];exact hx)
  refine ⟨q,?_⟩
  rw [hq,List.take_append_of_le_length (by lia),List.take_append_of_le_length (by lia)]
 ·by_cases c2:i=U.length
  ·subst c2
   rw [List.getElem?_append_right (Nat.le_refl _),Nat.sub_self] at hx
   simp at hx
   subst hx
   refine ⟨pw,?_⟩
   rw [if_pos (by lia),List.getElem?_set_self (by lia),hz,List.take_append_of_le_length (Nat.le_refl _),List.take_of_length_le (Nat.le_refl _)]
  ·rw [if_neg (by lia),List.getElem?_set_ne (by lia)]
   obtain ⟨j,rfl⟩:∃j,i=U.length+(j+1):=⟨i-U.length-1,by lia⟩
   rw [List.getElem?_append_right (by lia),Nat.add_sub_cancel_left,List.getElem?_cons_succ] at hx
   obtain ⟨q,hq⟩:=h.2 (U.length+(j+1+1)) x (by
    rw [List.getElem?_append_right (by lia),Nat.add_sub_cancel_left,List.getElem?_cons_succ,List.getElem?_cons_succ]
    exact hx)
   refine ⟨q,?_⟩
   rw [show U.length+(j+1)+1=U.length+(j+1+1) by lia,hq]
   congr 2
   rw [List.take_append,List.take_append,List.take_of_length_le (l:=U) (by lia),List.take_of_length_le (l:=U) (by lia),Nat.add_sub_cancel_left,Nat.add_sub_cancel_left]
   simp only [List.take_succ_cons,List.flatten_append,List.flatten_cons,List.length_append]
   lia
end
section
variable {prog:Program}{w:World}{A:Around}{E:Value->Shared->Prop}{s:Shared}{kd:SortKind}{D:Keyed->Prop}{lt:Keyed->Keyed->Bool}
structure Rn (lt:Keyed->Keyed->Bool) (kd:SortKind) (l₀:List Keyed) (rs:List (List Keyed)) (S:List Keyed) (st:SortSt):Prop where
 arr:(arrOf st).toList=rs.flatten++S
 srt:∀r∈rs,Ww lt r/\0<r.length
 pend:Gm (pendingOf st).toList rs
 perm:(arrOf st).toList.Perm l₀
 kind:kindOf st=kd
 fail:failedOf st=none
theorem Rn.cut {l₀:List Keyed}{rs:List (List Keyed)}{S:List Keyed}{st:SortSt} (R:Rn lt kd l₀ rs S st) {i:Nat} (hi:i+1<rs.length):∃U X Y B,rs=U++(X::Y::B)/\U.length=i:=by
 refine ⟨rs.take i,rs[i],rs[i+1],rs.drop (i+2),?_,by rw [List.length_take];lia⟩
 conv=>lhs;rw [<- List.take_append_drop i rs,List.drop_eq_getElem_cons (by lia),List.drop_eq_getElem_cons (by lia)]
theorem Zfi (C:Cmp prog w A E s kd D lt) {l₀:List Keyed}{rs:List (List Keyed)}{S:List Keyed}{st:SortSt}{i:Nat}{Q:Bool->SortSt->Prop} (R:Rn lt kd l₀ rs S st) (hD:∀x∈l₀,D x) (hi:i+1<rs.length)
  (h:∀rs' st',Rn lt kd l₀ rs' S st'->rs'.length+1=rs.length->rs'.flatten.length=rs.flatten.length->Q true st'):wpS (model prog w) A E s (Zgd i) Q st:=by
 obtain ⟨U,X,Y,B,rfl,rfl⟩:=R.cut hi
 obtain ⟨p1,e1⟩:=R.pend.2 U.length X (by rw [List.getElem?_append_right (Nat.le_refl _),Nat.sub_self];rfl)
 obtain ⟨p2,e2⟩:=R.pend.2 (U.length+1) Y (by rw [List.getElem?_append_right (by lia),Nat.add_sub_cancel_left];rfl)
 rw [List.take_append_of_le_length (Nat.le_refl _),List.take_of_length_le (Nat.le_refl _),Array.getElem?_toList] at e1
 rw [List.take_append,List.take_of_length_le (by lia),Nat.add_sub_cancel_left,List.take_succ_cons,List.take_zero,Array.getElem?_toList] at e2
 simp only [List.flatten_append,List.flatten_cons,List.flatten_nil,List.append_nil,List.length_append] at e2
 have hX:=R.srt X (by simp)
 have hY:=R.srt Y (by simp)
 refine Zhx C (P:=U.flatten) (X:=X) (Y:=Y) (S:=B.flatten++S) e1 e2 (by rw [R.arr];simp only [List.flatten_append,List.flatten_cons,List.append_assoc]) rfl rfl rfl rfl hX.2 hY.2 hX.1 hY.1 (fun x hx=>hD x (R.perm.mem_iff.mp hx)) R.kind R.fail fun Z st' sZ pZ aZ pe kz fz=>?_
 have lz:Z.length=X.length+Y.length:=by rw [pZ.length_eq,List.length_append]
 refine h (U++(Z::B)) st' ⟨?_,fun r hr=>?_,?_,?_,kz,fz⟩ ?_ ?_
 ·rw [aZ];simp only [List.flatten_append,List.flatten_cons,List.append_assoc]
 ·rcases List.mem_append.mp hr with z | z
  ·exact R.srt r (List.mem_append_left _ z)
  ·rcases List.mem_cons.mp z with rfl | z
   ·exact ⟨sZ,by lia⟩
   ·exact R.srt r (by simp [z])
 ·rw [pe,Array.toList_eraseIdxIfInBounds,Array.toList_setIfInBounds]
  exact Zhu R.pend lz
 ·refine List.Perm.trans ?_ R.perm
  rw [aZ,R.arr]
  simp only [List.flatten_append,List.flatten_cons,List.append_assoc]
  refine List.Perm.append_left _ ?_
  rw [<- List.append_assoc X]
  exact pZ.append_right _
 ·simp
  lia
 ·simp only [List.flatten_append,List.flatten_cons,List.length_append]
  lia
theorem Rn.low {l₀:List Keyed}{rs:List (List Keyed)}{S:List Keyed}{st:SortSt} (R:Rn lt kd l₀ rs S st):rs.length<=rs.flatten.length:=by
 have:∀rs:List (List Keyed),(∀r∈rs,0<r.length)->rs.length<=rs.flatten.length:=by
  intro rs
  induction rs with
  | nil=>intro _;exact Nat.le_refl _
  | cons r rs ih=>
   intro hr
   have h1:=hr r List.mem_cons_self
   have h2:=ih fun x hx=>hr x (List.mem_cons_of_mem _ hx)
   rw [List.length_cons,List.flatten_cons,List.length_append]
   lia
 exact this rs fun r hr=>(R.srt r hr).2
theorem Rn.put {l₀:List Keyed}{rs:List (List Keyed)}{S:List Keyed}{st st':SortSt}{n:Nat} (R:Rn lt kd l₀ rs S st) (k:Kp rs.flatten.length n st st'):∃S',Rn lt kd l₀ rs S' st'/\S'.length=S.length:=by
 have hlen:(arrOf st').toList.length=(arrOf st).toList.length:=k.perm.length_eq
 have et:(arrOf st').toList.take rs.flatten.length=rs.flatten:=by
  have e0:(arrOf st).toList.take rs.flatten.length=rs.flatten:=by rw [R.arr,List.take_append_of_le_length (Nat.le_refl _),List.take_of_length_le (Nat.le_refl _)]
  rw [<- e0]
  refine List.ext_getElem? fun i=>?_
  by_cases c:i<rs.flatten.length
  ·rw [List.getElem?_take_of_lt (by rw [e0];exact c),List.getElem?_take_of_lt c,Array.getElem?_toList,Array.getElem?_toList]
   exact k.out i (.inl c)
  ·rw [List.getElem?_eq_none (by rw [List.length_take,e0];lia),List.getElem?_eq_none (by rw [List.length_take];lia)]
 refine ⟨(arrOf st').toList.drop rs.flatten.length,⟨?_,R.srt,by rw [k.pend];exact R.pend,k.perm.trans R.perm,k.kind.trans R.kind,k.fail.trans R.fail⟩,?_⟩
 ·conv=>lhs;rw [<- List.take_append_drop rs.flatten.length (arrOf st').toList,et]
 ·rw [List.length_drop,hlen,R.arr,List.length_append];lia
theorem Rn.seg {l₀:List Keyed}{rs:List (List Keyed)}{S:List Keyed}{st:SortSt} (C:Wo lt) (R:Rn lt kd l₀ rs S st) {n:Nat} (hn:n<=S.length) (h:ZbV lt (arrOf st) rs.flatten.length n):Ww lt (S.take n):=by
 refine List.pairwise_iff_getElem.mpr fun i j hi hj hij=>?_
 rw [List.length_take] at hi hj
 have at_:∀k (hk:k<S.length),(arrOf st)[rs.flatten.length+k]? = some S[k]:=fun k hk=>by
  rw [<- Array.getElem?_toList,R.arr,List.getElem?_append_right (by lia),Nat.add_sub_cancel_left,List.getElem?_eq_getElem hk]
 rw [List.getElem_take,List.getElem_take]
 exact h i j _ _ (by lia) (by lia) (at_ i (by lia)) (at_ j (by lia))
theorem Rn.more {l₀:List Keyed}{rs:List (List Keyed)}{S:List Keyed}{st:SortSt} (R:Rn lt kd l₀ rs S st) {n:Nat} (h0:0<n) (hn:n<=S.length) (h:Ww lt (S.take n)) {g:Nat}{pw:Nat}:
  Rn lt kd l₀ (rs ++ [S.take n]) (S.drop n) (SortSt.mk' (kindOf st) (arrOf st) ((pendingOf st).push (rs.flatten.length,n,pw)) g (failedOf st)):=by
 refine ⟨?_,fun r hr=>?_,?_,R.perm,R.kind,R.fail⟩
 ·show (arrOf st).toList=_
  rw [R.arr]
  simp only [List.flatten_append,List.flatten_cons,List.flatten_nil,List.append_nil,List.append_assoc,List.take_append_drop]
 ·rcases List.mem_append.mp hr with z | z
  ·exact R.srt r z
  ·rw [List.mem_singleton.mp z]
   exact ⟨h,by rw [List.length_take];lia⟩
 ·show Gm ((pendingOf st).push _).toList _
  rw [Array.toList_push]
  have:=Zju R.pend (S.take n) pw
  rw [show (S.take n).length=n by rw [List.length_take];lia] at this
  exact this
theorem Zko {c:Bool}{k:Nat}:(if c=true then k-1 else k)<=k:=by split<;>lia
theorem Rn.pow {l₀:List Keyed}{rs:List (List Keyed)}{S:List Keyed}{st:SortSt} (R:Rn lt kd l₀ rs S st) {k g:Nat}{f:Nat×Nat×Nat->Nat×Nat×Nat} (hf:∀a b c,∃d,f (a,b,c)=(a,b,d)):
  Rn lt kd l₀ rs S (SortSt.mk' (kindOf st) (arrOf st) ((pendingOf st).modify k f) g (failedOf st)):=by
 refine ⟨R.arr,R.srt,?_,R.perm,R.kind,R.fail⟩
 show Gm ((pendingOf st).modify k f).toList rs
 rw [Array.toList_modify]
 exact ZjJ R.pend k f hf
theorem Zhi {β:Type}{M:Model}{st:SortSt}{Q:β -> SortSt->Prop}{k n:Nat}{X Y:StateT SortSt Sem β} (h1:k<=n->wpS M A E s X Q st) (h2:n<k->wpS M A E s Y Q st):wpS M A E s (if k<=n then X else Y) Q st:=by
 by_cases h:k<=n
 ·rw [if_pos h];exact h1 h
 ·rw [if_neg h];exact h2 (by lia)
theorem Znr {β:Type}{M:Model}{st:SortSt}{Q:β -> SortSt->Prop}{k n:Nat}{X Y:StateT SortSt Sem β} (h1:k<n->wpS M A E s X Q st) (h2:n<=k->wpS M A E s Y Q st):wpS M A E s (if k<n then X else Y) Q st:=by
 by_cases h:k<n
 ·rw [if_pos h];exact h1 h
 ·rw [if_neg h];exact h2 (by lia)
theorem Zgl (C:Cmp prog w A E s kd D lt) {st:SortSt}{Q:Unit->SortSt->Prop} (hD:∀x∈(arrOf st).toList,D x) (hk:kindOf st=kd) (hf:failedOf st=none) (hp:pendingOf st = #[])
  (h:∀st',(arrOf st').toList.Perm (arrOf st).toList->Ww lt (arrOf st').toList->failedOf st'=none->Q () st'):wpS (model prog w) A E s ZiV Q st:=by
 have zs:(arrOf st).size=(arrOf st).toList.length:=by simp
 have R0:Rn lt kd (arrOf st).toList [] (arrOf st).toList st:=⟨rfl,fun r hr=>(by cases hr),by rw [hp];exact ZjY,.refl _,hk,hf⟩
 refine wpS_bind (wpS_get ?_)
 refine wpS_bind (wpS_mono (wpS_forRange (a:=0) (b:=(arrOf st).size) (I:=fun x c st'=>∃rs S,c=(none,rs.flatten.length)/\Rn lt kd (arrOf st).toList rs S st'/\(x<=rs.flatten.length∨S = []))
  (Q:=fun c st'=>∃rs,c.1=none/\Rn lt kd (arrOf st).toList rs [] st') ?_ ?_ ⟨[],_,rfl,R0,.inl (Nat.zero_le _)⟩) ?_)
 ·rintro x c st1 _ hx ⟨rs,S,rfl,R,pr⟩
  have ln:rs.flatten.length+S.length=(arrOf st).size:=by
   have:=R.perm.length_eq
   rw [R.arr,List.length_append] at this
   lia
  have z1:(arrOf st1).size=(arrOf st).size:=by
   have:=R.perm.length_eq
   simpa using this
  by_cases c0:rs.flatten.length>=(arrOf st).size
  ·show wpS _ _ _ _ (if rs.flatten.length>=(arrOf st).size then _ else _) _ _
   rw [if_pos c0]
   obtain rfl:S = []:=List.length_eq_zero_iff.mp (by lia)
   exact wpS_pure ⟨rs,rfl,R⟩
  ·show wpS _ _ _ _ (if rs.flatten.length>=(arrOf st).size then _ else _) _ _
   rw [if_neg c0]
   refine wpS_bind (Zgx C (lo:=rs.flatten.length) (n:=(arrOf st).size-rs.flatten.length) (by lia) (by lia) (fun y hy=>hD y (R.perm.mem_iff.mp hy)) R.kind fun m st2 m1 m2 kp sm=>?_)
   obtain ⟨S2,R2,l2⟩:=R.put kp
   have sz2:m<=S2.length:=by lia
   have z2:(arrOf st2).size=(arrOf st).size:=by rw [kp.size,z1]
   have prx:x<=rs.flatten.length:=by
    rcases pr with z | z
    ·exact z
    ·have:=congrArg List.length z
     rw [List.length_nil] at this
     lia
   show wpS _ _ _ _ (if m<(sortPriv% PySem.Builtin.minRun) (arrOf st).size (arrOf st).size 0 then _ else _) _ _
   generalize (sortPriv% PySem.Builtin.minRun) (arrOf st).size (arrOf st).size 0=mr
   refine Znr (fun c1=>?_) (fun c1=>?_)
   ·refine wpS_bind (wpS_lift (wpAny_rule ⟨rfl,?_⟩))
    refine wpS_bind (Zd0 C (lo:=rs.flatten.length) (n:=min ((arrOf st).size-rs.flatten.length) mr) (ok:=m) m1 (by lia) (by lia) (fun y hy=>hD y (R2.perm.mem_iff.mp hy)) R2.kind sm fun st3 kp3 sm3=>?_)
    obtain ⟨S3,R3,l3⟩:=R2.put kp3
    have hn0:0<min ((arrOf st).size-rs.flatten.length) mr:=by lia
    have hn1:min ((arrOf st).size-rs.flatten.length) mr<=S3.length:=by lia
    have hs:=R3.seg C.wo hn1 sm3
    refine wpS_bind (wpS_get ?_)
    generalize hbk:(pendingOf st3).back? = bk
    cases bk with
    | none=>
     have l5:rs.flatten.length=rs.flatten.length:=rfl
     refine wpS_bind (wpS_modify ?_)
     have R6:=R3.more (pw:=0) (g:=gallopOf (st3)) hn0 hn1 hs
     rw [l5] at R6
     refine wpS_pure ⟨rs ++ [S3.take (min ((arrOf st).size-rs.flatten.length) mr)],S3.drop (min ((arrOf st).size-rs.flatten.length) mr),?_,R6,.inl ?_⟩
     ·show ((none:Option Unit),rs.flatten.length+(min ((arrOf st).size-rs.flatten.length) mr))=_
      congr 1
      simp only [List.flatten_append,List.flatten_cons,List.flatten_nil,List.append_nil,List.length_append,List.length_take]
      lia
     ·simp only [List.flatten_append,List.flatten_cons,List.flatten_nil,List.append_nil,List.length_append,List.length_take]
      lia
    | some t=>
     obtain ⟨s1,n1,w1⟩:=t
     refine wpS_bind (wpS_mono (wpS_forRange (a:=0) (b:=(arrOf st).size) (I:=fun _ c st'=>c=(none,()) /\ ∃rs',Rn lt kd (arrOf st).toList rs' S3 st'/\rs'.flatten.length=rs.flatten.length) (Q:=fun c st'=>c=(none,()) /\ ∃rs',Rn lt kd (arrOf st).toList rs' S3 st'/\rs'.flatten.length=rs.flatten.length) ?_ (fun _ _ z=>z) ⟨rfl,rs,R3,rfl⟩) ?_)
     ·rintro y c st4 _ _ ⟨rfl,rs',R4,l4⟩
      have pl:(pendingOf st4).size=rs'.length:=by rw [<- R4.pend.1];simp
      refine wpS_bind (wpS_get ?_)
      show wpS _ _ _ _ (match (if (pendingOf st4).size>1 then (pendingOf st4)[(pendingOf st4).size-2]? else none) with | some (_,_,older)=>_ | x=>_) _ _
      by_cases hp1:(pendingOf st4).size>1
      ·rw [if_pos hp1]
       obtain ⟨t,ht⟩:∃t,(pendingOf st4)[(pendingOf st4).size-2]? = some t:=⟨_,getElem?_pos _ _ (by lia)⟩
       rw [ht]
       obtain ⟨a1,a2,older⟩:=t
       refine Zhi (fun _=>wpS_pure ⟨rfl,rs',R4,l4⟩) (fun _=>?_)
       refine wpS_bind (Zfi C R4 hD (i:=(pendingOf st4).size-2) (by lia) fun rs'' st5 R5 a5 b5=>?_)
       exact wpS_pure ⟨rfl,rs'',R5,by lia⟩
      ·rw [if_neg hp1]
       exact wpS_pure ⟨rfl,rs',R4,l4⟩
     ·rintro c st4 ⟨rfl,rs',R4,l5⟩
      refine wpS_bind (wpS_modify ?_)
      have R5:=R4.pow (k:=(pendingOf st4).size-1) (f:=fun x=>match x with | (u,len,_)=>(u,len,(sortPriv% PySem.Builtin.power) (arrOf st).size (2*s1+n1) (2*s1+n1+n1+(min ((arrOf st).size-rs.flatten.length) mr)) (arrOf st).size)) (g:=gallopOf st4) fun a b c=>⟨_,rfl⟩
      refine wpS_bind (wpS_modify ?_)
      have R6:=R5.more (pw:=0) (g:=gallopOf (st4)) hn0 hn1 hs
      rw [l5] at R6
      refine wpS_pure ⟨rs' ++ [S3.take (min ((arrOf st).size-rs.flatten.length) mr)],S3.drop (min ((arrOf st).size-rs.flatten.length) mr),?_,R6,.inl ?_⟩
      ·show ((none:Option Unit),rs.flatten.length+(min ((arrOf st).size-rs.flatten.length) mr))=_
       congr 1
       simp only [List.flatten_append,List.flatten_cons,List.flatten_nil,List.append_nil,List.length_append,List.length_take]
       lia
      ·simp only [List.flatten_append,List.flatten_cons,List.flatten_nil,List.append_nil,List.length_append,List.length_take]
       lia
   ·have hs:=R2.seg C.wo sz2 sm
    have hn0:0<m:=by lia
    refine wpS_bind (wpS_get ?_)
    generalize hbk:(pendingOf st2).back? = bk
    cases bk with
    | none=>
     have l5:rs.flatten.length=rs.flatten.length:=rfl
     refine wpS_bind (wpS_modify ?_)
     have R6:=R2.more (pw:=0) (g:=gallopOf (st2)) hn0 sz2 hs
     rw [l5] at R6
     refine wpS_pure ⟨rs ++ [S2.take (m)],S2.drop (m),?_,R6,.inl ?_⟩
     ·show ((none:Option Unit),rs.flatten.length+(m))=_
      congr 1
      simp only [List.flatten_append,List.flatten_cons,List.flatten_nil,List.append_nil,List.length_append,List.length_take]
      lia
     ·simp only [List.flatten_append,List.flatten_cons,List.flatten_nil,List.append_nil,List.length_append,List.length_take]
      lia
    | some t=>
     obtain ⟨s1,n1,w1⟩:=t
     refine wpS_bind (wpS_mono (wpS_forRange (a:=0) (b:=(arrOf st).size) (I:=fun _ c st'=>c=(none,()) /\ ∃rs',Rn lt kd (arrOf st).toList rs' S2 st'/\rs'.flatten.length=rs.flatten.length) (Q:=fun c st'=>c=(none,()) /\ ∃rs',Rn lt kd (arrOf st).toList rs' S2 st'/\rs'.flatten.length=rs.flatten.length) ?_ (fun _ _ z=>z) ⟨rfl,rs,R2,rfl⟩) ?_)
     ·rintro y c st4 _ _ ⟨rfl,rs',R4,l4⟩
      have pl:(pendingOf st4).size=rs'.length:=by rw [<- R4.pend.1];simp
      refine wpS_bind (wpS_get ?_)
      show wpS _ _ _ _ (match (if (pendingOf st4).size>1 then (pendingOf st4)[(pendingOf st4).size-2]? else none) with | some (_,_,older)=>_ | x=>_) _ _
      by_cases hp1:(pendingOf st4).size>1
      ·rw [if_pos hp1]
       obtain ⟨t,ht⟩:∃t,(pendingOf st4)[(pendingOf st4).size-2]? = some t:=⟨_,getElem?_pos _ _ (by lia)⟩
       rw [ht]
       obtain ⟨a1,a2,older⟩:=t
       refine Zhi (fun _=>wpS_pure ⟨rfl,rs',R4,l4⟩) (fun _=>?_)
       refine wpS_bind (Zfi C R4 hD (i:=(pendingOf st4).size-2) (by lia) fun rs'' st5 R5 a5 b5=>?_)
       exact wpS_pure ⟨rfl,rs'',R5,by lia⟩
      ·rw [if_neg hp1]
       exact wpS_pure ⟨rfl,rs',R4,l4⟩
     ·rintro c st4 ⟨rfl,rs',R4,l5⟩
      refine wpS_bind (wpS_modify ?_)
      have R5:=R4.pow (k:=(pendingOf st4).size-1) (f:=fun x=>match x with | (u,len,_)=>(u,len,(sortPriv% PySem.Builtin.power) (arrOf st).size (2*s1+n1) (2*s1+n1+n1+(m)) (arrOf st).size)) (g:=gallopOf st4) fun a b c=>⟨_,rfl⟩
      refine wpS_bind (wpS_modify ?_)
      have R6:=R5.more (pw:=0) (g:=gallopOf (st4)) hn0 sz2 hs
      rw [l5] at R6
      refine wpS_pure ⟨rs' ++ [S2.take (m)],S2.drop (m),?_,R6,.inl ?_⟩
      ·show ((none:Option Unit),rs.flatten.length+(m))=_
       congr 1
       simp only [List.flatten_append,List.flatten_cons,List.flatten_nil,List.append_nil,List.length_append,List.length_take]
       lia
      ·simp only [List.flatten_append,List.flatten_cons,List.flatten_nil,List.append_nil,List.length_append,List.length_take]
       lia
 ·rintro c st1 ⟨rs,S,rfl,R,pr⟩
  have ln:rs.flatten.length+S.length=(arrOf st).size:=by
   have:=R.perm.length_eq
   rw [R.arr,List.length_append] at this
   lia
  obtain rfl:S = []:=by
   rcases pr with z | z
   ·exact List.length_eq_zero_iff.mp (by lia)
   ·exact z
  exact ⟨rs,rfl,R⟩
 ·rintro c st1 ⟨rs,hc,R⟩
  obtain ⟨c1,c2⟩:=c
  dsimp only at hc
  subst hc
  refine wpS_bind (wpS_mono (wpS_forRange (a:=0) (b:=(arrOf st).size) (I:=fun x c st'=>c=(none,()) /\ ∃rs',Rn lt kd (arrOf st).toList rs' [] st'/\rs'.length+x<=(arrOf st).size) (Q:=fun c st'=>c=(none,()) /\ ∃rs',Rn lt kd (arrOf st).toList rs' [] st'/\rs'.length<=1) ?_ ?_ ⟨rfl,rs,R,?_⟩) ?_)
  ·rintro y c st4 _ _ ⟨rfl,rs',R4,l4⟩
   have pl:(pendingOf st4).size=rs'.length:=by rw [<- R4.pend.1];simp
   refine wpS_bind (wpS_get ?_)
   show wpS _ _ _ _ (if (pendingOf st4).size<=1 then _ else _) _ _
   refine Zhi (fun z=>wpS_pure ⟨rfl,rs',R4,by lia⟩) (fun z=>?_)
   refine wpS_bind (Zfi C R4 hD ?_ fun rs'' st5 R5 a5 b5=>?_)
   ·show (if _=true then (pendingOf st4).size-2-1 else (pendingOf st4).size-2)+1<_
    exact Nat.lt_of_le_of_lt (Nat.succ_le_succ Zko) (by lia)
   ·exact wpS_pure ⟨rfl,rs'',R5,by lia⟩
  ·rintro c st4 ⟨rfl,rs',R4,l4⟩
   exact ⟨rfl,rs',R4,by lia⟩
  ·have:=R.low
   have:=R.perm.length_eq
   rw [R.arr,List.append_nil] at this
   lia
  ·rintro c st4 ⟨rfl,rs',R4,l4⟩
   refine wpS_pure (h st4 R4.perm ?_ R4.fail)
   rw [R4.arr,List.append_nil]
   match rs',l4,R4 with
   | [],_,_=>exact .nil
   | [r],_,R4=>simpa using (R4.srt r (by simp)).1
   | _::_::_,l4,_=>simp at l4
end
def lexLt:List Int->List Int->Bool
 | [],[]=>false
 | [],_::_=>true
 | _::_,[]=>false
 | a::as,b::bs=>if a=b then lexLt as bs else decide (a<b)
open PySem.SeqAt AutoSeq1 in
theorem Zdf (l b:Addr) (items items2:Array Value) (n n2:Nat) (dd dd2:Option Addr) (sl sl2:Array (Option Value)) (xs ys:List Int) (hx:IntsAre items.toList xs) (hy:IntsAre items2.toList ys):
  Meets (Builtin.«tuple.__lt__» ⟨[.ref l,.ref b],[]⟩) (fun A R s=>s.heap.get? l=some { cls:=.type "tuple", dict:=dd,data:=.seq items n,slots:=sl } /\ s.heap.get? b=some { cls:=.type "tuple", dict:=dd2,data:=.seq items2 n2,slots:=sl2 } /\ R (.ok (.ret (.bool (lexLt xs ys)))) s):=
 .of_wp fun prog w A R s h=>by
  obtain ⟨hp,g,d,tk,os⟩:=s;obtain ⟨hl,hb,h⟩:=h
  have:=AutoSeq1.sub_tuple_tuple
  have lx:items.size=xs.length:=by rw [<- Array.length_toList];exact IntsAre.length hx
  have ly:items2.size=ys.length:=by rw [<- Array.length_toList];exact IntsAre.length hy
  wp_walk using wpAny_loadPart' hl,wpAny_loadPart' hb,wpAny_forIn_list _ (fun rest r s'=>r.1=none/\s' = ⟨hp,g,d,tk,os⟩ /\ ∃us vs ps qs,rest=us.zip vs/\IntsAre us ps/\IntsAre vs qs/\lexLt xs ys=lexLt ps qs/\(xs.length<ys.length ↔ ps.length<qs.length)) _
  case turn=>
   rintro _ rest r s' ⟨_,rfl,us,vs,ps,qs,e,hu,hv,le,ln⟩
   cases hu with
   | nil=>cases e
   | cons p t hu=>
    cases hv with
    | nil=>cases e
    | cons q u hv=>
     cases e
     rw [lexLt] at le
     refine wpAny_bind (wpAny_eqBool_int ?_)
     by_cases z:p=q
     ·rw [if_neg (by simp [z])]
      exact wpAny_pure ⟨rfl,rfl,_,_,_,_,rfl,hu,hv,by rw [le,if_pos z],by simpa using ln⟩
     ·rw [if_pos (by simp [z])]
      rw [le,if_neg z] at h
      refine wpAny_bind (wpAny_rule (wpAny_bind (wpAny_lt_int ?_)))
      wp_walk
      exact ⟨_,rfl,h⟩
  case fin=>
   rintro ⟨_,_⟩ s' ⟨hr,rfl,us,vs,ps,qs,e,hu,hv,le,ln⟩
   cases hr
   have:lexLt ps qs=decide (items.size<items2.size):=by
    rw [lx,ly,show decide (xs.length<ys.length)=decide (ps.length<qs.length) from decide_eq_decide.mpr ln]
    cases hu with
    | nil=>cases hv<;>simp [lexLt]
    | cons=>cases hv with
     | nil=>simp [lexLt]
     | cons=>cases e
   rw [le,this] at h
   wp_walk
   exact ⟨_,rfl,h⟩
  case h=>exact ⟨rfl,rfl,_,_,_,_,rfl,hx,hy,rfl,Iff.rfl⟩
theorem Zak:∀xs:List Int,lexLt xs xs=false
 | []=>rfl
 | a::as=>by rw [lexLt,if_pos rfl];exact Zak as
theorem Zfr:∀(xs ys zs:List Int),lexLt xs zs=true->lexLt xs ys=true∨lexLt ys zs=true
 | [],[],[],h=>by simp [lexLt] at h
 | [],[],_::_,h=>.inr rfl
 | [],_::_,_,h=>.inl rfl
 | _::_,_,[],h=>by simp [lexLt] at h
 | _::_,[],_::_,h=>.inr rfl
 | a::as,b::bs,c::cs,h=>by
  simp only [lexLt] at h ⊢
  by_cases e1:a=c
  ·subst e1
   rw [if_pos rfl] at h
   by_cases e2:a=b
   ·subst e2
    rw [if_pos rfl,if_pos rfl]
    exact Zfr as bs cs h
   ·rw [if_neg e2,if_neg (Ne.symm e2),decide_eq_true_eq,decide_eq_true_eq]
    lia
  ·rw [if_neg e1,decide_eq_true_eq] at h
   by_cases e2:a=b
   ·subst e2
    rw [if_neg e1]
    exact .inr (decide_eq_true h)
   ·rw [if_neg e2]
    by_cases e3:b=c
    ·subst e3
     exact .inl (decide_eq_true h)
    ·rw [if_neg e3,decide_eq_true_eq,decide_eq_true_eq]
     lia
theorem UR:∀(xs ys:List Int),lexLt xs ys=true->lexLt ys xs=false
 | [],[],h=>by simp [lexLt] at h
 | [],_::_,_=>rfl
 | _::_,[],h=>by simp [lexLt] at h
 | a::as,b::bs,h=>by
  simp only [lexLt] at h ⊢
  by_cases e:a=b
  ·subst e
   rw [if_pos rfl] at h ⊢
   exact UR as bs h
  ·rw [if_neg e,decide_eq_true_eq] at h
   rw [if_neg (Ne.symm e)]
   exact decide_eq_false (by lia)
section
variable {prog:Program}{w:World}{A:Around}{E:Value->Shared->Prop}{s:Shared}{a b:Addr}{xs ys:List Int}
def U6 (T:String) (h:Heap) (a:Addr) (ks:List Int):Prop:=∃(vs:Array Value) (dd:Option Addr) (n:Nat) (sl:Array (Option Value)),h.get? a=some { cls:=.type T,dict:=dd,data:=.seq vs n,slots:=sl } /\ IntsAre vs.toList ks
abbrev Uv:=U6 "tuple"
theorem ZkC {Q:Value->Shared->Prop} (ha:Uv s.heap a xs) (hb:Uv s.heap b ys) (hu:A.units<cLine) (h:Q (.bool (lexLt xs ys)) s):wpAny (model prog w) A (richCompare .Lt (.ref a) (.ref b)) Q E s:=by
 obtain ⟨vs,dd,n,sl,e,i⟩:=ha
 obtain ⟨vs2,dd2,n2,sl2,e2,i2⟩:=hb
 exact richCompare_meets_room (op:=.Lt) ⟨_,e,rfl⟩ ⟨_,e2,rfl⟩ F.slot_tuple_lt F.entry_tuple_lt (F.args_tuple_lt_2 _ _) (Zdf a b vs vs2 n n2 dd dd2 sl sl2 xs ys i i2) ⟨e,e2,show Value.bool (lexLt xs ys)≠Value.notImplemented/\Q _ s from ⟨(fun x=>nomatch x),h⟩⟩ hu
theorem Zl1 {Q:Bool->Shared->Prop} (ha:Uv s.heap a xs) (hb:Uv s.heap b ys) (hu:A.units<cLine) (h:Q (lexLt xs ys) s):wpAny (model prog w) A (oneLt' false (.ref a) (.ref b)) Q E s:=by
 rw [oneLt'_eq]
 simp only [Bool.false_eq_true,if_false]
 exact wpAny_bind (ZkC ha hb hu (wpAny_truthy_bool h))
end
section
variable {prog:Program}{w:World}{A:Around}{E:Value->Shared->Prop}{s:Shared}{a b:Addr}{xs ys:List Int}
def Ze1 (h:Heap):Value->List Int
 | .ref a=>match h.get? a with
  | some o=>match o.data with
   | .seq vs _=>vs.toList.map numOf
   | _=>[]
  | none=>[]
 | _=>[]
theorem U6.key {T:String}{h:Heap} (x:U6 T h a xs):Ze1 h (.ref a)=xs:=by
 obtain ⟨vs,dd,n,sl,e,i⟩:=x
 show (match h.get? a with | some o=>_ | none=>_)=_
 rw [e]
 exact i.nums
theorem U6.kept {T:String}{h h':Heap} (x:U6 T h a xs) (k:∀o,h.get? a=some o->h'.get? a=some o):U6 T h' a xs:=
 let ⟨vs,dd,n,sl,e,i⟩:=x;⟨vs,dd,n,sl,k _ e,i⟩
theorem Zl2 {Q:Bool->Shared->Prop} (ha:Uv s.heap a xs) (hb:Uv s.heap b ys) (hu:A.units<cLine) (h:Q (lexLt xs ys) s):wpAny (model prog w) A (oneLt' true (.ref a) (.ref b)) Q E s:=by
 rw [oneLt'_eq]
 simp only [if_true]
 refine wpAny_bind (wpAny_cRoomFor hu ?_)
 obtain ⟨vs,dd,n,sl,e,i⟩:=ha
 obtain ⟨vs2,dd2,n2,sl2,e2,i2⟩:=hb
 refine wpAny_bind (wpAny_callSpecialIfBound?_slot (T := "tuple") ⟨_,e,rfl⟩ F.slot_tuple_lt ?_)
 refine call_meets F.slot_tuple_lt ⟨_,e,rfl⟩ F.entry_tuple_lt (F.args_tuple_lt_2 _ _) (Zdf a b vs vs2 n n2 dd dd2 sl sl2 xs ys i i2) ⟨e,e2,?_⟩
 exact wpAny_bind (wpAny_truthy_bool (wpAny_pure h))
theorem ZiM {c:Bool}{Q:Bool->Shared->Prop}:∀{us vs:List Value}{xs ys:List Int},IntsAre us xs->IntsAre vs ys -> ∀(i:Nat) (fin:Bool),(xs.length<ys.length ↔ fin=true)->Q (lexLt xs ys) s->W.KatLex prog w A c fin Q (us.zip vs) i s
 | _,_,_,_,.nil,.nil,i,fin,hf,h=>by
  have:fin=false:=by cases fin with | false=>rfl | true=>exact absurd (hf.mpr rfl) (by simp)
  subst this;exact h
 | _,_,_,_,.nil,.cons n t hr,i,fin,hf,h=>by
  have:fin=true:=hf.mp (by simp)
  subst this;exact h
 | _,_,_,_,.cons n t hr,.nil,i,fin,hf,h=>by
  have:fin=false:=by cases fin with | false=>rfl | true=>exact absurd (hf.mpr rfl) (by simp)
  subst this;exact h
 | _,_,_,_,.cons n t hr,.cons m u hs,i,fin,hf,h=>by
  refine W.kat_cons (wpAny_eqBool_int ?_)
  rw [lexLt] at h
  by_cases e:n=m
  ·rw [if_pos e] at h
   rw [show (n==m)=true by simp [e]]
   exact W.kat_yes (ZiM hr hs (i+1) fin (by simpa using hf) h)
  ·rw [if_neg e] at h
   rw [show (n==m)=false by simp [e]]
   refine W.kat_no ?_
   cases hc:(c&&i==0) with
   | true=>exact oneLt_int h
   | false=>exact W.kat_one _ _ (wpAny_lt_int h)
theorem ZnJ {c:Bool}{Q:Bool->Shared->Prop} (ha:Uv s.heap a xs) (hb:Uv s.heap b ys) (h:Q (lexLt xs ys) s):wpAny (model prog w) A (keyLt' (tuples' c) (.ref a) (.ref b)) Q E s:=by
 obtain ⟨vs,dd,n,sl,e,i⟩:=ha
 obtain ⟨vs2,dd2,n2,sl2,e2,i2⟩:=hb
 refine W.kat_lt e rfl e2 rfl (ZiM i i2 0 _ ?_ h)
 have l1:=IntsAre.length i
 have l2:=IntsAre.length i2
 rw [Array.length_toList] at l1 l2
 rw [decide_eq_true_eq]
 lia
def Kd3 (kd:SortKind):Prop:=(∃c,kd=tuples' c)∨kd=general'∨kd=oneType'
def DS (T:String) (s:Shared) (p:Keyed):Prop:=∃a ks,p.1 = .ref a/\U6 T s.heap a ks
def ltW (s:Shared) (p q:Keyed):Bool:=lexLt (Ze1 s.heap p.1) (Ze1 s.heap q.1)
theorem Zem {kd:SortKind} (hkd:Kd3 kd) (hu:A.units<cLine):Cmp prog w A E s kd (DS "tuple" s) (ltW s) where
 wo:=⟨fun p=>Zak _,fun p q h=>UR _ _ h,fun p q r h=>Zfr _ _ _ h⟩
 cmp:=fun p q st Q ⟨a,ks,e1,h1⟩ ⟨b,js,e2,h2⟩ hk h=>by
  unfold ltW at h
  rw [e1,e2,h1.key,h2.key] at h
  rw [lt'_eq]
  refine wpS_bind (wpS_get ?_)
  rw [hk,e1,e2]
  refine wpS_bind (wpS_lift (wpAny_attempt ?_))
  rcases hkd with ⟨c,rfl⟩ | rfl | rfl
  ·exact ZnJ h1 h2 ⟨rfl,wpS_pure h⟩
  ·exact Zl1 h1 h2 hu ⟨rfl,wpS_pure h⟩
  ·exact Zl2 h1 h2 hu ⟨rfl,wpS_pure h⟩
theorem Zdm {M:Model}:∀(vs:List Value) {Q:List (Option Value)->Shared->Prop},(∀v∈vs,∃a ks,v = .ref a/\Uv s.heap a ks)->(∀fs:List (Option Value),(∀f∈fs,f=none ∨ ∃n t,f=some (.int n t))->Q fs s)->wpAny M A (vs.mapM firstOfTuple') Q E s
 | [],Q,_,h=>by rw [List.mapM_nil];exact wpAny_pure (h [] fun f hf=>by cases hf)
 | v::vs,Q,hv,h=>by
  obtain ⟨a,ks,rfl,ws,dd,n,sl,e,i⟩:=hv v List.mem_cons_self
  rw [List.mapM_cons]
  refine wpAny_bind ?_
  rw [W.kas_first_eq]
  refine wpAny_bind (wpAny_typeOf (T := "tuple") ⟨_,e,rfl⟩ ?_)
  rw [if_neg (by first | decide | simp)]
  refine wpAny_bind (listItems_at e rfl (wpAny_pure ?_))
  refine wpAny_bind (Zdm vs (fun v hv'=>hv v (List.mem_cons_of_mem _ hv')) fun fs hfs=>wpAny_pure (h _ fun f hf=>?_))
  rcases List.mem_cons.mp hf with rfl | hf
  ·cases e0:ws[0]? with
   | none=>exact .inl rfl
   | some x=>
    obtain ⟨t,et⟩:=IntsAre.int_at i 0 x (by rw [Array.getElem?_toList];exact e0)
    exact .inr ⟨_,t,by rw [et]⟩
  ·exact hfs f hf
theorem ZdC {M:Model}{vs:List Value}{Q:SortKind->Shared->Prop} (hv:∀v∈vs,∃a ks,v = .ref a/\Uv s.heap a ks) (h:∀kd,Kd3 kd->Q kd s):wpAny M A (keyKind' vs.toArray) Q E s:=by
 rw [kat_kind_eq,List.mapM_toArray,map_eq_pure_bind]
 refine wpAny_bind (wpAny_bind (Zdm vs hv fun fs hfs=>wpAny_pure ?_))
 refine wpAny_ite_split (fun _=>?_) (fun _=>wpAny_ite_split (fun _=>wpAny_pure (h _ (.inr (.inl rfl)))) fun _=>?_)
 ·refine wpAny_bind (wpAny_rule ?_)
  have hfm:(fs.toArray.filterMap id)=(fs.filterMap id).toArray:=by simp
  rw [hfm,oneTypeOnly'_eq,List.mapM_toArray,map_eq_pure_bind]
  refine wpAny_bind (wpAny_bind (wpAny_bind (W.kas_mapM (r:=.type "int") _ (fun v hv' Q' hq=>?_) (wpAny_pure ?_))))
  ·obtain ⟨f,hf,ef⟩:=List.mem_filterMap.mp hv'
   rcases hfs f hf with rfl | ⟨n,t,rfl⟩
   ·cases ef
   ·cases ef
    exact wpAny_typeOf (typeIs_int s n t) hq
  ·split
   ·exact wpAny_pure (wpAny_pure (h _ (.inl ⟨_,rfl⟩)))
   ·exact wpAny_pure (wpAny_pure (h _ (.inl ⟨_,rfl⟩)))
 ·rw [oneTypeOnly'_eq,List.mapM_toArray,map_eq_pure_bind]
  refine wpAny_bind (wpAny_bind (wpAny_bind (W.kas_mapM (r:=.type "tuple") _ (fun v hv' Q' hq=>?_) (wpAny_pure ?_))))
  ·obtain ⟨a,ks,rfl,ws,dd,n,sl,e,i⟩:=hv v hv'
   exact wpAny_typeOf (T := "tuple") ⟨_,e,rfl⟩ hq
  ·split
   ·refine wpAny_pure (wpAny_pure (h _ ?_))
    split
    ·exact .inr (.inr rfl)
    ·exact .inr (.inl rfl)
   ·exact wpAny_pure (wpAny_pure (h _ (.inr (.inl rfl))))
def Zd5 (h:Heap) (l:List Value):Prop:=l.Pairwise fun u v=>lexLt (Ze1 h v) (Ze1 h u)=false
theorem Zjg {M:Model} {α β:Type}{c:Prop} [Decidable c] {m n:Sem α}{f:α -> Sem β}{Q:β -> Shared->Prop} (R:α -> Prop) (h1:c -> ∀Q':α -> Shared->Prop,(∀x,R x->Q' x s)->wpAny M A m Q' E s) (h2:¬c -> ∀Q':α -> Shared->Prop,(∀x,R x->Q' x s)->wpAny M A n Q' E s)
  (h:∀x,R x->wpAny M A (f x) Q E s):wpAny M A (if c then m >>= f else n >>= f) Q E s:=by
 split
 ·exact wpAny_bind (h1 (by assumption) _ h)
 ·exact wpAny_bind (h2 (by assumption) _ h)
theorem Zd2 {T:String} (kp:SortKind->Prop) {D:Addr}{vs:List Value}{n:Nat}{P:PySem.Fin->Shared->Prop} (cm:∀s' kd,kp kd->Cmp prog w A E s' kd (DS T s') (ltW s'))
  (kn:∀(s':Shared) (Q:SortKind->Shared->Prop),vs ≠ []->(∀v∈vs,∃a ks,v = .ref a/\U6 T s'.heap a ks)->(∀kd,kp kd->Q kd s')->wpAny (model prog w) A (keyKind' vs.toArray) Q E s')
  (ho:s.heap.get? D=some (seqObj "list" vs.toArray n)) (hv:∀v∈vs,∃a ks,v = .ref a/\a≠D/\U6 T s.heap a ks) (hz:vs.length<=sizeLine)
  (h:∀out:Array Value,out.toList.Perm vs->Zd5 s.heap out.toList->P (.done (.ret .none)) { s with heap:=sortedHeap s.heap D vs out }):
  wpAny (model prog w) A (Builtin.«list.sort» ⟨[.ref D],[]⟩) P E s:=by
 rw [list_sort_plain]
 obtain ⟨ep,he⟩:∃ep,(s.heap.update D (Obj.mapSeq fun _=>#[])).get? D=some (seqObj "list" #[] ep):=⟨_,get?_update_seq ho fun _=>#[]⟩
 refine wpAny_bind (listItems_at ho rfl (wpAny_bind (listUpdate_at ho rfl (wpAny_bind (seqEpoch_at he rfl (wpAny_bind (wpAny_newTuple (wpAny_bind (wpAny_newList (wpAny_holding ?_))) (by simpa using hz))))) (by simpa using hz))))
 obtain ⟨u,eu⟩:∃u:Shared,u = { s with heap:=((s.heap.update D (Obj.mapSeq fun _=>#[])).push (seqObj "tuple" vs.toArray 0)).push (seqObj "list" #[] 0) }:=⟨_,rfl⟩
 have keep:∀b o,b≠D->s.heap.get? b=some o->u.heap.get? b=some o:=fun b o hb e=>by
  rw [eu]
  exact Heap.get?_push_of_some _ (Heap.get?_push_of_some _ ((Heap.get?_update_other _ _ (Ne.symm hb)).trans e))
 have hD:u.heap.get? D=some (seqObj "list" #[] ep):=by rw [eu];exact Heap.get?_push_of_some _ (Heap.get?_push_of_some _ he)
 have hu4:∀v∈vs,(∃a ks,v = .ref a/\U6 T u.heap a ks)/\Ze1 u.heap v=Ze1 s.heap v:=fun v hv'=>by
  obtain ⟨a,ks,rfl,ne,t⟩:=hv v hv'
  have t':=t.kept fun o q=>keep a o ne q
  exact ⟨⟨a,ks,rfl,t'⟩,by rw [t.key,t'.key]⟩
 show wpAny (model prog w) A _ P E { s with heap:=((s.heap.update D (Obj.mapSeq fun _=>#[])).push (seqObj "tuple" vs.toArray 0)).push (seqObj "list" #[] 0) }
 rw [<- eu]
 dsimp only
 refine Zjg (fun kd=>vs.toArray.size<2∨kp kd) (fun h2 Q' q=>wpAny_pure (q _ (.inl h2))) (fun h2 Q' q=>kn u Q' (fun z=>h2 (by rw [z];decide)) (fun v hv'=>(hu4 v hv').1) fun kd hk=>q kd (.inr hk)) fun kd hk=>?_
 refine wpAny_bind (wpAny_mono (Q:=fun r s''=>s''=u/\(arrOf r.2).toList.Perm (pairsOf vs).toList/\Ww (ltW u) (arrOf r.2).toList/\failedOf r.2=none) ?_ (fun r s'' hr=>?_) fun _ _ e=>e)
 ·by_cases h2:vs.toArray.size<2
  ·rw [if_pos h2,StateT.run_pure]
   refine wpAny_pure ⟨rfl,List.Perm.refl _,?_,rfl⟩
   have lp:(pairsOf vs).toList.length<2:=by rw [Array.length_toList,pairsOf_size];simpa using h2
   show Ww _ (pairsOf vs).toList
   generalize (pairsOf vs).toList=L at lp ⊢
   cases L with
   | nil=>exact .nil
   | cons x t=>
    cases t with
    | nil=>exact List.pairwise_singleton _ _
    | cons y t=>exact absurd lp (by simp)
  ·rw [if_neg h2]
   refine wpAny_mono (Zgl (cm u kd (hk.resolve_left h2)) (st:=SortSt.mk' kd (vs.toArray.zip vs.toArray) #[] 7 none) (Q:=fun _ st'=>(arrOf st').toList.Perm (pairsOf vs).toList/\Ww (ltW u) (arrOf st').toList/\failedOf st'=none)
    (fun p hp=>?_) rfl rfl rfl fun st' a1 a2 a3=>⟨a1,a2,a3⟩) (fun r s'' x=>x) fun _ _ e=>e
   have hp':p∈(pairsOf vs).toList:=hp
   rw [pairsOf_toList] at hp'
   exact (hu4 _ (mem_zip_self hp').2).1
 obtain ⟨rfl,hp,hs,hf⟩:=hr
 refine wpAny_bind (seqEpoch_at hD rfl (wpAny_bind (listUpdate_at hD rfl ?_ (hsz2:=by
  have:=hp.length_eq
  rw [Array.length_toList,Array.length_toList,pairsOf_size] at this
  rw [Array.size_map,this];lia))))
 have same:∀p∈(arrOf r.2).toList,p.1=p.2/\p.1∈vs:=fun p hp'=>by
  have:=hp.mem_iff.mp hp'
  rw [pairsOf_toList] at this
  exact mem_zip_self this
 have:=h ((arrOf r.2).map (·.2)) (by
  rw [Array.toList_map]
  refine (hp.map _).trans ?_
  rw [pairsOf_toList,List.map_snd_zip (Nat.le_refl _)]) (by
  rw [Array.toList_map]
  refine List.pairwise_map.mpr (List.Pairwise.imp_of_mem (fun {p q} hp' hq' x=>?_) hs)
  rw [<- (same p hp').1,<- (same q hq').1,<- (hu4 _ (same p hp').2).2,<- (hu4 _ (same q hq').2).2]
  exact x)
 unfold sortedHeap at this
 subst eu
 rw [hf,if_neg (by simp)]
 exact wpAny_pure this
theorem ZhC {D:Addr}{vs:List Value}{n:Nat}{P:PySem.Fin->Shared->Prop} (hu:A.units<cLine) (ho:s.heap.get? D=some (seqObj "list" vs.toArray n)) (hv:∀v∈vs,∃a ks,v = .ref a/\a≠D/\Uv s.heap a ks) (hz:vs.length<=sizeLine)
  (h:∀out:Array Value,out.toList.Perm vs->Zd5 s.heap out.toList->P (.done (.ret .none)) { s with heap:=sortedHeap s.heap D vs out }):
  wpAny (model prog w) A (Builtin.«list.sort» ⟨[.ref D],[]⟩) P E s:=Zd2 Kd3 (fun s' kd hk=>Zem hk hu) (fun s' Q _ hv h=>ZdC hv h) ho hv hz h
theorem ZgG {T:String} (kp:SortKind->Prop) {l:Addr}{vs:List Value}{Q:Value->Shared->Prop} (cm:∀A,A.units<cLine -> ∀E s' kd,kp kd->Cmp prog w A E s' kd (DS T s') (ltW s'))
  (kn:∀(A:Around) E (s':Shared) (Q:SortKind->Shared->Prop),vs ≠ []->(∀v∈vs,∃a ks,v = .ref a/\U6 T s'.heap a ks)->(∀kd,kp kd->Q kd s')->wpAny (model prog w) A (keyKind' vs.toArray) Q E s')
  (hu:A.units+2<cLine) (hl:s.heap.IsList l vs.toArray) (hv:∀v∈vs,∃a ks,v = .ref a/\U6 T s.heap a ks) (hz:vs.length<=sizeLine)
  (h:∀(out:Array Value),out.toList.Perm vs->(∃h1:Heap,(∀a ks,U6 T s.heap a ks->U6 T h1 a ks)/\Zd5 h1 out.toList)->Q (.ref (s.heap.objs.size+1)) { s with heap:=sortedAll s.heap vs out }):
  wpAny (model prog w) A (call (.builtin "sorted") [.ref l]) Q E s:=by
 refine Calls.call_function_entry kind_sorted plain_sorted entry_sorted (args_sorted1 _) ?_
 unfold Builtin.«sorted»
 refine wpAny_bind (wpAny_of_eq (a:=()) rfl (wpAny_bind (collect_list hl (wpAny_bind (wpAny_newList ?_ hz)) hz)))
 obtain ⟨u,eu⟩:∃u:Heap,u=(s.heap.push (seqObj "list" #[] 0)).update s.heap.objs.size (Obj.mapSeq (· ++ vs.toArray)):=⟨_,rfl⟩
 have zu:u.objs.size=s.heap.objs.size+1:=by rw [eu,Heap.size_update,size_push']
 have kp':∀b o,s.heap.get? b=some o->(u.push (seqObj "list" vs.toArray 0)).get? b=some o:=fun b o e=>Heap.get?_push_of_some _ (by
  rw [eu,Heap.get?_update_ne _ _ _ _ (Nat.ne_of_lt (Heap.lt_size e))]
  exact Heap.get?_push_of_some _ e)
 have nw:(u.push (seqObj "list" vs.toArray 0)).get? (s.heap.objs.size+1)=some (seqObj "list" vs.toArray 0):=zu ▸ Heap.get?_push_size _ rfl
 show wpAny _ _ _ _ _ { s with heap:=((s.heap.push (seqObj "list" #[] 0)).update s.heap.objs.size (Obj.mapSeq (· ++ vs.toArray))).push (seqObj "list" vs.toArray 0) }
 unfold sortedAll at h
 rw [<- eu] at h ⊢
 rw [zu]
 refine wpAny_bind (wpAny_holding (wpAny_call_entry slot_list_sort ⟨_,nw,rfl⟩ entry_list_sort (Zd2 kp (cm _ (by exact hu) _) (kn _ _) nw (fun v hv'=>?_) hz fun out a2 a3=>⟨_,rfl,wpAny_pure ⟨_,rfl,h out a2 ⟨_,fun a ks t=>t.kept fun o e=>kp' a o e,a3⟩⟩⟩) (args_list_sort _)))
 obtain ⟨a,ks,e,t⟩:=hv v hv'
 refine ⟨a,ks,e,?_,t.kept fun o e=>kp' a o e⟩
 obtain ⟨_,_,_,_,e',_⟩:=t
 exact Nat.ne_of_lt (Nat.lt_succ_of_lt (Heap.lt_size e'))
end
theorem Zax {α β:Type} (f:α -> β):∀(l:List α) (j:Nat),(l.map f).eraseIdx j=(l.eraseIdx j).map f
 | [],_=>rfl
 | _::_,0=>rfl
 | x::l,j+1=>by show f x::(l.map f).eraseIdx j=f x::(l.eraseIdx j).map f;rw [Zax f l j]
section
variable {prog:Program}{w:World}{K:Type} [DecidableEq K] {knd:HeapKind prog w K}{A:Around}{E:Value->Shared->Prop}{s:Shared}
def Zhz (xs:List (K×Addr×Value)) (k:K):List (K×Addr×Value):=xs.filter fun x=>decide (x.1≠k)
theorem Zdi:∀{xs:List (K×Addr×Value)}{j:Nat}{k:K}{p:Addr×Value},(xs.map (·.1)).Nodup->xs[j]? = some (k,p)->xs.eraseIdx j=Zhz xs k
 | [],j,k,p,_,h=>by simp at h
 | x::xs,0,k,p,hn,h=>by
  simp only [List.getElem?_cons_zero,Option.some.injEq] at h
  subst h
  rw [List.map_cons,List.nodup_cons] at hn
  show xs=_
  unfold Zhz
  rw [List.filter_cons_of_neg (by simp)]
  symm
  refine List.filter_eq_self.mpr fun y hy=>?_
  have:¬y.1=k:=fun e=>hn.1 (List.mem_map.mpr ⟨y,hy,e⟩)
  simp [this]
 | x::xs,j+1,k,p,hn,h=>by
  rw [List.getElem?_cons_succ] at h
  rw [List.map_cons,List.nodup_cons] at hn
  have:¬x.1=k:=fun e=>hn.1 (List.mem_map.mpr ⟨_,List.mem_of_getElem? h,e.symm⟩)
  show x::xs.eraseIdx j=_
  unfold Zhz
  rw [List.filter_cons_of_pos (by simp [this]),Zdi hn.2 h];rfl
theorem ZeX {d a:Addr}{xs:List (K×Addr×Value)}{k:K}{Q:Option DictEntry->Shared->Prop} (hu:knd.room A) (hkey:knd.is s.heap k a) (hm:s.heap.DictOfH knd d xs) (ht:(atKey xs k).isSome=true) (hsz:xs.length<=sizeLine)
  (h:∀e h',h'.DictOfH knd d (Zhz xs k)->Heap.SameBut d s.heap h'->Q (some e) { s with heap:=h',toks:=s.toks+knd.draws k }):
  wpAny (model prog w) A (Builtin.Dict.takeOut d (.ref a)) Q E s:=by
 obtain ⟨o,es,ep,ho,hc,hd,he,his,hn⟩:=hm
 have hes:es.size<=sizeLine:=by rw [size_of_entries he];exact hsz
 unfold Builtin.Dict.takeOut
 try with_reducible refine wpAny_holding ?_
 refine wpAny_bind (knd.pyHash hu hkey ?_)
 refine wpAny_bind (wpAny_dictFind_heap (s:={ s with toks:=s.toks+knd.draws k }) hu hkey ho hd he his hn (fun hno=>?_) fun j p hj=>?_)
 ·rw [atKey_none_of_get hno] at ht;cases ht
 ·refine wpAny_bind (wpAny_dictEntries (s:={ s with toks:=s.toks+knd.draws k }) ho hd ?_)
  have he':es[j]? = some (entryOfKey knd (k,p)):=by rw [entry_at he j,hj];rfl
  rw [he']
  refine wpAny_bind (wpAny_updateDictKeys (hz:=hes) (s:={ s with toks:=s.toks+knd.draws k }) ho hd (wpAny_pure (h _ _ ⟨_,_,ep+1,Heap.get?_update_self _ ho (Obj.isFreed_of_dict (Obj.data_mapDictKeys hd _)),
   hc.mapDictKeys _,Obj.data_mapDictKeys hd _,?_,fun x hx=>?_,?_⟩ (Heap.SameBut.update ..))))
  ·rw [<- Zdi hn hj]
   obtain ⟨l⟩:=es
   simp only [List.eraseIdxIfInBounds_toArray]
   have:l=xs.map (entryOfKey knd):=he
   rw [this,Zax]
  ·exact knd.keeps (his x (List.mem_filter.mp hx).1) ho hd (Heap.SameBut.update ..)
  ·exact List.Nodup.sublist ((List.filter_sublist).map _) hn
theorem Zas {d a:Addr}{k:K}:
  MeetsIn prog w (Builtin.«dict.__delitem__» ⟨[.ref d,.ref a],[]⟩) (fun A R s=>knd.room A.in1 /\ ∃xs,knd.is s.heap k a/\s.heap.DictOfH knd d xs/\xs.length<=sizeLine/\(atKey xs k).isSome=true /\
   ∀h',h'.DictOfH knd d (Zhz xs k)->Heap.SameBut d s.heap h'->R (.ok (.ret .none)) { s with heap:=h',toks:=s.toks+knd.draws k }):=
 .of_wp fun A R s ⟨hu,xs,hkey,hm,hsz,hthere,h⟩=>by
  unfold Builtin.«dict.__delitem__»
  refine wpAny_bind ?_
  unfold Builtin.Dict.dictSlotArgs
  refine wpAny_bind (wpAny_notOrdered_dict hm.typeIs ?_)
  show wpAny _ _ (pure (Value.ref d,Value.ref a)) _ _ s
  refine wpAny_pure ?_
  show wpAny _ _ (Builtin.Dict.takeOut d (.ref a) >>= _) _ _ s
  refine wpAny_bind (ZeX hu hkey hm hthere hsz fun e h' hm' hs'=>?_)
  exact wpAny_bind (wpAny_letGo (wpAny_pure ⟨.none,rfl,h h' hm' hs'⟩))
end
theorem KT.drop {H:Hp}{kvs:List (List Key×V)}{xs:List (List Key×Addr×Value)} (r:KT H kvs xs) (k:List Key):KT H (Zc7 kvs k) (Zhz xs k):=by
 unfold Zc7 Zhz
 induction r with
 | nil=>exact .nil
 | @cons p q ps qs h t ih=>
  rw [List.filter_cons,List.filter_cons]
  obtain ⟨h1,h2,h3⟩:=h
  by_cases e:p.1=k
  ·have e':q.1=k:=h1.symm.trans e
   simp only [e,e',ne_eq,not_true,decide_false,Bool.false_eq_true,if_false];exact ih
  ·have e':¬q.1=k:=fun z=>e (h1.trans z)
   simp only [e,e',ne_eq,not_false_eq_true,decide_true,if_true];exact .cons ⟨h1,h2,h3⟩ ih
section
variable {X:Cx}{pins:List (Addr×Obj)} {σ:St}{H:Hp}{s:Shared}{a b:Addr}{kvs:List (List Key×V)}{k:List Key}{A:Around}{E:Value->Shared->Prop}
theorem Zhb {Q:Unit->Shared->Prop} (hu:A.units+1<cLine) (I:Inv X pins σ H s) (e:H a=some (.dT kvs)) (eb:H b=some (.tup (k.map kV))) (l:(GK kvs k).isSome=true) (h:∀s',Inv X pins σ (upd H a (.dT (Zc7 kvs k))) s'->Q () s'):
  wpAny (model X.prog X.w) A (delItem (.ref a) (.ref b)) Q E s:=by
 obtain ⟨z,hd,xs,rel,dd⟩:=Zll I.hok e
 refine wpAny_delItem_slot dd.typeIs (by decide) PySem.F.slot_dict_delitem
  (call_meetsIn PySem.F.slot_dict_delitem dd.typeIs PySem.F.entry_dict_delitem (PySem.F.args_dict_delitem_2 _ _) (Zas (knd:=tupleKind (Ys X.prog X.w)) (d:=a) (a:=b) (k:=k))
   ⟨tupleKind_room_in1 hu,xs,ZdF I.hok eb,dd,by rw [<- Paired.length rel];exact z,by
    have q:=(rel.val k).isSome_eq
    rw [Option.isSome_map] at q
    rw [<- q];exact l,fun h' dd' hs=>h _ ?_⟩)
 obtain ⟨q,es,ep,hq,h2,h3,h4,_,h5⟩:=dd'
 refine Zcr I (by rw [e];exact True.intro) hs ⟨q,hq⟩ ⟨Nat.le_trans (ZjV kvs k) z,hd,_,(rel.drop k).keeps fun c ys ec=>?_,q,es,ep,hq,h2,h3,h4,h5⟩
 rw [Zj (Zgq ec e (fun z=>nomatch z))]
 exact ec
end
def Zoa (td ty:TE):TS:=fun D σ H=>td σ H fun x H1=>ty σ H1 fun y H2=>∃a kvs k b,x = .ref a/\H2 a=some (.dT kvs)/\y = .ref b/\H2 b=some (.tup (k.map kV))/\(GK kvs k).isSome=true/\D.nx σ (upd H2 a (.dT (Zc7 kvs k)))
theorem Zkr {X:Cx}{o i:Expr}{pos tpos:Pos}{td ty:TE} (hu:X.A.units+1<cLine) (ho:PE X o td) (hi:PE X i ty):PS X (.Delete [.Subscript o i tpos] pos) (Zoa td ty):=by
 intro pins s σ H D I h
 refine wpAny_Delete (wpAny_deleteEach_cons (wpAny_delete_Subscript (YG (ho pins s σ H _ I h) fun u s1 ⟨x,H1,I1,rx,q1⟩=>YG (hi pins s1 σ H1 _ I1 q1) fun iv s2 ⟨y,H2,I2,ry,a,kvs,k,b,ex,e,ey,eb,l,q2⟩=>?_)))
 subst ex ey
 obtain rfl:u=Value.ref a:=rx
 obtain rfl:iv=Value.ref b:=ry
 exact Zhb hu I2 e eb l fun s3 I3=>wpAny_deleteEach_nil ⟨σ,_,I3,q2⟩
def DAt (h:Heap) (d:Addr) (es:Array DictEntry) (ep:Nat):Prop:=∃o,h.get? d=some o/\o.ExactDict/\o.data = .dict es ep
section
variable {prog:Program}{w:World}{A:Around}{E:Value->Shared->Prop}{s:Shared}{d it:Addr}{es:Array DictEntry}{ep i:Nat}
theorem DAt.typeIs (x:DAt s.heap d es ep):s.TypeIs (.ref d) "dict" := let ⟨o,e,c,_⟩:=x;⟨o,e,c.1⟩
theorem DAt.kept {h h':Heap} (x:DAt h d es ep) (k:∀o,h.get? d=some o->h'.get? d=some o):DAt h' d es ep:=let ⟨o,e,r⟩:=x;⟨o,k o e,r⟩
theorem DAt.lt {h:Heap} (x:DAt h d es ep):d<h.objs.size:=let ⟨_,e,_⟩:=x;Heap.lt_size e
theorem Zow {Q:Value->Shared->Prop} (hd:(d==sysModules)=false) (x:DAt s.heap d es ep)
  (hQ:Q (.ref s.heap.objs.size) { s with heap:=s.heap.push { cls:=.type "dict_keyiterator", data:=.fields #[.ref d,.int 0 0,.int es.size 0,.int ep 0] } }):wpAny (model prog w) A (pyIter (.ref d)) Q E s:=by
 obtain ⟨o,g1,g2,g3⟩:=id x
 have ty:=x.typeIs
 refine wpAny_pyIter_slot ty F.slot_dict_iter (wpAny_call_entry F.slot_dict_iter ty F.entry_dict_iter ?_ (F.args_dict_iter_1 _))
 unfold Builtin.«dict.__iter__» Builtin.Dict.dictSlotNone Builtin.Dict.showsAll
 wp_walk using wpAny_notOrdered_dict ty,wpAny_ite_false hd,wpAny_dictEntries g1 g3,wpAny_dictEpoch g1 g3,wpAny_newObj_type
 ·exact ⟨_,rfl,_,_,⟨_,Heap.get?_push_size _ rfl,rfl⟩,F.slot_dict_keyiterator_next.lookup,hQ⟩
 ·size_fits
theorem ZgL {α:Type}{Q:α -> Shared->Prop} (hh:A.handled=none) (h:∀h' a,(∀b o,s.heap.get? b=some o->h'.get? b=some o)->Shared.TypeIs { s with heap:=h' } (.ref a) "StopIteration" -> E (.ref a) { s with heap:=h' }):
  wpAny (model prog w) A ((newExc (.type "StopIteration") [] >>= raiseNew:Sem α)) Q E s:=by
 wp_walk using wpAny_newObj_type,wpAny_raiseNew_none hh
 ·exact h _ _ (fun b o e=>Heap.get?_push_of_some _ (Heap.get?_push_of_some _ e)) ⟨_,Heap.get?_push_size _ rfl,rfl⟩
 all_goals size_fits
theorem Zqn {M:Model}{a:Addr}{o:Obj}{vs:Array Value}{k:Nat}{x:Value}{Q:Unit->Shared->Prop} (ho:s.heap.get? a=some o) (hd:o.data = .fields vs) (hk:k<vs.size)
  (h:∀h',(∃o',h'.get? a=some o'/\o'.cls=o.cls/\o'.data = .fields (vs.setIfInBounds k x))->Heap.SameBut a s.heap h'->Q () { s with heap:=h' }):wpAny M A (setField (.ref a) k x) Q E s:=
 wpAny_setField ho hd hk (h _ ⟨_,Heap.get?_update_self _ ho (Obj.isFreed_of_fields (Obj.data_mapFields hd _)),Obj.cls_mapFields ..,Obj.data_mapFields hd _⟩ (Heap.SameBut.update ..))
theorem Zkq {Q:Option Value->Shared->Prop} (hit:s.heap.IsKeyIter it d i es.size ep) (hm:DAt s.heap d es ep)
  (hQ:∀e,es[i]? = some e -> ∀h',h'.IsKeyIter it d (i+1) es.size ep->Heap.SameBut it s.heap h'->Q (some e.key) { s with heap:=h' })
  (hE:es.size<=i->A.handled=none /\ ∀h',Heap.ExtBut it s.heap h'->Q none { s with heap:=h' }):wpAny (model prog w) A (pyNext (.ref it)) Q E s:=by
 obtain ⟨hp,g,dr,tk,os⟩:=s
 obtain ⟨o1,f1,f2,f3⟩:=id hit
 obtain ⟨o2,k1,k2,k3⟩:=hm
 have ty:=hit.typeIs
 unfold pyNext
 refine wpAny_bind (wpAny_attempt (wpAny_callSpecial?_slot (name:=Str.ofString "__next__") ty F.slot_dict_keyiterator_next (wpAny_call_entry F.slot_dict_keyiterator_next ty F.entry_dict_keyiterator_next ?_ (F.args_dict_keyiterator_next_1 _))))
 wp_walk using wpAny_dictEntries k1 k3,wpAny_dictEpoch k1 k3,wpAny_typeNameOfWhole_keyiter ty,wpAny_fieldsOf f1 f3
 rw [if_neg (by lia),Int.toNat_natCast]
 cases hx:es[i]? with
 | some e=>
  wp_walk using wpAny_typeNameOfWhole_keyiter ty,wpAny_isOneOf_keyiter ty,Zqn f1 f3
  ·show 1<4
   decide
  rintro h1 ⟨o3,n1,n2,n3⟩ sb
  have n:h1.IsKeyIter it d (i+1) es.size ep:=⟨o3,n1,n2.trans f2,n3⟩
  have ty1:Shared.TypeIs ⟨h1,g,dr,tk,os⟩ (.ref it) "dict_keyiterator" := n.typeIs
  wp_walk using wpAny_isOneOf_keyiter ty1
  exact ⟨_,rfl,wpAny_pure (hQ e hx _ n sb)⟩
 | none=>
  obtain ⟨hh,hE⟩:=hE (by simpa using hx)
  wp_walk using wpAny_typeNameOfWhole_keyiter ty,wpAny_setField f1 f3
  ·show 0<4
   decide
  refine ZgL hh fun h' a k ty=>?_
  wp_walk using wpAny_isInstance (T := "StopIteration") (b:=true) ty isSubtype_stop
  exact hE h' fun b o hb e=>k b o ((Heap.get?_update_other _ _ (Ne.symm hb)).trans e)
theorem Zmj (hh:A.handled=none) (I:Addr) (hne:d≠I):Walks prog w A I [I,d] [I] es.size (fun i v=>∃e,es[i]? = some e/\v=e.key) (fun i h=>h.IsKeyIter I d i es.size ep/\DAt h d es ep) where
 sub:=fun b hb=>by simp at hb;simp [hb]
 frame:=fun _ _ _ st hk=>⟨st.1.at fun o e=>hk I (by simp) o e,st.2.kept fun o e=>hk d (by simp) o e⟩
 item:=fun i s Q E hi st hQ=>by
  refine Zkq st.1 st.2 (fun e he h' hit' hs'=>?_) (fun z=>absurd hi (Nat.not_lt.mpr z))
  exact hQ _ h' s.toks ⟨e,he,rfl⟩ ⟨hit',st.2.kept fun o e=>hs'.extBut d o hne e⟩ fun b o hb e=>hs'.extBut b o (fun h=>hb (by simp [h])) e
 done:=fun s Q E st hQ=>Zkq st.1 st.2 (fun e he=>by rw [Array.getElem?_eq_none (Nat.le_refl _)] at he;cases he) fun _=>⟨hh,fun h' he'=>hQ h' s.toks fun b o hb e=>he' b o (fun h=>hb (by simp [h])) e⟩
 self:=fun _ _ _ _ st hQ=>wpAny_pyIter_keyiter st.1 hQ
theorem Zph (lo:(d==sysModules)=false):PySem.W.KdlSrc prog w "dict" d d es.size (fun i v=>∃e,es[i]? = some e/\v=e.key) (fun h=>DAt h d es ep) where
 type:=fun _ hm=>hm.typeIs
 there:=fun _ hm=>⟨hm.lt,hm.lt⟩
 keep:=fun _ _ hm hk=>hm.kept fun o e=>hk d (.inl rfl) o e
 notList:=by decide
 notTuple:=by decide
 hint:=fun _ _ _ _ hm hq=>PySem.W.kdl_hint_dict hm.typeIs hq
 iter:=fun _ _ hh hm=>⟨_,_,(fun _ _ hq=>Zow lo hm hq),Zmj hh _ (Nat.ne_of_lt hm.lt),⟨⟨_,Heap.get?_push_size _ rfl,rfl,rfl⟩,hm.kept fun o e=>Heap.get?_push_of_some _ e⟩⟩
end
def Zaq (H:Hp) (v:V) (ks:List Int):Prop:=∃a,v = .ref a/\H a=some (.tup (ks.map V.int))
abbrev Words (H:Hp) (xs:List V) (ws:List (List Int)):Prop:=Paired (Zaq H) xs ws
theorem Paired.perm2 {α β:Type}{F:α -> β -> Prop}{l:List α}{m m':List β} (p:m.Perm m'):Paired F l m -> ∃l',l.Perm l'/\Paired F l' m':=by
 induction p generalizing l with
 | nil=>intro r;cases r;exact ⟨[],.nil,.nil⟩
 | cons x _ ih=>intro r;cases r with | cons h t=>obtain ⟨l',a,b⟩:=ih t;exact ⟨_::l',a.cons _,.cons h b⟩
 | swap x y t=>intro r;cases r with | cons h t=>cases t with | cons h2 t=>exact ⟨_,.swap _ _ _,.cons h2 (.cons h t)⟩
 | trans _ _ i1 i2=>intro r;obtain ⟨l1,a,b⟩:=i1 r;obtain ⟨l2,c,d⟩:=i2 b;exact ⟨l2,a.trans c,d⟩
theorem Paired.flip {α β:Type}{F:α -> β -> Prop}:∀{l:List α}{m:List β},Paired F l m->Paired (fun b a=>F a b) m l
 | _,_,.nil=>.nil
 | _,_,.cons h t=>.cons h (Paired.flip t)
theorem Paired.mem1 {α β:Type}{F:α -> β -> Prop}:∀{l:List α}{m:List β},Paired F l m -> ∀a∈l,∃b∈m,F a b
 | _,_,.nil,a,h=>by cases h
 | _,_,.cons r t,a,h=>by
  rcases List.mem_cons.mp h with rfl | h
  ·exact ⟨_,List.mem_cons_self,r⟩
  ·obtain ⟨b,hb,f⟩:=Paired.mem1 t a h
   exact ⟨b,List.mem_cons_of_mem _ hb,f⟩
def Zgj (ws:List (List Int)):Prop:=ws.Pairwise fun u v=>lexLt v u=false
section
variable {X:Cx}{pins:List (Addr×Obj)} {σ:St}{H:Hp}{s:Shared}
theorem Ziw {P:Program}{w:World}{h:Heap}{a:Addr}{ks:List Int} (ok:GL P w H h) (e:H a=some (.tup (ks.map V.int))):Uv h a ks:=by
 obtain ⟨_,its,r,o,h1,h2,n,h3⟩:=(show Yy P w H h a (.tup (ks.map V.int)) from ok a _ e)
 obtain ⟨cls,dd,data,sl⟩:=o
 dsimp only at h2 h3
 subst h2 h3
 exact ⟨its.toArray,dd,n,sl,h1,by simpa using GW r⟩
theorem Zgf {P:Program}{w:World}{h:Heap}{v:V}{u:Value}{ks:List Int} (ok:GL P w H h) (x:Zaq H v ks) (r:RelV v u):∃a,u = .ref a/\H a=some (.tup (ks.map V.int))/\Uv h a ks:=by
 obtain ⟨a,rfl,e⟩:=x
 exact ⟨a,r,e,Ziw ok e⟩
theorem Zkv {T:String}{F:V->List Int->Prop}{h h1:Heap} (hF:∀{v u ks},F v ks->RelV v u -> ∃a,u = .ref a/\U6 T h a ks) {xs:List V}{us out:List Value}{ws:List (List Int)} (r:Vals xs us) (x:Paired F xs ws) (hp:out.Perm us)
  (hk:∀a ks,U6 T h a ks->U6 T h1 a ks) (hr:Zd5 h1 out):∃ys vs,Vals ys out/\Paired F ys vs/\ys.Perm xs/\vs.Perm ws/\Zgj vs:=by
 obtain ⟨ys,p1,r1⟩:=Paired.perm2 hp.symm r
 obtain ⟨vs,p2,r2⟩:=Paired.perm2 p1 (Paired.flip x)
 have x2:Paired F ys vs:=Paired.flip r2
 refine ⟨ys,vs,r1,x2,p1.symm,p2.symm,?_⟩
 have key:∀{ys:List V}{out:List Value}{vs:List (List Int)},Vals ys out->Paired F ys vs->out.map (Ze1 h1)=vs:=by
  intro ys out vs a b
  induction a generalizing vs with
  | nil=>cases b;rfl
  | cons r _ ih=>
   cases b with
   | cons f t=>
    obtain ⟨q,e1,e3⟩:=hF f r
    rw [List.map_cons,ih t,e1,(hk _ _ e3).key]
 rw [<- key r1 x2]
 unfold Zgj
 rw [List.pairwise_map]
 exact hr
end
section
variable {prog:Program}{w:World}{A:Around}{E:Value->Shared->Prop}{s:Shared}
theorem Zfo {l:Addr}{vs:List Value}{Q:Value->Shared->Prop} (hu:A.units+2<cLine) (hl:s.heap.IsList l vs.toArray) (hv:∀v∈vs,∃a ks,v = .ref a/\Uv s.heap a ks) (hz:vs.length<=sizeLine)
  (h:∀(out:Array Value),out.toList.Perm vs->(∃h1:Heap,(∀a ks,Uv s.heap a ks->Uv h1 a ks)/\Zd5 h1 out.toList)->Q (.ref (s.heap.objs.size+1)) { s with heap:=sortedAll s.heap vs out }):
  wpAny (model prog w) A (call (.builtin "sorted") [.ref l]) Q E s:=ZgG Kd3 (fun A hu E s' kd hk=>Zem hk hu) (fun A E s' Q _ hv h=>ZdC hv h) hu hl hv hz h
end
section
variable {X:Cx}
def Zlf (K:PySem.W.Frag):List V->Hp->VK->Prop:=fun xs H Q=>∃(p:Addr) (ys:List V) (ws:List (List Int)),xs = [.ref p]/\Zo K H p ys/\Words H ys ws /\
  ∀(l:Addr) (zs:List V) (vs:List (List Int)),H l=none->zs.Perm ys->vs.Perm ws->Words H zs vs->Zgj vs->Q (.ref l) (upd H l (.lst zs))
theorem Ze7 (hu:X.A.units+64<cLine):WV X (.builtin "sorted") (Zlf X.K):=by
 intro pins s σ H xs us Q I r h
 obtain ⟨p,ys,ws,rfl,hq,hw,q⟩:=h
 obtain ⟨u,rfl,ru⟩:=r.one
 cases ru
 obtain ⟨its,rv,pl,hz⟩:=I.list hq
 have hlen:ys.length=its.length:=rv.length
 refine Zfo (by lia) pl.isList (fun v hv=>?_) (by lia) fun out a2 ⟨h1,k1,a3⟩=>?_
 ·obtain ⟨y,hy,ry⟩:=Paired.mem1 (Paired.flip rv) v hv
  obtain ⟨ks,_,hk⟩:=Paired.mem1 hw y hy
  obtain ⟨a,e1,e2,e3⟩:=Zgf I.hok hk ry
  exact ⟨a,ks,e1,e3⟩
 obtain ⟨zs,vs,b1,b2,b3,b4,b5⟩:=Zkv (fun f r=>(Zgf I.hok f r).imp fun _ z=>⟨z.1,z.2.2⟩) rv hw a2 k1 a3
 obtain ⟨e,he⟩:=sortedAll_at s.heap its out
 have fr:H (s.heap.objs.size+1)=none:=I.hok.fresh (Nat.le_succ _)
 refine ⟨.ref (s.heap.objs.size+1),_,I.laid (a:=s.heap.objs.size+1) (o:=.lst zs) (t':=s.toks) (fun b o q=>sortedAll_old q) (Nat.le_succ _) ⟨?_,out.toList,e,b1,?_⟩,rfl,q _ _ _ fr b3 b4 b2 b5⟩
 ·rw [b3.length_eq];lia
 ·simpa [seqObj] using he
end
def kW (ks:List Int):List Key:=ks.map Sum.inl
theorem Zpc (ks:List Int):(kW ks).map kV=ks.map V.int:=by unfold kW;rw [List.map_map];rfl
theorem ZjI {a b:List Int} (h:kW a=kW b):a=b:=(List.map_inj_right (fun x y h=>by injection h)).mp h
section
variable {prog:Program}{w:World}{A:Around}{E:Value->Shared->Prop}{s:Shared}{h₀:Heap}{L D:Addr}{m:Str->Option Value}{news:List (Addr×Obj)}{n:Nat}{vs:List Value}{Q:Value->Shared->Prop}
theorem Zn9 (hu:A.units+1<cLine) (F:Fr h₀ L s.heap m) (N:News h₀ L s.heap ((D,W.listOf vs.toArray n)::news)) (lt:∀q∈news,q.1<D) (hv:∀v∈vs,∃a ks,v = .ref a/\a≠D/\Uv s.heap a ks) (hz:vs.length<=sizeLine)
  (h:∀vs' c h',Fr h₀ L h' m->News h₀ L h' ((D,W.listOf (List.toArray vs') c)::news)->vs'.Perm vs->Zd5 s.heap vs'->Q .none { s with heap:=h' }):
  wpAny (model prog w) A (call (.builtin "list.sort") [.ref D]) Q E s:=by
 have z:=N (D,W.listOf vs.toArray n) List.mem_cons_self
 have ho:s.heap.get? D=some (seqObj "list" vs.toArray n):=z.1
 refine wpAny_call_entry PyProof.Rows.slot_list_sort ⟨_,z.1,rfl⟩ PyProof.Rows.entry_list_sort (ZhC (n:=n) (vs:=vs) (by exact hu) ho hv hz fun out hp hP=>⟨.none,rfl,?_⟩) (PyProof.Rows.args_list_sort _)
 obtain ⟨c,hc⟩:=sortedHeap_at (vs:=vs) (out:=out) ho
 have F4:Fr h₀ L (sortedHeap s.heap D vs out) m:=
  ksk_fr (((ksk_fr F (Heap.SameBut.update s.heap D (Obj.mapSeq fun _=>#[])) z.2.1 z.2.2).push (seqObj "tuple" vs.toArray 0)).push (seqObj "list" #[] 0)) (Heap.SameBut.update _ D (Obj.mapSeq fun _=>out)) z.2.1 z.2.2
 refine h out.toList c _ F4 ?_ hp hP
 intro p hq
 rcases List.mem_cons.mp hq with rfl | hq
 ·exact ⟨hc,z.2⟩
 ·have y:=N p (.tail _ hq)
  exact ⟨(sortedHeap_old (Nat.ne_of_lt (lt p hq)) (Heap.lt_size y.1)).trans y.1,y.2⟩
end
section
variable {X:Cx}
def ZnX:List V->Hp->VK->Prop:=fun xs H Q=>∃(p:Addr) (kvs:List (List Key×V)) (ws:List (List Int)),xs = [.ref p]/\H p=some (.dT kvs)/\kvs.map (·.1)=ws.map kW /\
  ∀(l:Addr) (zs:List V) (vs:List (List Int)),H l=none->vs.Perm ws->Words H zs vs->Zgj vs->Q (.ref l) (upd H l (.lst zs))
theorem ZfB {H:Hp}:∀{kvs:List (List Key×V)}{xs:List (List Key×Addr×Value)}{ws:List (List Int)},KT H kvs xs->kvs.map (·.1)=ws.map kW->Words H (xs.map fun q=>V.ref q.2.1) ws
 | _,_,[],.nil,_=>.nil
 | _,_,_::_,.nil,e=>by simp at e
 | _,_,[],.cons _ _,e=>by simp at e
 | _,_,w::ws,.cons (a:=p) (b:=q) h t,e=>by
  rw [List.map_cons,List.map_cons] at e
  injection e with e1 e2
  refine .cons ⟨q.2.1,rfl,?_⟩ (ZfB t e2)
  have:=h.2.1
  rw [e1,Zpc] at this
  exact this
theorem Zau (hc:X.calm=true) (hu:X.A.units+64<cLine):WV X (.builtin "sorted") ZnX:=by
 intro pins s σ H xs us Q I r h
 obtain ⟨p,kvs,ws,rfl,hp,hk,q⟩:=h
 obtain ⟨u,rfl,ru⟩:=r.one
 cases ru
 obtain ⟨z,hsm,xs,rel,ob,es,ep,o1,o2,o3,o4,o5,o6⟩:=Zll I.hok hp
 obtain ⟨m,fr⟩:=I.fr
 have lv:kvs.length=xs.length:=Paired.length rel
 have ln:kvs.length=ws.length:=by simpa using congrArg List.length hk
 have le:es.size=xs.length:=size_of_entries o4
 refine W.kdu_sorted (Zph (es:=es) (ep:=ep) hsm) (I.ok.hd hc) fr (news:=W9 X.base s.heap X.env.locals) ZfH ⟨ob,o1,o2,o3⟩ (by lia) fun D h' tk us fr' nw' lt' hlen hP=>?_
 have hus:us=xs.map fun q=>Value.ref q.2.1:=by
  refine List.ext_getElem? fun j=>?_
  cases e:us[j]? with
  | none=>
   have:=List.getElem?_eq_none_iff.mp e
   rw [List.getElem?_eq_none (by rw [List.length_map];lia)]
  | some v=>
   obtain ⟨en,e1,rfl⟩:=hP j v e
   rw [entry_at o4 j] at e1
   cases e2:xs[j]? with
   | none=>rw [e2] at e1;cases e1
   | some x=>
    rw [e2] at e1
    cases e1
    rw [List.getElem?_map,e2]
    rfl
 have rv:Vals (xs.map fun q=>V.ref q.2.1) us:=by
  rw [hus]
  have:∀l:List (List Key×Addr×Value),Vals (l.map fun q=>V.ref q.2.1) (l.map fun q=>Value.ref q.2.1):=by
   intro l
   induction l with
   | nil=>exact .nil
   | cons a l ih=>exact .cons rfl ih
  exact this xs
 have hw:=ZfB rel hk
 have hD:s.heap.get? D=none:=by
  have nb:X.base.get? D=none:=(nw' (D,W.listOf us.toArray 0) List.mem_cons_self).2.2
  have nL:D≠X.env.locals:=(nw' (D,W.listOf us.toArray 0) List.mem_cons_self).2.1
  cases e:s.heap.get? D with
  | none=>rfl
  | some o=>exact absurd (lt' (D,o) (Gj nL nb e)) (Nat.lt_irrefl _)
 have fresh:H D=none:=by
  cases e:H D with
  | none=>rfl
  | some o=>
   obtain ⟨ob,e2⟩:=(I.hok D o e).there
   rw [hD] at e2
   cases e2
 have kp:∀b u,b≠X.env.locals->s.heap.get? b=some u->h'.get? b=some u:=fun b u hb e=>by
  cases q:X.base.get? b with
  | some v=>
   have e1:=fr'.keep b v q
   have e2:=fr.keep b v q
   rw [e] at e2
   cases e2
   exact e1
  | none=>exact (nw' (b,u) (List.mem_cons_of_mem _ (Gj hb q e))).1
 have kt:∀a ks,H a=some (.tup (ks.map V.int))->Uv h' a ks:=fun a ks e=>by
  have t:=Ziw I.hok e
  refine t.kept fun o eo=>kp a o (fun zz=>?_) eo
  rw [zz,I.free] at e
  cases e
 refine Zn9 (by show X.A.units+1+1<_;lia) fr' nw' lt' (fun v hv=>?_) (by lia) fun vs' c h'' fr'' nw'' pm rs=>?_
 ·obtain ⟨y,hy,ry⟩:=Paired.mem1 (Paired.flip rv) v hv
  obtain ⟨ks,_,a,e1,e2⟩:=Paired.mem1 hw y hy
  subst e1
  exact ⟨a,ks,ry,Zg e2 fresh,kt a ks e2⟩
 ·obtain ⟨ys,p1,r1⟩:=Paired.perm2 pm.symm rv
  obtain ⟨vss,p2,r2⟩:=Paired.perm2 p1 (Paired.flip hw)
  have x2:Words H ys vss:=Paired.flip r2
  have rise:Zgj vss:=by
   have key:∀{ys:List V}{out:List Value}{vs:List (List Int)},Vals ys out->Words H ys vs->out.map (Ze1 h')=vs:=by
    intro ys out vs a b
    induction a generalizing vs with
    | nil=>cases b;rfl
    | cons r _ ih=>
     cases b with
     | cons f t=>
      obtain ⟨q,e1,e2⟩:=f
      subst e1
      rw [List.map_cons,ih t,show _=Value.ref q from r,(kt _ _ e2).key]
   rw [<- key r1 x2]
   unfold Zgj
   rw [List.pairwise_map]
   exact rs
  have I2:=I.laidN (o:=.lst ys) (D:=D) (h':=h'') (t':=tk) fr fr'' (fun q hq=>nw'' q (List.mem_cons_of_mem _ hq)) hD fresh ⟨by
   rw [<- p1.length_eq,List.length_map]
   lia,vs',c,r1,(nw'' _ List.mem_cons_self).1⟩
  exact ⟨.ref D,_,I2,rfl,q D ys vss fresh p2.symm x2 rise⟩
def Zpp:R2:=fun x y H Q=>∃a b:List Int,Zaq H x a/\Zaq H y b/\a.length+b.length<=sizeLine /\
 (a = []->Q y H)/\(b = []->Q x H)/\(∀p,H p=none->Q (.ref p) (upd H p (.tup ((a++b).map V.int))))
theorem Zl0:OpR X (binaryOp .Add) Zpp:=by
 intro pins s σ H x y v u Q I rx ry h
 obtain ⟨a,b,⟨p,rfl,hp⟩,⟨r,rfl,hr⟩,hz,q1,q2,q3⟩:=h
 cases rx
 cases ry
 obtain ⟨_,its,r1,p1⟩:=(show Yy X.prog X.w H s.heap p (.tup (a.map V.int)) from I.hok p _ hp)
 obtain ⟨_,its2,r2,p2⟩:=(show Yy X.prog X.w H s.heap r (.tup (b.map V.int)) from I.hok r _ hr)
 have l1:a.length=its.length:=by simpa using r1.length
 have l2:b.length=its2.length:=by simpa using r2.length
 by_cases e:its = []
 ·obtain ⟨⟨cls,dd,data,sl⟩,ho,hc,n,hd⟩:=id p1
  obtain ⟨⟨cls2,dd2,data2,sl2⟩,ho2,hc2,n2,hd2⟩:=id p2
  simp only at hc hd hc2 hd2
  subst hc hd hc2 hd2
  have ea:a = []:=by rw [e] at l1;exact List.length_eq_zero_iff.mp l1
  exact concat_meets ⟨_,ho,rfl⟩ ⟨_,ho2,rfl⟩ noFill_tuple_add seq_tuple_add PySem.F.slot_tuple_add PySem.F.entry_tuple_add (PySem.F.args_tuple_add_2 _ _)
   (tuple_addW0 p r its.toArray its2.toArray n n2 dd dd2 sl sl2 (by simp [e])) ⟨ho,ho2,⟨.ref r,H,I,rfl,q1 ea⟩⟩
 ·refine HT.ZmK p1 p2 e (fun z=>⟨.ref p,H,I,rfl,q2 (by rw [z] at l2;exact List.length_eq_zero_iff.mp l2)⟩) (fun z=>?_) (by rw [<- l1,<- l2];exact hz)
  refine ⟨.ref s.heap.objs.size,_,I.laid (t':=s.toks) (o:=.tup ((a++b).map V.int)) (fun b ob q=>Heap.get?_push_of_some _ q) (Nat.le_refl _) ?_,rfl,q3 _ (I.hok.fresh (Nat.le_refl _))⟩
  exact ⟨by rw [List.length_map,List.length_append];exact hz,_,by rw [List.map_append];exact r1.append r2,IsTup.new _ _⟩
end
end L2
namespace L2
open PySem PySem.Spec PyProof.Rows PyProof.V
section
variable {X:Cx}
end
section
variable {g:TG}{tc:TT}{te:TE} {σ:St}{H:Hp}{Q:VK}{K:PySem.W.Frag}{a b:Addr}{xs ys:List V}
end
abbrev WS:=List (List Int)
theorem ZeJ:∀(a b:List Int),lexLt a b=false->lexLt b a=false->a=b
 | [],[],_,_=>rfl
 | [],_::_,h,_=>by simp [lexLt] at h
 | _::_,[],_,h=>by simp [lexLt] at h
 | x::a,y::b,h,h'=>by
  rw [lexLt] at h h'
  by_cases e:x=y
  ·subst e
   rw [if_pos rfl] at h h'
   rw [ZeJ a b h h']
  ·rw [if_neg e] at h
   rw [if_neg (Ne.symm e)] at h'
   have h1:=of_decide_eq_false h
   have h2:=of_decide_eq_false h'
   lia
def SR (r:WS):Prop:=r.Pairwise fun u v=>lexLt u v=true
theorem Zlh:∀(r r':WS),SR r->SR r'->(∀w,w∈r ↔ w∈r')->r=r'
 | [],[],_,_,_=>rfl
 | [],b::_,_,_,h=>by have:=(h b).mpr List.mem_cons_self;cases this
 | a::_,[],_,_,h=>by have:=(h a).mp List.mem_cons_self;cases this
 | a::r,b::r',h1,h2,h=>by
  obtain ⟨p1,q1⟩:=List.pairwise_cons.mp h1
  obtain ⟨p2,q2⟩:=List.pairwise_cons.mp h2
  have e:a=b:=by
   rcases List.mem_cons.mp ((h a).mp List.mem_cons_self) with e | e
   ·exact e
   ·rcases List.mem_cons.mp ((h b).mpr List.mem_cons_self) with e' | e'
    ·exact e'.symm
    ·have z1:=p2 a e
     have z2:=p1 b e'
     rw [UR _ _ z1] at z2
     cases z2
  subst e
  have no:∀{l:WS},(∀x∈l,lexLt a x=true)->a∉l:=fun {l} p m=>by
   have:=p a m
   rw [Zak] at this
   cases this
  rw [Zlh r r' q1 q2 fun w=>⟨fun m=>?_,fun m=>?_⟩]
  ·rcases List.mem_cons.mp ((h w).mp (List.mem_cons_of_mem _ m)) with e | e
   ·subst e;exact absurd m (no p1)
   ·exact e
  ·rcases List.mem_cons.mp ((h w).mpr (List.mem_cons_of_mem _ m)) with e | e
   ·subst e;exact absurd m (no p2)
   ·exact e
theorem SR.nodup {r:WS} (h:SR r):r.Nodup:=h.imp fun {u v} z e=>by subst e;rw [Zak] at z;cases z
theorem Zm5 {r:WS} (h:Zgj r) (n:r.Nodup):SR r:=(List.Pairwise.and h n).imp fun {u v} ⟨a,b⟩=>by
 cases e:lexLt u v with
 | true=>rfl
 | false=>exact absurd (ZeJ _ _ e a) b
structure Y2 (L r:WS):Prop where
 rise:SR r
 mem:∀w,w∈r ↔ L.count w % 2=1
theorem Y2.one {L r r':WS} (x:Y2 L r) (y:Y2 L r'):r=r':=Zlh r r' x.rise y.rise fun w=>(x.mem w).trans (y.mem w).symm
def Uu (L L':WS):Prop:=∀w,L.count w % 2=L'.count w % 2
theorem Uu.refl (L:WS):Uu L L:=fun _=>rfl
theorem Uu.symm {L M:WS} (a:Uu L M):Uu M L:=fun w=>(a w).symm
theorem Uu.trans {L M N:WS} (a:Uu L M) (b:Uu M N):Uu L N:=fun w=>(a w).trans (b w)
theorem Uu.app {A A' B B':WS} (a:Uu A A') (b:Uu B B'):Uu (A++B) (A'++B'):=fun w=>by
 have:=a w;have:=b w
 rw [List.count_append,List.count_append];lia
theorem Y2.par {L L' r:WS} (x:Y2 L r) (p:Uu L L'):Y2 L' r:=⟨x.rise,fun w=>by rw [x.mem w,p w]⟩
theorem Y2.self {L r:WS} (x:Y2 L r):Uu r L:=fun w=>by
 by_cases h:w∈r
 ·rw [List.Nodup.count x.rise.nodup,if_pos h,(x.mem w).mp h]
 ·rw [List.count_eq_zero.mpr h]
  have:=mt (x.mem w).mpr h
  lia
theorem Y2.sub {L r:WS} (x:Y2 L r) {w:List Int} (h:w∈r):w∈L:=by
 have:=(x.mem w).mp h
 exact List.count_pos_iff.mp (by lia)
theorem sub_len:∀{r L:WS},r.Nodup->(∀w∈r,w∈L)->r.length<=L.length
 | [],_,_,_=>Nat.zero_le _
 | a::r,L,n,h=>by
  obtain ⟨n1,n2⟩:=List.nodup_cons.mp n
  have ha:=h a List.mem_cons_self
  have:=sub_len (r:=r) (L:=L.erase a) n2 fun w hw=>(List.mem_erase_of_ne (fun (e:w=a)=>n1 (e ▸ hw))).mpr (h w (List.mem_cons_of_mem _ hw))
  rw [List.length_erase_of_mem ha] at this
  have:=List.length_pos_of_mem ha
  rw [List.length_cons];lia
theorem Y2.len {L r:WS} (x:Y2 L r):r.length<=L.length:=sub_len x.rise.nodup fun _ h=>x.sub h
theorem ZlO:Y2 [] []:=⟨.nil,fun w=>by simp⟩
structure Zci (L ks:WS):Prop where
 nd:ks.Nodup
 mem:∀w,w∈ks ↔ L.count w % 2=1
theorem Zf8:Zci [] []:=⟨.nil,fun w=>by simp⟩
theorem ZjW {L ks:WS}{w:List Int} (x:Zci L ks) (h:w∈ks):Zci (L ++ [w]) (ks.filter fun k=>decide (k≠w)):=by
 refine ⟨x.nd.filter _,fun y=>?_⟩
 have m:=x.mem y
 rw [List.mem_filter,List.count_append,List.count_singleton]
 by_cases e:w=y
 ·subst e
  have:=m.mp h
  simp
  lia
 ·have e':¬y=w:=fun z=>e z.symm
  simp [e,e',m]
theorem ZlP {L ks:WS}{w:List Int} (x:Zci L ks) (h:w∉ks):Zci (L ++ [w]) (ks ++ [w]):=by
 refine ⟨?_,fun y=>?_⟩
 ·rw [List.nodup_append]
  exact ⟨x.nd,by simp,fun a ha b hb e=>h (by rw [List.mem_singleton.mp hb] at e;exact e ▸ ha)⟩
 have m:=x.mem y
 rw [List.mem_append,List.mem_singleton,List.count_append,List.count_singleton]
 by_cases e:w=y
 ·subst e
  have:=mt m.mpr h
  simp
  lia
 ·have e':¬y=w:=fun z=>e z.symm
  simp [e,e',m]
theorem Zci.sub {L ks:WS} (x:Zci L ks) {w:List Int} (h:w∈ks):w∈L:=by
 have:=(x.mem w).mp h
 exact List.count_pos_iff.mp (by lia)
theorem Zci.len {L ks:WS} (x:Zci L ks):ks.length<=L.length:=sub_len x.nd fun _ h=>x.sub h
theorem Zci.odd {L ks r:WS} (x:Zci L ks) (p:r.Perm ks) (h:Zgj r):Y2 L r:=⟨Zm5 h (p.nodup_iff.mpr x.nd),fun w=>by rw [p.mem_iff,x.mem]⟩
def prd (A B:WS):WS:=A.flatMap fun u=>B.map fun v=>u++v
theorem J7 (u:List Int) (A B:WS):prd (u::A) B=B.map (fun v=>u++v)++prd A B:=by simp [prd]
theorem ZlX (A B C:WS):prd (A++B) C=prd A C++prd B C:=by simp [prd]
theorem Zfj {f:List Int->List Int} (hf:∀a b,f a=f b->a=b) (v:List Int):∀B:WS,(B.map f).count (f v)=B.count v
 | []=>rfl
 | b::B=>by
  rw [List.map_cons,List.count_cons,List.count_cons,Zfj hf v B]
  congr 1
  by_cases e:b=v
  ·subst e;simp
  ·have:¬f b=f v:=fun z=>e (hf _ _ z)
   simp [e,this]
theorem Ze0 {f:List Int->List Int} (hf:∀a b,f a=f b->a=b) {B B':WS} (h:Uu B B'):Uu (B.map f) (B'.map f):=fun w=>by
 by_cases e:∃v,f v=w
 ·obtain ⟨v,rfl⟩:=e
  rw [Zfj hf,Zfj hf,h v]
 ·have z:∀B:WS,(B.map f).count w=0:=fun B=>List.count_eq_zero.mpr fun m=>by
   obtain ⟨v,_,q⟩:=List.mem_map.mp m
   exact e ⟨v,q⟩
  rw [z,z]
theorem Zd3 {B B':WS} (h:Uu B B'):∀A:WS,Uu (prd A B) (prd A B')
 | []=>.refl _
 | u::A=>by
  rw [J7,J7]
  exact (Ze0 (fun a b z=>List.append_cancel_left z) h).app (Zd3 h A)
theorem ZcJ (w v:List Int) (B:WS):∀A:WS,(prd A (v::B)).count w=(A.map fun u=>u++v).count w+(prd A B).count w
 | []=>rfl
 | u::A=>by
  rw [J7,J7,List.count_append,List.count_append,ZcJ w v B A,List.map_cons,List.map_cons,List.count_cons,List.count_cons]
  lia
theorem ZcE:∀A:WS,prd A [] = []
 | []=>rfl
 | u::A=>by rw [J7,ZcE A];rfl
theorem Zgc {A A':WS} (h:Uu A A'):∀B:WS,Uu (prd A B) (prd A' B)
 | []=>by rw [ZcE,ZcE];exact .refl _
 | v::B=>fun w=>by
  have h1:=Ze0 (f:=fun u=>u++v) (fun a b z=>List.append_cancel_right z) h w
  have h2:=Zgc h B w
  rw [ZcJ,ZcJ]
  lia
def Gd (n m:Nat) (L:WS):Prop:=L.length<=n /\ ∀w∈L,w.length<=m /\ ∀k∈w,0<=k
theorem Y2.gd {L r:WS}{n m:Nat} (x:Y2 L r) (g:Gd n m L):Gd n m r:=⟨Nat.le_trans x.len g.1,fun w h=>g.2 w (x.sub h)⟩
theorem Gd.mono {n m n' m':Nat}{L:WS} (g:Gd n m L) (h1:n<=n') (h2:m<=m'):Gd n' m' L:=⟨Nat.le_trans g.1 h1,fun w h=>⟨Nat.le_trans (g.2 w h).1 h2,(g.2 w h).2⟩⟩
theorem Gd.app {n m n' m':Nat}{A B:WS} (a:Gd n m A) (b:Gd n' m' B):Gd (n+n') (max m m') (A++B):=by
 refine ⟨by rw [List.length_append];have:=a.1;have:=b.1;lia,fun w h=>?_⟩
 rcases List.mem_append.mp h with h | h
 ·exact ⟨Nat.le_trans (a.2 w h).1 (Nat.le_max_left _ _),(a.2 w h).2⟩
 ·exact ⟨Nat.le_trans (b.2 w h).1 (Nat.le_max_right _ _),(b.2 w h).2⟩
theorem Zcw (B:WS):∀A:WS,(prd A B).length=A.length*B.length
 | []=>by simp [prd]
 | u::A=>by rw [J7,List.length_append,List.length_map,Zcw B A,List.length_cons,Nat.succ_mul];lia
theorem Gd.prd {n m n' m':Nat}{A B:WS} (a:Gd n m A) (b:Gd n' m' B):Gd (n*n') (m+m') (L2.prd A B):=by
 refine ⟨by rw [Zcw];exact Nat.mul_le_mul a.1 b.1,fun w h=>?_⟩
 obtain ⟨u,hu,h⟩:=List.mem_flatMap.mp h
 obtain ⟨v,hv,rfl⟩:=List.mem_map.mp h
 refine ⟨by rw [List.length_append];have:=(a.2 u hu).1;have:=(b.2 v hv).1;lia,fun k hk=>?_⟩
 rcases List.mem_append.mp hk with hk | hk
 ·exact (a.2 u hu).2 k hk
 ·exact (b.2 v hv).2 k hk
theorem Zha {n m:Nat}:Gd n m []:=⟨Nat.zero_le _,fun _ h=>nomatch h⟩
def WL (H:Hp) (a:Addr) (L:WS):Prop:=∃xs,H a=some (.lst xs)/\Words H xs L
theorem Zaq.mono {H H':Hp}{v:V}{w:List Int} (k:∀t p,H t=some (.tup p)->H' t=some (.tup p)) (x:Zaq H v w):Zaq H' v w:=let ⟨a,e,q⟩:=x;⟨a,e,k _ _ q⟩
theorem Words.mono {H H':Hp}{xs:List V}{L:WS} (k:∀t p,H t=some (.tup p)->H' t=some (.tup p)) (x:Words H xs L):Words H' xs L:=Paired.mapP x fun _ _ q=>Zaq.mono k q
theorem Words.same {H H':Hp}{xs:List V}{L:WS} (s:Ze H H') (x:Words H xs L):Words H' xs L:=Words.mono (fun t p e=>s t _ e) x
theorem Zaq.same {H H':Hp}{v:V}{w:List Int} (s:Ze H H') (x:Zaq H v w):Zaq H' v w:=Zaq.mono (fun t p e=>s t _ e) x
theorem WL.same {H H':Hp}{a:Addr}{L:WS} (s:Ze H H') (x:WL H a L):WL H' a L:=let ⟨xs,e,q⟩:=x;⟨xs,s _ _ e,Words.same s q⟩
theorem Words.len {H:Hp}{xs:List V}{L:WS} (x:Words H xs L):xs.length=L.length:=Paired.length x
theorem Words.get {H:Hp}:∀{xs:List V}{L:WS}{i:Nat}{x:V},Words H xs L->xs[i]? = some x -> ∃w,L[i]? = some w/\Zaq H x w
 | _,_,_,_,.nil,e=>by simp at e
 | _,_,0,_,.cons r _,e=>by simp at e;subst e;exact ⟨_,rfl,r⟩
 | _,_,i+1,x,.cons _ t,e=>by
  obtain ⟨w,h1,h2⟩:=Words.get (i:=i) (x:=x) t (by simpa using e)
  exact ⟨w,by simpa using h1,h2⟩
theorem Words.snoc {H:Hp}{xs:List V}{L:WS}{x:V}{w:List Int} (h:Words H xs L) (e:Zaq H x w):Words H (xs ++ [x]) (L ++ [w]):=Paired.snoc h e
theorem Jh.tups {b:Addr}{H H':Hp} (f:Jh b H H') (hb:∀p,H b≠some (.tup p)):∀t p,H t=some (.tup p)->H' t=some (.tup p):=fun t p e=>f t _ e fun z=>hb p (z ▸ e)
theorem Zjb {K:PySem.W.Frag}{H:Hp}{xs ys:List V}{L:WS} (h1:Words H xs L) (h2:Words H ys L) {n:Nat} (hn:1<=n):∀(i:Nat) (x y:V),xs[i]? = some x->ys[i]? = some y->Eqv K H n x y:=fun i x y e1 e2=>by
 obtain ⟨w,q1,p,rfl,hp⟩:=Words.get h1 e1
 obtain ⟨w',q2,q,rfl,hq⟩:=Words.get h2 e2
 rw [q1] at q2
 cases q2
 obtain ⟨n',rfl⟩:∃n',n=n'+1:=⟨n-1,by lia⟩
 refine .tup (.inl (.inl hp)) (.inl (.inl hq)) rfl fun j u v e1 e2=>?_
 rw [e1] at e2
 cases e2
 obtain ⟨z,hz,rfl⟩:=YI e1
 exact .flat rfl
theorem ZkH {K:PySem.W.Frag}{H:Hp}{a b:Addr}{L:WS} (h1:WL H a L) (h2:WL H b L) {n:Nat} (hn:2<=n):Eqv K H n (.ref a) (.ref b):=by
 obtain ⟨xs,e1,w1⟩:=h1
 obtain ⟨ys,e2,w2⟩:=h2
 obtain ⟨n',rfl⟩:∃n',n=n'+1:=⟨n-1,by lia⟩
 exact .lst (Zo.of e1) (Zo.of e2) (by rw [Words.len w1,Words.len w2]) (Zjb w1 w2 (by lia))
section
variable {X:Cx}
theorem ZdN {K:PySem.W.Frag} (h:X.K=K) (hu:X.A.units+64<cLine):WV X (.builtin "sorted") (Zlf K):=h ▸ Ze7 hu
end
def DOd (H:Hp) (d:Addr) (L:WS):Prop:=∃(kvs:List (List Key×V)) (ks:WS),H d=some (.dT kvs)/\kvs.map (·.1)=ks.map kW/\Zci L ks
theorem Zfk:∀{kvs:List (List Key×V)}{ks:WS}{w:List Int},kvs.map (·.1)=ks.map kW->((GK kvs (kW w)).isSome=true ↔ w∈ks)
 | [],[],w,_=>by simp [GK]
 | [],_::_,_,e=>by simp at e
 | _::_,[],_,e=>by simp at e
 | p::kvs,k::ks,w,e=>by
  rw [List.map_cons,List.map_cons] at e
  injection e with e1 e2
  by_cases z:p.1=kW w
  ·rw [Zbq z]
   have:k=w:=ZjI (e1.symm.trans z)
   simp [this]
  ·rw [Zbu z,Zfk e2]
   have:¬w=k:=fun q=>z (by rw [e1,q])
   simp [this]
theorem Zeb:∀{kvs:List (List Key×V)}{ks:WS}{w:List Int},kvs.map (·.1)=ks.map kW->(Zc7 kvs (kW w)).map (·.1)=(ks.filter fun k=>decide (k≠w)).map kW
 | [],[],w,_=>rfl
 | [],_::_,_,e=>by simp at e
 | _::_,[],_,e=>by simp at e
 | p::kvs,k::ks,w,e=>by
  rw [List.map_cons,List.map_cons] at e
  injection e with e1 e2
  have ih:=Zeb (w:=w) e2
  unfold Zc7 at ih ⊢
  by_cases z:k=w
  ·rw [List.filter_cons_of_neg (by rw [e1,z];simp),List.filter_cons_of_neg (by rw [z];simp),ih]
  ·have:¬p.1=kW w:=fun q=>z (ZjI (e1.symm.trans q))
   rw [List.filter_cons_of_pos (by simp [this]),List.filter_cons_of_pos (by simp [z]),List.map_cons,List.map_cons,ih,e1]
theorem Zkn {kvs:List (List Key×V)}{ks:WS}{w:List Int}{v:V} (e:kvs.map (·.1)=ks.map kW) (h:w∉ks):(putK kvs (kW w) v).map (·.1)=(ks ++ [w]).map kW:=by
 have a:(kvs.any fun kv=>decide (kv.1=kW w))=false:=by
  rw [Zdq]
  cases q:(GK kvs (kW w)).isSome with
  | false=>rfl
  | true=>exact absurd ((Zfk e).mp q) h
 unfold putK
 rw [a]
 simp [e]
theorem DOd.tups {H H':Hp}{d:Addr}{L:WS} (x:DOd H d L) (f:Jh d H H'):∀t p,H t=some (.tup p)->H' t=some (.tup p):=f.tups fun p z=>by
 obtain ⟨_,_,e,_⟩:=x
 rw [e] at z;cases z
theorem DOd.wl {H H':Hp}{d a:Addr}{L M:WS} (x:DOd H d L) (f:Jh d H H') (y:WL H a M):WL H' a M:=by
 obtain ⟨xs,e,q⟩:=y
 refine ⟨xs,f a _ e fun z=>?_,Words.mono (x.tups f) q⟩
 obtain ⟨_,_,e',_⟩:=x
 rw [z,e'] at e;cases e
end L2
namespace L2
open PySem PySem.Spec PyProof.Rows PyProof.V
section
variable {X:Cx}{C:Addr}{x m:Str}{p pos apos:Pos}{e o:Expr}{es:List Expr}{ta:TE}{t:TA}
structure MkO (K:PySem.W.Frag) (C:Addr):Prop where
 makes:PySem.W.makesIn K C=true
 init:PySem.W.findIn K (.ref C) "__init__" = some (some (.builtin "object.__init__"))
 kp:PySem.W.keepIn K (.ref C)=true
def Znj (C:Addr):TE:=fun _ H Q=>∀x dx,H x=none->H dx=none->dx≠x->Q (.ref x) (upd (upd H dx (.own x)) x (.ins C dx []))
theorem ZjF (M:MkO X.K C) (hg:Gl X x) (hm:X.mg x=some (.ref C)) (hdb:(x==("__debug__" : Str))=false:=by decide):PE X (.Call (.Name x p) [] [] pos) (Znj C):=by
 intro pins s σ H Q I h
 refine wpAny_Call_Name_kw (Zam I hg hm ?_ hdb)
 refine PySem.W.callWith_K0 I.kIn M.kp (wpAny_call ?_)
 have Y:=PySem.W.makes_of (M:=model X.prog X.w) I.kIn M.makes
 have I2:=Inv.made (C:=C) I
 have hq:=h (s.heap.objs.size+1) s.heap.objs.size (I.hok.fresh (Nat.le_succ _)) (I.hok.fresh (Nat.le_refl _)) (Nat.ne_of_lt (Nat.lt_succ_self _))
 have hx:((s.heap.push PySem.W.emptyDict).push (PySem.W.instObj C s.heap.objs.size)).get? (s.heap.objs.size+1)=some (PySem.W.instObj C s.heap.objs.size):=by
  have:=Heap.get?_push_size (s.heap.push PySem.W.emptyDict) (o:=PySem.W.instObj C s.heap.objs.size) rfl
  rwa [Heap.size_push] at this
 refine Zi6 I.kIn M.makes M.init (fun self=>PySem.W.Looks.of_pure (PySem.W.oi_bind self)) ?_
 have t1:PySem.W.Looks (model X.prog X.w) ((s.heap.push PySem.W.emptyDict).push (PySem.W.instObj C s.heap.objs.size)) (typeOf (.ref (s.heap.objs.size+1))) (.ref C):=(PySem.W.Looks.ld hx).andThen .now
 have t2:PySem.W.Looks (model X.prog X.w) ((s.heap.push PySem.W.emptyDict).push (PySem.W.instObj C s.heap.objs.size)) (isInstance (.ref (s.heap.objs.size+1)) (.type "object")) true:=t1.andThen (Y.top.keeps fun b o e=>Heap.get?_push_of_some _ (Heap.get?_push_of_some _ e))
 refine codeAny_call_builtin PySem.W.oi_plain PySem.W.entry_oi (@PySem.W.check_slot (model X.prog X.w) _ _ _ "object.__init__" "object" "__init__" (.ref (s.heap.objs.size+1)) [] [] _ PySem.W.oi_kind PySem.W.oi_split t2 (PySem.W.oi_args (.ref (s.heap.objs.size+1))) ?_)
 rw [PySem.W.oi_run]
 exact wpAny_pure (And.intro rfl ⟨V.ref (s.heap.objs.size+1),_,I2,rfl,hq⟩)
def Zbv (P:Program) (w:World) (K:PySem.W.Frag) (mg:Str->Option Value) (base:Heap) (k:Nat) (C:Addr) (m:Str) (ps:List Str) (sp:Sp):Prop:=
 ∃(f:Addr) (fd:FuncData),ZX P w K mg base J2 k f fd ps sp/\Meth K C m f/\Binds K fd ps []
theorem JY {k:Nat}{ps:List Str}{sp:Sp}{pl:Sem Bool} (h:Zbv X.prog X.w X.K X.mg X.base k C m ps sp) (c:Cls X.K C) (hr:J6 k X.A) (he:PE X o ta) (ha:PA X (e::es) t)
  (hst:starEach (e::es) X.env=(false,eval e X.env)::starEach es X.env:=by rfl) (hpl:(backTo pos (starEach es X.env)).any (·.1)=false:=by rfl)
  (ht:eval (.Call (.Attribute o m apos) (e::es) [] pos) X.env=(do
   let ov <- eval o X.env
   standAt apos.atName
   let (f,first) <- holding [ov] (getMethod ov m pl)
   callWith pos f first (backTo pos (starEach (e::es) X.env)) (backToKw pos (keywordEach [] X.env))):=by rfl):
  PE X (.Call (.Attribute o m apos) (e::es) [] pos) (ZhW C m sp [] E0 ta t):=by
 obtain ⟨f,fd,G,hm,hb⟩:=h
 exact Zme he c hm G hr hb .nil ZkG ha hst hpl ht
theorem UJ {k:Nat}{ps:List Str}{sp:Sp}{pl:Sem Bool} (h:Zbv X.prog X.w X.K X.mg X.base k C m ps sp) (c:Cls X.K C) (hr:J6 k X.A) (he:PE X o ta)
  (ht:eval (.Call (.Attribute o m apos) [] [] pos) X.env=(do
   let ov <- eval o X.env
   standAt apos.atName
   let (f,first) <- holding [ov] (getMethod ov m pl)
   callWith pos f first (backTo pos (starEach [] X.env)) (backToKw pos (keywordEach [] X.env))):=by rfl):
  PE X (.Call (.Attribute o m apos) [] [] pos) (ZhW C m sp [] E0 ta ZnM):=by
 obtain ⟨f,fd,G,hm,hb⟩:=h
 exact Zkx he c hm G hr hb .nil ZkG ht
def tFs (tv:TE):TE:=fun σ H Q=>tv σ H fun v H1=>∃i:Int,v = .int i/\i.natAbs<10 ^ 12 /\ ∀z,Q (.str z) H1
theorem ZoJ {a b:Str}{v:Expr}{tv:TE}{j1 j2:Nat}{p1 p2 p3 pos:Pos} (hv:PE X v tv) (ha:a.length<=1000) (hb:b.length<=1000):
  PE X (.JoinedStr [.Constant (.str a) j1 p1,.FormattedValue v (-1) none p2,.Constant (.str b) j2 p3] pos) (tFs tv):=by
 intro pins s σ H Q I h
 refine wpAny_JoinedStr ?_
 have z1:(Str.empty++a).length<=sizeLine:=by rw [strLen_append,sizeLine_eq];show 0+_<=_;lia
 refine Calls.Constant_str ⟨a,_,rfl,z1,?_⟩
 refine wpAny_FormattedValue_plain (YG (hv pins _ σ H _ (I.tok _) h) fun u s1 ⟨x,H1,I1,rx,i,e,hi,q⟩=>?_)
 subst e
 obtain ⟨t,rfl⟩:=rx
 have li:=int_text_length_le10 (k:=12) (by decide) hi
 have lg:i.natAbs.log2<1920:=by
  by_cases h0:i.natAbs=0
  ·rw [h0];decide
  ·exact Nat.lt_of_lt_of_le ((Nat.log2_lt (k:=40) h0).mpr (Nat.lt_of_lt_of_le hi (by decide))) (by decide)
 have z2:(Str.empty++a++Str.ofString (toString i)).length<=sizeLine:=by rw [strLen_append,strLen_append,PySem.ofString_length,sizeLine_eq];show 0+_+_<=_;lia
 refine wpAny_formatField_int lg ⟨_,_,rfl,z2,?_⟩
 have z3:(Str.empty++a++Str.ofString (toString i)++b).length<=sizeLine:=by rw [strLen_append,strLen_append,strLen_append,PySem.ofString_length,sizeLine_eq];show 0+_+_+_<=_;lia
 exact Calls.Constant_str ⟨b,_,rfl,z3,z3,⟨.str _,H1,((I1.tok _).tok _).tok _,⟨_,rfl⟩,q _⟩⟩
end
theorem lex_trans {x y z:List Int} (h1:lexLt x y=true) (h2:lexLt y z=true):lexLt x z=true:=by
 rcases Zfr x z y h1 with h | h
 ·exact h
 ·rw [UR _ _ h2] at h;cases h
def tog (w:List Int):WS->WS
 | []=>[w]
 | x::r=>if w=x then r else if lexLt w x=true then w::x::r else x::tog w r
theorem Zj7 (w:List Int):∀{r:WS},SR r->SR (tog w r) /\ ∀y,y∈tog w r ↔ if y=w then w∉r else y∈r
 | [],_=>⟨List.pairwise_singleton _ _,fun y=>by by_cases e:y=w<;>simp [tog,e]⟩
 | x::r,h=>by
  obtain ⟨p,q⟩:=List.pairwise_cons.mp h
  have nx:x∉r:=fun m=>by have:=p x m;rw [Zak] at this;cases this
  unfold tog
  by_cases e:w=x
  ·subst e
   rw [if_pos rfl]
   refine ⟨q,fun y=>?_⟩
   by_cases e:y=w
   ·subst e;simp [nx]
   ·simp [e]
  ·rw [if_neg e]
   by_cases l:lexLt w x=true
   ·rw [if_pos l]
    have nw:w∉x::r:=fun m=>by
     rcases List.mem_cons.mp m with z | z
     ·exact e z
     ·rw [UR _ _ (p w z)] at l;cases l
    refine ⟨List.pairwise_cons.mpr ⟨fun y hy=>?_,h⟩,fun y=>?_⟩
    ·rcases List.mem_cons.mp hy with rfl | hy
     ·exact l
     ·exact lex_trans l (p y hy)
    ·by_cases e:y=w
     ·subst e;rw [if_pos rfl];exact ⟨fun _=>nw,fun _=>List.mem_cons_self⟩
     ·rw [if_neg e,List.mem_cons];simp [e]
   ·rw [if_neg l]
    have l':lexLt x w=true:=by
     cases q:lexLt x w with
     | true=>rfl
     | false=>exact absurd (ZeJ _ _ (by simpa using l) q) e
    obtain ⟨i1,i2⟩:=Zj7 w q
    refine ⟨List.pairwise_cons.mpr ⟨fun y hy=>?_,i1⟩,fun y=>?_⟩
    ·have:=(i2 y).mp hy
     by_cases z:y=w
     ·rw [z];exact l'
     ·rw [if_neg z] at this;exact p y this
    ·rw [List.mem_cons,i2 y]
     by_cases z:y=w
     ·subst z;simp [e]
     ·simp [z]
def canon:WS->WS
 | []=>[]
 | w::L=>tog w (canon L)
theorem Z5:∀L:WS,Y2 L (canon L)
 | []=>ZlO
 | w::L=>by
  have ih:=Z5 L
  obtain ⟨a,b⟩:=Zj7 w ih.rise
  refine ⟨a,fun y=>?_⟩
  show y∈tog w (canon L) ↔ _
  rw [b y,List.count_cons]
  have m:=ih.mem y
  by_cases e:y=w
  ·subst e
   rw [if_pos rfl]
   simp only [beq_self_eq_true,if_true]
   constructor
   ·intro h;have:=mt m.mpr h;lia
   ·intro h z;have:=m.mp z;lia
  ·have e':¬w=y:=fun z=>e z.symm
   rw [if_neg e,m]
   simp [e']
theorem Y2.canon {L r:WS} (x:Y2 L r):r=canon L:=x.one (Z5 L)
def Jf (A B:WS):WS:=canon (A++B)
def Ym (A B:WS):WS:=canon (prd A B)
def Wh (H:Hp) (r:Addr) (n:Nat) (f:Nat->WS):Prop:=∃xs,H r=some (.lst xs)/\xs.length=n /\ ∀(j:Nat) (x:V),xs[j]? = some x -> ∃e,x = .ref e/\WL H e (f j)
theorem Wh.same {H H':Hp}{r:Addr}{n:Nat}{f:Nat->WS} (s:Ze H H') (x:Wh H r n f):Wh H' r n f:=
 let ⟨xs,a,b,c⟩:=x;⟨xs,s _ _ a,b,fun j x h=>let ⟨e,p,q⟩:=c j x h;⟨e,p,q.same s⟩⟩
theorem Wh.congr {H:Hp}{r:Addr}{n:Nat}{f g:Nat->WS} (x:Wh H r n f) (h:∀j,j<n->f j=g j):Wh H r n g:=by
 obtain ⟨xs,a,b,c⟩:=x
 refine ⟨xs,a,b,fun j x hx=>?_⟩
 obtain ⟨e,p,q⟩:=c j x hx
 have:=(List.getElem?_eq_some_iff.mp hx).1
 exact ⟨e,p,by rw [<- h j (by lia)];exact q⟩
theorem Wh.at {H:Hp}{r:Addr}{n:Nat}{f:Nat->WS} (x:Wh H r n f) {j:Nat} (h:j<n):∃(xs:List V) (e:Addr),H r=some (.lst xs)/\xs.length=n/\xs[j]? = some (.ref e)/\WL H e (f j):=by
 obtain ⟨xs,a,b,c⟩:=x
 obtain ⟨e,p,q⟩:=c j (xs[j]'(by lia)) (by simp)
 exact ⟨xs,e,a,b,by rw [<- p];simp,q⟩
theorem Zhj {H:Hp}{r e:Addr}{n:Nat}{f:Nat->WS}{L:WS} (x:Wh H r n f) (hn:0<n) (y:WL H e L):e≠r:=fun z=>by
 obtain ⟨xs,e0,a,b,c,us,d,_⟩:=x.at hn
 subst z
 obtain ⟨ys,a',w⟩:=y
 rw [a] at a'
 have hxy:xs=ys:=by injection a' with a';injection a'
 subst hxy
 obtain ⟨_,_,t,ht,hh⟩:=Words.get w c
 cases ht
 rw [d] at hh
 cases hh
theorem WL.upd {H:Hp}{e r:Addr}{L:WS}{xs ys:List V} (hr:H r=some (.lst xs)) (n:e≠r) (y:WL H e L):WL (L2.upd H r (.lst ys)) e L:=by
 obtain ⟨us,a,w⟩:=y
 refine ⟨us,by rw [Zj n];exact a,Words.mono (fun t p q=>?_) w⟩
 rw [Zj (fun z=>by subst z;rw [hr] at q;cases q)];exact q
def Mat (H:Hp) (A:List Addr) (m n:Nat) (F:Nat->Nat->WS):Prop:=A.length=m/\A.Nodup /\ ∀(i:Nat) (r:Addr),A[i]? = some r->Wh H r n (F i)
theorem Mat.same {H H':Hp}{A:List Addr}{m n:Nat}{F:Nat->Nat->WS} (s:Ze H H') (x:Mat H A m n F):Mat H' A m n F:=⟨x.1,x.2.1,fun i r h=>(x.2.2 i r h).same s⟩
theorem Mat.congr {H:Hp}{A:List Addr}{m n:Nat}{F G:Nat->Nat->WS} (x:Mat H A m n F) (h:∀i j,i<m->j<n->F i j=G i j):Mat H A m n G:=
 ⟨x.1,x.2.1,fun i r e=>(x.2.2 i r e).congr fun j hj=>h i j (by have:=(List.getElem?_eq_some_iff.mp e).1;have:=x.1;lia) hj⟩
def ZaM (F:Nat->Nat->WS) (i j:Nat) (L:WS):Nat->Nat->WS:=fun a b=>if a=i/\b=j then L else F a b
theorem Mat.put {H:Hp}{A:List Addr}{m n i j:Nat}{F:Nat->Nat->WS}{r e:Addr}{xs:List V}{L:WS} (x:Mat H A m n F) (hi:A[i]? = some r) (hr:H r=some (.lst xs)) (hj:j<n) (we:WL H e L):
  Mat (upd H r (.lst (xs.set j (.ref e)))) A m n (ZaM F i j L):=by
 have R:=x.2.2 i r hi
 have hn:0<n:=by lia
 refine ⟨x.1,x.2.1,fun i' r' h'=>?_⟩
 by_cases z:r'=r
 ·subst z
  have e1:i'=i:=by
   obtain ⟨h1,e1⟩:=List.getElem?_eq_some_iff.mp h'
   obtain ⟨h2,e2⟩:=List.getElem?_eq_some_iff.mp hi
   exact (List.getElem_inj x.2.1).mp (e1.trans e2.symm)
  subst e1
  obtain ⟨us,a,b,c⟩:=R
  rw [hr] at a
  have hxy:xs=us:=by injection a with a;injection a
  subst hxy
  refine ⟨_,Zb,by rw [List.length_set];exact b,fun j' y hy=>?_⟩
  rw [List.getElem?_set] at hy
  by_cases q:j=j'
  ·subst q
   rw [if_pos rfl,if_pos (by lia)] at hy
   cases hy
   refine ⟨e,rfl,?_⟩
   unfold ZaM
   rw [if_pos ⟨rfl,rfl⟩]
   exact we.upd hr (Zhj (x.2.2 i' _ hi) hn we)
  ·rw [if_neg q] at hy
   obtain ⟨e',p',w'⟩:=c j' y hy
   refine ⟨e',p',?_⟩
   unfold ZaM
   rw [if_neg (fun z=>q z.2.symm)]
   exact w'.upd hr (Zhj (x.2.2 i' _ hi) hn w')
 ·obtain ⟨us,a,b,c⟩:=x.2.2 i' r' h'
  refine ⟨us,by rw [Zj z];exact a,b,fun j' y hy=>?_⟩
  obtain ⟨e',p',w'⟩:=c j' y hy
  refine ⟨e',p',?_⟩
  unfold ZaM
  rw [if_neg (fun q=>z (by
   have:=q.1
   subst this
   rw [h'] at hi
   exact Option.some.inj hi))]
  exact w'.upd hr (Zhj R hn w')
def Tab (H:Hp) (a:Addr) (n:Nat) (F:Nat->Nat->WS):Prop:=∃A,H a=some (.lst (A.map V.ref))/\Mat H A n n F
theorem Tab.same {H H':Hp}{a:Addr}{n:Nat}{F:Nat->Nat->WS} (s:Ze H H') (x:Tab H a n F):Tab H' a n F:=let ⟨A,e,q⟩:=x;⟨A,s _ _ e,q.same s⟩
theorem Tab.congr {H:Hp}{a:Addr}{n:Nat}{F G:Nat->Nat->WS} (x:Tab H a n F) (h:∀i j,i<n->j<n->F i j=G i j):Tab H a n G:=let ⟨A,e,q⟩:=x;⟨A,e,q.congr h⟩
theorem Tab.row {H:Hp}{a:Addr}{n:Nat}{F:Nat->Nat->WS} (x:Tab H a n F) {i:Nat} (h:i<n):∃(ys:List V) (r:Addr),H a=some (.lst ys)/\ys.length=n/\ys[i]? = some (.ref r)/\Wh H r n (F i):=by
 obtain ⟨A,e,q⟩:=x
 have hl:=q.1
 refine ⟨_,A[i]'(by lia),e,by rw [List.length_map];exact hl,by simp [show i<A.length by lia],q.2.2 i _ (by simp)⟩
theorem Mat.snoc {H:Hp}{A:List Addr}{m n:Nat}{F:Nat->Nat->WS}{r:Addr} (x:Mat H A m n F) (hn:r∉A) (hr:Wh H r n (F m)):Mat H (A ++ [r]) (m+1) n F:=by
 refine ⟨by rw [List.length_append,x.1];rfl,?_,fun i r' h=>?_⟩
 ·rw [List.nodup_append]
  exact ⟨x.2.1,by simp,fun a ha b hb e=>hn (by rw [List.mem_singleton.mp hb] at e;exact e ▸ ha)⟩
 ·by_cases hi:i<m
  ·rw [List.getElem?_append_left (by rw [x.1];exact hi)] at h
   exact x.2.2 i r' h
  ·rw [List.getElem?_append_right (by rw [x.1];lia)] at h
   have:i-A.length=0:=by
    have:=(List.getElem?_eq_some_iff.mp h).1
    simp at this;lia
   rw [this] at h
   cases h
   have:i=m:=by have:=x.1;lia
   subst this
   exact hr
theorem Zaj {H:Hp}{n:Nat}{F:Nat->Nat->WS}:Mat H [] 0 n F:=⟨rfl,.nil,fun i r h=>by simp at h⟩
theorem Mat.fresh {H:Hp}{A:List Addr}{m n:Nat}{F:Nat->Nat->WS} (x:Mat H A m n F) {p:Addr} (h:H p=none):p∉A:=fun z=>by
 obtain ⟨i,hi,e⟩:=List.getElem_of_mem z
 obtain ⟨us,a,_⟩:=x.2.2 i p (by rw [<- e];simp)
 rw [h] at a;cases a
def UT (k:Nat) (F:Nat->Nat->WS):Nat->Nat->WS:=fun i j=>
 if i=k/\j=k+1 then [[]] else if i=k∨i=k+1∨j=k∨j=k+1 then [] else F (if i<k then i else i-2) (if j<k then j else j-2)
def Wg (k:Nat) (t:Int) (F:Nat->Nat->WS):Nat->Nat->WS:=fun i j=>
 if i=k/\j=k+1 then [] else if i=k/\k+2<=j then F (k+1) j else if i=k+1/\k+2<=j then Jf (F k j) (Ym [[t]] (F (k+1) j))
 else if i<k/\j=k+1 then F i k else if i<k/\j=k then Jf (F i (k+1)) (Ym (F i k) [[t]]) else F i j
def U0 (k:Nat) (t:Int) (F:Nat->Nat->WS):Nat->WS:=fun i=>Jf (F i (k+1)) (Ym (F i k) [[t]])
def ZdI (k:Nat) (t:Int) (F:Nat->Nat->WS):Nat->WS:=fun j=>Jf (F k j) (Ym [[t]] (F (k+1) j))
def Zcl (k:Nat) (t:Int) (F:Nat->Nat->WS):Nat->Nat->WS:=fun i j=>
 if i<k/\k<=j then Jf (F i (j+2)) (Ym (U0 k t F i) (ZdI k t F (j+2))) else F (if i<k then i else i+2) (if j<k then j else j+2)
section
variable {X:Cx}
end
def xeS (X:Cx) (R:L2.St->Addr->Hp->Prop):Value->Shared->Prop:=fun e s'=>∃(a T C:Addr) (σ':L2.St) (H':Hp),e = .ref a/\Inv X [] σ' H' s'/\Exc s'.heap a T (.ref C)/\X.s₀.heap.get? a=none/\X.s₀.heap.get? T=none /\
 H' a=none/\H' T=none/\(∀p∈X.pn,p.1≠a/\p.1≠T)/\R σ' C H'
abbrev ES (R:L2.St->Addr->Hp->Prop) (σ:L2.St):XK:=fun c _ H'=>∃C,c = .ref C/\R σ C H'
def Znd (sp:Sp) (E:L2.St->XK) (t:TA):TE:=fun σ H Q=>t σ H fun vs H1=>sp vs H1 Q (E σ)
section
variable {X:Cx}{pins:List (Addr×Obj)} {σ:L2.St}{H:Hp}{s:Shared}{R:L2.St->Addr->Hp->Prop}
theorem Znb (hex:X.ex = []):∀(pins:List (Addr×Obj)) (σ:L2.St) (H:Hp) (s:Shared) (e:Value) (s':Shared),Inv (X.wish (xeS X R)) pins σ H s->CX1 X.prog X.w X.stack H s (ES R σ) e s'->xeS X R e s':=by
 intro pins σ H s e s' I c
 obtain ⟨a,T,C,H',rfl,os,bare,un,ok,ex,na,nT,ha,hT,C',hC,hR⟩:=c
 cases hC
 have I0:=I.unwish
 have I':Inv X pins σ H' s':=I0.call' os un ok bare (fun b z=>nomatch z)
 have old:∀b,s.heap.get? b=none->X.s₀.heap.get? b=none:=fun b e=>by
  cases q:X.s₀.heap.get? b with
  | none=>rfl
  | some o=>
   obtain ⟨o',z⟩:=I0.base.there b o q (by rw [hex];exact fun y=>nomatch y)
   rw [e] at z
   cases z
 have pin:∀b,s.heap.get? b=none -> ∀p∈X.pn,p.1≠b:=fun b e p hp z=>by
  have:=(I0.pin p (List.mem_append_left _ hp)).1
  rw [z,e] at this
  cases this
 exact ⟨a,T,C,σ,H',rfl,I'.pins_of (fun p hp=>nomatch hp),ex,old a na,old T nT,ha,hT,fun p hp=>⟨pin a na p hp,pin T nT p hp⟩,hR⟩
theorem ZgA {k:Nat}{x:Str}{ps:List Str}{sp:Sp}{p pos:Pos}{e:Expr}{es:List Expr}{t:TA}{E:L2.St->XK} (h:Zat X.prog X.w X.K X.mg X.base k x ps sp) (hr:J6 k X.A) (hx:∀(pins:List (Addr×Obj)) (σ:L2.St) (H:Hp) (s:Shared) (e:Value) (s':Shared),Inv X pins σ H s->CX1 X.prog X.w X.stack H s (E σ) e s'->X.xe e s') (ha:PA X (e::es) t) (hg:Gl X x:=by rfl) (hdb:(x==("__debug__" : Str))=false:=by decide)
  (he:starEach (e::es) X.env=(false,eval e X.env)::starEach es X.env:=by rfl) (hpl:(backTo pos (starEach es X.env)).any (·.1)=false:=by rfl):PE X (.Call (.Name x p) (e::es) [] pos) (Znd sp E t):=by
 obtain ⟨f,fd,F,hm,hk,hb⟩:=h
 intro pins s σ H Q I h
 refine wpAny_Call_Name_kw (Zam I hg hm ?_ hdb)
 refine PySem.W.callWith_K (h₀:=X.base) I.ok.mod.kin hk (YG (ha pos pins s σ H _ I h) fun us s1 ⟨vs,H1,I1,r,q⟩=>⟨I1.kIn,?_⟩) he hpl
 have hl:(us ++ []).length=ps.length:=by rw [List.append_nil,<- r.length];exact F.len _ _ _ _ q
 rw [<- List.append_nil vs] at q
 refine wpAny_call (codeAny_mono (F.run X.A X.stack s1 H1 ⟨us,[]⟩ (us ++ []) (vs ++ []) Q (E σ) hr I1.env0 (hb s1 us I1.kIn hl) (r.append .nil) q) fun r s' hq=>?_)
 cases r with
 | error e=>exact hx pins σ H1 s1 e s' I1 hq
 | ok fl=>
  cases fl with
  | ret u=>exact I1.after hq
  | next=>exact False.elim hq
  | brk=>exact False.elim hq
  | cont=>exact False.elim hq
def Zpu (R:L2.St->Addr->Hp->Prop) (tb th:TS):TS:=fun D σ H=>tb D σ H /\ ∀(C:Addr) (σ':L2.St) (H':Hp),R σ' C H'->th D σ' H'
theorem ZmC {body suite:List Stmt}{b₀:Stmt}{cx:Str}{Dc:Addr}{tb th:TS}{np hpos pos:Pos}{newId:String} (R:L2.St->Addr->Hp->Prop) (hb:∀pins,PSs ((X.nailed pins).wish (xeS (X.nailed pins) R)) body tb) (hs:∀pins a,PSs (X.suite pins a) (b₀::suite) th)
  (hg:Gl X cx) (hm:X.mg cx=some (.ref Dc)) (hcD:PySem.W.excIn X.K Dc bmV newId=true) (hR:∀ σ C H',R σ C H'->PySem.W.mroIn X.K C (.ref Dc)=some true)
  (hex:X.ex = []:=by rfl) (hst:X.stack=X.env::X.outer:=by rfl) (hfr:X.env.frame=some X.env.locals:=by rfl) (hd:(cx==("__debug__" : Str))=false:=by decide):
  PS X (.Try body [.ExceptHandler (some (.Name cx np)) none (b₀::suite) hpos] [] [] pos) (Zpu R tb th):=by
 intro pins s σ H D I hw
 obtain ⟨hw1,hw2⟩:=hw
 refine wpAny_Try_except ?_
 refine wpAny_mono (hb pins [] s σ H D (I.nail.wish _) hw1) (fun f s1 q=>?_) (fun e s1 xe=>?_)
 ·cases f with
  | next=>obtain ⟨σ',H',I',d⟩:=q;exact wpAny_execs_nil ⟨σ',H',I'.unwish.unnail,d⟩
  | brk=>obtain ⟨σ',H',I',d⟩:=q;exact ⟨σ',H',I'.unwish.unnail,d⟩
  | cont=>obtain ⟨σ',H',I',d⟩:=q;exact ⟨σ',H',I'.unwish.unnail,d⟩
  | ret u=>obtain ⟨v,σ',H',I',r,d⟩:=q;exact ⟨v,σ',H',I'.unwish.unnail,r,d⟩
 ·obtain ⟨a,T,C,σ',H',rfl,I',ex,a0,T0,ha,hT,np',hR'⟩:=xe
  have ok:X.Ok:=I.ok
  have np1:∀p∈(X.nailed pins).pn ++ [],p.1≠a/\p.1≠T:=fun p hp=>np' p (by simpa using hp)
  refine looked (L:=X.env.locals) (outer:=X.outer) (base:=X.base) (by rw [<- hst];exact ok.frames) hfr (by rw [<- hst];exact I'.stack) ex fun h2 T2 keep slot ex2 oT=>?_
  have I2:Inv (X.nailed pins) [] σ' H' { s1 with heap:=h2 }:=I'.left hex ⟨ha,a0⟩ ⟨hT,T0⟩ np1 ⟨_,ex⟩ (by show ∀b o,_->b∉We X.stack->_;rw [hst];exact keep) (by show ∀b o,_->b∈We X.stack->_;rw [hst];exact slot)
  have old:∀{h:Heap} {σ'':L2.St}{s2:Shared},Inv (X.nailed pins) [] σ'' H' s2 -> ∀b,s2.heap.get? b=none->H' b=none/\X.s₀.heap.get? b=none /\ ∀p∈(X.nailed pins).pn,p.1≠b:=fun J b e=>by
   refine ⟨Jc J.hok e,?_,fun p hp z=>?_⟩
   ·cases q:X.s₀.heap.get? b with
    | none=>rfl
    | some o=>
     obtain ⟨o',z⟩:=J.base.there b o q (by show b∉X.ex;rw [hex];exact fun y=>nomatch y)
     rw [e] at z
     cases z
   ·have:=(J.pin p (List.mem_append_left _ hp)).1
    rw [z,e] at this
    cases this
  have T2f:H' T2=none/\X.s₀.heap.get? T2=none /\ ∀p∈(X.nailed pins).pn,p.1≠T2:=by
   rcases oT with z | z
   ·rw [z];exact ⟨hT,T0,fun p hp=>(np' p hp).2⟩
   ·exact old (h:=s1.heap) I' T2 z
  obtain ⟨bmD,ND,nmD,qnD,bsD,hdD,snD,subD,abD,colD,ddD,j0,j1,j2,j3,j5,mD,hD,hND,hniD,TD⟩:=ZkM I2.kIn hcD
  have hbD:bmD.contains (.type "BaseException")=true:=TD.hasType PySem.F.excBase_ValueError.hasBase
  refine wpAny_handleBy_cons (codeAny_handlers_test ?_) (fun z=>nomatch z)
  refine Zam (X:=X.suite pins a) (I2.suite ok a) hg hm ?_ hd
  obtain ⟨oe,vs,oT',ts,x1,x2,x3⟩:=id ex2
  refine Zjy hD x1 x2 hbD (PySem.W.looks_mroIn I2.kIn (hR σ' C H' hR')) ?_
  refine codeAny_handlers_suite ?_
  refine landed (s:={ s1 with heap:=h2 }) ex2 fun h3 keep3 ⟨T3,ex3,oT3⟩=>?_
  have np2:∀p∈(X.nailed pins).pn ++ [],p.1≠a/\p.1≠T2:=fun p hp=>⟨(np1 p hp).1,T2f.2.2 p (by simpa using hp)⟩
  have I3:Inv (X.nailed pins) [] σ' H' { s1 with heap:=h3 }:=I2.left hex ⟨ha,a0⟩ ⟨T2f.1,T2f.2.1⟩ np2 ⟨_,ex2⟩ (fun b o e _ z1 z2=>keep3 b o e z1 z2) (fun b o e hb=>by
   obtain ⟨_,o',e',dd⟩:=I2.stack.mem hb
   rw [e] at e'
   cases e'
   have n:=ex2.ne_dict e dd
   exact ⟨o.slots,keep3 b o e n.1 n.2⟩)
  refine wpAny_mono (hs pins a [] _ _ _ _ (I3.suite ok a) (hw2 C σ' H' hR')) (fun f s7 q=>?_) (fun _ _ z=>z.elim)
  cases f with
  | next=>obtain ⟨σ7,H7,I7,dq⟩:=q;exact ⟨_,H7,I7.unsuite ok,dq⟩
  | brk=>obtain ⟨σ7,H7,I7,dq⟩:=q;exact ⟨_,H7,I7.unsuite ok,dq⟩
  | cont=>obtain ⟨σ7,H7,I7,dq⟩:=q;exact ⟨_,H7,I7.unsuite ok,dq⟩
  | ret u=>obtain ⟨v,σ7,H7,I7,r,dq⟩:=q;exact ⟨v,_,H7,I7.unsuite ok,r,dq⟩
end
section
variable {X:Cx}{tg:Expr}
end
section
variable {prog:Program}{w:World}{A:Around}{E:Value->Shared->Prop}{s:Shared}
abbrev Zop (h:Heap) (z TI TO T:Addr) (b:Bool):Prop:=
 h.get? z=some { cls:=.type "zip", dict:=none,data:=.fields #[rawInt T,.bool b,.bool false,.ref TI,.ref TO],slots:=#[] }
structure ZS (h:Heap) (z TI TO i1 i2 l1 l2:Addr) (k:Nat):Prop where
 zp:(IsZip h z TI TO .none /\ ∃a b,IsPair h TO a b) ∨ ∃T b o,Zop h z TI TO T b/\h.get? T=some o/\o.cls = .type "tuple" /\ T≠z/\T≠TO/\T≠i1/\T≠i2
 ti:IsPair h TI (.ref i1) (.ref i2)
 j1:h.IsListIter i1 l1 k
 j2:h.IsListIter i2 l2 k
end
section
variable {prog:Program}{w:World}{A:Around}{R:Result->Shared->Prop}
end
section
variable {X:Cx}
end
section
variable {prog:Program}{w:World}{A:Around}{E:Value->Shared->Prop}{s:Shared}
end
open AutoSeq1 (wpAny_loadPart') in
section
variable {prog:Program}{w:World}{A:Around}{E:Value->Shared->Prop}{s:Shared}
end
section
variable {X:Cx}
end
end L2
namespace L2
open PySem PySem.Spec PyProof.Rows HT
theorem ZhG (n:Nat):Builtin.Slice.slicePlaces ((n:Int)-1) (-1) (-1)=n:=by
 unfold Builtin.Slice.slicePlaces
 rw [if_neg (by decide)]
 split
 ·rw [show (- -1:Int)=1 from rfl,Int.ediv_one,show (n:Int)-1 - -1-1+1=(n:Int) by lia]
  exact Int.toNat_natCast n
 ·show (0:Int).toNat=n
  lia
theorem Zj3 (xs:Array Value):((List.range xs.size).filterMap fun (m:Nat)=>xs[(((xs.size:Int)-1)+(m:Int)*(-1)).toNat]?)=xs.toList.reverse:=by
 have key:∀k,k<=xs.size->((List.range k).filterMap fun (m:Nat)=>xs[(((xs.size:Int)-1)+(m:Int)*(-1)).toNat]?)=xs.toList.reverse.take k:=by
  intro k
  induction k with
  | zero=>intro _;rfl
  | succ k ih=>
   intro hk
   rw [List.range_succ,List.filterMap_append,ih (by lia),List.take_add_one]
   congr 1
   have e1:(((xs.size:Int)-1)+(k:Int)*(-1)).toNat=xs.size-1-k:=by lia
   have e2:xs.toList.reverse[k]? = xs.toList[xs.toList.length-1-k]?:=List.getElem?_reverse (by simp;lia)
   rw [e2,List.filterMap_cons,List.filterMap_nil,e1,Array.getElem?_toList,Array.length_toList]
   cases xs[xs.size-1-k]?<;>rfl
 have:=key xs.size (Nat.le_refl _)
 rw [this,List.take_of_length_le (by simp)]
section
variable {prog:Program}{w:World}{A:Around}{E:Value->Shared->Prop}{s:Shared}
theorem Zf1 {sl:Addr}{n:Nat}{tk:Tok}{Q:Int×Int×Nat->Shared->Prop} (hs:s.heap.IsSliceOf sl .none .none (.int (-1) tk)) (h:Q ((n:Int)-1,-1,n) s):wpAny (model prog w) A (Builtin.Slice.sliceApplied (.ref sl) (pure (n:Int))) Q E s:=by
 obtain ⟨os,hos,_,hds⟩:=id hs
 unfold Builtin.Slice.sliceApplied Builtin.Slice.sliceFields
 refine wpAny_bind (wpAny_bind ?_)
 refine wpAny_field hos hds (x:=.none) rfl (wpAny_bind ?_)
 refine wpAny_field hos hds (x:=.none) rfl (wpAny_bind ?_)
 refine wpAny_field hos hds (x:=.int (-1) tk) rfl (wpAny_pure ?_)
 refine wpAny_bind (slicePart_int ?_)
 show wpAny _ _ (if ((-1:Int)==0)=true then _ else _) _ _ s
 rw [if_neg (by decide)]
 refine wpAny_bind (slicePart_none (wpAny_bind (slicePart_none (wpAny_bind (wpAny_pure ?_)))))
 show wpAny _ _ (pure ((n:Int)-1,(-1:Int),Builtin.Slice.slicePlaces ((n:Int)-1) (-1) (-1))) _ _ s
 rw [ZhG]
 exact wpAny_pure h
theorem ZfN {t sl:Addr}{items:Array Value}{tk:Tok}{Q:Value->Shared->Prop} (ht:IsTup s.heap t items) (hs:s.heap.IsSliceOf sl .none .none (.int (-1) tk))
  (h:Q (.ref s.heap.objs.size) { s with heap:=s.heap.push { cls:=.type "tuple", data:=.seq items.toList.reverse.toArray } }) (hsz:items.size<=sizeLine):wpAny (model prog w) A (getItem (.ref t) (.ref sl)) Q E s:=by
 have ok:sizeOk (.seq items.toList.reverse.toArray):=by
  show items.toList.reverse.toArray.size<=sizeLine
  rw [List.size_toArray,List.length_reverse,Array.length_toList]
  exact hsz
 obtain ⟨os,hos,hcs,_⟩:=id hs
 have hT:s.TypeIs (.ref sl) "slice" := ⟨os,hos,hcs⟩
 unfold getItem
 try with_reducible refine wpAny_holding ?_
 first | refine wpAny_bind (wpAny_pure ?_) | skip
 refine wpAny_bind (wpAny_sequenceKey ht.typeIs (by decide) (wpAny_bind ?_))
 refine wpAny_callSpecial?_slot (name:=Str.ofString "__getitem__") ht.typeIs PyProof.Rows.slot_tuple_getitem ?_
 refine wpAny_call_entry PyProof.Rows.slot_tuple_getitem ht.typeIs entry_tuple_getitem ?_ (args_tuple_getitem _ _)
 show wpAny _ _ (Builtin.Tuple.tupleItemsOf (.ref t) >>= _) _ _ s
 refine wpAny_bind (tupleItemsOf_ ht (wpAny_bind (wpAny_typeOf hT ?_)))
 rw [if_pos (by decide)]
 refine wpAny_bind (Zf1 hs ?_)
 show wpAny _ _ (if (((items.size:Int)-1==0)&&((-1:Int)==1)&&(items.size==items.size))=true then _ else _) _ _ s
 rw [if_neg (by rw [show ((-1:Int)==1)=false from rfl];simp),Zj3]
 first
  | exact wpAny_bind (m:=Builtin.Tuple.tupleExact _) (wpAny_newObj_type (wpAny_pure ⟨_,rfl,wpAny_pure h⟩) ok)
  | exact wpAny_bind (m:=Builtin.Tuple.tupleExact _) (wpAny_newObj_type (wpAny_bind (wpAny_pure (wpAny_pure ⟨_,rfl,wpAny_pure h⟩))) ok)
  | exact wpAny_bind (wpAny_bind (m:=Builtin.Tuple.tupleExact _) (wpAny_newObj_type (wpAny_pure (wpAny_pure ⟨_,rfl,wpAny_pure h⟩)) ok))
  | exact wpAny_bind (wpAny_bind (m:=Builtin.Tuple.tupleExact _) (wpAny_newObj_type (wpAny_pure ⟨_,rfl,wpAny_pure h⟩) ok))
end
theorem Vals.rev {xs:List V}{us:List Value} (h:Vals xs us):Vals xs.reverse us.reverse:=by
 induction h with
 | nil=>exact .nil
 | cons r _ ih=>rw [List.reverse_cons,List.reverse_cons];exact Paired.snoc ih r
section
variable {X:Cx}
def Zqt (K:PySem.W.Frag) (te:TE):TE:=fun σ H Q=>te σ H fun x H1=>∃a xs,x = .ref a/\Uw K H1 a xs /\ ∀p,H1 p=none->Q (.ref p) (upd H1 p (.tup xs.reverse))
theorem Zn5 {K:PySem.W.Frag}{e:Expr}{te:TE}{p2 p3 p4 pos:Pos}{j:Nat} (hk:X.K=K) (he:PE X e te):PE X (.Subscript e (.Slice none none (some (.UnaryOp .USub (.Constant (.int 1) j p3) p4)) p2) pos) (Zqt K te):=by
 subst hk
 intro pins s σ H Q I h
 refine Subscript_ (YG (he pins s σ H _ I h) fun v s1 ⟨x,H1,I1,r1,q1⟩=>wpAny_Slice ?_)
 rw [evalPart_none]
 refine wpAny_pure (wpAny_pure ?_)
 rw [evalPart_some]
 refine YG ((ZaC (X:=X) Gp Zf) pins s1 σ H1 (fun v H2=>v = .int (-1)/\H2=H1) I1 ⟨1,rfl,rfl,rfl⟩) fun u s2 ⟨y,H2,I2,r2,ey,eH⟩=>?_
 subst ey eH
 obtain ⟨tk,rfl⟩:=r2
 obtain ⟨a,xs,rfl,hx,q⟩:=q1
 cases r1
 have I3:Inv X pins σ H2 { s2 with heap:=s2.heap.push { cls:=.type "slice", data:=.fields #[.none,.none,.int (-1) tk] } }:=I2.kept (t':=s2.toks) fun b ob q=>Heap.get?_push_of_some _ q
 obtain ⟨its,r,ht,hz⟩:=I3.tuple hx
 refine tail_any (ops:=[.ref a,.ref s2.heap.objs.size]) ht.typeIs PyProof.Rows.slot_tuple_getitem.lookup (Q:=EP X pins σ Q) ?_ (by with_unfolding_all rfl)
 refine ZfN ht (Heap.IsSliceOf.new ..) ?_ (by rw [List.size_toArray,<- r.length];exact hz)
 refine ⟨.ref _,_,I3.laid (t':=s2.toks) (o:=.tup xs.reverse) (fun b ob q=>Heap.get?_push_of_some _ q) (Nat.le_refl _) ?_,rfl,q _ (I3.hok.fresh (Nat.le_refl _))⟩
 exact ⟨by rw [List.length_reverse];exact hz,_,r.rev,IsTup.new _ _⟩
end
section
variable {X:Cx}
def Zo9 (K:PySem.W.Frag) (Dc:Addr) (tb:(L2.St->Addr->Hp->Prop)->TS) (th:TS):TS:=fun D σ H=>∃R:L2.St->Addr->Hp->Prop,tb R D σ H /\ ∀(C:Addr) (σ':L2.St) (H':Hp),R σ' C H'->PySem.W.mroIn K C (.ref Dc)=some true/\th D σ' H'
theorem ZiN {K:PySem.W.Frag}{body suite:List Stmt}{b₀:Stmt}{cx:Str}{Dc:Addr}{tb:(L2.St->Addr->Hp->Prop)->TS}{th:TS}{np hpos pos:Pos}{newId:String} (hk:X.K=K) (hb:∀pins R,PSs ((X.nailed pins).wish (xeS (X.nailed pins) R)) body (tb R)) (hs:∀pins a,PSs (X.suite pins a) (b₀::suite) th)
  (hg:Gl X cx) (hm:X.mg cx=some (.ref Dc)) (hcD:PySem.W.excIn X.K Dc bmV newId=true) (hex:X.ex = []:=by rfl) (hst:X.stack=X.env::X.outer:=by rfl) (hfr:X.env.frame=some X.env.locals:=by rfl) (hd:(cx==("__debug__" : Str))=false:=by decide):
  PS X (.Try body [.ExceptHandler (some (.Name cx np)) none (b₀::suite) hpos] [] [] pos) (Zo9 K Dc tb th):=by
 subst hk
 intro pins s σ H D I hw
 obtain ⟨R,hw1,hw2⟩:=hw
 exact ZmC R (fun pins=>hb pins R) hs hg hm hcD (fun σ C H' h=>(hw2 C σ H' h).1) hex hst hfr hd pins s σ H D I ⟨hw1,fun C σ' H' h=>(hw2 C σ' H' h).2⟩
theorem ZnH {K:PySem.W.Frag} (h:X.K=K) (hu:X.A.units+64<cLine):OpR X (compareOp .Eq) (fun x y H Q=>rEq x y H Q∨Zlo K true x y H Q):=by
 intro pins s σ H x y v u Q I rx ry hq
 rcases hq with z | z
 ·exact J1 pins s σ H x y v u Q I rx ry z
 ·exact ZlV h hu pins s σ H x y v u Q I rx ry z
end
end L2
namespace Qk18
open PySem L2 PyProof.Rows
def top (i:Nat):Stmt:=PySem.Challenge.pw_bendfronts_k18_upside_down.main.body.getD i (.Pass ⟨0,0,0,0⟩)
section
variable {P:Program}{w:World}{K:PySem.W.Frag}{mg:Str->Option Value}{base:Heap}
def ZaO:Sp:=fun vs H Q _=>∃(b:Addr) (m:Int),vs = [.ref b,.int m]/\Bag H b/\1<=m/\m<1073741824 /\ ∀(d:Int) (H':Hp),0<=d->d<m->Bag H' b->Jh b H H'->Q (.int d) H'
abbrev U7:Stmt:=top 46
theorem Zbo:Zp ["_law_bag_here", "_law_many", "_law_digit"] ["_law_bag_here", "_law_many"] (Zi U7):={}
theorem Zmu {f:Addr}{fd:FuncData} (F:Yd K "_law_take" "_law_take" U7 f fd):ZX P w K mg base J2 1 f fd ["_law_bag_here", "_law_many"] ZaO:=by
 refine F.ok Zbo (fun vs H Q E h=>?_) (fun cdv A outer s H vs Q E hr h=>?_)
 ·obtain ⟨b,m,rfl,_⟩:=h
  rfl
 ·obtain ⟨b,m,rfl,⟨g,r,hg,hb⟩,h1,h2,k⟩:=h
  refine ⟨_,(Zd (YO (ZD ZbY (Zv (Zk (K:=K) rfl) (pv 0) Zf (fun _ _=>rfl)) Zf (ZI _)) (Zd (Zq (i:=2) Zbo.nd rfl (Or.inl rfl) (Zn UY (Zv (Zk (K:=K) rfl) (pv 0) Zf (fun _ _=>rfl)) (pv 1)))
   (Zd (Yl (Zn ZcH (Zv (Zk (K:=K) rfl) (pv 0) Zf (fun _ _=>rfl)) (pv 1)) (YJ (pv 0) Zf set_list))
   (Zh (Zs (pv 2))))) Yc)
   (Zd (Yl (Zn UY (Zn ZN (Zn Wd (Zv (Zk (K:=K) rfl) (pv 0) Zf (fun _ _=>rfl)) Zf) Zf) Zf) (YJ (pv 0) Zf set_list))
   (Zh (Zs (Zn UY (Zn UY (Zn ZgY (Zn ZcH (Zv (Zk (K:=K) rfl) (pv 0) Zf (fun _ _=>rfl)) Zf) Zf) Zf) (pv 1)))))),?_⟩
  refine ⟨_,rfl,b,_,_,_,rfl,rfl,Zo.of hb,Zt (j:=0) rfl,_,_,rfl,rfl,_,rfl,?_⟩
  refine Jy (fun hp=>?_) (fun hp=>?_)
  ·have hp':0<g:=of_decide_eq_true hp
   refine ⟨_,rfl,b,_,_,_,rfl,rfl,Zo.of hb,Zt (j:=0) rfl,_,rfl,_,_,rfl,rfl,(by lia:0<m),?_⟩
   refine ⟨_,rfl,b,_,_,_,rfl,rfl,Zo.of hb,Zt (j:=0) rfl,_,rfl,_,_,rfl,rfl,⟨by lia,by lia⟩,_,rfl,b,_,_,0,rfl,rfl,hb,rfl,?_⟩
   refine ⟨_,rfl,k _ _ (Int.emod_nonneg _ (by lia)) (Int.emod_lt_of_pos _ (by lia)) ⟨g / m,r,Int.ediv_nonneg (by lia) (by lia),Zb⟩ Jh.upd⟩
  ·refine ⟨_,rfl,b,_,_,_,rfl,rfl,Zo.of hb,Zt (j:=1) rfl,_,_,rfl,rfl,.inr ⟨by decide,by decide⟩,_,_,rfl,rfl,_,_,rfl,rfl,(show (0:Int)<2147483647 by decide),_,rfl,b,_,_,1,rfl,rfl,hb,rfl,?_⟩
   have e1:0<=(r*48271+11) % 2147483647:=Int.emod_nonneg _ (by decide)
   have e2:(r*48271+11) % 2147483647<2147483647:=Int.emod_lt_of_pos _ (by decide)
   refine ⟨_,rfl,b,_,_,_,rfl,rfl,Zo.of Zb,Zt (j:=1) rfl,_,_,rfl,rfl,⟨by decide,by decide⟩,_,_,rfl,rfl,⟨by decide,by decide,by lia⟩,_,_,rfl,rfl,(show (0:Int)<2147483629 by decide),_,rfl,_,_,rfl,rfl,(by lia:0<m),?_⟩
   exact k _ _ (Int.emod_nonneg _ (by lia)) (Int.emod_lt_of_pos _ (by lia)) ⟨g,_,hg,Zb⟩ Jh.upd
def Zk8 (K:PySem.W.Frag):Sp:=fun vs H Q _=>∃(a:Addr) (i:Int) (ns:List Int),vs = [.ref a,.int i]/\Zo K H a (ns.map V.int)/\0<=i/\i<1000 /\ ∀(l:Addr) (H':Hp),H l=none->Ze H H'->Bag H' l->Q (.ref l) H'
abbrev ZaU:Stmt:=top 45
theorem Js:Zp ["_law_script", "_law_at", "_law_cell", "_law_great", "_law_primes"] ["_law_script", "_law_at"] (Zi ZaU):={}
theorem Zof {f:Addr}{fd:FuncData} (F:Yd K "_law_bag" "_law_bag" ZaU f fd) (ZJ:mg "len" = none) (ZcZ:mg "abs" = none):ZX P w K mg base J2 1 f fd ["_law_script", "_law_at"] (Zk8 K):=by
 refine F.ok Js (fun vs H Q E h=>?_) (fun cdv A outer s H vs Q E hr h=>?_)
 ·obtain ⟨a,i,ns,rfl,_⟩:=h
  rfl
 ·obtain ⟨a,i,ns,rfl,hS,h0,h1,k⟩:=h
  refine ⟨_,(Zd (Zq (i:=2) Js.nd rfl (Or.inl rfl) Zf)
   (Zd (YO (ZD ZiC (pv 1) (ZE (ZW (K:=K) rfl) (by rfl) ZJ PySem.boot_len (Za (pv 0) Zc)) (ZI _)) (Zh (Zq (i:=2) Js.nd rfl (Or.inl rfl) (Zv (Zk (K:=K) rfl) (pv 0) (pv 1) (fun _ _=>rfl)))) Yc)
   (Zd (Zq (i:=3) Js.nd rfl (Or.inl rfl) Zf)
   (Zd (YO (ZD Zo3 (ZE ZcQ (by rfl) ZcZ boot_abs (Za (pv 2) Zc)) (Zn ZgY Zf Zf) (ZI _)) (Zh (Zq (i:=3) Js.nd rfl (Or.inl rfl) (ZE ZcQ (by rfl) ZcZ boot_abs (Za (pv 2) Zc)))) Yc)
   (Zd (Zq (i:=4) Js.nd rfl (Or.inl rfl) (ZT (Za Zf (Za Zf (Za Zf (Za Zf (Za Zf (Za Zf (Za Zf (Za Zf Zc))))))))))
   (Zh (Zs (ZT (Za (pv 3) (Za (Zn UY (Zn ZgY (Zn ZN (Zn ZN (Zn UY (pv 2) Zf) (Zn Wd Zf (pv 1))) Zf) Zf) (Zv (Zk (K:=K) rfl) (pv 4) (Zn UY (pv 1) Zf) (fun _ _=>rfl))) Zc)))))))))),?_⟩
  refine ⟨_,rfl,_,rfl,a,_,rfl,.inl hS,_,_,rfl,rfl,_,rfl,?_⟩
  have last:∀(c:Int),0<=c % 2147483647/\c % 2147483647<2147483647:=fun c=>⟨Int.emod_nonneg _ (by decide),Int.emod_lt_of_pos _ (by decide)⟩
  have e3:0<=i % 8:=Int.emod_nonneg _ (by decide)
  have e4:i % 8<8:=Int.emod_lt_of_pos _ (by decide)
  obtain ⟨j,hj⟩:∃j:Nat,i % 8=(j:Int):=⟨(i % 8).toNat,by lia⟩
  have hj8:j<8:=by lia
  obtain ⟨q,hq,hq0⟩:∃q:Int,([V.int 2147483629,.int 2147483587,.int 2147483579,.int 2147483563,.int 2147483549,.int 2147483543,.int 2147483497,.int 2147483489]:List V)[j]? = some (.int q)/\0<q:=by
   match j,hj8 with
   | 0,_=>exact ⟨_,rfl,by decide⟩
   | 1,_=>exact ⟨_,rfl,by decide⟩
   | 2,_=>exact ⟨_,rfl,by decide⟩
   | 3,_=>exact ⟨_,rfl,by decide⟩
   | 4,_=>exact ⟨_,rfl,by decide⟩
   | 5,_=>exact ⟨_,rfl,by decide⟩
   | 6,_=>exact ⟨_,rfl,by decide⟩
   | 7,_=>exact ⟨_,rfl,by decide⟩
  have two:∀(c:Int) (B:Prop),B->(c=0 ∨ ∃j:Nat,i=(j:Int)/\ns[j]? = some c)->B:=fun _ _ b _=>b
  refine Jy (fun hp=>?_) (fun hp=>?_)
  ·have hp':i<((ns.map V.int).length:Int):=of_decide_eq_true hp
   rw [List.length_map] at hp'
   obtain ⟨n,hn⟩:∃n:Nat,i=(n:Int):=⟨i.toNat,by lia⟩
   have hnl:n<ns.length:=by lia
   refine ⟨_,rfl,_,rfl,a,_,_,_,rfl,rfl,hS,(by rw [hn];exact Zt (v:=V.int ns[n]) (by simp [hnl])),?_⟩
   refine ⟨_,rfl,_,rfl,_,_,rfl,rfl,⟨by decide,by decide,by decide⟩,_,_,rfl,rfl,_,rfl,?_⟩
   refine Jy (fun hp=>?_) (fun hp=>?_)
   ·refine ⟨_,rfl,_,rfl,?_⟩
    have l0:=last ns[n]
    refine ⟨(by show 8<=sizeLine;decide),fun pl hpl=>?_⟩
    refine ⟨_,rfl,_,rfl,_,_,rfl,rfl,(show (0:Int)<2147483647 by decide),_,rfl,_,_,rfl,rfl,.inl ⟨by decide,by decide⟩,_,_,rfl,rfl,_,_,rfl,rfl,_,_,rfl,rfl,⟨by decide,by decide,by lia⟩,_,rfl,_,rfl,_,_,rfl,rfl,(show (0:Int)<8 by decide),pl,_,_,_,rfl,rfl,Zo.of Zb,(by rw [hj];exact Zt hq),_,_,rfl,rfl,hq0,(by show 2<=sizeLine;decide),fun l hl=>?_⟩
    have hl0:H l=none:=(Ze.laid hpl).free hl
    exact k l _ hl0 ((Ze.laid hpl).step hl) ⟨_,_,(by split<;>lia),Zb⟩
   ·have l0:=last ns[n]
    refine ⟨(by show 8<=sizeLine;decide),fun pl hpl=>?_⟩
    refine ⟨_,rfl,_,rfl,_,_,rfl,rfl,(show (0:Int)<2147483647 by decide),_,rfl,_,_,rfl,rfl,.inl ⟨by decide,by decide⟩,_,_,rfl,rfl,_,_,rfl,rfl,_,_,rfl,rfl,⟨by decide,by decide,by lia⟩,_,rfl,_,rfl,_,_,rfl,rfl,(show (0:Int)<8 by decide),pl,_,_,_,rfl,rfl,Zo.of Zb,(by rw [hj];exact Zt hq),_,_,rfl,rfl,hq0,(by show 2<=sizeLine;decide),fun l hl=>?_⟩
    have hl0:H l=none:=(Ze.laid hpl).free hl
    exact k l _ hl0 ((Ze.laid hpl).step hl) ⟨0,_,Int.le_refl _,Zb⟩
  ·refine ⟨_,rfl,_,rfl,_,_,rfl,rfl,⟨by decide,by decide,by decide⟩,_,_,rfl,rfl,_,rfl,?_⟩
   refine Jy (fun hp=>?_) (fun hp=>?_)
   ·exact absurd hp (by decide)
   ·have l0:=last 0
    refine ⟨(by show 8<=sizeLine;decide),fun pl hpl=>?_⟩
    refine ⟨_,rfl,_,rfl,_,_,rfl,rfl,(show (0:Int)<2147483647 by decide),_,rfl,_,_,rfl,rfl,.inl ⟨by decide,by decide⟩,_,_,rfl,rfl,_,_,rfl,rfl,_,_,rfl,rfl,⟨by decide,by decide,by lia⟩,_,rfl,_,rfl,_,_,rfl,rfl,(show (0:Int)<8 by decide),pl,_,_,_,rfl,rfl,Zo.of Zb,(by rw [hj];exact Zt hq),_,_,rfl,rfl,hq0,(by show 2<=sizeLine;decide),fun l hl=>?_⟩
    have hl0:H l=none:=(Ze.laid hpl).free hl
    exact k l _ hl0 ((Ze.laid hpl).step hl) ⟨0,_,Int.le_refl _,Zb⟩
theorem Znp {ls:List (Str×Int)}{i:Nat}{q:Str×Int} (hq:ls[i]? = some q) (pr:Str->Bool):isK ls pr i=pr q.1:=by
 unfold isK
 rw [hq]
 cases h:pr q.1<;>simp [h]
theorem ZbH {ls:List (Str×Int)}{n:Int} (h:Wk ls n):Yt ls=n:=by
 have g1:ZaE "born" = 2:=by decide +kernel
 have g2:ZaE "cross" = 0:=by decide +kernel
 have g3:ZaE "end" = -2:=by decide +kernel
 induction h with
 | nil=>rfl
 | born _ _ _ ih=>rw [JM,ih,g1]
 | cross _ _ _ ih=>rw [JM,ih,g2];lia
 | fin _ _ _ ih=>rw [JM,ih,g3];lia
def InB (ls:List (Str×Int)):Prop:=(∀i,Yt (ls.take i)<=8)/\(Z0 ls (fun x=>decide (x = "born")) ls.length).length<=4/\(Z0 ls (fun x=>decide (x = "cross")) ls.length).length<=12
def cnt (x:Str) (ls:List (Str×Int)):Nat:=(ls.filter fun p=>decide (p.1=x)).length
theorem Yn (x:Str) (ls:List (Str×Int)) (p:Str×Int):cnt x (ls ++ [p])=cnt x ls+if p.1=x then 1 else 0:=by
 unfold cnt
 rw [List.filter_append,List.length_append]
 by_cases e:p.1=x<;>simp [e]
theorem Zbp (x:Str) (ls:List (Str×Int)):(Z0 ls (fun y=>decide (y=x)) ls.length).length=cnt x ls:=by
 have key:∀n,n<=ls.length->(Z0 ls (fun y=>decide (y=x)) n).length=cnt x (ls.take n):=by
  intro n
  induction n with
  | zero=>intro _;rfl
  | succ n ih=>
   intro hn
   have hq:ls[n]? = some ls[n]:=by simp [show n<ls.length by lia]
   rw [Wy,List.length_append,ih (by lia),List.take_add_one,hq]
   show _=cnt x (ls.take n ++ [ls[n]])
   rw [Yn,Znp hq]
   by_cases e:ls[n].1=x<;>simp [e]
 have:=key ls.length (Nat.le_refl _)
 rwa [List.take_of_length_le (Nat.le_refl _)] at this
structure Gd (ls:List (Str×Int)) (n:Int) (b c:Nat):Prop where
 wk:Wk ls n
 mx:∀i,Yt (ls.take i)<=8
 bo:cnt "born" ls=b
 cr:cnt "cross" ls=c
theorem ZeS {ls:List (Str×Int)}{p:Str×Int} (h:∀i,Yt (ls.take i)<=8) (h2:Yt (ls ++ [p])<=8):∀i,Yt ((ls ++ [p]).take i)<=8:=fun i=>by
 by_cases hi:i<=ls.length
 ·rw [List.take_append_of_le_length hi];exact h i
 ·rw [List.take_of_length_le (by rw [List.length_append,List.length_singleton];lia)];exact h2
theorem Zha:Gd [] 0 0 0:=⟨.nil,fun i=>by simp [Yt],rfl,rfl⟩
theorem ZiD {ls:List (Str×Int)}{n k:Int}{b c:Nat} (h:Gd ls n b c) (h0:0<=k) (h1:k<=n) (h2:n+2<=8):Gd (ls ++ [(("born" : Str),k)]) (n+2) (b+1) c:=by
 have wk:=Wk.born (k:=k) h.wk h0 h1
 refine ⟨wk,ZeS h.mx (by rw [ZbH wk];exact h2),?_,?_⟩
 ·rw [Yn,h.bo];simp
 ·rw [Yn,h.cr,if_neg (fun z=>nb1 z.symm)];rfl
theorem Zbh {ls:List (Str×Int)}{n k:Int}{b c:Nat} (h:Gd ls n b c) (h0:0<=k) (h1:k+1<n) (h2:n<=8):Gd (ls ++ [(("cross" : Str),k)]) n b (c+1):=by
 have wk:=Wk.cross (k:=k) h.wk h0 h1
 refine ⟨wk,ZeS h.mx (by rw [ZbH wk];exact h2),?_,?_⟩
 ·rw [Yn,h.bo,if_neg (fun z=>nb1 z)];rfl
 ·rw [Yn,h.cr];simp
theorem ZhF {ls:List (Str×Int)}{n k:Int}{b c:Nat} (h:Gd ls n b c) (h0:0<=k) (h1:k+1<n) (h2:n<=10):Gd (ls ++ [(("end" : Str),k)]) (n-2) b c:=by
 have wk:=Wk.fin (k:=k) h.wk h0 h1
 refine ⟨wk,ZeS h.mx (by rw [ZbH wk];lia),?_,?_⟩
 ·rw [Yn,h.bo,if_neg (fun z=>nb2 z)];rfl
 ·rw [Yn,h.cr,if_neg (fun z=>nb3 z)];rfl
theorem ZmS {ls:List (Str×Int)}{n:Int}{b c:Nat} (h:Gd ls n b c) (hb:b<=4) (hc:c<=12):InB ls:=by
 refine ⟨h.mx,?_,?_⟩
 ·rw [Zbp,h.bo];exact hb
 ·rw [Zbp,h.cr];exact hc
theorem Zes:∀(n:Nat),n<=4->Gd ((List.range n).map fun (k:Nat)=>((("born" : Str),2*(k:Int)):Str×Int)) (2*(n:Int)) n 0
 | 0,_=>by simpa using Zha
 | n+1,h=>by
  rw [List.range_succ,List.map_append]
  have e:(2*((n+1:Nat):Int))=2*(n:Int)+2:=by lia
  rw [e]
  exact ZiD (Zes n (by lia)) (by lia) (by lia) (by lia)
theorem ZeG {ls:List (Str×Int)}{b c:Nat}:∀(n:Nat),n<=4->Gd ls (2*(n:Int)) b c -> ∀m,m<=n->Gd (ls++List.replicate m ((("end" : Str),0):Str×Int)) (2*((n-m:Nat):Int)) b c
 | n,_,h,0,_=>by simpa using h
 | n,h4,h,m+1,hm=>by
  have ih:=ZeG n h4 h m (by lia)
  rw [List.replicate_succ',<- List.append_assoc]
  have e:(2*((n-(m+1):Nat):Int))=2*((n-m:Nat):Int)-2:=by lia
  rw [e]
  exact ZhF ih (by decide) (by lia) (by lia)
def Zg1 (lo:Int):Sp:=fun vs H Q _=>∃(b:Addr) (m n:Int),vs = [.ref b,.int m,.int n]/\Bag H b/\1<=m/\m<=4/\0<=n/\n<=12 /\ ∀(l:Addr) (H':Hp) (ls:List (Str×Int)),H l=none->Bag H' b->Jh b H H'->Drw H' l ls->InB ls->ls.length<=50->ls ≠ []->Q (.ref l) H'
def Zef:Sp:=fun vs H Q _=>∃(b:Addr) (n:Int),vs = [.ref b,.int n]/\Bag H b/\0<=n/\n<=12 /\ ∀(l:Addr) (H':Hp) (ls:List (Str×Int)),H l=none->Bag H' b->Jh b H H'->Drw H' l ls->InB ls->ls.length<=50->ls ≠ []->Q (.ref l) H'
abbrev WM:Stmt:=top 47
theorem ZG:Zp ["_law_bag_here", "_law_births", "_law_most", "_law_letters", "_law_many", "_law_left", "_law_crosses", "_law_turn", "_law_way"] ["_law_bag_here", "_law_births", "_law_most"] (Zi WM):={}
theorem ZlF {f:Addr}{fd:FuncData} (F:Yd K "_law_drawing" "_law_drawing" WM f fd) (Zr:Yg P w K mg base 1 "_law_take" ["_law_bag_here", "_law_many"] ZaO) (ZF:mg "range" = none):
  ZX P w K mg base J2 2 f fd ["_law_bag_here", "_law_births", "_law_most"] (Zg1 0):=by
 refine F.ok ZG (fun vs H Q E h=>?_) (fun cdv A outer s H vs Q E hr h=>?_)
 ·obtain ⟨b,m,n,rfl,_⟩:=h
  rfl
 ·obtain ⟨b,m,n,rfl,hbag,m1,m2,n1,n2,k⟩:=h
  refine ⟨_,(Zd (Zq (i:=3) ZG.nd rfl (Or.inl rfl) (ZT Zc))
   (Zd (Zq (i:=4) ZG.nd rfl (Or.inl rfl) Zf)
   (Zd (Zq (i:=5) ZG.nd rfl (Or.inl rfl) (Zn ZN Zf (Zm Zr hr (Za (pv 0) (Za (pv 1) Zc)))))
   (Zd (Zq (i:=6) ZG.nd rfl (Or.inl rfl) (Zm Zr hr (Za (pv 0) (Za (Zn ZN (pv 2) Zf) Zc))))
   (Zd (ZZ PassesOwn.never rfl (Yj (by rfl) ZF (Za Zf Zc)) (Zl (i:=7) ZG.nd rfl (Or.inl rfl)) (Zd (Zq (i:=8) ZG.nd rfl (Or.inl rfl) (Zm Zr hr (Za (pv 0) (Za Zf Zc))))
   (Zh (YO (PW.pt (ZcV (ZD ZbY (pv 5) Zf (ZI _)) (ZcV (ZD ZiC (pv 4) Zf (ZI _)) (ZcB (PW.pt (ZiH (ZD J1 (pv 4) Zf (ZI _)) (ZeC (ZD J1 (pv 8) Zf (ZI _))))))))) (Zd (Ya (YU (K:=K) rfl (JJ PySem.F.plainAttrs_list PySem.F.slot_list_append PySem.F.type_list_append Z4 (pv 3) (Za (YV (Za Z7 (Za (Zm Zr hr (Za (pv 0) (Za (Zn ZN (pv 4) Zf) Zc))) Zc))) Zc))))
   (Zd (Zq (i:=4) ZG.nd rfl (Or.inl rfl) (Zn ZN (pv 4) Zf))
   (Zh (Zq (i:=5) ZG.nd rfl (Or.inl rfl) (Zn YE (pv 5) Zf))))) (Zh (YO (PW.pt (ZcV (ZD ZbY (pv 4) Zf (ZI _)) (ZcB (ZD J1 (pv 8) Zf (ZI _))))) (Zd (Ya (YU (K:=K) rfl (JJ PySem.F.plainAttrs_list PySem.F.slot_list_append PySem.F.type_list_append Z4 (pv 3) (Za (YV (Za Z7 (Za (Zm Zr hr (Za (pv 0) (Za (Zn YE (pv 4) Zf) Zc))) Zc))) Zc))))
   (Zh (Zq (i:=4) ZG.nd rfl (Or.inl rfl) (Zn YE (pv 4) Zf)))) (Zh (YO (PW.pt (ZcV (ZD ZbY (pv 4) Zf (ZI _)) (ZcB (ZD ZbY (pv 6) Zf (ZI _))))) (Zd (Ya (YU (K:=K) rfl (JJ PySem.F.plainAttrs_list PySem.F.slot_list_append PySem.F.type_list_append Z4 (pv 3) (Za (YV (Za Z7 (Za (Zm Zr hr (Za (pv 0) (Za (Zn YE (pv 4) Zf) Zc))) Zc))) Zc))))
   (Zh (Zq (i:=6) ZG.nd rfl (Or.inl rfl) (Zn YE (pv 6) Zf)))) Yc))))))))
   (Zd (Zga PassesOwn.never (ZD ZbY (pv 4) Zf (ZI _)) (Zd (Ya (YU (K:=K) rfl (JJ PySem.F.plainAttrs_list PySem.F.slot_list_append PySem.F.type_list_append Z4 (pv 3) (Za (YV (Za Z7 (Za (Zm Zr hr (Za (pv 0) (Za (Zn YE (pv 4) Zf) Zc))) Zc))) Zc))))
   (Zh (Zq (i:=4) ZG.nd rfl (Or.inl rfl) (Zn YE (pv 4) Zf)))))
   (Zh (Zs (pv 3))))))))),?_⟩
  refine ⟨(by show 0<=sizeLine;decide),fun l hl=>?_⟩
  obtain ⟨g0,r0,hg0,hb0⟩:=id hbag
  have hlb:l≠b:=(Zg hb0 hl).symm
  have bag1:Bag (upd H l (.lst [])) b:=⟨g0,r0,hg0,by rw [Zj (Ne.symm hlb)];exact hb0⟩
  refine ⟨_,rfl,_,rfl,b,m,rfl,bag1,m1,by lia,fun d1 H1 p1 q1 bg1 f1=>?_⟩
  refine ⟨_,_,rfl,rfl,?_⟩
  refine ⟨_,rfl,_,rfl,_,_,rfl,rfl,b,_,rfl,bg1,by lia,by lia,fun d2 H2 p2 q2 bg2 f2=>?_⟩
  have hl2:H2 l=some (.lst []):=f2 l _ (f1 l _ Zb hlb) hlb
  have fr2:Jh b H H2:=fun c o e nb=>f2 c o (f1 c o (by rw [Zj (Zg e hl)];exact e) nb) nb
  refine ⟨30,rfl,by decide,by decide,YR (n:=30) (fun i σ H'=>∃(xs:List V) (ls:List (Str×Int)) (c:Nat) (lf cr:Int) (tv wv:Option V),σ = [some (.ref b),some (.int m),some (.int n),some (.ref l),some (.int (2*(c:Int))),some (.int lf),some (.int cr),tv,wv]/\c<=4/\Bag H' b/\Jh b H H'/\H' l=some (.lst xs)/\Zu H' xs ls/\(∃bo cc:Nat,Gd ls (2*(c:Int)) bo cc/\(bo:Int)+lf<=m/\(cc:Int)+cr<=n/\0<=lf/\0<=cr)/\ls.length<=i/\(i=0->0<lf/\c=0)/\(0<i->ls ≠ []))
   ⟨[],[],0,_,_,none,none,rfl,by decide,bg2,fr2,hl2,.nil,⟨0,0,by simpa using Zha,by lia,by lia,by lia,by lia⟩,Nat.le_refl _,fun _=>⟨by lia,rfl⟩,fun h=>absurd h (by decide)⟩ ?_ ?_⟩
  ·rintro i σ H3 hi ⟨xs,ls,c,lf,cr,tv,wv,rfl,hc,bg3,fr3,hl3,hL,⟨bo,cc,gd,hbo,hcc,hlf,hcr⟩,hlen,hz,hne⟩
   have hxl:xs.length<sizeLine:=by
    rw [hL.len]
    exact ZA (by lia)
   refine ⟨_,rfl,b,8,rfl,bg3,by decide,by decide,fun wy H4 _ _ bg4 f4=>?_⟩
   have hl4:H4 l=some (.lst xs):=f4 l _ hl3 hlb
   have fr4:Jh b H H4:=fr3.trans f4
   have hL4:Zu H4 xs ls:=hL.frm f4 bg3
   dsimp only [J0]
   refine Zhq (ZeU (β:=decide (0<lf)) (fun Q q=>⟨_,rfl,_,_,rfl,rfl,_,rfl,q⟩) fun _=>ZeU (β:=decide (2*(c:Int)<7)) (fun Q q=>⟨_,rfl,_,_,rfl,rfl,_,rfl,q⟩) fun _=>Zpw (fun Q q=>⟨_,rfl,rfl,_,rfl,q⟩) fun _=>(fun Q q=>⟨_,rfl,rfl,_,rfl,q⟩)) (fun hp=>?_) (fun hn=>?_)
   ·
    have hp1:2*(c:Int)<7:=by
     simp only [Bool.and_eq_true,decide_eq_true_eq] at hp
     exact hp.2.1
    have hp0:0<lf:=by
     simp only [Bool.and_eq_true,decide_eq_true_eq] at hp
     exact hp.1
    refine ⟨_,rfl,.inl ⟨rfl,_,Zo.of hl4⟩,_,rfl,_,rfl,_,_,rfl,rfl,b,_,rfl,bg4,by lia,by lia,fun d H5 hd0 hd1 bg5 f5=>⟨(by show 2<=sizeLine;decide),fun t ht=>?_⟩⟩
    obtain ⟨a1,a2,a3,a4,a5⟩:=WT "born" d fr4 bg4 hl4 hL4 hlb hl f5 bg5 ht
    refine ⟨l,_,_,rfl,rfl,a1,hxl,_,rfl,_,_,rfl,rfl,_,rfl,_,_,rfl,rfl,?_⟩
    refine ⟨xs ++ [.ref t],ls ++ [((("born" : Str),d):Str×Int)],c+1,lf-1,cr,some (.int (0+(i:Int))),some (.int wy),?_,by lia,a2,a3,a4,a5,?_,by rw [List.length_append,List.length_singleton];lia,fun h=>absurd h (by lia),fun _=>by simp⟩
    ·have e:2*((c+1:Nat):Int)=2*(c:Int)+2:=by lia
     rw [e]
     rfl
    ·have e:2*((c+1:Nat):Int)=2*(c:Int)+2:=by lia
     rw [e]
     exact ⟨bo+1,cc,ZiD gd hd0 (by lia) (by lia),by lia,by lia,by lia,by lia⟩
   ·have hpos:0<i:=Nat.pos_of_ne_zero fun h=>by
     obtain ⟨q1,q2⟩:=hz h
     subst q2
     simp [q1] at hn
    refine Zhq (ZeU (β:=decide (1<2*(c:Int))) (fun Q q=>⟨_,rfl,_,_,rfl,rfl,_,rfl,q⟩) fun _=>(fun Q q=>⟨_,rfl,rfl,_,rfl,q⟩)) (fun hp=>?_) (fun _=>?_)
    ·
     have hp1:1<2*(c:Int):=by
      simp only [Bool.and_eq_true,decide_eq_true_eq] at hp
      exact hp.1
     refine ⟨_,rfl,.inl ⟨rfl,_,Zo.of hl4⟩,_,rfl,_,rfl,_,_,rfl,rfl,b,_,rfl,bg4,by lia,by lia,fun d H5 hd0 hd1 bg5 f5=>⟨(by show 2<=sizeLine;decide),fun t ht=>?_⟩⟩
     obtain ⟨a1,a2,a3,a4,a5⟩:=WT "end" d fr4 bg4 hl4 hL4 hlb hl f5 bg5 ht
     refine ⟨l,_,_,rfl,rfl,a1,hxl,_,rfl,_,_,rfl,rfl,?_⟩
     have e:2*((c-1:Nat):Int)=2*(c:Int)-2:=by lia
     refine ⟨xs ++ [.ref t],ls ++ [((("end" : Str),d):Str×Int)],c-1,lf,cr,some (.int (0+(i:Int))),some (.int wy),?_,by lia,a2,a3,a4,a5,?_,by rw [List.length_append,List.length_singleton];lia,fun h=>absurd h (by lia),fun _=>by simp⟩
     ·rw [e]
      rfl
     ·rw [e]
      exact ⟨bo,cc,ZhF gd hd0 (by lia) (by lia),by lia,by lia,by lia,by lia⟩
    ·refine Zhq (ZeU (β:=decide (1<2*(c:Int))) (fun Q q=>⟨_,rfl,_,_,rfl,rfl,_,rfl,q⟩) fun _=>(fun Q q=>⟨_,rfl,_,_,rfl,rfl,_,rfl,q⟩)) (fun hp=>?_) (fun _=>?_)
     ·
      have hp1:1<2*(c:Int):=by
       simp only [Bool.and_eq_true,decide_eq_true_eq] at hp
       exact hp.1
      have hp2:0<cr:=by
       simp only [Bool.and_eq_true,decide_eq_true_eq] at hp
       exact hp.2
      refine ⟨_,rfl,.inl ⟨rfl,_,Zo.of hl4⟩,_,rfl,_,rfl,_,_,rfl,rfl,b,_,rfl,bg4,by lia,by lia,fun d H5 hd0 hd1 bg5 f5=>⟨(by show 2<=sizeLine;decide),fun t ht=>?_⟩⟩
      obtain ⟨a1,a2,a3,a4,a5⟩:=WT "cross" d fr4 bg4 hl4 hL4 hlb hl f5 bg5 ht
      refine ⟨l,_,_,rfl,rfl,a1,hxl,_,rfl,_,_,rfl,rfl,?_⟩
      exact ⟨xs ++ [.ref t],ls ++ [((("cross" : Str),d):Str×Int)],c,_,_,_,_,rfl,hc,a2,a3,a4,a5,⟨bo,cc+1,Zbh gd hd0 (by lia) (by lia),by lia,by lia,by lia,by lia⟩,by rw [List.length_append,List.length_singleton];lia,fun h=>absurd h (by lia),fun _=>by simp⟩
     ·exact ⟨xs,ls,c,_,_,_,_,rfl,hc,bg4,fr4,hl4,hL4,⟨bo,cc,gd,by lia,by lia,by lia,by lia⟩,by lia,fun h=>absurd h (by lia),fun _=>hne hpos⟩
  ·
   rintro σ H3 ⟨xs,ls,c,lf,cr,tv,wv,rfl,hc,bg3,fr3,hl3,hL,⟨bo,cc,gd,hbo,hcc,hlf,hcr⟩,hlen,_,hne⟩
   refine ZjD (fun σ H'=>∃(xs:List V) (ls:List (Str×Int)) (c:Nat),σ = [some (.ref b),some (.int m),some (.int n),some (.ref l),some (.int (2*(c:Int))),some (.int lf),some (.int cr),tv,wv]/\c<=4/\Bag H' b/\Jh b H H'/\H' l=some (.lst xs)/\Zu H' xs ls/\Gd ls (2*(c:Int)) bo cc/\ls.length+c<=34/\ls ≠ [])
    (fun (σ:L2.St) _=>match σ[4]? with | some (some (V.int m))=>m.toNat | _=>0) ⟨xs,ls,c,rfl,hc,bg3,fr3,hl3,hL,gd,by lia,hne (by decide)⟩ ?_ ?_
   ·rintro σ H4 ⟨xs,ls,c,rfl,hc,bg4,fr4,hl4,hL4,gd,hlen,hne'⟩
    have hxl:xs.length<sizeLine:=by
     rw [hL4.len]
     exact ZA (by lia)
    refine ⟨_,rfl,_,_,rfl,rfl,_,rfl,?_⟩
    refine Jy (fun hp=>?_) (fun hp=>?_)
    ·have hp1:0<2*(c:Int):=of_decide_eq_true hp
     refine ⟨_,rfl,.inl ⟨rfl,_,Zo.of hl4⟩,_,rfl,_,rfl,_,_,rfl,rfl,b,_,rfl,bg4,by lia,by lia,fun d H5 hd0 hd1 bg5 f5=>⟨(by show 2<=sizeLine;decide),fun t ht=>?_⟩⟩
     obtain ⟨a1,a2,a3,a4,a5⟩:=WT "end" d fr4 bg4 hl4 hL4 hlb hl f5 bg5 ht
     refine ⟨l,_,_,rfl,rfl,a1,hxl,_,rfl,_,_,rfl,rfl,?_⟩
     have e:2*((c-1:Nat):Int)=2*(c:Int)-2:=by lia
     refine ⟨⟨xs ++ [.ref t],ls ++ [((("end" : Str),d):Str×Int)],c-1,?_,by lia,a2,a3,a4,a5,?_,by rw [List.length_append,List.length_singleton];lia,by simp⟩,?_⟩
     ·rw [e]
      rfl
     ·rw [e]
      exact ZhF gd hd0 (by lia) (by lia)
     ·show (2*(c:Int)-2).toNat<(2*(c:Int)).toNat
      lia
    ·have hp1:¬ 0<2*(c:Int):=fun z=>hp (decide_eq_true z)
     have hc0:c=0:=by lia
     subst hc0
     have gd':Gd ls 0 bo cc:=by simpa using gd
     refine ⟨_,rfl,k l H4 ls hl bg4 fr4 ⟨xs,hl4,hL4,gd'.wk,by lia⟩ (ZmS gd' (by lia) (by lia)) (by lia) hne'⟩
   ·rintro σ H Q Q' f ⟨v,e,i,j,e1,e2,kk,e3,q⟩
    exact ⟨v,e,i,j,e1,e2,kk,e3,f _ _ q⟩
abbrev J8:Stmt:=top 48
theorem Jd:Zp ["_law_bag_here", "_law_most", "_law_births", "_law_letters", "_law_turn", "_law_k"] ["_law_bag_here", "_law_most"] (Zi J8):={}
theorem Zmz {f:Addr}{fd:FuncData} (F:Yd K "_law_plat" "_law_plat" J8 f fd) (Zr:Yg P w K mg base 1 "_law_take" ["_law_bag_here", "_law_many"] ZaO) (ZF:mg "range" = none):
  ZX P w K mg base J2 2 f fd ["_law_bag_here", "_law_most"] Zef:=by
 refine F.ok Jd (fun vs H Q E h=>?_) (fun cdv A outer s H vs Q E hr h=>?_)
 ·obtain ⟨b,n,rfl,_⟩:=h
  rfl
 ·obtain ⟨b,n,rfl,hbag,n1,n2,k⟩:=h
  refine ⟨_,(Zd (Zq (i:=2) Jd.nd rfl (Or.inl rfl) (Zn ZN Zf (Zm Zr hr (Za (pv 0) (Za Zf Zc)))))
   (Zd (Zc2 (i:=3) Jd.nd rfl (Or.inl rfl) (Ls:=["_law_k"]) (Fs:=[]) (fi:=[]) (ZU.of (show YC ["_law_bag_here", "_law_most", "_law_births", "_law_letters", "_law_turn", "_law_k"] (Zi J8) _ [] []=true by decide +kernel)) rfl (Yj (by rfl) ZF (Za (pv 2) Zc)) (fun cl C s3 H3 ex=>⟨(Zl (i:=0) (show ((["_law_k"]:List Str)++([]:List Str)).Nodup by decide +kernel) rfl (Or.inl rfl)),Yf,(YV (Za Z7 (Za (Zn Wd Zf (pv 0)) Zc)))⟩))
   (Zd (ZZ PassesOwn.never rfl (Yj (by rfl) ZF (Za (Zm Zr hr (Za (pv 0) (Za (Zn ZN (pv 1) Zf) Zc))) Zc)) (Zl (i:=4) Jd.nd rfl (Or.inl rfl)) (Zd (Zq (i:=5) Jd.nd rfl (Or.inl rfl) (Zm Zr hr (Za (pv 0) (Za (Zn YE (Zn Wd Zf (pv 2)) Zf) Zc))))
   (Zd (YO (PW.pt (ZcV (ZD ZbY (pv 2) Zf (ZI _)) (ZcB (ZD J1 (Zm Zr hr (Za (pv 0) (Za Zf Zc))) Zf (ZI _))))) (Zh (Zq (i:=5) Jd.nd rfl (Or.inl rfl) (Zn ZN (Zn Wd Zf (Zn UY (Zn ZcH (pv 5) Zf) (Zn YE (pv 2) Zf))) Zf))) Yc)
   (Zh (Ya (YU (K:=K) rfl (JJ PySem.F.plainAttrs_list PySem.F.slot_list_append PySem.F.type_list_append Z4 (pv 3) (Za (YV (Za Z7 (Za (pv 5) Zc))) Zc))))))))
   (Zh (Zs (Zn ZdH (pv 3) (WZ (Ls:=["_law_k"]) (Fs:=[]) (fi:=[]) (ZU.of (show YC ["_law_bag_here", "_law_most", "_law_births", "_law_letters", "_law_turn", "_law_k"] (Zi J8) _ [] []=true by decide +kernel)) rfl (Yj (by rfl) ZF (Za (pv 2) Zc)) (fun cl C s3 H3 ex=>⟨(Zl (i:=0) (show ((["_law_k"]:List Str)++([]:List Str)).Nodup by decide +kernel) rfl (Or.inl rfl)),Yf,(YV (Za Z7 (Za Zf Zc)))⟩)))))))),?_⟩
  refine ⟨_,rfl,b,3,rfl,hbag,by decide,by decide,fun d H1 hd0 hd1 bg1 f1=>?_⟩
  refine ⟨_,_,rfl,rfl,?_⟩
  have hc1:1<=(1+d).toNat:=by lia
  have hc2:(1+d).toNat<=3:=by lia
  refine ⟨_,rfl,_,rfl,by lia,by lia,ZdG (n:=(1+d).toNat) (Nat.le_of_lt (ZA (by lia))) (fun i ys H'=>Ze H1 H'/\Zu H' ys ((List.range i).map fun (j:Nat)=>(("born", 2*(j:Int)):Str×Int))) ⟨Ze.refl _,.nil⟩
   (fun i ys H' p=>by rw [p.2.len];simp) (fun i ys H' hi p=>?_) (fun ys H2 p l hl=>?_)⟩
  ·refine lcG ?_
   refine ⟨_,rfl,_,_,rfl,rfl,.inl ⟨by decide,by decide⟩,(by show 2<=sizeLine;decide),fun t ht=>⟨p.1.step ht,?_⟩⟩
   rw [List.range_succ,List.map_append]
   have e:(2*(0+(i:Int)))=2*(i:Int):=by lia
   refine Zu.snoc (p.2.same (Ze.laid ht)) ?_
   rw [<- e]
   exact Zb
  ·
   obtain ⟨sm,hL0⟩:=p
   obtain ⟨g0,r0,hg0,hb0⟩:=id bg1
   have hb2:H2 b=some (.lst [.int g0,.int r0]):=sm b _ hb0
   have hlb:l≠b:=(Zg hb2 hl).symm
   have bg2:Bag (upd H2 l (.lst ys)) b:=⟨g0,r0,hg0,by rw [Zj (Ne.symm hlb)];exact hb2⟩
   have hlH:H l=none:=f1.free bg1 (sm.free hl)
   have fr2:Jh b H (upd H2 l (.lst ys)):=(f1.trans sm.frm).new hl
   have hL2:Zu (upd H2 l (.lst ys)) ys ((List.range (1+d).toNat).map fun (j:Nat)=>(("born", 2*(j:Int)):Str×Int)):=hL0.same (Ze.laid hl)
   refine ⟨_,rfl,_,rfl,_,_,rfl,rfl,b,_,rfl,bg2,by lia,by lia,fun d2 H3 he0 he1 bg3 f3=>?_⟩
   refine ⟨_,rfl,by lia,by lia,YR (n:=d2.toNat) (fun i σ H'=>∃(xs:List V) (ls:List (Str×Int)) (tv kv:Option V),σ = [some (.ref b),some (.int n),some (.int (1+d)),some (.ref l),tv,kv]/\Bag H' b/\Jh b H H'/\H' l=some (.lst xs)/\Zu H' xs ls/\Gd ls (2*((1+d).toNat:Int)) (1+d).toNat i/\ls.length<=3+i)
    ⟨ys,_,none,none,rfl,bg3,fr2.trans f3,f3 l _ Zb hlb,hL2.frm f3 bg2,Zes _ (by lia),by rw [List.length_map,List.length_range];lia⟩ ?_ ?_⟩
   ·rintro i σ H4 hi ⟨xs,ls,tv,kv,rfl,bg4,fr4,hl4,hL4,hW,hlen⟩
    have hxl:xs.length<sizeLine:=by
     rw [hL4.len]
     exact ZA (by lia)
    refine ⟨_,rfl,_,rfl,_,_,rfl,rfl,.inl ⟨by decide,by decide⟩,_,_,rfl,rfl,b,_,rfl,bg4,by lia,by lia,fun k1 H5 hk0 hk1 bg5 f5=>?_⟩
    have hl5:H5 l=some (.lst xs):=f5 l _ hl4 hlb
    have fr5:Jh b H H5:=fr4.trans f5
    have hL5:Zu H5 xs ls:=hL4.frm f5 bg4
    refine ⟨_,rfl,_,_,rfl,rfl,_,rfl,?_⟩
    refine Jy (fun hp=>?_) (fun hp=>?_)
    ·have hp1:1<1+d:=of_decide_eq_true hp
     refine ⟨_,rfl,b,2,rfl,bg5,by decide,by decide,fun d3 H6 _ _ bg6 f6=>⟨rfl,_,rfl,?_⟩⟩
     have hl6:H6 l=some (.lst xs):=f6 l _ hl5 hlb
     have fr6:Jh b H H6:=fr5.trans f6
     have hL6:Zu H6 xs ls:=hL5.frm f6 bg5
     refine Jy (fun hq=>?_) (fun hq=>?_)
     ·refine ⟨_,rfl,_,_,rfl,rfl,⟨by decide,by decide⟩,_,rfl,_,_,rfl,rfl,_,_,rfl,rfl,(show (0:Int)<1+d-1 by lia),_,_,rfl,rfl,.inl ⟨by decide,by decide⟩,_,_,rfl,rfl,?_⟩
      have z0:0<=k1 / 2 % (1+d-1):=Int.emod_nonneg _ (by lia)
      have z1:k1 / 2 % (1+d-1)<1+d-1:=Int.emod_lt_of_pos _ (by lia)
      refine ⟨_,rfl,.inl ⟨rfl,_,Zo.of hl6⟩,_,rfl,(by show 2<=sizeLine;decide),fun t ht=>?_⟩
      obtain ⟨a1,a2,a3,a4,a5⟩:=WT "cross" (2*(k1 / 2 % (1+d-1))+1) fr6 bg6 hl6 hL6 hlb hlH (Jh.refl b H6) bg6 ht
      refine ⟨l,_,_,rfl,rfl,a1,hxl,?_⟩
      exact ⟨xs ++ [.ref t],_,_,_,rfl,a2,a3,a4,a5,Zbh hW (by lia) (by lia) (by lia),by rw [List.length_append,List.length_singleton];lia⟩
     ·refine ⟨_,rfl,.inl ⟨rfl,_,Zo.of hl6⟩,_,rfl,(by show 2<=sizeLine;decide),fun t ht=>?_⟩
      obtain ⟨a1,a2,a3,a4,a5⟩:=WT "cross" k1 fr6 bg6 hl6 hL6 hlb hlH (Jh.refl b H6) bg6 ht
      refine ⟨l,_,_,rfl,rfl,a1,hxl,?_⟩
      exact ⟨xs ++ [.ref t],_,_,_,rfl,a2,a3,a4,a5,Zbh hW (by lia) (by lia) (by lia),by rw [List.length_append,List.length_singleton];lia⟩
    ·refine ⟨_,rfl,.inl ⟨rfl,_,Zo.of hl5⟩,_,rfl,(by show 2<=sizeLine;decide),fun t ht=>?_⟩
     obtain ⟨a1,a2,a3,a4,a5⟩:=WT "cross" k1 fr5 bg5 hl5 hL5 hlb hlH (Jh.refl b H5) bg5 ht
     refine ⟨l,_,_,rfl,rfl,a1,hxl,?_⟩
     exact ⟨xs ++ [.ref t],_,_,_,rfl,a2,a3,a4,a5,Zbh hW (by lia) (by lia) (by lia),by rw [List.length_append,List.length_singleton];lia⟩
   ·rintro σ H4 ⟨xs,ls,tv,kv,rfl,bg4,fr4,hl4,hL4,hW,hlen⟩
    refine ⟨_,rfl,_,rfl,_,rfl,by lia,by lia,ZdG (n:=(1+d).toNat) (Nat.le_of_lt (ZA (by lia))) (fun i ys H'=>Ze H4 H'/\Zu H' ys (List.replicate i ((("end" : Str),0):Str×Int))) ⟨Ze.refl _,.nil⟩
     (fun i ys H' p=>by rw [p.2.len];simp) (fun i ys H' hi p=>?_) (fun zs H5 p D hD=>?_)⟩
    ·refine lcG ?_
     refine ⟨(by show 2<=sizeLine;decide),fun t ht=>⟨p.1.step ht,?_⟩⟩
     rw [List.replicate_succ']
     exact Zu.snoc (p.2.same (Ze.laid ht)) Zb
    ·obtain ⟨sm5,hZ⟩:=p
     have hl5:H5 l=some (.lst xs):=sm5 l _ hl4
     have hZl:=hZ.len
     rw [List.length_replicate] at hZl
     have hXl:=hL4.len
     refine ⟨l,D,xs,zs,rfl,rfl,(by rw [Zj (Zg hl5 hD)];exact hl5),Zb,Nat.le_of_lt (ZA (by lia)),fun p hp=>?_⟩
     have sm6:Ze H4 (upd (upd H5 D (.lst zs)) p (.lst (xs++zs))):=(sm5.step hD).step hp
     have hpH:H p=none:=fr4.free bg4 ((sm5.step hD).free hp)
     obtain ⟨g4,r4,hg4,hb4⟩:=id bg4
     refine k p _ (ls++List.replicate (1+d).toNat ((("end" : Str),0):Str×Int)) hpH ⟨g4,r4,hg4,sm6 b _ hb4⟩ (fr4.trans sm6.frm) ⟨xs++zs,Zb,?_,?_,?_⟩ ?_ ?_ ?_
     ·exact (hL4.same sm6).append (hZ.same ((Ze.laid hD).step hp))
     ·have:=(ZeG _ (by lia) hW (1+d).toNat (Nat.le_refl _)).wk
      simpa using this
     ·rw [List.length_append,List.length_replicate]
      lia
     ·exact ZmS (ZeG _ (by lia) hW (1+d).toNat (Nat.le_refl _)) (by lia) (by lia)
     ·rw [List.length_append,List.length_replicate]
      lia
     ·intro z
      have:=congrArg List.length z
      rw [List.length_append,List.length_replicate,List.length_nil] at this
      lia
abbrev ZaQ:Stmt:=top 49
theorem ZfI:Zp ["_law_bag_here", "_law_most"] ["_law_bag_here", "_law_most"] (Zi ZaQ):={}
theorem Znq {f:Addr}{fd:FuncData} (F:Yd K "_law_any" "_law_any" ZaQ f fd) (Zr:Yg P w K mg base 1 "_law_take" ["_law_bag_here", "_law_many"] ZaO) (U5:Yg P w K mg base 2 "_law_plat" ["_law_bag_here", "_law_most"] Zef)
  (WC:Yg P w K mg base 2 "_law_drawing" ["_law_bag_here", "_law_births", "_law_most"] (Zg1 0)):ZX P w K mg base J2 3 f fd ["_law_bag_here", "_law_most"] Zef:=by
 refine F.ok ZfI (fun vs H Q E h=>?_) (fun cdv A outer s H vs Q E hr h=>?_)
 ·obtain ⟨b,n,rfl,_⟩:=h
  rfl
 ·obtain ⟨b,n,rfl,hbag,n1,n2,k⟩:=h
  refine ⟨_,(Zd (YO (ZD J1 (Zm Zr hr (Za (pv 0) (Za Zf Zc))) Zf (ZI _)) (Zh (Zs (Zm U5 hr (Za (pv 0) (Za (pv 1) Zc))))) Yc)
   (Zh (Zs (Zm WC hr (Za (pv 0) (Za Zf (Za (pv 1) Zc))))))),?_⟩
  refine ⟨_,rfl,b,3,rfl,hbag,by decide,by decide,fun d H1 _ _ bg1 f1=>⟨rfl,_,rfl,?_⟩⟩
  refine Jy (fun _=>?_) (fun _=>?_)
  ·exact ⟨_,rfl,_,rfl,b,n,rfl,bg1,n1,n2,fun l H2 ls hl bg2 f2 dr ib ll ne=>k l H2 ls (f1.free bg1 hl) bg2 (f1.trans f2) dr ib ll ne⟩
  ·exact ⟨_,rfl,_,rfl,b,4,n,rfl,bg1,by decide,by decide,n1,by lia,fun l H2 ls hl bg2 f2 dr ib ll ne=>k l H2 ls (f1.free bg1 hl) bg2 (f1.trans f2) dr ib ll ne⟩
abbrev ZbB:Stmt:=top 26
theorem Jp:Zp ["drawing", "rows", "born", "kind", "k", "row"] ["drawing"] (Zi ZbB):={}
theorem ZhM {f:Addr}{fd:FuncData} (F:Yd K "threads" "threads" ZbB f fd) (GP:mg "list" = none):ZX P w K mg base J2 1 f fd ["drawing"] ZgM:=by
 refine F.ok Jp (fun vs H Q E h=>?_) (fun cdv A outer s H vs Q E hr h=>?_)
 ·obtain ⟨l,xs,ls,rfl,_⟩:=h
  rfl
 ·obtain ⟨l,xs,ls,rfl,hl,hL,hlen,hW,k⟩:=h
  refine ⟨_,(Zd (Zq (i:=1) Jp.nd rfl (Or.inl rfl) (ZT (Za (ZT Zc) Zc)))
   (Zd (Zq (i:=2) Jp.nd rfl (Or.inl rfl) Zf)
   (Zd (ZZ PassesOwn.never rfl (ZC (K:=K) rfl (pv 0)) (Yr (K:=K) (n:=2) rfl rfl (Zw (Zl (i:=3) Jp.nd rfl (Or.inl rfl)) (Zw (Zl (i:=4) Jp.nd rfl (Or.inl rfl)) Yw))) (Zd (Zq (i:=5) Jp.nd rfl (Or.inl rfl) (Zad (ZaG (K:=K) rfl) (by rfl) GP boot_list (Za (Zv (Zk (K:=K) rfl) (pv 1) (ZaC Gp Zf) (fun _ _=>rfl)) Zc)))
   (Zd (YO (ZD J1 (pv 3) Z7 (ZI _)) (Zd (Yl (ZT (Za (pv 2) (Za (Zn ZN (pv 2) Zf) Zc))) (ZgS (pv 5) (YA (pv 4)) (YA (pv 4))))
   (Zh (ZhJ (i:=2) Jp.nd rfl (Or.inl rfl) Zf Zlv))) (Zh (YO (ZD J1 (pv 3) Z7 (ZI _)) (Zh (Yl (YV (Za (Zv (Zk (K:=K) rfl) (pv 5) (Zn ZN (pv 4) Zf) (fun _ _=>rfl)) (Za (Zv (Zk (K:=K) rfl) (pv 5) (pv 4) (fun _ _=>rfl)) Zc))) (Yr (K:=K) (n:=2) rfl rfl (Zw (YJ (pv 5) (pv 4) set_list) (Zw (YJ (pv 5) (Zn ZN (pv 4) Zf) set_list) Yw))))) (Zh (ZjZ (pv 5) (YA (pv 4)) (YA (Zn ZN (pv 4) Zf)))))))
   (Zh (Ya (YU (K:=K) rfl (JJ PySem.F.plainAttrs_list PySem.F.slot_list_append PySem.F.type_list_append Z4 (pv 1) (Za (pv 5) Zc))))))))
   (Zh (Zs (pv 1)))))),?_⟩
  have hxl:=hL.len
  refine ⟨(by show 0<=sizeLine;decide),fun e0 he0=>⟨(by show 1<=sizeLine;decide),fun R hR=>?_⟩⟩
  have hRH:H R=none:=(Ze.laid he0).free hR
  have hRe:e0≠R:=Zg (Zb (H:=H) (a:=e0) (o:=.lst [])) hR
  have sm0:Ze H (upd (upd H e0 (.lst [])) R (.lst [.ref e0])):=(Ze.laid he0).step hR
  refine ⟨_,rfl,l,rfl,⟨_,Zo.of (sm0 l _ hl)⟩,Ye (K:=K) (a:=l) (xs:=xs) (fun i σ H'=>∃(ys:List V) (v3 v4 v5:Option V),σ = [some (.ref l),some (.ref R),some (.int (rb (ls.take i)).2),v3,v4,v5]/\Ze H H'/\H' R=some (.lst ys)/\Yz H' ys (rowsOf ls (i+1))/\(∀t,V.ref t∈ys->H t=none/\t≠R)/\ys.Nodup)
   ⟨[.ref e0],none,none,none,rfl,sm0,Zb,?_,?_,by simp⟩ (fun i σ H' _ ⟨_,_,_,_,_,sm,_⟩=>Zo.of (sm l _ hl)) ?_ ?_⟩
  ·refine Paired.cons ⟨e0,rfl,?_⟩ .nil
   rw [Zj hRe,Zb]
   rfl
  ·intro t ht
   have:t=e0:=V.ref.inj (List.mem_singleton.mp ht)
   subst this
   exact ⟨he0,hRe⟩
  ·rintro i x σ H' hx ⟨ys,v3,v4,v5,rfl,sm,hR',rv,ap,nd⟩
   obtain ⟨⟨qx,qk⟩,tl,hq,rfl,htl⟩:=hL.get hx
   have htl':=sm tl _ htl
   have hi:i<ls.length:=(List.getElem?_eq_some_iff.mp hq).1
   obtain ⟨ztk,cases3⟩:=ZfU hW hq
   have rv':=rv
   rw [Zb9] at rv'
   obtain ⟨ys0,t,rfl,ht⟩:=rv'.last
   have hyl:(ys0 ++ [V.ref t]).length<sizeLine:=by
    rw [rv.len]
    unfold rowsOf
    rw [List.length_map,List.length_range]
    exact ZA (by lia)
   have rl:((rb (ls.take i)).1.map V.int).length=(rb (ls.take i)).1.length:=List.length_map _
   obtain ⟨m,hm⟩:=YH hW i
   have r8:(rb (ls.take i)).1.length<=900:=by
    have z1:=GN hm
    have z2:=Zit hm
    rw [List.length_take] at z2
    lia
   refine ⟨tl,_,rfl,Uw.of htl',rfl,_,_,rfl,_,_,rfl,rfl,?_⟩
   refine ⟨_,rfl,1,rfl,R,_,_,_,rfl,rfl,Zo.of hR',Zc0 _ _,t,_,rfl,.inl (Zo.of ht),fun w hw=>?_⟩
   have hwR:w≠R:=(Zg hR' hw).symm
   refine ⟨_,rfl,rfl,_,rfl,?_⟩
   rcases cases3 with ⟨e,b0,b1⟩ | ⟨e,b0,b1⟩ | ⟨e,b0,b1⟩
   ·have e:qx = "born" := e
    subst e
    refine Jy (fun _=>?_) (fun hn=>absurd (by simp) hn)
    refine ⟨_,rfl,_,rfl,_,_,rfl,rfl,(by show 2<=sizeLine;decide),fun nl hnl=>?_⟩
    have hwn:w≠nl:=Zg (Zb (H:=H') (a:=w)) hnl
    refine ⟨_,rfl,_,rfl,_,rfl,_,rfl,_,rfl,w,nl,_,_,qk,qk,rfl,rfl,rfl,rfl,(by rw [Zj hwn];exact Zb),Zb,hwn,b0,Int.le_refl _,(by rw [rl];exact b1),(by rw [rl];exact Nat.le_of_lt (ZA (by show _+2<=1000;lia))),?_⟩
    refine ⟨_,rfl,_,_,rfl,rfl,?_⟩
    have hR2:(upd (upd (upd H' w (.lst ((rb (ls.take i)).1.map V.int))) nl (.lst [.int (rb (ls.take i)).2,.int ((rb (ls.take i)).2+1)])) w (.lst (((rb (ls.take i)).1.map V.int).take qk.toNat ++ [.int (rb (ls.take i)).2,.int ((rb (ls.take i)).2+1)]++((rb (ls.take i)).1.map V.int).drop qk.toNat))) R=some (.lst (ys0 ++ [.ref t])):=by
     rw [Zj (Ne.symm hwR)]
     exact (Ze.laid hnl) R _ ((Ze.laid hw) R _ hR')
    refine ⟨_,rfl,.inl ⟨rfl,_,Zo.of hR2⟩,_,rfl,R,_,_,rfl,rfl,hR2,hyl,?_⟩
    obtain ⟨z1,z2,z3,z4⟩:=ZbF (G:=upd (upd (upd (upd H' w (.lst ((rb (ls.take i)).1.map V.int))) nl (.lst [.int (rb (ls.take i)).2,.int ((rb (ls.take i)).2+1)])) w (.lst (((rb (ls.take i)).1.map V.int).take qk.toNat ++ [.int (rb (ls.take i)).2,.int ((rb (ls.take i)).2+1)]++((rb (ls.take i)).1.map V.int).drop qk.toNat))) R (.lst ((ys0 ++ [.ref t]) ++ [.ref w]))) hRH sm rv ap nd hw hwR (fun c o e n=>by
      rw [Zj n,Zj (Zg e hw)]
      exact (Ze.laid hnl) c _ ((Ze.laid hw) c _ e)) (by
      rw [Zj hwR,Zb,ztk,ZR,Y1]
      simp [List.map_append,List.map_take,List.map_drop])
    refine ⟨ys0 ++ [.ref t] ++ [.ref w],some (.str "born"),some (.int qk),some (.ref w),?_,z1,Zb,z2,z3,z4⟩
    rw [ztk,ZR,Y1]
    rfl
   ·have e:qx = "cross" := e
    subst e
    refine Jy (fun hn=>absurd (V.str.inj (of_decide_eq_true hn)) nb1) (fun _=>?_)
    refine ⟨_,rfl,rfl,_,rfl,?_⟩
    refine Jy (fun _=>?_) (fun hn=>absurd (by simp) hn)
    obtain ⟨kk,rfl⟩:=Int.eq_ofNat_of_zero_le b0
    have k1:kk+1<(rb (ls.take i)).1.length:=by have b1:(kk:Int)+1<_:=b1;lia
    have ec:((kk:Int)+1)=((kk+1:Nat):Int):=by lia
    have a1:atI ((rb (ls.take i)).1.map V.int) ((kk:Int)+1)=some (V.int ((rb (ls.take i)).1.getD (kk+1) 0)):=by rw [ec];exact Zt (map_getD _ k1)
    have a0:atI ((rb (ls.take i)).1.map V.int) (kk:Int)=some (V.int ((rb (ls.take i)).1.getD kk 0)):=Zt (map_getD _ (by lia))
    refine ⟨_,rfl,_,rfl,_,_,rfl,rfl,w,_,_,_,rfl,rfl,Zo.of Zb,a1,_,rfl,_,rfl,w,_,_,_,rfl,rfl,Zo.of Zb,a0,(by show 2<=sizeLine;decide),fun tt htt=>?_⟩
    have hwt:w≠tt:=Zg (Zb (H:=H') (a:=w)) htt
    refine ⟨tt,_,rfl,Uw.of Zb,rfl,_,_,rfl,_,rfl,_,rfl,w,_,_,kk,rfl,rfl,(by rw [Zj hwt];exact Zb),(by rw [rl];exact JI (by lia)),?_⟩
    refine ⟨_,_,rfl,_,rfl,_,rfl,_,_,rfl,rfl,w,_,_,kk+1,rfl,rfl,Zb,(by rw [List.length_set,rl,ec];exact JI k1),rfl,?_⟩
    rw [Ziq,Zl8]
    have hR2:(upd (upd (upd H' w (.lst ((rb (ls.take i)).1.map V.int))) tt (.tup [.int ((rb (ls.take i)).1.getD (kk+1) 0),.int ((rb (ls.take i)).1.getD kk 0)])) w (.lst ((swp (rb (ls.take i)).1 kk).map V.int))) R=some (.lst (ys0 ++ [.ref t])):=by
     rw [Zj (Ne.symm hwR)]
     exact (Ze.laid htt) R _ ((Ze.laid hw) R _ hR')
    refine ⟨_,rfl,.inl ⟨rfl,_,Zo.of hR2⟩,_,rfl,R,_,_,rfl,rfl,hR2,hyl,?_⟩
    obtain ⟨z1,z2,z3,z4⟩:=ZbF (G:=upd (upd (upd (upd H' w (.lst ((rb (ls.take i)).1.map V.int))) tt (.tup [.int ((rb (ls.take i)).1.getD (kk+1) 0),.int ((rb (ls.take i)).1.getD kk 0)])) w (.lst ((swp (rb (ls.take i)).1 kk).map V.int))) R (.lst ((ys0 ++ [.ref t]) ++ [.ref w]))) hRH sm rv ap nd hw hwR (fun c o e n=>by
      rw [Zj n,Zj (Zg e hw)]
      exact (Ze.laid htt) c _ ((Ze.laid hw) c _ e)) (by
      rw [Zj hwR,Zb,ztk,ZR,YD]
      rfl)
    refine ⟨ys0 ++ [.ref t] ++ [.ref w],some (.str "cross"),some (.int kk),some (.ref w),?_,z1,Zb,z2,z3,z4⟩
    rw [ztk,ZR,YD]
    rfl
   ·have e:qx = "end" := e
    subst e
    refine Jy (fun hn=>absurd (V.str.inj (of_decide_eq_true hn)) nb2) (fun _=>?_)
    refine ⟨_,rfl,rfl,_,rfl,?_⟩
    refine Jy (fun hn=>absurd (V.str.inj (of_decide_eq_true hn)) nb3) (fun _=>?_)
    have b1':qk+1<((rb (ls.take i)).1.length:Int):=b1
    refine ⟨_,rfl,_,rfl,_,rfl,_,rfl,_,_,rfl,rfl,_,rfl,w,_,qk,qk+2,rfl,rfl,rfl,Zb,b0,by lia,(by rw [rl];lia),?_⟩
    rw [Ziq]
    have hR2:(upd H' w (.lst (((rb (ls.take i)).1.map V.int).take qk.toNat++((rb (ls.take i)).1.map V.int).drop (qk+2).toNat))) R=some (.lst (ys0 ++ [.ref t])):=(Ze.laid hw) R _ hR'
    refine ⟨_,rfl,.inl ⟨rfl,_,Zo.of hR2⟩,_,rfl,R,_,_,rfl,rfl,hR2,hyl,?_⟩
    have e2:(qk+2).toNat=qk.toNat+2:=by have b0':0<=qk:=b0;lia
    obtain ⟨z1,z2,z3,z4⟩:=ZbF (G:=upd (upd H' w (.lst (((rb (ls.take i)).1.map V.int).take qk.toNat++((rb (ls.take i)).1.map V.int).drop (qk+2).toNat))) R (.lst ((ys0 ++ [.ref t]) ++ [.ref w]))) hRH sm rv ap nd hw hwR (fun c o e n=>by
      rw [Zj n]
      exact (Ze.laid hw) c _ e) (by
      rw [Zj hwR,Zb,ztk,ZR,JG,e2,List.map_append,List.map_take,List.map_drop])
    refine ⟨ys0 ++ [.ref t] ++ [.ref w],some (.str "end"),some (.int qk),some (.ref w),?_,z1,Zb,z2,z3,z4⟩
    rw [ztk,ZR,JG]
    rfl
  ·rintro σ H' ⟨ys,v3,v4,v5,rfl,sm,hR',rv,ap,nd⟩
   rw [hxl] at rv
   exact ⟨_,rfl,k R H' ys hRH sm hR' rv ap nd⟩
def WH (pr:Str->Bool):Sp:=fun vs H Q _=>∃(l:Addr) (xs:List V) (ls:List (Str×Int)),vs = [.ref l]/\H l=some (.lst xs)/\Zu H xs ls/\ls.length<=60/\(∀p∈ls,Kd p.1) /\ ∀(p:Addr) (H':Hp),H p=none->Ze H H'->H' p=some (.lst ((Z0 ls pr ls.length).map V.int))->Q (.ref p) H'
def Zai:Sp:=fun vs H Q _=>∃(l:Addr) (kd:Str) (xs:List V) (ls:List (Str×Int)),vs = [.ref l,.str kd]/\H l=some (.lst xs)/\Zu H xs ls/\ls.length<=60 /\ ∀(p:Addr) (H':Hp),H p=none->Ze H H'->H' p=some (.lst ((Z0 ls (fun x=>decide (x=kd)) ls.length).map V.int))->Q (.ref p) H'
abbrev Wt:Stmt:=top 1
theorem ZdU:Zp ["drawing", "kind"] ["drawing", "kind"] (Zi Wt):={}
theorem ZgK {f:Addr}{fd:FuncData} (F:Yd K "letters_of" "letters_of" Wt f fd) (ZP:mg "enumerate" = none):ZX P w K mg base J2 1 f fd ["drawing", "kind"] Zai:=by
 refine F.ok ZdU (fun vs H Q E h=>?_) (fun cdv A outer s H vs Q E hr h=>?_)
 ·obtain ⟨l,kd,xs,ls,rfl,_⟩:=h
  rfl
 ·obtain ⟨l,kd,xs,ls,rfl,hl,hL,hlen,k⟩:=h
  refine ⟨_,(Zh (Zs (WZ (Ls:=["t", "letter"]) (Fs:=["kind"]) (fi:=[1]) (ZU.of (show YC ["drawing", "kind"] (Zi Wt) _ ["kind"] [1]=true by decide +kernel)) rfl (UP (K:=K) rfl (by rfl) ZP (Za (pv 0) Zc)) (fun cl C s3 H3 ex=>⟨(Yr (K:=K) (n:=2) rfl rfl (Zw (Zl (i:=0) (show ((["t", "letter"]:List Str)++(["kind"]:List Str)).Nodup by decide +kernel) rfl (Or.inl rfl)) (Zw (Zl (i:=1) (show ((["t", "letter"]:List Str)++(["kind"]:List Str)).Nodup by decide +kernel) rfl (Or.inl rfl)) Yw))),(ZiP (ZD J1 (Zv (ZcI (K:=K) rfl) (pv 1) Zf (fun _ _=>rfl)) (pv 2) (ZI _))),(pv 0)⟩)))),?_⟩
  have hxl:=hL.len
  refine ⟨_,rfl,l,rfl,⟨_,Zo.of hl⟩,Zlm (xs:=xs) (Nat.le_of_lt (ZA (by lia))) (fun i ys H'=>Ze H H'/\ys=(Z0 ls (fun x=>decide (x=kd)) i).map V.int) ⟨Ze.refl _,rfl⟩
   (fun i ys H' p=>by rw [p.2,List.length_map];exact JH _ _ _) (fun i ys H' p=>Zo.of (p.1 l _ hl)) (fun i x p ys H' hx pv hp=>?_) (fun ys H' pv D hD=>?_)⟩
  ·obtain ⟨sm,rfl⟩:=pv
   obtain ⟨q,t,hq,rfl,ht⟩:=hL.get hx
   have ht':(upd H' p (.tup [.int i,.ref t])) t=some (.tup [.str q.1,.int q.2]):=by rw [Zj (Zg (sm t _ ht) hp)];exact sm t _ ht
   refine ⟨p,_,rfl,Uw.of Zb,rfl,_,_,rfl,_,_,rfl,rfl,?_⟩
   refine ⟨_,rfl,t,_,_,_,rfl,rfl,Uw.of ht',Zt (j:=0) rfl,_,rfl,rfl,_,rfl,?_⟩
   refine Jy (fun hc=>?_) (fun hc=>?_)
   ·have e:q.1=kd:=V.str.inj (of_decide_eq_true hc)
    exact ⟨_,rfl,sm.step hp,Zgo hq (by simpa using e)⟩
   ·have e:¬q.1=kd:=fun z=>hc (decide_eq_true (congrArg V.str z))
    exact ⟨sm.step hp,Zim hq (by simpa using e)⟩
  ·obtain ⟨sm,rfl⟩:=pv
   rw [hxl]
   exact k D _ (sm.free hD) (sm.step hD) Zb
abbrev ZbP:Stmt:=top 3
theorem ZgQ:Zp ["drawing"] ["drawing"] (Zi ZbP):={}
theorem Zmx {f:Addr}{fd:FuncData} (F:Yd K "ends_of" "ends_of" ZbP f fd) (Je:Yg P w K mg base 1 "letters_of" ["drawing", "kind"] Zai):ZX P w K mg base J2 2 f fd ["drawing"] (WH fun x=>decide (x = "end")):=by
 refine F.ok ZgQ (fun vs H Q E h=>?_) (fun cdv A outer s H vs Q E hr h=>?_)
 ·obtain ⟨l,xs,ls,rfl,_⟩:=h
  rfl
 ·obtain ⟨l,xs,ls,rfl,hl,hL,hlen,_,k⟩:=h
  refine ⟨_,(Zh (Zs (Zm Je hr (Za (pv 0) (Za Z7 Zc))))),?_⟩
  exact ⟨_,rfl,l,_,xs,ls,rfl,hl,hL,hlen,k⟩
abbrev GX:Stmt:=top 4
theorem ZfW:Zp ["drawing"] ["drawing"] (Zi GX):={}
theorem Zkd {f:Addr}{fd:FuncData} (F:Yd K "names_of" "names_of" GX f fd) (ZP:mg "enumerate" = none):ZX P w K mg base J2 1 f fd ["drawing"] (WH fun x=>!decide (x = "born")):=by
 refine F.ok ZfW (fun vs H Q E h=>?_) (fun cdv A outer s H vs Q E hr h=>?_)
 ·obtain ⟨l,xs,ls,rfl,_⟩:=h
  rfl
 ·obtain ⟨l,xs,ls,rfl,hl,hL,hlen,_,k⟩:=h
  refine ⟨_,(Zh (Zs (WZ (Ls:=["t", "letter"]) (Fs:=[]) (fi:=[]) (ZU.of (show YC ["drawing"] (Zi GX) _ [] []=true by decide +kernel)) rfl (UP (K:=K) rfl (by rfl) ZP (Za (pv 0) Zc)) (fun cl C s3 H3 ex=>⟨(Yr (K:=K) (n:=2) rfl rfl (Zw (Zl (i:=0) (show ((["t", "letter"]:List Str)++([]:List Str)).Nodup by decide +kernel) rfl (Or.inl rfl)) (Zw (Zl (i:=1) (show ((["t", "letter"]:List Str)++([]:List Str)).Nodup by decide +kernel) rfl (Or.inl rfl)) Yw))),(ZiP (ZD ZjG (Zv (ZcI (K:=K) rfl) (pv 1) Zf (fun _ _=>rfl)) Z7 (ZI _))),(pv 0)⟩)))),?_⟩
  have hxl:=hL.len
  refine ⟨_,rfl,l,rfl,⟨_,Zo.of hl⟩,Zlm (xs:=xs) (Nat.le_of_lt (ZA (by lia))) (fun i ys H'=>Ze H H'/\ys=(Z0 ls (fun x=>!decide (x = "born")) i).map V.int) ⟨Ze.refl _,rfl⟩
   (fun i ys H' p=>by rw [p.2,List.length_map];exact JH _ _ _) (fun i ys H' p=>Zo.of (p.1 l _ hl)) (fun i x p ys H' hx pv hp=>?_) (fun ys H' pv D hD=>?_)⟩
  ·obtain ⟨sm,rfl⟩:=pv
   obtain ⟨q,t,hq,rfl,ht⟩:=hL.get hx
   have ht':(upd H' p (.tup [.int i,.ref t])) t=some (.tup [.str q.1,.int q.2]):=by rw [Zj (Zg (sm t _ ht) hp)];exact sm t _ ht
   refine ⟨p,_,rfl,Uw.of Zb,rfl,_,_,rfl,_,_,rfl,rfl,?_⟩
   refine ⟨_,rfl,t,_,_,_,rfl,rfl,Uw.of ht',Zt (j:=0) rfl,rfl,_,rfl,?_⟩
   refine Jy (fun hc=>?_) (fun hc=>?_)
   ·have e:¬q.1 = "born" := fun z=>by
     have:(!decide (V.str q.1=V.str "born"))=true:=hc
     rw [decide_eq_true (congrArg V.str z)] at this
     cases this
    exact ⟨_,rfl,sm.step hp,Zgo hq (by simpa using e)⟩
   ·have e:q.1 = "born" := by
     by_cases z:q.1 = "born"
     ·exact z
     ·exact absurd (show (!decide (V.str q.1=V.str "born"))=true by rw [decide_eq_false (fun y=>z (V.str.inj y))];rfl) hc
    exact ⟨sm.step hp,Zim hq (by simpa using e)⟩
  ·obtain ⟨sm,rfl⟩:=pv
   rw [hxl]
   exact k D _ (sm.free hD) (sm.step hD) Zb
theorem Zib {H:Hp}:∀{xs:List V}{ls:List (Str×Int)}{i:Nat}{q:Str×Int},Zu H xs ls->ls[i]? = some q -> ∃t,xs[i]? = some (.ref t)/\H t=some (.tup [.str q.1,.int q.2])
 | _,_,_,_,.nil,e=>by simp at e
 | _,_,0,_,.cons ⟨t,e1,q⟩ _,e=>by simp at e;subst e;exact ⟨t,by simp [e1],q⟩
 | _,_,i+1,q,.cons _ r,e=>by
  obtain ⟨t,h1,h2⟩:=Zib (i:=i) (q:=q) r (by simpa using e)
  exact ⟨t,by simpa using h1,h2⟩
def Zbb:Sp:=fun vs H Q _=>∃(l n:Addr) (xs:List V) (ls:List (Str×Int)) (ns:List Int),vs = [.ref l,.ref n]/\H l=some (.lst xs)/\Zu H xs ls/\ls.length<=60/\Wk ls 0/\H n=some (.lst (ns.map V.int))/\ns.length<=60/\(∀t∈ns,0<=t /\ ∃q,ls[t.toNat]? = some q/\q.1 ≠ "born") /\
 ∀(p:Addr) (H':Hp) (ys:List V),H p=none->Ze H H'->H' p=some (.lst ys)->Ji H' ys (ns.map fun t=>Jj ls t.toNat)->Q (.ref p) H'
abbrev Gw:Stmt:=top 27
theorem Y0:Zp ["drawing", "numbers", "rows", "found", "t", "k"] ["drawing", "numbers"] (Zi Gw):={}
theorem ZkD {f:Addr}{fd:FuncData} (F:Yd K "pairs_ahead" "pairs_ahead" Gw f fd) (ZbX:Yg P w K mg base 1 "threads" ["drawing"] ZgM):ZX P w K mg base J2 2 f fd ["drawing", "numbers"] Zbb:=by
 refine F.ok Y0 (fun vs H Q E h=>?_) (fun cdv A outer s H vs Q E hr h=>?_)
 ·obtain ⟨l,n,xs,ls,ns,rfl,_⟩:=h
  rfl
 ·obtain ⟨l,n,xs,ls,ns,rfl,hl,hL,hlen,hW,hn,hnl,hns,k⟩:=h
  refine ⟨_,(Zd (Zq (i:=2) Y0.nd rfl (Or.inl rfl) (Zm ZbX hr (Za (pv 0) Zc)))
   (Zd (Zq (i:=3) Y0.nd rfl (Or.inl rfl) (ZT Zc))
   (Zd (ZZ PassesOwn.never rfl (ZC (K:=K) rfl (pv 1)) (Zl (i:=4) Y0.nd rfl (Or.inl rfl)) (Zd (Zq (i:=5) Y0.nd rfl (Or.inl rfl) (Zv (ZcI (K:=K) rfl) (Zv (Zk (K:=K) rfl) (pv 0) (pv 4) (fun _ _=>rfl)) Zf (fun _ _=>rfl)))
   (Zh (Ya (YU (K:=K) rfl (JJ PySem.F.plainAttrs_list PySem.F.slot_list_append PySem.F.type_list_append Z4 (pv 3) (Za (YV (Za (Zv (Zk (K:=K) rfl) (Zv (Zk (K:=K) rfl) (pv 2) (pv 4) (fun _ _=>rfl)) (pv 5) (fun _ _=>rfl)) (Za (Zv (Zk (K:=K) rfl) (Zv (Zk (K:=K) rfl) (pv 2) (pv 4) (fun _ _=>rfl)) (Zn ZN (pv 5) Zf) (fun _ _=>rfl)) Zc))) Zc)))))))
   (Zh (Zs (pv 3)))))),?_⟩
  refine ⟨_,rfl,l,xs,ls,rfl,hl,hL,hlen,hW,fun R H1 ys fR s1 eR rv ap nd=>?_⟩
  refine ⟨(by show 0<=sizeLine;decide),fun fA hfA=>?_⟩
  have hl1:=s1 l _ hl
  have hL1:=hL.same s1
  have hn1:=s1 n _ hn
  refine ⟨_,rfl,n,rfl,⟨_,Zo.of ((Ze.laid hfA) n _ hn1)⟩,Ye (K:=K) (a:=n) (xs:=ns.map V.int) (fun i σ H'=>∃(zs:List V) (v4 v5:Option V),σ = [some (.ref l),some (.ref n),some (.ref R),some (.ref fA),v4,v5]/\Ze H1 H'/\H' fA=some (.lst zs)/\Ji H' zs ((ns.take i).map fun t=>Jj ls t.toNat))
   ⟨[],none,none,rfl,Ze.laid hfA,Zb,.nil⟩ (fun i σ H' _ ⟨_,_,_,_,sm,_⟩=>Zo.of (sm n _ hn1)) ?_ ?_⟩
  ·rintro i x σ H' hx ⟨zs,v4,v5,rfl,sm,hf,pv⟩
   obtain ⟨t,ht,rfl⟩:=YI hx
   obtain ⟨t0,⟨qx,qk⟩,hq,hb⟩:=hns t (List.mem_of_getElem? ht)
   obtain ⟨tn,rfl⟩:=Int.eq_ofNat_of_zero_le t0
   rw [Int.toNat_natCast] at hq
   have htl:tn<ls.length:=(List.getElem?_eq_some_iff.mp hq).1
   obtain ⟨k0,k1,pe⟩:=ZiA hW hq hb
   obtain ⟨kn,rfl⟩:=Int.eq_ofNat_of_zero_le (show 0<=qk from k0)
   simp only [Int.toNat_natCast] at k1 pe
   obtain ⟨ta,hxt,hta⟩:=Zib hL1 hq
   obtain ⟨ra,hra,hrr⟩:=rv.at (Zjf ls (i:=tn) (n:=ls.length+1) (by lia))
   have e1:((kn:Int)+1)=((kn+1:Nat):Int):=by lia
   refine ⟨_,rfl,_,rfl,l,_,_,_,rfl,rfl,Zo.of (sm l _ hl1),Zt hxt,ta,_,_,_,rfl,rfl,Uw.of (sm ta _ hta),Zt (j:=1) rfl,?_⟩
   refine ⟨_,rfl,.inl ⟨rfl,_,Zo.of hf⟩,_,rfl,_,rfl,R,_,_,_,rfl,rfl,Zo.of (sm R _ eR),Zt hra,_,rfl,ra,_,_,_,rfl,rfl,Zo.of (sm ra _ hrr),Zt (map_getD _ (by lia)),?_⟩
   refine ⟨_,rfl,_,rfl,R,_,_,_,rfl,rfl,Zo.of (sm R _ eR),Zt hra,_,rfl,_,_,rfl,rfl,ra,_,_,_,rfl,rfl,Zo.of (sm ra _ hrr),(by rw [e1];exact Zt (map_getD _ k1)),(by show 2<=sizeLine;decide),fun tt htt=>?_⟩
   have hft:fA≠tt:=Zg hf htt
   have zl:zs.length<sizeLine:=by
    rw [pv.len,List.length_map,List.length_take]
    exact ZA (by lia)
   refine ⟨fA,_,_,rfl,rfl,(by rw [Zj hft];exact hf),zl,?_⟩
   refine ⟨zs ++ [.ref tt],some (.int tn),some (.int kn),rfl,(sm.step htt).put hfA,Zb,?_⟩
   rw [YT _ ht]
   refine Ji.snoc (pv.mono fun a p e=>?_) ?_
   ·rw [Zj (Zgq e hf (by intro z;cases z)),Zj (Zg e htt)]
    exact e
   ·rw [Zj (Ne.symm hft),Zb,Int.toNat_natCast,pe]
  ·rintro σ H' ⟨zs,v4,v5,rfl,sm,hf,pv⟩
   refine ⟨_,rfl,k fA H' zs (s1.free hfA) (s1.trans sm) hf ?_⟩
   rw [List.length_map,List.take_of_length_le (Nat.le_refl _)] at pv
   exact pv
def Zfb:Sp:=fun vs H Q _=>∃(l:Addr) (xs:List V) (ls:List (Str×Int)),vs = [.ref l]/\H l=some (.lst xs)/\Zu H xs ls/\ls.length<=60/\Wk ls 0 /\
 ∀(p:Addr) (H':Hp) (ys:List V),H p=none->Ze H H'->H' p=some (.lst ys)->Ji H' ys (Yb ls)->Q (.ref p) H'
abbrev UK:Stmt:=top 28
theorem Zfh:Zp ["drawing"] ["drawing"] (Zi UK):={}
theorem Zfs {f:Addr}{fd:FuncData} (F:Yd K "end_pairs" "end_pairs" UK f fd) (Z9:Yg P w K mg base 2 "pairs_ahead" ["drawing", "numbers"] Zbb) (ZV:Yg P w K mg base 2 "ends_of" ["drawing"] (WH fun x=>decide (x = "end"))):ZX P w K mg base J2 3 f fd ["drawing"] Zfb:=by
 refine F.ok Zfh (fun vs H Q E h=>?_) (fun cdv A outer s H vs Q E hr h=>?_)
 ·obtain ⟨l,xs,ls,rfl,_⟩:=h
  rfl
 ·obtain ⟨l,xs,ls,rfl,hl,hL,hlen,hW,k⟩:=h
  refine ⟨_,(Zh (Zs (Zm Z9 hr (Za (pv 0) (Za (Zm ZV hr (Za (pv 0) Zc)) Zc))))),?_⟩
  refine ⟨_,rfl,_,rfl,l,xs,ls,rfl,hl,hL,hlen,hW.kd,fun n H1 hn s1 e1=>?_⟩
  refine ⟨l,n,xs,ls,Z0 ls isE ls.length,rfl,s1 l _ hl,hL.same s1,hlen,hW,e1,Nat.le_trans (JH _ _ _) hlen,fun t ht=>?_,fun p H2 ys hp s2 e2 pv=>k p H2 ys (s1.free hp) (s1.trans s2) e2 pv⟩
  obtain ⟨a,_,q,hq,z⟩:=Zbe ht
  refine ⟨a,q,hq,fun z2=>?_⟩
  have z:q.1 = "end" := of_decide_eq_true z
  rw [z2] at z
  exact nb2 z.symm
def ZlB:Sp:=fun vs H Q _=>∃x:Int,vs = [.int x]/\0<=x/\Q (.int (bw x)) H
abbrev US:Stmt:=top 29
theorem ZeW:Zp ["thread"] ["thread"] (Zi US):={}
theorem Zpt {f:Addr}{fd:FuncData} (F:Yd K "born_with" "born_with" US f fd):ZX P w K mg base J2 1 f fd ["thread"] ZlB:=by
 refine F.ok ZeW (fun vs H Q E h=>?_) (fun cdv A outer s H vs Q E hr h=>?_)
 ·obtain ⟨x,rfl,_⟩:=h
  rfl
 ·obtain ⟨x,rfl,h0,k⟩:=h
  refine ⟨_,(Zh (Zs (Zn ZnC (pv 0) Zf))),?_⟩
  refine ⟨_,rfl,_,_,rfl,rfl,?_⟩
  show Q (.int (Builtin.bitXor x 1)) H
  rw [ZnA h0]
  exact k
def tab {α:Type} (N:Nat) (g:Int -> α):List α:=(List.range N).map fun (x:Nat)=>g (x:Int)
theorem Jx {α:Type} (N:Nat) (g:Int -> α):(tab N g).length=N:=by simp [tab]
theorem ZeN {α:Type}{N:Nat} (g:Int -> α) {j:Nat} (h:j<N):(tab N g)[j]? = some (g (j:Int)):=by
 unfold tab
 rw [List.getElem?_map]
 simp [h]
theorem ZQ {α:Type}{N:Nat}{g g':Int -> α} (h:∀x:Int,0<=x->x<(N:Int)->g x=g' x):tab N g=tab N g':=by
 unfold tab
 refine List.map_congr_left fun x hx=>?_
 have:=List.mem_range.mp hx
 exact h x (by lia) (by lia)
theorem GY {α:Type}{N:Nat} (g:Int -> α) (j:Nat) (v:α):(tab N g).set j v=tab N (fun x=>if x=(j:Int) then v else g x):=by
 apply List.ext_getElem?
 intro i
 rw [List.getElem?_set,Jx]
 by_cases hi:i<N
 ·rw [ZeN _ hi,ZeN _ hi]
  by_cases e:j=i
  ·subst e;simp [hi]
  ·rw [if_neg e,if_neg (by lia)]
 ·rw [show (tab N g)[i]? = none from List.getElem?_eq_none_iff.mpr (by rw [Jx];lia),show (tab N (fun x=>if x=(j:Int) then v else g x))[i]? = none from List.getElem?_eq_none_iff.mpr (by rw [Jx];lia)]
  by_cases e:j=i
  ·subst e;rw [if_pos rfl,if_neg hi]
  ·rw [if_neg e]
theorem ZcL {α β:Type} (N:Nat) (g:Int -> α) (f:α -> β):(tab N g).map f=tab N (fun x=>f (g x)):=by
 unfold tab
 rw [List.map_map]
 rfl
theorem Ug {α:Type} (N:Nat) (v:α):(List.replicate N [v]).flatten=tab N (fun _=>v):=by
 unfold tab
 induction N with
 | zero=>rfl
 | succ n ih=>rw [List.replicate_succ',List.flatten_append,ih,List.range_succ,List.map_append];simp
theorem ZfO:∀{ps:List (Int×Int)}{u l x:Int},u∉ZO ps->l∉ZO ps->u≠l->YW (ps ++ [(u,l)]) x=if x=l then u else if x=u then l else YW ps x
 | [],u,l,x,_,_,ne=>by
  simp only [List.nil_append,YW]
  by_cases h1:x=u
  ·subst h1;simp [ne]
  ·simp [h1]
 | p::r,u,l,x,hu,hl,ne=>by
  have e:ZO (p::r)=p.1::p.2::ZO r:=by simp [ZO]
  rw [e] at hu hl
  simp only [List.mem_cons,not_or] at hu hl
  have ih:=ZfO (x:=x) hu.2.2 hl.2.2 ne
  simp only [List.cons_append,YW,ih]
  by_cases h1:x=p.1
  ·subst h1;simp [Ne.symm hu.1,Ne.symm hl.1]
  ·by_cases h2:x=p.2
   ·subst h2;simp [h1,Ne.symm hu.2.1,Ne.symm hl.2.1]
   ·simp [h1,h2]
theorem ZhK {ps:List (Int×Int)}{i:Nat}{p:Int×Int} (h:ps[i]? = some p):ZO (ps.take (i+1))=ZO (ps.take i) ++ [p.1,p.2]:=by
 rw [List.take_add_one,h,Um]
 simp [ZO]
theorem ZkK {ps:List (Int×Int)} (nd:(ZO ps).Nodup) {i:Nat}{p:Int×Int} (h:ps[i]? = some p):p.1∉ZO (ps.take i)/\p.2∉ZO (ps.take i)/\p.1≠p.2:=by
 have e:ps=ps.take (i+1)++ps.drop (i+1):=(List.take_append_drop _ _).symm
 rw [e,Um,ZhK h] at nd
 have nd:=(List.nodup_append.mp nd).1
 obtain ⟨_,n2,n3⟩:=List.nodup_append.mp nd
 refine ⟨fun z=>n3 _ z _ (by simp) rfl,fun z=>n3 _ z _ (by simp) rfl,?_⟩
 have:=List.nodup_cons.mp n2
 simpa using this.1
theorem ZcC {ls:List (Str×Int)} (hW:Wk ls 0) {p:Int×Int} (h:p∈Yb ls):(0<=p.1/\p.1<(Yp ls:Int))/\(0<=p.2/\p.2<(Yp ls:Int)):=
 ⟨J9.mp ((WU hW).mem_iff.mp (List.mem_flatMap.mpr ⟨p,h,by simp⟩)),J9.mp ((WU hW).mem_iff.mp (List.mem_flatMap.mpr ⟨p,h,by simp⟩))⟩
theorem Zjo {ls:List (Str×Int)} (hW:Wk ls 0):(ZO (Yb ls)).Nodup:=(WU hW).nodup_iff.mpr (GU _)
def ZeB:Sp:=fun vs H Q _=>∃(l:Addr) (xs:List V) (ls:List (Str×Int)),vs = [.ref l]/\H l=some (.lst xs)/\Zu H xs ls/\ls.length<=60/\Wk ls 0 /\
 ∀(p:Addr) (H':Hp),H p=none->Ze H H'->H' p=some (.lst ((tab (Yp ls) (YW (Yb ls))).map V.int))->Q (.ref p) H'
abbrev UU:Stmt:=top 30
theorem Jv:Zp ["drawing", "pairs", "mates", "upper", "lower"] ["drawing"] (Zi UU):={}
theorem ZkT {f:Addr}{fd:FuncData} (F:Yd K "end_mates" "end_mates" UU f fd) (Jt:Yg P w K mg base 3 "end_pairs" ["drawing"] Zfb) (ZJ:mg "len" = none):ZX P w K mg base J2 4 f fd ["drawing"] ZeB:=by
 refine F.ok Jv (fun vs H Q E h=>?_) (fun cdv A outer s H vs Q E hr h=>?_)
 ·obtain ⟨l,xs,ls,rfl,_⟩:=h
  rfl
 ·obtain ⟨l,xs,ls,rfl,hl,hL,hlen,hW,k⟩:=h
  refine ⟨_,(Zd (Zq (i:=1) Jv.nd rfl (Or.inl rfl) (Zm Jt hr (Za (pv 0) Zc)))
   (Zd (Zq (i:=2) Jv.nd rfl (Or.inl rfl) (Zn ZaN (ZT (Za Zf Zc)) (Zn Wd Zf (ZE (ZW (K:=K) rfl) (by rfl) ZJ PySem.boot_len (Za (pv 1) Zc)))))
   (Zd (ZZ PassesOwn.never rfl (ZC (K:=K) rfl (pv 1)) (Yr (K:=K) (n:=2) rfl rfl (Zw (Zl (i:=3) Jv.nd rfl (Or.inl rfl)) (Zw (Zl (i:=4) Jv.nd rfl (Or.inl rfl)) Yw))) (Zd (Yl (pv 4) (YJ (pv 2) (pv 3) set_list))
   (Zh (Yl (pv 3) (YJ (pv 2) (pv 4) set_list)))))
   (Zh (Zs (pv 2)))))),?_⟩
  refine ⟨_,rfl,l,xs,ls,rfl,hl,hL,hlen,hW,fun pA H1 ys fp s1 ep pv=>?_⟩
  have n120:=JP hlen
  have yl:2*ys.length=Yp ls:=by rw [pv.len];rfl
  refine ⟨(by show 1<=sizeLine;decide),fun l0 hl0=>?_⟩
  have ep0:=(Ze.laid (o:=.lst [.int 0]) hl0) pA _ ep
  refine ⟨_,rfl,pA,_,rfl,.inl (Zo.of ep0),_,_,rfl,rfl,.inl ⟨by decide,by decide⟩,?_⟩
  have e2:((2:Int)*(ys.length:Int))=((Yp ls:Nat):Int):=by lia
  refine ⟨l0,_,_,rfl,rfl,Zb,by lia,by lia,?_,fun mA hmA=>?_⟩
  ·rw [e2]
   show 1*_<=sizeLine
   exact Nat.le_of_lt (ZA (by lia))
  have hm1:H1 mA=none:=(Ze.laid hl0).free hmA
  have sm1:Ze H1 (upd (upd H1 l0 (.lst [.int 0])) mA (.lst (List.replicate ((2:Int)*(ys.length:Int)).toNat [V.int 0]).flatten)):=(Ze.laid hl0).step hmA
  refine ⟨_,rfl,pA,rfl,⟨_,Zo.of (sm1 pA _ ep)⟩,Ye (K:=K) (a:=pA) (xs:=ys) (fun i σ H'=>∃(v3 v4:Option V),σ = [some (.ref l),some (.ref pA),some (.ref mA),v3,v4]/\Ze H1 H'/\H' mA=some (.lst ((tab (Yp ls) (YW ((Yb ls).take i))).map V.int)))
   ⟨none,none,rfl,sm1,?_⟩ (fun i σ H' _ ⟨_,_,_,sm,_⟩=>Zo.of (sm pA _ ep)) ?_ ?_⟩
  ·rw [Zb,e2,Int.toNat_natCast,Ug,ZcL]
   rfl
  ·rintro i x σ H' hx ⟨v3,v4,rfl,sm,hm⟩
   obtain ⟨p,t,hp,rfl,ht⟩:=pv.get hx
   obtain ⟨u,lw⟩:=p
   obtain ⟨⟨d1,d2⟩,d3,d4⟩:=ZcC hW (List.mem_of_getElem? hp)
   obtain ⟨n1,n2,n3⟩:=ZkK (Zjo hW) hp
   obtain ⟨un,rfl⟩:=Int.eq_ofNat_of_zero_le (show 0<=u from d1)
   obtain ⟨wn,rfl⟩:=Int.eq_ofNat_of_zero_le (show 0<=lw from d3)
   have d2:(un:Int)<_:=d2
   have d4:(wn:Int)<_:=d4
   refine ⟨t,_,rfl,Uw.of (sm t _ ht),rfl,_,_,rfl,_,_,rfl,rfl,?_⟩
   refine ⟨_,rfl,_,rfl,_,rfl,mA,_,_,un,rfl,rfl,hm,(by rw [List.length_map,Jx];exact JI (by lia)),?_⟩
   refine ⟨_,rfl,_,rfl,_,rfl,mA,_,_,wn,rfl,rfl,Zb,(by rw [List.length_set,List.length_map,Jx];exact JI (by lia)),?_⟩
   refine ⟨some (.int un),some (.int wn),rfl,(sm.put hm1).put hm1,?_⟩
   rw [Zb,<- List.map_set,<- List.map_set,GY,GY,List.take_add_one,hp]
   congr 2
   refine congrArg (List.map V.int) (ZQ fun x _ _=>?_)
   rw [show (some ((un:Int),(wn:Int))).toList = [((un:Int),(wn:Int))] from rfl,ZfO n1 n2 n3]
  ·rintro σ H' ⟨v3,v4,rfl,sm,hm⟩
   refine ⟨_,rfl,k mA H' (s1.free hm1) (s1.trans sm) ?_⟩
   rw [pv.len,List.take_of_length_le (Nat.le_refl _)] at hm
   exact hm
theorem Zcv {N:Nat} (m:Int->Int) {x:Int} (h0:0<=x) (h1:x<(N:Int)):atI ((tab N m).map V.int) x=some (V.int (m x)):=by
 obtain ⟨n,rfl⟩:=Int.eq_ofNat_of_zero_le h0
 refine Zt ?_
 rw [List.getElem?_map,ZeN _ (by lia)]
 rfl
def Zg5:Sp:=fun vs H Q _=>∃(f:Int) (mA:Addr) (m:Int->Int) (N:Nat),vs = [.int f,.ref mA]/\H mA=some (.lst ((tab N m).map V.int))/\YN m N/\N<=200/\0<=f/\f<(N:Int) /\
 ∀(p:Addr) (H':Hp) (T:List Int),H p=none->Ze H H'->H' p=some (.lst (T.map V.int))->Yq m f T->Q (.ref p) H'
abbrev UO:Stmt:=top 31
theorem GQ:Zp ["first", "mates", "tour", "onward"] ["first", "mates"] (Zi UO):={}
theorem ZmL {f:Addr}{fd:FuncData} (F:Yd K "tour_from" "tour_from" UO f fd) (YZ:Yg P w K mg base 1 "born_with" ["thread"] ZlB):ZX P w K mg base J2 2 f fd ["first", "mates"] Zg5:=by
 refine F.ok GQ (fun vs H Q E h=>?_) (fun cdv A outer s H vs Q E hr h=>?_)
 ·obtain ⟨f,mA,m,N,rfl,_⟩:=h
  rfl
 ·obtain ⟨f,mA,m,N,rfl,hm,M,hN,h0,h1,k⟩:=h
  refine ⟨_,(Zd (Zq (i:=2) GQ.nd rfl (Or.inl rfl) (ZT (Za (pv 0) (Za (Zv (Zk (K:=K) rfl) (pv 1) (pv 0) (fun _ _=>rfl)) Zc))))
   (Zd (Zga PassesOwn.never (ZD ZjG (Zm YZ hr (Za (Zv (Zk (K:=K) rfl) (pv 2) (ZaC Gp Zf) (fun _ _=>rfl)) Zc)) (pv 0) (ZI _)) (Zd (Zq (i:=3) GQ.nd rfl (Or.inl rfl) (Zm YZ hr (Za (Zv (Zk (K:=K) rfl) (pv 2) (ZaC Gp Zf) (fun _ _=>rfl)) Zc)))
   (Zd (Ya (YU (K:=K) rfl (JJ PySem.F.plainAttrs_list PySem.F.slot_list_append PySem.F.type_list_append Z4 (pv 2) (Za (pv 3) Zc))))
   (Zh (Ya (YU (K:=K) rfl (JJ PySem.F.plainAttrs_list PySem.F.slot_list_append PySem.F.type_list_append Z4 (pv 2) (Za (Zv (Zk (K:=K) rfl) (pv 1) (pv 3) (fun _ _=>rfl)) Zc))))))))
   (Zh (Zs (pv 2))))),?_⟩
  have dom:=Z6 M h0 h1
  have mdom:∀i,0<=m (gt m f i)/\m (gt m f i)<N:=fun i=>⟨M.lo _ (dom i).1 (dom i).2,M.hi _ (dom i).1 (dom i).2⟩
  have ol:∀i,(Ux m f (i+1)).map V.int=((Ux m f i).map V.int ++ [V.int (gt m f i)]) ++ [V.int (m (gt m f i))]:=fun i=>by simp [Ux]
  refine ⟨_,rfl,_,rfl,_,rfl,mA,_,_,_,rfl,rfl,Zo.of hm,Zcv m h0 h1,(by show 2<=sizeLine;decide),fun tA htA=>?_⟩
  refine ⟨fun mm σ H'=>∃(i:Nat) (v3:Option V),mm+i=N /\ σ = [some (.int f),some (.ref mA),some (.ref tA),v3]/\Ze H H'/\H' tA=some (.lst ((Ux m f (i+1)).map V.int))/\(∀j,1<=j->j<i+1->gt m f j≠f),
   ⟨N,0,none,rfl,rfl,Ze.laid htA,Zb,fun j a b=>by lia⟩,?_⟩
  rintro mm σ H' ⟨i,v3,hi,rfl,sm,ht,nf⟩
  have short:=ZbS M h0 h1 nf
  refine ⟨_,rfl,1,rfl,tA,_,_,V.int (m (gt m f i)),rfl,rfl,Zo.of ht,(by rw [ol];exact Zc0 _ _),_,rfl,(mdom i).1,_,rfl,rfl,_,rfl,?_⟩
  refine Jy (fun hc=>?_) (fun hc=>?_)
  ·have ne:gt m f (i+1)≠f:=fun z=>by
    have hc:(!decide (V.int (bw (m (gt m f i)))=V.int f))=true:=hc
    rw [decide_eq_true (show V.int (bw (m (gt m f i)))=V.int f from congrArg V.int z)] at hc
    cases hc
   have nf':∀j,1<=j->j<i+2->gt m f j≠f:=fun j a b=>by
    by_cases e:j=i+1
    ·rw [e];exact ne
    ·exact nf j a (by lia)
   have short2:=ZbS M h0 h1 nf'
   refine ⟨fun σ' H''=>∃v3:Option V,σ' = [some (.int f),some (.ref mA),some (.ref tA),v3]/\Ze H H''/\H'' tA=some (.lst ((Ux m f (i+2)).map V.int)),fun σ' H'' ⟨v,e,a,b⟩=>⟨mm-1,by lia,i+1,v,by lia,e,a,b,nf'⟩,?_⟩
   refine ⟨_,rfl,1,rfl,tA,_,_,V.int (m (gt m f i)),rfl,rfl,Zo.of ht,(by rw [ol];exact Zc0 _ _),_,rfl,(mdom i).1,?_⟩
   refine ⟨_,rfl,.inl ⟨rfl,_,Zo.of ht⟩,_,rfl,tA,_,_,rfl,rfl,ht,(by rw [List.length_map,JW];exact ZA (by lia)),?_⟩
   have hma:tA≠mA:=fun z=>by rw [z,hm] at htA;cases htA
   refine ⟨_,rfl,.inl ⟨rfl,_,Zo.of Zb⟩,_,rfl,_,rfl,mA,_,_,_,rfl,rfl,Zo.of (by rw [Zj (Ne.symm hma)];exact sm mA _ hm),Zcv m (dom (i+1)).1 (dom (i+1)).2,tA,_,_,rfl,rfl,Zb,(by rw [List.length_append,List.length_map,JW];exact ZA (by show _+1<=1000;lia)),?_⟩
   refine ⟨_,rfl,(sm.put htA).put htA,?_⟩
   rw [Zb,ol (i+1)]
   rfl
  ·have e:gt m f (i+1)=f:=by
    by_cases z:gt m f (i+1)=f
    ·exact z
    ·exact absurd (show (!decide (V.int (gt m f (i+1))=V.int f))=true by rw [decide_eq_false (fun y=>z (V.int.inj y))];rfl) hc
   exact ⟨_,rfl,k tA H' (Ux m f (i+1)) htA sm ht ⟨i+1,by lia,e,nf,rfl⟩⟩
def Zan:Sp:=fun vs H Q _=>∃(l:Addr) (xs:List V) (ls:List (Str×Int)),vs = [.ref l]/\H l=some (.lst xs)/\Zu H xs ls/\ls.length<=60/\Wk ls 0 /\
 ∀(p:Addr) (H':Hp) (ys:List V) (ts:List (List Int)),H p=none->Ze H H'->H' p=some (.lst ys)->Yz H' ys ts->(∀t,V.ref t∈ys->H t=none)->GA (YW (Yb ls)) (Yp ls) ts->Q (.ref p) H'
theorem Zbm {N:Nat} (g:Int->V) {x:Int} (h0:0<=x) (h1:x<(N:Int)):atI (tab N g) x=some (g x):=by
 obtain ⟨n,rfl⟩:=Int.eq_ofNat_of_zero_le h0
 exact Zt (ZeN _ (by lia))
abbrev ZeE:Stmt:=top 32
theorem WO:Zp ["drawing", "mates", "gone", "found", "first", "tour", "thread"] ["drawing"] (Zi ZeE):={}
theorem ZkA {f:Addr}{fd:FuncData} (F:Yd K "tours" "tours" ZeE f fd) (UA:Yg P w K mg base 4 "end_mates" ["drawing"] ZeB) (UL:Yg P w K mg base 2 "tour_from" ["first", "mates"] Zg5) (ZJ:mg "len" = none) (ZF:mg "range" = none):ZX P w K mg base J2 5 f fd ["drawing"] Zan:=by
 refine F.ok WO (fun vs H Q E h=>?_) (fun cdv A outer s H vs Q E hr h=>?_)
 ·obtain ⟨l,xs,ls,rfl,_⟩:=h
  rfl
 ·obtain ⟨l,xs,ls,rfl,hl,hL,hlen,hW,k⟩:=h
  have n120:=JP hlen
  have M:=YS hW
  generalize hm':YW (Yb ls)=m at *
  generalize hn':Yp ls=N at *
  refine ⟨_,(Zd (Zq (i:=1) WO.nd rfl (Or.inl rfl) (Zm UA hr (Za (pv 0) Zc)))
   (Zd (Zq (i:=2) WO.nd rfl (Or.inl rfl) (Zn ZaN (ZT (Za Wi Zc)) (ZE (ZW (K:=K) rfl) (by rfl) ZJ PySem.boot_len (Za (pv 1) Zc))))
   (Zd (Zq (i:=3) WO.nd rfl (Or.inl rfl) (ZT Zc))
   (Zd (ZZ PassesOwn.never rfl (Yj (by rfl) ZF (Za (ZE (ZW (K:=K) rfl) (by rfl) ZJ PySem.boot_len (Za (pv 1) Zc)) Zc)) (Zl (i:=4) WO.nd rfl (Or.inl rfl)) (Zh (YO (Zc5 (ZbL (Zv (Zk (K:=K) rfl) (pv 2) (pv 4) (fun _ _=>rfl)))) (Zd (Zq (i:=5) WO.nd rfl (Or.inl rfl) (Zm UL hr (Za (pv 4) (Za (pv 1) Zc))))
   (Zd (ZZ PassesOwn.never rfl (ZC (K:=K) rfl (pv 5)) (Zl (i:=6) WO.nd rfl (Or.inl rfl)) (Zh (Yl Wi (YJ (pv 2) (pv 6) set_list))))
   (Zh (Ya (YU (K:=K) rfl (JJ PySem.F.plainAttrs_list PySem.F.slot_list_append PySem.F.type_list_append Z4 (pv 3) (Za (pv 5) Zc))))))) Yc)))
   (Zh (Zs (pv 3))))))),?_⟩
  refine ⟨_,rfl,l,xs,ls,rfl,hl,hL,hlen,hW,fun mA H1 fm s1 em=>?_⟩
  rw [hm',hn'] at em
  refine ⟨(by show 1<=sizeLine;decide),fun l0 hl0=>?_⟩
  refine ⟨_,rfl,mA,_,rfl,.inl (Zo.of ((Ze.laid hl0) mA _ em)),?_⟩
  have el:((((tab N m).map V.int).length:Nat):Int)=((N:Nat):Int):=by rw [List.length_map,Jx]
  rw [el]
  refine ⟨l0,_,_,rfl,rfl,Zb,by lia,by lia,(by show 1*_<=sizeLine;exact Nat.le_of_lt (ZA (by lia))),fun gA hgA=>?_⟩
  obtain ⟨H2,hH2⟩:∃H2,H2=upd (upd H1 l0 (.lst [.bl false])) gA (.lst (List.replicate ((N:Nat):Int).toNat [V.bl false]).flatten):=⟨_,rfl⟩
  rw [<- hH2]
  have s12:Ze H1 H2:=by rw [hH2];exact (Ze.laid hl0).step hgA
  have hg1:H1 gA=none:=(Ze.laid hl0).free hgA
  have hg2:H2 gA=some (.lst (tab N fun _=>V.bl false)):=by rw [hH2,Zb,Int.toNat_natCast,Ug]
  refine ⟨(by show 0<=sizeLine;decide),fun fA hfA=>?_⟩
  have hf1:H1 fA=none:=s12.free hfA
  have hgf:gA≠fA:=Zg hg2 hfA
  refine ⟨_,rfl,mA,_,rfl,.inl (Zo.of ((s12.step hfA) mA _ em)),_,rfl,?_⟩
  rw [el]
  refine ⟨by lia,by lia,YR (n:=((N:Nat):Int).toNat) (fun i σ H'=>∃(ys:List V) (ts:List (List Int)) (v4 v5 v6:Option V),σ = [some (.ref l),some (.ref mA),some (.ref gA),some (.ref fA),v4,v5,v6]/\Ze H1 H'/\H' gA=some (.lst (tab N fun x=>V.bl (decide (x∈ts.flatten))))/\H' fA=some (.lst ys)/\Yz H' ys ts/\GA m i ts/\(∀t,V.ref t∈ys->t≠gA/\t≠fA/\H1 t=none))
   ⟨[],[],none,none,none,rfl,s12.step hfA,?_,Zb,.nil,.nil,fun t ht=>by cases ht⟩ ?_ ?_⟩
  ·rw [Zj hgf,hg2]
   exact congrArg (fun z=>some (HO.lst z)) (ZQ fun x _ _=>by simp)
  ·rintro i σ H' hi ⟨ys,ts,v4,v5,v6,rfl,sm,hg,hf,rv,tr,ap⟩
   rw [Int.toNat_natCast] at hi
   have e0:(0:Int)+(i:Int)=(i:Int):=Int.zero_add _
   have good:=tr.good M (by lia)
   refine ⟨_,rfl,_,rfl,gA,_,_,_,rfl,rfl,Zo.of hg,Zbm _ (by lia) (by lia),_,rfl,?_⟩
   rw [e0]
   by_cases hin:(i:Int)∈ts.flatten
   ·rw [decide_eq_true hin]
    refine ZdX ?_
    exact ⟨ys,ts,_,v5,v6,rfl,sm,hg,hf,rv,tr.skip hin,ap⟩
   ·rw [decide_eq_false hin]
    refine Zar ?_
    refine ⟨_,rfl,_,rfl,_,mA,m,N,rfl,sm mA _ em,M,by lia,by lia,by lia,fun tA H3 T htA s3 eT isT=>?_⟩
    have tdom:=isT.dom M (by lia) (by lia)
    have tlen:=isT.len M (by lia) (by lia)
    have htg:tA≠gA:=(Zg hg htA).symm
    have htf:tA≠fA:=(Zg hf htA).symm
    refine ⟨_,rfl,tA,rfl,⟨_,Zo.of eT⟩,Ye (K:=K) (a:=tA) (xs:=T.map V.int) (fun j σ H''=>∃v6:Option V,σ = [some (.ref l),some (.ref mA),some (.ref gA),some (.ref fA),some (.int (i:Int)),some (.ref tA),v6]/\Jh gA H3 H''/\H'' gA=some (.lst (tab N fun x=>V.bl (decide (x∈ts.flatten∨x∈T.take j)))))
     ⟨_,rfl,Jh.refl _ _,?_⟩ (fun j σ H'' _ ⟨_,_,fr,_⟩=>Zo.of (fr tA _ eT htg)) ?_ ?_⟩
    ·rw [s3 gA _ hg]
     exact congrArg (fun z=>some (HO.lst z)) (ZQ fun x _ _=>by simp)
    ·rintro j x σ H'' hx ⟨v6,rfl,fr,hg''⟩
     obtain ⟨t,ht,rfl⟩:=YI hx
     obtain ⟨d0,d1⟩:=tdom t (List.mem_of_getElem? ht)
     obtain ⟨tn,rfl⟩:=Int.eq_ofNat_of_zero_le d0
     refine ⟨_,rfl,_,rfl,gA,_,_,tn,rfl,rfl,hg'',(by rw [Jx];exact JI (by lia)),?_⟩
     refine ⟨_,rfl,fr.trans Jh.upd,?_⟩
     rw [Zb,GY]
     refine congrArg (fun z=>some (HO.lst z)) (ZQ fun x _ _=>?_)
     rw [List.take_add_one,ht]
     by_cases e:x=(tn:Int)
     ·rw [if_pos e]
      congr 1
      exact (decide_eq_true (.inr (by rw [e];simp))).symm
     ·rw [if_neg e]
      congr 1
      exact decide_eq_decide.mpr (by simp [e])
    ·rintro σ H'' ⟨v6,rfl,fr,hg''⟩
     have hf'':=fr fA _ (s3 fA _ hf) (Ne.symm hgf)
     refine ⟨_,rfl,.inl ⟨rfl,_,Zo.of hf''⟩,_,rfl,fA,_,_,rfl,rfl,hf'',(by rw [rv.len];have:=tr.len M (by lia);exact ZA (by lia)),?_⟩
     have keep:∀c o,H' c=some o->c≠gA->c≠fA->(upd H'' fA (.lst (ys ++ [.ref tA]))) c=some o:=fun c o e n1 n2=>by
      rw [Zj n2]
      exact fr c o (s3 c o e) n1
     refine ⟨ys ++ [.ref tA],ts ++ [T],_,_,_,rfl,fun c o e=>keep c o (sm c o e) (Zg e hg1) (Zg e hf1),?_,Zb,?_,tr.add hin isT,fun t ht=>?_⟩
     ·rw [Zj hgf,hg'',List.length_map,List.take_of_length_le (Nat.le_refl _)]
      refine congrArg (fun z=>some (HO.lst z)) (ZQ fun x _ _=>?_)
      congr 1
      exact decide_eq_decide.mpr (by rw [List.flatten_append];simp)
     ·refine Yz.snoc (rv.mono fun t o ht e=>keep t o e (ap t ht).1 (ap t ht).2.1) ?_
      rw [Zj htf]
      exact fr tA _ eT htg
     ·rcases List.mem_append.mp ht with z | z
      ·exact ap t z
      ·have:t=tA:=V.ref.inj (List.mem_singleton.mp z)
       subst this
       exact ⟨htg,htf,sm.free htA⟩
  ·rintro σ H' ⟨ys,ts,v4,v5,v6,rfl,sm,hg,hf,rv,tr,ap⟩
   rw [Int.toNat_natCast] at tr
   exact ⟨_,rfl,k fA H' ys ts (s1.free hf1) (s1.trans sm) hf rv (fun t ht=>s1.free (ap t ht).2.2) tr⟩
theorem Ze6 {α β:Type} (f:α -> β):∀xs:List α,JU (xs.map f)=(JU xs).map f
 | []=>rfl
 | [x]=>rfl
 | x::y::r=>by simp [JU,Ze6 f r]
theorem Zia {α:Type}{x:α}:∀{xs:List α},x∈JU xs->x∈xs
 | [],h=>h
 | [y],h=>h
 | y::z::r,h=>by
  simp only [JU,List.mem_cons] at h ⊢
  rcases h with h | h
  ·exact .inl h
  ·exact .inr (.inr (Zia h))
def Gu (ts:List (List Int)):List Int:=(ts.map JU).flatten
def ZbQ:Sp:=fun vs H Q _=>∃(l:Addr) (xs:List V) (ls:List (Str×Int)),vs = [.ref l]/\H l=some (.lst xs)/\Zu H xs ls/\ls.length<=60/\Wk ls 0 /\
 ∀(p:Addr) (H':Hp) (ts:List (List Int)),H p=none->Ze H H'->GA (YW (Yb ls)) (Yp ls) ts->H' p=some (.lst (tab (Yp ls) fun x=>V.bl (decide (x∈Gu ts))))->Q (.ref p) H'
abbrev ZaD:Stmt:=top 34
theorem W6:Zp ["drawing", "rightward", "tour", "thread"] ["drawing"] (Zi ZaD):={}
theorem ZfC {f:Addr}{fd:FuncData} (F:Yd K "to_right" "to_right" ZaD f fd) (ZV:Yg P w K mg base 2 "ends_of" ["drawing"] (WH fun x=>decide (x = "end"))) (Jn:Yg P w K mg base 5 "tours" ["drawing"] Zan) (ZJ:mg "len" = none):ZX P w K mg base J2 6 f fd ["drawing"] ZbQ:=by
 refine F.ok W6 (fun vs H Q E h=>?_) (fun cdv A outer s H vs Q E hr h=>?_)
 ·obtain ⟨l,xs,ls,rfl,_⟩:=h
  rfl
 ·obtain ⟨l,xs,ls,rfl,hl,hL,hlen,hW,k⟩:=h
  have n120:=JP hlen
  have M:=YS hW
  have nt:2*(Z0 ls isE ls.length).length=Yp ls:=by unfold Yp Yb Gv;rw [List.length_map]
  generalize hn':Yp ls=N at *
  refine ⟨_,(Zd (Zq (i:=1) W6.nd rfl (Or.inl rfl) (Zn ZaN (ZT (Za Wi Zc)) (Zn Wd Zf (ZE (ZW (K:=K) rfl) (by rfl) ZJ PySem.boot_len (Za (Zm ZV hr (Za (pv 0) Zc)) Zc)))))
   (Zd (ZZ PassesOwn.never rfl (ZC (K:=K) rfl (Zm Jn hr (Za (pv 0) Zc))) (Zl (i:=2) W6.nd rfl (Or.inl rfl)) (Zh (ZZ PassesOwn.never rfl (ZC (K:=K) rfl (ZgR (K:=K) rfl (pv 2))) (Zl (i:=3) W6.nd rfl (Or.inl rfl)) (Zh (Yl Wi (YJ (pv 1) (pv 3) set_list))))))
   (Zh (Zs (pv 1))))),?_⟩
  refine ⟨(by show 1<=sizeLine;decide),fun l0 hl0=>?_⟩
  have s0:Ze H (upd H l0 (.lst [.bl false])):=Ze.laid hl0
  refine ⟨_,rfl,l,xs,ls,rfl,s0 l _ hl,hL.same s0,hlen,hW.kd,fun eA H1 fe s1 ee=>?_⟩
  refine ⟨eA,_,rfl,.inl (Zo.of ee),_,_,rfl,rfl,.inl ⟨by decide,by decide⟩,?_⟩
  have el:((2:Int)*((((Z0 ls (fun x=>decide (x = "end")) ls.length).map V.int).length:Nat):Int))=((N:Nat):Int):=by
   rw [List.length_map]
   have:(Z0 ls (fun x=>decide (x = "end")) ls.length).length=(Z0 ls isE ls.length).length:=rfl
   lia
  show ZkV (V.ref l0) (V.int ((2:Int)*((((Z0 ls (fun x=>decide (x = "end")) ls.length).map V.int).length:Nat):Int))) H1 _
  rw [el]
  refine ⟨l0,_,_,rfl,rfl,s1 l0 _ Zb,by lia,by lia,(by show 1*_<=sizeLine;exact Nat.le_of_lt (ZA (by lia))),fun rA hrA=>?_⟩
  obtain ⟨H2,hH2⟩:∃H2,H2=upd H1 rA (.lst (List.replicate ((N:Nat):Int).toNat [V.bl false]).flatten):=⟨_,rfl⟩
  rw [<- hH2]
  have s02:Ze H H2:=by rw [hH2];exact (s0.trans s1).step hrA
  have hrH:H rA=none:=(s0.trans s1).free hrA
  have hr2:H2 rA=some (.lst (tab N fun _=>V.bl false)):=by rw [hH2,Zb,Int.toNat_natCast,Ug]
  refine ⟨_,rfl,l,xs,ls,rfl,s02 l _ hl,hL.same s02,hlen,hW,fun tsA H3 ys ts ft s3 et rv ap tr=>?_⟩
  rw [hn'] at tr
  have good:=tr.good M (Int.le_refl _)
  have htr:tsA≠rA:=(Zg hr2 ft).symm
  refine ⟨tsA,rfl,⟨_,Zo.of et⟩,Ye (K:=K) (a:=tsA) (xs:=ys) (fun i σ H'=>∃(v2 v3:Option V),σ = [some (.ref l),some (.ref rA),v2,v3]/\Jh rA H3 H'/\H' rA=some (.lst (tab N fun x=>V.bl (decide (x∈Gu (ts.take i))))))
   ⟨none,none,rfl,Jh.refl _ _,?_⟩ (fun i σ H' _ ⟨_,_,_,fr,_⟩=>Zo.of (fr tsA _ et htr)) ?_ ?_⟩
  ·rw [s3 rA _ hr2]
   exact congrArg (fun z=>some (HO.lst z)) (ZQ fun x _ _=>by simp [Gu])
  ·rintro i x σ H' hx ⟨v2,v3,rfl,fr,hr'⟩
   obtain ⟨q,T,hT,rfl,hq⟩:=rv.atX hx
   have hqr:q≠rA:=(Zg hr2 (ap q (List.mem_of_getElem? hx))).symm
   have hq':=fr q _ hq hqr
   have tdom:∀x∈T,0<=x/\x<(N:Int):=fun x hx=>good.2.1 x (List.mem_flatten.mpr ⟨T,List.mem_of_getElem? hT,hx⟩)
   refine ⟨_,rfl,q,_,rfl,Zo.of hq',fun vA hvA=>?_⟩
   have hvr:vA≠rA:=(Zg hr' hvA).symm
   rw [Ze6]
   refine ⟨vA,rfl,⟨_,Zo.of Zb⟩,Ye (K:=K) (a:=vA) (xs:=(JU T).map V.int) (fun j σ H''=>∃v3:Option V,σ = [some (.ref l),some (.ref rA),some (.ref q),v3]/\Jh rA H3 H''/\H'' vA=some (.lst ((JU T).map V.int))/\H'' rA=some (.lst (tab N fun x=>V.bl (decide (x∈Gu (ts.take i)∨x∈(JU T).take j)))))
    ⟨_,rfl,fr.new hvA,Zb,?_⟩ (fun j σ H'' _ ⟨_,_,_,h,_⟩=>Zo.of h) ?_ ?_⟩
   ·rw [Zj (Ne.symm hvr),hr']
    exact congrArg (fun z=>some (HO.lst z)) (ZQ fun x _ _=>by simp)
   ·rintro j x σ H'' hx ⟨v3,rfl,fr',hv'',hr''⟩
    obtain ⟨t,ht,rfl⟩:=YI hx
    obtain ⟨d0,d1⟩:=tdom t (Zia (List.mem_of_getElem? ht))
    obtain ⟨tn,rfl⟩:=Int.eq_ofNat_of_zero_le d0
    refine ⟨_,rfl,_,rfl,rA,_,_,tn,rfl,rfl,hr'',(by rw [Jx];exact JI (by lia)),?_⟩
    refine ⟨_,rfl,fr'.trans Jh.upd,(by rw [Zj hvr];exact hv''),?_⟩
    rw [Zb,GY]
    refine congrArg (fun z=>some (HO.lst z)) (ZQ fun x _ _=>?_)
    rw [List.take_add_one,ht]
    by_cases e:x=(tn:Int)
    ·rw [if_pos e]
     congr 1
     exact (decide_eq_true (.inr (by rw [e];simp))).symm
    ·rw [if_neg e]
     congr 1
     exact decide_eq_decide.mpr (by simp [e])
   ·rintro σ H'' ⟨v3,rfl,fr',hv'',hr''⟩
    refine ⟨_,_,rfl,fr',?_⟩
    rw [hr'',List.length_map,List.take_of_length_le (Nat.le_refl _)]
    refine congrArg (fun z=>some (HO.lst z)) (ZQ fun x _ _=>?_)
    congr 1
    refine decide_eq_decide.mpr ?_
    rw [List.take_add_one,hT]
    simp [Gu]
  ·rintro σ H' ⟨v2,v3,rfl,fr,hr'⟩
   refine ⟨_,rfl,k rA H' ts hrH (fun c o e=>fr c o (s3 c o (s02 c o e)) (Zg e hrH)) tr ?_⟩
   rw [rv.len,List.take_of_length_le (Nat.le_refl _)] at hr'
   exact hr'
theorem ZmU {ls:List (Str×Int)} (hW:Wk ls 0):∀d i,i+d<=ls.length->(rb (ls.take i)).2<=(rb (ls.take (i+d))).2
 | 0,i,_=>Int.le_refl _
 | d+1,i,h=>by
  refine Int.le_trans (ZmU hW d i (by lia)) ?_
  have hq:ls[i+d]? = some ls[i+d]:=by simp [show i+d<ls.length by lia]
  obtain ⟨tk,c⟩:=ZfU hW hq
  show _<=(rb (ls.take (i+d+1))).2
  rw [tk,ZR]
  generalize hp:ls[i+d]=p at c
  obtain ⟨px,pk⟩:=p
  rcases c with ⟨e,_⟩ | ⟨e,_⟩ | ⟨e,_⟩
  ·have e:px = "born" := e
   subst e
   rw [Y1]
   show _<=(rb (ls.take (i+d))).2+2
   lia
  ·have e:px = "cross" := e
   subst e
   rw [YD]
   exact Int.le_refl _
  ·have e:px = "end" := e
   subst e
   rw [JG]
   exact Int.le_refl _
theorem Zh1 {ls:List (Str×Int)} (hW:Wk ls 0) {t:Nat} (ht:t<=ls.length) {x:Int} (hx:x∈rowAt ls t):0<=x/\x<(Yp ls:Int):=by
 obtain ⟨h0,h1,h2⟩:=Zbk hW t ht
 have a:=J9.mp (h2.mem_iff.mp (List.mem_append_left _ hx))
 obtain ⟨g0,g1,g2⟩:=Zbk hW ls.length (Nat.le_refl _)
 have e:rowAt ls ls.length = []:=by
  unfold rowAt
  rw [List.take_of_length_le (Nat.le_refl _)]
  have:=GN hW
  exact List.length_eq_zero_iff.mp (by lia)
 rw [e,List.nil_append] at g2
 have hl:=g2.length_eq
 rw [Za0,ZbR] at hl
 have le:=ZmU hW (ls.length-t) t (by lia)
 rw [show t+(ls.length-t)=ls.length by lia] at le
 have hn:Yp ls=(rb (ls.take ls.length)).2.toNat:=hl
 rw [hn]
 lia
theorem Zfq {ls:List (Str×Int)} (hW:Wk ls 0) {t:Nat}{q:Str×Int} (hq:ls[t]? = some q) (hb:q.1 ≠ "born"):(0<=(Jj ls t).1/\(Jj ls t).1<(Yp ls:Int))/\(0<=(Jj ls t).2/\(Jj ls t).2<(Yp ls:Int)):=by
 obtain ⟨k0,k1,pe⟩:=ZiA hW hq hb
 have ht:t<ls.length:=(List.getElem?_eq_some_iff.mp hq).1
 rw [pe]
 refine ⟨Zh1 hW (Nat.le_of_lt ht) ?_,Zh1 hW (Nat.le_of_lt ht) ?_⟩
 ·show (rowAt ls t).getD q.2.toNat 0∈_
  rw [show (rowAt ls t).getD q.2.toNat 0=(rowAt ls t)[q.2.toNat]'(by lia) by simp [show q.2.toNat<(rowAt ls t).length by lia]]
  exact List.getElem_mem _
 ·show (rowAt ls t).getD (q.2.toNat+1) 0∈_
  rw [show (rowAt ls t).getD (q.2.toNat+1) 0=(rowAt ls t)[q.2.toNat+1]'k1 by simp [k1]]
  exact List.getElem_mem _
def ZbE (R:List Int) (p:Int×Int):Int:=if decide (p.1∈R)=decide (p.2∈R) then 1 else -1
def ZdW (ls:List (Str×Int)) (i:Nat):List (Int×Int):=(Z0 ls isC i).map fun t=>Jj ls t.toNat
def twI (ls:List (Str×Int)) (R:List Int) (i:Nat):Int:=((ZdW ls i).map (ZbE R)).sum-((Gv ls i).length:Int)
def ZcS:Sp:=fun vs H Q _=>∃(l:Addr) (xs:List V) (ls:List (Str×Int)),vs = [.ref l]/\H l=some (.lst xs)/\Zu H xs ls/\ls.length<=60/\Wk ls 0 /\
 ∀(H':Hp) (ts:List (List Int)),Ze H H'->GA (YW (Yb ls)) (Yp ls) ts->Q (.int (twI ls (Gu ts) ls.length)) H'
abbrev Zc8:Stmt:=top 38
theorem Wx:Zp ["drawing", "rightward", "total", "upper", "lower"] ["drawing"] (Zi Zc8):={}
theorem ZiY {f:Addr}{fd:FuncData} (F:Yd K "twists" "twists" Zc8 f fd) (ZV:Yg P w K mg base 2 "ends_of" ["drawing"] (WH fun x=>decide (x = "end"))) (WN:Yg P w K mg base 2 "crossings_of" ["drawing"] (WH fun x=>decide (x = "cross"))) (ZaH:Yg P w K mg base 6 "to_right" ["drawing"] ZbQ) (Z9:Yg P w K mg base 2 "pairs_ahead" ["drawing", "numbers"] Zbb) (ZJ:mg "len" = none):ZX P w K mg base J2 7 f fd ["drawing"] ZcS:=by
 refine F.ok Wx (fun vs H Q E h=>?_) (fun cdv A outer s H vs Q E hr h=>?_)
 ·obtain ⟨l,xs,ls,rfl,_⟩:=h
  rfl
 ·obtain ⟨l,xs,ls,rfl,hl,hL,hlen,hW,k⟩:=h
  refine ⟨_,(Zd (Zq (i:=1) Wx.nd rfl (Or.inl rfl) (Zm ZaH hr (Za (pv 0) Zc)))
   (Zd (Zq (i:=2) Wx.nd rfl (Or.inl rfl) (ZaC Gp (ZE (ZW (K:=K) rfl) (by rfl) ZJ PySem.boot_len (Za (Zm ZV hr (Za (pv 0) Zc)) Zc))))
   (Zd (ZZ PassesOwn.never rfl (ZC (K:=K) rfl (Zm Z9 hr (Za (pv 0) (Za (Zm WN hr (Za (pv 0) Zc)) Zc)))) (Yr (K:=K) (n:=2) rfl rfl (Zw (Zl (i:=3) Wx.nd rfl (Or.inl rfl)) (Zw (Zl (i:=4) Wx.nd rfl (Or.inl rfl)) Yw))) (Zh (ZhJ (i:=2) Wx.nd rfl (Or.inl rfl) (Zbs (ZD J1 (Zv (Zk (K:=K) rfl) (pv 1) (pv 3) (fun _ _=>rfl)) (Zv (Zk (K:=K) rfl) (pv 1) (pv 4) (fun _ _=>rfl)) (ZI _)) Zf (ZaC Gp Zf)) Zlv)))
   (Zh (Zs (pv 2)))))),?_⟩
  refine ⟨_,rfl,l,xs,ls,rfl,hl,hL,hlen,hW,fun rA H1 ts fr s1 tr er=>?_⟩
  refine ⟨_,rfl,l,xs,ls,rfl,s1 l _ hl,hL.same s1,hlen,hW.kd,fun eA H2 fe s2 ee=>?_⟩
  have s12:=s1.trans s2
  refine ⟨eA,_,rfl,.inl (Zo.of ee),_,rfl,?_⟩
  refine ⟨_,rfl,_,rfl,l,xs,ls,rfl,s12 l _ hl,hL.same s12,hlen,hW.kd,fun cA H3 fc s3 ec=>?_⟩
  have s13:=s12.trans s3
  refine ⟨l,cA,xs,ls,Z0 ls isC ls.length,rfl,s13 l _ hl,hL.same s13,hlen,hW,ec,Nat.le_trans (JH _ _ _) hlen,fun t ht=>?_,fun pA H4 ys fp s4 ep pv=>?_⟩
  ·obtain ⟨a,_,q,hq,z⟩:=Zbe ht
   refine ⟨a,q,hq,fun z2=>?_⟩
   have z:q.1 = "cross" := of_decide_eq_true z
   rw [z2] at z
   exact nb1 z.symm
  have er4:=s4 rA _ (s3 rA _ (s2 rA _ er))
  refine ⟨pA,rfl,⟨_,Zo.of ep⟩,Ye (K:=K) (a:=pA) (xs:=ys) (fun i σ H'=>∃(v3 v4:Option V),σ = [some (.ref l),some (.ref rA),some (.int ((((ZdW ls ls.length).take i).map (ZbE (Gu ts))).sum-((Yb ls).length:Int))),v3,v4]/\H'=H4)
   ⟨none,none,?_,rfl⟩ (fun i σ H' _ ⟨_,_,_,e⟩=>by rw [e];exact Zo.of ep) ?_ ?_⟩
  ·have e : -((((Z0 ls (fun x=>decide (x = "end")) ls.length).map V.int).length:Nat):Int)=(((ZdW ls ls.length).take 0).map (ZbE (Gu ts))).sum-((Yb ls).length:Int):=by
    unfold Yb Gv
    rw [List.length_map,List.length_map]
    simp
    rfl
   rw [<- e]
   rfl
  ·rintro i x σ H' hx ⟨v3,v4,rfl,rfl⟩
   obtain ⟨p,t,hp,rfl,ht⟩:=pv.get hx
   obtain ⟨u,lw⟩:=p
   have dm:(0<=u/\u<(Yp ls:Int))/\(0<=lw/\lw<(Yp ls:Int)):=by
    obtain ⟨y,hy,e⟩:=List.mem_map.mp (List.mem_of_getElem? hp)
    obtain ⟨a,_,q,hq,z⟩:=Zbe hy
    have:=Zfq hW hq (fun z2=>by
     have z:q.1 = "cross" := of_decide_eq_true z
     rw [z2] at z
     exact nb1 z.symm)
    rw [e] at this
    exact this
   refine ⟨t,_,rfl,Uw.of ht,rfl,_,_,rfl,_,_,rfl,rfl,?_⟩
   have tk:(((ZdW ls ls.length).take (i+1)).map (ZbE (Gu ts))).sum=(((ZdW ls ls.length).take i).map (ZbE (Gu ts))).sum+ZbE (Gu ts) (u,lw):=by
    rw [YT (ns:=ZdW ls ls.length) _ hp,List.sum_append]
    simp
   refine ⟨_,rfl,_,rfl,_,rfl,rA,_,_,_,rfl,rfl,Zo.of er4,Zbm _ dm.1.1 dm.1.2,_,rfl,_,rfl,rA,_,_,_,rfl,rfl,Zo.of er4,Zbm _ dm.2.1 dm.2.2,rfl,_,rfl,?_⟩
   refine Jy (fun hc=>?_) (fun hc=>?_)
   ·have e:decide (u∈Gu ts)=decide (lw∈Gu ts):=V.bl.inj (of_decide_eq_true hc)
    refine ⟨_,_,rfl,rfl,some (.int u),some (.int lw),?_,rfl⟩
    rw [tk,show ZbE (Gu ts) (u,lw)=1 from if_pos e]
    rw [show ∀a b:Int,a+1-b=a-b+1 from fun a b=>by lia]
    rfl
   ·have e:¬decide (u∈Gu ts)=decide (lw∈Gu ts):=fun z=>hc (decide_eq_true (congrArg V.bl z))
    refine ⟨1,rfl,_,_,rfl,rfl,some (.int u),some (.int lw),?_,rfl⟩
    rw [tk,show ZbE (Gu ts) (u,lw) = -1 from if_neg e]
    rw [show ∀a b:Int,a + -1-b=a-b + -1 from fun a b=>by lia]
    rfl
  ·rintro σ H' ⟨v3,v4,rfl,rfl⟩
   refine ⟨_,rfl,?_⟩
   have:=k H' ts (s13.trans s4) tr
   rw [pv.len]
   rw [show ((Z0 ls isC ls.length).map fun t=>Jj ls t.toNat).length=(ZdW ls ls.length).length from rfl,List.take_of_length_le (Nat.le_refl _)]
   exact this
def ZY (ps:List (Int×Int)) (x:Int):Int:=if x∈ps.map (·.1) then 1 else -1
inductive DV (H:Hp):List (Key×V)->List (Int×Int)->Prop
 | nil:DV H [] []
 | snoc {kvs:List (Key×V)}{ps:List (Int×Int)}{u l:Int}{a b:Addr}:DV H kvs ps->H a=some (.tup [.int l,.int 1])->H b=some (.tup [.int u,.int (-1)])->DV H (kvs ++ [(Sum.inl u,.ref a),(Sum.inl l,.ref b)]) (ps ++ [(u,l)])
theorem few {ls:List (Str×Int)} (hW:Wk ls 0):∀i,i<=ls.length->(rb (ls.take i)).2+2*((Gv ls i).length:Int)<=2*(i:Int)
 | 0,_=>by simp [Gv,Z0,rb]
 | i+1,hi=>by
  have ih:=few hW i (by lia)
  have hq:ls[i]? = some ls[i]:=by simp [show i<ls.length by lia]
  obtain ⟨tk,c⟩:=ZfU hW hq
  rw [Zei,tk,ZR]
  have kk:∀pr:Str->Bool,isK ls pr i=pr ls[i].1:=fun pr=>by
   unfold isK
   rw [hq]
   cases h:pr ls[i].1<;>simp [h]
  rw [kk]
  generalize ls[i]=p at c
  obtain ⟨px,pk⟩:=p
  rcases c with ⟨e,_⟩ | ⟨e,_⟩ | ⟨e,_⟩
  ·have e:px = "born" := e
   subst e
   have hf:isE "born" = false:=by unfold isE;decide +kernel
   rw [Y1,hf]
   simp only [Bool.false_eq_true,if_false,List.append_nil]
   lia
  ·have e:px = "cross" := e
   subst e
   have hf:isE "cross" = false:=by unfold isE;decide +kernel
   rw [YD,hf]
   simp only [Bool.false_eq_true,if_false,List.append_nil]
   lia
  ·have e:px = "end" := e
   subst e
   have hf:isE "end" = true:=by unfold isE;simp
   rw [JG,hf]
   simp only [if_true,List.length_append,List.length_singleton]
   lia
theorem ZlM {ls:List (Str×Int)} (hW:Wk ls 0):Yp ls<=ls.length:=by
 have h:=few hW ls.length (Nat.le_refl _)
 obtain ⟨g0,g1,g2⟩:=Zbk hW ls.length (Nat.le_refl _)
 have e:rowAt ls ls.length = []:=by
  unfold rowAt
  rw [List.take_of_length_le (Nat.le_refl _)]
  have:=GN hW
  exact List.length_eq_zero_iff.mp (by lia)
 rw [e,List.nil_append] at g2
 have hl:=g2.length_eq
 rw [Za0,ZbR] at hl
 show 2*(Gv ls ls.length).length<=_
 lia
def ev2 (y:Int):Int:=if y % 2=0 then 1 else -1
def fl (dn:Int->Int):List Int->Int
 | x::y::r=>dn x+ev2 y+fl dn r
 | _=>0
theorem Ze8 (dn:Int->Int) (x y:Int):∀(n:Nat) (A:List Int),A.length=2*n->fl dn (A ++ [x,y])=fl dn A+dn x+ev2 y
 | 0,A,h=>by
  have:A = []:=List.length_eq_zero_iff.mp (by lia)
  subst this
  simp [fl]
 | n+1,[],h=>by simp at h
 | n+1,[a],h=>by simp at h;lia
 | n+1,a::b::r,h=>by
  have ih:=Ze8 dn x y n r (by simp at h;lia)
  simp only [List.cons_append,fl,ih]
  lia
theorem Zoe (dn m:Int->Int) (f:Int) (i:Nat):fl dn (Ux m f (i+1))=fl dn (Ux m f i)+dn (gt m f i)+ev2 (m (gt m f i)):=Ze8 dn _ _ i _ (JW m f i)
def Zpk (i:Int):Int:=if i<0 then -i else i
def ZaZ:Sp:=fun vs H Q _=>∃(l:Addr) (xs:List V) (ls:List (Str×Int)),vs = [.ref l]/\H l=some (.lst xs)/\Zu H xs ls/\ls.length<=60/\Wk ls 0 /\
 ∀(p:Addr) (H':Hp),H p=none->Ze H H'->H' p=some (.lst (tab (Yp ls) fun x=>V.bl (decide (x∈(Yb ls).map (·.1)))))->Q (.ref p) H'
abbrev JO:Stmt:=top 35
theorem YX:Zp ["drawing", "uppers", "upper", "lower"] ["drawing"] (Zi JO):={}
theorem ZiW {f:Addr}{fd:FuncData} (F:Yd K "uppers_at_ends" "uppers_at_ends" JO f fd) (ZV:Yg P w K mg base 2 "ends_of" ["drawing"] (WH fun x=>decide (x = "end"))) (Jt:Yg P w K mg base 3 "end_pairs" ["drawing"] Zfb) (ZJ:mg "len" = none):ZX P w K mg base J2 4 f fd ["drawing"] ZaZ:=by
 refine F.ok YX (fun vs H Q E h=>?_) (fun cdv A outer s H vs Q E hr h=>?_)
 ·obtain ⟨l,xs,ls,rfl,_⟩:=h
  rfl
 ·obtain ⟨l,xs,ls,rfl,hl,hL,hlen,hW,k⟩:=h
  have n120:=JP hlen
  have nt:2*(Z0 ls isE ls.length).length=Yp ls:=by unfold Yp Yb Gv;rw [List.length_map]
  refine ⟨_,(Zd (Zq (i:=1) YX.nd rfl (Or.inl rfl) (Zn ZaN (ZT (Za Wi Zc)) (Zn Wd Zf (ZE (ZW (K:=K) rfl) (by rfl) ZJ PySem.boot_len (Za (Zm ZV hr (Za (pv 0) Zc)) Zc)))))
   (Zd (ZZ PassesOwn.never rfl (ZC (K:=K) rfl (Zm Jt hr (Za (pv 0) Zc))) (Yr (K:=K) (n:=2) rfl rfl (Zw (Zl (i:=2) YX.nd rfl (Or.inl rfl)) (Zw (Zl (i:=3) YX.nd rfl (Or.inl rfl)) Yw))) (Zh (Yl Wi (YJ (pv 1) (pv 2) set_list))))
   (Zh (Zs (pv 1))))),?_⟩
  refine ⟨(by show 1<=sizeLine;decide),fun l0 hl0=>?_⟩
  have s0:Ze H (upd H l0 (.lst [.bl false])):=Ze.laid hl0
  refine ⟨_,rfl,l,xs,ls,rfl,s0 l _ hl,hL.same s0,hlen,hW.kd,fun eA H1 fe s1 ee=>?_⟩
  refine ⟨eA,_,rfl,.inl (Zo.of ee),_,_,rfl,rfl,.inl ⟨by decide,by decide⟩,?_⟩
  have el:((2:Int)*((((Z0 ls (fun x=>decide (x = "end")) ls.length).map V.int).length:Nat):Int))=((Yp ls:Nat):Int):=by
   rw [List.length_map]
   have:(Z0 ls (fun x=>decide (x = "end")) ls.length).length=(Z0 ls isE ls.length).length:=rfl
   lia
  show ZkV (V.ref l0) (V.int ((2:Int)*((((Z0 ls (fun x=>decide (x = "end")) ls.length).map V.int).length:Nat):Int))) H1 _
  rw [el]
  refine ⟨l0,_,_,rfl,rfl,s1 l0 _ Zb,by lia,by lia,(by show 1*_<=sizeLine;exact Nat.le_of_lt (ZA (by lia))),fun rA hrA=>?_⟩
  obtain ⟨H2,hH2⟩:∃H2,H2=upd H1 rA (.lst (List.replicate ((Yp ls:Nat):Int).toNat [V.bl false]).flatten):=⟨_,rfl⟩
  rw [<- hH2]
  have s02:Ze H H2:=by rw [hH2];exact (s0.trans s1).step hrA
  have hrH:H rA=none:=(s0.trans s1).free hrA
  have hr2:H2 rA=some (.lst (tab (Yp ls) fun _=>V.bl false)):=by rw [hH2,Zb,Int.toNat_natCast,Ug]
  refine ⟨_,rfl,l,xs,ls,rfl,s02 l _ hl,hL.same s02,hlen,hW,fun pA H3 ys fp s3 ep pv=>?_⟩
  have hpr:pA≠rA:=(Zg hr2 fp).symm
  refine ⟨pA,rfl,⟨_,Zo.of ep⟩,Ye (K:=K) (a:=pA) (xs:=ys) (fun i σ H'=>∃(v2 v3:Option V),σ = [some (.ref l),some (.ref rA),v2,v3]/\Jh rA H3 H'/\H' rA=some (.lst (tab (Yp ls) fun x=>V.bl (decide (x∈((Yb ls).take i).map (·.1))))))
   ⟨none,none,rfl,Jh.refl _ _,?_⟩ (fun i σ H' _ ⟨_,_,_,fr,_⟩=>Zo.of (fr pA _ ep hpr)) ?_ ?_⟩
  ·rw [s3 rA _ hr2]
   exact congrArg (fun z=>some (HO.lst z)) (ZQ fun x _ _=>by simp)
  ·rintro i x σ H' hx ⟨v2,v3,rfl,fr,hr'⟩
   obtain ⟨p,t,hp,rfl,ht⟩:=pv.get hx
   obtain ⟨u,lw⟩:=p
   obtain ⟨⟨d1,d2⟩,d3,d4⟩:=ZcC hW (List.mem_of_getElem? hp)
   obtain ⟨un,rfl⟩:=Int.eq_ofNat_of_zero_le (show 0<=u from d1)
   have d2:(un:Int)<_:=d2
   have htr:t≠rA:=Zgq ht (s3 rA _ hr2) (by intro z;cases z)
   refine ⟨t,_,rfl,Uw.of (fr t _ ht htr),rfl,_,_,rfl,_,_,rfl,rfl,?_⟩
   refine ⟨_,rfl,_,rfl,rA,_,_,un,rfl,rfl,hr',(by rw [Jx];exact JI (by lia)),?_⟩
   refine ⟨_,_,rfl,fr.trans Jh.upd,?_⟩
   rw [Zb,GY,YT (ns:=Yb ls) _ hp]
   refine congrArg (fun z=>some (HO.lst z)) (ZQ fun x _ _=>?_)
   by_cases e:x=(un:Int)
   ·rw [if_pos e]
    congr 1
    exact (decide_eq_true (by rw [e];simp)).symm
   ·rw [if_neg e]
    congr 1
    exact decide_eq_decide.mpr (by simp [e])
  ·rintro σ H' ⟨v2,v3,rfl,fr,hr'⟩
   refine ⟨_,rfl,k rA H' hrH (fun c o e=>fr c o (s3 c o (s02 c o e)) (Zg e hrH)) ?_⟩
   rw [pv.len,List.take_of_length_le (Nat.le_refl _)] at hr'
   exact hr'
def stA (dn:Int->Int) (T:List Int) (i:Nat):Int:=if i % 2=0 then dn (T.getD i 0) else ev2 (T.getD i 0)
theorem ZhA (dn:Int->Int) (T:List Int):∀n,2*n<=T.length->((List.range (2*n)).map (stA dn T)).sum=fl dn (T.take (2*n))
 | 0,_=>by simp [fl]
 | n+1,h=>by
  have ih:=ZhA dn T n (by lia)
  have e:2*(n+1)=2*n+1+1:=by lia
  have h1:T[2*n]? = some (T.getD (2*n) 0):=by simp [show 2*n<T.length by lia]
  have h2:T[2*n+1]? = some (T.getD (2*n+1) 0):=by simp [show 2*n+1<T.length by lia]
  rw [e,List.range_succ,List.range_succ,List.take_add_one,List.take_add_one,h1,h2]
  have e2:T.take (2*n)++(some (T.getD (2*n) 0)).toList++(some (T.getD (2*n+1) 0)).toList=T.take (2*n) ++ [T.getD (2*n) 0,T.getD (2*n+1) 0]:=by simp
  rw [e2,Ze8 dn _ _ n _ (by rw [List.length_take];lia),<- ih]
  have a1:stA dn T (2*n)=dn (T.getD (2*n) 0):=if_pos (by lia)
  have a2:stA dn T (2*n+1)=ev2 (T.getD (2*n+1) 0):=if_neg (by lia)
  rw [List.map_append,List.map_append,List.sum_append,List.sum_append]
  simp only [List.map_cons,List.map_nil,List.sum_cons,List.sum_nil,a1,a2]
  lia
def Zct:Sp:=fun vs H Q _=>∃(tA uA:Addr) (T:List Int) (N:Nat) (ps:List Int) (n:Nat),vs = [.ref tA,.ref uA]/\H tA=some (.lst (T.map V.int))/\H uA=some (.lst (tab N fun x=>V.bl (decide (x∈ps))))/\T.length=2*n/\T.length<=200/\(∀x∈T,0<=x/\x<(N:Int)) /\
 ∀(p:Addr) (H':Hp) (ss:List Int),H p=none->Ze H H'->H' p=some (.lst (ss.map V.int))->ss.sum=fl (fun x=>if x∈ps then 1 else -1) T->ss=(List.range T.length).map (stA (fun x=>if x∈ps then 1 else -1) T)->Q (.ref p) H'
abbrev Up:Stmt:=top 36
theorem Jl:Zp ["tour", "uppers", "steps", "at", "thread", "upper"] ["tour", "uppers"] (Zi Up):={}
theorem ZkL {f:Addr}{fd:FuncData} (F:Yd K "steps_down" "steps_down" Up f fd) (YZ:Yg P w K mg base 1 "born_with" ["thread"] ZlB) (ZP:mg "enumerate" = none):ZX P w K mg base J2 2 f fd ["tour", "uppers"] Zct:=by
 refine F.ok Jl (fun vs H Q E h=>?_) (fun cdv A outer s H vs Q E hr h=>?_)
 ·obtain ⟨tA,uA,T,N,ps,n,rfl,_⟩:=h
  rfl
 ·obtain ⟨tA,uA,T,N,ps,n,rfl,hT,hU,hn,hlen,dom,k⟩:=h
  obtain ⟨dn,hdn⟩:∃dn:Int->Int,dn=fun x=>if x∈ps then 1 else -1:=⟨_,rfl⟩
  rw [<- hdn] at k
  refine ⟨_,(Zd (Zq (i:=2) Jl.nd rfl (Or.inl rfl) (ZT Zc))
   (Zd (ZZ PassesOwn.never rfl (UP (K:=K) rfl (by rfl) ZP (Za (pv 0) Zc)) (Yr (K:=K) (n:=2) rfl rfl (Zw (Zl (i:=3) Jl.nd rfl (Or.inl rfl)) (Zw (Zl (i:=4) Jl.nd rfl (Or.inl rfl)) Yw))) (Zd (Zq (i:=5) Jl.nd rfl (Or.inl rfl) (Zbs (Zkk (Zn Zog (pv 3) Zf) (fun _=>rfl)) (Zbl ZiC (pv 4) (Zm YZ hr (Za (pv 4) Zc)) (ZI _)) (Zv (Zk (K:=K) rfl) (pv 1) (pv 4) (fun _ _=>rfl))))
   (Zh (Ya (YU (K:=K) rfl (JJ PySem.F.plainAttrs_list PySem.F.slot_list_append PySem.F.type_list_append Z4 (pv 2) (Za (Zbs (ZbL (pv 5)) Zf (ZaC Gp Zf)) Zc)))))))
   (Zh (Zs (pv 2))))),?_⟩
  refine ⟨(by show 0<=sizeLine;decide),fun sA hsA=>?_⟩
  refine ⟨_,rfl,tA,rfl,⟨_,Zo.of ((Ze.laid hsA) tA _ hT)⟩,Zfl (K:=K) (a:=tA) (xs:=T.map V.int) (fun i σ H'=>∃(v3 v4 v5:Option V),σ = [some (.ref tA),some (.ref uA),some (.ref sA),v3,v4,v5]/\Ze H H'/\H' sA=some (.lst (((List.range i).map (stA dn T)).map V.int)))
   ⟨none,none,none,rfl,Ze.laid hsA,Zb⟩ (fun i σ H' _ ⟨_,_,_,_,sm,_⟩=>Zo.of (sm tA _ hT)) ?_ ?_⟩
  ·rintro i x p σ H' hx ⟨v3,v4,v5,rfl,sm,hs⟩ hp
   obtain ⟨t,ht,rfl⟩:=YI hx
   have hi:i<T.length:=(List.getElem?_eq_some_iff.mp ht).1
   obtain ⟨d0,d1⟩:=dom t (List.mem_of_getElem? ht)
   have td:T.getD i 0=t:=by simp [ht]
   obtain ⟨G0,hG0⟩:∃G0,G0=upd H' p (.tup [.int i,.int t]):=⟨_,rfl⟩
   have sp:Ze H' G0:=by rw [hG0];exact Ze.laid hp
   have ep:G0 p=some (.tup [.int i,.int t]):=by rw [hG0];exact Zb
   rw [<- hG0]
   have sg0:Ze H G0:=sm.trans sp
   have l2:(((List.range i).map (stA dn T)).map V.int).length<sizeLine:=by
    rw [List.length_map,List.length_map,List.length_range]
    exact ZA (by lia)
   have tail:∀v:Int,v=stA dn T i->(upd G0 sA (.lst (((List.range i).map (stA dn T)).map V.int ++ [V.int v]))) sA=some (.lst (((List.range (i+1)).map (stA dn T)).map V.int)):=fun v e=>by
    rw [Zb,List.range_succ,List.map_append,List.map_append,e]
    rfl
   have hbit:Builtin.bitAnd (i:Int) 1=(i:Int) % 2:=Zmw (by lia)
   refine ⟨p,_,rfl,Uw.of ep,rfl,_,_,rfl,_,_,rfl,rfl,?_⟩
   refine ⟨_,rfl,_,_,rfl,rfl,_,rfl,?_⟩
   show if (Builtin.bitAnd (i:Int) 1 != 0)=true then _ else _
   rw [hbit]
   refine Jy (fun hc=>?_) (fun hc=>?_)
   ·have odd:¬i % 2=0:=fun z=>by
     rw [bne_iff_ne] at hc
     lia
    have se:stA dn T i=ev2 t:=by unfold stA;rw [if_neg odd,td]
    refine ⟨_,rfl,_,rfl,_,rfl,d0,_,_,rfl,rfl,?_⟩
    refine ⟨_,rfl,.inl ⟨rfl,_,Zo.of (sp sA _ hs)⟩,_,rfl,_,rfl,?_⟩
    refine Jy (fun hd=>?_) (fun hd=>?_)
    ·have e:(1:Int)=stA dn T i:=by
      have hd:t<bw t:=of_decide_eq_true hd
      rw [se]
      unfold ev2
      unfold bw at hd
      split at hd
      ·rw [if_pos (by assumption)]
      ·lia
     exact ⟨sA,_,_,rfl,rfl,sp sA _ hs,l2,_,_,_,rfl,sg0.put hsA,tail _ e⟩
    ·have e:(-1:Int)=stA dn T i:=by
      have hd:¬t<bw t:=fun z=>hd (decide_eq_true z)
      rw [se]
      unfold ev2
      unfold bw at hd
      split at hd
      ·lia
      ·rw [if_neg (by assumption)]
     exact ⟨1,rfl,sA,_,_,rfl,rfl,sp sA _ hs,l2,_,_,_,rfl,sg0.put hsA,tail _ e⟩
   ·have evn0:i % 2=0:=by
     by_cases z:i % 2=0
     ·exact z
     ·exact absurd (by rw [bne_iff_ne];lia) hc
    have se:stA dn T i=dn t:=by unfold stA;rw [if_pos evn0,td]
    rw [hdn] at se
    refine ⟨_,rfl,_,rfl,uA,_,_,_,rfl,rfl,Zo.of (sg0 uA _ hU),Zbm _ d0 d1,?_⟩
    refine ⟨_,rfl,.inl ⟨rfl,_,Zo.of (sp sA _ hs)⟩,_,rfl,_,rfl,?_⟩
    refine Jy (fun hd=>?_) (fun hd=>?_)
    ·have e:(1:Int)=stA dn T i:=by
      rw [hdn,se]
      exact (if_pos (of_decide_eq_true hd)).symm
     exact ⟨sA,_,_,rfl,rfl,sp sA _ hs,l2,_,_,_,rfl,sg0.put hsA,tail _ e⟩
    ·have e:(-1:Int)=stA dn T i:=by
      rw [hdn,se]
      exact (if_neg (fun z=>hd (decide_eq_true z))).symm
     exact ⟨1,rfl,sA,_,_,rfl,rfl,sp sA _ hs,l2,_,_,_,rfl,sg0.put hsA,tail _ e⟩
  ·rintro σ H' ⟨v3,v4,v5,rfl,sm,hs⟩
   rw [List.length_map] at hs
   refine ⟨_,rfl,k sA H' _ hsA sm hs ?_ (by rw [hdn])⟩
   rw [hn,ZhA dn T n (by lia),List.take_of_length_le (by lia)]
def WX (dn:Int->Int) (T:List Int):Int:=Zpk (fl dn T) / 2
def ZcM:Sp:=fun vs H Q _=>∃(l:Addr) (xs:List V) (ls:List (Str×Int)),vs = [.ref l]/\H l=some (.lst xs)/\Zu H xs ls/\ls.length<=60/\Wk ls 0 /\
 ∀(p:Addr) (H':Hp) (ts:List (List Int)),H p=none->Ze H H'->GA (YW (Yb ls)) (Yp ls) ts->H' p=some (.lst ((ts.map (WX (ZY (Yb ls)))).map V.int))->Q (.ref p) H'
theorem Zjs {m:Int->Int}{i:Nat}{ts:List (List Int)} (a:GA m i ts):∀T∈ts,∃n,T.length=2*n:=by
 induction a with
 | nil=>intro T h;cases h
 | add a h t ih=>
  intro T hT
  rcases List.mem_append.mp hT with z | z
  ·exact ih T z
  ·rw [List.mem_singleton.mp z]
   obtain ⟨L,_,_,_,rfl⟩:=t
   exact ⟨L,JW _ _ _⟩
 | skip a h ih=>exact ih
abbrev Zcx:Stmt:=top 37
theorem Zgm:Zp ["drawing", "uppers"] ["drawing"] (Zi Zcx):={}
theorem Zkp {f:Addr}{fd:FuncData} (F:Yd K "turns" "turns" Zcx f fd) (Yi:Yg P w K mg base 4 "uppers_at_ends" ["drawing"] ZaZ) (Jb:Yg P w K mg base 2 "steps_down" ["tour", "uppers"] Zct) (Jn:Yg P w K mg base 5 "tours" ["drawing"] Zan) (ZcZ:mg "abs" = none) (ZjP:mg "sum" = none):ZX P w K mg base J2 6 f fd ["drawing"] ZcM:=by
 refine F.ok Zgm (fun vs H Q E h=>?_) (fun cdv A outer s H vs Q E hr h=>?_)
 ·obtain ⟨l,xs,ls,rfl,_⟩:=h
  rfl
 ·obtain ⟨l,xs,ls,rfl,hl,hL,hlen,hW,k⟩:=h
  have n60:=ZlM hW
  have M:=YS hW
  refine ⟨_,(Zd (Zq (i:=1) Zgm.nd rfl (Or.inr rfl) (Zm Yi hr (Za (pv 0) Zc)))
   (Zh (Zs (WZ (Ls:=["tour"]) (Fs:=["uppers"]) (fi:=[1]) (ZU.of (show YC ["drawing", "uppers"] (Zi Zcx) _ ["uppers"] [1]=true by decide +kernel)) rfl (ZC (K:=K) rfl (Zm Jn hr (Za (pv 0) Zc))) (fun cl C s3 H3 ex=>⟨(Zl (i:=0) (show ((["tour"]:List Str)++(["uppers"]:List Str)).Nodup by decide +kernel) rfl (Or.inl rfl)),Yf,(Zn ZcH (ZE ZcQ (by rfl) ZcZ boot_abs (Za (ZE (Zjl (K:=K) rfl rfl) (by rfl) ZjP boot_sum (Za (Zm Jb hr (Za (pv 0) (Za (pv 1) Zc))) Zc)) Zc)) Zf)⟩))))),?_⟩
  refine ⟨_,rfl,l,xs,ls,rfl,hl,hL,hlen,hW,fun uA H1 fu s1 eu=>?_⟩
  refine ⟨_,rfl,l,xs,ls,rfl,s1 l _ hl,hL.same s1,hlen,hW,fun tsA H2 ys ts ft s2 et rv ap tr=>?_⟩
  have good:=tr.good M (Int.le_refl _)
  have tl:=tr.len M (Int.le_refl _)
  refine ⟨tsA,rfl,⟨_,Zo.of et⟩,Y8 (K:=K) (a:=tsA) (xs:=ys) (by rw [rv.len];exact Nat.le_of_lt (ZA (by lia))) (fun i zs G=>Ze H2 G/\zs=((ts.take i).map (WX (ZY (Yb ls)))).map V.int) ⟨Ze.refl _,rfl⟩ (fun i zs G p=>by rw [p.2,List.length_map,List.length_map,List.length_take];lia) (fun i zs G p=>Zo.of (p.1 tsA _ et)) (fun i x zs G hx p=>?_) (fun zs G p D hD=>?_)⟩
  ·obtain ⟨sG,rfl⟩:=p
   obtain ⟨q,T,hT,rfl,hq⟩:=rv.atX hx
   obtain ⟨n,hn⟩:=Zjs tr T (List.mem_of_getElem? hT)
   have inT:∀x∈T,x∈ts.flatten:=fun x hx=>List.mem_flatten.mpr ⟨T,List.mem_of_getElem? hT,hx⟩
   have sub:T.length<=ts.flatten.length:=by
    obtain ⟨a,b,e⟩:=List.append_of_mem (List.mem_of_getElem? hT)
    rw [e,List.flatten_append,List.flatten_cons,List.length_append,List.length_append]
    lia
   have fs:=Gi (Yp ls) ts.flatten good.1 good.2.1
   refine lcG ?_
   refine ⟨_,rfl,_,rfl,q,uA,T,Yp ls,(Yb ls).map (·.1),n,rfl,sG q _ hq,sG uA _ (s2 uA _ eu),hn,by lia,fun x hx=>good.2.1 x (inT x hx),fun pA G1 ss fp sp ep es _=>?_⟩
   refine ⟨pA,_,rfl,Zo.of ep,_,rfl,_,_,rfl,rfl,⟨by decide,by decide⟩,sG.trans sp,?_⟩
   rw [YT (ns:=ts) _ hT,List.map_append]
   refine congrArg (fun z=>_ ++ [V.int z]) ?_
   show (if ss.sum<0 then -ss.sum else ss.sum) / 2=_
   rw [es]
   rfl
  ·obtain ⟨sG,rfl⟩:=p
   refine k D _ ts (s1.free (s2.free (sG.free hD))) ((s1.trans (s2.trans sG)).step hD) tr ?_
   rw [Zb,rv.len,List.take_of_length_le (Nat.le_refl _)]
def hAt (dn:Int->Int) (T:List Int):Nat->Int
 | 0=>1
 | i+1=>hAt dn T i-stA dn T i
def plc (T:List Int) (x:Int):Nat:=T.idxOf x
def hgt (dn:Int->Int) (T:List Int) (x:Int):Int:=hAt dn T (plc T x)
theorem Zlu {T:List Int} (nd:T.Nodup) {i:Nat} (hi:i<T.length):plc T T[i]=i:=by
 unfold plc
 exact List.Nodup.idxOf_getElem nd i hi
theorem ZnU {dn:Int->Int}{T:List Int} (nd:T.Nodup) {i:Nat} (hi:i<T.length):hgt dn T T[i]=hAt dn T i:=by
 unfold hgt
 rw [Zlu nd hi]
theorem Zik (dn:Int->Int) (T:List Int):∀i,hAt dn T i=1-((List.range i).map (stA dn T)).sum
 | 0=>by simp [hAt]
 | i+1=>by
  rw [List.range_succ,List.map_append,List.sum_append]
  show hAt dn T i-stA dn T i=_
  rw [Zik dn T i]
  simp
  lia
theorem ZgI (m:Int->Int) (f:Int):∀(L j:Nat),j<L->(Ux m f L)[2*j]? = some (gt m f j)/\(Ux m f L)[2*j+1]? = some (m (gt m f j))
 | 0,j,h=>by lia
 | L+1,j,h=>by
  have hl:=JW m f L
  by_cases e:j=L
  ·subst e
   constructor
   ·show (Ux m f j ++ [gt m f j,m (gt m f j)])[2*j]? = _
    rw [List.getElem?_append_right (by lia),hl]
    simp
   ·show (Ux m f j ++ [gt m f j,m (gt m f j)])[2*j+1]? = _
    rw [List.getElem?_append_right (by lia),hl]
    simp [show 2*j+1-2*j=1 by lia]
  ·obtain ⟨a,b⟩:=ZgI m f L j (by lia)
   constructor
   ·show (Ux m f L++_)[2*j]? = _
    rw [List.getElem?_append_left (by lia)];exact a
   ·show (Ux m f L++_)[2*j+1]? = _
    rw [List.getElem?_append_left (by lia)];exact b
structure One (ps:List (Int×Int)) (N:Nat) (T:List Int) (L:Nat):Prop where
 M:YN (YW ps) N
 fl0:(ZO ps).Nodup
 T_is:T=Ux (YW ps) 0 L
 L1:1<=L
 back:gt (YW ps) 0 L=0
 nd:T.Nodup
 all:∀x:Int,0<=x->x<N->x∈T
 dom:∀x∈T,0<=x/\x<(N:Int)
 zero:fl (ZY ps) T=0
theorem Zfa {ps:List (Int×Int)}{u l b:Int} (nd:(ZO ps).Nodup) (h:(u,l)∈ps) (h2:(l,b)∈ps):False:=by
 induction ps with
 | nil=>cases h
 | cons p r ih=>
  have e:ZO (p::r)=p.1::p.2::ZO r:=by simp [ZO]
  have fr:=nd
  rw [e] at nd
  obtain ⟨n1,nd2⟩:=List.nodup_cons.mp nd
  obtain ⟨n2,nd3⟩:=List.nodup_cons.mp nd2
  have inr:∀{a c:Int},(a,c)∈r->a∈ZO r/\c∈ZO r:=fun {a c} z=>⟨List.mem_flatMap.mpr ⟨(a,c),z,by simp⟩,List.mem_flatMap.mpr ⟨(a,c),z,by simp⟩⟩
  rcases List.mem_cons.mp h with z | z
  ·rcases List.mem_cons.mp h2 with y | y
   ·subst z
    have:(u,l)=(l,b):=y.symm
    have e1:u=l:=congrArg Prod.fst this
    exact ZaK fr (List.mem_cons_self) e1
   ·subst z
    exact n2 (inr y).1
  ·rcases List.mem_cons.mp h2 with y | y
   ·subst y
    exact n1 (List.mem_cons_of_mem _ (inr z).2)
   ·exact ih nd3 z y
namespace One
variable {ps:List (Int×Int)}{N:Nat}{T:List Int}{L:Nat}
theorem len (o:One ps N T L):T.length=2*L:=by rw [o.T_is];exact JW _ _ _
theorem at0 (o:One ps N T L) {j:Nat} (h:j<L):T[2*j]? = some (gt (YW ps) 0 j):=by rw [o.T_is];exact (ZgI _ _ L j h).1
theorem at1 (o:One ps N T L) {j:Nat} (h:j<L):T[2*j+1]? = some (YW ps (gt (YW ps) 0 j)):=by rw [o.T_is];exact (ZgI _ _ L j h).2
theorem hg (o:One ps N T L) {i:Nat}{x:Int} (h:T[i]? = some x):hgt (ZY ps) T x=hAt (ZY ps) T i:=by
 obtain ⟨hi,e⟩:=List.getElem?_eq_some_iff.mp h
 rw [<- e]
 exact ZnU o.nd hi
theorem stE (o:One ps N T L) {j:Nat} (h:j<L):hAt (ZY ps) T (2*j+1)=hAt (ZY ps) T (2*j)-ZY ps (gt (YW ps) 0 j):=by
 show hAt (ZY ps) T (2*j)-stA (ZY ps) T (2*j)=_
 unfold stA
 rw [if_pos (by lia)]
 have:=o.at0 h
 simp [this]
theorem stO (o:One ps N T L) {j:Nat} (h:j<L):hAt (ZY ps) T (2*j+2)=hAt (ZY ps) T (2*j+1)-ev2 (YW ps (gt (YW ps) 0 j)):=by
 show hAt (ZY ps) T (2*j+1)-stA (ZY ps) T (2*j+1)=_
 unfold stA
 rw [if_neg (by lia)]
 have:=o.at1 h
 simp [this]
theorem Zp1 (o:One ps N T L):hAt (ZY ps) T (2*L)=1:=by
 rw [Zik]
 have:=ZhA (ZY ps) T L (by rw [o.len];exact Nat.le_refl _)
 rw [this,List.take_of_length_le (by rw [o.len];exact Nat.le_refl _),o.zero]
 rfl
theorem on (o:One ps N T L) {x:Int} (h0:0<=x) (h1:x<N):∃j,j<L/\(x=gt (YW ps) 0 j∨x=YW ps (gt (YW ps) 0 j)):=by
 have:=o.all x h0 h1
 rw [o.T_is] at this
 exact Yo.mp this
theorem pos (o:One ps N T L):(0:Int)<N:=by
 have:=o.at0 (j:=0) o.L1
 have h:=o.dom _ (List.mem_of_getElem? this)
 have e:gt (YW ps) 0 0=0:=rfl
 rw [e] at h
 exact h.2
theorem Zpe (o:One ps N T L) (j:Nat):0<=gt (YW ps) 0 j/\gt (YW ps) 0 j<(N:Int):=Z6 o.M (by decide) o.pos j
theorem ends (o:One ps N T L) {u l:Int} (h:(u,l)∈ps) (hu:0<=u/\u<(N:Int)):hgt (ZY ps) T u=hgt (ZY ps) T l+1:=by
 obtain ⟨m1,m2⟩:=U9 o.fl0 h
 have ne:=ZaK o.fl0 h
 have du:ZY ps u=1:=if_pos (List.mem_map.mpr ⟨(u,l),h,rfl⟩)
 have dl:ZY ps l = -1:=by
  unfold ZY
  rw [if_neg]
  intro z
  obtain ⟨⟨a,b⟩,hab,e⟩:=List.mem_map.mp z
  have e:a=l:=e
  subst e
  have q:=(U9 o.fl0 hab).1
  rw [m2] at q
  subst q
  exact Zfa o.fl0 h hab
 obtain ⟨j,hj,c⟩:=o.on hu.1 hu.2
 rcases c with c | c
 ·have a0:=o.at0 hj
  have a1:=o.at1 hj
  rw [<- c] at a0 a1
  rw [m1] at a1
  rw [o.hg a0,o.hg a1,o.stE hj,<- c,du]
  lia
 ·have a0:=o.at0 hj
  have a1:=o.at1 hj
  have e:gt (YW ps) 0 j=l:=by
   have:=o.M.inv _ (o.Zpe j).1 (o.Zpe j).2
   rw [<- c,m1] at this
   exact this.symm
  rw [e] at a0
  rw [<- c] at a1
  rw [o.hg a0,o.hg a1,o.stE hj,e,dl]
  lia
theorem ZjR (o:One ps N T L) {x:Int} (h0:0<=x) (h1:x<N) (hx:x % 2=0):hgt (ZY ps) T x=hgt (ZY ps) T (x+1)+1:=by
 have key:∀y:Int,(∃j,j<L/\y=YW ps (gt (YW ps) 0 j))->0<=y->hgt (ZY ps) T (bw y)=hgt (ZY ps) T y-ev2 y:=by
  rintro y ⟨j,hj,e⟩ _
  have a1:=o.at1 hj
  rw [<- e] at a1
  rw [o.hg a1]
  have nx:gt (YW ps) 0 (j+1)=bw y:=by rw [e];rfl
  have st:=o.stO hj
  rw [<- e] at st
  by_cases lt:j+1<L
  ·have a2:=o.at0 lt
   rw [nx] at a2
   rw [o.hg a2,<- st]
   rfl
  ·have eL:j+1=L:=by lia
   have z0:bw y=0:=by rw [<- nx,eL];exact o.back
   have a0:=o.at0 (j:=0) o.L1
   have e0:gt (YW ps) 0 0=0:=rfl
   rw [e0] at a0
   rw [z0,o.hg a0,<- st]
   have:=o.Zp1
   rw [show 2*L=2*j+2 by lia] at this
   rw [this]
   rfl
 have hb:bw x=x+1:=if_pos hx
 have hb1:bw (x+1)=x:=by rw [<- hb];exact Jg x
 have h2:=Zhh o.M.ev h0 h1
 rw [hb] at h2
 obtain ⟨j,hj,c⟩:=o.on h2.1 h2.2
 rcases c with c | c
 ·
  have hx':∃i,i<L/\x=YW ps (gt (YW ps) 0 i):=by
   cases j with
   | zero=>
    have e0:gt (YW ps) 0 0=0:=rfl
    rw [e0] at c
    lia
   | succ i=>
    refine ⟨i,by lia,?_⟩
    have:gt (YW ps) 0 (i+1)=bw (YW ps (gt (YW ps) 0 i)):=rfl
    rw [this] at c
    rw [<- Jg (YW ps (gt (YW ps) 0 i)),<- c,hb1]
  have q:=key x hx' h0
  rw [hb] at q
  have:ev2 x=1:=if_pos hx
  lia
 ·have q:=key (x+1) ⟨j,hj,c⟩ h2.1
  rw [hb1] at q
  have:ev2 (x+1) = -1:=if_neg (by lia)
  lia
end One
theorem Zde {m:Int->Int}{ts:List (List Int)} (h:GA m 0 ts):ts = []:=by cases h;rfl
theorem ZbO {m:Int->Int}:∀{n:Nat}{ts:List (List Int)},GA m (n+1) ts -> ∃T r,ts=T::r/\Yq m 0 T
 | 0,ts,h=>by
  cases h with
  | add a b c=>rw [Zde a];exact ⟨_,[],rfl,c⟩
  | skip a b=>rw [Zde a] at b;simp at b
 | n+1,ts,h=>by
  cases h with
  | add a b c=>
   obtain ⟨T,r,e,t⟩:=ZbO a
   rw [e]
   exact ⟨T,_,rfl,t⟩
  | skip a b=>exact ZbO a
theorem Znz (ps:List (Int×Int)) (x:Int):ZY ps x % 2=1:=by unfold ZY;split<;>decide
theorem Zmv (x:Int):ev2 x % 2=1:=by unfold ev2;split<;>decide
theorem Ziz (ps:List (Int×Int)):∀T:List Int,fl (ZY ps) T % 2=0
 | []=>rfl
 | [_]=>rfl
 | x::y::r=>by
  have h:=Ziz ps r
  have a:=Znz ps x
  have b:=Zmv y
  show (ZY ps x+ev2 y+fl (ZY ps) r) % 2=0
  lia
theorem sub_len:∀{l l':List Int},l.Nodup->(∀x∈l,x∈l')->l.length<=l'.length
 | [],_,_,_=>Nat.zero_le _
 | a::r,l',nd,h=>by
  obtain ⟨na,nr⟩:=List.nodup_cons.mp nd
  have ih:=sub_len (l':=l'.erase a) nr fun x hx=>(List.mem_erase_of_ne (fun z:x=a=>na (by rw [<- z];exact hx))).mpr (h x (List.mem_cons_of_mem _ hx))
  have ha:=h a List.mem_cons_self
  rw [List.length_erase_of_mem ha] at ih
  have:0<l'.length:=List.length_pos_of_mem ha
  rw [List.length_cons]
  lia
theorem Zk9 {ls:List (Str×Int)}{T:List Int} (hW:Wk ls 0) (tr:GA (YW (Yb ls)) (Yp ls) [T]) (h0:WX (ZY (Yb ls)) T=0):∃L,One (Yb ls) (Yp ls) T L/\T.length=Yp ls:=by
 have M:=YS hW
 have nd0:(ZO (Yb ls)).Nodup:=(WU hW).symm.nodup (GU _)
 cases e:Yp ls with
 | zero=>rw [e] at tr;exact absurd (Zde tr) (by simp)
 | succ n=>
  rw [e] at tr M
  obtain ⟨T',r,q,t⟩:=ZbO tr
  cases q
  have p0:(0:Int)<((n+1:Nat):Int):=by lia
  obtain ⟨L,L1,bk,no,rfl⟩:=id t
  have nd:=t.nodup M (by decide) p0
  have all:∀x:Int,0<=x->x<((n+1:Nat):Int)->x∈Ux (YW (Yb ls)) 0 L:=fun x x0 x1=>by
   obtain ⟨k,rfl⟩:=Int.eq_ofNat_of_zero_le x0
   simpa using tr.mem k (by lia)
  refine ⟨L,⟨M,nd0,rfl,L1,bk,nd,all,t.dom M (by decide) p0,?_⟩,?_⟩
  ·have:=Ziz (Yb ls) (Ux (YW (Yb ls)) 0 L)
   unfold WX Zpk at h0
   split at h0<;>lia
  ·have a:=t.len M (by decide) p0
   have b:n+1<=(Ux (YW (Yb ls)) 0 L).length:=by
    have sub:∀x∈ZaL (n+1),x∈Ux (YW (Yb ls)) 0 L:=fun x hx=>all x (J9.mp hx).1 (J9.mp hx).2
    have:=sub_len (GU (n+1)) sub
    rwa [Za0] at this
   lia
def ZnN:Sp:=fun vs H Q _=>∃(tA uA:Addr) (T:List Int) (ps:List (Int×Int)) (N L:Nat),vs = [.ref tA,.ref uA]/\H tA=some (.lst (T.map V.int))/\H uA=some (.lst (tab N fun x=>V.bl (decide (x∈ps.map (·.1)))))/\One ps N T L/\T.length=N/\N<=120 /\
 ∀(p:Addr) (H':Hp),H p=none->Ze H H'->H' p=some (.lst (tab N fun x=>V.int (hgt (ZY ps) T x)))->Q (.ref p) H'
abbrev Wc:Stmt:=top 40
theorem Yk:Zp ["tour", "uppers", "heights", "height", "thread", "step"] ["tour", "uppers"] (Zi Wc):={}
theorem Zpf {f:Addr}{fd:FuncData} (F:Yd K "heights_along" "heights_along" Wc f fd) (Jb:Yg P w K mg base 2 "steps_down" ["tour", "uppers"] Zct) (ZJ:mg "len" = none) (ZaY:mg "zip" = none):ZX P w K mg base J2 3 f fd ["tour", "uppers"] ZnN:=by
 refine F.ok Yk (fun vs H Q E h=>?_) (fun cdv A outer s H vs Q E hr h=>?_)
 ·obtain ⟨tA,uA,T,ps,N,L,rfl,_⟩:=h
  rfl
 ·obtain ⟨tA,uA,T,ps,N,L,rfl,hT,hU,o,hTl,n120,k⟩:=h
  refine ⟨_,(Zd (Zq (i:=2) Yk.nd rfl (Or.inl rfl) (Zn ZaN (ZT (Za Zf Zc)) (ZE (ZW (K:=K) rfl) (by rfl) ZJ PySem.boot_len (Za (pv 0) Zc))))
   (Zd (Zq (i:=3) Yk.nd rfl (Or.inl rfl) Zf)
   (Zd (ZZ PassesOwn.never rfl (ZeT (K:=K) rfl (by rfl) ZaY (Za (pv 0) (Za (Zm Jb hr (Za (pv 0) (Za (pv 1) Zc))) Zc))) (Yr (K:=K) (n:=2) rfl rfl (Zw (Zl (i:=4) Yk.nd rfl (Or.inl rfl)) (Zw (Zl (i:=5) Yk.nd rfl (Or.inl rfl)) Yw))) (Zd (Yl (pv 3) (YJ (pv 2) (pv 4) set_list))
   (Zh (ZhJ (i:=3) Yk.nd rfl (Or.inl rfl) (pv 5) ZnP))))
   (Zh (Zs (pv 2)))))),?_⟩
  refine ⟨(by show 1<=sizeLine;decide),fun l0 hl0=>?_⟩
  have s0:Ze H (upd H l0 (.lst [.int 0])):=Ze.laid hl0
  refine ⟨_,rfl,tA,_,rfl,.inl (Zo.of (s0 _ _ hT)),?_⟩
  rw [List.length_map,hTl]
  refine ⟨l0,_,_,rfl,rfl,Zb,by lia,by lia,(by show 1*_<=sizeLine;exact Nat.le_of_lt (ZA (by lia))),fun hA hhA=>?_⟩
  obtain ⟨H1,e1⟩:∃G,G=upd (upd H l0 (.lst [.int 0])) hA (.lst (List.replicate ((N:Nat):Int).toNat [V.int 0]).flatten):=⟨_,rfl⟩
  rw [<- e1]
  have s1:Ze H H1:=by rw [e1];exact s0.step hhA
  have h1:H1 hA=some (.lst (tab N fun _=>V.int 0)):=by rw [e1,Zb,Int.toNat_natCast,Ug]
  have fh:H hA=none:=s0.free hhA
  refine ⟨_,rfl,_,rfl,_,rfl,tA,uA,T,N,ps.map (·.1),L,rfl,s1 _ _ hT,s1 _ _ hU,o.len,by lia,o.dom,fun sA H2 ss fs s2 es _ ess=>?_⟩
  have dn:(fun x=>if x∈ps.map (·.1) then (1:Int) else -1)=ZY ps:=rfl
  rw [dn] at ess
  have sl:ss.length=T.length:=by rw [ess,List.length_map,List.length_range]
  have s02:=s1.trans s2
  have h2:=s2 _ _ h1
  have nta:tA≠hA:=Zg hT fh
  have nsa:sA≠hA:=(Zg h1 fs).symm
  refine ⟨tA,sA,rfl,⟨_,Zo.of (s02 _ _ hT)⟩,⟨_,Zo.of es⟩,Ziv (K:=K) (a:=tA) (b:=sA) (xs:=T.map V.int) (ys:=ss.map V.int) (by rw [List.length_map,List.length_map,sl]) (fun i σ G=>∃(v4 v5:Option V),σ = [some (.ref tA),some (.ref uA),some (.ref hA),some (.int (hAt (ZY ps) T i)),v4,v5]/\Jh hA H2 G /\
   G hA=some (.lst (tab N fun x=>V.int (if plc T x<i then hgt (ZY ps) T x else 0)))) ⟨none,none,rfl,Jh.refl _ _,?_⟩ (fun i σ G ⟨_,_,_,fr,_⟩=>⟨Zo.of (fr _ _ (s02 _ _ hT) nta),Zo.of (fr _ _ es nsa)⟩) ?_ ?_⟩
  ·rw [h2]
   exact congrArg (fun z=>some (HO.lst z)) (ZQ fun x _ _=>by simp)
  ·rintro i x y p σ G hx hy ⟨v4,v5,rfl,fr,hG⟩ hp
   obtain ⟨t,ht,rfl⟩:=YI hx
   obtain ⟨d,hd,rfl⟩:=YI hy
   have hi:i<T.length:=(List.getElem?_eq_some_iff.mp ht).1
   obtain ⟨d0,d1⟩:=o.dom t (List.mem_of_getElem? ht)
   obtain ⟨tn,rfl⟩:=Int.eq_ofNat_of_zero_le d0
   have hds:d=stA (ZY ps) T i:=by
    rw [ess] at hd
    simp [hi] at hd
    exact hd.symm
   refine ⟨p,_,rfl,Uw.of Zb,rfl,_,_,rfl,_,_,rfl,rfl,?_⟩
   have np:hA≠p:=Zg hG hp
   have hG1:(upd G p (.tup [.int (tn:Int),.int d])) hA=some (.lst (tab N fun x=>V.int (if plc T x<i then hgt (ZY ps) T x else 0))):=by rw [Zj np];exact hG
   refine ⟨_,rfl,_,rfl,_,rfl,hA,_,_,tn,rfl,rfl,hG1,(by rw [Jx];exact JI (by lia)),?_⟩
   refine ⟨_,rfl,_,rfl,_,_,rfl,rfl,?_⟩
   refine ⟨some (.int (tn:Int)),some (.int d),?_,(fr.new hp).trans Jh.upd,?_⟩
   ·rw [hds];rfl
   ·rw [Zb,GY]
    refine congrArg (fun z=>some (HO.lst z)) (ZQ fun x x0 x1=>?_)
    have pt:plc T ((tn:Nat):Int)=i:=by
     obtain ⟨_,e⟩:=List.getElem?_eq_some_iff.mp ht
     rw [<- e];exact Zlu o.nd hi
    by_cases e:x=(tn:Int)
    ·rw [if_pos e,e,pt,if_pos (Nat.lt_succ_self i)]
     unfold hgt
     rw [pt]
    ·rw [if_neg e]
     have nx:plc T x≠i:=fun z=>e (by
      have hx:=o.all x x0 x1
      have lt:plc T x<T.length:=List.idxOf_lt_length_of_mem hx
      have gx:T[plc T x]=x:=List.getElem_idxOf lt
      obtain ⟨_,e2⟩:=List.getElem?_eq_some_iff.mp ht
      rw [<- gx,<- e2]
      simp [z])
     by_cases c:plc T x<i
     ·rw [if_pos c,if_pos (by lia)]
     ·rw [if_neg c,if_neg (by lia)]
  ·rintro σ G ⟨v4,v5,rfl,fr,hG⟩
   refine ⟨_,rfl,k hA G fh ?_ ?_⟩
   ·exact fun c u e=>fr c u (s02 c u e) (Zg e fh)
   ·rw [hG]
    refine congrArg (fun z=>some (HO.lst z)) (ZQ fun x x0 x1=>?_)
    rw [if_pos]
    rw [List.length_map]
    unfold plc
    exact List.idxOf_lt_length_of_mem (o.all x x0 x1)
def hsB (sc:Int) (ls:List (Str×Int)) (b:Bool):Prop:=(sc=1->b=true)/\(sc≠1 -> ∃ts,GA (YW (Yb ls)) (Yp ls) ts/\b=decide (ts.map (WX (ZY (Yb ls))) = [0]))
def ZnT:Sp:=fun vs H Q _=>∃(l:Addr) (sc:Int) (xs:List V) (ls:List (Str×Int)),vs = [.ref l,.int sc]/\H l=some (.lst xs)/\Zu H xs ls/\ls.length<=60/\Wk ls 0 /\
 ∀(H':Hp) (b:Bool),Ze H H'->hsB sc ls b->Q (.bl b) H'
abbrev Zab:Stmt:=top 41
theorem Zfc:Zp ["drawing", "scale"] ["drawing", "scale"] (Zi Zab):={}
theorem ZoN {f:Addr}{fd:FuncData} (F:Yd K "has_scale" "has_scale" Zab f fd) (GZ:Yg P w K mg base 6 "turns" ["drawing"] ZcM):ZX P w K mg base J2 7 f fd ["drawing", "scale"] ZnT:=by
 refine F.ok Zfc (fun vs H Q E h=>?_) (fun cdv A outer s H vs Q E hr h=>?_)
 ·obtain ⟨l,sc,xs,ls,rfl,_⟩:=h
  rfl
 ·obtain ⟨l,sc,xs,ls,rfl,hl,hL,hlen,hW,k⟩:=h
  refine ⟨_,(Zh (Zs (ZoW (Zbl J1 (pv 1) Zf (ZI _)) (Zoo (Zbl (Zmd (K:=K) rfl hr.units) (Zm GZ hr (Za (pv 0) Zc)) (ZT (Za Zf Zc)) (ZI _)))))),?_⟩
  refine ⟨_,rfl,rfl,_,rfl,?_⟩
  refine Jy (fun c=>?_) (fun c=>?_)
  ·have e:sc=1:=V.int.inj (of_decide_eq_true c)
   exact k H true (Ze.refl _) ⟨fun _=>rfl,fun z=>absurd e z⟩
  ·have e:sc≠1:=fun z=>c (decide_eq_true (congrArg V.int z))
   refine ⟨_,rfl,l,xs,ls,rfl,hl,hL,hlen,hW,fun p H1 ts fp s1 tr ep=>?_⟩
   refine ⟨(by show 1<=sizeLine;decide),fun q hq=>?_⟩
   refine ⟨p,q,ts.map (WX (ZY (Yb ls))),[0],rfl,rfl,Zo.of ((Ze.laid hq) _ _ ep),Zo.of Zb,?_⟩
   exact k _ _ (s1.step hq) ⟨fun z=>absurd z e,fun _=>⟨ts,tr,rfl⟩⟩
def thV (sc:Int) (ls:List (Str×Int)) (zs:List V):Prop:=(sc=1/\zs=tab (Yp ls) fun _=>V.int 0)∨(sc≠1 /\ ∃T L,GA (YW (Yb ls)) (Yp ls) [T]/\WX (ZY (Yb ls)) T=0/\One (Yb ls) (Yp ls) T L/\zs=tab (Yp ls) fun x=>V.int (hgt (ZY (Yb ls)) T x))
def Zok (C:Addr):Sp:=fun vs H Q E=>∃(l:Addr) (sc:Int) (xs:List V) (ls:List (Str×Int)),vs = [.ref l,.int sc]/\H l=some (.lst xs)/\Zu H xs ls/\ls.length<=60/\Wk ls 0 /\
 (∀(p:Addr) (H':Hp) (zs:List V),H p=none->Ze H H'->H' p=some (.lst zs)->thV sc ls zs->Q (.ref p) H') /\
 (∀(H':Hp) (ts:List (List Int)),Ze H H'->sc≠1->GA (YW (Yb ls)) (Yp ls) ts->ts.map (WX (ZY (Yb ls))) ≠ [0]->E (.ref C) none H')
theorem Zoh {dn:Int->Int}{ts:List (List Int)} (h:ts.map (WX dn) = [0]):∃T,ts = [T]/\WX dn T=0:=by
 cases ts with
 | nil=>cases h
 | cons T r=>
  cases r with
  | nil=>exact ⟨T,rfl,by simpa using h⟩
  | cons a b=>simp at h
abbrev JT:Stmt:=top 42
theorem Za8:Zp ["drawing", "scale"] ["drawing", "scale"] (Zi JT):={}
theorem Zo5 {f Zx:Addr}{fd:FuncData} (F:Yd K "thread_heights" "thread_heights" JT f fd) (Jq:mg "NoHeights" = some (.ref Zx)) (YF:PySem.W.excIn K Zx bmV "ValueError.__new__" = true)
  (UH:Yg P w K mg base 7 "has_scale" ["drawing", "scale"] ZnT) (ZV:Yg P w K mg base 2 "ends_of" ["drawing"] (WH fun x=>decide (x = "end"))) (Jn:Yg P w K mg base 5 "tours" ["drawing"] Zan) (Yi:Yg P w K mg base 4 "uppers_at_ends" ["drawing"] ZaZ)
  (Wf:Yg P w K mg base 3 "heights_along" ["tour", "uppers"] ZnN) (ZJ:mg "len" = none):ZX P w K mg base (CX1 P w) 8 f fd ["drawing", "scale"] (Zok Zx):=by
 refine F.okX Za8 (fun vs H Q E h=>?_) (fun cdv A outer s H vs Q E hr h=>?_)
 ·obtain ⟨l,sc,xs,ls,rfl,_⟩:=h
  rfl
 ·obtain ⟨l,sc,xs,ls,rfl,hl,hL,hlen,hW,k,kx⟩:=h
  have n120:=JP hlen
  have nt:2*(Z0 ls isE ls.length).length=Yp ls:=by unfold Yp Yb Gv;rw [List.length_map]
  refine ⟨_,(Zd (YO (Zc5 (ZbL (Zm UH hr (Za (pv 0) (Za (pv 1) Zc))))) (Zh (ZfL (by rfl) Jq YF (Za Z7 Zc))) Yc)
   (Zd (YO (ZD J1 (pv 1) Zf (ZI _)) (Zh (Zs (Zn ZaN (ZT (Za Zf Zc)) (Zn Wd Zf (ZE (ZW (K:=K) rfl) (by rfl) ZJ PySem.boot_len (Za (Zm ZV hr (Za (pv 0) Zc)) Zc)))))) Yc)
   (Zh (Zs (Zm Wf hr (Za (Zv (Zk (K:=K) rfl) (Zm Jn hr (Za (pv 0) Zc)) Zf (fun _ _=>rfl)) (Za (Zm Yi hr (Za (pv 0) Zc)) Zc))))))),?_⟩
  refine ⟨_,rfl,_,rfl,l,sc,xs,ls,rfl,hl,hL,hlen,hW,fun H1 b s1 hb=>?_⟩
  refine ⟨b,rfl,?_⟩
  cases b with
  | false=>
   refine Zar ?_
   refine ⟨(by show 1<=sizeLine;decide),?_⟩
   have ne:sc≠1:=fun z=>by cases hb.1 z
   obtain ⟨ts,tr,e⟩:=hb.2 ne
   exact kx H1 ts s1 ne tr (fun z=>by rw [decide_eq_true z] at e;cases e)
  | true=>
   refine ZdX ?_
   refine ⟨_,rfl,rfl,_,rfl,?_⟩
   refine Jy (fun c=>?_) (fun c=>?_)
   ·have e:sc=1:=V.int.inj (of_decide_eq_true c)
    refine ⟨(by show 1<=sizeLine;decide),fun l0 hl0=>?_⟩
    have s0:=s1.step (o:=.lst [.int 0]) hl0
    refine ⟨_,rfl,l,xs,ls,rfl,s0 l _ hl,hL.same s0,hlen,hW.kd,fun eA H2 fe s2 ee=>?_⟩
    refine ⟨eA,_,rfl,.inl (Zo.of ee),_,_,rfl,rfl,.inl ⟨by decide,by decide⟩,?_⟩
    have el:((2:Int)*((((Z0 ls (fun x=>decide (x = "end")) ls.length).map V.int).length:Nat):Int))=((Yp ls:Nat):Int):=by
     rw [List.length_map]
     have:(Z0 ls (fun x=>decide (x = "end")) ls.length).length=(Z0 ls isE ls.length).length:=rfl
     lia
    show ZkV (V.ref l0) (V.int ((2:Int)*((((Z0 ls (fun x=>decide (x = "end")) ls.length).map V.int).length:Nat):Int))) H2 _
    rw [el]
    refine ⟨l0,_,_,rfl,rfl,s2 l0 _ Zb,by lia,by lia,(by show 1*_<=sizeLine;exact Nat.le_of_lt (ZA (by lia))),fun rA hrA=>?_⟩
    refine k rA _ _ ((s0.trans s2).free hrA) ((s0.trans s2).step hrA) Zb (.inl ⟨e,?_⟩)
    rw [Int.toNat_natCast,Ug]
   ·have e:sc≠1:=fun z=>c (decide_eq_true (congrArg V.int z))
    obtain ⟨ts0,tr0,e0⟩:=hb.2 e
    obtain ⟨T,rfl,t0⟩:=Zoh (of_decide_eq_true e0.symm)
    obtain ⟨L,o,hTl⟩:=Zk9 hW tr0 t0
    refine ⟨_,rfl,l,xs,ls,rfl,s1 l _ hl,hL.same s1,hlen,hW,fun tsA H2 ys ts ft s2 et rv ap tr=>?_⟩
    have ets:ts = [T]:=(tr.uniq tr0)
    subst ets
    obtain ⟨tA,rfl,eT⟩:∃tA,ys = [V.ref tA]/\H2 tA=some (.lst (T.map V.int)):=by
     cases rv with
     | cons a r=>
      cases r
      obtain ⟨q,rfl,hq⟩:=a
      exact ⟨q,rfl,hq⟩
    refine ⟨tsA,_,_,_,rfl,rfl,Zo.of et,Zt (j:=0) rfl,?_⟩
    have s12:=s1.trans s2
    refine ⟨_,rfl,l,xs,ls,rfl,s12 l _ hl,hL.same s12,hlen,hW,fun uA H3 fu s3 eu=>?_⟩
    refine ⟨tA,uA,T,Yb ls,Yp ls,L,rfl,s3 _ _ eT,eu,o,hTl,n120,fun p H4 fp s4 ep=>?_⟩
    have s04:=(s12.trans s3).trans s4
    exact k p H4 _ ((s12.trans s3).free fp) s04 ep (.inr ⟨e,T,L,tr0,t0,o,rfl⟩)
def kn (kvs:List (Key×V)) (x:Int):Prop:=(GK kvs (Sum.inl x)).isSome=true
structure Dc (g:Int->Int) (H:Hp) (d:Addr) (n:Nat) (kvs:List (Key×V)):Prop where
 at_:H d=some (.dK kvs)
 le:kvs.length<=n
 ok:∀x v,GK kvs (Sum.inl x)=some v->v = .int (g x)
abbrev isN:Str->Bool:=fun x=>!decide (x = "born")
def HG (sc:Int) (ls:List (Str×Int)) (g:Int->Int):Prop:=(sc=1/\g=fun _=>0)∨(sc≠1 /\ ∃T L,GA (YW (Yb ls)) (Yp ls) [T]/\WX (ZY (Yb ls)) T=0/\One (Yb ls) (Yp ls) T L/\g=hgt (ZY (Yb ls)) T)
theorem thV.hg {sc:Int}{ls:List (Str×Int)}{zs:List V} (h:thV sc ls zs):∃g,HG sc ls g/\zs=(tab (Yp ls) g).map V.int:=by
 rcases h with ⟨a,e⟩ | ⟨a,T,L,b,c,d,e⟩
 ·exact ⟨fun _=>0,.inl ⟨a,rfl⟩,by rw [e,ZcL]⟩
 ·exact ⟨hgt (ZY (Yb ls)) T,.inr ⟨a,T,L,b,c,d,rfl⟩,by rw [e,ZcL]⟩
theorem HG.uniq {sc:Int}{ls:List (Str×Int)}{g g':Int->Int} (a:HG sc ls g) (b:HG sc ls g'):g=g':=by
 rcases a with ⟨e,rfl⟩ | ⟨ne,T,L,tr,_,_,rfl⟩
 ·rcases b with ⟨_,rfl⟩ | ⟨ne,_⟩
  ·rfl
  ·exact absurd e ne
 ·rcases b with ⟨e,_⟩ | ⟨_,T',L',tr',_,_,rfl⟩
  ·exact absurd e ne
  ·have:=tr.uniq tr'
   cases this
   rfl
def dfs (g:Int->Int) (ls:List (Str×Int)) (ns:List Int):List Int:=ns.map fun t=>g (Jj ls t.toNat).1-g (Jj ls t.toNat).2
def Zng (C:Addr):Sp:=fun vs H Q E=>∃(l:Addr) (sc:Int) (xs:List V) (ls:List (Str×Int)),vs = [.ref l,.int sc]/\H l=some (.lst xs)/\Zu H xs ls/\ls.length<=60/\Wk ls 0 /\
 (∀(p:Addr) (H':Hp) (g:Int->Int),H p=none->Ze H H'->HG sc ls g->H' p=some (.lst ((dfs g ls (Z0 ls isN ls.length)).map V.int))->Q (.ref p) H') /\
 (∀(H':Hp) (ts:List (List Int)),Ze H H'->sc≠1->GA (YW (Yb ls)) (Yp ls) ts->ts.map (WX (ZY (Yb ls))) ≠ [0]->E (.ref C) none H')
abbrev JD:Stmt:=top 43
theorem Ut:Zp ["drawing", "scale", "heights"] ["drawing", "scale"] (Zi JD):={}
theorem ZoQ {f Zx:Addr}{fd:FuncData} (F:Yd K "name_heights" "name_heights" JD f fd) (JN:Zat P w K mg base 8 "thread_heights" ["drawing", "scale"] (Zok Zx)) (Z9:Yg P w K mg base 2 "pairs_ahead" ["drawing", "numbers"] Zbb)
  (JQ:Yg P w K mg base 1 "names_of" ["drawing"] (WH isN)):ZX P w K mg base (CX1 P w) 9 f fd ["drawing", "scale"] (Zng Zx):=by
 refine F.okX Ut (fun vs H Q E h=>?_) (fun cdv A outer s H vs Q E hr h=>?_)
 ·obtain ⟨l,sc,xs,ls,rfl,_⟩:=h
  rfl
 ·obtain ⟨l,sc,xs,ls,rfl,hl,hL,hlen,hW,k,kx⟩:=h
  have n120:=JP hlen
  refine ⟨_,(Zd (Zq (i:=2) Ut.nd rfl (Or.inr rfl) (Wv JN (hr.mono (by decide)) ZhS (Za (pv 0) (Za (pv 1) Zc))))
   (Zh (Zs (WZ (Ls:=["upper", "lower"]) (Fs:=["heights"]) (fi:=[2]) (ZU.of (show YC ["drawing", "scale", "heights"] (Zi JD) _ ["heights"] [2]=true by decide +kernel)) rfl (ZC (K:=K) rfl (Zm Z9 hr (Za (pv 0) (Za (Zm JQ hr (Za (pv 0) Zc)) Zc)))) (fun cl C s3 H3 ex=>⟨(Yr (K:=K) (n:=2) rfl rfl (Zw (Zl (i:=0) (show ((["upper", "lower"]:List Str)++(["heights"]:List Str)).Nodup by decide +kernel) rfl (Or.inl rfl)) (Zw (Zl (i:=1) (show ((["upper", "lower"]:List Str)++(["heights"]:List Str)).Nodup by decide +kernel) rfl (Or.inl rfl)) Yw))),Yf,(Zn YE (Zv (Zk (K:=K) rfl) (pv 2) (pv 0) (fun _ _=>rfl)) (Zv (Zk (K:=K) rfl) (pv 2) (pv 1) (fun _ _=>rfl)))⟩))))),?_⟩
  refine ⟨_,rfl,_,rfl,l,sc,xs,ls,rfl,hl,hL,hlen,hW,fun p H1 zs fp s1 ep tv=>?_,kx⟩
  obtain ⟨g,hg,rfl⟩:=tv.hg
  refine ⟨_,rfl,_,rfl,l,xs,ls,rfl,s1 l _ hl,hL.same s1,hlen,hW.kd,fun nA H2 fn s2 en=>?_⟩
  have s12:=s1.trans s2
  have mem:∀t∈Z0 ls isN ls.length,0<=t /\ ∃q,ls[t.toNat]? = some q/\q.1 ≠ "born" := fun t ht=>by
   obtain ⟨a,_,q,hq,z⟩:=Zbe ht
   exact ⟨a,q,hq,by simpa using z⟩
  refine ⟨l,nA,xs,ls,Z0 ls isN ls.length,rfl,s12 l _ hl,hL.same s12,hlen,hW,en,Nat.le_trans (JH _ _ _) hlen,mem,fun pA H3 ys fp' s3 ep' pv=>?_⟩
  have yl:=pv.len
  have s13:=s12.trans s3
  have ll:=JH ls isN ls.length
  rw [List.length_map] at yl
  have ep3:=s3 _ _ (s2 _ _ ep)
  refine ⟨pA,rfl,⟨_,Zo.of ep'⟩,Y8 (K:=K) (a:=pA) (xs:=ys) (Nat.le_of_lt (ZA (by lia))) (fun i zs G=>Ze H3 G/\zs=(dfs g ls ((Z0 ls isN ls.length).take i)).map V.int) ⟨Ze.refl _,rfl⟩
   (fun i zs G q=>by rw [q.2,List.length_map];unfold dfs;rw [List.length_map,List.length_take];lia) (fun i zs G q=>Zo.of (q.1 pA _ ep')) (fun i x zs G hx q=>?_) (fun zs G q D hD=>?_)⟩
  ·obtain ⟨sG,rfl⟩:=q
   obtain ⟨⟨u,lw⟩,t,hp,rfl,ht⟩:=pv.get hx
   rw [List.getElem?_map] at hp
   obtain ⟨tt,ht1,ht2⟩:=Option.map_eq_some_iff.mp hp
   obtain ⟨t0,q,hq,hb⟩:=mem tt (List.mem_of_getElem? ht1)
   have dm:=Zfq hW hq hb
   rw [ht2] at dm
   refine ⟨t,_,rfl,Uw.of (sG _ _ ht),rfl,_,_,rfl,_,_,rfl,rfl,?_⟩
   refine lcT ?_
   refine ⟨_,rfl,_,rfl,p,_,_,_,rfl,rfl,Zo.of (sG _ _ ep3),Zcv g dm.1.1 dm.1.2,_,rfl,_,rfl,p,_,_,_,rfl,rfl,Zo.of (sG _ _ ep3),Zcv g dm.2.1 dm.2.2,_,_,rfl,rfl,sG,?_⟩
   unfold dfs
   rw [YT (ns:=Z0 ls isN ls.length) _ ht1,List.map_append,ht2]
   rfl
  obtain ⟨sG,rfl⟩:=q
  rw [yl,List.take_of_length_le (Nat.le_refl _)]
  exact k D _ g ((s13.trans sG).free hD) ((s13.trans sG).step hD) hg Zb
def ixT (ts:List (List Int)) (x:Int):Int:=(ts.findIdx fun T=>decide (x∈T):Nat)
def Zdr:Sp:=fun vs H Q _=>∃(l:Addr) (xs:List V) (ls:List (Str×Int)),vs = [.ref l]/\H l=some (.lst xs)/\Zu H xs ls/\ls.length<=60/\Wk ls 0 /\
 ∀(p:Addr) (H':Hp) (ts:List (List Int)),H p=none->Ze H H'->GA (YW (Yb ls)) (Yp ls) ts->H' p=some (.lst ((tab (Yp ls) (ixT ts)).map V.int))->Q (.ref p) H'
theorem ZfQ:∀{ts:List (List Int)},ts.flatten.Nodup -> ∀{j k:Nat}{S T:List Int}{x:Int},ts[j]? = some S->ts[k]? = some T->j<k->x∈S->x∈T->False
 | U::ts,nd,0,k+1,S,T,x,hS,hT,_,h1,h2=>by
  rw [List.flatten_cons,List.nodup_append] at nd
  simp at hS
  exact nd.2.2 x (hS ▸ h1) x (List.mem_flatten.mpr ⟨T,List.mem_of_getElem? (by simpa using hT),h2⟩) rfl
 | U::ts,nd,j+1,k+1,S,T,x,hS,hT,hjk,h1,h2=>by
  rw [List.flatten_cons,List.nodup_append] at nd
  exact ZfQ nd.2.1 (j:=j) (k:=k) (by simpa using hS) (by simpa using hT) (by lia) h1 h2
theorem Zpm {ts:List (List Int)} (nd:ts.flatten.Nodup) {k:Nat}{T:List Int}{x:Int} (hT:ts[k]? = some T) (hx:x∈T):ixT ts x=(k:Int):=by
 have hk:=(List.getElem?_eq_some_iff.mp hT).1
 have e:ts.findIdx (fun T=>decide (x∈T))=k:=by
  rw [List.findIdx_eq hk]
  obtain ⟨_,rfl⟩:=List.getElem?_eq_some_iff.mp hT
  refine ⟨decide_eq_true hx,fun j hj=>?_⟩
  cases z:decide (x∈ts[j]'(by lia)) with
  | false=>rfl
  | true=>exact absurd rfl fun _:(0:Nat)=0=>ZfQ nd (j:=j) (k:=k) (List.getElem?_eq_getElem (by lia)) hT hj (of_decide_eq_true z) hx
 unfold ixT
 rw [e]
abbrev Zda:Stmt:=top 33
theorem Gz:Zp ["drawing", "numbers", "number", "tour", "thread"] ["drawing"] (Zi Zda):={}
theorem Zjw {f:Addr}{fd:FuncData} (F:Yd K "pieces" "pieces" Zda f fd) (ZV:Yg P w K mg base 2 "ends_of" ["drawing"] (WH fun x=>decide (x = "end"))) (Jn:Yg P w K mg base 5 "tours" ["drawing"] Zan) (ZJ:mg "len" = none) (ZP:mg "enumerate" = none):ZX P w K mg base J2 6 f fd ["drawing"] Zdr:=by
 refine F.ok Gz (fun vs H Q E h=>?_) (fun cdv A outer s H vs Q E hr h=>?_)
 ·obtain ⟨l,xs,ls,rfl,_⟩:=h
  rfl
 ·obtain ⟨l,xs,ls,rfl,hl,hL,hlen,hW,k⟩:=h
  have n120:=JP hlen
  have M:=YS hW
  have nt:2*(Z0 ls isE ls.length).length=Yp ls:=by unfold Yp Yb Gv;rw [List.length_map]
  generalize hn':Yp ls=N at *
  refine ⟨_,(Zd (Zq (i:=1) Gz.nd rfl (Or.inl rfl) (Zn ZaN (ZT (Za Zf Zc)) (Zn Wd Zf (ZE (ZW (K:=K) rfl) (by rfl) ZJ PySem.boot_len (Za (Zm ZV hr (Za (pv 0) Zc)) Zc)))))
   (Zd (ZZ PassesOwn.never rfl (UP (K:=K) rfl (by rfl) ZP (Za (Zm Jn hr (Za (pv 0) Zc)) Zc)) (Yr (K:=K) (n:=2) rfl rfl (Zw (Zl (i:=2) Gz.nd rfl (Or.inl rfl)) (Zw (Zl (i:=3) Gz.nd rfl (Or.inl rfl)) Yw))) (Zh (ZZ PassesOwn.never rfl (ZC (K:=K) rfl (pv 3)) (Zl (i:=4) Gz.nd rfl (Or.inl rfl)) (Zh (Yl (pv 2) (YJ (pv 1) (pv 4) set_list))))))
   (Zh (Zs (pv 1))))),?_⟩
  refine ⟨(by show 1<=sizeLine;decide),fun l0 hl0=>?_⟩
  have s0:Ze H (upd H l0 (.lst [.int 0])):=Ze.laid hl0
  refine ⟨_,rfl,l,xs,ls,rfl,s0 l _ hl,hL.same s0,hlen,hW.kd,fun eA H1 fe s1 ee=>?_⟩
  refine ⟨eA,_,rfl,.inl (Zo.of ee),_,_,rfl,rfl,.inl ⟨by decide,by decide⟩,?_⟩
  have el:((2:Int)*((((Z0 ls (fun x=>decide (x = "end")) ls.length).map V.int).length:Nat):Int))=((N:Nat):Int):=by
   rw [List.length_map]
   have:(Z0 ls (fun x=>decide (x = "end")) ls.length).length=(Z0 ls isE ls.length).length:=rfl
   lia
  show ZkV (V.ref l0) (V.int ((2:Int)*((((Z0 ls (fun x=>decide (x = "end")) ls.length).map V.int).length:Nat):Int))) H1 _
  rw [el]
  refine ⟨l0,_,_,rfl,rfl,s1 l0 _ Zb,by lia,by lia,(by show 1*_<=sizeLine;exact Nat.le_of_lt (ZA (by lia))),fun rA hrA=>?_⟩
  obtain ⟨H2,hH2⟩:∃H2,H2=upd H1 rA (.lst (List.replicate ((N:Nat):Int).toNat [V.int 0]).flatten):=⟨_,rfl⟩
  rw [<- hH2]
  have s02:Ze H H2:=by rw [hH2];exact (s0.trans s1).step hrA
  have hrH:H rA=none:=(s0.trans s1).free hrA
  have hr2:H2 rA=some (.lst (tab N fun _=>V.int 0)):=by rw [hH2,Zb,Int.toNat_natCast,Ug]
  refine ⟨_,rfl,l,xs,ls,rfl,s02 l _ hl,hL.same s02,hlen,hW,fun tsA H3 ys ts ft s3 et rv ap tr=>?_⟩
  rw [hn'] at tr
  have good:=tr.good M (Int.le_refl _)
  have htr:tsA≠rA:=(Zg hr2 ft).symm
  refine ⟨tsA,rfl,⟨_,Zo.of et⟩,Zfl (K:=K) (a:=tsA) (xs:=ys) (fun i σ H'=>∃(v2 v3 v4:Option V),σ = [some (.ref l),some (.ref rA),v2,v3,v4]/\Jh rA H3 H'/\H' rA=some (.lst (tab N fun x=>V.int (if x∈(ts.take i).flatten then ixT ts x else 0))))
   ⟨none,none,none,rfl,Jh.refl _ _,?_⟩ (fun i σ H' _ ⟨_,_,_,_,fr,_⟩=>Zo.of (fr tsA _ et htr)) ?_ ?_⟩
  ·rw [s3 rA _ hr2]
   exact congrArg (fun z=>some (HO.lst z)) (ZQ fun x _ _=>by simp)
  ·rintro i x p σ H' hx ⟨v2,v3,v4,rfl,fr,hr'⟩ hp
   obtain ⟨q,T,hT,rfl,hq⟩:=rv.atX hx
   have hqr:q≠rA:=(Zg hr2 (ap q (List.mem_of_getElem? hx))).symm
   have hq':=fr q _ hq hqr
   have tdom:∀x∈T,0<=x/\x<(N:Int):=fun x hx=>good.2.1 x (List.mem_flatten.mpr ⟨T,List.mem_of_getElem? hT,hx⟩)
   obtain ⟨G0,hG0⟩:∃G0,G0=upd H' p (.tup [.int i,.ref q]):=⟨_,rfl⟩
   have sp:Ze H' G0:=by rw [hG0];exact Ze.laid hp
   have ep:G0 p=some (.tup [.int i,.ref q]):=by rw [hG0];exact Zb
   rw [<- hG0]
   refine ⟨p,_,rfl,Uw.of ep,rfl,_,_,rfl,_,_,rfl,rfl,?_⟩
   refine ⟨_,rfl,q,rfl,⟨_,Zo.of (sp q _ hq')⟩,Ye (K:=K) (a:=q) (xs:=T.map V.int) (fun j σ H''=>∃v4:Option V,σ = [some (.ref l),some (.ref rA),some (.int i),some (.ref q),v4]/\Jh rA H3 H''/\H'' rA=some (.lst (tab N fun x=>V.int (if x∈(ts.take i).flatten∨x∈T.take j then ixT ts x else 0))))
    ⟨_,rfl,fr.trans sp.frm,?_⟩ (fun j σ H'' _ ⟨_,_,f',_⟩=>Zo.of (f' q _ hq hqr)) ?_ ?_⟩
   ·rw [sp rA _ hr']
    exact congrArg (fun z=>some (HO.lst z)) (ZQ fun x _ _=>by simp)
   ·rintro j x σ H'' hx' ⟨v4,rfl,f',hr''⟩
    obtain ⟨t,ht,rfl⟩:=YI hx'
    obtain ⟨d0,d1⟩:=tdom t (List.mem_of_getElem? ht)
    have it:=Zpm good.1 hT (List.mem_of_getElem? ht)
    obtain ⟨tn,rfl⟩:=Int.eq_ofNat_of_zero_le d0
    refine ⟨_,rfl,_,rfl,_,rfl,rA,_,_,tn,rfl,rfl,hr'',(by rw [Jx];exact JI (by lia)),?_⟩
    refine ⟨_,rfl,f'.trans Jh.upd,?_⟩
    rw [Zb,GY]
    refine congrArg (fun z=>some (HO.lst z)) (ZQ fun x _ _=>?_)
    rw [List.take_add_one,ht]
    by_cases e:x=(tn:Int)
    ·rw [if_pos e,if_pos (.inr (by rw [e];simp)),e,it]
    ·rw [if_neg e]
     simp [e]
   ·rintro σ H'' ⟨v4,rfl,f',hr''⟩
    refine ⟨_,_,_,rfl,f',?_⟩
    rw [hr'',List.length_map,List.take_of_length_le (Nat.le_refl _),List.take_add_one,hT]
    exact congrArg (fun z=>some (HO.lst z)) (ZQ fun x _ _=>by simp)
  ·rintro σ H' ⟨v2,v3,v4,rfl,fr,hr'⟩
   refine ⟨_,rfl,k rA H' ts hrH (fun c o e=>fr c o (s3 c o (s02 c o e)) (Zg e hrH)) tr ?_⟩
   rw [rv.len,List.take_of_length_le (Nat.le_refl _)] at hr'
   rw [hr',ZcL]
   refine congrArg (fun z=>some (HO.lst z)) (ZQ fun x h0 h1=>?_)
   obtain ⟨j,rfl⟩:=Int.eq_ofNat_of_zero_le h0
   rw [if_pos (tr.mem j (by lia))]
theorem take_snoc {α:Type}{l:List α}{j:Nat}{x:α} (h:l[j]? = some x):l.take (j+1)=l.take j ++ [x]:=by rw [List.take_add_one,h];rfl
def Zh3:Sp:=fun vs H Q _=>∃(d l:Addr) (L ws:WS),vs = [.ref d,.ref l]/\DOd H d L/\WL H l ws/\L.length+ws.length<=2000000 /\ ∀H',Jh d H H'->DOd H' d (L++ws)->Q .non H'
abbrev Zln:Stmt:=top 15
theorem Zkg:Zp ["odd", "words", "word"] ["odd", "words"] (Zi Zln):={}
theorem Zon {f:Addr}{fd:FuncData} (F:Yd K "put" "put" Zln f fd):ZX P w K mg base J2 1 f fd ["odd", "words"] Zh3:=by
 refine F.ok Zkg (fun vs H Q E h=>?_) (fun cdv A outer s H vs Q E hr h=>?_)
 ·obtain ⟨d,l,L,ws,rfl,_⟩:=h
  rfl
 ·obtain ⟨d,l,L,ws,rfl,hd,hl,hz,k⟩:=h
  refine ⟨_,(Zh (ZZ PassesOwn.never rfl (ZC (K:=K) rfl (pv 1)) (Zl (i:=2) Zkg.nd rfl (Or.inl rfl)) (Zh (YO (Znk (Znt (Zig hr) (pv 2) (pv 0))) (Zh (Zkr (Zig hr) (pv 0) (pv 2))) (Zh (Yl Wi (YJ (pv 0) (pv 2) (set_dict (Zig hr))))))))),?_⟩
  obtain ⟨xs,el,hw⟩:=id hl
  have hdl:l≠d:=fun z=>by
   obtain ⟨_,_,e,_⟩:=hd
   rw [z,e] at el;cases el
  have lx:=Words.len hw
  refine ⟨_,rfl,l,rfl,⟨_,Zo.of el⟩,Ye (K:=K) (a:=l) (xs:=xs) (fun j σ G=>∃v2:Option V,σ = [some (.ref d),some (.ref l),v2]/\Jh d H G/\DOd G d (L++ws.take j)) ⟨none,rfl,Jh.refl _ _,by simpa using hd⟩ (fun j σ G _ ⟨_,_,fr,_⟩=>Zo.of (fr l _ el hdl)) ?_ ?_⟩
  ·rintro j x σ G hx ⟨v2,rfl,fr,dg⟩
   obtain ⟨w,hj,p,rfl,hp⟩:=Words.get hw hx
   have ep:G p=some (.tup ((kW w).map kV)):=by rw [Zpc];exact hd.tups fr p _ hp
   obtain ⟨kvs,ks,ed,ek,ok⟩:=dg
   have hlen:=ok.len
   have lk:kvs.length=ks.length:=by simpa using congrArg List.length ek
   rw [List.length_append,List.length_take] at hlen
   refine ⟨_,rfl,_,rfl,d,_,rfl,Zdj.t ed ep,_,rfl,Jy (fun hp=>?_) (fun hp=>?_)⟩
   ·refine ⟨_,rfl,_,rfl,d,kvs,kW w,p,rfl,ed,rfl,ep,hp,?_⟩
    refine ⟨_,rfl,fr.trans Jh.upd,_,_,Zb,Zeb ek,?_⟩
    rw [take_snoc hj,<- List.append_assoc]
    exact ZjW ok ((Zfk ek).mp hp)
   ·have nk:w∉ks:=fun z=>hp ((Zfk ek).mpr z)
    refine ⟨_,rfl,_,rfl,d,_,rfl,Zk6.t ed ep (by rw [sizeLine_eq];lia),?_⟩
    refine ⟨_,rfl,fr.trans Jh.upd,_,_,Zb,Zkn ek nk,?_⟩
    rw [take_snoc hj,<- List.append_assoc]
    exact ZlP ok nk
  ·rintro σ G ⟨v2,rfl,fr,dg⟩
   refine k G fr ?_
   rwa [List.take_of_length_le (by lia)] at dg
def Zcz:Sp:=fun vs H Q _=>∃(a b:Addr) (L M:WS),vs = [.ref a,.ref b]/\WL H a L/\WL H b M/\L.length+M.length<=2000000 /\ ∀(p:Addr) (H':Hp) (r:WS),H p=none->Ze H H'->WL H' p r->Y2 (L++M) r->Q (.ref p) H'
abbrev Zfp:Stmt:=top 16
theorem ZfX:Zp ["one", "other", "odd"] ["one", "other"] (Zi Zfp):={}
theorem Zj9 {f:Addr}{fd:FuncData} (F:Yd K "added" "added" Zfp f fd) (ZcW:Yg P w K mg base 1 "put" ["odd", "words"] Zh3) (JC:mg "sorted" = none):ZX P w K mg base J2 2 f fd ["one", "other"] Zcz:=by
 refine F.ok ZfX (fun vs H Q E h=>?_) (fun cdv A outer s H vs Q E hr h=>?_)
 ·obtain ⟨a,b,L,M,rfl,_⟩:=h
  rfl
 ·obtain ⟨a,b,L,M,rfl,ha,hb,hz,k⟩:=h
  refine ⟨_,(Zd (Zq (i:=2) ZfX.nd rfl (Or.inl rfl) Zgw)
   (Zd (Ya (Zm ZcW hr (Za (pv 2) (Za (pv 0) Zc))))
   (Zd (Ya (Zm ZcW hr (Za (pv 2) (Za (pv 1) Zc))))
   (Zh (Zs (ZE (Zau rfl hr.units) (by rfl) JC boot_sorted (Za (pv 2) Zc))))))),?_⟩
  intro d hd
  have s0:Ze H (upd H d (.dT [])):=Ze.laid hd
  have d0:DOd (upd H d (.dT [])) d []:=⟨[],[],Zb,rfl,Zf8⟩
  refine ⟨_,rfl,_,rfl,d,a,[],L,rfl,d0,ha.same s0,by simp;lia,fun H1 f1 d1=>?_⟩
  refine ⟨_,rfl,_,rfl,d,b,_,M,rfl,d1,d0.wl f1 (hb.same s0),by simpa using hz,fun H2 f2 d2=>?_⟩
  have sm:Ze H H2:=fun c o e=>by
   have nd:=Zg e hd
   exact f2 c o (f1 c o (s0 c o e) nd) nd
  obtain ⟨kvs,ks,ed,ek,ok⟩:=d2
  refine ⟨_,rfl,d,kvs,ks,rfl,ed,ek,fun l zs vs hl pm hw rs=>?_⟩
  have s3:Ze H2 (upd H2 l (.lst zs)):=Ze.laid hl
  exact k l _ vs (sm.free hl) (sm.trans s3) ⟨zs,Zb,Words.same s3 hw⟩ (by simpa using ok.odd pm rs)
def Zhe:Sp:=fun vs H Q _=>∃(a b:Addr) (L M:WS),vs = [.ref a,.ref b]/\WL H a L/\WL H b M/\L2.Gd 1000 100000 L/\L2.Gd 1000 100000 M /\ ∀(p:Addr) (H':Hp) (r:WS),H p=none->Ze H H'->WL H' p r->Y2 (prd L M) r->Q (.ref p) H'
theorem ZjU {L:WS}{j:Nat}{w:List Int} (h:L[j]? = some w) (M:WS):prd (L.take (j+1)) M=prd (L.take j) M++M.map fun v=>w++v:=by
 rw [take_snoc h,ZlX,J7]
 simp [prd]
abbrev Wq:Stmt:=top 17
theorem Gq:Zp ["one", "other", "odd", "word"] ["one", "other"] (Zi Wq):={}
theorem ZlQ {f:Addr}{fd:FuncData} (F:Yd K "multiplied" "multiplied" Wq f fd) (ZcW:Yg P w K mg base 1 "put" ["odd", "words"] Zh3) (JC:mg "sorted" = none):ZX P w K mg base J2 2 f fd ["one", "other"] Zhe:=by
 refine F.ok Gq (fun vs H Q E h=>?_) (fun cdv A outer s H vs Q E hr h=>?_)
 ·obtain ⟨a,b,L,M,rfl,_⟩:=h
  rfl
 ·obtain ⟨a,b,L,M,rfl,ha,hb,gL,gM,k⟩:=h
  refine ⟨_,(Zd (Zq (i:=2) Gq.nd rfl (Or.inl rfl) Zgw)
   (Zd (ZZ PassesOwn.never rfl (ZC (K:=K) rfl (pv 0)) (Zl (i:=3) Gq.nd rfl (Or.inr rfl)) (Zh (Ya (Zm ZcW hr (Za (pv 2) (Za (WZ (Ls:=["behind"]) (Fs:=["word"]) (fi:=[3]) (ZU.of (show YC ["one", "other", "odd", "word"] (Zi Wq) _ ["word"] [3]=true by decide +kernel)) rfl (ZC (K:=K) rfl (pv 1)) (fun cl C s3 H3 ex=>⟨(Zl (i:=0) (show ((["behind"]:List Str)++(["word"]:List Str)).Nodup by decide +kernel) rfl (Or.inl rfl)),Yf,(Zn Zl0 (pv 1) (pv 0))⟩)) Zc))))))
   (Zh (Zs (ZE (Zau rfl hr.units) (by rfl) JC boot_sorted (Za (pv 2) Zc)))))),?_⟩
  intro d hd
  have s0:Ze H (upd H d (.dT [])):=Ze.laid hd
  have d0:DOd (upd H d (.dT [])) d []:=⟨[],[],Zb,rfl,Zf8⟩
  obtain ⟨xs,ea,wa⟩:=id ha
  obtain ⟨ys,eb,wb⟩:=id hb
  have lx:=Words.len wa
  have ly:=Words.len wb
  have nL:=gL.1
  have nM:=gM.1
  refine ⟨_,rfl,a,rfl,⟨_,Zo.of (s0 a _ ea)⟩,Ye (K:=K) (a:=a) (xs:=xs) (fun j σ G=>∃v3:Option V,σ = [some (.ref a),some (.ref b),some (.ref d),v3]/\Ze H G/\DOd G d (prd (L.take j) M)) ⟨none,rfl,s0,by simpa [prd] using d0⟩ (fun j σ G _ ⟨_,_,sg,_⟩=>Zo.of (sg a _ ea)) ?_ ?_⟩
  ·rintro j x σ G hx ⟨v3,rfl,sg,dg⟩
   obtain ⟨w,hj,wx⟩:=Words.get wa hx
   have gw:=gL.2 w (List.mem_of_getElem? hj)
   refine ⟨_,rfl,_,rfl,b,rfl,⟨_,Zo.of (sg b _ eb)⟩,Y8 (K:=K) (xs:=ys) (by rw [sizeLine_eq];lia) (fun i zs G'=>Ze G G'/\Words G' zs ((M.take i).map fun v=>w++v)) ⟨Ze.refl _,.nil⟩
    (fun i zs G' ⟨_,z⟩=>by rw [Words.len z,List.length_map,List.length_take];lia) (fun i zs G' ⟨s',_⟩=>Zo.of (s' b _ (sg b _ eb))) ?_ ?_⟩
   ·rintro i y zs G' hy ⟨s',wz⟩
    obtain ⟨v,hv,wy⟩:=Words.get wb hy
    have gv:=gM.2 v (List.mem_of_getElem? hv)
    have wx':Zaq G' x w:=(wx.same sg).same s'
    have wy':Zaq G' y v:=(wy.same sg).same s'
    have em:(M.take (i+1)).map (fun v=>w++v)=(M.take i).map (fun v=>w++v) ++ [w++v]:=by rw [take_snoc hv,List.map_append];rfl
    dsimp only [J0,Gf]
    refine Zar ⟨_,rfl,_,rfl,w,v,wx',wy',by rw [sizeLine_eq];lia,fun z=>⟨s',?_⟩,fun z=>⟨s',?_⟩,fun p hp=>⟨s'.step hp,?_⟩⟩
    ·rw [em];refine Words.snoc wz ?_;rw [z];exact wy'
    ·rw [em];refine Words.snoc wz ?_;rw [z,List.append_nil];exact wx'
    ·rw [em];exact Words.snoc (Words.same (Ze.laid hp) wz) ⟨p,rfl,Zb⟩
   ·rintro zs G' ⟨s',wz⟩ D hD
    rw [List.take_of_length_le (by lia)] at wz
    have s2:Ze G' (upd G' D (.lst zs)):=Ze.laid hD
    have s3:Ze G (upd G' D (.lst zs)):=s'.trans s2
    have dg2:DOd (upd G' D (.lst zs)) d (prd (L.take j) M):=let ⟨kvs,ks,e,r⟩:=dg;⟨kvs,ks,s3 d _ e,r⟩
    refine ⟨d,D,_,_,rfl,dg2,⟨zs,Zb,Words.same s2 wz⟩,?_,fun G2 f2 d2=>?_⟩
    ·have h1:(L.take j).length*M.length<=1000*1000:=Nat.mul_le_mul (by rw [List.length_take];lia) nM
     rw [Zcw,List.length_map]
     lia
    ·refine ⟨_,rfl,fun c o e=>f2 c o (s3 c o (sg c o e)) (Zg e hd),?_⟩
     rw [ZjU hj]
     exact d2
  ·rintro σ G ⟨v3,rfl,sg,dg⟩
   rw [List.take_of_length_le (by lia)] at dg
   obtain ⟨kvs,ks,ed,ek,ok⟩:=dg
   refine ⟨_,rfl,d,kvs,ks,rfl,ed,ek,fun l zs vs hl pm hw rs=>?_⟩
   have s3:Ze G (upd G l (.lst zs)):=Ze.laid hl
   exact k l _ vs (sg.free hl) (sg.trans s3) ⟨zs,Zb,Words.same s3 hw⟩ (ok.odd pm rs)
def ZcD:Stmt->List Stmt
 | .ClassDef _ _ _ body ..=>body
 | _=>[]
def Zcd (H:Hp) (C x:Addr):Prop:=∃(dx:Addr) (fs:List (Str×V)),H x=some (.ins C dx fs)/\fs = []
theorem Zgy {H H':Hp}{C x:Addr} (s:Ze H H') (h:Zcd H C x):Zcd H' C x:=let ⟨dx,fs,e,q⟩:=h;⟨dx,fs,s _ _ e,q⟩
def ZaV (C:Addr):Sp:=fun vs H Q _=>∃x:Addr,vs = [.ref x] /\ ∀(p:Addr) (H':Hp),H p=none->Ze H H'->WL H' p []->Q (.ref p) H'
def Zhs (C:Addr):Sp:=fun vs H Q _=>∃x:Addr,vs = [.ref x] /\ ∀(p:Addr) (H':Hp),H p=none->Ze H H'->WL H' p [[]]->Q (.ref p) H'
def ZcG:Sp:=fun vs H Q _=>∃(x a b:Addr) (L M:WS),vs = [.ref x,.ref a,.ref b]/\WL H a L/\WL H b M/\L.length+M.length<=2000000 /\ ∀(p:Addr) (H':Hp),H p=none->Ze H H'->WL H' p (Jf L M)->Q (.ref p) H'
def Za3:Sp:=fun vs H Q _=>∃(x a b:Addr) (L M:WS),vs = [.ref x,.ref a,.ref b]/\WL H a L/\WL H b M/\L2.Gd 1000 100000 L/\L2.Gd 1000 100000 M /\ ∀(p:Addr) (H':Hp),H p=none->Ze H H'->WL H' p (Ym L M)->Q (.ref p) H'
abbrev JV:Stmt:=(ZcD (top 20)).getD 0 (.Pass ⟨0,0,0,0⟩)
theorem Zby:Zp ["self"] ["self"] (Zi JV):={}
theorem Zjh {C:Addr}{f:Addr}{fd:FuncData} (F:Yd K "nought" "WordWay.nought" JV f fd):ZX P w K mg base J2 1 f fd ["self"] (ZaV C):=by
 refine F.ok Zby (fun vs H Q E h=>?_) (fun cdv A outer s H vs Q E hr h=>?_)
 ·obtain ⟨x,rfl,_⟩:=h
  rfl
 ·obtain ⟨x,rfl,k⟩:=h
  refine ⟨_,(Zh (Zs (ZT Zc))),?_⟩
  exact ⟨(by show 0<=sizeLine;decide),fun p hp=>k p _ hp (Ze.laid hp) ⟨[],Zb,.nil⟩⟩
abbrev WR:Stmt:=(ZcD (top 20)).getD 1 (.Pass ⟨0,0,0,0⟩)
theorem Zck:Zp ["self"] ["self"] (Zi WR):={}
theorem Zmb {C:Addr}{f:Addr}{fd:FuncData} (F:Yd K "unit" "WordWay.unit" WR f fd):ZX P w K mg base J2 1 f fd ["self"] (Zhs C):=by
 refine F.ok Zck (fun vs H Q E h=>?_) (fun cdv A outer s H vs Q E hr h=>?_)
 ·obtain ⟨x,rfl,_⟩:=h
  rfl
 ·obtain ⟨x,rfl,k⟩:=h
  refine ⟨_,(Zh (Zs (ZT (Za (YV Zc) Zc)))),?_⟩
  refine ⟨(by show 0<=sizeLine;decide),fun t ht=>⟨(by show 1<=sizeLine;decide),fun p hp=>k p _ ((Ze.laid ht).free hp) ((Ze.laid ht).step hp) ⟨_,Zb,.cons ⟨t,rfl,Ze.laid hp t _ Zb⟩ .nil⟩⟩⟩
abbrev WE:Stmt:=(ZcD (top 20)).getD 2 (.Pass ⟨0,0,0,0⟩)
theorem Zcg:Zp ["self", "one", "other"] ["self", "one", "other"] (Zi WE):={}
theorem Zj8 {f:Addr}{fd:FuncData} (F:Yd K "plus" "WordWay.plus" WE f fd) (Zaf:Yg P w K mg base 2 "added" ["one", "other"] Zcz):ZX P w K mg base J2 3 f fd ["self", "one", "other"] ZcG:=by
 refine F.ok Zcg (fun vs H Q E h=>?_) (fun cdv A outer s H vs Q E hr h=>?_)
 ·obtain ⟨x,a,b,L,M,rfl,_⟩:=h
  rfl
 ·obtain ⟨x,a,b,L,M,rfl,ha,hb,hz,k⟩:=h
  refine ⟨_,(Zh (Zs (Zm Zaf hr (Za (pv 1) (Za (pv 2) Zc))))),?_⟩
  exact ⟨_,rfl,_,rfl,a,b,L,M,rfl,ha,hb,hz,fun p H' r fp s' wr od=>k p H' fp s' (by have:=od.canon;subst this;exact wr)⟩
abbrev Wb:Stmt:=(ZcD (top 20)).getD 3 (.Pass ⟨0,0,0,0⟩)
theorem Zbz:Zp ["self", "one", "other"] ["self", "one", "other"] (Zi Wb):={}
theorem Zjn {f:Addr}{fd:FuncData} (F:Yd K "times" "WordWay.times" Wb f fd) (GS:Yg P w K mg base 2 "multiplied" ["one", "other"] Zhe):ZX P w K mg base J2 3 f fd ["self", "one", "other"] Za3:=by
 refine F.ok Zbz (fun vs H Q E h=>?_) (fun cdv A outer s H vs Q E hr h=>?_)
 ·obtain ⟨x,a,b,L,M,rfl,_⟩:=h
  rfl
 ·obtain ⟨x,a,b,L,M,rfl,ha,hb,gL,gM,k⟩:=h
  refine ⟨_,(Zh (Zs (Zm GS hr (Za (pv 1) (Za (pv 2) Zc))))),?_⟩
  exact ⟨_,rfl,_,rfl,a,b,L,M,rfl,ha,hb,gL,gM,fun p H' r fp s' wr od=>k p H' fp s' (by have:=od.canon;subst this;exact wr)⟩
theorem ZcA (xs:List V) (k:Nat):Zcj xs none (some (k:Int))=xs.take k:=by
 unfold Zcj
 rw [HT.ZfS,HT.Zii,List.drop_zero,Nat.sub_zero,List.take_eq_take_iff]
 lia
theorem Zk4 (xs:List V) (k:Nat):Zcj xs (some (k:Int)) none=xs.drop k:=by
 unfold Zcj
 rw [HT.ZfS,HT.Zii]
 by_cases h:k<=xs.length
 ·rw [Nat.min_eq_left h,List.take_of_length_le (by rw [List.length_drop];lia)]
 ·rw [Nat.min_eq_right (by lia),Nat.sub_self,List.take_zero,List.drop_of_length_le (by lia)]
def Zob (k:Nat) (f:Nat->WS):Nat->WS:=fun j=>if j<k then f j else if j<k+2 then [] else f (j-2)
theorem Zls {α:Type}{xs:List α}{a b:α}{k:Nat} (hk:k<=xs.length) {j:Nat}{x:α} (h:(xs.take k ++ [a,b]++xs.drop k)[j]? = some x):(j<k/\xs[j]? = some x)∨(j=k/\x=a)∨(j=k+1/\x=b)∨(k+2<=j/\xs[j-2]? = some x):=by
 have lt:(xs.take k).length=k:=by rw [List.length_take];lia
 by_cases h1:j<k
 ·rw [List.append_assoc,List.getElem?_append_left (by lia),List.getElem?_take,if_pos h1] at h
  exact .inl ⟨h1,h⟩
 ·by_cases h2:j<k+2
  ·rw [List.getElem?_append_left (by rw [List.length_append,lt];simp;lia),List.getElem?_append_right (by lia),lt] at h
   by_cases h3:j=k
   ·subst h3;rw [Nat.sub_self] at h;cases h;exact .inr (.inl ⟨rfl,rfl⟩)
   ·have:j=k+1:=by lia
    subst this
    rw [show k+1-k=1 by lia] at h
    cases h
    exact .inr (.inr (.inl ⟨rfl,rfl⟩))
  ·rw [List.getElem?_append_right (by rw [List.length_append,lt];simp;lia),List.length_append,lt,List.getElem?_drop] at h
   refine .inr (.inr (.inr ⟨by lia,?_⟩))
   rw [<- h]
   congr 1
   simp
   lia
theorem ZhQ {α:Type}{xs:List α}{a b:α}{k:Nat} (hk:k<=xs.length):(xs.take k ++ [a,b]++xs.drop k).length=xs.length+2:=by
 simp;lia
theorem ZlL {H:Hp}{A:List Addr}{n k:Nat}{F:Nat->Nat->WS}{r0 r1:Addr}{w:Nat} (x:Mat H A n w F) (y:Mat H [r0,r1] 2 w fun _ _=>[]) (hk:k<=n) (h0:r0∉A) (h1:r1∉A):
  Mat H (A.take k ++ [r0,r1]++A.drop k) (n+2) w fun i j=>if i<k then F i j else if i<k+2 then [] else F (i-2) j:=by
 have hl:=x.1
 refine ⟨by rw [ZhQ (by lia),hl],?_,fun i r h=>?_⟩
 ·have p:(A.take k ++ [r0,r1]++A.drop k).Perm ([r0,r1]++A):=by
   refine (List.Perm.append_right _ List.perm_append_comm).trans ?_
   rw [List.append_assoc,List.take_append_drop]
  rw [p.nodup_iff,List.nodup_append]
  refine ⟨y.2.1,x.2.1,fun a ha b hb e=>?_⟩
  subst e
  rcases List.mem_cons.mp ha with rfl | ha
  ·exact h0 hb
  ·rw [List.mem_singleton.mp ha] at hb;exact h1 hb
 ·rcases Zls (by lia) h with ⟨a,b⟩ | ⟨a,b⟩ | ⟨a,b⟩ | ⟨a,b⟩
  ·exact (x.2.2 i r b).congr fun j _=>by dsimp only;rw [if_pos a]
  ·subst a b
   exact (y.2.2 0 r rfl).congr fun j _=>by dsimp only;rw [if_neg (by lia),if_pos (by lia)]
  ·subst a b
   exact (y.2.2 1 r rfl).congr fun j _=>by dsimp only;rw [if_neg (by lia),if_pos (by lia)]
  ·exact (x.2.2 (i-2) r b).congr fun j _=>by dsimp only;rw [if_neg (by lia),if_neg (by lia)]
def Sep (a:Addr) (H:Hp) (A:List Addr):Prop:=∀r∈A,r≠a /\ ∀(xs:List V) (e:Addr),H r=some (.lst xs)->V.ref e∈xs->e≠a
theorem Zgk {H:Hp}{A:List Addr}{m n:Nat}{F:Nat->Nat->WS}{a:Addr}{us vs:List V} (x:Mat H A m n F) (s:Sep a H A) (ha:H a=some (.lst us)):Mat (upd H a (.lst vs)) A m n F:=by
 refine ⟨x.1,x.2.1,fun i r h=>?_⟩
 obtain ⟨xs,e1,l,c⟩:=x.2.2 i r h
 obtain ⟨n1,n2⟩:=s r (List.mem_of_getElem? h)
 refine ⟨xs,by rw [Zj n1];exact e1,l,fun j y hy=>?_⟩
 obtain ⟨e,p,q⟩:=c j y hy
 refine ⟨e,p,q.upd ha (n2 xs e e1 (by rw [<- p];exact List.mem_of_getElem? hy))⟩
theorem ZlY {G H:Hp}{A:List Addr}{m n:Nat}{F:Nat->Nat->WS}{a:Addr} (x:Mat G A m n F) (s:Ze G H) (ha:G a=none):Sep a H A:=fun r hr=>by
 obtain ⟨i,hi,rfl⟩:=List.getElem_of_mem hr
 obtain ⟨xs,e1,l,c⟩:=x.2.2 i A[i] (by simp)
 refine ⟨Zg e1 ha,fun ys e h he=>?_⟩
 rw [s _ _ e1] at h
 have hxy:xs=ys:=by injection h with h;injection h
 subst hxy
 obtain ⟨j,hj⟩:=List.mem_iff_getElem?.mp he
 obtain ⟨e',p,us,q,_⟩:=c j _ hj
 cases p
 exact Zg q ha
def Zmm (B G:Hp) (Z:List Addr):Prop:=∀r∈Z,B r=none /\ ∃ws,G r=some (.lst ws) /\ ∀e,V.ref e∈ws->B e=none
theorem Zee {B G G':Hp}{Z:List Addr} (s:Ze G G') (h:Zmm B G Z):Zmm B G' Z:=fun r hr=>let ⟨a,ws,b,c⟩:=h r hr;⟨a,ws,s _ _ b,c⟩
theorem Zmf {B H:Hp}{A:List Addr}{a:Addr}{o:HO} (x:Zmm B H A) (ha:B a=some o):Sep a H A:=fun r hr=>by
 obtain ⟨h1,ws,h2,h3⟩:=x r hr
 refine ⟨(fun z=>by rw [z,ha] at h1;cases h1),fun xs e hx he z=>?_⟩
 rw [h2] at hx
 have hxy:ws=xs:=by injection hx with hx;injection hx
 subst hxy
 have:=h3 e he
 rw [z,ha] at this;cases this
def Ze3 (C:Addr):Sp:=fun vs H Q _=>∃(tA x:Addr) (n k:Nat) (F:Nat->Nat->WS),vs = [.ref tA,.int (k:Int),.ref x]/\Zcd H C x/\Tab H tA n F/\k<=n/\n<=500 /\ ∀(p:Addr) (H':Hp),H p=none->Ze H H'->Tab H' p (n+2) (UT k F)->Q (.ref p) H'
abbrev Y3:Stmt:=top 10
theorem Uq:Zp ["table", "k", "way", "rows"] ["table", "k", "way"] (Zi Y3):={}
theorem Zk1 {C:Addr}{f:Addr}{fd:FuncData} (F:Yd K "behind_birth" "behind_birth" Y3 f fd) (c_way:Cls K C) (J4:Zbv P w K mg base 1 C "nought" ["self"] (ZaV C)) (ZhD:Zbv P w K mg base 1 C "unit" ["self"] (Zhs C)) (ZF:mg "range" = none) (ZJ:mg "len" = none):ZX P w K mg base J2 2 f fd ["table", "k", "way"] (Ze3 C):=by
 refine F.ok Uq (fun vs H Q E h=>?_) (fun cdv A outer s H vs Q E hr h=>?_)
 ·obtain ⟨tA,x,n,k,F,rfl,_⟩:=h
  rfl
 ·obtain ⟨tA,x,n,k,F,rfl,hw,hT,hk,hn,fin⟩:=h
  refine ⟨_,(Zd (Zc2 (i:=3) Uq.nd rfl (Or.inl rfl) (Ls:=["row"]) (Fs:=["k", "way"]) (fi:=[1,2]) (ZU.of (show YC ["table", "k", "way", "rows"] (Zi Y3) _ ["k", "way"] [1,2]=true by decide +kernel)) rfl (ZC (K:=K) rfl (pv 0)) (fun cl C s3 H3 ex=>⟨(Zl (i:=0) (show ((["row"]:List Str)++(["k", "way"]:List Str)).Nodup by decide +kernel) rfl (Or.inl rfl)),Yf,(Zn ZdH (Zn ZdH (J5 (JZ (K:=K) rfl) (pv 0) Gh (YA (pv 1))) (ZT (Za (UJ J4 c_way (hr.mono (by decide)) (pv 2)) (Za (UJ J4 c_way (hr.mono (by decide)) (pv 2)) Zc)))) (J5 (JZ (K:=K) rfl) (pv 0) (YA (pv 1)) Gh))⟩))
   (Zd (Yl (WZ (Ls:=["new"]) (Fs:=["way", "table"]) (fi:=[2,0]) (ZU.of (show YC ["table", "k", "way", "rows"] (Zi Y3) _ ["way", "table"] [2,0]=true by decide +kernel)) rfl (Yj (by rfl) ZF (Za Zf Zc)) (fun cl C s3 H3 ex=>⟨(Zl (i:=0) (show ((["new"]:List Str)++(["way", "table"]:List Str)).Nodup by decide +kernel) rfl (Or.inl rfl)),Yf,(WZ (Ls:=["j"]) (Fs:=["way"]) (fi:=[1]) (ZU.of (by rfl)) rfl (Yj (by rfl) ZF (Za (Zn ZN (ZE (ZW (K:=K) rfl) (by rfl) ZJ PySem.boot_len (Za (pv 2) Zc)) Zf) Zc)) (fun cl C s3 H3 ex=>⟨(Zl (i:=0) (show ((["j"]:List Str)++(["way"]:List Str)).Nodup by decide +kernel) rfl (Or.inl rfl)),Yf,(UJ J4 c_way (hr.mono (by decide)) (pv 1))⟩))⟩)) (ZgS (pv 3) (YA (pv 1)) (YA (pv 1))))
   (Zd (Yl (UJ ZhD c_way (hr.mono (by decide)) (pv 2)) (YJ (Zv (Zk (K:=K) rfl) (pv 3) (pv 1) (fun _ _=>rfl)) (Zn ZN (pv 1) Zf) set_list))
   (Zh (Zs (pv 3)))))),?_⟩
  obtain ⟨dx,fs,ew,rfl⟩:=id hw
  obtain ⟨A,et,mt⟩:=id hT
  have lA:=mt.1
  have z2:2<=sizeLine:=by decide
  refine ⟨_,rfl,tA,rfl,⟨_,Zo.of et⟩,Y8 (K:=K) (xs:=A.map V.ref) (by rw [List.length_map,sizeLine_eq];lia) (fun i zs G=>Ze H G /\ ∃Z:List Addr,zs=Z.map V.ref/\Mat G Z i (n+2) fun i j=>Zob k (F i) j) ⟨Ze.refl _,[],rfl,Zaj⟩
   (fun i zs G ⟨_,Z,e,m⟩=>by rw [e,List.length_map,m.1];exact Nat.le_refl _) (fun i zs G ⟨s',_⟩=>Zo.of (s' tA _ et)) ?_ ?_⟩
  ·rintro i v zs G hv ⟨sG,Z,rfl,mZ⟩
   rw [List.getElem?_map] at hv
   obtain ⟨r,hr',rfl⟩:=Option.map_eq_some_iff.mp hv
   obtain ⟨xs,ex,lx,hx⟩:=mt.2.2 i r hr'
   dsimp only [J0,Gf]
   refine Zar ?_
   refine ⟨_,rfl,_,rfl,_,rfl,r,xs,rfl,Zo.of (sG r _ ex),fun p1 f1=>?_⟩
   rw [ZcA]
   have s1:Ze G (upd G p1 (.lst (xs.take k))):=Ze.laid f1
   refine ⟨_,rfl,x,dx,[],rfl,s1 x _ (sG x _ ew),rfl,x,rfl,fun q1 G1 fq1 t1 wq1=>?_⟩
   have S1:=(sG.trans s1).trans t1
   refine ⟨_,rfl,x,dx,[],rfl,S1 x _ ew,rfl,x,rfl,fun q2 G2 fq2 t2 wq2=>?_⟩
   have S2:=S1.trans t2
   refine ⟨z2,fun q3 f3=>?_⟩
   have s3:Ze G2 (upd G2 q3 (.lst [.ref q1,.ref q2])):=Ze.laid f3
   refine ⟨p1,q3,_,_,rfl,rfl,s3 _ _ (t2 _ _ (t1 _ _ Zb)),Zb,(by rw [List.length_take,sizeLine_eq];simp;lia),fun p4 f4=>?_⟩
   have S4:=(S2.trans s3).step (o:=.lst (xs.take k ++ [.ref q1,.ref q2])) f4
   refine ⟨_,rfl,_,rfl,_,rfl,r,xs,rfl,Zo.of (S4 r _ ex),fun p5 f5=>?_⟩
   rw [Zk4]
   have S5:=S4.step (o:=.lst (xs.drop k)) f5
   refine ⟨p4,p5,_,_,rfl,rfl,Ze.laid f5 _ _ Zb,Zb,(by rw [List.length_append,List.length_take,List.length_drop,sizeLine_eq];simp;lia),fun D fD=>?_⟩
   have S6:=S5.step (o:=.lst (xs.take k ++ [.ref q1,.ref q2]++xs.drop k)) fD
   have U:Ze G2 _:=((s3.step (o:=.lst (xs.take k ++ [.ref q1,.ref q2])) f4).step (o:=.lst (xs.drop k)) f5).step (o:=.lst (xs.take k ++ [.ref q1,.ref q2]++xs.drop k)) fD
   have W1:=((s1.trans t1).trans t2).trans U
   refine ⟨S6,Z ++ [D],by rw [List.map_append];rfl,(mZ.same W1).snoc ((mZ.same (((((s1.trans t1).trans t2).trans s3).step f4).step f5)).fresh fD) ⟨_,Zb,by rw [ZhQ (by lia),lx],fun j y hy=>?_⟩⟩
   unfold Zob
   rcases Zls (by lia) hy with ⟨a,b⟩ | ⟨a,b⟩ | ⟨a,b⟩ | ⟨a,b⟩
   ·obtain ⟨e,p,q⟩:=hx j y b
    exact ⟨e,p,by dsimp only;rw [if_pos a];exact q.same S6⟩
   ·subst a b
    exact ⟨q1,rfl,by dsimp only;rw [if_neg (by lia),if_pos (by lia)];exact (wq1.same t2).same U⟩
   ·subst a b
    exact ⟨q2,rfl,by dsimp only;rw [if_neg (by lia),if_pos (by lia)];exact wq2.same U⟩
   ·obtain ⟨e,p,q⟩:=hx (j-2) y b
    exact ⟨e,p,by dsimp only;rw [if_neg (by lia),if_neg (by lia)];exact q.same S6⟩
  rintro zs G ⟨sG,Z,rfl,mZ⟩ rA fA
  rw [List.length_map,lA] at mZ
  obtain ⟨G1,hG1⟩:∃G1,upd G rA (.lst (Z.map V.ref))=G1:=⟨_,rfl⟩
  have sA:Ze G G1:=by rw [<- hG1];exact Ze.laid fA
  have eA:G1 rA=some (.lst (Z.map V.ref)):=by rw [<- hG1];exact Zb
  rw [hG1]
  have S1:=sG.trans sA
  have mZ1:=mZ.same sA
  have fAH:H rA=none:=sG.free fA
  have e2:(((A.map V.ref).length:Int)+2).toNat=n+2:=by rw [List.length_map];lia
  refine ⟨2,rfl,by decide,by decide,ZdG (n:=2) z2 (fun i zs G=>Ze G1 G /\ ∃Z2:List Addr,zs=Z2.map V.ref/\(Mat G Z2 i (n+2) fun _ _=>[])/\Zmm G1 G Z2) ⟨Ze.refl _,[],rfl,Zaj,fun r h=>nomatch h⟩ (fun i zs G ⟨_,Z2,e,m,_⟩=>by rw [e,List.length_map,m.1];exact Nat.le_refl _) ?_ ?_⟩
  ·rintro i zs G2 hi ⟨s2,Z2,rfl,mZ2,nw⟩
   dsimp only [J0,Gf]
   refine Zar ?_
   refine ⟨_,rfl,tA,_,rfl,.inl (Zo.of (s2 _ _ (S1 _ _ et))),_,_,rfl,rfl,_,rfl,by rw [List.length_map];lia,by rw [List.length_map];lia,?_⟩
   rw [e2]
   refine ZdG (n:=n+2) (by rw [sizeLine_eq];lia) (fun j ws G=>Ze G2 G/\ws.length=j /\ ∀(j':Nat) (y:V),ws[j']? = some y -> ∃e,y = .ref e/\WL G e []/\G1 e=none) ⟨Ze.refl _,rfl,fun j' y h=>by simp at h⟩ (fun j ws G ⟨_,e,_⟩=>by rw [e];exact Nat.le_refl _) ?_ ?_
   ·rintro j ws G3 hj ⟨s3,lw,hw3⟩
    dsimp only [J0,Gf]
    refine Zar ⟨_,rfl,x,dx,[],rfl,s3 _ _ (s2 _ _ (S1 _ _ ew)),rfl,x,rfl,fun q G4 fq t4 wq=>⟨s3.trans t4,by rw [List.length_append,lw];rfl,fun j' y hy=>?_⟩⟩
    by_cases z:j'<ws.length
    ·rw [List.getElem?_append_left z] at hy
     obtain ⟨e,p,q,q'⟩:=hw3 j' y hy
     exact ⟨e,p,q.same t4,q'⟩
    ·rw [List.getElem?_append_right (by lia)] at hy
     have:j'-ws.length=0:=by
      have:=(List.getElem?_eq_some_iff.mp hy).1
      simp at this;lia
     rw [this] at hy
     cases hy
     exact ⟨q,rfl,wq,(s2.trans s3).free fq⟩
   ·rintro ws G3 ⟨s3,lw,hw3⟩ D fD
    have sD:Ze G3 (upd G3 D (.lst ws)):=Ze.laid fD
    refine ⟨(s2.trans s3).trans sD,Z2 ++ [D],by rw [List.map_append];rfl,(mZ2.same (s3.trans sD)).snoc ((mZ2.same s3).fresh fD) ⟨ws,Zb,lw,fun j y hy=>?_⟩,fun r hr=>?_⟩
    ·obtain ⟨e,p,q,_⟩:=hw3 j y hy
     exact ⟨e,p,q.same sD⟩
    ·rcases List.mem_append.mp hr with hr | hr
     ·exact Zee (s3.trans sD) nw r hr
     ·rw [List.mem_singleton.mp hr]
      refine ⟨(s2.trans s3).free fD,ws,Zb,fun e he=>?_⟩
      obtain ⟨j,hj⟩:=List.mem_iff_getElem?.mp he
      obtain ⟨e',p,_,q⟩:=hw3 j _ hj
      cases p
      exact q
  rintro zs G2 ⟨s2,Z2,rfl,mZ2,nw⟩ nA fnA
  obtain ⟨r0,r1,rfl⟩:∃r0 r1,Z2 = [r0,r1]:=by
   match Z2,mZ2.1 with
   | [a,b],_=>exact ⟨a,b,rfl⟩
  obtain ⟨G3,hG3⟩:∃G3,upd G2 nA (.lst ([r0,r1].map V.ref))=G3:=⟨_,rfl⟩
  have s3:Ze G2 G3:=by rw [<- hG3];exact Ze.laid fnA
  have enA:G3 nA=some (.lst ([r0,r1].map V.ref)):=by rw [<- hG3];exact Zb
  rw [hG3]
  have s13:=s2.trans s3
  have lZ:=mZ1.1
  have nrA:rA≠nA:=fun z=>by
   have:=s2 _ _ eA
   rw [z,fnA] at this;cases this
  refine ⟨_,rfl,_,rfl,_,rfl,_,rfl,_,rfl,rA,nA,_,_,_,_,rfl,rfl,rfl,rfl,s13 _ _ eA,enA,nrA,by lia,by lia,by rw [List.length_map];lia,by rw [List.length_map,sizeLine_eq];simp;lia,?_⟩
  rw [Int.toNat_natCast,<- List.map_take,<- List.map_drop,<- List.map_append,<- List.map_append]
  have old:∀r∈Z,G1 r≠none:=fun r hr z=>by
   obtain ⟨i,hi,rfl⟩:=List.getElem_of_mem hr
   obtain ⟨xs,e1,_⟩:=mZ1.2.2 i Z[i] (by simp)
   rw [z] at e1;cases e1
  have fr0:r0∉Z:=fun z=>old r0 z (nw r0 (by simp)).1
  have fr1:r1∉Z:=fun z=>old r1 z (nw r1 (by simp)).1
  have m3:=ZlL (mZ1.same s13) (mZ2.same s3) hk fr0 fr1
  have sp:Sep rA G3 (Z.take k ++ [r0,r1]++Z.drop k):=fun r hr=>by
   rw [List.append_assoc,List.mem_append,List.mem_append] at hr
   have o:=ZlY mZ (sA.trans s13) fA
   rcases hr with hr | hr | hr
   ·exact o r (List.mem_of_mem_take hr)
   ·exact Zmf (Zee s3 nw) eA r hr
   ·exact o r (List.mem_of_mem_drop hr)
  obtain ⟨G4,hG4⟩:∃G4,upd G3 rA (.lst ((Z.take k ++ [r0,r1]++Z.drop k).map V.ref))=G4:=⟨_,rfl⟩
  rw [hG4]
  have m4:=Zgk (vs:=(Z.take k ++ [r0,r1]++Z.drop k).map V.ref) m3 sp (s13 _ _ eA)
  rw [hG4] at m4
  have e4:G4 rA=some (.lst ((Z.take k ++ [r0,r1]++Z.drop k).map V.ref)):=by rw [<- hG4];exact Zb
  have S4:Ze H G4:=by rw [<- hG4];exact (S1.trans s13).put fAH
  refine ⟨_,rfl,x,dx,[],rfl,S4 _ _ ew,rfl,x,rfl,fun u G5 fu t5 wu=>?_⟩
  have m5:=m4.same t5
  have hk0:(Z.take k ++ [r0,r1]++Z.drop k)[k]? = some r0:=by
   rw [List.append_assoc,List.getElem?_append_right (by rw [List.length_take];lia),List.length_take]
   rw [show k-min k Z.length=0 by lia]
   rfl
  obtain ⟨xs,ex,lx,_⟩:=m5.2.2 k r0 hk0
  refine ⟨_,rfl,_,rfl,rA,_,_,_,rfl,rfl,Zo.of (t5 _ _ e4),Zt (v:=V.ref r0) (by rw [List.getElem?_map,hk0];rfl),?_⟩
  refine ⟨_,rfl,_,_,rfl,rfl,r0,xs,_,k+1,rfl,rfl,ex,?_,?_⟩
  ·rw [lx]
   show ixN (n+2) ((k:Int)+1)=some (k+1)
   rw [show (k:Int)+1=((k+1:Nat):Int) by lia]
   exact JI (by lia)
  have m6:=m5.put hk0 ex (show k+1<n+2 by lia) wu
  have fr0H:H r0=none:=S1.free (nw r0 (by simp)).1
  refine ⟨_,rfl,fin rA _ fAH ((S4.trans t5).put fr0H) ⟨_,?_,m6.congr fun i j hi hj=>?_⟩⟩
  ·rw [Zj (fun z=>by have:=(nw r0 (by simp)).1;rw [<- z,eA] at this;cases this)]
   exact t5 _ _ e4
  ·unfold ZaM UT Zob
   dsimp only
   by_cases a:i=k/\j=k+1
   ·rw [if_pos a,if_pos a]
   ·rw [if_neg a,if_neg a]
    by_cases b:i<k
    ·rw [if_pos b]
     by_cases c:j<k
     ·rw [if_pos c,if_neg (by lia),if_pos b,if_pos c]
     ·rw [if_neg c]
      by_cases d:j<k+2
      ·rw [if_pos d,if_pos (by lia)]
      ·rw [if_neg d,if_neg (by lia),if_pos b,if_neg c]
    ·rw [if_neg b]
     by_cases b':i<k+2
     ·rw [if_pos b',if_pos (by lia)]
     ·rw [if_neg b']
      by_cases c:j<k
      ·rw [if_pos c,if_neg (by lia),if_neg b,if_pos c]
      ·rw [if_neg c]
       by_cases d:j<k+2
       ·rw [if_pos d,if_pos (by lia)]
       ·rw [if_neg d,if_neg (by lia),if_neg b,if_neg c]
theorem YL {α:Type}{xs:List α}{i:Int}{j:Nat}{v:α} (e:i=(j:Int)) (h:xs[j]? = some v):atI xs i=some v:=by rw [e];exact Zt h
theorem ZbA {n:Nat}{i:Int}{j:Nat} (e:i=(j:Int)) (h:j<n):ixN n i=some j:=by rw [e];exact JI h
structure Wr (H G:Hp) (rA:Addr) (Z:List Addr) (n:Nat) (F:Nat->Nat->WS):Prop where
 sm:Ze H G
 eA:G rA=some (.lst (Z.map V.ref))
 mat:Mat G Z n n F
 fr:∀r∈Z,H r=none/\r≠rA
 fA:H rA=none
theorem ZcK {H G G':Hp}{rA:Addr}{Z:List Addr}{n:Nat}{F:Nat->Nat->WS} (w:Wr H G rA Z n F) (s:Ze G G'):Wr H G' rA Z n F:=⟨w.sm.trans s,s _ _ w.eA,w.mat.same s,w.fr,w.fA⟩
theorem WK {H G:Hp}{rA:Addr}{Z:List Addr}{n:Nat}{F F':Nat->Nat->WS} (w:Wr H G rA Z n F) (h:∀i j,i<n->j<n->F i j=F' i j):Wr H G rA Z n F':=⟨w.sm,w.eA,w.mat.congr h,w.fr,w.fA⟩
theorem ZbG {H G:Hp}{rA e:Addr}{Z:List Addr}{n i j:Nat}{F:Nat->Nat->WS}{L:WS} (w:Wr H G rA Z n F) (hi:i<n) (hj:j<n) (we:WL G e L):
  ∃(r:Addr) (xs:List V),(Z.map V.ref)[i]? = some (.ref r)/\G r=some (.lst xs)/\xs.length=n/\Wr H (upd G r (.lst (xs.set j (.ref e)))) rA Z n (ZaM F i j L):=by
 have hl:=w.mat.1
 have hz:Z[i]? = some (Z[i]'(by lia)):=by simp
 obtain ⟨xs,a,b,c⟩:=w.mat.2.2 i _ hz
 have f:=w.fr _ (List.mem_of_getElem? hz)
 refine ⟨Z[i]'(by lia),xs,by rw [List.getElem?_map,hz];rfl,a,b,w.sm.put f.1,?_,w.mat.put hz a hj we,w.fr,w.fA⟩
 rw [Zj (Ne.symm f.2)];exact w.eA
theorem Zg6 {H G:Hp}{rA:Addr}{Z:List Addr}{n:Nat}{F:Nat->Nat->WS} (w:Wr H G rA Z n F):Tab G rA n F:=⟨Z,w.eA,w.mat⟩
theorem WY {G:Hp}{tA:Addr}{n i j:Nat}{F:Nat->Nat->WS} (x:Tab G tA n F) (hi:i<n) (hj:j<n):∃(ys:List V) (r:Addr) (xs:List V) (e:Addr),G tA=some (.lst ys)/\ys[i]? = some (.ref r)/\G r=some (.lst xs)/\xs[j]? = some (.ref e)/\WL G e (F i j):=by
 obtain ⟨ys,r,a,_,b,c⟩:=x.row hi
 obtain ⟨xs,e,d,_,e1,e2⟩:=c.at hj
 exact ⟨ys,r,xs,e,a,b,d,e1,e2⟩
theorem ZjL {H G:Hp}{Z:List Addr}{n:Nat}{F:Nat->Nat->WS}{rA:Addr} (sm:Ze H G) (m:Mat G Z n n F) (fr:∀r∈Z,H r=none) (fA:G rA=none):Wr H (upd G rA (.lst (Z.map V.ref))) rA Z n F:=
 ⟨sm.step fA,Zb,m.same (Ze.laid fA),fun r hr=>⟨fr r hr,fun z=>m.fresh fA (z ▸ hr)⟩,sm.free fA⟩
def TGd (n b:Nat) (F:Nat->Nat->WS):Prop:=∀i j,i<n->j<n->L2.Gd 200 b (F i j)
theorem Wu {t:Int} (h:0<=t) {n m:Nat} (hn:1<=n) (hm:1<=m):L2.Gd n m [[t]]:=⟨hn,fun w hw=>by
 rw [List.mem_singleton.mp hw]
 exact ⟨hm,fun k hk=>by rw [List.mem_singleton.mp hk];exact h⟩⟩
theorem WJ {A B:WS}{n m n' m':Nat} (a:L2.Gd n m A) (b:L2.Gd n' m' B):L2.Gd (n*n') (m+m') (Ym A B):=(Z5 _).gd (a.prd b)
theorem ZiI {A B:WS}{n m n' m':Nat} (a:L2.Gd n m A) (b:L2.Gd n' m' B):L2.Gd (n+n') (max m m') (Jf A B):=(Z5 _).gd (a.app b)
def cr1 (k:Nat) (t:Int) (F:Nat->Nat->WS) (c:Nat):Nat->Nat->WS:=fun i j=>
 if i=k/\j=k+1 then [] else if i=k/\k+2<=j/\j<k+2+c then F (k+1) j else if i=k+1/\k+2<=j/\j<k+2+c then Jf (F k j) (Ym [[t]] (F (k+1) j)) else F i j
def cr2 (k n:Nat) (t:Int) (F:Nat->Nat->WS) (c:Nat):Nat->Nat->WS:=fun i j=>
 if i<c/\j=k+1 then F i k else if i<c/\j=k then Jf (F i (k+1)) (Ym (F i k) [[t]]) else cr1 k t F (n-(k+2)) i j
theorem Zku (k c:Nat) (t:Int) (F:Nat->Nat->WS) (i j:Nat):ZaM (ZaM (cr1 k t F c) k (k+2+c) (F (k+1) (k+2+c))) (k+1) (k+2+c) (Jf (F k (k+2+c)) (Ym [[t]] (F (k+1) (k+2+c)))) i j=cr1 k t F (c+1) i j:=by
 unfold ZaM cr1
 by_cases e:j=k+2+c
 ·subst e
  by_cases a:i=k+1
  ·subst a
   rw [if_pos ⟨rfl,rfl⟩,if_neg (by lia),if_neg (by lia),if_pos (by lia)]
  ·rw [if_neg (by lia)]
   by_cases b:i=k
   ·subst b
    rw [if_pos ⟨rfl,rfl⟩,if_neg (by lia),if_pos (by lia)]
   ·rw [if_neg (by lia),if_neg (by lia),if_neg (by lia),if_neg (by lia),if_neg (by lia),if_neg (by lia),if_neg (by lia)]
 ·rw [if_neg (by lia),if_neg (by lia)]
  have h1:(i=k/\k+2<=j/\j<k+2+c) ↔ (i=k/\k+2<=j/\j<k+2+(c+1)):=by lia
  have h2:(i=k+1/\k+2<=j/\j<k+2+c) ↔ (i=k+1/\k+2<=j/\j<k+2+(c+1)):=by lia
  simp only [h1,h2]
theorem Zkh (k n c:Nat) (t:Int) (F:Nat->Nat->WS) (i j:Nat):ZaM (ZaM (cr2 k n t F c) c (k+1) (F c k)) c k (Jf (F c (k+1)) (Ym (F c k) [[t]])) i j=cr2 k n t F (c+1) i j:=by
 unfold ZaM cr2
 grind
theorem Zmc (k n:Nat) (t:Int) (F:Nat->Nat->WS) (i j:Nat) (hj:j<n):cr2 k n t F k i j=Wg k t F i j:=by
 unfold cr2 cr1 Wg
 grind
def Ze2 (C:Addr):Sp:=fun vs H Q _=>∃(tA nA x:Addr) (n k:Nat) (t:Int) (F:Nat->Nat->WS),vs = [.ref tA,.int (k:Int),.ref nA,.ref x]/\Zcd H C x/\Tab H tA n F/\WL H nA [[t]]/\0<=t/\k+1<n/\n<=500/\TGd n 50000 F /\
 ∀(p:Addr) (H':Hp),H p=none->Ze H H'->Tab H' p n (Wg k t F)->Q (.ref p) H'
abbrev YY:Stmt:=top 11
theorem YK:Zp ["table", "k", "name", "way", "rows", "j", "i"] ["table", "k", "name", "way"] (Zi YY):={}
theorem ZkY {C:Addr}{f:Addr}{fd:FuncData} (F:Yd K "behind_crossing" "behind_crossing" YY f fd) (c_way:Cls K C) (J4:Zbv P w K mg base 1 C "nought" ["self"] (ZaV C)) (Ub:Zbv P w K mg base 3 C "plus" ["self", "one", "other"] ZcG) (Wm:Zbv P w K mg base 3 C "times" ["self", "one", "other"] Za3) (ZF:mg "range" = none) (ZJ:mg "len" = none) (GP:mg "list" = none):ZX P w K mg base J2 4 f fd ["table", "k", "name", "way"] (Ze2 C):=by
 refine F.ok YK (fun vs H Q E h=>?_) (fun cdv A outer s H vs Q E hr h=>?_)
 ·obtain ⟨tA,nA,x,n,k,t,F,rfl,_⟩:=h
  rfl
 ·obtain ⟨tA,nA,x,n,k,t,F,rfl,hw,hT,hN,ht,hk,hn,tg,fin⟩:=h
  refine ⟨_,(Zd (Zc2 (i:=4) YK.nd rfl (Or.inl rfl) (Ls:=["row"]) (Fs:=[]) (fi:=[]) (ZU.of (show YC ["table", "k", "name", "way", "rows", "j", "i"] (Zi YY) _ [] []=true by decide +kernel)) rfl (ZC (K:=K) rfl (pv 0)) (fun cl C s3 H3 ex=>⟨(Zl (i:=0) (show ((["row"]:List Str)++([]:List Str)).Nodup by decide +kernel) rfl (Or.inl rfl)),Yf,(Zad (ZaG (K:=K) rfl) (by rfl) GP boot_list (Za (pv 0) Zc))⟩))
   (Zd (Yl (UJ J4 c_way (hr.mono (by decide)) (pv 3)) (YJ (Zv (Zk (K:=K) rfl) (pv 4) (pv 1) (fun _ _=>rfl)) (Zn ZN (pv 1) Zf) set_list))
   (Zd (ZZ PassesOwn.never rfl (Zew (by rfl) ZF (Za (Zn ZN (pv 1) Zf) (Za (ZE (ZW (K:=K) rfl) (by rfl) ZJ PySem.boot_len (Za (pv 0) Zc)) Zc))) (Zl (i:=5) YK.nd rfl (Or.inl rfl)) (Zd (Yl (Zv (Zk (K:=K) rfl) (Zv (Zk (K:=K) rfl) (pv 0) (Zn ZN (pv 1) Zf) (fun _ _=>rfl)) (pv 5) (fun _ _=>rfl)) (YJ (Zv (Zk (K:=K) rfl) (pv 4) (pv 1) (fun _ _=>rfl)) (pv 5) set_list))
   (Zh (Yl (JY Ub c_way (hr.mono (by decide)) (pv 3) (Za (Zv (Zk (K:=K) rfl) (Zv (Zk (K:=K) rfl) (pv 0) (pv 1) (fun _ _=>rfl)) (pv 5) (fun _ _=>rfl)) (Za (JY Wm c_way (hr.mono (by decide)) (pv 3) (Za (pv 2) (Za (Zv (Zk (K:=K) rfl) (Zv (Zk (K:=K) rfl) (pv 0) (Zn ZN (pv 1) Zf) (fun _ _=>rfl)) (pv 5) (fun _ _=>rfl)) Zc))) Zc))) (YJ (Zv (Zk (K:=K) rfl) (pv 4) (Zn ZN (pv 1) Zf) (fun _ _=>rfl)) (pv 5) set_list)))))
   (Zd (ZZ PassesOwn.never rfl (Yj (by rfl) ZF (Za (pv 1) Zc)) (Zl (i:=6) YK.nd rfl (Or.inl rfl)) (Zd (Yl (Zv (Zk (K:=K) rfl) (Zv (Zk (K:=K) rfl) (pv 0) (pv 6) (fun _ _=>rfl)) (pv 1) (fun _ _=>rfl)) (YJ (Zv (Zk (K:=K) rfl) (pv 4) (pv 6) (fun _ _=>rfl)) (Zn ZN (pv 1) Zf) set_list))
   (Zh (Yl (JY Ub c_way (hr.mono (by decide)) (pv 3) (Za (Zv (Zk (K:=K) rfl) (Zv (Zk (K:=K) rfl) (pv 0) (pv 6) (fun _ _=>rfl)) (Zn ZN (pv 1) Zf) (fun _ _=>rfl)) (Za (JY Wm c_way (hr.mono (by decide)) (pv 3) (Za (Zv (Zk (K:=K) rfl) (Zv (Zk (K:=K) rfl) (pv 0) (pv 6) (fun _ _=>rfl)) (pv 1) (fun _ _=>rfl)) (Za (pv 2) Zc))) Zc))) (YJ (Zv (Zk (K:=K) rfl) (pv 4) (pv 6) (fun _ _=>rfl)) (pv 1) set_list)))))
   (Zh (Zs (pv 4))))))),?_⟩
  obtain ⟨dx,fs,ew,rfl⟩:=id hw
  obtain ⟨A,et,mt⟩:=id hT
  have lA:=mt.1
  refine ⟨_,rfl,tA,rfl,⟨_,Zo.of et⟩,Y8 (K:=K) (xs:=A.map V.ref) (by rw [List.length_map,sizeLine_eq];lia) (fun i zs G=>Ze H G /\ ∃Z:List Addr,zs=Z.map V.ref/\Mat G Z i n F /\ ∀r∈Z,H r=none) ⟨Ze.refl _,[],rfl,Zaj,fun r h=>nomatch h⟩
   (fun i zs G ⟨_,Z,e,m,_⟩=>by rw [e,List.length_map,m.1];exact Nat.le_refl _) (fun i zs G ⟨s',_⟩=>Zo.of (s' tA _ et)) ?_ ?_⟩
  ·rintro i v zs G hv ⟨sG,Z,rfl,mZ,nw⟩
   rw [List.getElem?_map] at hv
   obtain ⟨r,hr',rfl⟩:=Option.map_eq_some_iff.mp hv
   obtain ⟨xs,ex,lx,hx⟩:=(mt.2.2 i r hr').same sG
   dsimp only [J0,Gf]
   refine Zar ⟨_,rfl,r,xs,rfl,.inl (Zo.of ex),fun D fD=>⟨sG.step fD,Z ++ [D],by rw [List.map_append];rfl,(mZ.same (Ze.laid fD)).snoc (mZ.fresh fD) ⟨xs,Zb,lx,fun j y hy=>?_⟩,fun r' hr''=>?_⟩⟩
   ·obtain ⟨e,p,q⟩:=hx j y hy
    exact ⟨e,p,q.same (Ze.laid fD)⟩
   ·rcases List.mem_append.mp hr'' with z | z
    ·exact nw r' z
    ·rw [List.mem_singleton.mp z];exact sG.free fD
  rintro zs G ⟨sG,Z,rfl,mZ,nw⟩ rA fA
  rw [List.length_map,lA] at mZ
  have W0:=ZjL sG mZ nw fA
  obtain ⟨G1,hG1⟩:∃G1,upd G rA (.lst (Z.map V.ref))=G1:=⟨_,rfl⟩
  rw [hG1] at W0 ⊢
  refine ⟨_,rfl,x,dx,[],rfl,W0.sm _ _ ew,rfl,x,rfl,fun u G2 fu t2 wu=>?_⟩
  obtain ⟨r,xs,h1,h2,h3,W1⟩:=ZbG (i:=k) (j:=k+1) (ZcK W0 t2) (by lia) (by lia) wu
  refine ⟨_,rfl,_,rfl,rA,_,_,_,rfl,rfl,Zo.of (t2 _ _ W0.eA),Zt h1,_,rfl,_,_,rfl,rfl,r,xs,_,k+1,rfl,rfl,h2,ZbA (by lia) (by lia),?_⟩
  obtain ⟨G3,hG3⟩:∃G3,upd G2 r (.lst (xs.set (k+1) (.ref u)))=G3:=⟨_,rfl⟩
  rw [hG3] at W1 ⊢
  have e2:(((A.map V.ref).length:Int)-((k:Int)+2)).toNat=n-(k+2):=by rw [List.length_map];lia
  refine ⟨_,rfl,_,_,rfl,rfl,_,rfl,tA,_,rfl,.inl (Zo.of (W1.sm _ _ et)),_,_,rfl,⟨by lia,by lia,by lia,by rw [List.length_map];lia⟩,?_⟩
  rw [e2]
  refine YR (n:=n-(k+2)) (fun c σ G=>∃v5 v6:Option V,σ = [some (.ref tA),some (.int (k:Int)),some (.ref nA),some (.ref x),some (.ref rA),v5,v6]/\Wr H G rA Z n (cr1 k t F c)) ⟨none,none,rfl,WK W1 fun i j _ _=>by unfold ZaM cr1;grind⟩ ?_ ?_
  ·rintro c σ G hc ⟨v5,v6,rfl,W⟩
   obtain ⟨ys,r1,xs1,e1,a1,a2,a3,a4,a5⟩:=WY (hT.same W.sm) (i:=k+1) (j:=k+2+c) (by lia) (by lia)
   obtain ⟨r,xs,h1,h2,h3,W2⟩:=ZbG (i:=k) (j:=k+2+c) W (by lia) (by lia) a5
   refine ⟨_,rfl,_,rfl,_,_,rfl,rfl,tA,_,_,_,rfl,rfl,Zo.of a1,YL (by lia) a2,_,rfl,r1,_,_,_,rfl,rfl,Zo.of a3,YL (by lia) a4,?_⟩
   refine ⟨_,rfl,_,rfl,rA,_,_,_,rfl,rfl,Zo.of W.eA,Zt h1,_,rfl,r,xs,_,k+2+c,rfl,rfl,h2,ZbA (by lia) (by lia),?_⟩
   obtain ⟨G4,hG4⟩:∃G4,upd G r (.lst (xs.set (k+2+c) (.ref e1)))=G4:=⟨_,rfl⟩
   rw [hG4] at W2 ⊢
   obtain ⟨ys,r1,xs1,e1,a1,a2,a3,a4,a5⟩:=WY (hT.same W2.sm) (i:=k+1) (j:=k+2+c) (by lia) (by lia)
   obtain ⟨ys',r2,xs2,e2,b1,b2,b3,b4,b5⟩:=WY (hT.same W2.sm) (i:=k) (j:=k+2+c) (by lia) (by lia)
   have g1:=tg (k+1) (k+2+c) (by lia) (by lia)
   have g2:=tg k (k+2+c) (by lia) (by lia)
   refine ⟨_,rfl,x,dx,[],rfl,W2.sm _ _ ew,rfl,_,rfl,_,rfl,tA,_,_,_,rfl,rfl,Zo.of b1,Zt b2,_,rfl,r2,_,_,_,rfl,rfl,Zo.of b3,YL (by lia) b4,?_⟩
   refine ⟨_,rfl,x,dx,[],rfl,W2.sm _ _ ew,rfl,_,rfl,_,rfl,_,rfl,_,_,rfl,rfl,tA,_,_,_,rfl,rfl,Zo.of a1,YL (by lia) a2,_,rfl,r1,_,_,_,rfl,rfl,Zo.of a3,YL (by lia) a4,?_⟩
   refine ⟨x,nA,e1,_,_,rfl,hN.same W2.sm,a5,Wu ht (by decide) (by decide),g1.mono (by decide) (by decide),fun p G5 fp t5 wp=>?_⟩
   have g3:=WJ (Wu ht (n:=1) (m:=1) (by decide) (by decide)) g1
   have l2:=g2.1
   have l3:=g3.1
   refine ⟨x,e2,p,_,_,rfl,b5.same t5,wp,by lia,fun q G6 fq t6 wq=>?_⟩
   have W3:=ZcK W2 (t5.trans t6)
   obtain ⟨r',xs',h1',h2',h3',W4⟩:=ZbG (i:=k+1) (j:=k+2+c) W3 (by lia) (by lia) wq
   refine ⟨_,rfl,_,rfl,_,_,rfl,rfl,rA,_,_,_,rfl,rfl,Zo.of W3.eA,YL (by lia) h1',_,rfl,r',xs',_,k+2+c,rfl,rfl,h2',ZbA (by lia) (by lia),?_⟩
   exact ⟨_,_,rfl,WK W4 fun i j _ _=>Zku k c t F i j⟩
  rintro σ G ⟨v5,v6,rfl,W⟩
  refine ⟨_,rfl,_,rfl,by lia,by lia,?_⟩
  rw [Int.toNat_natCast]
  refine YR (n:=k) (fun c σ G=>∃v5 v6:Option V,σ = [some (.ref tA),some (.int (k:Int)),some (.ref nA),some (.ref x),some (.ref rA),v5,v6]/\Wr H G rA Z n (cr2 k n t F c)) ⟨_,_,rfl,WK W fun i j _ _=>by unfold cr2;grind⟩ ?_ ?_
  ·rintro c σ G hc ⟨v5,v6,rfl,W⟩
   obtain ⟨ys,r1,xs1,e1,a1,a2,a3,a4,a5⟩:=WY (hT.same W.sm) (i:=c) (j:=k) (by lia) (by lia)
   obtain ⟨r,xs,h1,h2,h3,W2⟩:=ZbG (i:=c) (j:=k+1) W (by lia) (by lia) a5
   refine ⟨_,rfl,_,rfl,tA,_,_,_,rfl,rfl,Zo.of a1,YL (by lia) a2,_,rfl,r1,_,_,_,rfl,rfl,Zo.of a3,Zt a4,?_⟩
   refine ⟨_,rfl,_,rfl,rA,_,_,_,rfl,rfl,Zo.of W.eA,YL (by lia) h1,_,rfl,_,_,rfl,rfl,r,xs,_,k+1,rfl,rfl,h2,ZbA (by lia) (by lia),?_⟩
   obtain ⟨G4,hG4⟩:∃G4,upd G r (.lst (xs.set (k+1) (.ref e1)))=G4:=⟨_,rfl⟩
   rw [hG4] at W2 ⊢
   obtain ⟨ys,r1,xs1,e1,a1,a2,a3,a4,a5⟩:=WY (hT.same W2.sm) (i:=c) (j:=k) (by lia) (by lia)
   obtain ⟨ys',r2,xs2,e2,b1,b2,b3,b4,b5⟩:=WY (hT.same W2.sm) (i:=c) (j:=k+1) (by lia) (by lia)
   have g1:=tg c k (by lia) (by lia)
   have g2:=tg c (k+1) (by lia) (by lia)
   refine ⟨_,rfl,x,dx,[],rfl,W2.sm _ _ ew,rfl,_,rfl,_,rfl,tA,_,_,_,rfl,rfl,Zo.of b1,YL (by lia) b2,_,rfl,_,_,rfl,rfl,r2,_,_,_,rfl,rfl,Zo.of b3,YL (by lia) b4,?_⟩
   refine ⟨_,rfl,x,dx,[],rfl,W2.sm _ _ ew,rfl,_,rfl,_,rfl,tA,_,_,_,rfl,rfl,Zo.of a1,YL (by lia) a2,_,rfl,r1,_,_,_,rfl,rfl,Zo.of a3,Zt a4,_,rfl,?_⟩
   refine ⟨x,e1,nA,_,_,rfl,a5,hN.same W2.sm,g1.mono (by decide) (by decide),Wu ht (by decide) (by decide),fun p G5 fp t5 wp=>?_⟩
   have g3:=WJ g1 (Wu ht (n:=1) (m:=1) (by decide) (by decide))
   have l2:=g2.1
   have l3:=g3.1
   refine ⟨x,e2,p,_,_,rfl,b5.same t5,wp,by lia,fun q G6 fq t6 wq=>?_⟩
   have W3:=ZcK W2 (t5.trans t6)
   obtain ⟨r',xs',h1',h2',h3',W4⟩:=ZbG (i:=c) (j:=k) W3 (by lia) (by lia) wq
   refine ⟨_,rfl,_,rfl,rA,_,_,_,rfl,rfl,Zo.of W3.eA,YL (by lia) h1',_,rfl,r',xs',_,k,rfl,rfl,h2',ZbA (by lia) (by lia),?_⟩
   exact ⟨_,_,rfl,WK W4 fun i j _ _=>Zkh k n c t F i j⟩
  rintro σ G ⟨v5,v6,rfl,W⟩
  exact ⟨_,rfl,fin rA G W.fA W.sm ((Zg6 W).congr fun i j _ hj=>Zmc k n t F i j hj)⟩
def upE (k i:Nat):Nat:=if i<k then i else i+2
def en (k:Nat) (t:Int) (F:Nat->Nat->WS) (c d:Nat):Nat->Nat->WS:=fun i j=>
 if k<=j/\(i<c∨(i=c/\j<k+d)) then Jf (F i (j+2)) (Ym (U0 k t F i) (ZdI k t F (j+2))) else F (upE k i) (upE k j)
theorem ZlG (k:Nat) (t:Int) (F:Nat->Nat->WS) (c d i j:Nat) (hc:c<k):ZaM (en k t F c d) c (k+d) (Jf (F c (k+d+2)) (Ym (U0 k t F c) (ZdI k t F (k+d+2)))) i j=en k t F c (d+1) i j:=by
 unfold ZaM en
 by_cases e:i=c/\j=k+d
 ·obtain ⟨rfl,rfl⟩:=e
  rw [if_pos ⟨rfl,rfl⟩,if_pos (by lia)]
 ·rw [if_neg e]
  have h1:(k<=j/\(i<c∨i=c/\j<k+d)) ↔ (k<=j/\(i<c∨i=c/\j<k+(d+1))):=by lia
  simp only [h1]
theorem ZmF (k n:Nat) (t:Int) (F:Nat->Nat->WS) (c i j:Nat) (hj:j<n-2):en k t F c (n-2-k) i j=en k t F (c+1) 0 i j:=by
 unfold en
 have h1:(k<=j/\(i<c∨i=c/\j<k+(n-2-k))) ↔ (k<=j/\(i<c+1∨i=c+1/\j<k+0)):=by lia
 simp only [h1]
theorem ZnK (k:Nat) (t:Int) (F:Nat->Nat->WS) (i j:Nat):en k t F k 0 i j=Zcl k t F i j:=by
 unfold en Zcl upE
 have h1:(k<=j/\(i<k∨i=k/\j<k+0)) ↔ (i<k/\k<=j):=by lia
 simp only [h1]
theorem Zid (xs:List V) (k:Nat):Zcj xs (some ((k:Int)+2)) none=xs.drop (k+2):=by
 rw [show (k:Int)+2=((k+2:Nat):Int) by lia]
 exact Zk4 xs (k+2)
theorem Zlk {α:Type}{l:List α}{k i:Nat}{x:α} (hk:k<=l.length) (h:(l.take k++l.drop (k+2))[i]? = some x):l[upE k i]? = some x:=by
 have lt:(l.take k).length=k:=by rw [List.length_take];lia
 unfold upE
 by_cases a:i<k
 ·rw [if_pos a]
  rw [List.getElem?_append_left (by lia),List.getElem?_take,if_pos a] at h
  exact h
 ·rw [if_neg a]
  rw [List.getElem?_append_right (by lia),lt,List.getElem?_drop] at h
  rw [<- h]
  congr 1
  lia
theorem ZhY {α:Type}{l:List α}{k n:Nat} (hl:l.length=n) (hk:k+1<n):(l.take k++l.drop (k+2)).length=n-2:=by
 rw [List.length_append,List.length_take,List.length_drop];lia
def ZjC (C:Addr):Sp:=fun vs H Q _=>∃(tA nA x:Addr) (n k:Nat) (t:Int) (F:Nat->Nat->WS),vs = [.ref tA,.int (k:Int),.ref nA,.ref x]/\Zcd H C x/\Tab H tA n F/\WL H nA [[t]]/\0<=t/\k+1<n/\n<=500/\TGd n 50000 F /\
 ∀(p:Addr) (H':Hp),H p=none->Ze H H'->Tab H' p (n-2) (Zcl k t F)->Q (.ref p) H'
theorem Zgv {G G':Hp}{zs:List V}{f:Nat->WS}{e:Addr} (h:∀(j:Nat) (y:V),zs[j]? = some y -> ∃e,y = .ref e/\WL G e (f j)) (s:Ze G G') (w:WL G' e (f zs.length)):∀(j:Nat) (y:V),(zs ++ [V.ref e])[j]? = some y -> ∃e,y = .ref e/\WL G' e (f j):=fun j y hy=>by
 by_cases z:j<zs.length
 ·rw [List.getElem?_append_left z] at hy
  obtain ⟨e,p,q⟩:=h j y hy
  exact ⟨e,p,q.same s⟩
 ·rw [List.getElem?_append_right (by lia)] at hy
  have:j-zs.length=0:=by
   have:=(List.getElem?_eq_some_iff.mp hy).1
   simp at this;lia
  rw [this] at hy
  cases hy
  have:j=zs.length:=by lia
  subst this
  exact ⟨e,rfl,w⟩
theorem ZlA {n k i:Nat}{t:Int}{F:Nat->Nat->WS} (tg:TGd n 50000 F) (ht:0<=t) (hk:k+1<n) (hi:i<n):L2.Gd 400 50001 (U0 k t F i):=
 (ZiI (tg i (k+1) hi (by lia)) (WJ (tg i k hi (by lia)) (Wu ht (n:=1) (m:=1) (by decide) (by decide)))).mono (by decide) (by decide)
theorem Zor {n k j:Nat}{t:Int}{F:Nat->Nat->WS} (tg:TGd n 50000 F) (ht:0<=t) (hk:k+1<n) (hj:j<n):L2.Gd 400 50001 (ZdI k t F j):=
 (ZiI (tg k j (by lia) hj) (WJ (Wu ht (n:=1) (m:=1) (by decide) (by decide)) (tg (k+1) j (by lia) hj))).mono (by decide) (by decide)
abbrev Y9:Stmt:=top 12
theorem YQ:Zp ["table", "k", "name", "way", "onto", "off", "rows", "i", "j"] ["table", "k", "name", "way"] (Zi Y9):={}
theorem ZnQ {C:Addr}{f:Addr}{fd:FuncData} (F:Yd K "behind_end" "behind_end" Y9 f fd) (c_way:Cls K C) (Ub:Zbv P w K mg base 3 C "plus" ["self", "one", "other"] ZcG) (Wm:Zbv P w K mg base 3 C "times" ["self", "one", "other"] Za3) (ZF:mg "range" = none) (ZJ:mg "len" = none) (ZaY:mg "zip" = none):ZX P w K mg base J2 4 f fd ["table", "k", "name", "way"] (ZjC C):=by
 refine F.ok YQ (fun vs H Q E h=>?_) (fun cdv A outer s H vs Q E hr h=>?_)
 ·obtain ⟨tA,nA,x,n,k,t,F,rfl,_⟩:=h
  rfl
 ·obtain ⟨tA,nA,x,n,k,t,F,rfl,hw,hT,hN,ht,hk,hn,tg,fin⟩:=h
  refine ⟨_,(Zd (Zc2 (i:=4) YQ.nd rfl (Or.inl rfl) (Ls:=["row"]) (Fs:=["way", "name", "k"]) (fi:=[3,2,1]) (ZU.of (show YC ["table", "k", "name", "way", "onto", "off", "rows", "i", "j"] (Zi Y9) _ ["way", "name", "k"] [3,2,1]=true by decide +kernel)) rfl (ZC (K:=K) rfl (J5 (JZ (K:=K) rfl) (pv 0) Gh (YA (pv 1)))) (fun cl C s3 H3 ex=>⟨(Zl (i:=0) (show ((["row"]:List Str)++(["way", "name", "k"]:List Str)).Nodup by decide +kernel) rfl (Or.inl rfl)),Yf,(JY Ub c_way (hr.mono (by decide)) (pv 1) (Za (Zv (Zk (K:=K) rfl) (pv 0) (Zn ZN (pv 3) Zf) (fun _ _=>rfl)) (Za (JY Wm c_way (hr.mono (by decide)) (pv 1) (Za (Zv (Zk (K:=K) rfl) (pv 0) (pv 3) (fun _ _=>rfl)) (Za (pv 2) Zc))) Zc)))⟩))
   (Zd (Zc2 (i:=5) YQ.nd rfl (Or.inl rfl) (Ls:=["upper", "lower"]) (Fs:=["way", "name"]) (fi:=[3,2]) (ZU.of (show YC ["table", "k", "name", "way", "onto", "off", "rows", "i", "j"] (Zi Y9) _ ["way", "name"] [3,2]=true by decide +kernel)) rfl (ZeT (K:=K) rfl (by rfl) ZaY (Za (Zv (Zk (K:=K) rfl) (pv 0) (pv 1) (fun _ _=>rfl)) (Za (Zv (Zk (K:=K) rfl) (pv 0) (Zn ZN (pv 1) Zf) (fun _ _=>rfl)) Zc))) (fun cl C s3 H3 ex=>⟨(Yr (K:=K) (n:=2) rfl rfl (Zw (Zl (i:=0) (show ((["upper", "lower"]:List Str)++(["way", "name"]:List Str)).Nodup by decide +kernel) rfl (Or.inl rfl)) (Zw (Zl (i:=1) (show ((["upper", "lower"]:List Str)++(["way", "name"]:List Str)).Nodup by decide +kernel) rfl (Or.inl rfl)) Yw))),Yf,(JY Ub c_way (hr.mono (by decide)) (pv 2) (Za (pv 0) (Za (JY Wm c_way (hr.mono (by decide)) (pv 2) (Za (pv 3) (Za (pv 1) Zc))) Zc)))⟩))
   (Zd (Zc2 (i:=6) YQ.nd rfl (Or.inl rfl) (Ls:=["row"]) (Fs:=["k"]) (fi:=[1]) (ZU.of (show YC ["table", "k", "name", "way", "onto", "off", "rows", "i", "j"] (Zi Y9) _ ["k"] [1]=true by decide +kernel)) rfl (ZC (K:=K) rfl (Zn ZdH (J5 (JZ (K:=K) rfl) (pv 0) Gh (YA (pv 1))) (J5 (JZ (K:=K) rfl) (pv 0) (YA (Zn ZN (pv 1) Zf)) Gh))) (fun cl C s3 H3 ex=>⟨(Zl (i:=0) (show ((["row"]:List Str)++(["k"]:List Str)).Nodup by decide +kernel) rfl (Or.inl rfl)),Yf,(Zn ZdH (J5 (JZ (K:=K) rfl) (pv 0) Gh (YA (pv 1))) (J5 (JZ (K:=K) rfl) (pv 0) (YA (Zn ZN (pv 1) Zf)) Gh))⟩))
   (Zd (ZZ PassesOwn.never rfl (Yj (by rfl) ZF (Za (pv 1) Zc)) (Zl (i:=7) YQ.nd rfl (Or.inl rfl)) (Zh (ZZ PassesOwn.never rfl (Zew (by rfl) ZF (Za (pv 1) (Za (ZE (ZW (K:=K) rfl) (by rfl) ZJ PySem.boot_len (Za (pv 6) Zc)) Zc))) (Zl (i:=8) YQ.nd rfl (Or.inl rfl)) (Zh (Yl (JY Ub c_way (hr.mono (by decide)) (pv 3) (Za (Zv (Zk (K:=K) rfl) (Zv (Zk (K:=K) rfl) (pv 6) (pv 7) (fun _ _=>rfl)) (pv 8) (fun _ _=>rfl)) (Za (JY Wm c_way (hr.mono (by decide)) (pv 3) (Za (Zv (Zk (K:=K) rfl) (pv 4) (pv 7) (fun _ _=>rfl)) (Za (Zv (Zk (K:=K) rfl) (pv 5) (Zn ZN (pv 8) Zf) (fun _ _=>rfl)) Zc))) Zc))) (YJ (Zv (Zk (K:=K) rfl) (pv 6) (pv 7) (fun _ _=>rfl)) (pv 8) set_list))))))
   (Zh (Zs (pv 6))))))),?_⟩
  obtain ⟨dx,fs,ew,rfl⟩:=id hw
  obtain ⟨A,et,mt⟩:=id hT
  have lA:=mt.1
  have g1:=Wu ht (n:=1000) (m:=100000) (by decide) (by decide)
  refine ⟨_,rfl,_,rfl,_,rfl,tA,_,rfl,Zo.of et,fun p1 f1=>?_⟩
  rw [ZcA]
  have s1:Ze H (upd H p1 (.lst ((A.map V.ref).take k))):=Ze.laid f1
  refine ⟨p1,rfl,⟨_,Zo.of Zb⟩,Y8 (K:=K) (xs:=(A.map V.ref).take k) (by rw [List.length_take,List.length_map,sizeLine_eq];lia) (fun i zs G=>Ze (upd H p1 (.lst ((A.map V.ref).take k))) G/\zs.length=i /\ ∀(j:Nat) (y:V),zs[j]? = some y -> ∃e,y = .ref e/\WL G e (U0 k t F j)) ⟨Ze.refl _,rfl,fun j y h=>by simp at h⟩
   (fun i zs G ⟨_,e,_⟩=>by rw [e];exact Nat.le_refl _) (fun i zs G ⟨s',_⟩=>Zo.of (s' p1 _ Zb)) ?_ ?_⟩
  ·rintro i v zs G hv ⟨sG,lz,hz⟩
   have hik:i<k:=by have:=(List.getElem?_eq_some_iff.mp hv).1;rw [List.length_take] at this;lia
   rw [List.getElem?_take,if_pos hik,List.getElem?_map] at hv
   obtain ⟨r,hr',rfl⟩:=Option.map_eq_some_iff.mp hv
   have S:=s1.trans sG
   have R:=(mt.2.2 i r hr').same S
   obtain ⟨xs,e1,ex,lx,a1,a2⟩:=R.at (j:=k) (by lia)
   obtain ⟨xs',e2,ex',lx',b1,b2⟩:=R.at (j:=k+1) (by lia)
   have q1:=tg i k (by lia) (by lia)
   have q2:=tg i (k+1) (by lia) (by lia)
   have q3:=WJ q1 (Wu ht (n:=1) (m:=1) (by decide) (by decide))
   have l2:=q2.1
   have l3:=q3.1
   dsimp only [J0,Gf]
   refine Zar ⟨_,rfl,x,dx,[],rfl,S _ _ ew,rfl,_,rfl,_,rfl,_,_,rfl,rfl,r,_,_,_,rfl,rfl,Zo.of ex',YL (by lia) b1,?_⟩
   refine ⟨_,rfl,x,dx,[],rfl,S _ _ ew,rfl,_,rfl,_,rfl,r,_,_,_,rfl,rfl,Zo.of ex,Zt a1,_,rfl,?_⟩
   refine ⟨x,e1,nA,_,_,rfl,a2,hN.same S,q1.mono (by decide) (by decide),g1,fun p G2 fp t2 wp=>?_⟩
   refine ⟨x,e2,p,_,_,rfl,b2.same t2,wp,by lia,fun q G3 fq t3 wq=>?_⟩
   exact ⟨(sG.trans t2).trans t3,by rw [List.length_append,lz];rfl,Zgv hz (t2.trans t3) (by rw [lz];exact wq)⟩
  rintro zs G ⟨sG,lz,hz⟩ oA fo
  rw [List.length_take,List.length_map,lA,Nat.min_eq_left (by lia)] at lz
  have so:Ze G (upd G oA (.lst zs)):=Ze.laid fo
  have rO:Wh (upd G oA (.lst zs)) oA k (U0 k t F):=⟨zs,Zb,lz,fun j y hy=>let ⟨e,p,q⟩:=hz j y hy;⟨e,p,q.same so⟩⟩
  have S1:=(s1.trans sG).trans so
  obtain ⟨G1,hG1⟩:∃G1,upd G oA (.lst zs)=G1:=⟨_,rfl⟩
  rw [hG1] at rO S1 ⊢
  obtain ⟨ys,r0,a1,a2,a3,a4⟩:=(hT.same S1).row (i:=k) (by lia)
  obtain ⟨ys',r1,b1,b2,b3,b4⟩:=(hT.same S1).row (i:=k+1) (by lia)
  obtain ⟨us,c1,c2,c3⟩:=id a4
  obtain ⟨vs,d1,d2,d3⟩:=id b4
  refine ⟨_,rfl,_,rfl,tA,_,_,_,rfl,rfl,Zo.of a1,Zt a3,_,rfl,_,rfl,_,_,rfl,rfl,tA,_,_,_,rfl,rfl,Zo.of b1,YL (by lia) b3,?_⟩
  refine ⟨r0,r1,rfl,⟨_,Zo.of c1⟩,⟨_,Zo.of d1⟩,Znf (K:=K) (xs:=us) (ys:=vs) (by rw [c2,sizeLine_eq];lia) (by lia) (fun i zs G=>Ze G1 G/\zs.length=i /\ ∀(j:Nat) (y:V),zs[j]? = some y -> ∃e,y = .ref e/\WL G e (ZdI k t F j)) ⟨Ze.refl _,rfl,fun j y h=>by simp at h⟩
   (fun i zs G ⟨_,e,_⟩=>by rw [e];exact Nat.le_refl _) (fun i zs G ⟨s',_⟩=>⟨Zo.of (s' _ _ c1),Zo.of (s' _ _ d1)⟩) ?_ ?_⟩
  ·rintro i y z p zs G2 hy hz' ⟨s2,lz2,hz2⟩ fp
   have hin:i<n:=by have:=(List.getElem?_eq_some_iff.mp hy).1;lia
   obtain ⟨e1,rfl,w1⟩:=c3 i y hy
   obtain ⟨e2,rfl,w2⟩:=d3 i z hz'
   have sp:=s2.step (o:=.tup [.ref e1,.ref e2]) fp
   have S:=S1.trans sp
   have q1:=tg (k+1) i (by lia) (by lia)
   have q2:=tg k i (by lia) (by lia)
   have q3:=WJ (Wu ht (n:=1) (m:=1) (by decide) (by decide)) q1
   have l2:=q2.1
   have l3:=q3.1
   refine ⟨p,_,rfl,Uw.of Zb,rfl,_,_,rfl,_,_,rfl,rfl,?_⟩
   refine lcT ⟨_,rfl,x,dx,[],rfl,S _ _ ew,rfl,_,rfl,_,rfl,x,dx,[],rfl,S _ _ ew,rfl,_,rfl,_,rfl,?_⟩
   refine ⟨x,nA,e2,_,_,rfl,hN.same S,w2.same sp,g1,q1.mono (by decide) (by decide),fun p' G3 fp' t3 wp=>?_⟩
   refine ⟨x,e1,p',_,_,rfl,(w1.same sp).same t3,wp,by lia,fun q G4 fq t4 wq=>?_⟩
   exact ⟨(sp.trans t3).trans t4,by rw [List.length_append,lz2];rfl,Zgv hz2 (((Ze.laid fp).trans t3).trans t4) (by rw [lz2];exact wq)⟩
  rintro zs2 G2 ⟨s2,lz2,hz2⟩ fA ff
  rw [c2] at lz2
  have sf:Ze G2 (upd G2 fA (.lst zs2)):=Ze.laid ff
  have rF:Wh (upd G2 fA (.lst zs2)) fA n (ZdI k t F):=⟨zs2,Zb,lz2,fun j y hy=>let ⟨e,p,q⟩:=hz2 j y hy;⟨e,p,q.same sf⟩⟩
  have S2:=(S1.trans s2).trans sf
  have rO2:=rO.same (s2.trans sf)
  obtain ⟨G3,hG3⟩:∃G3,upd G2 fA (.lst zs2)=G3:=⟨_,rfl⟩
  rw [hG3] at rF S2 rO2 ⊢
  have et3:=S2 _ _ et
  refine ⟨_,rfl,_,rfl,_,rfl,tA,_,rfl,Zo.of et3,fun q1 fq1=>?_⟩
  rw [ZcA]
  have t1:Ze G3 (upd G3 q1 (.lst ((A.map V.ref).take k))):=Ze.laid fq1
  refine ⟨_,rfl,_,rfl,_,_,rfl,rfl,_,rfl,tA,_,rfl,Zo.of (t1 _ _ et3),fun q2 fq2=>?_⟩
  rw [Zid]
  refine ⟨q1,q2,_,_,rfl,rfl,Ze.laid fq2 _ _ Zb,Zb,(by rw [List.length_take,List.length_drop,List.length_map,sizeLine_eq];lia),fun q3 fq3=>?_⟩
  obtain ⟨G4,hG4⟩:∃G4,upd (upd (upd G3 q1 (.lst ((A.map V.ref).take k))) q2 (.lst ((A.map V.ref).drop (k+2)))) q3 (.lst ((A.map V.ref).take k++(A.map V.ref).drop (k+2)))=G4:=⟨_,rfl⟩
  have t4:Ze G3 G4:=by rw [<- hG4];exact (t1.step fq2).step fq3
  have eq3:G4 q3=some (.lst ((A.map V.ref).take k++(A.map V.ref).drop (k+2))):=by rw [<- hG4];exact Zb
  rw [hG4]
  have S4:=S2.trans t4
  have lg:((A.map V.ref).take k++(A.map V.ref).drop (k+2)).length=n-2:=ZhY (by rw [List.length_map];exact lA) hk
  refine ⟨q3,rfl,⟨_,Zo.of eq3⟩,Y8 (K:=K) (xs:=(A.map V.ref).take k++(A.map V.ref).drop (k+2)) (by rw [lg,sizeLine_eq];lia) (fun i zs G=>Ze G4 G /\ ∃Z:List Addr,zs=Z.map V.ref/\(Mat G Z i (n-2) fun i j=>F (upE k i) (upE k j)) /\ ∀r∈Z,G3 r=none) ⟨Ze.refl _,[],rfl,Zaj,fun r h=>nomatch h⟩
   (fun i zs G ⟨_,Z,e,m,_⟩=>by rw [e,List.length_map,m.1];exact Nat.le_refl _) (fun i zs G ⟨s',_⟩=>Zo.of (s' q3 _ eq3)) ?_ ?_⟩
  ·rintro i v zs G hv ⟨sG,Z,rfl,mZ,nw⟩
   have hv':=Zlk (by rw [List.length_map];lia) hv
   rw [List.getElem?_map] at hv'
   obtain ⟨r,hr',rfl⟩:=Option.map_eq_some_iff.mp hv'
   have S:=S4.trans sG
   obtain ⟨xs,ex,lx,hx⟩:=(mt.2.2 _ r hr').same S
   dsimp only [J0,Gf]
   refine Zar ⟨_,rfl,_,rfl,_,rfl,r,xs,rfl,Zo.of ex,fun u1 fu1=>?_⟩
   rw [ZcA]
   refine ⟨_,rfl,_,rfl,_,_,rfl,rfl,_,rfl,r,xs,rfl,Zo.of (Ze.laid fu1 _ _ ex),fun u2 fu2=>?_⟩
   rw [Zid]
   refine ⟨u1,u2,_,_,rfl,rfl,Ze.laid fu2 _ _ Zb,Zb,(by rw [List.length_take,List.length_drop,sizeLine_eq];lia),fun D fD=>?_⟩
   have sD:Ze G _:=((Ze.laid (o:=.lst (xs.take k)) fu1).step (o:=.lst (xs.drop (k+2))) fu2)
   have sE:=sD.step (o:=.lst (xs.take k++xs.drop (k+2))) fD
   refine ⟨sG.trans sE,Z ++ [D],by rw [List.map_append];rfl,(mZ.same sE).snoc ((mZ.same sD).fresh fD) ⟨_,Zb,ZhY lx hk,fun j y hy=>?_⟩,fun r' hr''=>?_⟩
   ·obtain ⟨e,p,q⟩:=hx _ y (Zlk (by lia) hy)
    exact ⟨e,p,q.same sE⟩
   ·rcases List.mem_append.mp hr'' with z | z
    ·exact nw r' z
    ·rw [List.mem_singleton.mp z];exact ((t4.trans sG).trans sD).free fD
  rintro zs3 G5 ⟨s5,Z,rfl,mZ,nw⟩ rA fA'
  rw [lg] at mZ
  have W0:=ZjL (t4.trans s5) mZ nw fA'
  obtain ⟨G6,hG6⟩:∃G6,upd G5 rA (.lst (Z.map V.ref))=G6:=⟨_,rfl⟩
  rw [hG6] at W0 ⊢
  refine ⟨_,rfl,_,rfl,by lia,by lia,?_⟩
  rw [Int.toNat_natCast]
  refine YR (n:=k) (fun c σ G=>∃v7 v8:Option V,σ = [some (.ref tA),some (.int (k:Int)),some (.ref nA),some (.ref x),some (.ref oA),some (.ref fA),some (.ref rA),v7,v8]/\Wr G3 G rA Z (n-2) (en k t F c 0)) ⟨none,none,rfl,WK W0 fun i j _ _=>by unfold en;rw [if_neg (by lia)]⟩ ?_ ?_
  ·rintro c σ G hc ⟨v7,v8,rfl,W⟩
   have lZ:(Z.map V.ref).length=n-2:=by rw [List.length_map];exact W.mat.1
   have e2:(((Z.map V.ref).length:Int)-(k:Int)).toNat=n-2-k:=by rw [lZ];lia
   refine ⟨_,rfl,_,rfl,rA,_,rfl,.inl (Zo.of W.eA),_,_,rfl,⟨by lia,by lia,by lia,by rw [lZ];lia⟩,?_⟩
   rw [e2]
   refine YR (n:=n-2-k) (fun d σ G=>∃v8:Option V,σ = [some (.ref tA),some (.int (k:Int)),some (.ref nA),some (.ref x),some (.ref oA),some (.ref fA),some (.ref rA),some (.int (0+(c:Int))),v8]/\Wr G3 G rA Z (n-2) (en k t F c d)) ⟨v8,rfl,W⟩ ?_ ?_
   ·rintro d σ G hd ⟨v8,rfl,W⟩
    obtain ⟨ys,r1,xs1,e1,a1,a2,a3,a4,a5⟩:=WY (Zg6 W) (i:=c) (j:=k+d) (by lia) (by lia)
    have a5':WL G e1 (F c (k+d+2)):=by
     unfold en upE at a5
     rw [if_neg (by lia),if_pos (by lia),if_neg (by lia)] at a5
     exact a5
    obtain ⟨xo,eo,b1,b2,b3,b4⟩:=(rO2.same W.sm).at (j:=c) (by lia)
    obtain ⟨xf,ef,c1',c2',c3',c4'⟩:=(rF.same W.sm).at (j:=k+d+2) (by lia)
    have g2:=ZlA tg ht hk (i:=c) (by lia)
    have g3:=Zor tg ht hk (j:=k+d+2) (by lia)
    have g4:=WJ g2 g3
    have l4:=g4.1
    have l1:=(tg c (k+d+2) (by lia) (by lia)).1
    have ewG:=W.sm _ _ (S2 _ _ ew)
    refine ⟨_,rfl,x,dx,[],rfl,ewG,rfl,_,rfl,_,rfl,rA,_,_,_,rfl,rfl,Zo.of a1,YL (by lia) a2,_,rfl,r1,_,_,_,rfl,rfl,Zo.of a3,YL (by lia) a4,?_⟩
    refine ⟨_,rfl,x,dx,[],rfl,ewG,rfl,_,rfl,_,rfl,oA,_,_,_,rfl,rfl,Zo.of b1,YL (by lia) b3,_,rfl,_,rfl,_,_,rfl,rfl,fA,_,_,_,rfl,rfl,Zo.of c1',YL (by lia) c3',?_⟩
    refine ⟨x,eo,ef,_,_,rfl,b4,c4',g2.mono (by decide) (by decide),g3.mono (by decide) (by decide),fun p G7 fp t7 wp=>?_⟩
    refine ⟨x,e1,p,_,_,rfl,a5'.same t7,wp,by lia,fun q G8 fq t8 wq=>?_⟩
    have W3:=ZcK W (t7.trans t8)
    obtain ⟨r',xs',h1',h2',h3',W4⟩:=ZbG (i:=c) (j:=k+d) W3 (by lia) (by lia) wq
    refine ⟨_,rfl,_,rfl,rA,_,_,_,rfl,rfl,Zo.of W3.eA,YL (by lia) h1',_,rfl,r',xs',_,k+d,rfl,rfl,h2',ZbA (by lia) (by lia),?_⟩
    exact ⟨_,rfl,WK W4 fun i j _ _=>ZlG k t F c d i j hc⟩
   ·rintro σ G ⟨v8,rfl,W⟩
    exact ⟨_,_,rfl,WK W fun i j _ hj=>ZmF k n t F c i j hj⟩
  rintro σ G ⟨v7,v8,rfl,W⟩
  exact ⟨_,rfl,fin rA G (S2.free W.fA) (S2.trans W.sm) ((Zg6 W).congr fun i j _ _=>ZnK k t F i j)⟩
def nxN (x:Str) (n:Nat):Nat:=if x = "born" then n+2 else if x = "cross" then n else n-2
def nxF (x:Str) (k:Nat) (t:Int) (F:Nat->Nat->WS):Nat->Nat->WS:=if x = "born" then UT k F else if x = "cross" then Wg k t F else Zcl k t F
def Fit (x:Str) (k n:Nat):Prop:=(x = "born" /\ k<=n)∨(x = "cross" /\ k+1<n)∨(x = "end" /\ k+1<n)
def ZnY (C:Addr):Sp:=fun vs H Q _=>∃(tA lA nA x:Addr) (n k:Nat) (kd:Str) (t:Int) (F:Nat->Nat->WS),vs = [.ref tA,.ref lA,.ref nA,.ref x]/\Zcd H C x/\Tab H tA n F/\H lA=some (.tup [.str kd,.int (k:Int)])/\WL H nA [[t]]/\0<=t/\n<=400/\TGd n 50000 F/\Fit kd k n /\
 ∀(p:Addr) (H':Hp),H p=none->Ze H H'->Tab H' p (nxN kd n) (nxF kd k t F)->Q (.ref p) H'
abbrev WI:Stmt:=top 13
theorem Wa:Zp ["table", "letter", "name", "way", "kind", "k"] ["table", "letter", "name", "way"] (Zi WI):={}
theorem Zpz {C:Addr}{f:Addr}{fd:FuncData} (F:Yd K "table_behind" "table_behind" WI f fd) (WW:Yg P w K mg base 2 "behind_birth" ["table", "k", "way"] (Ze3 C)) (JB:Yg P w K mg base 4 "behind_crossing" ["table", "k", "name", "way"] (Ze2 C)) (GO:Yg P w K mg base 4 "behind_end" ["table", "k", "name", "way"] (ZjC C)):ZX P w K mg base J2 5 f fd ["table", "letter", "name", "way"] (ZnY C):=by
 refine F.ok Wa (fun vs H Q E h=>?_) (fun cdv A outer s H vs Q E hr h=>?_)
 ·obtain ⟨tA,lA,nA,x,n,k,kd,t,F,rfl,_⟩:=h
  rfl
 ·obtain ⟨tA,lA,nA,x,n,k,kd,t,F,rfl,hw,hT,hl,hN,ht,hn,tg,ft,fin⟩:=h
  refine ⟨_,(Zd (Yl (pv 1) (Yr (K:=K) (n:=2) rfl rfl (Zw (Zl (i:=4) Wa.nd rfl (Or.inl rfl)) (Zw (Zl (i:=5) Wa.nd rfl (Or.inl rfl)) Yw))))
   (Zd (YO (ZD J1 (pv 4) Z7 (ZI _)) (Zh (Zs (Zm WW hr (Za (pv 0) (Za (pv 5) (Za (pv 3) Zc)))))) Yc)
   (Zd (YO (ZD J1 (pv 4) Z7 (ZI _)) (Zh (Zs (Zm JB hr (Za (pv 0) (Za (pv 5) (Za (pv 2) (Za (pv 3) Zc))))))) Yc)
   (Zh (Zs (Zm GO hr (Za (pv 0) (Za (pv 5) (Za (pv 2) (Za (pv 3) Zc)))))))))),?_⟩
  refine ⟨_,rfl,lA,_,rfl,Uw.of hl,rfl,_,_,rfl,_,_,rfl,rfl,?_⟩
  refine ⟨_,rfl,rfl,_,rfl,Jy (fun c=>?_) (fun c=>?_)⟩
  ·have e:kd = "born" := V.str.inj (of_decide_eq_true c)
   subst e
   rcases ft with ⟨_,h⟩ | ⟨h,_⟩ | ⟨h,_⟩
   ·exact ⟨_,rfl,_,rfl,_,rfl,tA,x,n,k,F,rfl,hw,hT,h,by lia,fun p H' fp s' tb=>fin p H' fp s' tb⟩
   ·exact absurd h (by decide)
   ·exact absurd h (by decide)
  ·have e:kd ≠ "born" := fun z=>c (decide_eq_true (congrArg V.str z))
   refine ⟨_,rfl,rfl,_,rfl,Jy (fun c=>?_) (fun c=>?_)⟩
   ·have e:kd = "cross" := V.str.inj (of_decide_eq_true c)
    subst e
    rcases ft with ⟨h,_⟩ | ⟨_,h⟩ | ⟨h,_⟩
    ·exact absurd h (by decide)
    ·exact ⟨_,rfl,_,rfl,_,rfl,_,rfl,tA,nA,x,n,k,t,F,rfl,hw,hT,hN,ht,h,by lia,tg,fun p H' fp s' tb=>fin p H' fp s' tb⟩
    ·exact absurd h (by decide)
   ·have e':kd ≠ "cross" := fun z=>c (decide_eq_true (congrArg V.str z))
    rcases ft with ⟨h,_⟩ | ⟨h,_⟩ | ⟨h,h2⟩
    ·exact absurd h e
    ·exact absurd h e'
    ·subst h
     exact ⟨_,rfl,_,rfl,_,rfl,_,rfl,tA,nA,x,n,k,t,F,rfl,hw,hT,hN,ht,h2,by lia,tg,fun p H' fp s' tb=>fin p H' fp s' tb⟩
def Few (n:Nat) (F:Nat->Nat->WS):Prop:=∀i j,i<n->j<n->(F i j).length<=200
def Zn0 (C:Addr):Sp:=fun vs H Q E=>∃(tA:Addr) (n:Nat) (F:Nat->Nat->WS),vs = [.ref tA]/\Tab H tA n F/\n<=500/\(∀i j,i<n->j<n->(F i j).length<10000000)/\(Few n F->Q .non H)/\(¬Few n F->E (.ref C) none H)
abbrev Gr:Stmt:=top 21
theorem WQ:Zp ["table", "row", "one"] ["table"] (Zi Gr):={}
theorem Zo2 {f ZH:Addr}{fd:FuncData}{tk:Tok} (F:Yd K "check_words" "check_words" Gr f fd) (Wz:mg "TooMany" = some (.ref ZH)) (Jr:PySem.W.excIn K ZH bmV "ValueError.__new__" = true) (Ul:mg "MOST_WORDS" = some (.int 200 tk)) (ZJ:mg "len" = none):ZX P w K mg base (CX1 P w) 1 f fd ["table"] (Zn0 ZH):=by
 refine F.okX WQ (fun vs H Q E h=>?_) (fun cdv A outer s H vs Q E hr h=>?_)
 ·obtain ⟨tA,n,F,rfl,_⟩:=h
  rfl
 ·obtain ⟨tA,n,F,rfl,hT,hn,hz,k,kx⟩:=h
  refine ⟨_,(Zh (ZZ PassesOwn.leaving rfl (ZC (K:=K) rfl (pv 0)) (Zl (i:=1) WQ.nd rfl (Or.inl rfl)) (Zh (ZZ PassesOwn.leaving rfl (ZC (K:=K) rfl (pv 1)) (Zl (i:=2) WQ.nd rfl (Or.inl rfl)) (Zh (YO (ZD ZbY (ZE (ZW (K:=K) rfl) (by rfl) ZJ PySem.boot_len (Za (pv 2) Zc)) (Zmi (v:=.int 200) (by rfl) Ul ⟨_,rfl⟩) (ZI _)) (Zh (ZfL (by rfl) Wz Jr (Za (ZoJ (ZE (ZW (K:=K) rfl) (by rfl) ZJ PySem.boot_len (Za (pv 2) Zc)) (by decide) (by decide)) Zc))) Yc)))))),?_⟩
  obtain ⟨A,et,mt⟩:=id hT
  have lA:=mt.1
  refine ⟨_,rfl,tA,rfl,⟨_,Zo.of et⟩,Ye (K:=K) (a:=tA) (xs:=A.map V.ref) (fun i σ G=>∃v1 v2:Option V,σ = [some (.ref tA),v1,v2]/\G=H /\ ∀i' j,i'<i->j<n->(F i' j).length<=200) ⟨none,none,rfl,rfl,fun i' j h=>by lia⟩ (fun i σ G _ ⟨_,_,_,e,_⟩=>by rw [e];exact Zo.of et) ?_ ?_⟩
  ·rintro i v σ G hv ⟨v1,v2,rfl,rfl,ok⟩
   rw [List.getElem?_map] at hv
   obtain ⟨r,hr',rfl⟩:=Option.map_eq_some_iff.mp hv
   have hi:i<n:=by have:=(List.getElem?_eq_some_iff.mp hr').1;lia
   obtain ⟨xs,ex,lx,hx⟩:=mt.2.2 i r hr'
   refine ⟨_,rfl,r,rfl,⟨_,Zo.of ex⟩,Ye (K:=K) (a:=r) (xs:=xs) (fun j σ G'=>∃v2:Option V,σ = [some (.ref tA),some (.ref r),v2]/\G'=G /\ ∀j',j'<j->(F i j').length<=200) ⟨v2,rfl,rfl,fun j' h=>by lia⟩ (fun j σ G' _ ⟨_,_,e,_⟩=>by rw [e];exact Zo.of ex) ?_ ?_⟩
   ·rintro j y σ G' hy ⟨v2,rfl,rfl,ok2⟩
    have hj:j<n:=by have:=(List.getElem?_eq_some_iff.mp hy).1;lia
    obtain ⟨e,rfl,us,eu,wu⟩:=hx j y hy
    have lu:=wu.len
    have hzz:=hz i j hi hj
    refine ⟨_,rfl,e,_,rfl,.inl (Zo.of eu),_,_,rfl,rfl,_,rfl,Jy (fun c=>?_) (fun c=>?_)⟩
    ·have c':(200:Int)<(us.length:Int):=of_decide_eq_true c
     refine ⟨_,rfl,e,_,rfl,.inl (Zo.of eu),_,rfl,by lia,fun z=>⟨(by show 1<=sizeLine;decide),kx fun fw=>?_⟩⟩
     have:=fw i j hi hj
     lia
    ·have c':¬(200:Int)<(us.length:Int):=fun z=>c (decide_eq_true z)
     refine ⟨_,rfl,rfl,fun j' h=>?_⟩
     by_cases z:j'=j
     ·subst z;lia
     ·exact ok2 j' (by lia)
   ·rintro σ G' ⟨v2,rfl,rfl,ok2⟩
    refine ⟨_,_,rfl,rfl,fun i' j h hj=>?_⟩
    by_cases z:i'=i
    ·subst z;exact ok2 j (by lia)
    ·exact ok i' j (by lia) hj
  ·rintro σ G ⟨v1,v2,rfl,rfl,ok⟩
   exact k fun i j hi hj=>ok i j (by rw [List.length_map];lia) hj
def stT (s:Nat×(Nat->Nat->WS)×Int) (p:Str×Int):Nat×(Nat->Nat->WS)×Int:=(nxN p.1 s.1,nxF p.1 p.2.toNat s.2.2 s.2.1,s.2.2+1)
def Zg0 (ls:List (Str×Int)):Nat×(Nat->Nat->WS)×Int:=ls.foldl stT (0,fun _ _=>[],0)
def tN (ls:List (Str×Int)):Nat:=(Zg0 ls).1
def tF (ls:List (Str×Int)):Nat->Nat->WS:=(Zg0 ls).2.1
theorem Zgz (ls:List (Str×Int)) (p:Str×Int):Zg0 (ls ++ [p])=stT (Zg0 ls) p:=by unfold Zg0;rw [List.foldl_append];rfl
theorem Zpl (ls:List (Str×Int)):(Zg0 ls).2.2=ls.length:=by
 have key:∀(ls:List (Str×Int)) (s:Nat×(Nat->Nat->WS)×Int),(ls.foldl stT s).2.2=s.2.2+ls.length:=by
  intro ls
  induction ls with
  | nil=>intro s;simp
  | cons p ls ih=>intro s;rw [List.foldl_cons,ih];show s.2.2+1+_=_;rw [List.length_cons];lia
 have:=key ls (0,fun _ _=>[],0)
 unfold Zg0
 rw [this]
 show (0:Int)+_=_
 lia
theorem YM (ls:List (Str×Int)) (p:Str×Int):tN (ls ++ [p])=nxN p.1 (tN ls):=by unfold tN;rw [Zgz];rfl
theorem Wj (ls:List (Str×Int)) (p:Str×Int):tF (ls ++ [p])=nxF p.1 p.2.toNat ls.length (tF ls):=by unfold tF;rw [Zgz,<- Zpl ls];rfl
theorem W8 {ls:List (Str×Int)}{n:Int} (h:Wk ls n):(tN ls:Int)=n:=by
 induction h with
 | nil=>rfl
 | born h h0 h1 ih=>rw [YM];unfold nxN;rw [if_pos rfl];lia
 | cross h h0 h1 ih=>rw [YM];unfold nxN;rw [if_neg (by dsimp only;decide),if_pos rfl];lia
 | fin h h0 h1 ih=>rw [YM];unfold nxN;rw [if_neg (by dsimp only;decide),if_neg (by dsimp only;decide)];lia
theorem Zdu {ls:List (Str×Int)}{m:Int} (h:Wk ls m):∀(i:Nat) (p:Str×Int),ls[i]? = some p->0<=p.2/\Fit p.1 p.2.toNat (tN (ls.take i)):=by
 have key:∀{ls:List (Str×Int)}{q:Str×Int}{n:Int},Wk ls n->(∀(i:Nat) (p:Str×Int),ls[i]? = some p->0<=p.2/\Fit p.1 p.2.toNat (tN (ls.take i)))->(0<=q.2/\Fit q.1 q.2.toNat (tN ls)) -> ∀(i:Nat) (p:Str×Int),(ls ++ [q])[i]? = some p->0<=p.2/\Fit p.1 p.2.toNat (tN ((ls ++ [q]).take i)):=by
  intro ls q n _ ih hq i p hp
  by_cases z:i<ls.length
  ·rw [List.getElem?_append_left z] at hp
   rw [List.take_append_of_le_length (by lia)]
   exact ih i p hp
  ·rw [List.getElem?_append_right (by lia)] at hp
   have:i-ls.length=0:=by
    have:=(List.getElem?_eq_some_iff.mp hp).1
    simp at this;lia
   rw [this] at hp
   cases hp
   have:i=ls.length:=by lia
   subst this
   rw [List.take_left']
   ·exact hq
   ·rfl
 induction h with
 | nil=>intro i p h;simp at h
 | born h h0 h1 ih=>exact key h ih ⟨h0,.inl ⟨rfl,by have:=W8 h;dsimp only;lia⟩⟩
 | cross h h0 h1 ih=>exact key h ih ⟨h0,.inr (.inl ⟨rfl,by have:=W8 h;dsimp only;lia⟩)⟩
 | fin h h0 h1 ih=>exact key h ih ⟨h0,.inr (.inr ⟨rfl,by have:=W8 h;dsimp only;lia⟩)⟩
def WB (B:Nat) (L:WS):Prop:=∀w∈L,w.length+2<=B /\ ∀k∈w,0<=k
theorem Zhv {B:Nat}:WB B []:=fun w h=>nomatch h
theorem Jw {B B':Nat}{L:WS} (h:WB B L) (hB:B<=B'):WB B' L:=fun w hw=>⟨by have:=(h w hw).1;lia,(h w hw).2⟩
theorem Zbd {B:Nat}{L M:WS} (h:WB B L) (h':WB B M):WB B (Jf L M):=fun w hw=>by
 rcases List.mem_append.mp ((Z5 _).sub hw) with z | z
 ·exact h w z
 ·exact h' w z
theorem UX {a b B:Nat}{L M:WS} (h:∀w∈L,w.length<=a /\ ∀k∈w,0<=k) (h':∀w∈M,w.length<=b /\ ∀k∈w,0<=k) (hB:a+b+2<=B):WB B (Ym L M):=fun w hw=>by
 obtain ⟨u,hu,z⟩:=List.mem_flatMap.mp ((Z5 _).sub hw)
 obtain ⟨v,hv,rfl⟩:=List.mem_map.mp z
 refine ⟨by rw [List.length_append];have:=(h u hu).1;have:=(h' v hv).1;lia,fun k hk=>?_⟩
 rcases List.mem_append.mp hk with z | z
 ·exact (h u hu).2 k z
 ·exact (h' v hv).2 k z
theorem Zbf {t:Int} (ht:0<=t):∀w ∈ [[t]],w.length<=1 /\ ∀k∈w,0<=k:=fun w hw=>by
 rw [List.mem_singleton.mp hw]
 exact ⟨by simp,fun k hk=>by rw [List.mem_singleton.mp hk];exact ht⟩
theorem Zl5 {x:Str}{k:Nat}{t:Int}{F:Nat->Nat->WS}{B:Nat} (hB:2<=B) (ht:0<=t) (h:∀i j,WB B (F i j)) (i j:Nat):
  WB (if x = "cross" then B+1 else if x = "end" ∨ x ≠ "born" then 2*B else B) (nxF x k t F i j):=by
 have lo:∀i j,∀w∈F i j,w.length<=B-2 /\ ∀k∈w,0<=k:=fun i j w hw=>⟨by have:=(h i j w hw).1;lia,(h i j w hw).2⟩
 unfold nxF
 by_cases e:x = "born"
 ·subst e
  rw [if_pos rfl,if_neg (by decide),if_neg (by decide)]
  unfold UT
  split
  ·intro w hw
   rw [List.mem_singleton.mp hw]
   exact ⟨by simpa using hB,fun k hk=>nomatch hk⟩
  ·split
   ·exact Zhv
   ·exact h _ _
 ·rw [if_neg e]
  by_cases e2:x = "cross"
  ·subst e2
   rw [if_pos rfl,if_pos rfl]
   unfold Wg
   repeat' split
   ·exact Zhv
   ·exact Jw (h _ _) (by lia)
   ·exact Zbd (Jw (h _ _) (by lia)) (UX (Zbf ht) (lo _ _) (by lia))
   ·exact Jw (h _ _) (by lia)
   ·exact Zbd (Jw (h _ _) (by lia)) (UX (lo _ _) (Zbf ht) (by lia))
   ·exact Jw (h _ _) (by lia)
  ·rw [if_neg e2,if_neg e2,if_pos (.inr e)]
   unfold Zcl
   split
   ·refine Zbd (Jw (h _ _) (by lia)) (UX (a:=B-1) (b:=B-1) (fun w hw=>?_) (fun w hw=>?_) (by lia))
    ·have:=Zbd (B:=B+1) (Jw (h i (k+1)) (by lia)) (UX (B:=B+1) (lo i k) (Zbf ht) (by lia)) w hw
     exact ⟨by have:=this.1;lia,this.2⟩
    ·have:=Zbd (B:=B+1) (Jw (h k (j+2)) (by lia)) (UX (B:=B+1) (Zbf ht) (lo (k+1) (j+2)) (by lia)) w hw
     exact ⟨by have:=this.1;lia,this.2⟩
   ·exact Jw (h _ _) (by lia)
theorem ZmV {ls:List (Str×Int)}{n:Int} (h:Wk ls n):n+2*(cnt "end" ls:Int)=2*(cnt "born" ls:Int):=by
 induction h with
 | nil=>rfl
 | born h h0 h1 ih=>rw [Yn,Yn,if_neg (by dsimp only;decide),if_pos rfl];lia
 | cross h h0 h1 ih=>rw [Yn,Yn,if_neg (by dsimp only;decide),if_neg (by dsimp only;decide)];lia
 | fin h h0 h1 ih=>rw [Yn,Yn,if_pos rfl,if_neg (by dsimp only;decide)];lia
def bdW (ls:List (Str×Int)):Nat:=2 ^ cnt "end" ls*(2+cnt "cross" ls)
theorem ZmG (ls:List (Str×Int)):2<=bdW ls:=by
 unfold bdW
 have:1<=2 ^ cnt "end" ls:=Nat.one_le_two_pow
 calc 2=1*2:=rfl
  _<=2 ^ cnt "end" ls*(2+cnt "cross" ls):=Nat.mul_le_mul this (by lia)
theorem Znm {ls:List (Str×Int)}{n:Int} (h:Wk ls n):∀i j,WB (bdW ls) (tF ls i j):=by
 have key:∀{ls:List (Str×Int)}{x:Str}{k:Int},Kd x->(∀i j,WB (bdW ls) (tF ls i j)) -> ∀i j,WB (bdW (ls ++ [(x,k)])) (tF (ls ++ [(x,k)]) i j):=by
  intro ls x k kd ih i j
  rw [Wj]
  refine Jw (Zl5 (ZmG ls) (by lia) ih i j) ?_
  unfold bdW
  rw [Yn,Yn]
  dsimp only
  have p1:1<=2 ^ cnt "end" ls:=Nat.one_le_two_pow
  rcases kd with rfl | rfl | rfl
  ·rw [if_neg (by decide),if_neg (by decide),if_neg (by decide),if_neg (by decide)]
   exact Nat.le_refl _
  ·rw [if_pos rfl,if_neg (by decide),if_pos rfl]
   simp only [Nat.add_zero]
   rw [<- Nat.add_assoc,Nat.mul_add _ _ 1]
   lia
  ·rw [if_neg (by decide),if_pos (by decide),if_pos rfl,if_neg (by decide),Nat.pow_succ]
   rw [Nat.mul_comm (2 ^ _) 2,Nat.mul_assoc]
   exact Nat.le_refl _
 induction h with
 | nil=>intro i j;exact Zhv
 | born h h0 h1 ih=>exact key (.inl rfl) ih
 | cross h h0 h1 ih=>exact key (.inr (.inl rfl)) ih
 | fin h h0 h1 ih=>exact key (.inr (.inr rfl)) ih
theorem ZfY (x:Str) (ls:List (Str×Int)) (i:Nat):cnt x (ls.take i)<=cnt x ls:=by
 unfold cnt
 exact List.Sublist.length_le ((List.take_sublist i ls).filter _)
theorem YH {ls:List (Str×Int)}{m:Int} (h:Wk ls m):∀i,∃n,Wk (ls.take i) n:=by
 have key:∀{ls:List (Str×Int)}{q:Str×Int}{m:Int},(∀i,∃n,Wk (ls.take i) n)->Wk (ls ++ [q]) m -> ∀i,∃n,Wk ((ls ++ [q]).take i) n:=by
  intro ls q m ih h i
  by_cases z:i<=ls.length
  ·rw [List.take_append_of_le_length z];exact ih i
  ·rw [List.take_of_length_le (by rw [List.length_append,List.length_singleton];lia)];exact ⟨m,h⟩
 induction h with
 | nil=>intro i;exact ⟨0,by simpa using Wk.nil⟩
 | born h h0 h1 ih=>exact key ih (Wk.born h h0 h1)
 | cross h h0 h1 ih=>exact key ih (Wk.cross h h0 h1)
 | fin h h0 h1 ih=>exact key ih (Wk.fin h h0 h1)
theorem ZkF {ls:List (Str×Int)} (hW:Wk ls 0) (hb:InB ls) (a i j:Nat):WB 300 (tF (ls.take a) i j):=by
 obtain ⟨n,h⟩:=YH hW a
 refine Jw (Znm h i j) ?_
 have b1:=hb.2.1
 have b2:=hb.2.2
 rw [Zbp] at b1 b2
 have k:=ZmV hW
 have c1:=ZfY "end" ls a
 have c2:=ZfY "cross" ls a
 unfold bdW
 have e4:2 ^ cnt "end" (ls.take a)<=2 ^ 4:=Nat.pow_le_pow_right (by decide) (by lia)
 calc 2 ^ cnt "end" (ls.take a)*(2+cnt "cross" (ls.take a))<=2 ^ 4*14:=Nat.mul_le_mul e4 (by lia)
  _<=300:=by decide
theorem Zol {ls:List (Str×Int)} (hW:Wk ls 0) (hb:InB ls) {a:Nat} (fw:Few (tN (ls.take a)) (tF (ls.take a))):TGd (tN (ls.take a)) 50000 (tF (ls.take a)):=fun i j hi hj=>
 ⟨fw i j hi hj,fun w hw=>⟨by have:=(ZkF hW hb a i j w hw).1;lia,(ZkF hW hb a i j w hw).2⟩⟩
theorem tab_keep {G:Hp}{r b:Addr}{n:Nat}{F:Nat->Nat->WS}{us vs:List V} (x:Tab G r n F) (hr:r≠b) (nw:∀L,¬WL G b L) (nr:0<n -> ∀f,¬Wh G b n f) (hb:G b=some (.lst us)):Tab (upd G b (.lst vs)) r n F:=by
 obtain ⟨A,e,m⟩:=x
 refine ⟨A,by rw [Zj hr];exact e,Zgk m (fun r' h'=>?_) hb⟩
 obtain ⟨i,hi,rfl⟩:=List.getElem_of_mem h'
 have R:=m.2.2 i A[i] (by simp)
 have hn:0<n:=by have:=m.1;lia
 refine ⟨fun z=>nr hn (F i) (z ▸ R),fun xs e' hx he z=>?_⟩
 obtain ⟨ys,a,_,c⟩:=R
 rw [a] at hx
 have hxy:ys=xs:=by injection hx with hx;injection hx
 subst hxy
 obtain ⟨j,hj⟩:=List.mem_iff_getElem?.mp he
 obtain ⟨e'',p,q⟩:=c j _ hj
 cases p
 subst z
 exact nw _ q
structure Tbs (G:Hp) (b:Addr) (ls:List (Str×Int)) (T:List Addr):Prop where
 at_:G b=some (.lst (T.map V.ref))
 ne:0<T.length
 tab:∀(a:Nat) (r:Addr),T[a]? = some r->Tab G r (tN (ls.take a)) (tF (ls.take a))/\r≠b
theorem UC {G G':Hp}{b:Addr}{ls:List (Str×Int)}{T:List Addr} (s:Ze G G') (x:Tbs G b ls T):Tbs G' b ls T:=⟨s _ _ x.at_,x.ne,fun a r h=>⟨(x.tab a r h).1.same s,(x.tab a r h).2⟩⟩
theorem ZkP {G:Hp}{b:Addr}{ls:List (Str×Int)}{T:List Addr} (x:Tbs G b ls T) (L:WS):¬WL G b L:=fun ⟨xs,e,w⟩=>by
 rw [x.at_] at e
 have hxy:T.map V.ref=xs:=by injection e with e;injection e
 subst hxy
 have h0:T[0]? = some (T[0]'x.ne):=by simp
 obtain ⟨_,_,t,ht,hh⟩:=Words.get (i:=0) w (by rw [List.getElem?_map,h0];rfl)
 cases ht
 obtain ⟨A,e,_⟩:=(x.tab 0 _ h0).1
 rw [e] at hh
 cases hh
theorem Zoj {ls:List (Str×Int)} (hW:Wk ls 0) (h:0<ls.length):tN (ls.take 1)=2:=by
 obtain ⟨p,hp⟩:∃p,ls[0]? = some p:=⟨ls[0],by simp [h]⟩
 have e:ls.take 1 = [] ++ [p]:=by rw [show (1:Nat)=0+1 from rfl,List.take_add_one,hp];rfl
 rw [e,YM]
 have ft:=(Zdu hW 0 p hp).2
 rcases ft with ⟨a,_⟩ | ⟨_,b⟩ | ⟨_,b⟩
 ·unfold nxN;rw [if_pos a];rfl
 ·exact absurd b (by show ¬_+1<0;lia)
 ·exact absurd b (by show ¬_+1<0;lia)
theorem Zjr {G:Hp}{b:Addr}{ls:List (Str×Int)}{T:List Addr} (hW:Wk ls 0) (x:Tbs G b ls T) (hl:T.length<=ls.length) {n:Nat} (hn:2<=n) (f:Nat->WS):¬Wh G b n f:=fun R=>by
 obtain ⟨xs,e,a,l,c,w⟩:=R.at (j:=1) (by lia)
 rw [x.at_] at a
 have hxy:T.map V.ref=xs:=by injection a with a;injection a
 subst hxy
 rw [List.length_map] at l
 rw [List.getElem?_map] at c
 obtain ⟨r,h1,h2⟩:=Option.map_eq_some_iff.mp c
 cases h2
 have tb:=(x.tab 1 _ h1).1
 rw [Zoj hW (by lia)] at tb
 obtain ⟨ys,r0,b1,_,b3,b4⟩:=tb.row (i:=0) (by lia)
 obtain ⟨us,u1,u2⟩:=w
 rw [b1] at u1
 have hxy:ys=us:=by injection u1 with u1;injection u1
 subst hxy
 obtain ⟨_,_,t,ht,hh⟩:=Words.get (i:=0) u2 b3
 cases ht
 obtain ⟨zs,q,_⟩:=b4
 rw [q] at hh
 cases hh
theorem Zmg {ls:List (Str×Int)}{n:Int} (h:Wk ls n):tN ls % 2=0:=by
 have a:=W8 h
 have b:=ZmV h
 lia
theorem ZjS {G:Hp}{b p:Addr}{ls:List (Str×Int)}{T:List Addr} (hW:Wk ls 0) (x:Tbs G b ls T) (hl:T.length<=ls.length) (tb:Tab G p (tN (ls.take T.length)) (tF (ls.take T.length))) (hp:p≠b):Tbs (upd G b (.lst (T.map V.ref ++ [.ref p]))) b ls (T ++ [p]):=by
 have keep:∀(a:Nat) (r:Addr),Tab G r (tN (ls.take a)) (tF (ls.take a))->r≠b->Tab (upd G b (.lst (T.map V.ref ++ [.ref p]))) r (tN (ls.take a)) (tF (ls.take a)):=fun a r t n=>by
  refine tab_keep t n (ZkP x) (fun h0 f=>Zjr hW x hl ?_ f) x.at_
  obtain ⟨m,h⟩:=YH hW a
  have:=Zmg h
  lia
 refine ⟨by rw [List.map_append];exact Zb,by rw [List.length_append];have:=x.ne;lia,fun a r h=>?_⟩
 by_cases z:a<T.length
 ·rw [List.getElem?_append_left z] at h
  exact ⟨keep a r (x.tab a r h).1 (x.tab a r h).2,(x.tab a r h).2⟩
 ·rw [List.getElem?_append_right (by lia)] at h
  have:a-T.length=0:=by
   have:=(List.getElem?_eq_some_iff.mp h).1
   simp at this;lia
  rw [this] at h
  cases h
  have:a=T.length:=by lia
  subst this
  exact ⟨keep _ _ tb hp,hp⟩
def Gn (ls:List (Str×Int)) (m:Nat):Prop:=∀a,a<=m->Few (tN (ls.take a)) (tF (ls.take a))
theorem ZgC {α:Type}{l:List α}{i:Nat}{x:α} (hl:l.length=i+1) (h:l[i]? = some x):atI l (-1)=some x:=by
 unfold atI ixN
 rw [if_neg (by decide),if_pos (by lia),hl,show ((-1:Int)+((i+1:Nat):Int)).toNat=i by lia]
 exact h
theorem Zih {ls:List (Str×Int)} (hW:Wk ls 0) (hI:InB ls) (a:Nat):tN (ls.take a)<=8:=by
 obtain ⟨m,hm⟩:=YH hW a
 have h1:=W8 hm
 have h2:=ZbH hm
 have h3:=hI.1 a
 lia
theorem Zkw {x:Str}{k n b:Nat}{t:Int}{F:Nat->Nat->WS} (tg:TGd n b F) (ft:Fit x k n):∀i j,i<nxN x n->j<nxN x n->(nxF x k t F i j).length<10000000:=by
 have pl:∀A B:WS,(Jf A B).length<=A.length+B.length:=fun A B=>by have:=(Z5 (A++B)).len;rw [List.length_append] at this;exact this
 have tl:∀A B:WS,(Ym A B).length<=A.length*B.length:=fun A B=>by have:=(Z5 (prd A B)).len;rw [Zcw] at this;exact this
 have F200:∀i j,i<n->j<n->(F i j).length<=200:=fun i j hi hj=>(tg i j hi hj).1
 intro i j hi hj
 unfold nxN at hi hj
 unfold nxF
 rcases ft with ⟨rfl,hk⟩ | ⟨rfl,hk⟩ | ⟨rfl,hk⟩
 ·rw [if_pos rfl] at hi hj ⊢
  unfold UT
  split
  ·decide
  ·split
   ·decide
   ·have:=F200 (if i<k then i else i-2) (if j<k then j else j-2) (by split<;>lia) (by split<;>lia)
    lia
 ·rw [if_neg (by decide),if_pos rfl] at hi hj ⊢
  unfold Wg
  repeat' split
  ·decide
  ·have:=F200 (k+1) j (by lia) (by lia);lia
  ·have h1:=F200 k j (by lia) (by lia)
   have h2:=F200 (k+1) j (by lia) (by lia)
   have h3:=tl [[t]] (F (k+1) j)
   have h4:=pl (F k j) (Ym [[t]] (F (k+1) j))
   simp only [List.length_singleton,Nat.one_mul] at h3
   lia
  ·have:=F200 i k (by lia) (by lia);lia
  ·have h1:=F200 i (k+1) (by lia) (by lia)
   have h2:=F200 i k (by lia) (by lia)
   have h3:=tl (F i k) [[t]]
   have h4:=pl (F i (k+1)) (Ym (F i k) [[t]])
   simp only [List.length_singleton,Nat.mul_one] at h3
   lia
  ·have:=F200 i j (by lia) (by lia);lia
 ·rw [if_neg (by decide),if_neg (by decide)] at hi hj ⊢
  unfold Zcl
  split
  ·rename_i hc
   have a1:=F200 i (k+1) (by lia) (by lia)
   have a2:=F200 i k (by lia) (by lia)
   have a3:=tl (F i k) [[t]]
   simp only [List.length_singleton,Nat.mul_one] at a3
   have a4:(U0 k t F i).length<=400:=by have:=pl (F i (k+1)) (Ym (F i k) [[t]]);unfold U0;lia
   have b1:=F200 k (j+2) (by lia) (by lia)
   have b2:=F200 (k+1) (j+2) (by lia) (by lia)
   have b3:=tl [[t]] (F (k+1) (j+2))
   simp only [List.length_singleton,Nat.one_mul] at b3
   have b4:(ZdI k t F (j+2)).length<=400:=by have:=pl (F k (j+2)) (Ym [[t]] (F (k+1) (j+2)));unfold ZdI;lia
   have c1:=tl (U0 k t F i) (ZdI k t F (j+2))
   have c2:(U0 k t F i).length*(ZdI k t F (j+2)).length<=400*400:=Nat.mul_le_mul a4 b4
   have c3:=F200 i (j+2) (by lia) (by lia)
   have c4:=pl (F i (j+2)) (Ym (U0 k t F i) (ZdI k t F (j+2)))
   lia
  ·have:=F200 (if i<k then i else i+2) (if j<k then j else j+2) (by split<;>lia) (by split<;>lia)
   lia
def ZmD (C W:Addr):Sp:=fun vs H Q E=>∃(l:Addr) (xs:List V) (ls:List (Str×Int)),vs = [.ref l]/\H l=some (.lst xs)/\Zu H xs ls/\Wk ls 0/\InB ls/\ls.length<=60 /\
 (Gn ls ls.length -> ∀(p:Addr) (H':Hp) (T:List Addr),H p=none->Ze H H'->Tbs H' p ls T->T.length=ls.length+1->Q (.ref p) H')/\(¬Gn ls ls.length -> ∀H',Ze H H'->E (.ref C) none H')
abbrev Uo:Stmt:=top 22
theorem Jm:Zp ["drawing", "way", "tables", "t", "letter"] ["drawing"] (Zi Uo):={}
theorem ZoS {f C Zy:Addr}{fd:FuncData} (F:Yd K "sum_tables" "sum_tables" Uo f fd) (ZbD:mg "WordWay" = some (.ref Zy)) (k_WordWay:MkO K Zy) (WD:Yg P w K mg base 5 "table_behind" ["table", "letter", "name", "way"] (ZnY Zy)) (Gx:Zat P w K mg base 1 "check_words" ["table"] (Zn0 C)) (ZP:mg "enumerate" = none):ZX P w K mg base (CX1 P w) 6 f fd ["drawing"] (ZmD C Zy):=by
 refine F.okX Jm (fun vs H Q E h=>?_) (fun cdv A outer s H vs Q E hr h=>?_)
 ·obtain ⟨l,xs,ls,rfl,_⟩:=h
  rfl
 ·obtain ⟨l,xs,ls,rfl,hl,hL,hW,hI,hlen,k,kx⟩:=h
  refine ⟨_,(Zd (Zq (i:=1) Jm.nd rfl (Or.inl rfl) (ZjF k_WordWay (by rfl) ZbD))
   (Zd (Zq (i:=2) Jm.nd rfl (Or.inl rfl) (ZT (Za (ZT Zc) Zc)))
   (Zd (ZZ PassesOwn.leaving rfl (UP (K:=K) rfl (by rfl) ZP (Za (pv 0) Zc)) (Yr (K:=K) (n:=2) rfl rfl (Zw (Zl (i:=3) Jm.nd rfl (Or.inl rfl)) (Zw (Zl (i:=4) Jm.nd rfl (Or.inl rfl)) Yw))) (Zd (Ya (YU (K:=K) rfl (JJ PySem.F.plainAttrs_list PySem.F.slot_list_append PySem.F.type_list_append Z4 (pv 2) (Za (Zm WD hr (Za (Zv (Zk (K:=K) rfl) (pv 2) (ZaC Gp Zf) (fun _ _=>rfl)) (Za (pv 4) (Za (ZT (Za (YV (Za (pv 3) Zc)) Zc)) (Za (pv 1) Zc))))) Zc))))
   (Zh (Ya (Wv Gx (hr.mono (by decide)) ZhS (Za (Zv (Zk (K:=K) rfl) (pv 2) (ZaC Gp Zf) (fun _ _=>rfl)) Zc))))))
   (Zh (Zs (pv 2)))))),?_⟩
  have lx:=hL.len
  intro x dx hx hdx ndx
  obtain ⟨H1,e1⟩:∃H1,upd (upd H dx (.own x)) x (.ins Zy dx [])=H1:=⟨_,rfl⟩
  have s1:Ze H H1:=by rw [<- e1];exact (Ze.laid hdx).put hx
  have ew:H1 x=some (.ins Zy dx []):=by rw [<- e1];exact Zb
  rw [e1]
  refine ⟨(by show 0<=sizeLine;decide),fun t0 ft0=>⟨(by show 1<=sizeLine;decide),fun tb ftb=>?_⟩⟩
  have s2:Ze H1 (upd H1 t0 (.lst [])):=Ze.laid ft0
  have n0:t0≠tb:=fun z=>by rw [<- z,Zb] at ftb;cases ftb
  obtain ⟨H2,e2⟩:∃H2,upd (upd H1 t0 (.lst [])) tb (.lst [.ref t0])=H2:=⟨_,rfl⟩
  have s3:Ze (upd H1 t0 (.lst [])) H2:=by rw [<- e2];exact Ze.laid ftb
  have etb:H2 tb=some (.lst ([t0].map V.ref)):=by rw [<- e2];exact Zb
  rw [e2]
  have s12:=(s1.trans s2).trans s3
  have ftH:H tb=none:=(s1.trans s2).free ftb
  have z0:Few 0 (tF (ls.take 0)):=fun i j hi=>by lia
  have T0:Tbs H2 tb ls [t0]:=⟨etb,by simp,fun a r h=>by
   match a,h with
   | 0,h=>
    cases h
    exact ⟨⟨[],s3 _ _ Zb,Zaj⟩,n0⟩⟩
  refine ⟨_,rfl,l,rfl,⟨_,Zo.of (s12 _ _ hl)⟩,Zfl (K:=K) (a:=l) (xs:=xs) (fun i σ G=>∃(v3 v4:Option V) (T:List Addr),σ = [some (.ref l),some (.ref x),some (.ref tb),v3,v4]/\Ze H G/\Zcd G Zy x/\Tbs G tb ls T/\T.length=i+1/\Gn ls i)
   ⟨none,none,[t0],rfl,s12,⟨dx,[],s3 _ _ (s2 _ _ ew),rfl⟩,T0,rfl,fun a ha=>by rw [show a=0 by lia];exact z0⟩ (fun i σ G _ ⟨_,_,_,_,sg,_⟩=>Zo.of (sg _ _ hl)) ?_ ?_⟩
  ·rintro i y p σ G hy ⟨v3,v4,T,rfl,sg,wy,tbs,lT,few⟩ fp
   obtain ⟨⟨kd,kk⟩,q,hq,rfl,ht⟩:=hL.get hy
   have hi:i<ls.length:=(List.getElem?_eq_some_iff.mp hq).1
   obtain ⟨k0,ft⟩:=Zdu hW i _ hq
   dsimp only at k0 ft
   obtain ⟨kn,rfl⟩:=Int.eq_ofNat_of_zero_le k0
   rw [Int.toNat_natCast] at ft
   obtain ⟨G0,eG0⟩:∃G0,upd G p (.tup [.int i,.ref q])=G0:=⟨_,rfl⟩
   have sp:Ze G G0:=by rw [<- eG0];exact Ze.laid fp
   have ep:G0 p=some (.tup [.int i,.ref q]):=by rw [<- eG0];exact Zb
   rw [eG0]
   refine ⟨p,_,rfl,Uw.of ep,rfl,_,_,rfl,_,_,rfl,rfl,?_⟩
   have tbs0:=UC sp tbs
   have hTi:T[i]? = some (T[i]'(by lia)):=by simp
   have hlast:atI (T.map V.ref) (-1)=some (.ref (T[i]'(by lia))):=ZgC (by rw [List.length_map];exact lT) (by rw [List.getElem?_map,hTi];rfl)
   refine ⟨_,rfl,.inl ⟨rfl,_,Zo.of tbs0.at_⟩,_,rfl,1,rfl,tb,_,_,_,rfl,rfl,Zo.of tbs0.at_,hlast,_,rfl,_,rfl,(by show 1<=sizeLine;decide),fun u1 fu1=>⟨(by show 1<=sizeLine;decide),fun u2 fu2=>?_⟩⟩
   obtain ⟨G2,eG2⟩:∃G2,upd (upd G0 u1 (.tup [.int i])) u2 (.lst [.ref u1])=G2:=⟨_,rfl⟩
   have su:Ze G0 G2:=by rw [<- eG2];exact (Ze.laid fu1).step fu2
   have wn:WL G2 u2 [[(i:Int)]]:=by rw [<- eG2];exact ⟨_,Zb,.cons ⟨u1,rfl,Ze.laid fu2 _ _ Zb⟩ .nil⟩
   rw [eG2]
   have tbs2:=UC su tbs0
   have wy2:=Zgy (sp.trans su) wy
   have n8:=Zih hW hI i
   have tg:=Zol hW hI (few i (Nat.le_refl _))
   have eqt:ls.take (i+1)=ls.take i ++ [(kd,(kn:Int))]:=by rw [List.take_add_one,hq];rfl
   have li:(ls.take i).length=i:=by rw [List.length_take];lia
   refine ⟨_,rfl,T[i]'(by lia),q,u2,x,tN (ls.take i),kn,kd,(i:Int),tF (ls.take i),rfl,wy2,(tbs2.tab i _ hTi).1,(sg.trans (sp.trans su)) _ _ ht,wn,by lia,by lia,tg,ft,fun p' G3 fp' t3 tab'=>?_⟩
   have e1':nxN kd (tN (ls.take i))=tN (ls.take (i+1)):=by rw [eqt,YM]
   have e2':nxF kd kn (i:Int) (tF (ls.take i))=tF (ls.take (i+1)):=by rw [eqt,Wj,li];rfl
   have lens:=Zkw (t:=(i:Int)) tg ft
   rw [e1',e2'] at tab' lens
   have tbs3:=UC t3 tbs2
   have np':p'≠tb:=fun z=>by have:=tbs2.at_;rw [<- z,fp'] at this;cases this
   have push:=ZjS hW tbs3 (by lia) (by rw [lT];exact tab') np'
   refine ⟨tb,_,_,rfl,rfl,tbs3.at_,by rw [List.length_map,lT,sizeLine_eq];lia,?_⟩
   obtain ⟨G4,eG4⟩:∃G4,upd G3 tb (.lst (T.map V.ref ++ [.ref p']))=G4:=⟨_,rfl⟩
   have S4:Ze H G4:=by rw [<- eG4];exact ((sg.trans (sp.trans su)).trans t3).put ftH
   have wy4:Zcd G4 Zy x:=by
    obtain ⟨dx',fs',ew',rfl⟩:=Zgy t3 wy2
    refine ⟨dx',[],?_,rfl⟩
    rw [<- eG4,Zj (fun z=>by rw [z,tbs3.at_] at ew';cases ew')]
    exact ew'
   rw [eG4] at push ⊢
   have h5:(T ++ [p'])[i+1]? = some p':=by rw [List.getElem?_append_right (by lia),lT];simp
   refine ⟨_,rfl,1,rfl,tb,_,_,_,rfl,rfl,Zo.of push.at_,ZgC (by rw [List.length_map,List.length_append,lT];rfl) (by rw [List.getElem?_map,h5];rfl),?_⟩
   refine ⟨p',_,_,rfl,(push.tab (i+1) p' h5).1,(by have:=Zih hW hI (i+1);lia),lens,fun fw=>?_,fun nf=>kx (fun all=>nf (all (i+1) (by lia))) G4 S4⟩
   refine ⟨_,_,T ++ [p'],rfl,S4,wy4,push,by rw [List.length_append,lT];rfl,fun a ha=>?_⟩
   by_cases z:a=i+1
   ·rw [z];exact fw
   ·exact few a (by lia)
  ·rintro σ G ⟨v3,v4,T,rfl,sg,wy,tbs,lT,few⟩
   rw [lx] at lT few
   exact ⟨_,rfl,k few tb G T ftH sg tbs lT⟩
def nms (ls:List (Str×Int)):List Int:=Z0 ls (fun x=>!decide (x = "born")) ls.length
theorem Zal {ls:List (Str×Int)}{pr:Str->Bool}{n j:Nat}{t:Int} (h:(Z0 ls pr n)[j]? = some t):∃(a:Nat) (p:Str×Int),t=(a:Int)/\a<n/\ls[a]? = some p/\pr p.1=true:=by
 have m:=List.mem_of_getElem? h
 unfold Z0 at m
 obtain ⟨a,ha,e⟩:=List.mem_filterMap.mp m
 rw [List.mem_range] at ha
 by_cases z:isK ls pr a=true
 ·rw [if_pos z] at e
  cases e
  unfold isK at z
  cases q:ls[a]? with
  | none=>rw [q] at z;simp at z
  | some p=>rw [q] at z;exact ⟨a,p,rfl,ha,q,by simpa using z⟩
 ·rw [if_neg z] at e;cases e
theorem canon_id {L:WS} (h:SR L):canon L=L:=by
 refine (Y2.canon ⟨h,fun y=>?_⟩).symm
 have nd:L.Nodup:=h.imp fun {a b} lt e=>by rw [e,Zak] at lt;cases lt
 by_cases m:y∈L
 ·exact ⟨fun _=>by have h1:=List.nodup_iff_count.mp nd y;have h2:=List.count_pos_iff.mpr m;lia,fun _=>m⟩
 ·refine ⟨fun z=>absurd z m,fun z=>?_⟩
  rw [List.count_eq_zero.mpr m] at z;cases z
theorem ZdA (ls:List (Str×Int)):∀i j,SR (tF ls i j):=by
 have key:∀(ls:List (Str×Int)) (s:Nat×(Nat->Nat->WS)×Int),(∀i j,SR (s.2.1 i j)) -> ∀i j,SR ((ls.foldl stT s).2.1 i j):=by
  intro ls
  induction ls with
  | nil=>intro s h;exact h
  | cons p ls ih=>
   intro s h
   rw [List.foldl_cons]
   refine ih _ fun i j=>?_
   show SR (nxF p.1 p.2.toNat s.2.2 s.2.1 i j)
   have pl:∀A B,SR (Jf A B):=fun A B=>(Z5 _).rise
   unfold nxF
   split
   ·unfold UT
    repeat' split
    all_goals first | exact h _ _ | exact List.pairwise_singleton _ _ | exact List.Pairwise.nil
   ·split
    ·unfold Wg
     repeat' split
     all_goals first | exact h _ _ | exact pl _ _ | exact List.Pairwise.nil
    ·unfold Zcl
     split
     ·exact pl _ _
     ·exact h _ _
 exact key ls _ fun i j=>List.Pairwise.nil
def dW (ls:List (Str×Int)) (t:Nat):WS:=
 match ls[t]? with
 | some p=>if p.1 = "end" then Jf (tF (ls.take t) p.2.toNat (p.2.toNat+1)) [[]] else tF (ls.take t) p.2.toNat (p.2.toNat+1)
 | none=>[]
theorem ZeY {ls:List (Str×Int)}{t k:Nat} (h:ls[t]? = some ((("end" : Str),(k:Int)):Str×Int)):dW ls t=Jf (tF (ls.take t) k (k+1)) [[]]:=by
 unfold dW
 rw [h]
 exact if_pos rfl
theorem Zh0 {ls:List (Str×Int)}{t k:Nat}{x:Str} (h:ls[t]? = some (x,(k:Int))) (e:x ≠ "end"):dW ls t=tF (ls.take t) k (k+1):=by
 unfold dW
 rw [h]
 exact if_neg e
def DsE (H:Hp) (ls:List (Str×Int)) (es:List Addr):Prop:=∀(j:Nat) (e:Addr),es[j]? = some e -> ∃t:Nat,(nms ls)[j]? = some (t:Int)/\WL H e (dW ls t)
theorem DsE.same {H H':Hp}{ls:List (Str×Int)}{es:List Addr} (s:Ze H H') (x:DsE H ls es):DsE H' ls es:=fun j e h=>let ⟨t,a,b⟩:=x j e h;⟨t,a,b.same s⟩
theorem DsE.snoc {H:Hp}{ls:List (Str×Int)}{es:List Addr}{e:Addr}{t:Nat} (x:DsE H ls es) (h:(nms ls)[es.length]? = some (t:Int)) (w:WL H e (dW ls t)):DsE H ls (es ++ [e]):=fun j e' h'=>by
 by_cases z:j<es.length
 ·rw [List.getElem?_append_left z] at h'
  exact x j e' h'
 ·rw [List.getElem?_append_right (by lia)] at h'
  have:j-es.length=0:=by
   have:=(List.getElem?_eq_some_iff.mp h').1
   simp at this;lia
  rw [this] at h'
  cases h'
  rw [show j=es.length by lia]
  exact ⟨t,h,w⟩
theorem DsE.upd {H:Hp}{r:Addr}{ls:List (Str×Int)}{es:List Addr}{xs ys:List V} (hr:H r=some (.lst xs)) (n:r∉es) (x:DsE H ls es):DsE (L2.upd H r (.lst ys)) ls es:=fun j e h=>let ⟨t,a,b⟩:=x j e h;⟨t,a,b.upd hr fun z=>n (z ▸ List.mem_of_getElem? h)⟩
theorem DsE.there {H:Hp}{ls:List (Str×Int)}{es:List Addr}{e:Addr} (x:DsE H ls es) (h:e∈es):H e≠none:=fun z=>by
 obtain ⟨j,hj⟩:=List.mem_iff_getElem?.mp h
 obtain ⟨t,_,us,b,_⟩:=x j e hj
 rw [z] at b;cases b
def Zfd (C:Addr):Sp:=fun vs H Q E=>∃(l:Addr) (xs:List V) (ls:List (Str×Int)),vs = [.ref l]/\H l=some (.lst xs)/\Zu H xs ls/\Wk ls 0/\InB ls/\ls.length<=60 /\
 (Gn ls ls.length -> ∀(p:Addr) (H':Hp) (es:List Addr),H p=none->Ze H H'->H' p=some (.lst (es.map V.ref))->es.length=(nms ls).length->DsE H' ls es->es.Nodup->(∀e∈es,H e=none)->p∉es->Q (.ref p) H')/\(¬Gn ls ls.length -> ∀H',Ze H H'->E (.ref C) none H')
abbrev Zez:Stmt:=top 24
theorem GI:Zp ["drawing", "tables", "found", "t", "kind", "k"] ["drawing"] (Zi Zez):={}
theorem Zj6 {f C W:Addr}{fd:FuncData} (F:Yd K "deeds" "deeds" Zez f fd) (Y7:Zat P w K mg base 6 "sum_tables" ["drawing"] (ZmD C W)) (JQ:Yg P w K mg base 1 "names_of" ["drawing"] (WH fun x=>!decide (x = "born"))) (Zaf:Yg P w K mg base 2 "added" ["one", "other"] Zcz):ZX P w K mg base (CX1 P w) 7 f fd ["drawing"] (Zfd C):=by
 refine F.okX GI (fun vs H Q E h=>?_) (fun cdv A outer s H vs Q E hr h=>?_)
 ·obtain ⟨l,xs,ls,rfl,_⟩:=h
  rfl
 ·obtain ⟨l,xs,ls,rfl,hl,hL,hW,hI,hlen,k,kx⟩:=h
  refine ⟨_,(Zd (Zq (i:=1) GI.nd rfl (Or.inl rfl) (Wv Y7 (hr.mono (by decide)) ZhS (Za (pv 0) Zc)))
   (Zd (Zq (i:=2) GI.nd rfl (Or.inl rfl) (ZT Zc))
   (Zd (ZZ PassesOwn.leaving rfl (ZC (K:=K) rfl (Zm JQ hr (Za (pv 0) Zc))) (Zl (i:=3) GI.nd rfl (Or.inl rfl)) (Zd (Yl (Zv (Zk (K:=K) rfl) (pv 0) (pv 3) (fun _ _=>rfl)) (Yr (K:=K) (n:=2) rfl rfl (Zw (Zl (i:=4) GI.nd rfl (Or.inl rfl)) (Zw (Zl (i:=5) GI.nd rfl (Or.inl rfl)) Yw))))
   (Zh (Ya (YU (K:=K) rfl (JJ PySem.F.plainAttrs_list PySem.F.slot_list_append PySem.F.type_list_append Z4 (pv 2) (Za (Zm Zaf hr (Za (Zv (Zk (K:=K) rfl) (Zv (Zk (K:=K) rfl) (Zv (Zk (K:=K) rfl) (pv 1) (pv 3) (fun _ _=>rfl)) (pv 5) (fun _ _=>rfl)) (Zn ZN (pv 5) Zf) (fun _ _=>rfl)) (Za (Zbs (ZD J1 (pv 4) Z7 (ZI _)) (ZT (Za (YV Zc) Zc)) (ZT Zc)) Zc))) Zc)))))))
   (Zh (Zs (pv 2)))))),?_⟩
  refine ⟨_,rfl,l,xs,ls,rfl,hl,hL,hW,hI,hlen,fun few tA G0 T0 ftA s0 tbs0 lT0=>?_,fun nf H' s'=>kx nf H' s'⟩
  refine ⟨(by show 0<=sizeLine;decide),fun fA ffA=>?_⟩
  obtain ⟨G1,eG1⟩:∃G1,upd G0 fA (.lst [])=G1:=⟨_,rfl⟩
  have s1:Ze G0 G1:=by rw [<- eG1];exact Ze.laid ffA
  have ef1:G1 fA=some (.lst ([].map V.ref)):=by rw [<- eG1];exact Zb
  rw [eG1]
  have S1:=s0.trans s1
  refine ⟨_,rfl,l,xs,ls,rfl,S1 _ _ hl,hL.same S1,hlen,fun p hp=>hW.kd p hp,fun nA G2 fnA s2 enA=>?_⟩
  have nn:nA≠fA:=fun z=>by rw [z,ef1] at fnA;cases fnA
  have ffH:H fA=none:=s0.free ffA
  refine ⟨nA,rfl,⟨_,Zo.of enA⟩,Ye (K:=K) (a:=nA) (xs:=(nms ls).map V.int) (fun j σ G=>∃(v3 v4 v5:Option V) (es:List Addr),σ = [some (.ref l),some (.ref tA),some (.ref fA),v3,v4,v5]/\Ze G0 G/\G nA=some (.lst ((nms ls).map V.int))/\G fA=some (.lst (es.map V.ref))/\es.length=j/\DsE G ls es/\es.Nodup/\(∀e∈es,G0 e=none)/\fA∉es)
   ⟨none,none,none,[],rfl,s1.trans s2,enA,s2 _ _ ef1,rfl,(fun j e h=>by simp at h),.nil,(fun e h=>nomatch h),(fun h=>nomatch h)⟩ (fun j σ G _ ⟨_,_,_,_,_,_,e,_⟩=>Zo.of e) ?_ ?_⟩
  ·rintro j x σ G hx ⟨v3,v4,v5,es,rfl,sg,en,ef,le,ds,nd,fr,nf⟩
   rw [List.getElem?_map] at hx
   obtain ⟨t,ht,rfl⟩:=Option.map_eq_some_iff.mp hx
   obtain ⟨a,⟨kd,kk⟩,rfl,ha,hp,hkd⟩:=Zal ht
   obtain ⟨k0,ft⟩:=Zdu hW a _ hp
   dsimp only at k0 ft hkd
   obtain ⟨kn,rfl⟩:=Int.eq_ofNat_of_zero_le k0
   rw [Int.toNat_natCast] at ft
   have nb:kd ≠ "born" := by simpa using hkd
   have hk:kn+1<tN (ls.take a):=by
    rcases ft with ⟨z,_⟩ | ⟨_,z⟩ | ⟨_,z⟩
    ·exact absurd z nb
    ·exact z
    ·exact z
   obtain ⟨x,hx'⟩:∃x,xs[a]? = some x:=⟨xs[a]'(by have:=hL.len;lia),by simp⟩
   obtain ⟨q0,q,hq,rfl,etq⟩:=hL.get hx'
   rw [hp] at hq
   cases hq
   have SG:=s0.trans sg
   have tbs:=UC sg tbs0
   have hTa:T0[a]? = some (T0[a]'(by lia)):=by simp
   obtain ⟨ys,r,b1,_,b3,b4⟩:=(tbs.tab a _ hTa).1.row (i:=kn) (by lia)
   obtain ⟨us,e,c1,_,c3,c4⟩:=b4.at (j:=kn+1) hk
   have f200:=few a (by lia) kn (kn+1) (by lia) hk
   have app:∀(p':Addr) (G3:Hp),G p'=none->Ze G G3->WL G3 p' (dW ls a)->ZhR (.ref fA) [.ref p'] G3 (fun _ G4=>∃(v3 v4 v5:Option V) (es:List Addr),[some (.ref l),some (.ref tA),some (.ref fA),some (.int (a:Int)),some (.str kd),some (.int (kn:Int))] = [some (.ref l),some (.ref tA),some (.ref fA),v3,v4,v5]/\Ze G0 G4/\G4 nA=some (.lst ((nms ls).map V.int))/\G4 fA=some (.lst (es.map V.ref))/\es.length=j+1/\DsE G4 ls es/\es.Nodup/\(∀e∈es,G0 e=none)/\fA∉es):=fun p' G3 fp t3 wp=>by
    have np:p'≠fA:=fun z=>by rw [z,ef] at fp;cases fp
    have e3:=t3 _ _ ef
    have nin:p'∉es:=fun z=>ds.there z fp
    have hj:=(List.getElem?_eq_some_iff.mp ht).1
    have hnl:=JH ls (fun x=>!decide (x = "born")) ls.length
    refine ⟨fA,_,_,rfl,rfl,e3,by rw [List.length_map,le,sizeLine_eq];unfold nms at hj;lia,_,_,_,es ++ [p'],rfl,(sg.trans t3).put ffA,by rw [Zj nn];exact t3 _ _ en,by rw [List.map_append];exact Zb,by rw [List.length_append,le];rfl,DsE.snoc ((ds.same t3).upd e3 nf) (by rw [le];exact ht) (wp.upd e3 np),?_,?_,?_⟩
    ·rw [List.nodup_append]
     exact ⟨nd,by simp,fun x hx y hy z=>nin (by rw [List.mem_singleton.mp hy] at z;rw [<- z];exact hx)⟩
    ·intro e he
     rcases List.mem_append.mp he with z | z
     ·exact fr e z
     ·rw [List.mem_singleton.mp z];exact sg.free fp
    ·intro z
     rcases List.mem_append.mp z with z | z
     ·exact nf z
     ·exact np (List.mem_singleton.mp z).symm
   by_cases ek:kd = "end"
   ·subst ek
    refine ⟨_,rfl,_,rfl,l,_,_,_,rfl,rfl,Zo.of (SG _ _ hl),Zt hx',q,_,rfl,Uw.of (SG _ _ etq),rfl,_,_,rfl,_,_,rfl,rfl,?_⟩
    refine ⟨_,rfl,.inl ⟨rfl,_,Zo.of ef⟩,_,rfl,_,rfl,tA,_,_,_,rfl,rfl,Zo.of tbs.at_,Zt (by rw [List.getElem?_map,hTa];rfl),_,rfl,_,_,_,_,rfl,rfl,Zo.of b1,Zt b3,_,rfl,_,_,rfl,rfl,r,_,_,_,rfl,rfl,Zo.of c1,Zt (j:=kn+1) c3,_,rfl,rfl,_,rfl,Zar ?_⟩
    refine ⟨(by show 0<=sizeLine;decide),fun u1 fu1=>⟨(by show 1<=sizeLine;decide),fun u2 fu2=>?_⟩⟩
    have su:Ze G (upd (upd G u1 (.tup [])) u2 (.lst [.ref u1])):=(Ze.laid fu1).step fu2
    refine ⟨e,u2,_,[[]],rfl,c4.same su,⟨_,Zb,.cons ⟨u1,rfl,Ze.laid fu2 _ _ Zb⟩ .nil⟩,by simp;lia,fun p' G3 rr fp t3 wr od=>app p' G3 (su.free fp) (su.trans t3) ?_⟩
    rw [ZeY hp]
    have:=od.canon
    subst this
    exact wr
   ·refine ⟨_,rfl,_,rfl,l,_,_,_,rfl,rfl,Zo.of (SG _ _ hl),Zt hx',q,_,rfl,Uw.of (SG _ _ etq),rfl,_,_,rfl,_,_,rfl,rfl,?_⟩
    refine ⟨_,rfl,.inl ⟨rfl,_,Zo.of ef⟩,_,rfl,_,rfl,tA,_,_,_,rfl,rfl,Zo.of tbs.at_,Zt (by rw [List.getElem?_map,hTa];rfl),_,rfl,_,_,_,_,rfl,rfl,Zo.of b1,Zt b3,_,rfl,_,_,rfl,rfl,r,_,_,_,rfl,rfl,Zo.of c1,Zt (j:=kn+1) c3,_,rfl,rfl,_,rfl,Jy (fun c=>absurd (V.str.inj (of_decide_eq_true c)) ek) fun _=>?_⟩
    refine ⟨(by show 0<=sizeLine;decide),fun u2 fu2=>?_⟩
    have su:Ze G (upd G u2 (.lst [])):=Ze.laid fu2
    refine ⟨e,u2,_,[],rfl,c4.same su,⟨_,Zb,.nil⟩,by simp;lia,fun p' G3 rr fp t3 wr od=>app p' G3 (su.free fp) (su.trans t3) ?_⟩
    rw [Zh0 hp ek]
    have:=od.canon
    rw [List.append_nil,canon_id (ZdA _ _ _)] at this
    subst this
    exact wr
  ·rintro σ G ⟨v3,v4,v5,es,rfl,sg,en,ef,le,ds,nd,fr,nf⟩
   rw [List.length_map] at le
   exact ⟨_,rfl,k few fA G es ffH (s0.trans sg) ef le ds nd (fun e h=>s0.free (fr e h)) nf⟩
def Zif (G:Hp) (A:List Addr) (R:List (List Addr)):Prop:=Paired (fun r es=>G r=some (.lst (es.map V.ref))) A R
def Zh7 (G:Hp) (T:List Addr) (RR:List (List (List Addr))):Prop:=Paired (fun t R=>∃A,G t=some (.lst (A.map V.ref))/\Zif G A R) T RR
theorem ZaT {G G':Hp}{A:List Addr}{R:List (List Addr)} (s:Ze G G') (x:Zif G A R):Zif G' A R:=Paired.mapP x fun _ _ h=>s _ _ h
theorem Zdo {G G':Hp}{T:List Addr}{RR:List (List (List Addr))} (s:Ze G G') (x:Zh7 G T RR):Zh7 G' T RR:=Paired.mapP x fun _ _ ⟨A,h1,h2⟩=>⟨A,s _ _ h1,ZaT s h2⟩
def ZdM (B G:Hp) (E:List Addr):Prop:=E.Nodup /\ ∀e∈E,B e=none /\ ∃us,G e=some (.lst us)/\us.length<=200
theorem Zdh {B G:Hp}:ZdM B G []:=⟨.nil,fun e h=>nomatch h⟩
theorem ZbM {B G G':Hp}{E:List Addr} (s:Ze G G') (x:ZdM B G E):ZdM B G' E:=⟨x.1,fun e h=>let ⟨a,us,b,c⟩:=x.2 e h;⟨a,us,s _ _ b,c⟩⟩
theorem Zdn {B C G G':Hp}{E E':List Addr} (x:ZdM B G E) (bc:Ze B C) (gc:Ze G C) (y:ZdM C G' E') (s:Ze C G'):ZdM B G' (E++E'):=by
 refine ⟨?_,fun e h=>?_⟩
 ·rw [List.nodup_append]
  refine ⟨x.1,y.1,fun a ha b hb z=>?_⟩
  subst z
  obtain ⟨_,us,h1,_⟩:=x.2 a ha
  have:=(y.2 a hb).1
  rw [gc _ _ h1] at this
  cases this
 ·rcases List.mem_append.mp h with h | h
  ·obtain ⟨a,us,b,c⟩:=x.2 e h
   exact ⟨a,us,s _ _ (gc _ _ b),c⟩
  ·obtain ⟨a,us,b,c⟩:=y.2 e h
   exact ⟨bc.free a,us,b,c⟩
def Zla (C:Addr):Sp:=fun vs H Q E=>∃(l:Addr) (xs:List V) (ls:List (Str×Int)),vs = [.ref l]/\H l=some (.lst xs)/\Zu H xs ls/\Wk ls 0/\InB ls/\ls.length<=60 /\
 (Gn ls ls.length -> ∀(p:Addr) (H':Hp) (T:List Addr) (RR:List (List (List Addr))),H p=none->Ze H H'->Tbs H' p ls T->T.length=ls.length+1->Zh7 H' T RR->ZdM H H' RR.flatten.flatten->p∉RR.flatten.flatten->RR.flatten.flatten.length<=5000->(∀r∈T,H r=none)->Q (.ref p) H')/\(¬Gn ls ls.length -> ∀H',Ze H H'->E (.ref C) none H')
abbrev Zag:Stmt:=top 23
theorem ZhE:Zp ["drawing"] ["drawing"] (Zi Zag):={}
theorem Znv {f C W:Addr}{fd:FuncData} (F:Yd K "between" "between" Zag f fd) (Y7:Zat P w K mg base 6 "sum_tables" ["drawing"] (ZmD C W)) (GP:mg "list" = none):ZX P w K mg base (CX1 P w) 7 f fd ["drawing"] (Zla C):=by
 refine F.okX ZhE (fun vs H Q E h=>?_) (fun cdv A outer s H vs Q E hr h=>?_)
 ·obtain ⟨l,xs,ls,rfl,_⟩:=h
  rfl
 ·obtain ⟨l,xs,ls,rfl,hl,hL,hW,hI,hlen,k,kx⟩:=h
  refine ⟨_,(Zh (Zs (WZ (Ls:=["table"]) (Fs:=[]) (fi:=[]) (ZU.of (show YC ["drawing"] (Zi Zag) _ [] []=true by decide +kernel)) rfl (ZC (K:=K) rfl (Wv Y7 (hr.mono (by decide)) ZhS (Za (pv 0) Zc))) (fun cl C s3 H3 ex=>⟨(Zl (i:=0) (show ((["table"]:List Str)++([]:List Str)).Nodup by decide +kernel) rfl (Or.inl rfl)),Yf,(WZ (Ls:=["row"]) (Fs:=[]) (fi:=[]) (ZU.of (by rfl)) rfl (ZC (K:=K) rfl (pv 0)) (fun cl C s3 H3 ex=>⟨(Zl (i:=0) (show ((["row"]:List Str)++([]:List Str)).Nodup by decide +kernel) rfl (Or.inl rfl)),Yf,(WZ (Ls:=["one"]) (Fs:=[]) (fi:=[]) (ZU.of (by rfl)) rfl (ZC (K:=K) rfl (pv 0)) (fun cl C s3 H3 ex=>⟨(Zl (i:=0) (show ((["one"]:List Str)++([]:List Str)).Nodup by decide +kernel) rfl (Or.inl rfl)),Yf,(Zad (ZaG (K:=K) rfl) (by rfl) GP boot_list (Za (pv 0) Zc))⟩))⟩))⟩)))),?_⟩
  refine ⟨_,rfl,l,xs,ls,rfl,hl,hL,hW,hI,hlen,fun few tA G0 T0 ftA s0 tbs0 lT0=>?_,fun nf H' s'=>kx nf H' s'⟩
  have lm:(T0.map V.ref).length<=61:=by rw [List.length_map,lT0];lia
  refine ⟨tA,rfl,⟨_,Zo.of tbs0.at_⟩,Y8 (K:=K) (xs:=T0.map V.ref) (by rw [sizeLine_eq];lia) (fun i zs G=>∃(T:List Addr) (RR:List (List (List Addr))),Ze G0 G/\zs=T.map V.ref/\T.length=i/\(∀(a:Nat) (r:Addr),T[a]? = some r->Tab G r (tN (ls.take a)) (tF (ls.take a)))/\Zh7 G T RR/\ZdM G0 G RR.flatten.flatten/\RR.flatten.flatten.length<=64*i /\ ∀r∈T,G0 r=none)
   ⟨[],[],Ze.refl _,rfl,rfl,fun a r h=>by simp at h,.nil,Zdh,Nat.zero_le _,fun r h=>nomatch h⟩ (fun i zs G ⟨T,RR,_,e,l',_⟩=>by rw [e,List.length_map,l'];exact Nat.le_refl _) (fun i zs G ⟨_,_,s',_⟩=>Zo.of (s' _ _ tbs0.at_)) ?_ ?_⟩
  ·rintro i v zs G hv ⟨T,RR,sG,rfl,lT,tabs,te,ne,lE,fT⟩
   rw [List.getElem?_map] at hv
   obtain ⟨t0,ht0,rfl⟩:=Option.map_eq_some_iff.mp hv
   have hi:i<=ls.length:=by have:=(List.getElem?_eq_some_iff.mp ht0).1;lia
   obtain ⟨A,et,mt⟩:=(tbs0.tab i t0 ht0).1.same sG
   have lA:=mt.1
   have n8:=Zih hW hI i
   have fw:=few i hi
   obtain ⟨n,hn⟩:∃n,n=tN (ls.take i):=⟨_,rfl⟩
   obtain ⟨Fx,hF⟩:∃Fx,Fx=tF (ls.take i):=⟨_,rfl⟩
   rw [<- hn] at mt lA n8 fw
   rw [<- hF] at mt fw
   dsimp only [J0,Gf]
   refine Zar ⟨_,rfl,t0,rfl,⟨_,Zo.of et⟩,Y8 (K:=K) (xs:=A.map V.ref) (by rw [List.length_map,sizeLine_eq];lia) (fun j ws G'=>∃(As:List Addr) (R:List (List Addr)),Ze G G'/\ws=As.map V.ref/\Mat G' As j n Fx/\Zif G' As R/\ZdM G G' R.flatten/\R.flatten.length<=8*j)
    ⟨[],[],Ze.refl _,rfl,Zaj,.nil,Zdh,Nat.zero_le _⟩ (fun j ws G' ⟨As,R,_,e,m,_⟩=>by rw [e,List.length_map,m.1];exact Nat.le_refl _) (fun j ws G' ⟨_,_,s',_⟩=>Zo.of (s' _ _ et)) ?_ ?_⟩
   ·rintro j y ws G1 hy ⟨As,R,s1,rfl,mA,rE,nE,lR⟩
    rw [List.getElem?_map] at hy
    obtain ⟨r,hr',rfl⟩:=Option.map_eq_some_iff.mp hy
    have hj:j<n:=by have:=(List.getElem?_eq_some_iff.mp hr').1;lia
    obtain ⟨us,eu,lu,hu⟩:=(mt.2.2 j r hr').same s1
    dsimp only [J0,Gf]
    refine Zar ⟨_,rfl,r,rfl,⟨_,Zo.of eu⟩,Y8 (K:=K) (xs:=us) (by rw [lu,sizeLine_eq];lia) (fun m ys G'=>∃es:List Addr,Ze G1 G'/\ys=es.map V.ref/\es.length=m/\(∀(a:Nat) (e:Addr),es[a]? = some e->WL G' e (Fx j a))/\ZdM G1 G' es)
     ⟨[],Ze.refl _,rfl,rfl,fun a e h=>by simp at h,Zdh⟩ (fun m ys G' ⟨es,_,e,l',_⟩=>by rw [e,List.length_map,l'];exact Nat.le_refl _) (fun m ys G' ⟨_,s',_⟩=>Zo.of (s' _ _ eu)) ?_ ?_⟩
    ·rintro m y ys G2 hm ⟨es,s2,rfl,le',wl,nE2⟩
     have hm':m<n:=by have:=(List.getElem?_eq_some_iff.mp hm).1;lia
     obtain ⟨e0,rfl,w0⟩:=hu m y hm
     obtain ⟨vs,ev,wv⟩:=w0.same s2
     have lv:=wv.len
     have f200:=fw j m hj hm'
     dsimp only [J0,Gf]
     refine Zar ⟨_,rfl,e0,vs,rfl,.inl (Zo.of ev),fun D fD=>⟨es ++ [D],s2.step fD,by rw [List.map_append];rfl,by rw [List.length_append,le'];rfl,fun a e h=>?_,?_⟩⟩
     ·by_cases z:a<es.length
      ·rw [List.getElem?_append_left z] at h
       exact (wl a e h).same (Ze.laid fD)
      ·rw [List.getElem?_append_right (by lia)] at h
       have:a-es.length=0:=by
        have:=(List.getElem?_eq_some_iff.mp h).1
        simp at this;lia
       rw [this] at h
       cases h
       have:a=m:=by lia
       subst this
       exact ⟨vs,Zb,wv.same (Ze.laid fD)⟩
     ·refine Zdn nE2 s2 (Ze.refl _) ⟨by simp,fun e h=>?_⟩ (Ze.laid fD)
      rw [List.mem_singleton.mp h]
      exact ⟨fD,vs,Zb,by lia⟩
    ·rintro ys G2 ⟨es,s2,rfl,le',wl,nE2⟩ D fD
     rw [lu] at le'
     have sD:Ze G2 (upd G2 D (.lst (es.map V.ref))):=Ze.laid fD
     refine ⟨As ++ [D],R ++ [es],(s1.trans s2).trans sD,by rw [List.map_append];rfl,(mA.same (s2.trans sD)).snoc ((mA.same s2).fresh fD) ⟨_,Zb,by rw [List.length_map];exact le',fun a x hx=>?_⟩,Paired.snoc (ZaT (s2.trans sD) rE) Zb,?_,?_⟩
     ·rw [List.getElem?_map] at hx
      obtain ⟨e,he,rfl⟩:=Option.map_eq_some_iff.mp hx
      exact ⟨e,rfl,(wl a e he).same sD⟩
     ·rw [List.flatten_append,List.flatten_singleton]
      exact ZbM sD (Zdn nE s1 (Ze.refl _) nE2 s2)
     ·rw [List.flatten_append,List.flatten_singleton,List.length_append]
      lia
   ·rintro ws G1 ⟨As,R,s1,rfl,mA,rE,nE,lR⟩ D fD
    rw [List.length_map,lA] at mA lR
    have sD:Ze G1 (upd G1 D (.lst (As.map V.ref))):=Ze.laid fD
    refine ⟨T ++ [D],RR ++ [R],(sG.trans s1).trans sD,by rw [List.map_append];rfl,by rw [List.length_append,lT];rfl,fun a r h=>?_,Paired.snoc (Zdo (s1.trans sD) te) ⟨As,Zb,ZaT sD rE⟩,?_,?_,fun r hr=>?_⟩
    ·by_cases z:a<T.length
     ·rw [List.getElem?_append_left z] at h
      exact (tabs a r h).same (s1.trans sD)
     ·rw [List.getElem?_append_right (by lia)] at h
      have:a-T.length=0:=by
       have:=(List.getElem?_eq_some_iff.mp h).1
       simp at this;lia
      rw [this] at h
      cases h
      have:a=i:=by lia
      subst this
      rw [<- hn,<- hF]
      exact ⟨As,Zb,mA.same sD⟩
    ·rw [List.flatten_append,List.flatten_singleton,List.flatten_append]
     exact ZbM sD (Zdn ne sG (Ze.refl _) nE s1)
    ·rw [List.flatten_append,List.flatten_singleton,List.flatten_append,List.length_append]
     lia
    ·rcases List.mem_append.mp hr with z | z
     ·exact fT r z
     ·rw [List.mem_singleton.mp z];exact (sG.trans s1).free fD
  ·rintro zs G ⟨T,RR,sG,rfl,lT,tabs,te,ne,lE,fT⟩ p fp
   have sp:Ze G (upd G p (.lst (T.map V.ref))):=Ze.laid fp
   rw [List.length_map,lT0] at lT lE
   refine k few p _ T RR ((s0.trans sG).free fp) ((s0.trans sG).trans sp) ⟨Zb,by lia,fun a r h=>⟨(tabs a r h).same sp,fun z=>?_⟩⟩ lT (Zdo sp te) ?_ (fun z=>?_) (by lia) (fun r hr=>s0.free (fT r hr))
   ·obtain ⟨_,e,_⟩:=tabs a r h
    rw [z,fp] at e;cases e
   ·refine ZbM sp ⟨ne.1,fun e h=>?_⟩
    obtain ⟨a,b⟩:=ne.2 e h
    exact ⟨s0.free a,b⟩
   ·obtain ⟨_,us,e,_⟩:=ne.2 p z
    rw [fp] at e;cases e
theorem gK:ZaE "born" = 2/\ZaE "cross" = 0/\ZaE "end" = -2:=⟨by decide +kernel,by decide +kernel,by decide +kernel⟩
theorem wkS {ls:List (Str×Int)}{n:Int} (h:Wk ls n):Yt ls=n:=by
 induction h with
 | nil=>rfl
 | born _ _ _ ih=>rw [JM,ih,gK.1]
 | cross _ _ _ ih=>rw [JM,ih,gK.2.1];lia
 | fin _ _ _ ih=>rw [JM,ih,gK.2.2];lia
theorem ZlU {A A':List (Str×Int)}{n:Int} (ha:Wk A n) (ha':Wk A' n) {X:List (Str×Int)}{m:Int} (h:Wk X m):∀B,X=A++B->Wk (A'++B) m:=by
 have base:∀{X:List (Str×Int)}{m:Int},Wk X m->X=A->Wk (A' ++ []) m:=fun {X m} hx e=>by
  subst e
  have e1:=wkS hx
  have e2:=wkS ha
  rw [List.append_nil]
  rw [show m=n by lia]
  exact ha'
 have spl:∀{ls B:List (Str×Int)}{p:Str×Int},ls ++ [p]=A++B->(B = []/\ls ++ [p]=A) ∨ ∃B',B=B' ++ [p]/\ls=A++B':=fun {ls B p} e=>by
  rcases List.eq_nil_or_concat B with z | ⟨B',q,z⟩
  rotate_left
  rw [List.concat_eq_append] at z
  rotate_left
  ·subst z
   exact .inl ⟨rfl,by simpa using e⟩
  ·subst z
   rw [<- List.append_assoc] at e
   obtain ⟨e1,e2⟩:=List.append_inj' e rfl
   have e2:p=q:=by simpa using e2
   subst e2
   exact .inr ⟨B',rfl,e1⟩
 induction h with
 | nil=>
  intro B e
  obtain ⟨e1,e2⟩:=List.append_eq_nil_iff.mp e.symm
  subst e2
  exact base .nil e1.symm
 | @born ls n' k h h0 h1 ih=>
  intro B e
  rcases spl e with ⟨z,y⟩ | ⟨B',z,y⟩
  ·subst z;exact base (.born h h0 h1) y
  ·rw [z,<- List.append_assoc];exact .born (ih B' y) h0 h1
 | @cross ls n' k h h0 h1 ih=>
  intro B e
  rcases spl e with ⟨z,y⟩ | ⟨B',z,y⟩
  ·subst z;exact base (.cross h h0 h1) y
  ·rw [z,<- List.append_assoc];exact .cross (ih B' y) h0 h1
 | @fin ls n' k h h0 h1 ih=>
  intro B e
  rcases spl e with ⟨z,y⟩ | ⟨B',z,y⟩
  ·subst z;exact base (.fin h h0 h1) y
  ·rw [z,<- List.append_assoc];exact .fin (ih B' y) h0 h1
def Mid (ls:List (Str×Int)):Prop:=∀t,1<=t->t<ls.length->2<=Yt (ls.take t)
theorem Jk (A B:List (Str×Int)):Yt (A++B)=Yt A+Yt B:=by unfold Yt;simp
def crl (b c:Int):List (Str×Int):=[("born", b),("cross", c),("end", b)]
theorem ZnV {ls:List (Str×Int)}{t:Nat}{b c:Int} (hW:Wk ls 0) (hb0:0<=b) (hb1:b<=Yt (ls.take t)) (hc0:0<=c) (hc1:c<=Yt (ls.take t)):Wk (ls.take t++crl b c++ls.drop t) 0:=by
 obtain ⟨n,hn⟩:=YH hW t
 have en:=wkS hn
 rw [en] at hb1 hc1
 have w1:=Wk.born (k:=b) hn hb0 hb1
 have w2:=Wk.cross (k:=c) w1 hc0 (by lia)
 have w3:=Wk.fin (k:=b) w2 hb0 (by lia)
 have e:ls.take t ++ [(("born" : Str),b)] ++ [(("cross" : Str),c)] ++ [(("end" : Str),b)]=ls.take t++crl b c:=by simp [crl]
 rw [e,show n+2-2=n by lia] at w3
 exact ZlU hn w3 hW (ls.drop t) (List.take_append_drop t ls).symm
theorem ZlR {ls:List (Str×Int)}{t:Nat}{b c:Int} (hM:Mid ls) (t1:1<=t) (t2:t<ls.length):Mid (ls.take t++crl b c++ls.drop t):=by
 intro i i1 i2
 have lt:(ls.take t).length=t:=by rw [List.length_take];lia
 have l3:(crl b c).length=3:=rfl
 have gk:=gK
 have s0:=hM t t1 t2
 by_cases h1:i<=t
 ·rw [List.append_assoc,List.take_append_of_le_length (by lia),List.take_take,Nat.min_eq_left h1]
  exact hM i i1 (by lia)
 ·by_cases h2:i=t+1
  ·subst h2
   have e:(ls.take t++crl b c++ls.drop t).take (t+1)=ls.take t ++ [(("born" : Str),b)]:=by
    rw [List.append_assoc,List.take_append,lt]
    simp [crl,List.take_take]
   rw [e,Jk]
   have:Yt [(("born" : Str),b)]=2:=by unfold Yt;simp [gk.1]
   lia
  ·by_cases h3:i=t+2
   ·subst h3
    have e:(ls.take t++crl b c++ls.drop t).take (t+2)=ls.take t ++ [(("born" : Str),b),(("cross" : Str),c)]:=by
     rw [List.append_assoc,List.take_append,lt]
     simp [crl,List.take_take,show t+2-t=2 by lia]
    rw [e,Jk]
    have:Yt [(("born" : Str),b),(("cross" : Str),c)]=2:=by unfold Yt;simp [gk.1,gk.2.1]
    lia
   ·obtain ⟨j,rfl⟩:∃j,i=t+3+j:=⟨i-(t+3),by lia⟩
    have e:(ls.take t++crl b c++ls.drop t).take (t+3+j)=ls.take t++crl b c++(ls.drop t).take j:=by
     rw [List.take_append]
     have:(ls.take t++crl b c).length=t+3:=by rw [List.length_append,lt,l3]
     rw [this,List.take_of_length_le (by lia)]
     congr 2
     lia
    rw [e,Jk,Jk]
    have z:Yt (crl b c)=0:=by unfold Yt crl;simp [gk.1,gk.2.1,gk.2.2]
    have y:ls.take (t+j)=ls.take t++(ls.drop t).take j:=by rw [List.take_add]
    have hj:t+j<ls.length:=by
     rw [List.length_append,List.length_append,lt,l3,List.length_drop] at i2
     lia
    have:=hM (t+j) (by lia) hj
    rw [y,Jk] at this
    lia
theorem Zh6:∀ls:List (Str×Int),(∀p∈ls,Kd p.1)->2*(((ls.map fun p=>V.str p.1).countP fun z=>eqV z (.str "born"):Nat):Int)-2*(((ls.map fun p=>V.str p.1).countP fun z=>eqV z (.str "end"):Nat):Int)=Yt ls
 | [],_=>rfl
 | p::r,h=>by
  have ih:=Zh6 r fun q hq=>h q (List.mem_cons_of_mem _ hq)
  have gk:=gK
  have e:Yt (p::r)=ZaE p.1+Yt r:=by unfold Yt;simp
  have eqs:∀x y:Str,eqV (V.str x) (V.str y)=decide (x=y):=fun x y=>by
   unfold eqV
   by_cases z:x=y<;>simp [z]
  rw [List.map_cons,List.countP_cons,List.countP_cons,e,<- ih,eqs,eqs]
  rcases h p List.mem_cons_self with z | z | z
  ·rw [z,gk.1]
   simp [show ¬(("born" : Str) = "end") by decide +kernel]
   lia
  ·rw [z,gk.2.1]
   simp [show ¬(("cross" : Str) = "end") by decide +kernel,show ¬(("cross" : Str) = "born") by decide +kernel]
  ·rw [z,gk.2.2]
   simp [show ¬(("end" : Str) = "born") by decide +kernel]
   lia
theorem Zjp {H:Hp}{xs:List V}{ls:List (Str×Int)} (h:Zu H xs ls):∀t,Zu H (xs.take t) (ls.take t):=by
 induction h with
 | nil=>intro t;rw [List.take_nil,List.take_nil];exact .nil
 | cons a _ ih=>
  intro t
  cases t with
  | zero=>exact .nil
  | succ n=>exact .cons a (ih n)
theorem Zi2 {H:Hp}{xs:List V}{ls:List (Str×Int)} (h:Zu H xs ls):∀t,Zu H (xs.drop t) (ls.drop t):=by
 induction h with
 | nil=>intro t;rw [List.drop_nil,List.drop_nil];exact .nil
 | cons a b ih=>
  intro t
  cases t with
  | zero=>exact .cons a b
  | succ n=>exact ih n
theorem ZnW {ls:List (Str×Int)}{t:Nat}{b c:Int} (hM:∀i,Yt (ls.take i)<=8) (t2:t<ls.length) (hm:Yt (ls.take t)<=6):∀i,Yt ((ls.take t++crl b c++ls.drop t).take i)<=8:=by
 intro i
 have lt:(ls.take t).length=t:=by rw [List.length_take];lia
 have l3:(crl b c).length=3:=rfl
 have gk:=gK
 by_cases h1:i<=t
 ·rw [List.append_assoc,List.take_append_of_le_length (by lia),List.take_take,Nat.min_eq_left h1]
  exact hM i
 ·by_cases h2:i=t+1
  ·subst h2
   have e:(ls.take t++crl b c++ls.drop t).take (t+1)=ls.take t ++ [(("born" : Str),b)]:=by
    rw [List.append_assoc,List.take_append,lt]
    simp [crl,List.take_take]
   rw [e,Jk]
   have:Yt [(("born" : Str),b)]=2:=by unfold Yt;simp [gk.1]
   lia
  ·by_cases h3:i=t+2
   ·subst h3
    have e:(ls.take t++crl b c++ls.drop t).take (t+2)=ls.take t ++ [(("born" : Str),b),(("cross" : Str),c)]:=by
     rw [List.append_assoc,List.take_append,lt]
     simp [crl,List.take_take,show t+2-t=2 by lia]
    rw [e,Jk]
    have:Yt [(("born" : Str),b),(("cross" : Str),c)]=2:=by unfold Yt;simp [gk.1,gk.2.1]
    lia
   ·obtain ⟨j,rfl⟩:∃j,i=t+3+j:=⟨i-(t+3),by lia⟩
    have e:(ls.take t++crl b c++ls.drop t).take (t+3+j)=ls.take t++crl b c++(ls.drop t).take j:=by
     rw [List.take_append]
     have:(ls.take t++crl b c).length=t+3:=by rw [List.length_append,lt,l3]
     rw [this,List.take_of_length_le (by lia)]
     congr 2
     lia
    rw [e,Jk,Jk]
    have z:Yt (crl b c)=0:=by unfold Yt crl;simp [gk.1,gk.2.1,gk.2.2]
    have y:ls.take (t+j)=ls.take t++(ls.drop t).take j:=by rw [List.take_add]
    have:=hM (t+j)
    rw [y,Jk] at this
    lia
theorem ZeL (x:Str) (A B:List (Str×Int)):cnt x (A++B)=cnt x A+cnt x B:=by unfold cnt;simp
structure CB (ls:List (Str×Int)) (i:Nat):Prop where
 sum:∀t,Yt (ls.take t)<=8
 born:cnt "born" ls<=1+i
 cross:cnt "cross" ls<=i
theorem CB.mono {ls:List (Str×Int)}{i:Nat} (x:CB ls i):CB ls (i+1):=⟨x.sum,by have:=x.born;lia,by have:=x.cross;lia⟩
abbrev ZlN:=@crl
theorem CB.crl {ls:List (Str×Int)}{i t:Nat}{b c:Int} (x:CB ls i) (t2:t<ls.length) (hm:Yt (ls.take t)<=6):CB (ls.take t++crl b c++ls.drop t) (i+1):=by
 have e:∀y,cnt y (ls.take t++ZlN b c++ls.drop t)=cnt y ls+cnt y (ZlN b c):=fun y=>by
  have:=ZeL y (ls.take t) (ls.drop t)
  rw [List.take_append_drop] at this
  rw [ZeL,ZeL];lia
 have h1:=x.born
 have h2:=x.cross
 have q1:cnt "born" (ZlN b c)=1:=rfl
 have q2:cnt "cross" (ZlN b c)=1:=rfl
 exact ⟨ZnW x.sum t2 hm,by rw [e,q1];lia,by rw [e,q2];lia⟩
theorem CB.inb {ls:List (Str×Int)}{i:Nat} (x:CB ls i) (h:i<=3):InB ls:=by
 have h1:=x.born
 have h2:=x.cross
 exact ⟨x.sum,by rw [Zbp];lia,by rw [Zbp];lia⟩
def Zhc:Sp:=fun vs H Q _=>∃(b:Addr) (m:Int),vs = [.ref b,.int m]/\Bag H b/\0<=m/\m<=3 /\ ∀(l:Addr) (H':Hp) (ls:List (Str×Int)),H l=none->Bag H' b->Jh b H H'->Drw H' l ls->InB ls->ls.length<=50->ls ≠ []->Q (.ref l) H'
abbrev JX:Stmt:=top 50
theorem Z3:Zp ["_law_bag_here", "_law_most", "_law_letters", "_law_turn", "_law_t", "_law_words", "_law_many", "_law_k", "_law_side", "_law_curl"] ["_law_bag_here", "_law_most"] (Zi JX):={}
theorem Zi5 {f:Addr}{fd:FuncData} (F:Yd K "_law_curled" "_law_curled" JX f fd) (Zr:Yg P w K mg base 1 "_law_take" ["_law_bag_here", "_law_many"] ZaO) (ZF:mg "range" = none) (ZJ:mg "len" = none) (Zeo:mg "max" = none):
  ZX P w K mg base J2 2 f fd ["_law_bag_here", "_law_most"] Zhc:=by
 refine F.ok Z3 (fun vs H Q E h=>?_) (fun cdv A outer s H vs Q E hr h=>?_)
 ·obtain ⟨b,m,rfl,_⟩:=h
  rfl
 ·obtain ⟨b,m,rfl,hbag,m0,m3,k⟩:=h
  refine ⟨_,(Zd (Zq (i:=2) Z3.nd rfl (Or.inl rfl) (ZT (Za (YV (Za Z7 (Za Zf Zc))) (Za (YV (Za Z7 (Za Zf Zc))) Zc))))
   (Zd (ZZ PassesOwn.never rfl (Yj (by rfl) ZF (Za (Zm Zr hr (Za (pv 0) (Za (Zn ZN (pv 1) Zf) Zc))) Zc)) (Zl (i:=3) Z3.nd rfl (Or.inl rfl)) (Zd (Zq (i:=4) Z3.nd rfl (Or.inl rfl) (Zn ZN Zf (Zm Zr hr (Za (pv 0) (Za (Zn YE (ZE (ZW (K:=K) rfl) (by rfl) ZJ PySem.boot_len (Za (pv 2) Zc)) Zf) Zc)))))
   (Zd (Zc2 (i:=5) Z3.nd rfl (Or.inl rfl) (Ls:=["_law_letter"]) (Fs:=[]) (fi:=[]) (ZU.of (show YC ["_law_bag_here", "_law_most", "_law_letters", "_law_turn", "_law_t", "_law_words", "_law_many", "_law_k", "_law_side", "_law_curl"] (Zi JX) _ [] []=true by decide +kernel)) rfl (ZC (K:=K) rfl (J5 (JZ (K:=K) rfl) (pv 2) Gh (YA (pv 4)))) (fun cl C s3 H3 ex=>⟨(Zl (i:=0) (show ((["_law_letter"]:List Str)++([]:List Str)).Nodup by decide +kernel) rfl (Or.inl rfl)),Yf,(Zv (ZcI (K:=K) rfl) (pv 0) Zf (fun _ _=>rfl))⟩))
   (Zd (Zq (i:=6) Z3.nd rfl (Or.inl rfl) (Zn YE (Zn Wd Zf (YU (K:=K) rfl (JJ PySem.F.plainAttrs_list PySem.F.slot_list_count PySem.F.type_list_count (Zeg (K:=K) rfl) (pv 5) (Za Z7 Zc)))) (Zn Wd Zf (YU (K:=K) rfl (JJ PySem.F.plainAttrs_list PySem.F.slot_list_count PySem.F.type_list_count (Zeg (K:=K) rfl) (pv 5) (Za Z7 Zc))))))
   (Zd (Zq (i:=7) Z3.nd rfl (Or.inl rfl) (Zm Zr hr (Za (pv 0) (Za (ZE (Zek rfl) (by rfl) Zeo boot_max (Za Zf (Za (pv 6) Zc))) Zc))))
   (Zd (Zq (i:=8) Z3.nd rfl (Or.inl rfl) (Zm Zr hr (Za (pv 0) (Za Zf Zc))))
   (Zd (Zq (i:=9) Z3.nd rfl (Or.inl rfl) (ZT (Za (YV (Za Z7 (Za (Zn YE (Zn ZN (pv 7) Zf) (pv 8)) Zc))) (Za (YV (Za Z7 (Za (Zn ZN (pv 7) (pv 8)) Zc))) (Za (YV (Za Z7 (Za (Zn YE (Zn ZN (pv 7) Zf) (pv 8)) Zc))) Zc)))))
   (Zh (YO (ZD ZiC (pv 6) Zf (ZI _)) (Zh (Yl (pv 9) (ZgS (pv 2) (YA (pv 4)) (YA (pv 4))))) Yc)))))))))
   (Zh (Zs (pv 2))))),?_⟩
  refine ⟨(by show 2<=sizeLine;decide),fun t1 h1=>⟨(by show 2<=sizeLine;decide),fun t2 h2=>⟨(by show 2<=sizeLine;decide),fun l hl=>?_⟩⟩⟩
  have s3:Ze H (upd (upd (upd H t1 (.tup [.str "born", .int 0])) t2 (.tup [.str "end", .int 0])) l (.lst [.ref t1,.ref t2])):=((Ze.laid h1).step h2).step hl
  have fl:H l=none:=((Ze.laid h1).step h2).free hl
  have L0:Zu (upd (upd (upd H t1 (.tup [.str "born", .int 0])) t2 (.tup [.str "end", .int 0])) l (.lst [.ref t1,.ref t2])) [.ref t1,.ref t2] [("born", 0),("end", 0)]:=
   .cons ⟨t1,rfl,(Ze.laid hl) _ _ ((Ze.laid h2) _ _ Zb)⟩ (.cons ⟨t2,rfl,(Ze.laid hl) _ _ Zb⟩ .nil)
  have el:(upd (upd (upd H t1 (.tup [.str "born", .int 0])) t2 (.tup [.str "end", .int 0])) l (.lst [.ref t1,.ref t2])) l=some (.lst [.ref t1,.ref t2]):=Zb
  generalize upd (upd (upd H t1 (.tup [.str "born", .int 0])) t2 (.tup [.str "end", .int 0])) l (.lst [.ref t1,.ref t2])=H3 at *
  have bg3:Bag H3 b:=by obtain ⟨g,r,h,e⟩:=hbag;exact ⟨g,r,h,s3 _ _ e⟩
  have nlb:l≠b:=by obtain ⟨g,r,h,e⟩:=hbag;exact (Zg e fl).symm
  have W0:Wk [("born", 0),("end", 0)] 0:=Wk.fin (k:=0) (Wk.born (k:=0) .nil (by decide) (by decide)) (by decide) (by decide)
  have M0:Mid [("born", 0),("end", 0)]:=fun t a c=>by
   have:t=1:=by simp at c;lia
   subst this
   decide +kernel
  have C0:CB [("born", 0),("end", 0)] 0:=⟨fun i=>by
   match i with
   | 0=>decide +kernel
   | 1=>decide +kernel
   | i+2=>rw [List.take_of_length_le (by simp)];decide +kernel,by decide +kernel,by decide +kernel⟩
  refine ⟨_,rfl,_,rfl,_,_,rfl,rfl,b,_,rfl,bg3,by lia,by lia,fun d H4 d0 d1 bg4 f4=>?_⟩
  refine ⟨_,rfl,by lia,by lia,YR (n:=d.toNat) (fun i σ G=>∃(xs:List V) (ls:List (Str×Int)) (v3 v4 v5 v6 v7 v8 v9:Option V),σ = [some (.ref b),some (.int m),some (.ref l),v3,v4,v5,v6,v7,v8,v9]/\Bag G b/\Jh b H G/\G l=some (.lst xs)/\Zu G xs ls/\Wk ls 0/\Mid ls/\2<=ls.length/\ls.length<=2+3*i/\CB ls i)
   ⟨_,_,none,none,none,none,none,none,none,rfl,bg4,s3.frm.trans f4,f4 _ _ el nlb,L0.frm f4 bg3,W0,M0,by decide,by decide,C0⟩ ?_ ?_⟩
  ·rintro i σ G hi ⟨xs,ls,v3,v4,v5,v6,v7,v8,v9,rfl,bg,fr,hG,hL,hW,hM,n2,n3,cb⟩
   have hxl:=hL.len
   refine ⟨_,rfl,_,rfl,l,_,rfl,.inl (Zo.of hG),_,_,rfl,rfl,b,_,rfl,bg,by lia,by lia,fun e G1 e0 e1 bg1 f1=>⟨_,_,rfl,rfl,?_⟩⟩
   have hG1:=f1 _ _ hG nlb
   have hL1:=hL.frm f1 bg
   obtain ⟨t,ht⟩:∃t:Nat,1+e=(t:Int):=⟨(1+e).toNat,by lia⟩
   dsimp only
   rw [ht]
   have t1':1<=t:=by lia
   have t2':t<ls.length:=by lia
   refine ⟨_,rfl,_,rfl,_,rfl,l,xs,rfl,Zo.of hG1,fun c hc=>?_⟩
   have sc:=Ze.laid (o:=.lst (Zcj xs none (some (t:Int)))) hc
   rw [Zoc (xs:=xs) (t:=t) (by lia)] at sc ⊢
   refine ⟨c,rfl,⟨_,Zo.of Zb⟩,Y8 (K:=K) (a:=c) (xs:=xs.take t) (Nat.le_of_lt (ZA (by rw [List.length_take];lia))) (fun j zs G'=>Ze (upd G1 c (.lst (xs.take t))) G'/\zs=((ls.take t).take j).map fun p=>V.str p.1) ⟨Ze.refl _,rfl⟩
    (fun j zs G' q=>by rw [q.2,List.length_map,List.length_take];exact Nat.min_le_left _ _) (fun j zs G' q=>Zo.of (q.1 _ _ Zb)) (fun j x zs G' hx q=>?_) (fun zs G' q wA hwA=>?_)⟩
   ·obtain ⟨sq,rfl⟩:=q
    have hx':xs[j]? = some x/\j<t:=by
     rw [List.getElem?_take] at hx
     split at hx
     ·exact ⟨hx,by assumption⟩
     ·cases hx
    obtain ⟨p,ta,hp,rfl,hta⟩:=hL1.get hx'.1
    refine lcG ?_
    refine ⟨_,rfl,ta,_,_,_,rfl,rfl,Uw.of (sq _ _ (sc _ _ hta)),Zt (j:=0) rfl,sq,?_⟩
    rw [YT (ns:=ls.take t) _ (by rw [List.getElem?_take,if_pos hx'.2];exact hp)]
   obtain ⟨sq,rfl⟩:=q
   have lt:(xs.take t).length=(ls.take t).length:=by rw [List.length_take,List.length_take,hxl]
   rw [lt,List.take_of_length_le (Nat.le_refl _)]
   have kd:∀p∈ls.take t,Kd p.1:=fun p hp=>hW.kd p (List.mem_of_mem_take hp)
   have s2:Ze G1 (upd G' wA (.lst ((ls.take t).map fun p=>V.str p.1))):=(sc.trans sq).step hwA
   have ew:(upd G' wA (.lst ((ls.take t).map fun p=>V.str p.1))) wA=some (.lst ((ls.take t).map fun p=>V.str p.1)):=Zb
   generalize upd G' wA (.lst ((ls.take t).map fun p=>V.str p.1))=G2 at *
   have fs:((ls.take t).map fun p=>V.str p.1).all GC=true:=by
    rw [List.all_eq_true]
    intro x hx
    obtain ⟨p,_,rfl⟩:=List.mem_map.mp hx
    rfl
   refine ⟨_,rfl,.inl ⟨rfl,_,Zo.of ew⟩,wA,_,_,rfl,rfl,Zo.of ew,rfl,fs,_,_,rfl,rfl,.inl ⟨by decide,by decide⟩,?_⟩
   refine ⟨_,rfl,.inl ⟨rfl,_,Zo.of ew⟩,wA,_,_,rfl,rfl,Zo.of ew,rfl,fs,_,_,rfl,rfl,.inl ⟨by decide,by decide⟩,_,_,rfl,rfl,?_⟩
   have cs:=Zh6 (ls.take t) kd
   obtain ⟨m,hm⟩:∃m,m=Yt (ls.take t):=⟨_,rfl⟩
   dsimp only
   rw [cs,<- hm]
   have m2:2<=m:=by rw [hm];exact hM t t1' t2'
   have m120:m<=1000:=by
    rw [hm]
    obtain ⟨n,hn⟩:=YH hW t
    have:=Zit hn
    rw [wkS hn]
    rw [List.length_take] at this
    lia
   have bg2:Bag G2 b:=by obtain ⟨g,r,h,e⟩:=bg1;exact ⟨g,r,h,s2 _ _ e⟩
   refine ⟨_,rfl,_,rfl,_,_,rfl,b,_,rfl,bg2,?_,?_,fun kk G3 k0 k1 bg3' f3=>?_⟩
   ·split<;>lia
   ·split<;>lia
   have k1:kk<m:=by
    rw [if_pos (show m>1 by lia)] at k1
    exact k1
   refine ⟨_,rfl,b,2,rfl,bg3',by decide,by decide,fun sd G4 sd0 sd1 bg4' f4'=>?_⟩
   refine ⟨_,rfl,_,_,rfl,rfl,_,rfl,_,_,rfl,rfl,(by show 2<=sizeLine;decide),fun u1 hu1=>?_⟩
   refine ⟨_,rfl,_,rfl,_,_,rfl,rfl,(by show 2<=sizeLine;decide),fun u2 hu2=>?_⟩
   refine ⟨_,rfl,_,_,rfl,rfl,_,rfl,_,_,rfl,rfl,(by show 2<=sizeLine;decide),fun u3 hu3=>?_⟩
   refine ⟨(by show 3<=sizeLine;decide),fun cA hcA=>?_⟩
   have s5:Ze G4 (upd (upd (upd (upd G4 u1 (.tup [.str "born", .int (kk+1-sd)])) u2 (.tup [.str "cross", .int (kk+sd)])) u3 (.tup [.str "end", .int (kk+1-sd)])) cA (.lst [.ref u1,.ref u2,.ref u3])):=(((Ze.laid hu1).step hu2).step hu3).step hcA
   have fc:G4 cA=none:=(((Ze.laid hu1).step hu2).step hu3).free hcA
   have L5:Zu (upd (upd (upd (upd G4 u1 (.tup [.str "born", .int (kk+1-sd)])) u2 (.tup [.str "cross", .int (kk+sd)])) u3 (.tup [.str "end", .int (kk+1-sd)])) cA (.lst [.ref u1,.ref u2,.ref u3])) [.ref u1,.ref u2,.ref u3] (crl (kk+1-sd) (kk+sd)):=
    .cons ⟨u1,rfl,(Ze.laid hcA) _ _ ((Ze.laid hu3) _ _ ((Ze.laid hu2) _ _ Zb))⟩ (.cons ⟨u2,rfl,(Ze.laid hcA) _ _ ((Ze.laid hu3) _ _ Zb)⟩ (.cons ⟨u3,rfl,(Ze.laid hcA) _ _ Zb⟩ .nil))
   have e5:(upd (upd (upd (upd G4 u1 (.tup [.str "born", .int (kk+1-sd)])) u2 (.tup [.str "cross", .int (kk+sd)])) u3 (.tup [.str "end", .int (kk+1-sd)])) cA (.lst [.ref u1,.ref u2,.ref u3])) cA=some (.lst [.ref u1,.ref u2,.ref u3]):=Zb
   generalize upd (upd (upd (upd G4 u1 (.tup [.str "born", .int (kk+1-sd)])) u2 (.tup [.str "cross", .int (kk+sd)])) u3 (.tup [.str "end", .int (kk+1-sd)])) cA (.lst [.ref u1,.ref u2,.ref u3])=G5 at *
   have hG4:G4 l=some (.lst xs):=f4' _ _ (f3 _ _ (s2 _ _ hG1) nlb) nlb
   have hG5:=s5 _ _ hG4
   have nlc:l≠cA:=Zg hG4 fc
   have fr5:Jh b H G5:=((((fr.trans f1).trans s2.frm).trans f3).trans f4').trans s5.frm
   have bg5:Bag G5 b:=by obtain ⟨g,r,h,e⟩:=bg4';exact ⟨g,r,h,s5 _ _ e⟩
   have hL5:Zu G5 xs ls:=((((hL1.same s2).frm f3 bg2).frm f4' bg3').same s5)
   dsimp only
   refine ⟨_,rfl,_,_,rfl,rfl,_,rfl,?_⟩
   dsimp only
   by_cases m7:m<7
   ·rw [if_pos (decide_eq_true m7)]
    refine ⟨_,rfl,_,rfl,_,rfl,_,rfl,_,rfl,_,rfl,l,cA,xs,[.ref u1,.ref u2,.ref u3],(t:Int),(t:Int),rfl,rfl,rfl,rfl,hG5,e5,nlc,by lia,by lia,by lia,Nat.le_of_lt (ZA (by show xs.length+3<=1000;lia)),?_⟩
    have u:∀c o,c≠l->G5 c=some o->(upd G5 l (.lst (xs.take (t:Int).toNat ++ [.ref u1,.ref u2,.ref u3]++xs.drop (t:Int).toNat))) c=some o:=fun c o n e=>by rw [Zj n];exact e
    have ut:∀c p,G5 c=some (.tup p)->(upd G5 l (.lst (xs.take (t:Int).toNat ++ [.ref u1,.ref u2,.ref u3]++xs.drop (t:Int).toNat))) c=some (.tup p):=fun c p e=>u c _ (fun z=>by rw [z,hG5] at e;cases e) e
    have Lf:Zu G5 (xs.take t ++ [.ref u1,.ref u2,.ref u3]++xs.drop t) (ls.take t++crl (kk+1-sd) (kk+sd)++ls.drop t):=((Zjp hL5 t).append L5).append (Zi2 hL5 t)
    rw [Int.toNat_natCast] at *
    have ms:m=Yt (ls.take t):=hm
    refine ⟨_,ls.take t++crl (kk+1-sd) (kk+sd)++ls.drop t,_,_,_,_,_,_,_,rfl,?_,fun c o e n=>u c o (Zg e fl) (fr5 c o e n),Zb,Lf.mono ut,ZnV hW (by lia) (by lia) (by lia) (by lia),ZlR hM t1' t2',?_,?_,cb.crl t2' (by lia)⟩
    ·obtain ⟨g,r,h,e⟩:=bg5
     exact ⟨g,r,h,u _ _ nlb.symm e⟩
    ·rw [List.length_append,List.length_append,List.length_take,List.length_drop];show 2<=min t ls.length+3+_;lia
    ·rw [List.length_append,List.length_append,List.length_take,List.length_drop];show min t ls.length+3+_<=_;lia
   ·rw [if_neg (fun z=>m7 (of_decide_eq_true z))]
    exact ⟨xs,ls,_,_,_,_,_,_,_,rfl,bg5,fr5,hG5,hL5,hW,hM,n2,by lia,cb.mono⟩
  ·rintro σ G ⟨xs,ls,v3,v4,v5,v6,v7,v8,v9,rfl,bg,fr,hG,hL,hW,hM,n2,n3,cb⟩
   exact ⟨_,rfl,k l G ls fl bg fr ⟨xs,hG,hL,hW,by lia⟩ (cb.inb (by lia)) (by lia) (fun z=>by rw [z] at n2;simp at n2)⟩
def rv (A:WS):WS:=A.map List.reverse
theorem Zlb (A B:WS):rv (A++B)=rv A++rv B:=List.map_append
theorem rev_inj:∀a b:List Int,a.reverse=b.reverse->a=b:=fun a b h=>by rw [<- List.reverse_reverse a,h,List.reverse_reverse]
theorem Zlq {A B:WS} (h:Uu A B):Uu (rv A) (rv B):=Ze0 rev_inj h
theorem Zht (B:WS):∀A:WS,Uu (rv (prd A B)) (prd (rv B) (rv A))
 | []=>by rw [show rv [] = [] from rfl,ZcE];exact .refl _
 | u::A=>fun w=>by
  rw [J7,Zlb,List.count_append,Zht B A w |> fun _=>show rv (u::A)=u.reverse::rv A from rfl,ZcJ]
  have h:=Zht B A w
  have e:rv (B.map fun v=>u++v)=(rv B).map fun v=>v++u.reverse:=by
   unfold rv
   rw [List.map_map,List.map_map]
   exact List.map_congr_left fun v _=>by simp
  rw [e]
  lia
theorem ZkS (A B:WS):Uu (Jf A B) (A++B):=(Z5 _).self
theorem Zj1 (A B:WS):Uu (Ym A B) (prd A B):=(Z5 _).self
theorem Zeu {A B A' B':WS} (a:Uu A' (rv A)) (b:Uu B' (rv B)):Uu (Jf A' B') (rv (Jf A B)):=
 (ZkS _ _).trans ((a.app b).trans (by rw [<- Zlb];exact Zlq (ZkS _ _).symm))
theorem Zf4 {A B A' B':WS} (a:Uu A' (rv A)) (b:Uu B' (rv B)):Uu (Ym B' A') (rv (Ym A B)):=
 (Zj1 _ _).trans (((Zgc b _).trans (Zd3 a _)).trans ((Zht B A).symm.trans (Zlq (Zj1 _ _).symm)))
def Mir (F F':Nat->Nat->WS) (n:Nat):Prop:=∀i j,i<j->j<n->Uu (F' i j) (rv (F (n-1-j) (n-1-i)))
theorem Mir.at {F F':Nat->Nat->WS}{n:Nat} (h:Mir F F' n) {i j a b:Nat} (hij:i<j) (hj:j<n) (ha:a+j+1=n) (hb:b+i+1=n):Uu (F' i j) (rv (F a b)):=by
 have:=h i j hij hj
 rwa [show n-1-j=a by lia,show n-1-i=b by lia] at this
theorem ZhB {F F':Nat->Nat->WS}{n:Nat} (h:∀i j a b,i<j->j<n->a+j+1=n->b+i+1=n->Uu (F' i j) (rv (F a b))):Mir F F' n:=fun i j hij hj=>h i j _ _ hij hj (by lia) (by lia)
theorem Zke {F F':Nat->Nat->WS}{n k k':Nat} (h:Mir F F' n) (hk:k+k'=n):Mir (UT k F) (UT k' F') (n+2):=by
 refine ZhB fun i j a b hij hj ea eb=>?_
 unfold UT
 by_cases c1:i=k'/\j=k'+1
 ·rw [if_pos c1,if_pos (by lia)]
  exact .refl _
 ·rw [if_neg c1,if_neg (show ¬(a=k/\b=k+1) by lia)]
  by_cases c2:i=k'∨i=k'+1∨j=k'∨j=k'+1
  ·rw [if_pos c2,if_pos (by lia)]
   exact .refl _
  ·rw [if_neg c2,if_neg (show ¬(a=k∨a=k+1∨b=k∨b=k+1) by lia)]
   refine h.at ?_ ?_ ?_ ?_<;>(repeat' split)<;>lia
theorem t1 (t:Int):Uu [[t]] (rv [[t]]):=.refl _
theorem Zjd {F F':Nat->Nat->WS}{n k k':Nat}{t:Int} (h:Mir F F' n) (hk:k+k'+2=n):Mir (Wg k t F) (Wg k' t F') n:=by
 refine ZhB fun i j a b hij hj ea eb=>?_
 unfold Wg
 by_cases c1:i=k'/\j=k'+1
 ·rw [if_pos c1,if_pos (by lia)]
  exact .refl _
 rw [if_neg c1,if_neg (show ¬(a=k/\b=k+1) by lia)]
 by_cases c2:i=k'/\k'+2<=j
 ·rw [if_pos c2,if_neg (by lia),if_neg (by lia),if_pos (by lia)]
  exact h.at (by lia) hj ea (by lia)
 rw [if_neg c2]
 by_cases c3:i=k'+1/\k'+2<=j
 ·rw [if_pos c3,if_neg (by lia),if_neg (by lia),if_neg (by lia),if_pos (by lia)]
  exact Zeu (h.at (by lia) hj ea (by lia)) (Zf4 (h.at (by lia) hj ea (by lia)) (t1 t))
 rw [if_neg c3]
 by_cases c4:i<k'/\j=k'+1
 ·rw [if_pos c4,if_pos (by lia)]
  exact h.at (by lia) (by lia) (by lia) eb
 rw [if_neg c4]
 by_cases c5:i<k'/\j=k'
 ·rw [if_pos c5,if_neg (by lia),if_pos (by lia)]
  exact Zeu (h.at (by lia) (by lia) (by lia) eb) (Zf4 (t1 t) (h.at (by lia) (by lia) (by lia) eb))
 rw [if_neg c5,if_neg (by lia),if_neg (by lia),if_neg (by lia),if_neg (by lia)]
 exact h.at hij hj ea eb
theorem ZlK {F F':Nat->Nat->WS}{n k k':Nat}{t:Int} (h:Mir F F' (n+2)) (hk:k+k'=n):Mir (Zcl k t F) (Zcl k' t F') n:=by
 refine ZhB fun i j a b hij hj ea eb=>?_
 unfold Zcl
 by_cases c:i<k'/\k'<=j
 ·rw [if_pos c,if_pos (by lia)]
  refine Zeu (h.at (by lia) (by lia) (by lia) (by lia)) (Zf4 ?_ ?_)
  ·exact Zeu (h.at (by lia) (by lia) (by lia) (by lia)) (Zf4 (h.at (by lia) (by lia) (by lia) (by lia)) (t1 t))
  ·exact Zeu (h.at (by lia) (by lia) (by lia) (by lia)) (Zf4 (t1 t) (h.at (by lia) (by lia) (by lia) (by lia)))
 ·rw [if_neg c,if_neg (show ¬(a<k/\k<=b) by lia)]
  refine h.at ?_ ?_ ?_ ?_<;>(repeat' split)<;>lia
def ovL (p:Str×Int) (n:Int):Str×Int:=(p.1,if p.1 = "born" then n-p.2 else n-2-p.2)
def ov (ls:List (Str×Int)):List (Str×Int):=(List.range ls.length).map fun a=>ovL (ls.getD a ("", 0)) (tN (ls.take a))
theorem Jo (ls:List (Str×Int)):(ov ls).length=ls.length:=by unfold ov;simp
theorem YB (ls:List (Str×Int)) (p:Str×Int):ov (ls ++ [p])=ov ls ++ [ovL p (tN ls)]:=by
 unfold ov
 rw [List.length_append,List.length_singleton,List.range_succ,List.map_append]
 congr 1
 ·refine List.map_congr_left fun a ha=>?_
  have ha:=List.mem_range.mp ha
  rw [List.take_append_of_le_length (by lia)]
  simp only [List.getD_eq_getElem?_getD,List.getElem?_append_left ha]
 ·simp
theorem Za1 (ls:List (Str×Int)) (a:Nat):(ov ls).take a=ov (ls.take a):=by
 unfold ov
 rw [<- List.map_take,List.take_range,List.length_take]
 refine List.map_congr_left fun b hb=>?_
 have hb:=List.mem_range.mp hb
 rw [List.take_take,Nat.min_eq_left (by lia)]
 simp only [List.getD_eq_getElem?_getD,List.getElem?_take,if_pos (show b<a by lia)]
theorem ZhT {ls:List (Str×Int)}{a:Nat}{p:Str×Int} (h:ls[a]? = some p):(ov ls)[a]? = some (ovL p (tN (ls.take a))):=by
 have ha:=(List.getElem?_eq_some_iff.mp h).1
 unfold ov
 rw [List.getElem?_map,List.getElem?_range ha]
 simp [List.getD_eq_getElem?_getD,h]
def mir (r:List Int):List Int:=(r.map bw).reverse
theorem Wl (p q:List Int):mir (p++q)=mir q++mir p:=by unfold mir;rw [List.map_append,List.reverse_append]
theorem Zcy (r:List Int):(mir r).length=r.length:=by unfold mir;simp
theorem ZfK (r:List Int) (k:Nat) (h:k<=r.length):(mir r).take (r.length-k)=mir (r.drop k):=by
 have e:=List.take_append_drop k r
 have l:(mir (r.drop k)).length=r.length-k:=by rw [Zcy,List.length_drop]
 have m:mir r=mir (r.drop k)++mir (r.take k):=by rw [<- Wl,e]
 rw [<- l,m,List.take_append_of_le_length (Nat.le_refl _),List.take_of_length_le (Nat.le_refl _)]
theorem ZgE (r:List Int) (k:Nat) (h:k<=r.length):(mir r).drop (r.length-k)=mir (r.take k):=by
 have e:=List.take_append_drop k r
 have l:(mir (r.drop k)).length=r.length-k:=by rw [Zcy,List.length_drop]
 have m:mir r=mir (r.drop k)++mir (r.take k):=by rw [<- Wl,e]
 rw [<- l,m,List.drop_append_of_le_length (Nat.le_refl _),List.drop_eq_nil_of_le (Nat.le_refl _),List.nil_append]
structure Ov (ls:List (Str×Int)) (n:Int):Prop where
 wk:Wk (ov ls) n
 tn:tN (ov ls)=tN ls
 mr:Mir (tF ls) (tF (ov ls)) (tN ls)
 row:(rb (ov ls)).1=mir (rb ls).1
 cnt:(rb (ov ls)).2=(rb ls).2
 even:(rb ls).2 % 2=0
theorem Zbc {ls:List (Str×Int)}{n:Int} (h:Wk ls n):Ov ls n:=by
 induction h with
 | nil=>exact ⟨.nil,rfl,fun i j _ hj=>absurd hj (Nat.not_lt_zero _),rfl,rfl,rfl⟩
 | @born ls n k h h0 h1 ih=>
  have tn:=W8 h
  have lr:=GN h
  obtain ⟨k,rfl⟩:=Int.eq_ofNat_of_zero_le h0
  have lr':(rb ls).1.length=tN ls:=by lia
  have e:ovL (("born", (k:Int)):Str×Int) (tN ls)=((("born" : Str),((tN ls-k:Nat):Int)):Str×Int):=by
   unfold ovL
   rw [if_pos rfl]
   exact congrArg _ (by lia)
  have e1:∀m,nxN "born" m=m+2:=fun m=>if_pos rfl
  have e2:∀k t F,nxF "born" k t F=UT k F:=fun k t F=>if_pos rfl
  refine ⟨?_,?_,?_,?_,?_,?_⟩
  ·rw [YB,e];exact .born ih.wk (by lia) (by lia)
  ·rw [YB,e,YM,YM,ih.tn]
  ·rw [YB,e,Wj,Wj,YM,e1,e2,e2,Int.toNat_natCast,Int.toNat_natCast]
   exact Zke ih.mr (by lia)
  ·rw [YB,e,ZR,ZR,Y1,Y1]
   dsimp only
   rw [Int.toNat_natCast,Int.toNat_natCast,ih.row,ih.cnt,<- lr',ZfK _ _ (by lia),ZgE _ _ (by lia),Wl,Wl,List.append_assoc]
   congr 2
   have ev:=ih.even
   show _ = [bw ((rb ls).2+1),bw (rb ls).2]
   have b1:bw ((rb ls).2+1)=(rb ls).2:=by unfold bw;rw [if_neg (by lia)];lia
   have b2:bw (rb ls).2=(rb ls).2+1:=by unfold bw;rw [if_pos ev]
   rw [b1,b2]
  ·rw [YB,e,ZR,ZR,Y1,Y1]
   dsimp only
   rw [ih.cnt]
  ·rw [ZR,Y1]
   have:=ih.even
   dsimp only
   lia
 | @cross ls n k h h0 h1 ih=>
  have tn:=W8 h
  have lr:=GN h
  obtain ⟨k,rfl⟩:=Int.eq_ofNat_of_zero_le h0
  have lr':(rb ls).1.length=tN ls:=by lia
  have e:ovL (("cross", (k:Int)):Str×Int) (tN ls)=((("cross" : Str),((tN ls-2-k:Nat):Int)):Str×Int):=by
   unfold ovL
   rw [if_neg nb1]
   exact congrArg _ (by lia)
  have e1:∀m,nxN "cross" m=m:=fun m=>(if_neg nb1).trans (if_pos rfl)
  have e2:∀k t F,nxF "cross" k t F=Wg k t F:=fun k t F=>(if_neg nb1).trans (if_pos rfl)
  refine ⟨?_,?_,?_,?_,?_,?_⟩
  ·rw [YB,e];exact .cross ih.wk (by lia) (by lia)
  ·rw [YB,e,YM,YM,ih.tn]
  ·rw [YB,e,Wj,Wj,YM,e1,e2,e2,Int.toNat_natCast,Int.toNat_natCast,Jo]
   exact Zjd ih.mr (by lia)
  ·rw [YB,e,ZR,ZR,YD,YD]
   dsimp only
   rw [Int.toNat_natCast,Int.toNat_natCast,ih.row,Zfm _ _ (by rw [Zcy];lia),Zfm (rb ls).1 k (by lia)]
   have c:=Zmh (rb ls).1 k (by lia)
   generalize (rb ls).1.getD k 0=x at c ⊢
   generalize (rb ls).1.getD (k+1) 0=y at c ⊢
   have l1:(mir ((rb ls).1.drop (k+2))).length=tN ls-2-k:=by rw [Zcy,List.length_drop];lia
   generalize hp:(rb ls).1.take k=p at c ⊢
   generalize hq:(rb ls).1.drop (k+2)=q at c l1 ⊢
   rw [c,Wl,Wl,Wl,Wl,<- l1]
   simp [mir,List.getD_eq_getElem?_getD,List.getElem?_append]
   rw [List.drop_append,List.drop_eq_nil_of_le (by simp)]
   simp
  ·rw [YB,e,ZR,ZR,YD,YD]
   exact ih.cnt
  ·rw [ZR,YD]
   exact ih.even
 | @fin ls n k h h0 h1 ih=>
  have tn:=W8 h
  have lr:=GN h
  obtain ⟨k,rfl⟩:=Int.eq_ofNat_of_zero_le h0
  have lr':(rb ls).1.length=tN ls:=by lia
  have e:ovL (("end", (k:Int)):Str×Int) (tN ls)=((("end" : Str),((tN ls-2-k:Nat):Int)):Str×Int):=by
   unfold ovL
   rw [if_neg nb2]
   exact congrArg _ (by lia)
  have e1:∀m,nxN "end" m=m-2:=fun m=>(if_neg nb2).trans (if_neg nb3)
  have e2:∀k t F,nxF "end" k t F=Zcl k t F:=fun k t F=>(if_neg nb2).trans (if_neg nb3)
  refine ⟨?_,?_,?_,?_,?_,?_⟩
  ·rw [YB,e];exact .fin ih.wk (by lia) (by lia)
  ·rw [YB,e,YM,YM,ih.tn]
  ·rw [YB,e,Wj,Wj,YM,e1,e2,e2,Int.toNat_natCast,Int.toNat_natCast,Jo]
   obtain ⟨nn,en⟩:∃nn,tN ls=nn+2:=⟨tN ls-2,by lia⟩
   have mr:=ih.mr
   rw [en] at mr
   rw [en,show nn+2-2=nn by lia]
   exact ZlK mr (by lia)
  ·rw [YB,e,ZR,ZR,JG,JG]
   dsimp only
   rw [Int.toNat_natCast,Int.toNat_natCast,ih.row,Wl]
   have a1:=ZfK (rb ls).1 (k+2) (by lia)
   have a2:=ZgE (rb ls).1 k (by lia)
   rw [show (rb ls).1.length-(k+2)=tN ls-2-k by lia] at a1
   rw [show (rb ls).1.length-k=tN ls-2-k+2 by lia] at a2
   rw [a1,a2]
  ·rw [YB,e,ZR,ZR,JG,JG]
   exact ih.cnt
  ·rw [ZR,JG]
   exact ih.even
section
variable {m m':Int->Int}{N f:Int}
theorem ZhX (M:YN m N) (hm:∀x,0<=x->x<N->m' x=bw (m (bw x))) (h0:0<=f) (h1:f<N) {L:Nat} (hL:gt m f L=f):∀j,j<=L->gt m' f j=gt m f (L-j)
 | 0,_=>hL.symm
 | j+1,hj=>by
  have ih:=ZhX M hm h0 h1 hL j (by lia)
  have d:=Z6 M h0 h1 (L-j)
  have d1:=Z6 M h0 h1 (L-(j+1))
  show bw (m' (gt m' f j))=_
  rw [ih,hm _ d.1 d.2,Jg]
  have e:gt m f (L-j)=bw (m (gt m f (L-(j+1)))):=by rw [show L-j=L-(j+1)+1 by lia];rfl
  rw [e,Jg,M.inv _ d1.1 d1.2]
theorem Zap (M:YN m N) (hm:∀x,0<=x->x<N->m' x=bw (m (bw x))) (h0:0<=f) (h1:f<N) (j:Nat):m' (gt m f (j+1))=bw (gt m f j):=by
 have d:=Z6 M h0 h1 (j+1)
 have d1:=Z6 M h0 h1 j
 rw [hm _ d.1 d.2]
 show bw (m (bw (bw (m (gt m f j)))))=_
 rw [Jg,M.inv _ d1.1 d1.2]
structure Flp (dn dn':Int->Int) (T T':List Int):Prop where
 mem:∀x,x∈T' ↔ x∈T
 rt:∀x,x∈JU T' ↔ x∈JU T
 fl:fl dn' T'=fl dn T
theorem ZcF (m:Int->Int) (f:Int):∀n,JU (Ux m f n)=(List.range n).map (gt m f)
 | 0=>rfl
 | n+1=>by
  have key:∀(A:List Int) (k:Nat) (x y:Int),A.length=2*k->JU (A ++ [x,y])=JU A ++ [x]:=by
   intro A k x y
   induction k generalizing A with
   | zero=>intro h;have:A = []:=List.length_eq_zero_iff.mp (by lia);subst this;rfl
   | succ k ih=>
    intro h
    match A,h with
    | a::b::r,h=>
     have:=ih r (by simp at h;lia)
     show a::JU (r ++ [x,y])=a::(JU r ++ [x])
     rw [this]
  show JU (Ux m f n ++ [gt m f n,m (gt m f n)])=_
  rw [key _ n _ _ (JW m f n),ZcF m f n,List.range_succ,List.map_append]
  rfl
theorem Zhr (dn m:Int->Int) (f:Int):∀n,fl dn (Ux m f n)=((List.range n).map fun j=>dn (gt m f j)).sum+((List.range n).map fun j=>ev2 (m (gt m f j))).sum
 | 0=>rfl
 | n+1=>by
  rw [Zoe,Zhr dn m f n,List.range_succ,List.map_append,List.map_append,List.sum_append,List.sum_append]
  simp only [List.map_cons,List.map_nil,List.sum_cons,List.sum_nil]
  lia
theorem ZdD (a:Nat->Int):∀L,((List.range L).map fun j=>a (L-j)).sum=((List.range L).map fun j=>a (j+1)).sum
 | 0=>rfl
 | L+1=>by
  have e:((List.range (L+1)).map fun j=>a (L+1-j))=a (L+1)::((List.range L).map fun j=>a (L-j)):=by
   rw [List.range_succ_eq_map,List.map_cons,List.map_map]
   congr 1
   exact List.map_congr_left fun j _=>by show a (L+1-(j+1))=_;congr 1;lia
  rw [e,List.sum_cons,ZdD a L,List.range_succ,List.map_append,List.sum_append]
  simp only [List.map_cons,List.map_nil,List.sum_cons,List.sum_nil]
  lia
theorem Zel (a:Nat->Int):∀L,((List.range L).map fun j=>a (j+1)).sum+a 0=((List.range L).map a).sum+a L
 | 0=>rfl
 | L+1=>by
  have:=Zel a L
  rw [List.range_succ,List.map_append,List.map_append,List.sum_append,List.sum_append]
  simp only [List.map_cons,List.map_nil,List.sum_cons,List.sum_nil]
  lia
theorem Yq.flip {dn dn':Int->Int} (M:YN m N) (hm:∀x,0<=x->x<N->m' x=bw (m (bw x))) (hd:∀x,0<=x->x<N->dn' (bw (m x))=dn x) (h0:0<=f) (h1:f<N) {T:List Int} (a:Yq m f T):∃T',Yq m' f T'/\Flp dn dn' T T':=by
 obtain ⟨L,hL,e,nx,rfl⟩:=a
 have gf:=ZhX M hm h0 h1 e
 refine ⟨_,⟨L,hL,?_,fun j j1 jL z=>?_,rfl⟩,?_,?_,?_⟩
 ·rw [gf L (Nat.le_refl _),Nat.sub_self];rfl
 ·rw [gf j (by lia)] at z
  exact nx (L-j) (by lia) (by lia) z
 ·intro x
  rw [Yo,Yo]
  constructor
  ·rintro ⟨j,hj,z | z⟩
   ·rw [gf j (by lia)] at z
    by_cases c:j=0
    ·subst c
     exact ⟨0,by lia,.inl (by rw [z,Nat.sub_zero,e];rfl)⟩
    ·exact ⟨L-j,by lia,.inl z⟩
   ·rw [gf j (by lia),show L-j=L-j-1+1 by lia,Zap M hm h0 h1] at z
    by_cases c:L-j-1=0
    ·refine ⟨L-1,by lia,.inr ?_⟩
     rw [z,c]
     have:f=bw (m (gt m f (L-1))):=by
      rw [<- e]
      conv=>lhs;rw [show L=L-1+1 by lia]
      show bw (m (gt m f (L-1)))=_
      rw [e]
     have h2:=congrArg bw this
     rw [Jg] at h2
     exact h2
    ·refine ⟨L-j-1-1,by lia,.inr ?_⟩
     rw [z]
     conv=>lhs;rw [show L-j-1=L-j-1-1+1 by lia]
     show bw (bw (m _))=_
     rw [Jg]
  ·rintro ⟨j,hj,z | z⟩
   ·by_cases c:j=0
    ·subst c
     exact ⟨0,by lia,.inl z⟩
    ·refine ⟨L-j,by lia,.inl ?_⟩
     rw [gf _ (by lia),z,show L-(L-j)=j by lia]
   ·refine ⟨if j+1=L then L-1 else L-j-2,by split<;>lia,.inr ?_⟩
    have hb:m (gt m f j)=bw (gt m f (j+1)):=by show _=bw (bw (m _));rw [Jg]
    rw [z,hb]
    split
    ·rename_i c
     rw [gf _ (by lia),show L-(L-1)=0+1 by lia,Zap M hm h0 h1,c,e]
     rfl
    ·rename_i c
     rw [gf _ (by lia),show L-(L-j-2)=j+1+1 by lia,Zap M hm h0 h1]
 ·intro x
  rw [ZcF,ZcF,List.mem_map,List.mem_map]
  constructor
  ·rintro ⟨j,hj,z⟩
   have hj:=List.mem_range.mp hj
   rw [gf j (by lia)] at z
   by_cases c:j=0
   ·subst c
    exact ⟨0,List.mem_range.mpr (by lia),by rw [<- z,Nat.sub_zero,e];rfl⟩
   ·exact ⟨L-j,List.mem_range.mpr (by lia),z⟩
  ·rintro ⟨j,hj,z⟩
   have hj:=List.mem_range.mp hj
   by_cases c:j=0
   ·subst c
    exact ⟨0,List.mem_range.mpr (by lia),z⟩
   ·exact ⟨L-j,List.mem_range.mpr (by lia),by rw [gf _ (by lia),<- z,show L-(L-j)=j by lia]⟩
 ·rw [Zhr,Zhr]
  have a1:((List.range L).map fun j=>dn' (gt m' f j))=(List.range L).map fun j=>(fun i=>dn' (gt m f i)) (L-j):=List.map_congr_left fun j hj=>by rw [gf j (by have:=List.mem_range.mp hj;lia)]
  have a2:((List.range L).map fun j=>ev2 (m' (gt m' f j)))=(List.range L).map fun j=>(fun i=>ev2 (bw (gt m f (i-1)))) (L-j):=List.map_congr_left fun j hj=>by
   have hj:=List.mem_range.mp hj
   rw [gf j (by lia)]
   show ev2 (m' (gt m f (L-j)))=ev2 (bw (gt m f (L-j-1)))
   conv=>lhs;rw [show L-j=L-j-1+1 by lia,Zap M hm h0 h1]
  rw [a1,a2,ZdD (fun i=>dn' (gt m f i)),ZdD (fun i=>ev2 (bw (gt m f (i-1))))]
  have b1:((List.range L).map fun j=>(fun i=>dn' (gt m f i)) (j+1))=(List.range L).map fun j=>dn (gt m f j):=List.map_congr_left fun j _=>by
   have d:=Z6 M h0 h1 j
   exact hd _ d.1 d.2
  have b2:((List.range L).map fun j=>(fun i=>ev2 (bw (gt m f (i-1)))) (j+1))=(List.range L).map fun j=>ev2 (bw (gt m f j)):=rfl
  have b3:((List.range L).map fun j=>ev2 (m (gt m f j)))=(List.range L).map fun j=>ev2 (bw (gt m f (j+1))):=List.map_congr_left fun j _=>by
   show _=ev2 (bw (bw (m _)))
   rw [Jg]
  have r:=Zel (fun i=>ev2 (bw (gt m f i))) L
  have z:ev2 (bw (gt m f L))=ev2 (bw (gt m f 0)):=by rw [e];rfl
  rw [z] at r
  have r2:((List.range L).map fun j=>ev2 (bw (gt m f (j+1)))).sum=((List.range L).map fun j=>ev2 (bw (gt m f j))).sum:=by lia
  show ((List.range L).map fun j=>(fun i=>dn' (gt m f i)) (j+1)).sum+((List.range L).map fun j=>ev2 (bw (gt m f j))).sum=_
  rw [b1,b3,r2]
theorem Zgu {dn dn':Int->Int}{ts ts':List (List Int)} (p:Paired (Flp dn dn') ts ts') (x:Int):x∈ts'.flatten ↔ x∈ts.flatten:=by
 induction p with
 | nil=>exact Iff.rfl
 | cons h _ ih=>rw [List.flatten_cons,List.flatten_cons,List.mem_append,List.mem_append,h.mem x,ih]
theorem ZiL {dn dn':Int->Int}{ts ts':List (List Int)} (p:Paired (Flp dn dn') ts ts') (x:Int):x∈Gu ts' ↔ x∈Gu ts:=by
 unfold Gu
 induction p with
 | nil=>exact Iff.rfl
 | cons h _ ih=>rw [List.map_cons,List.map_cons,List.flatten_cons,List.flatten_cons,List.mem_append,List.mem_append,h.rt x,ih]
theorem Zm1 {dn dn':Int->Int}{ts ts':List (List Int)} (p:Paired (Flp dn dn') ts ts'):ts'.map (WX dn')=ts.map (WX dn):=by
 induction p with
 | nil=>rfl
 | cons h _ ih=>rw [List.map_cons,List.map_cons,ih];unfold WX;rw [h.fl]
theorem Zo6 {dn dn':Int->Int}{ts ts':List (List Int)} (p:Paired (Flp dn dn') ts ts') (x:Int):ixT ts' x=ixT ts x:=by
 unfold ixT
 congr 1
 induction p with
 | nil=>rfl
 | cons h _ ih=>rw [List.findIdx_cons,List.findIdx_cons,ih,decide_eq_decide.mpr (h.mem x)]
theorem GA.flip {dn dn':Int->Int} (M:YN m N) (hm:∀x,0<=x->x<N->m' x=bw (m (bw x))) (hd:∀x,0<=x->x<N->dn' (bw (m x))=dn x) {i:Nat}{ts:List (List Int)} (a:GA m i ts):(i:Int)<=N -> ∃ts',GA m' i ts'/\Paired (Flp dn dn') ts ts':=by
 induction a with
 | nil=>exact fun _=>⟨[],.nil,.nil⟩
 | @add i ts T a ni it ih=>
  intro hi
  obtain ⟨ts',tr,pr⟩:=ih (by lia)
  obtain ⟨T',it',fp⟩:=Yq.flip (dn:=dn) (dn':=dn') M hm hd (by lia) (by lia) it
  exact ⟨ts' ++ [T'],.add tr (fun z=>ni ((Zgu pr _).mp z)) it',Paired.snoc pr fp⟩
 | @skip i ts a hi' ih=>
  intro hi
  obtain ⟨ts',tr,pr⟩:=ih (by lia)
  exact ⟨ts',.skip tr ((Zgu pr _).mpr hi'),pr⟩
end
theorem ZhP (r:List Int) {i:Nat} (h:i<r.length):(mir r).getD i 0=bw (r.getD (r.length-1-i) 0):=by
 unfold mir
 rw [List.getD_eq_getElem?_getD,List.getElem?_reverse (by simpa using h),List.length_map,List.getElem?_map,List.getD_eq_getElem?_getD]
 have e:r[r.length-1-i]? = some (r[r.length-1-i]'(by lia)):=by simp
 rw [e]
 rfl
theorem Znc {ls:List (Str×Int)}{n:Int} (hW:Wk ls n) (a:Nat):rowAt (ov ls) a=mir (rowAt ls a):=by
 obtain ⟨k,hk⟩:=YH hW a
 unfold rowAt
 rw [Za1]
 exact (Zbc hk).row
theorem ZnF (ls:List (Str×Int)) (pr:Str->Bool) (i:Nat):isK (ov ls) pr i=isK ls pr i:=by
 unfold isK
 cases h:ls[i]? with
 | none=>
  have:(ov ls)[i]? = none:=by rw [List.getElem?_eq_none_iff,Jo];exact List.getElem?_eq_none_iff.mp h
  rw [this]
 | some p=>rw [ZhT h];rfl
theorem Uj (ls:List (Str×Int)) (pr:Str->Bool):∀n,Z0 (ov ls) pr n=Z0 ls pr n
 | 0=>rfl
 | n+1=>by rw [Wy,Wy,Uj ls pr n,ZnF]
theorem ZkJ {ls:List (Str×Int)} (hW:Wk ls 0) {t:Nat}{q:Str×Int} (hq:ls[t]? = some q) (hb:q.1 ≠ "born"):Jj (ov ls) t=(bw (Jj ls t).2,bw (Jj ls t).1):=by
 obtain ⟨k0,hk,e⟩:=ZiA hW hq hb
 obtain ⟨m,hm⟩:=YH hW t
 have lr:((rowAt ls t).length:Int)=tN (ls.take t):=by
  have z1:=GN hm
  have z2:=W8 hm
  unfold rowAt
  lia
 have hw':=(Zbc hW).wk
 obtain ⟨_,_,e'⟩:=ZiA hw' (ZhT hq) hb
 rw [e',e,Znc hW t]
 have ek:(ovL q (tN (ls.take t))).2.toNat=(rowAt ls t).length-2-q.2.toNat:=by
  unfold ovL
  dsimp only
  rw [if_neg hb]
  lia
 rw [ek,ZhP _ (by lia),ZhP _ (by lia)]
 dsimp only
 rw [show (rowAt ls t).length-1-((rowAt ls t).length-2-q.2.toNat)=q.2.toNat+1 by lia,show (rowAt ls t).length-1-((rowAt ls t).length-2-q.2.toNat+1)=q.2.toNat by lia]
theorem Zfn {ls:List (Str×Int)} (hW:Wk ls 0):Yb (ov ls)=(Yb ls).map fun p=>(bw p.2,bw p.1):=by
 unfold Yb Gv
 rw [Uj,Jo,List.map_map]
 refine List.map_congr_left fun t ht=>?_
 obtain ⟨j,hj⟩:=List.mem_iff_getElem?.mp ht
 obtain ⟨a,p,e,ha,hp,hk⟩:=Zal hj
 rw [e,Int.toNat_natCast]
 refine ZkJ hW hp fun z=>?_
 unfold isE at hk
 rw [z] at hk
 exact absurd hk (by decide +kernel)
theorem ZgJ {ls:List (Str×Int)} (hW:Wk ls 0):Yp (ov ls)=Yp ls:=by unfold Yp;rw [Zfn hW,List.length_map]
theorem Zhw {ls:List (Str×Int)} (hW:Wk ls 0) {u l:Int} (h:(u,l)∈Yb ls):(bw l,bw u)∈Yb (ov ls):=by
 rw [Zfn hW]
 exact List.mem_map.mpr ⟨(u,l),h,rfl⟩
theorem ZgO {ls:List (Str×Int)} (hW:Wk ls 0) {x:Int} (h0:0<=x) (h1:x<(Yp ls:Int)):∃u l,(u,l)∈Yb ls/\(x=u∨x=l):=by
 have:x∈ZO (Yb ls):=(WU hW).mem_iff.mpr (by
  obtain ⟨n,rfl⟩:=Int.eq_ofNat_of_zero_le h0
  unfold ZaL
  exact List.mem_map.mpr ⟨n,List.mem_range.mpr (by lia),rfl⟩)
 obtain ⟨⟨u,l⟩,hp,hx⟩:=List.mem_flatMap.mp this
 refine ⟨u,l,hp,?_⟩
 rcases List.mem_cons.mp hx with z | z
 ·exact .inl z
 ·exact .inr (List.mem_singleton.mp z)
theorem ZbI {ls:List (Str×Int)} (hW:Wk ls 0):(ZO (Yb ls)).Nodup:=(WU hW).nodup_iff.mpr (by
 unfold ZaL
 exact List.pairwise_map.mpr ((List.nodup_iff_pairwise_ne.mp List.nodup_range).imp fun h e=>h (by lia)))
theorem Zlc {ls:List (Str×Int)} (hW:Wk ls 0):∀x,0<=x->x<(Yp ls:Int)->YW (Yb (ov ls)) x=bw (YW (Yb ls) (bw x)):=fun x h0 h1=>by
 have M:=YS hW
 obtain ⟨b0,b1⟩:=Zhh M.ev h0 h1
 obtain ⟨u,l,hp,hx⟩:=ZgO hW b0 b1
 obtain ⟨m1,m2⟩:=U9 (ZbI hW) hp
 obtain ⟨m3,m4⟩:=U9 (ZbI (Zbc hW).wk) (Zhw hW hp)
 rcases hx with z | z
 ·rw [z,m1,<- m4,<- z,Jg]
 ·rw [z,m2,<- m3,<- z,Jg]
theorem ZoZ {ls:List (Str×Int)} (hW:Wk ls 0):∀x,0<=x->x<(Yp ls:Int)->ZY (Yb (ov ls)) (bw (YW (Yb ls) x))=ZY (Yb ls) x:=fun x h0 h1=>by
 obtain ⟨u,l,hp,hx⟩:=ZgO hW h0 h1
 obtain ⟨m1,m2⟩:=U9 (ZbI hW) hp
 unfold ZY
 rcases hx with z | z
 ·rw [z,m1,if_pos (List.mem_map.mpr ⟨_,Zhw hW hp,rfl⟩),if_pos (List.mem_map.mpr ⟨_,hp,rfl⟩)]
 ·have no:∀{k:Int},(l,k)∉Yb ls:=fun h=>Zfa (ZbI hW) hp h
  rw [z,m2,if_neg ?_,if_neg ?_]
  ·intro y
   obtain ⟨⟨a,b⟩,hab,e⟩:=List.mem_map.mp y
   dsimp only at e
   subst e
   exact no hab
  ·intro y
   obtain ⟨⟨a,b⟩,hab,e⟩:=List.mem_map.mp y
   rw [Zfn hW] at hab
   obtain ⟨⟨c,d⟩,hcd,e2⟩:=List.mem_map.mp hab
   have e3:bw d=bw u:=by
    have:=congrArg Prod.fst e2
    exact this.trans e
   have e4:d=u:=by rw [<- Jg d,e3,Jg]
   subst e4
   exact Zfa (ZbI hW) hcd hp
theorem ZeF {ls:List (Str×Int)} (hW:Wk ls 0) {ts ts':List (List Int)} (a:GA (YW (Yb ls)) (Yp ls) ts) (b:GA (YW (Yb (ov ls))) (Yp (ov ls)) ts'):Paired (Flp (ZY (Yb ls)) (ZY (Yb (ov ls)))) ts ts':=by
 obtain ⟨ts2,tr,pr⟩:=GA.flip (m':=YW (Yb (ov ls))) (YS hW) (Zlc hW) (ZoZ hW) a (Int.le_refl _)
 rw [ZgJ hW] at b
 rw [b.uniq tr]
 exact pr
theorem Zh5 {ls:List (Str×Int)}{n:Int} (h:Wk ls n):∀i j,j<=i->i<tN ls->tF ls i j = []:=by
 have key:∀{ls:List (Str×Int)}{x:Str}{k:Int},Fit x k.toNat (tN ls)->(∀i j,j<=i->i<tN ls->tF ls i j = []) -> ∀i j,j<=i->i<tN (ls ++ [(x,k)])->tF (ls ++ [(x,k)]) i j = []:=by
  intro ls x k ft ih i j hij hi
  rw [YM] at hi
  rw [Wj]
  unfold nxN at hi
  unfold nxF
  dsimp only at hi ⊢
  rcases ft with ⟨rfl,hk⟩ | ⟨rfl,hk⟩ | ⟨rfl,hk⟩
  ·rw [if_pos rfl] at hi ⊢
   unfold UT
   rw [if_neg (by lia)]
   split
   ·rfl
   ·exact ih _ _ (by (repeat' split)<;>lia) (by split<;>lia)
  ·rw [if_neg (by decide),if_pos rfl] at hi ⊢
   unfold Wg
   rw [if_neg (by lia),if_neg (by lia),if_neg (by lia),if_neg (by lia),if_neg (by lia)]
   exact ih i j hij hi
  ·rw [if_neg (by decide),if_neg (by decide)] at hi ⊢
   unfold Zcl
   rw [if_neg (by lia)]
   exact ih _ _ (by (repeat' split)<;>lia) (by split<;>lia)
 induction h with
 | nil=>intro i j _ hi;cases hi
 | born h h0 h1 ih=>exact key (.inl ⟨rfl,by have:=W8 h;lia⟩) ih
 | cross h h0 h1 ih=>exact key (.inr (.inl ⟨rfl,by have:=W8 h;lia⟩)) ih
 | fin h h0 h1 ih=>exact key (.inr (.inr ⟨rfl,by have:=W8 h;lia⟩)) ih
theorem Zcu {x:Int}:∀{T:List Int},x∈JU T->x∈T
 | [],h=>by cases h
 | [a],h=>h
 | a::b::r,h=>by
  rcases List.mem_cons.mp (show x∈a::JU r from h) with z | z
  ·rw [z];exact List.mem_cons_self
  ·exact List.mem_cons_of_mem _ (List.mem_cons_of_mem _ (Zcu z))
theorem Zi3 {m : Int -> Int} {N f : Int} (M : YN m N) (h0 : 0 <= f) (h1 : f < N) {T : List Int} (a : Yq m f T) {x : Int} (hx : x ∈ T) : bw x ∈ JU T ↔ x ∉ JU T := by
  obtain ⟨L, hL, e, _, rfl⟩ := a
  have mev : ∀ y, y ∈ JU (Ux m f L) ↔ ∃ j, j < L /\ gt m f j = y := fun y => by
    rw [ZcF, List.mem_map]
    constructor
    · rintro ⟨j, hj, z⟩; exact ⟨j, List.mem_range.mp hj, z⟩
    · rintro ⟨j, hj, z⟩; exact ⟨j, List.mem_range.mpr hj, z⟩
  have pre : ∀ j, j < L -> ∃ i, bw (gt m f j) = m (gt m f i) := fun j hj => by
    by_cases c : j = 0
    · subst c
      refine ⟨L - 1, ?_⟩
      have h2 : gt m f L = bw (m (gt m f (L - 1))) := by conv => lhs; rw [show L = L - 1 + 1 by lia]
                                                         rfl
      show bw f = _
      rw [<- e, h2, Jg]
      have h3 : bw (m (gt m f (L - 1))) = f := by rw [<- h2, e]
      rw [h3]
    · refine ⟨j - 1, ?_⟩
      conv => lhs; rw [show j = j - 1 + 1 by lia]
      show bw (bw (m _)) = _
      rw [Jg]
  rcases Yo.mp hx with ⟨j, hj, z | z⟩
  · have y : x ∈ JU (Ux m f L) := (mev x).mpr ⟨j, hj, z.symm⟩
    refine ⟨fun w => ?_, fun w => absurd y w⟩
    obtain ⟨i, hi, ei⟩ := (mev _).mp w
    obtain ⟨k, ek⟩ := pre j hj
    rw [z, ek] at ei
    exact absurd ei (Zgp M h0 h1 i k)
  · refine ⟨fun _ y => ?_, fun _ => ?_⟩
    · obtain ⟨i, hi, ei⟩ := (mev _).mp y
      rw [z] at ei
      exact absurd ei (Zgp M h0 h1 i j)
    · rw [z]
      by_cases c : j + 1 = L
      · exact (mev _).mpr ⟨0, by lia, by show f = gt m f (j + 1); rw [c, e]⟩
      · exact (mev _).mpr ⟨j + 1, by lia, rfl⟩
theorem ZiO {ts:List (List Int)}{x:Int} (h:x∈Gu ts):x∈ts.flatten:=by
 unfold Gu at h
 obtain ⟨U,hU,hx⟩:=List.mem_flatten.mp h
 obtain ⟨T,hT,rfl⟩:=List.mem_map.mp hU
 exact List.mem_flatten.mpr ⟨T,hT,Zcu hx⟩
theorem Zma (ts:List (List Int)) (T:List Int):Gu (ts ++ [T])=Gu ts++JU T:=by unfold Gu;simp
theorem Zk3 {m:Int->Int}{N:Int} (M:YN m N) {i:Nat}{ts:List (List Int)} (a:GA m i ts):(i:Int)<=N -> ∀x∈ts.flatten,(bw x∈Gu ts ↔ x∉Gu ts):=by
 induction a with
 | nil=>intro _ x hx;cases hx
 | @add i ts T a ni it ih=>
  intro hi x hx
  have gd:=a.good M (by lia)
  have cl:=gd.2.2
  have ap:∀y∈T,y∉ts.flatten:=fun y hy=>by
   obtain ⟨L,_,_,_,rfl⟩:=id it
   obtain ⟨j,_,z | z⟩:=Yo.mp hy
   ·rw [z];exact (GB M (by lia) (by lia) cl ni j).1
   ·rw [z];exact (GB M (by lia) (by lia) cl ni j).2
  have clT:=Yq.closed M (by lia) (by lia) it
  rw [Zma,List.mem_append,List.mem_append]
  rw [List.flatten_append,List.mem_append] at hx
  rcases hx with hx | hx
  ·have h1:=ih (by lia) x hx
   have n1:x∉JU T:=fun z=>ap x (Zcu z) hx
   have n2:bw x∉JU T:=fun z=>ap _ (Zcu z) (cl x hx).2
   rw [or_iff_left n1,or_iff_left n2]
   exact h1
  ·have hx:x∈T:=by simpa using hx
   have n1:x∉Gu ts:=fun z=>ap x hx (ZiO z)
   have n2:bw x∉Gu ts:=fun z=>ap _ (clT x hx).2 (ZiO z)
   rw [or_iff_right n1,or_iff_right n2]
   exact Zi3 M (by lia) (by lia) it hx
 | @skip i ts a hi' ih=>exact fun hi=>ih (by lia)
theorem Zpi {ls:List (Str×Int)} (hW:Wk ls 0) {ts ts':List (List Int)} (a:GA (YW (Yb ls)) (Yp ls) ts) (b:GA (YW (Yb (ov ls))) (Yp (ov ls)) ts'):twI (ov ls) (Gu ts') (ov ls).length=twI ls (Gu ts) ls.length:=by
 have pr:=ZeF hW a b
 unfold twI
 have e1:(Gv (ov ls) (ov ls).length).length=(Gv ls ls.length).length:=by
  show (Yb (ov ls)).length=(Yb ls).length
  rw [Zfn hW,List.length_map]
 have e2:(ZdW (ov ls) (ov ls).length).map (ZbE (Gu ts'))=(ZdW ls ls.length).map (ZbE (Gu ts)):=by
  unfold ZdW
  rw [Uj,Jo,List.map_map,List.map_map]
  refine List.map_congr_left fun t ht=>?_
  obtain ⟨j,hj⟩:=List.mem_iff_getElem?.mp ht
  obtain ⟨c,p,e,hc,hp,hk⟩:=Zal hj
  have hb:p.1 ≠ "born" := fun z=>by
   unfold isC at hk
   rw [z] at hk
   exact absurd hk (by decide +kernel)
  show ZbE (Gu ts') (Jj (ov ls) t.toNat)=ZbE (Gu ts) (Jj ls t.toNat)
  rw [e,Int.toNat_natCast,ZkJ hW hp hb]
  have dm:=Zfq hW hp hb
  have inT:∀x,0<=x->x<(Yp ls:Int)->x∈ts.flatten:=fun x h0 h1=>by
   obtain ⟨n,rfl⟩:=Int.eq_ofNat_of_zero_le h0
   exact a.mem n (by lia)
  have sd:=fun x h0 h1=>Zk3 (YS hW) a (Int.le_refl _) x (inT x h0 h1)
  have s1:=sd _ dm.1.1 dm.1.2
  have s2:=sd _ dm.2.1 dm.2.2
  unfold ZbE
  dsimp only
  have q1:decide (bw (Jj ls c).2∈Gu ts') = !decide ((Jj ls c).2∈Gu ts):=by
   have hy:=(ZiL pr (bw (Jj ls c).2)).trans s2
   by_cases y:(Jj ls c).2∈Gu ts<;>simp [hy,y]
  have q2:decide (bw (Jj ls c).1∈Gu ts') = !decide ((Jj ls c).1∈Gu ts):=by
   have hy:=(ZiL pr (bw (Jj ls c).1)).trans s1
   by_cases y:(Jj ls c).1∈Gu ts<;>simp [hy,y]
  rw [q1,q2]
  cases decide ((Jj ls c).1∈Gu ts)<;>cases decide ((Jj ls c).2∈Gu ts)<;>rfl
 rw [e1,e2]
theorem HG.atBirth {ls:List (Str×Int)}{g:Int->Int} (h:HG 0 ls g) {x:Int} (h0:0<=x) (h1:x<(Yp ls:Int)) (hx:x % 2=0):g x-g (x+1)=1:=by
 rcases h with ⟨e,_⟩ | ⟨_,T,L,_,_,o,rfl⟩
 ·cases e
 ·have:=o.ZjR h0 h1 hx
  lia
theorem HG.alike {ls:List (Str×Int)}{g h:Int->Int} (hW:Wk ls 0) (hg:HG 0 ls g) (hb:∀x,0<=x->x<(Yp ls:Int)->x % 2=0->h x-h (x+1)=1) (he:∀u l,(u,l)∈Yb ls->h u-h l=1):∀x,0<=x->x<(Yp ls:Int)->h x-g x=h 0-g 0:=by
 rcases hg with ⟨z,_⟩ | ⟨_,T,L,_,_,o,rfl⟩
 ·cases z
 have M:=YS hW
 have ge:∀u l,(u,l)∈Yb ls->hgt (ZY (Yb ls)) T u-hgt (ZY (Yb ls)) T l=1:=fun u l hp=>by
  have:=o.ends (u:=u) (l:=l) hp (ZcC hW hp).1
  lia
 have gb:∀x,0<=x->x<(Yp ls:Int)->x % 2=0->hgt (ZY (Yb ls)) T x-hgt (ZY (Yb ls)) T (x+1)=1:=fun x h0 h1 hx=>by
  have:=o.ZjR h0 h1 hx
  lia
 have al:=o.all
 have eT:=o.T_is
 generalize hgt (ZY (Yb ls)) T=g at *
 have dm:∀y,0<=y->y<(Yp ls:Int)->h (YW (Yb ls) y)-g (YW (Yb ls) y)=h y-g y:=fun y h0 h1=>by
  obtain ⟨u,l,hp,hx⟩:=ZgO hW h0 h1
  obtain ⟨m1,m2⟩:=U9 (ZbI hW) hp
  have q1:=he u l hp
  have q2:=ge u l hp
  rcases hx with z | z
  ·rw [z,m1];lia
  ·rw [z,m2];lia
 have db:∀y,0<=y->y<(Yp ls:Int)->h (bw y)-g (bw y)=h y-g y:=fun y h0 h1=>by
  have ev:=M.ev
  by_cases c:y % 2=0
  ·have:bw y=y+1:=if_pos c
   have q1:=hb y h0 h1 c
   have q2:=gb y h0 h1 c
   rw [this]
   lia
  ·have:bw y=y-1:=if_neg c
   have q1:=hb (y-1) (by lia) (by lia) (by lia)
   have q2:=gb (y-1) (by lia) (by lia) (by lia)
   rw [show y-1+1=y by lia] at q1 q2
   rw [this]
   lia
 intro x h0 h1
 have n0:(0:Int)<(Yp ls:Int):=by lia
 have st:∀j,h (gt (YW (Yb ls)) 0 j)-g (gt (YW (Yb ls)) 0 j)=h 0-g 0:=fun j=>by
  induction j with
  | zero=>rfl
  | succ j ih=>
   have d:=Z6 M (Int.le_refl 0) n0 j
   show h (bw (YW (Yb ls) _))-g (bw (YW (Yb ls) _))=_
   rw [db _ (M.lo _ d.1 d.2) (M.hi _ d.1 d.2),dm _ d.1 d.2,ih]
 have hx:=al x h0 h1
 rw [eT] at hx
 obtain ⟨j,_,z | z⟩:=Yo.mp hx
 ·rw [z];exact st j
 ·have d:=Z6 M (Int.le_refl 0) n0 j
  rw [z,dm _ d.1 d.2]
  exact st j
theorem ZjK {ls:List (Str×Int)}{g g':Int->Int}{sc:Int} (hW:Wk ls 0) (hsc:sc=0∨sc=1) (hg:HG sc ls g) (hg':HG sc (ov ls) g'):dfs g' (ov ls) (Z0 (ov ls) isN (ov ls).length)=dfs g ls (Z0 ls isN ls.length):=by
 unfold dfs
 rw [Uj,Jo]
 refine List.map_congr_left fun t ht=>?_
 obtain ⟨j,hj⟩:=List.mem_iff_getElem?.mp ht
 obtain ⟨c,p,e,hc,hp,hk⟩:=Zal hj
 have hb:p.1 ≠ "born" := by simpa using hk
 rw [e,Int.toNat_natCast,ZkJ hW hp hb]
 have dmm:=Zfq hW hp hb
 rcases hsc with rfl | rfl
 ·have M:=YS hW
  have al:=hg.alike (h:=fun x=>- g' (bw x)) hW (fun x h0 h1 hx=>by
   have b1:bw x=x+1:=if_pos hx
   have b2:bw (x+1)=x:=by rw [<- b1,Jg]
   have:=hg'.atBirth (x:=x) h0 (by rw [ZgJ hW];exact h1) hx
   rw [b1,b2]
   lia) (fun u l hp=>by
   have q:=Zhw hW hp
   rcases hg' with ⟨z,_⟩ | ⟨_,T,L,_,_,o,rfl⟩
   ·cases z
   ·have:=o.ends (u:=bw l) (l:=bw u) q (ZcC (Zbc hW).wk q).1
    lia)
  have a1:=al _ dmm.1.1 dmm.1.2
  have a2:=al _ dmm.2.1 dmm.2.2
  dsimp only at a1 a2 ⊢
  lia
 ·rcases hg with ⟨_,rfl⟩ | ⟨ne,_⟩
  ·rcases hg' with ⟨_,rfl⟩ | ⟨ne,_⟩
   ·rfl
   ·exact absurd rfl ne
  ·exact absurd rfl ne
theorem Zkl {r:WS} (h:SR r):Y2 r r:=⟨h,fun w=>by
 by_cases z:w∈r
 ·rw [List.Nodup.count h.nodup,if_pos z];simp [z]
 ·rw [List.count_eq_zero.mpr z];simp [z]⟩
theorem ZcN {r L:WS} (h:SR r) (p:Uu r L):r=canon L:=((Zkl h).par p).canon
theorem Zf2 {A:WS} (h:A.Nodup):(rv A).Nodup:=List.pairwise_map.mpr (h.imp fun n e=>n (rev_inj _ _ e))
theorem Zja {L:WS} (h:L.Nodup):(canon L).length=L.length:=by
 have x:=Z5 L
 have m:∀w,w∈canon L ↔ w∈L:=fun w=>by
  rw [x.mem w]
  by_cases z:w∈L
  ·rw [List.Nodup.count h,if_pos z];simp [z]
  ·rw [List.count_eq_zero.mpr z];simp [z]
 exact ((List.perm_ext_iff_of_nodup x.rise.nodup h).mpr m).length_eq
theorem ZkQ {ls:List (Str×Int)} (hW:Wk ls 0) (a:Nat) {i j:Nat} (hij:i<j) (hj:j<tN (ls.take a)):tF ((ov ls).take a) i j=canon (rv (tF (ls.take a) (tN (ls.take a)-1-j) (tN (ls.take a)-1-i))):=by
 obtain ⟨m,hm⟩:=YH hW a
 rw [Za1]
 exact ZcN (ZdA _ _ _) ((Zbc hm).mr i j hij hj)
theorem Zj5 {ls:List (Str×Int)} (hW:Wk ls 0) (a:Nat) {i j:Nat} (hi:i<tN (ls.take a)) (hj:j<tN (ls.take a)):tF ((ov ls).take a) i j=canon (rv (tF (ls.take a) (tN (ls.take a)-1-j) (tN (ls.take a)-1-i))):=by
 by_cases h:i<j
 ·exact ZkQ hW a h hj
 ·obtain ⟨m,hm⟩:=YH hW a
  have o:=Zbc hm
  rw [Zh5 hm _ _ (by lia) (by lia),Za1,Zh5 o.wk _ _ (by lia) (by rw [o.tn];exact hi)]
  exact ((Zkl (show SR [] from .nil)).canon)
theorem Zm4 {ls:List (Str×Int)} (hW:Wk ls 0) (a:Nat):tN ((ov ls).take a)=tN (ls.take a):=by
 obtain ⟨m,hm⟩:=YH hW a
 rw [Za1]
 exact (Zbc hm).tn
theorem Zox {ls:List (Str×Int)} (hW:Wk ls 0) (few:Gn ls ls.length):Gn (ov ls) (ov ls).length:=by
 intro a ha i j hi hj
 rw [Zm4 hW] at hi hj
 rw [Zj5 hW a hi hj,Zja (Zf2 (ZdA _ _ _).nodup)]
 unfold rv
 rw [List.length_map]
 rw [Jo] at ha
 exact few a ha _ _ (by lia) (by lia)
theorem ZmN {ls:List (Str×Int)}{j t:Nat} (hW:Wk ls 0) (h:(nms ls)[j]? = some (t:Int)):dW (ov ls) t=canon (rv (dW ls t)):=by
 obtain ⟨a,⟨kd,kk⟩,e,ha,hp,hkd⟩:=Zal h
 have:t=a:=by lia
 subst this
 obtain ⟨k0,ft⟩:=Zdu hW t _ hp
 have hb:kd ≠ "born" := by simpa using hkd
 dsimp only at k0 ft hkd
 obtain ⟨kn,rfl⟩:=Int.eq_ofNat_of_zero_le k0
 rw [Int.toNat_natCast] at ft
 have hk:kn+1<tN (ls.take t):=by
  rcases ft with ⟨z,_⟩ | ⟨_,z⟩ | ⟨_,z⟩
  ·exact absurd z hb
  ·exact z
  ·exact z
 have hp':=ZhT hp
 have e1:ovL (kd,(kn:Int)) (tN (ls.take t))=(kd,((tN (ls.take t)-2-kn:Nat):Int)):=by
  unfold ovL
  rw [if_neg hb]
  exact congrArg _ (by dsimp only;lia)
 rw [e1] at hp'
 have es:=ZkQ hW t (i:=tN (ls.take t)-2-kn) (j:=tN (ls.take t)-2-kn+1) (by lia) (by lia)
 rw [show tN (ls.take t)-1-(tN (ls.take t)-2-kn+1)=kn by lia,show tN (ls.take t)-1-(tN (ls.take t)-2-kn)=kn+1 by lia] at es
 by_cases e:kd = "end"
 ·subst e
  rw [ZeY hp',ZeY hp]
  refine ZcN (Z5 _).rise (Zeu (A:=tF (ls.take t) kn (kn+1)) (B:=[[]]) ?_ (.refl _))
  rw [es]
  exact (Z5 _).self
 ·rw [Zh0 hp' e,Zh0 hp e,es]
theorem ZkO (ls:List (Str×Int)):nms (ov ls)=nms ls:=by unfold nms;rw [Uj,Jo]
theorem Zl9 {ls:List (Str×Int)}:Yt (ov ls)=Yt ls:=by
 have:(ov ls).map (fun p=>ZaE p.1)=ls.map fun p=>ZaE p.1:=List.ext_getElem? fun i=>by
  rw [List.getElem?_map,List.getElem?_map]
  cases h:ls[i]? with
  | none=>
   have:(ov ls)[i]? = none:=by rw [List.getElem?_eq_none_iff,Jo];exact List.getElem?_eq_none_iff.mp h
   rw [this]
  | some p=>rw [ZhT h];rfl
 unfold Yt
 rw [this]
theorem Zpa {ls:List (Str×Int)} (hI:InB ls):InB (ov ls):=by
 refine ⟨fun i=>?_,?_,?_⟩
 ·rw [Za1,Zl9];exact hI.1 i
 ·rw [Uj,Jo];exact hI.2.1
 ·rw [Uj,Jo];exact hI.2.2
def Zg9:Sp:=fun vs H Q _=>∃(a:Addr) (L:WS),vs = [.ref a]/\WL H a L/\L.Nodup/\L.length<=2000000 /\ ∀(p:Addr) (H':Hp),H p=none->Ze H H'->WL H' p (canon (rv L))->Q (.ref p) H'
abbrev Ge:Stmt:=top 53
theorem Zey:Zp ["_law_one"] ["_law_one"] (Zi Ge):={}
theorem Zmk {f:Addr}{fd:FuncData} (F:Yd K "_law_back" "_law_back" Ge f fd) (JC:mg "sorted" = none):ZX P w K mg base J2 1 f fd ["_law_one"] Zg9:=by
 refine F.ok Zey (fun vs H Q E h=>?_) (fun cdv A outer s H vs Q E hr h=>?_)
 ·obtain ⟨a,L,rfl,_⟩:=h
  rfl
 ·obtain ⟨a,L,rfl,hL,nd,hz,k⟩:=h
  refine ⟨_,(Zh (Zs (ZE (ZdN (K:=K) rfl hr.units) (by rfl) JC boot_sorted (Za (WZ (Ls:=["_law_word"]) (Fs:=[]) (fi:=[]) (ZU.of (show YC ["_law_one"] (Zi Ge) _ [] []=true by decide +kernel)) rfl (ZC (K:=K) rfl (pv 0)) (fun cl C s3 H3 ex=>⟨(Zl (i:=0) (show ((["_law_word"]:List Str)++([]:List Str)).Nodup by decide +kernel) rfl (Or.inl rfl)),Yf,(Zn5 (K:=K) rfl (pv 0))⟩)) Zc)))),?_⟩
  obtain ⟨xs,ea,wa⟩:=id hL
  have lx:=wa.len
  refine ⟨_,rfl,a,rfl,⟨_,Zo.of ea⟩,Y8 (K:=K) (xs:=xs) (by rw [sizeLine_eq];lia) (fun m ys G=>Ze H G/\Words G ys (rv (L.take m))) ⟨Ze.refl _,.nil⟩
   (fun m ys G ⟨_,z⟩=>by rw [z.len];unfold rv;rw [List.length_map,List.length_take];exact Nat.min_le_left _ _) (fun m ys G ⟨s',_⟩=>Zo.of (s' _ _ ea)) ?_ ?_⟩
  ·rintro m x ys G hx ⟨sg,wy⟩
   obtain ⟨wd,hwd,pw,rfl,hpw⟩:=Words.get wa hx
   refine lcG ?_
   refine ⟨_,rfl,pw,_,rfl,Uw.of (sg _ _ hpw),fun q fq=>⟨sg.step fq,?_⟩⟩
   rw [List.take_add_one,hwd]
   unfold rv
   rw [List.map_append]
   refine Words.snoc (wy.same (Ze.laid fq)) ⟨q,rfl,?_⟩
   rw [Zb,List.map_reverse]
  ·rintro ys G ⟨sg,wy⟩ D fD
   rw [lx,List.take_of_length_le (Nat.le_refl _)] at wy
   have s1:Ze G (upd G D (.lst ys)):=Ze.laid fD
   refine ⟨D,ys,_,rfl,Zo.of Zb,wy.same s1,fun p zs vs hp pz pm wz rs=>?_⟩
   have s2:Ze (upd G D (.lst ys)) (upd (upd G D (.lst ys)) p (.lst zs)):=Ze.laid hp
   have sr:SR vs:=Zm5 rs (pm.nodup_iff.mpr (Zf2 nd))
   have e:vs=canon (rv L):=ZcN sr fun w=>by rw [pm.count_eq]
   subst e
   exact k p _ ((sg.trans s1).free hp) ((sg.trans s1).trans s2) ⟨zs,Zb,Words.same s2 wz⟩
theorem Zk2 {G:Hp}{r:Addr}{xs ys:List V} (h:G r=some (.lst xs)):∀t p,G t=some (.tup p)->(upd G r (.lst ys)) t=some (.tup p):=fun t p e=>by
 rw [Zj (fun z=>by rw [z,h] at e;cases e)];exact e
def ZhI:Sp:=fun vs H Q _=>∃(l:Addr) (xs:List V) (ls:List (Str×Int)),vs = [.ref l]/\H l=some (.lst xs)/\Zu H xs ls/\ls.length<=60/\Wk ls 0 /\ ∀(p:Addr) (H':Hp) (ys:List V),H p=none->Ze H H'->H' p=some (.lst ys)->Zu H' ys (ov ls)->Q (.ref p) H'
theorem Zmq {ls:List (Str×Int)}{n:Int} (h:Wk ls n) {p:Str×Int}{m:Int} (h':Wk (ls ++ [p]) m):(tN (ls ++ [p]):Int)=tN ls+ZaE p.1:=by
 have a:=ZbH h
 have b:=ZbH h'
 have a2:=W8 h
 have b2:=W8 h'
 rw [JM] at b
 lia
abbrev UE:Stmt:=top 52
theorem Y6:Zp ["_law_drawing_here", "_law_found", "_law_many", "_law_word", "_law_k"] ["_law_drawing_here"] (Zi UE):={}
theorem Zl7 {f:Addr}{fd:FuncData} (F:Yd K "_law_over" "_law_over" UE f fd) (Zky:mg "int" = none):ZX P w K mg base J2 1 f fd ["_law_drawing_here"] ZhI:=by
 refine F.ok Y6 (fun vs H Q E h=>?_) (fun cdv A outer s H vs Q E hr h=>?_)
 ·obtain ⟨l,xs,ls,rfl,_⟩:=h
  rfl
 ·obtain ⟨l,xs,ls,rfl,hl,hL,hlen,hW,k⟩:=h
  refine ⟨_,(Zd (Zq (i:=1) Y6.nd rfl (Or.inl rfl) (ZT Zc))
   (Zd (Zq (i:=2) Y6.nd rfl (Or.inl rfl) Zf)
   (Zd (ZZ PassesOwn.never rfl (ZC (K:=K) rfl (pv 0)) (Yr (K:=K) (n:=2) rfl rfl (Zw (Zl (i:=3) Y6.nd rfl (Or.inl rfl)) (Zw (Zl (i:=4) Y6.nd rfl (Or.inl rfl)) Yw))) (Zd (Ya (YU (K:=K) rfl (JJ PySem.F.plainAttrs_list PySem.F.slot_list_append PySem.F.type_list_append Z4 (pv 1) (Za (YV (Za (pv 3) (Za (Zn YE (Zn YE (pv 2) (pv 4)) (Zv (Zk (K:=K) rfl) (ZT (Za Zf (Za Zf Zc))) (Zad ZiS (by rfl) Zky boot_int (Za (Zbl J1 (pv 3) Z7 (ZI _)) Zc)) (fun _ _=>rfl))) Zc))) Zc))))
   (Zh (Zq (i:=2) Y6.nd rfl (Or.inl rfl) (Zn ZN (pv 2) (Zv (ZmE (Zig hr)) (ZmA (ZcT Z7 Zf (ZcT Z7 Zf (ZcT Z7 (ZaC Gp Zf) ZmB))) rfl rfl (by intro z;cases z) (by decide)) (pv 3) (fun _ _=>rfl)))))))
   (Zh (Zs (pv 1)))))),?_⟩
  have hxl:=hL.len
  refine ⟨(by show 0<=sizeLine;decide),fun fA ffA=>?_⟩
  have s1:Ze H (upd H fA (.lst [])):=Ze.laid ffA
  refine ⟨_,rfl,l,rfl,⟨_,Zo.of (s1 _ _ hl)⟩,Ye (K:=K) (a:=l) (xs:=xs) (fun i σ G=>∃(v3 v4:Option V) (ys:List V),σ = [some (.ref l),some (.ref fA),some (.int (tN (ls.take i):Int)),v3,v4]/\Ze H G/\G fA=some (.lst ys)/\Zu G ys (ov (ls.take i)))
   ⟨none,none,[],rfl,s1,Zb,.nil⟩ (fun i σ G _ ⟨_,_,_,_,sg,_⟩=>Zo.of (sg _ _ hl)) ?_ ?_⟩
  ·rintro i x σ G hx ⟨v3,v4,ys,rfl,sg,ef,Ly⟩
   obtain ⟨q,t,hq,rfl,ht⟩:=hL.get hx
   have hi:i<ls.length:=(List.getElem?_eq_some_iff.mp hq).1
   have ly:=Ly.len
   rw [Jo,List.length_take] at ly
   have et:ls.take (i+1)=ls.take i ++ [q]:=by rw [List.take_add_one,hq];rfl
   obtain ⟨m0,hm0⟩:=YH hW i
   obtain ⟨m1,hm1⟩:=YH hW (i+1)
   have eN:(tN (ls.take i):Int)+ZaE q.1=tN (ls.take (i+1)):=by
    rw [et] at hm1 ⊢
    exact (Zmq hm0 hm1).symm
   have kd:Kd q.1:=hW.kd q (List.mem_of_getElem? hq)
   refine ⟨t,_,rfl,Uw.of (sg _ _ ht),rfl,_,_,rfl,_,_,rfl,rfl,?_⟩
   have hix:atI [V.int 2,.int 0] (if decide (V.str q.1=V.str "born")=true then 1 else 0)=some (.int (if q.1 = "born" then 0 else 2)):=by
    by_cases z:q.1 = "born"
    ·rw [if_pos z,if_pos (decide_eq_true (congrArg V.str z))];rfl
    ·rw [if_neg z,if_neg (by rw [decide_eq_false (fun y=>z (V.str.inj y))];decide)];rfl
   have ek:(tN (ls.take i):Int)-q.2-(if q.1 = "born" then 0 else 2)=(ovL q (tN (ls.take i))).2:=by
    unfold ovL
    dsimp only
    split<;>lia
   refine ⟨_,rfl,.inl ⟨rfl,_,Zo.of ef⟩,_,rfl,_,rfl,_,rfl,_,_,rfl,rfl,(by show 2<=sizeLine;decide),fun L fL=>⟨_,rfl,rfl,.inr ⟨_,rfl,L,_,_,_,rfl,rfl,Zo.of Zb,hix,_,_,rfl,rfl,(by show 2<=sizeLine;decide),fun m fm=>?_⟩⟩⟩
   dsimp only
   rw [ek]
   have s2:Ze G (upd G L (.lst [.int 2,.int 0])):=Ze.laid fL
   generalize upd G L (.lst [.int 2,.int 0])=G1 at *
   have s3:Ze G1 (upd G1 m (.tup [.str q.1,.int (ovL q (tN (ls.take i))).2])):=Ze.laid fm
   have em:(upd G1 m (.tup [.str q.1,.int (ovL q (tN (ls.take i))).2])) m=some (.tup [.str q.1,.int (ovL q (tN (ls.take i))).2]):=Zb
   generalize upd G1 m (.tup [.str q.1,.int (ovL q (tN (ls.take i))).2])=G2 at *
   have s23:=s2.trans s3
   have ef2:=s23 _ _ ef
   refine ⟨fA,_,_,rfl,rfl,ef2,by rw [sizeLine_eq];lia,?_⟩
   have L3:Zu (upd G2 fA (.lst (ys ++ [.ref m]))) (ys ++ [.ref m]) (ov (ls.take (i+1))):=by
    rw [et,YB]
    refine Zu.mono (Zk2 ef2) ?_
    exact Zu.snoc (Ly.same s23) em
   have S3:Ze H (upd G2 fA (.lst (ys ++ [.ref m]))):=(sg.trans s23).put ffA
   have e3:(upd G2 fA (.lst (ys ++ [.ref m]))) fA=some (.lst (ys ++ [.ref m])):=Zb
   generalize upd G2 fA (.lst (ys ++ [.ref m]))=G3 at *
   refine ⟨_,rfl,fun d fd=>⟨2,rfl,Zb,[(Sum.inr "born", .int 2),(Sum.inr "cross", .int 0),(Sum.inr "end", .int (-2))],rfl,by decide,_,rfl,d,.int (ZaE q.1),rfl,?_,_,_,rfl,rfl,?_⟩⟩
   ·have:=Zdj.k (H:=upd (upd G3 d (.dK [])) d (.dK (U8 [] [(Sum.inr "born", .int 2),(Sum.inr "cross", .int 0),(Sum.inr "end", .int (-2))]))) (a:=d) (k:=Sum.inr q.1) Zb
    rw [show GK (U8 [] [((Sum.inr "born" : Key),V.int 2),(Sum.inr "cross", .int 0),(Sum.inr "end", .int (-2))]) (Sum.inr q.1)=some (.int (ZaE q.1)) by rcases kd with z | z | z<;>rw [z]<;>rfl] at this
    exact this
   ·have s4:Ze G3 (upd (upd G3 d (.dK [])) d (.dK (U8 [] [(Sum.inr "born", .int 2),(Sum.inr "cross", .int 0),(Sum.inr "end", .int (-2))]))):=(Ze.laid fd).put fd
    exact ⟨_,_,ys ++ [.ref m],by rw [<- eN];rfl,S3.trans s4,s4 _ _ e3,L3.same s4⟩
  ·rintro σ G ⟨v3,v4,ys,rfl,sg,ef,Ly⟩
   rw [hxl,List.take_of_length_le (Nat.le_refl _)] at Ly
   exact ⟨_,rfl,k fA G ys ffA sg ef Ly⟩
theorem Zfx {X:L2.Cx}:Passes (CX1 P w) X (fun _ _ _=>False):=fun _ _ _ _ _ _ _ c=>by
 obtain ⟨_,_,_,_,_,_,_,_,_,_,_,_,_,_,h⟩:=c
 exact h.elim
def Zg4:Sp:=fun vs H Q _=>∃(l o:Addr) (xs ys:List V) (ls:List (Str×Int)),vs = [.ref l,.ref o]/\H l=some (.lst xs)/\Zu H xs ls/\H o=some (.lst ys)/\Zu H ys (ov ls)/\ls.length<=60/\Wk ls 0 /\ ∀H',Ze H H'->Q (.bl true) H'
theorem U1 {K:PySem.W.Frag}{G:Hp}{n:Nat}{ns:List Int}:∀(i:Nat) (x y:V),(ns.map V.int)[i]? = some x->(ns.map V.int)[i]? = some y->Eqv K G n x y:=fun i x y a b=>by
 obtain ⟨t,_,rfl⟩:=YI a
 rw [a] at b
 cases b
 exact .flat rfl
theorem ZmI {K:PySem.W.Frag}{G:Hp}{n:Nat}{ns:List Int}:∀(i:Nat) (x y:V),(JU (ns.map V.int))[i]? = some x->(JU (ns.map V.int))[i]? = some y->Eqv K G n x y:=by
 rw [Ze6]
 exact U1
abbrev U2:Stmt:=top 54
theorem GR:Zp ["_law_drawing_here", "_law_other", "_law_told", "_law_one"] ["_law_drawing_here", "_law_other"] (Zi U2):={}
theorem Zml {f Zx:Addr}{fd:FuncData} (F:Yd K "_law_kept" "_law_kept" U2 f fd) (Jq:mg "NoHeights" = some (.ref Zx)) (YF:PySem.W.excIn K Zx bmV "ValueError.__new__" = true) (J3:PySem.W.mroIn K Zx (.ref Zx)=some true)
  (Za2:Yg P w K mg base 6 "pieces" ["drawing"] Zdr) (GZ:Yg P w K mg base 6 "turns" ["drawing"] ZcM) (Zbg:Yg P w K mg base 7 "twists" ["drawing"] ZcS) (Y5:Zat P w K mg base 9 "name_heights" ["drawing", "scale"] (Zng Zx)):ZX P w K mg base J2 10 f fd ["_law_drawing_here", "_law_other"] Zg4:=by
 refine F.ok GR (fun vs H Q E h=>?_) (fun cdv A outer s H vs Q E hr h=>?_)
 ·obtain ⟨l,o,xs,ys,ls,rfl,_⟩:=h
  rfl
 ·obtain ⟨l,o,xs,ys,ls,rfl,hl,hL,ho,hO,hlen,hW,k⟩:=h
  refine ⟨_,(Zd (YO (PW.pt (ZiH (ZD (Zbx (K:=K) rfl hr.units) (ZgR (K:=K) rfl (Zm Za2 hr (Za (pv 0) Zc))) (ZgR (K:=K) rfl (Zm Za2 hr (Za (pv 1) Zc))) (ZI _)) (ZeC (ZD (Zbx (K:=K) rfl hr.units) (Zm GZ hr (Za (pv 0) Zc)) (Zm GZ hr (Za (pv 1) Zc)) (ZI _))))) (Zh (Zs Wi)) Yc)
   (Zd (YO (PW.pt (ZiH (ZD ZjG (Zm Zbg hr (Za (pv 0) Zc)) (Zm Zbg hr (Za (pv 1) Zc)) (ZI _)) (ZeC (ZD (Zbx (K:=K) rfl hr.units) (Wv Y5 (hr.mono (by decide)) Zfx (Za (pv 0) (Za Zf Zc))) (Wv Y5 (hr.mono (by decide)) Zfx (Za (pv 1) (Za Zf Zc))) (ZI _))))) (Zh (Zs Wi)) Yc)
   (Zd (Zq (i:=2) GR.nd rfl (Or.inl rfl) (ZT Zc))
   (Zd (ZZ PassesOwn.never rfl (ZC (K:=K) rfl (ZT (Za (pv 0) (Za (pv 1) Zc)))) (Zl (i:=3) GR.nd rfl (Or.inl rfl)) (Zh (ZiN (K:=K) rfl (fun pins R_try=>(Zh (Ya (YU (K:=K) rfl (JJ PySem.F.plainAttrs_list PySem.F.slot_list_append PySem.F.type_list_append Z4 (pv 2) (Za (ZgA Y5 (hr.mono (by decide)) (Znb rfl) (Za (pv 3) (Za Zf Zc))) Zc)))))) (fun pins a_x=>(Zh (Ya (YU (K:=K) rfl (JJ PySem.F.plainAttrs_list PySem.F.slot_list_append PySem.F.type_list_append Z4 (pv 2) (Za Zot Zc)))))) (by rfl) Jq YF)))
   (Zh (Zs (Zbl (ZnH (K:=K) rfl hr.units) (Zv (Zk (K:=K) rfl) (pv 2) Zf (fun _ _=>rfl)) (Zv (Zk (K:=K) rfl) (pv 2) Zf (fun _ _=>rfl)) (ZI _)))))))),?_⟩
  have hWo:=(Zbc hW).wk
  have hlo:(ov ls).length<=60:=by rw [Jo];exact hlen
  refine ⟨_,rfl,l,xs,ls,rfl,hl,hL,hlen,hW,fun p1 G1 ts f1 s1 tr e1=>⟨p1,_,rfl,Zo.of e1,fun q1 fq1=>?_⟩⟩
  have s2:Ze G1 (upd G1 q1 (.lst (JU ((tab (Yp ls) (ixT ts)).map V.int)))):=Ze.laid fq1
  have eq1:(upd G1 q1 (.lst (JU ((tab (Yp ls) (ixT ts)).map V.int)))) q1=some (.lst (JU ((tab (Yp ls) (ixT ts)).map V.int))):=Zb
  obtain ⟨G2,eG2⟩:∃G2,upd G1 q1 (.lst (JU ((tab (Yp ls) (ixT ts)).map V.int)))=G2:=⟨_,rfl⟩
  rw [eG2] at s2 eq1 ⊢
  have S2:=s1.trans s2
  refine ⟨_,rfl,o,ys,ov ls,rfl,S2 _ _ ho,hO.same S2,hlo,hWo,fun p2 G3 ts2 f2 s3 tr2 e2=>⟨p2,_,rfl,Zo.of e2,fun q2 fq2=>?_⟩⟩
  have pr:=ZeF hW tr tr2
  have ex:tab (Yp (ov ls)) (ixT ts2)=tab (Yp ls) (ixT ts):=by
   unfold tab
   rw [ZgJ hW]
   exact List.map_congr_left fun x _=>Zo6 pr _
  rw [ex]
  have s4:Ze G3 (upd G3 q2 (.lst (JU ((tab (Yp ls) (ixT ts)).map V.int)))):=Ze.laid fq2
  have eq2:(upd G3 q2 (.lst (JU ((tab (Yp ls) (ixT ts)).map V.int)))) q2=some (.lst (JU ((tab (Yp ls) (ixT ts)).map V.int))):=Zb
  obtain ⟨G4,eG4⟩:∃G4,upd G3 q2 (.lst (JU ((tab (Yp ls) (ixT ts)).map V.int)))=G4:=⟨_,rfl⟩
  rw [eG4] at s4 eq2 ⊢
  have S4:=(S2.trans s3).trans s4
  refine ⟨q1,q2,_,_,rfl,rfl,Zo.of (s4 _ _ (s3 _ _ eq1)),Zo.of eq2,rfl,ZmI,_,rfl,ZdX ?_⟩
  refine ⟨_,rfl,l,xs,ls,rfl,S4 _ _ hl,hL.same S4,hlen,hW,fun p3 G5 ts3 f3 s5 tr3 e3=>?_⟩
  have S5:=S4.trans s5
  refine ⟨_,rfl,o,ys,ov ls,rfl,S5 _ _ ho,hO.same S5,hlo,hWo,fun p4 G6 ts4 f4 s6 tr4 e4=>?_⟩
  have S6:=S5.trans s6
  rw [Zm1 (ZeF hW tr3 tr4)] at e4
  refine ⟨p3,p4,_,_,rfl,rfl,Zo.of (s6 _ _ e3),Zo.of e4,rfl,U1,_,rfl,ZdX ?_⟩
  refine ⟨_,rfl,l,xs,ls,rfl,S6 _ _ hl,hL.same S6,hlen,hW,fun G7 ts5 s7 tr5=>?_⟩
  have S7:=S6.trans s7
  refine ⟨_,rfl,o,ys,ov ls,rfl,S7 _ _ ho,hO.same S7,hlo,hWo,fun G8 ts6 s8 tr6=>?_⟩
  have S8:=S7.trans s8
  rw [Zpi hW tr5 tr6]
  refine ⟨rfl,_,rfl,Jy (fun z=>absurd z (by simp)) (fun _=>?_)⟩
  refine ⟨_,rfl,l,1,xs,ls,rfl,S8 _ _ hl,hL.same S8,hlen,hW,(fun p5 G9 g f5 s9 hg e5=>?_),fun _ _ _ ne=>absurd rfl ne⟩
  have S9:=S8.trans s9
  refine ⟨_,rfl,o,1,ys,ov ls,rfl,S9 _ _ ho,hO.same S9,hlo,hWo,(fun p6 G10 g' f6 s10 hg' e6=>?_),fun _ _ _ ne=>absurd rfl ne⟩
  have S10:=S9.trans s10
  rw [ZjK hW (.inr rfl) hg hg'] at e6
  refine ⟨p5,p6,_,_,rfl,rfl,Zo.of (s10 _ _ e5),Zo.of e6,rfl,U1,_,rfl,ZdX ?_⟩
  refine ⟨(by show 0<=sizeLine;decide),fun tA ftA=>?_⟩
  have s11:Ze G10 (upd G10 tA (.lst [])):=Ze.laid ftA
  have et:(upd G10 tA (.lst [])) tA=some (.lst []):=Zb
  obtain ⟨G11,eG11⟩:∃G11,upd G10 tA (.lst [])=G11:=⟨_,rfl⟩
  rw [eG11] at s11 et ⊢
  have S11:=S10.trans s11
  have ftH:H tA=none:=S10.free ftA
  refine ⟨_,rfl,_,rfl,(by show 2<=sizeLine;decide),fun D fD=>?_⟩
  have s12:Ze G11 (upd G11 D (.lst [.ref l,.ref o])):=Ze.laid fD
  have eD:(upd G11 D (.lst [.ref l,.ref o])) D=some (.lst [.ref l,.ref o]):=Zb
  obtain ⟨G12,eG12⟩:∃G12,upd G11 D (.lst [.ref l,.ref o])=G12:=⟨_,rfl⟩
  rw [eG12] at s12 eD ⊢
  have et12:=s12 _ _ et
  have nD:D≠tA:=fun z=>by rw [z,et12] at eD;cases eD
  have S12:=S11.trans s12
  have items:∀(j:Nat) (x:V),[V.ref l,.ref o][j]? = some x -> ∃(c:Addr) (xc:List V) (lc:List (Str×Int)),x = .ref c/\H c=some (.lst xc)/\Zu H xc lc/\lc.length<=60/\Wk lc 0/\(∀tc,GA (YW (Yb lc)) (Yp lc) tc->tc.map (WX (ZY (Yb lc)))=ts.map (WX (ZY (Yb ls))))/\(∀g g',HG 0 ls g->HG 0 lc g'->dfs g' lc (Z0 lc isN lc.length)=dfs g ls (Z0 ls isN ls.length)):=fun j x h=>by
   match j,h with
   | 0,h=>
    cases h
    refine ⟨l,xs,ls,rfl,hl,hL,hlen,hW,fun tc h=>by rw [h.uniq tr],fun g g' a b=>by rw [b.uniq a]⟩
   | 1,h=>
    cases h
    exact ⟨o,ys,ov ls,rfl,ho,hO,hlo,hWo,fun tc h=>Zm1 (ZeF hW tr h),fun g g' a b=>ZjK hW (.inl rfl) a b⟩
   | n+2,h=>cases h
  have hadG:ts.map (WX (ZY (Yb ls))) = [0] -> ∃g,HG 0 ls g:=fun h=>by
   have l1:ts.length=1:=by simpa using congrArg List.length h
   obtain ⟨T,eT⟩:=List.length_eq_one_iff.mp l1
   rw [eT] at h
   have trT:GA (YW (Yb ls)) (Yp ls) [T]:=by rw [<- eT];exact tr
   have h0:WX (ZY (Yb ls)) T=0:=by simpa using h
   obtain ⟨L,on,_⟩:=Zk9 hW trT h0
   exact ⟨_,.inr ⟨by decide,T,L,trT,h0,on,rfl⟩⟩
  have noG:∀{lc:List (Str×Int)}{g:Int->Int},HG 0 lc g -> ∃tc,GA (YW (Yb lc)) (Yp lc) tc/\tc.map (WX (ZY (Yb lc))) = [0]:=fun h=>by
   rcases h with ⟨z,_⟩ | ⟨_,T,L,t1,t2,_,_⟩
   ·cases z
   ·exact ⟨[T],t1,by rw [List.map_cons,t2];rfl⟩
  let Ok:Hp->V->Prop:=fun G z=>(z = .non/\ts.map (WX (ZY (Yb ls))) ≠ [0]) ∨ ∃(p:Addr) (g:Int->Int),z = .ref p/\HG 0 ls g/\p≠tA/\G p=some (.lst ((dfs g ls (Z0 ls isN ls.length)).map V.int))
  have Ok_same:∀{G G':Hp}{z:V},(∀c u,G c=some u->c≠tA->G' c=some u)->Ok G z->Ok G' z:=fun s' h=>by
   rcases h with h | ⟨p,g,a,b,c,d⟩
   ·exact .inl h
   ·exact .inr ⟨p,g,a,b,c,s' _ _ d c⟩
  refine ⟨D,rfl,⟨_,Zo.of eD⟩,Ye (K:=K) (a:=D) (xs:=[V.ref l,.ref o]) (fun j σ G=>∃(v3:Option V) (zs:List V),σ = [some (.ref l),some (.ref o),some (.ref tA),v3]/\Jh tA G12 G/\Ze H G/\G tA=some (.lst zs)/\zs.length=j /\ ∀z∈zs,Ok G z)
   ⟨none,[],rfl,Jh.refl _ _,S12,et12,rfl,fun z hz=>nomatch hz⟩ (fun j σ G _ ⟨_,_,_,fr,_⟩=>Zo.of (fr _ _ eD nD)) ?_ ?_⟩
  ·rintro j x σ G hx ⟨v3,zs,rfl,fr,sg,ez,lz,okz⟩
   obtain ⟨c,xc,lc,rfl,hc,hLc,lcl,hWc,tnc,dfc⟩:=items j x hx
   have hj:j<2:=(List.getElem?_eq_some_iff.mp hx).1
   have put:∀(G':Hp) (z:V),Ze G G'->Ok G' z -> ∃(v3:Option V) (zs':List V),[some (V.ref l),some (.ref o),some (.ref tA),some (.ref c)] = [some (.ref l),some (.ref o),some (.ref tA),v3]/\Jh tA G12 (upd G' tA (.lst (zs ++ [z])))/\Ze H (upd G' tA (.lst (zs ++ [z])))/\(upd G' tA (.lst (zs ++ [z]))) tA=some (.lst zs')/\zs'.length=j+1 /\ ∀y∈zs',Ok (upd G' tA (.lst (zs ++ [z]))) y:=fun G' z s' hz=>by
    refine ⟨_,zs ++ [z],rfl,(fr.trans s'.frm).trans Jh.upd,(sg.trans s').put ftH,Zb,by simp [lz],fun y hy=>?_⟩
    have up:∀c u,G' c=some u->c≠tA->(upd G' tA (.lst (zs ++ [z]))) c=some u:=fun c u e n=>by rw [Zj n];exact e
    rcases List.mem_append.mp hy with hy | hy
    ·exact Ok_same up (Ok_same (fun c u e _=>s' c u e) (okz y hy))
    ·rw [List.mem_singleton.mp hy];exact Ok_same up hz
   refine ⟨fun σ' C G'=>C=Zx /\ σ' = [some (.ref l),some (.ref o),some (.ref tA),some (.ref c)]/\Ze G G'/\ts.map (WX (ZY (Yb ls))) ≠ [0],?_,?_⟩
   ·refine ⟨_,rfl,.inl ⟨rfl,_,Zo.of ez⟩,_,rfl,c,0,xc,lc,rfl,sg _ _ hc,hLc.same sg,lcl,hWc,(fun p7 G' g' fp s' hg' e7=>?_),fun G' tc s' _ trc nz=>⟨Zx,rfl,rfl,rfl,s',by rw [<- tnc tc trc];exact nz⟩⟩
    refine ⟨tA,_,_,rfl,rfl,s' _ _ ez,by rw [sizeLine_eq];lia,put G' _ s' (.inr ?_)⟩
    obtain ⟨tc,t1,t2⟩:=noG hg'
    obtain ⟨g0,hg0⟩:=hadG (by rw [<- tnc tc t1];exact t2)
    refine ⟨p7,g0,rfl,hg0,(fun z=>by rw [z,ez] at fp;cases fp),?_⟩
    rw [e7,dfc g0 g' hg0 hg']
   ·rintro C σ' G' ⟨rfl,rfl,s',nh⟩
    refine ⟨J3,_,rfl,.inl ⟨rfl,_,Zo.of (s' _ _ ez)⟩,tA,_,_,rfl,rfl,s' _ _ ez,by rw [sizeLine_eq];lia,put G' _ s' (.inl ⟨rfl,nh⟩)⟩
  ·rintro σ G ⟨v3,zs,rfl,fr,sg,ez,lz,okz⟩
   obtain ⟨z0,z1,rfl⟩:∃z0 z1,zs = [z0,z1]:=by
    match zs,lz with
    | [a,b],_=>exact ⟨a,b,rfl⟩
   refine ⟨_,rfl,tA,_,_,_,rfl,rfl,Zo.of ez,Zt (j:=0) rfl,_,rfl,tA,_,_,_,rfl,rfl,Zo.of ez,Zt (j:=1) rfl,?_⟩
   rcases okz z0 (by simp) with ⟨rfl,n0⟩ | ⟨p,g,rfl,hg1,_,ep⟩
   ·rcases okz z1 (by simp) with ⟨rfl,_⟩ | ⟨p,g,rfl,hg1,_,ep⟩
    ·exact .inl ⟨rfl,by rw [decide_eq_true (rfl:V.non=V.non)];exact k G sg⟩
    ·obtain ⟨tc,t1,t2⟩:=noG hg1
     exact absurd (by rw [t1.uniq tr] at t2;exact t2) n0
   ·rcases okz z1 (by simp) with ⟨rfl,n1⟩ | ⟨p',g',rfl,hg2,_,ep'⟩
    ·obtain ⟨tc,t1,t2⟩:=noG hg1
     exact absurd (by rw [t1.uniq tr] at t2;exact t2) n1
    ·rw [hg2.uniq hg1] at ep'
     exact .inr ⟨p,p',_,_,rfl,rfl,Zo.of ep,Zo.of ep',rfl,U1,k G sg⟩
theorem Zno {ls:List (Str×Int)}{j t:Nat} (hW:Wk ls 0) (few:Gn ls ls.length) (h:(nms ls)[j]? = some (t:Int)):(dW ls t).length<=300:=by
 obtain ⟨a,⟨kd,kk⟩,e,ha,hp,hkd⟩:=Zal h
 have:t=a:=by lia
 subst this
 obtain ⟨k0,ft⟩:=Zdu hW t _ hp
 dsimp only at k0 ft hkd
 obtain ⟨kn,rfl⟩:=Int.eq_ofNat_of_zero_le k0
 rw [Int.toNat_natCast] at ft
 have hk:kn+1<tN (ls.take t):=by
  rcases ft with ⟨z,_⟩ | ⟨_,z⟩ | ⟨_,z⟩
  ·exact absurd z (by simpa using hkd)
  ·exact z
  ·exact z
 have f200:=few t (by lia) kn (kn+1) (by lia) hk
 by_cases e:kd = "end"
 ·subst e
  rw [ZeY hp]
  have:=(Z5 (tF (ls.take t) kn (kn+1) ++ [[]])).len
  rw [List.length_append,List.length_singleton] at this
  unfold Jf
  lia
 ·rw [Zh0 hp e];lia
theorem Zpy (ls:List (Str×Int)) (t:Nat):SR (dW ls t):=by
 unfold dW
 cases ls[t]? with
 | none=>exact List.Pairwise.nil
 | some p=>
  dsimp only
  split
  ·exact (Z5 _).rise
  ·exact ZdA _ _ _
def Ze4:Sp:=fun vs H Q _=>∃(l:Addr) (ls:List (Str×Int)),vs = [.ref l]/\Drw H l ls/\InB ls /\ ∀H',Ze H H'->Q (.bl true) H'
abbrev Jz:Stmt:=top 55
theorem Yx:Zp ["_law_drawing_here", "_law_other", "_law_tables", "_law_table", "_law_there", "_law_many", "_law_i"] ["_law_drawing_here"] (Zi Jz):={}
theorem Zj0 {f ZH:Addr}{fd:FuncData} (F:Yd K "_law_right" "_law_right" Jz f fd) (Wz:mg "TooMany" = some (.ref ZH)) (Jr:PySem.W.excIn K ZH bmV "ValueError.__new__" = true) (GH:PySem.W.mroIn K ZH (.ref ZH)=some true)
  (UG:Yg P w K mg base 1 "_law_over" ["_law_drawing_here"] ZhI) (Uz:Yg P w K mg base 10 "_law_kept" ["_law_drawing_here", "_law_other"] Zg4) (W5:Yg P w K mg base 1 "_law_back" ["_law_one"] Zg9) (Zcq:Zat P w K mg base 7 "deeds" ["drawing"] (Zfd ZH)) (Zac:Zat P w K mg base 7 "between" ["drawing"] (Zla ZH))
  (ZF:mg "range" = none) (ZJ:mg "len" = none) (ZaY:mg "zip" = none):ZX P w K mg base J2 11 f fd ["_law_drawing_here"] Ze4:=by
 refine F.ok Yx (fun vs H Q E h=>?_) (fun cdv A outer s H vs Q E hr h=>?_)
 ·obtain ⟨l,ls,rfl,_⟩:=h
  rfl
 ·obtain ⟨l,ls,rfl,⟨xs,hl,hL,hW,hlen⟩,hI,k⟩:=h
  refine ⟨_,(Zd (Zq (i:=1) Yx.nd rfl (Or.inl rfl) (Zm UG hr (Za (pv 0) Zc)))
   (Zd (YO (Zc5 (ZbL (Zm Uz hr (Za (pv 0) (Za (pv 1) Zc))))) (Zh (Zs Wi)) Yc)
   (Zd (ZiN (K:=K) rfl (fun pins R_try=>(Zh (Zq (i:=2) Yx.nd rfl (Or.inl rfl) (ZgA Zac (hr.mono (by decide)) (Znb rfl) (Za (pv 0) Zc))))) (fun pins a_x=>(Zh (Zs Wi))) (by rfl) Wz Jr)
   (Zd (YO (ZD (Zbx (K:=K) rfl hr.units) (WZ (Ls:=["_law_one"]) (Fs:=[]) (fi:=[]) (ZU.of (show YC ["_law_drawing_here", "_law_other", "_law_tables", "_law_table", "_law_there", "_law_many", "_law_i"] (Zi Jz) _ [] []=true by decide +kernel)) rfl (ZC (K:=K) rfl (Wv Zcq (hr.mono (by decide)) Zfx (Za (pv 0) Zc))) (fun cl C s3 H3 ex=>⟨(Zl (i:=0) (show ((["_law_one"]:List Str)++([]:List Str)).Nodup by decide +kernel) rfl (Or.inl rfl)),Yf,(Zm W5 hr (Za (pv 0) Zc))⟩)) (Wv Zcq (hr.mono (by decide)) Zfx (Za (pv 1) Zc)) (ZI _)) (Zh (Zs Wi)) Yc)
   (Zd (ZZ PassesOwn.never rfl (ZeT (K:=K) rfl (by rfl) ZaY (Za (pv 2) (Za (Wv Zac (hr.mono (by decide)) Zfx (Za (pv 1) Zc)) Zc))) (Yr (K:=K) (n:=2) rfl rfl (Zw (Zl (i:=3) Yx.nd rfl (Or.inr rfl)) (Zw (Zl (i:=4) Yx.nd rfl (Or.inl rfl)) Yw))) (Zd (Zq (i:=5) Yx.nd rfl (Or.inr rfl) (ZE (ZW (K:=K) rfl) (by rfl) ZJ PySem.boot_len (Za (pv 3) Zc)))
   (Zh (ZZ PassesOwn.never rfl (Yj (by rfl) ZF (Za (pv 5) Zc)) (Zl (i:=6) Yx.nd rfl (Or.inr rfl)) (Zh (YO (ZD (Zbx (K:=K) rfl hr.units) (Zv (Zk (K:=K) rfl) (pv 4) (pv 6) (fun _ _=>rfl)) (WZ (Ls:=["_law_j"]) (Fs:=["_law_table", "_law_i", "_law_many"]) (fi:=[3,6,5]) (ZU.of (show YC ["_law_drawing_here", "_law_other", "_law_tables", "_law_table", "_law_there", "_law_many", "_law_i"] (Zi Jz) _ ["_law_table", "_law_i", "_law_many"] [3,6,5]=true by decide +kernel)) rfl (Yj (by rfl) ZF (Za (pv 5) Zc)) (fun cl C s3 H3 ex=>⟨(Zl (i:=0) (show ((["_law_j"]:List Str)++(["_law_table", "_law_i", "_law_many"]:List Str)).Nodup by decide +kernel) rfl (Or.inl rfl)),Yf,(Zm W5 hr (Za (Zv (Zk (K:=K) rfl) (Zv (Zk (K:=K) rfl) (pv 1) (Zn YE (Zn YE (pv 3) Zf) (pv 0)) (fun _ _=>rfl)) (Zn YE (Zn YE (pv 3) Zf) (pv 2)) (fun _ _=>rfl)) Zc))⟩)) (ZI _)) (Zh (Zs Wi)) Yc))))))
   (Zh (Zs Wi))))))),?_⟩
  have hWo:=(Zbc hW).wk
  have hlo:(ov ls).length<=60:=by rw [Jo];exact hlen
  have hIo:=Zpa hI
  refine ⟨_,rfl,l,xs,ls,rfl,hl,hL,hlen,hW,fun o G1 ys fo s1 eo Lo=>?_⟩
  refine ⟨_,rfl,_,rfl,l,o,xs,ys,ls,rfl,s1 _ _ hl,hL.same s1,eo,Lo,hlen,hW,fun G2 s2=>⟨true,rfl,ZdX ?_⟩⟩
  have S2:=s1.trans s2
  refine ⟨fun σ' C G'=>C=ZH/\Ze H G',?_,fun C σ' G' h=>⟨by rw [h.1];exact GH,k G' h.2⟩⟩
  refine ⟨_,rfl,l,xs,ls,rfl,S2 _ _ hl,hL.same S2,hW,hI,hlen,(fun few tA G3 T RR ft s3 tb lT _ _ _ _ _=>?_),fun nf H' s'=>⟨ZH,rfl,rfl,S2.trans s'⟩⟩
  have S3:=S2.trans s3
  have fewo:=Zox hW few
  have eo3:=s3 _ _ (s2 _ _ eo)
  have Lo3:=(Lo.same s2).same s3
  refine ⟨_,rfl,l,xs,ls,rfl,S3 _ _ hl,hL.same S3,hW,hI,hlen,(fun _ dA G4 es _ s4 ed le ds _ _ _=>?_),fun nf=>absurd few nf⟩
  have nl:(nms ls).length<=ls.length:=JH _ _ _
  refine ⟨dA,rfl,⟨_,Zo.of ed⟩,Y8 (K:=K) (xs:=es.map V.ref) (by rw [List.length_map,sizeLine_eq];lia) (fun i zs G=>Ze G4 G /\ ∃bs:List Addr,zs=bs.map V.ref/\bs.length=i /\ ∀(j:Nat) (b:Addr),bs[j]? = some b -> ∃t:Nat,(nms ls)[j]? = some (t:Int)/\WL G b (canon (rv (dW ls t)))) ⟨Ze.refl _,[],rfl,rfl,fun j b h=>by simp at h⟩
   (fun i zs G ⟨_,bs,z,e,_⟩=>by rw [z,List.length_map,e];exact Nat.le_refl _) (fun i zs G ⟨s',_⟩=>Zo.of (s' _ _ ed)) ?_ ?_⟩
  ·rintro i x zs G hx ⟨sg,bs,rfl,lb,hb⟩
   rw [List.getElem?_map] at hx
   obtain ⟨e,he,rfl⟩:=Option.map_eq_some_iff.mp hx
   obtain ⟨t,ht,wl⟩:=ds i e he
   have h300:=Zno hW few ht
   refine lcG ?_
   refine ⟨_,rfl,e,dW ls t,rfl,wl.same sg,(Zpy ls t).nodup,by lia,fun p G' fp s' wp=>⟨sg.trans s',bs ++ [p],by simp,by simp [lb],fun j b h=>?_⟩⟩
   by_cases c:j<bs.length
   ·rw [List.getElem?_append_left c] at h
    obtain ⟨t',h1,h2⟩:=hb j b h
    exact ⟨t',h1,h2.same s'⟩
   ·rw [List.getElem?_append_right (by lia)] at h
    have:j-bs.length=0:=by
     have:=(List.getElem?_eq_some_iff.mp h).1
     simp at this
     lia
    rw [this] at h
    cases h
    exact ⟨t,by rw [show j=i by lia];exact ht,wp⟩
  rintro zs G ⟨sg,bs,rfl,lb,hb⟩ D fD
  rw [List.length_map] at lb
  have s5:Ze G (upd G D (.lst (bs.map V.ref))):=Ze.laid fD
  have eD:(upd G D (.lst (bs.map V.ref))) D=some (.lst (bs.map V.ref)):=Zb
  obtain ⟨G5,eG5⟩:∃G5,upd G D (.lst (bs.map V.ref))=G5:=⟨_,rfl⟩
  rw [eG5] at s5 eD ⊢
  have s45:=(s4.trans sg).trans s5
  have S5:=S3.trans s45
  refine ⟨_,rfl,o,ys,ov ls,rfl,s45 _ _ eo3,Lo3.same s45,hWo,hIo,hlo,(fun _ dB G6 es2 _ s6 ed2 le2 ds2 _ _ _=>?_),fun nf=>absurd fewo nf⟩
  have S6:=S5.trans s6
  rw [ZkO] at le2
  have eqd:∀(i:Nat) (x y:V),(bs.map V.ref)[i]? = some x->(es2.map V.ref)[i]? = some y->Eqv K G6 60 x y:=fun i x y h1 h2=>by
   rw [List.getElem?_map] at h1 h2
   obtain ⟨b,hb1,rfl⟩:=Option.map_eq_some_iff.mp h1
   obtain ⟨e,he1,rfl⟩:=Option.map_eq_some_iff.mp h2
   obtain ⟨t,a1,a2⟩:=hb i b hb1
   obtain ⟨t',b1,b2⟩:=ds2 i e he1
   rw [ZkO,a1] at b1
   have:t=t':=by have:=Option.some.inj b1;lia
   subst this
   rw [ZmN hW a1] at b2
   exact ZkH ((a2.same s5).same s6) b2 (by decide)
  refine ⟨D,dB,_,_,rfl,rfl,Zo.of (s6 _ _ eD),Zo.of ed2,by rw [List.length_map,List.length_map];lia,eqd,_,rfl,ZdX ?_⟩
  have s36:=s45.trans s6
  have etA:=s36 _ _ tb.at_
  refine ⟨_,rfl,_,rfl,o,ys,ov ls,rfl,s36 _ _ eo3,Lo3.same s36,hWo,hIo,hlo,(fun _ tB G7 T2 RR2 ft2 s7 tb2 lT2 _ _ _ _ _=>?_),fun nf=>absurd fewo nf⟩
  have S7:=S6.trans s7
  rw [Jo] at lT2
  have tb7:=UC (s36.trans s7) tb
  refine ⟨tA,tB,rfl,⟨_,Zo.of tb7.at_⟩,⟨_,Zo.of tb2.at_⟩,Ziv (K:=K) (a:=tA) (b:=tB) (xs:=T.map V.ref) (ys:=T2.map V.ref) (by rw [List.length_map,List.length_map,lT,lT2]) (fun a σ G=>∃v3 v4 v5 v6:Option V,σ = [some (.ref l),some (.ref o),some (.ref tA),v3,v4,v5,v6]/\Ze G7 G) ⟨none,none,none,none,rfl,Ze.refl _⟩ (fun a σ G ⟨_,_,_,_,_,s'⟩=>⟨Zo.of (s' _ _ tb7.at_),Zo.of (s' _ _ tb2.at_)⟩) ?_ ?_⟩
  ·rintro a x y q σ G8 hx hy ⟨v3,v4,v5,v6,rfl,s8⟩ fq
   rw [List.getElem?_map] at hx hy
   obtain ⟨r,hr1,rfl⟩:=Option.map_eq_some_iff.mp hx
   obtain ⟨r',hr2,rfl⟩:=Option.map_eq_some_iff.mp hy
   have ha:a<ls.length+1:=by rw [<- lT];exact (List.getElem?_eq_some_iff.mp hr1).1
   obtain ⟨ta,_⟩:=tb7.tab a r hr1
   obtain ⟨ta',_⟩:=tb2.tab a r' hr2
   rw [Zm4 hW] at ta'
   have fw:=few a (by lia)
   obtain ⟨G9,eG9⟩:∃G9,upd G8 q (.tup [.ref r,.ref r'])=G9:=⟨_,rfl⟩
   have s9:Ze G8 G9:=by rw [<- eG9];exact Ze.laid fq
   have eq:G9 q=some (.tup [.ref r,.ref r']):=by rw [<- eG9];exact Zb
   rw [eG9]
   have s79:=s8.trans s9
   refine ⟨q,_,rfl,Uw.of eq,rfl,_,_,rfl,_,_,rfl,rfl,?_⟩
   obtain ⟨AA,eA,mA⟩:=ta.same s79
   have lA:=mA.1
   have n400:tN (ls.take a)<=400:=Nat.le_trans (Zih hW hI a) (by decide)
   obtain ⟨n,en⟩:∃n,tN (ls.take a)=n:=⟨_,rfl⟩
   rw [en] at n400 lA ta ta' fw
   refine ⟨_,rfl,r,_,rfl,.inl (Zo.of eA),?_⟩
   rw [List.length_map,lA]
   refine ⟨_,rfl,_,rfl,by lia,by lia,?_⟩
   rw [Int.toNat_natCast]
   refine YR (n:=n) (fun i σ G=>∃v6:Option V,σ = [some (.ref l),some (.ref o),some (.ref tA),some (.ref r),some (.ref r'),some (.int (n:Int)),v6]/\Ze G9 G) ⟨_,rfl,Ze.refl _⟩ ?_ ?_
   ·rintro i σ Ga hi ⟨v6,rfl,sa⟩
    rw [Int.zero_add]
    have sa7:=s79.trans sa
    obtain ⟨A',eA',mA'⟩:=ta'.same sa7
    obtain ⟨lA',_,rowA'⟩:=mA'
    have hri:A'[i]? = some (A'[i]'(by lia)):=by simp
    obtain ⟨xr,exr,lxr,cell⟩:=rowA' i _ hri
    refine ⟨_,rfl,_,rfl,r',_,_,_,rfl,rfl,Zo.of eA',Zt (j:=i) (by rw [List.getElem?_map,hri];rfl),_,rfl,(n:Int),rfl,by lia,by lia,?_⟩
    rw [Int.toNat_natCast]
    refine ZdG (n:=n) (by rw [sizeLine_eq];lia) (fun j zs G=>Ze Ga G /\ ∃bs:List Addr,zs=bs.map V.ref/\bs.length=j /\ ∀(m:Nat) (b:Addr),bs[m]? = some b->WL G b (tF ((ov ls).take a) i m)) ⟨Ze.refl _,[],rfl,rfl,fun m b h=>by simp at h⟩ (fun j zs G ⟨_,bs,z,e,_⟩=>by rw [z,List.length_map,e];exact Nat.le_refl _) ?_ ?_
    ·rintro j zs Gb hj ⟨sb,bs,rfl,lb,hb⟩
     have ej:(n:Int)-1-(j:Int)=((n-1-j:Nat):Int):=by lia
     have ei:(n:Int)-1-(i:Int)=((n-1-i:Nat):Int):=by lia
     obtain ⟨yt,rr,zr,e,h1,h2,h3,h4,wl⟩:=WY ((ta.same sa7).same sb) (i:=n-1-j) (j:=n-1-i) (by lia) (by lia)
     have f200:=fw (n-1-j) (n-1-i) (by lia) (by lia)
     dsimp only [J0,Gf]
     refine Zar ?_
     rw [Int.zero_add]
     refine ⟨_,rfl,_,rfl,_,_,rfl,rfl,_,rfl,_,_,rfl,rfl,r,_,_,_,rfl,rfl,Zo.of h1,(by rw [ej];exact Zt (j:=n-1-j) h2),_,rfl,_,_,rfl,rfl,_,rfl,_,_,rfl,rfl,rr,_,_,_,rfl,rfl,Zo.of h3,(by rw [ei];exact Zt (j:=n-1-i) h4),e,_,rfl,wl,(ZdA _ _ _).nodup,by lia,fun p G' fp s' wp=>⟨sb.trans s',bs ++ [p],by simp,by simp [lb],fun m b h=>?_⟩⟩
     by_cases c:m<bs.length
     ·rw [List.getElem?_append_left c] at h
      exact (hb m b h).same s'
     ·rw [List.getElem?_append_right (by lia)] at h
      have:m-bs.length=0:=by
       have:=(List.getElem?_eq_some_iff.mp h).1
       simp at this
       lia
      rw [this] at h
      cases h
      have oa:=Zj5 hW a (i:=i) (j:=m) (by lia) (by lia)
      rw [en,show m=j by lia] at oa
      rw [show m=j by lia,oa]
      exact wp
    ·rintro zs Gb ⟨sb,bs,rfl,lb,hb⟩ D2 fD2
     have s10:Ze Gb (upd Gb D2 (.lst (bs.map V.ref))):=Ze.laid fD2
     have eqr:∀(m:Nat) (x y:V),xr[m]? = some x->(bs.map V.ref)[m]? = some y->Eqv K (upd Gb D2 (.lst (bs.map V.ref))) 60 x y:=fun m x y q1 q2=>by
      rw [List.getElem?_map] at q2
      obtain ⟨b,hb1,rfl⟩:=Option.map_eq_some_iff.mp q2
      obtain ⟨e,rfl,we⟩:=cell m x q1
      exact ZkH ((we.same sb).same s10) ((hb m b hb1).same s10) (by decide)
     refine ⟨_,D2,_,_,rfl,rfl,Zo.of (s10 _ _ (sb _ _ exr)),Zo.of Zb,by rw [List.length_map,lxr,lb],eqr,_,rfl,ZdX ?_⟩
     exact ⟨_,rfl,(sa.trans sb).trans s10⟩
   ·rintro σ Ga ⟨v6,rfl,sa⟩
    exact ⟨_,_,_,_,rfl,s79.trans sa⟩
  ·rintro σ G8 ⟨v3,v4,v5,v6,rfl,s8⟩
   exact k G8 (S7.trans s8)
def ZhH:Sp:=fun vs H Q _=>∃(b:Addr) (n:Int),vs = [.ref b,.int n]/\Bag H b/\0<=n/\n<=12 /\ ∀(l:Addr) (H':Hp) (ls:List (Str×Int)),H l=none->Bag H' b->Jh b H H'->Drw H' l ls->InB ls->ls.length<=50->ls ≠ []->Q (.ref l) H'
abbrev UN:Stmt:=top 51
theorem Ze9:Zp ["_law_bag_here", "_law_most"] ["_law_bag_here", "_law_most"] (Zi UN):={}
theorem Zmo {f:Addr}{fd:FuncData} (F:Yd K "_law_some" "_law_some" UN f fd) (Zr:Yg P w K mg base 1 "_law_take" ["_law_bag_here", "_law_many"] ZaO) (ZaP:Yg P w K mg base 3 "_law_any" ["_law_bag_here", "_law_most"] Zef) (Gs:Yg P w K mg base 2 "_law_curled" ["_law_bag_here", "_law_most"] Zhc):ZX P w K mg base J2 4 f fd ["_law_bag_here", "_law_most"] ZhH:=by
 refine F.ok Ze9 (fun vs H Q E h=>?_) (fun cdv A outer s H vs Q E hr h=>?_)
 ·obtain ⟨b,n,rfl,_⟩:=h
  rfl
 ·obtain ⟨b,n,rfl,hbag,n1,n2,k⟩:=h
  refine ⟨_,(Zd (YO (ZD J1 (Zm Zr hr (Za (pv 0) (Za Zf Zc))) Zf (ZI _)) (Zh (Zs (Zm ZaP hr (Za (pv 0) (Za (pv 1) Zc))))) Yc)
   (Zh (Zs (Zm Gs hr (Za (pv 0) (Za Zf Zc)))))),?_⟩
  refine ⟨_,rfl,b,2,rfl,hbag,by decide,by decide,fun d H1 _ _ bg1 f1=>⟨rfl,_,rfl,?_⟩⟩
  refine Jy (fun _=>?_) (fun _=>?_)
  ·exact ⟨_,rfl,_,rfl,b,n,rfl,bg1,n1,n2,fun l H2 ls hl bg2 f2 dr ib ll ne=>k l H2 ls (f1.free bg1 hl) bg2 (f1.trans f2) dr ib ll ne⟩
  ·exact ⟨_,rfl,b,3,rfl,bg1,by decide,by decide,fun l H2 ls hl bg2 f2 dr ib ll ne=>k l H2 ls (f1.free bg1 hl) bg2 (f1.trans f2) dr ib ll ne⟩
theorem Zlt {H H':Hp}{b:Addr} (s:Ze H H') (x:Bag H b):Bag H' b:=let ⟨g,r,h,e⟩:=x;⟨g,r,h,s _ _ e⟩
def ZiK (K:PySem.W.Frag):Sp:=fun vs H Q _=>∃(a:Addr) (ns:List Int),vs = [.ref a]/\Zo K H a (ns.map V.int)/\ns.length<=63 /\ ∀H',Q (.bl true) H'
abbrev Zd7:Stmt:=top 56
theorem Zg7:Zp ["_law_script", "_law_at", "_law_bag_here"] ["_law_script"] (Zi Zd7):={}
theorem Zn8 {f:Addr}{fd:FuncData} (F:Yd K "law" "law" Zd7 f fd) (ZaI:Yg P w K mg base 1 "_law_bag" ["_law_script", "_law_at"] (Zk8 K)) (W7:Yg P w K mg base 4 "_law_some" ["_law_bag_here", "_law_most"] ZhH) (Wn:Yg P w K mg base 11 "_law_right" ["_law_drawing_here"] Ze4)
  (ZF:mg "range" = none) (ZJ:mg "len" = none) (Zeo:mg "max" = none) (ZkW:mg "min" = none):ZX P w K mg base J2 12 f fd ["_law_script"] (ZiK K):=by
 refine F.ok Zg7 (fun vs H Q E h=>?_) (fun cdv A outer s H vs Q E hr h=>?_)
 ·obtain ⟨a,ns,rfl,_⟩:=h
  rfl
 ·obtain ⟨a,ns,rfl,hS,hlen,k⟩:=h
  refine ⟨_,(Zd (ZZ PassesOwn.never rfl (Yj (by rfl) ZF (Za (ZE (Zek rfl) (by rfl) Zeo boot_max (Za Zf (Za (ZE (Zjc rfl) (by rfl) ZkW boot_min (Za (ZE (ZW (K:=K) rfl) (by rfl) ZJ PySem.boot_len (Za (pv 0) Zc)) (Za Zf Zc))) Zc))) Zc)) (Zl (i:=1) Zg7.nd rfl (Or.inl rfl)) (Zd (Zq (i:=2) Zg7.nd rfl (Or.inl rfl) (Zm ZaI hr (Za (pv 0) (Za (pv 1) Zc))))
   (Zh (YO (PW.pt (ZiH (Zc5 (ZbL (Zm Wn hr (Za (Zm W7 hr (Za (pv 2) (Za Zf Zc))) Zc)))) (ZeC (Zc5 (ZbL (Zm Wn hr (Za (Zm W7 hr (Za (pv 2) (Za Zf Zc))) Zc))))))) (Zh (Zs Wi)) Yc))))
   (Zh (Zs Wi))),?_⟩
  refine ⟨_,rfl,a,_,rfl,.inl hS,_,_,rfl,_,_,rfl,_,rfl,?_,?_,YR (fun i σ H'=>∃v1 v2:Option V,σ = [some (.ref a),v1,v2]/\Ze H H') ⟨none,none,rfl,Ze.refl _⟩ ?_ ?_⟩
  ·split<;>(try split)<;>lia
  ·rw [List.length_map]
   split<;>(try split)<;>lia
  ·rintro i σ H0 hi ⟨v1,v2,rfl,sm⟩
   have hi':i<900:=by
    rw [List.length_map] at hi
    revert hi
    split<;>(try split)<;>lia
   refine ⟨_,rfl,_,rfl,a,_,ns,rfl,sm.seq hS,by lia,by lia,fun b H1 hb s1 bg1=>?_⟩
   refine ⟨_,rfl,b,8,rfl,bg1,by decide,by decide,fun l H2 ls hl bg2 f2 dr ib _ _=>?_⟩
   refine ⟨l,ls,rfl,dr,ib,fun H3 s3=>⟨true,rfl,ZdX ?_⟩⟩
   refine ⟨_,rfl,b,5,rfl,Zlt s3 bg2,by decide,by decide,fun l2 H4 ls2 hl2 bg4 f4 dr2 ib2 _ _=>?_⟩
   refine ⟨l2,ls2,rfl,dr2,ib2,fun H5 s5=>⟨true,rfl,ZdX ?_⟩⟩
   refine ⟨_,_,rfl,fun c o e=>?_⟩
   have nb:=Zg (sm c o e) hb
   exact s5 c o (f4 c o (s3 c o (f2 c o (s1 c o (sm c o e)) nb)) nb)
  ·rintro σ H0 ⟨v1,v2,rfl,sm⟩
   exact k H0
end
theorem ZK {P:Program}{w:World}{K:PySem.W.Frag}{mg:Str->Option Value}{base:Heap}{k:Nat}{x:Str}{ps:List Str}{sp:Sp}{f:Addr}{fd:FuncData} (G:ZX P w K mg base J2 k f fd ps sp) (m:mg x=some (.ref f)) (kp:PySem.W.keepIn K (.ref f)=true) (b:Binds K fd ps []):Yg P w K mg base k x ps sp:=⟨f,fd,G,m,kp,b⟩
theorem Zcp {P:Program}{w:World}{K:PySem.W.Frag}{mg:Str->Option Value}{base:Heap}{k:Nat}{C:Addr}{m:Str}{ps:List Str}{sp:Sp}{f:Addr}{fd:FuncData} (G:ZX P w K mg base J2 k f fd ps sp) (a:PySem.W.findIn K (.ref C) m=some (some (.ref f))) (fn:PySem.W.isFn K (.ref f)=true) (kp:PySem.W.keepIn K (.ref f)=true) (b:Binds K fd ps []):Zbv P w K mg base k C m ps sp:=⟨f,fd,G,⟨a,fn,kp⟩,b⟩
theorem Zah {P:Program}{w:World}{K:PySem.W.Frag}{mg:Str->Option Value}{base:Heap}{k:Nat}{x:Str}{ps:List Str}{sp:Sp}{f:Addr}{fd:FuncData} (G:ZX P w K mg base (CX1 P w) k f fd ps sp) (m:mg x=some (.ref f)) (kp:PySem.W.keepIn K (.ref f)=true) (b:Binds K fd ps []):Zat P w K mg base k x ps sp:=⟨f,fd,G,m,kp,b⟩
section
variable {P:Program}{w:World}{K:PySem.W.Frag}{mg:Str->Option Value}{base:Heap}
abbrev WA:Stmt:=top 2
theorem Zco:Zp ["drawing"] ["drawing"] (Zi WA):={}
theorem Ze5 {f:Addr}{fd:FuncData} (F:Yd K "crossings_of" "crossings_of" WA f fd) (Je:Yg P w K mg base 1 "letters_of" ["drawing", "kind"] Zai):ZX P w K mg base J2 2 f fd ["drawing"] (WH fun x=>decide (x = "cross")):=by
 refine F.ok Zco (fun vs H Q E h=>?_) (fun cdv A outer s H vs Q E hr h=>?_)
 ·obtain ⟨l,xs,ls,rfl,_⟩:=h
  rfl
 ·obtain ⟨l,xs,ls,rfl,hl,hL,hlen,_,k⟩:=h
  refine ⟨_,(Zh (Zs (Zm Je hr (Za (pv 0) (Za Z7 Zc))))),?_⟩
  exact ⟨_,rfl,l,_,xs,ls,rfl,hl,hL,hlen,k⟩
theorem us1 {α:Type}{P:List α -> Prop} (h:∀a,P [a]):∀us:List α,us.length=1->P us
 | [_],_=>h _
theorem us2 {α:Type}{P:List α -> Prop} (h:∀a b,P [a,b]):∀us:List α,us.length=2->P us
 | [_,_],_=>h _ _
theorem us3 {α:Type}{P:List α -> Prop} (h:∀a b c,P [a,b,c]):∀us:List α,us.length=3->P us
 | [_,_,_],_=>h _ _ _
theorem us4 {α:Type}{P:List α -> Prop} (h:∀a b c d,P [a,b,c,d]):∀us:List α,us.length=4->P us
 | [_,_,_,_],_=>h _ _ _ _
theorem all_mk {l:PySem.W.OpenLaw}{w:World}{K:PySem.W.Frag}{h:Heap}{mg:Str->Option Value}{fa:Addr} (X:K.In h) (G:h.Ns mainGlobals mg) (hfa:mg "law" = some (.ref fa))
  {f0 f1 f2 f3 f4 f5 f6 f7 f8 f9 f10 f11 f12 f13 f14 f15 f16 f17 f18 f19 f20 f21 f22 f23 f24 f25 f26 f27 f28 f29 f30 f31 f32 f33 f34 f35 f36 f37 f38 f39 f40 f41 f42 f43 f44 f45 f46 f47:Addr}{d0 d1 d2 d3 d4 d5 d6 d7 d8 d9 d10 d11 d12 d13 d14 d15 d16 d17 d18 d19 d20 d21 d22 d23 d24 d25 d26 d27 d28 d29 d30 d31 d32 d33 d34 d35 d36 d37 d38 d39 d40 d41 d42 d43 d44 d45 d46 d47:FuncData}
  {t_MOST_WORDS:Tok} (Gk:PySem.W.nsIn K mainGlobals "MOST_WORDS" = some (some (.int 200 t_MOST_WORDS)))
  {Zx:Addr} (Ud:PySem.W.nsIn K mainGlobals "NoHeights" = some (some (.ref Zx)))
  {ZH:Addr} (ZaR:PySem.W.nsIn K mainGlobals "TooMany" = some (some (.ref ZH)))
  {Zy:Addr} (ZaF:PySem.W.nsIn K mainGlobals "WordWay" = some (some (.ref Zy)))
  (Jr:PySem.W.excIn K ZH [.type "ValueError", .type "Exception", .type "BaseException", .type "object"] "ValueError.__new__" = true)
  (c_way:L2.Cls K Zy)
  (k_WordWay:L2.MkO K Zy)
  (GH:PySem.W.mroIn K ZH (.ref ZH)=some true)
  (YF:PySem.W.excIn K Zx [.type "ValueError", .type "Exception", .type "BaseException", .type "object"] "ValueError.__new__" = true)
  (J3:PySem.W.mroIn K Zx (.ref Zx)=some true)
  (a0:PySem.W.nsIn K mainGlobals "letters_of" = some (some (.ref f0))) (l0:Yd K "letters_of" "letters_of" Wt f0 d0)
  (a1:PySem.W.nsIn K mainGlobals "crossings_of" = some (some (.ref f1))) (l1:Yd K "crossings_of" "crossings_of" WA f1 d1)
  (a2:PySem.W.nsIn K mainGlobals "ends_of" = some (some (.ref f2))) (l2:Yd K "ends_of" "ends_of" ZbP f2 d2)
  (a3:PySem.W.nsIn K mainGlobals "names_of" = some (some (.ref f3))) (l3:Yd K "names_of" "names_of" GX f3 d3)
  (a4:PySem.W.nsIn K mainGlobals "put" = some (some (.ref f4))) (l4:Yd K "put" "put" Zln f4 d4)
  (a5:PySem.W.nsIn K mainGlobals "added" = some (some (.ref f5))) (l5:Yd K "added" "added" Zfp f5 d5)
  (a6:PySem.W.nsIn K mainGlobals "multiplied" = some (some (.ref f6))) (l6:Yd K "multiplied" "multiplied" Wq f6 d6)
  (a7:PySem.W.findIn K (.ref Zy) "nought" = some (some (.ref f7))) (l7:Yd K "nought" "WordWay.nought" JV f7 d7) (n7:PySem.W.isFn K (.ref f7)=true)
  (a8:PySem.W.findIn K (.ref Zy) "unit" = some (some (.ref f8))) (l8:Yd K "unit" "WordWay.unit" WR f8 d8) (n8:PySem.W.isFn K (.ref f8)=true)
  (a9:PySem.W.findIn K (.ref Zy) "plus" = some (some (.ref f9))) (l9:Yd K "plus" "WordWay.plus" WE f9 d9) (n9:PySem.W.isFn K (.ref f9)=true)
  (a10:PySem.W.findIn K (.ref Zy) "times" = some (some (.ref f10))) (l10:Yd K "times" "WordWay.times" Wb f10 d10) (n10:PySem.W.isFn K (.ref f10)=true)
  (a11:PySem.W.nsIn K mainGlobals "behind_birth" = some (some (.ref f11))) (l11:Yd K "behind_birth" "behind_birth" Y3 f11 d11)
  (a12:PySem.W.nsIn K mainGlobals "behind_crossing" = some (some (.ref f12))) (l12:Yd K "behind_crossing" "behind_crossing" YY f12 d12)
  (a13:PySem.W.nsIn K mainGlobals "behind_end" = some (some (.ref f13))) (l13:Yd K "behind_end" "behind_end" Y9 f13 d13)
  (a14:PySem.W.nsIn K mainGlobals "table_behind" = some (some (.ref f14))) (l14:Yd K "table_behind" "table_behind" WI f14 d14)
  (a15:PySem.W.nsIn K mainGlobals "check_words" = some (some (.ref f15))) (l15:Yd K "check_words" "check_words" Gr f15 d15)
  (a16:PySem.W.nsIn K mainGlobals "sum_tables" = some (some (.ref f16))) (l16:Yd K "sum_tables" "sum_tables" Uo f16 d16)
  (a17:PySem.W.nsIn K mainGlobals "between" = some (some (.ref f17))) (l17:Yd K "between" "between" Zag f17 d17)
  (a18:PySem.W.nsIn K mainGlobals "deeds" = some (some (.ref f18))) (l18:Yd K "deeds" "deeds" Zez f18 d18)
  (a19:PySem.W.nsIn K mainGlobals "threads" = some (some (.ref f19))) (l19:Yd K "threads" "threads" ZbB f19 d19)
  (a20:PySem.W.nsIn K mainGlobals "pairs_ahead" = some (some (.ref f20))) (l20:Yd K "pairs_ahead" "pairs_ahead" Gw f20 d20)
  (a21:PySem.W.nsIn K mainGlobals "end_pairs" = some (some (.ref f21))) (l21:Yd K "end_pairs" "end_pairs" UK f21 d21)
  (a22:PySem.W.nsIn K mainGlobals "born_with" = some (some (.ref f22))) (l22:Yd K "born_with" "born_with" US f22 d22)
  (a23:PySem.W.nsIn K mainGlobals "end_mates" = some (some (.ref f23))) (l23:Yd K "end_mates" "end_mates" UU f23 d23)
  (a24:PySem.W.nsIn K mainGlobals "tour_from" = some (some (.ref f24))) (l24:Yd K "tour_from" "tour_from" UO f24 d24)
  (a25:PySem.W.nsIn K mainGlobals "tours" = some (some (.ref f25))) (l25:Yd K "tours" "tours" ZeE f25 d25)
  (a26:PySem.W.nsIn K mainGlobals "pieces" = some (some (.ref f26))) (l26:Yd K "pieces" "pieces" Zda f26 d26)
  (a27:PySem.W.nsIn K mainGlobals "to_right" = some (some (.ref f27))) (l27:Yd K "to_right" "to_right" ZaD f27 d27)
  (a28:PySem.W.nsIn K mainGlobals "uppers_at_ends" = some (some (.ref f28))) (l28:Yd K "uppers_at_ends" "uppers_at_ends" JO f28 d28)
  (a29:PySem.W.nsIn K mainGlobals "steps_down" = some (some (.ref f29))) (l29:Yd K "steps_down" "steps_down" Up f29 d29)
  (a30:PySem.W.nsIn K mainGlobals "turns" = some (some (.ref f30))) (l30:Yd K "turns" "turns" Zcx f30 d30)
  (a31:PySem.W.nsIn K mainGlobals "twists" = some (some (.ref f31))) (l31:Yd K "twists" "twists" Zc8 f31 d31)
  (a32:PySem.W.nsIn K mainGlobals "heights_along" = some (some (.ref f32))) (l32:Yd K "heights_along" "heights_along" Wc f32 d32)
  (a33:PySem.W.nsIn K mainGlobals "has_scale" = some (some (.ref f33))) (l33:Yd K "has_scale" "has_scale" Zab f33 d33)
  (a34:PySem.W.nsIn K mainGlobals "thread_heights" = some (some (.ref f34))) (l34:Yd K "thread_heights" "thread_heights" JT f34 d34)
  (a35:PySem.W.nsIn K mainGlobals "name_heights" = some (some (.ref f35))) (l35:Yd K "name_heights" "name_heights" JD f35 d35)
  (a36:PySem.W.nsIn K mainGlobals "_law_bag" = some (some (.ref f36))) (l36:Yd K "_law_bag" "_law_bag" ZaU f36 d36)
  (a37:PySem.W.nsIn K mainGlobals "_law_take" = some (some (.ref f37))) (l37:Yd K "_law_take" "_law_take" U7 f37 d37)
  (a38:PySem.W.nsIn K mainGlobals "_law_drawing" = some (some (.ref f38))) (l38:Yd K "_law_drawing" "_law_drawing" WM f38 d38)
  (a39:PySem.W.nsIn K mainGlobals "_law_plat" = some (some (.ref f39))) (l39:Yd K "_law_plat" "_law_plat" J8 f39 d39)
  (a40:PySem.W.nsIn K mainGlobals "_law_any" = some (some (.ref f40))) (l40:Yd K "_law_any" "_law_any" ZaQ f40 d40)
  (a41:PySem.W.nsIn K mainGlobals "_law_curled" = some (some (.ref f41))) (l41:Yd K "_law_curled" "_law_curled" JX f41 d41)
  (a42:PySem.W.nsIn K mainGlobals "_law_some" = some (some (.ref f42))) (l42:Yd K "_law_some" "_law_some" UN f42 d42)
  (a43:PySem.W.nsIn K mainGlobals "_law_over" = some (some (.ref f43))) (l43:Yd K "_law_over" "_law_over" UE f43 d43)
  (a44:PySem.W.nsIn K mainGlobals "_law_back" = some (some (.ref f44))) (l44:Yd K "_law_back" "_law_back" Ge f44 d44)
  (a45:PySem.W.nsIn K mainGlobals "_law_kept" = some (some (.ref f45))) (l45:Yd K "_law_kept" "_law_kept" U2 f45 d45)
  (a46:PySem.W.nsIn K mainGlobals "_law_right" = some (some (.ref f46))) (l46:Yd K "_law_right" "_law_right" Jz f46 d46)
  (a47:PySem.W.nsIn K mainGlobals "law" = some (some (.ref f47))) (l47:Yd K "law" "law" Zd7 f47 d47)
  (ZjH:PySem.W.nsIn K mainGlobals "len" = some none)
  (Zft:PySem.W.nsIn K mainGlobals "range" = some none)
  (Zkt:PySem.W.nsIn K mainGlobals "abs" = some none)
  (Uc:PySem.W.nsIn K mainGlobals "isinstance" = some none)
  (Zj4:PySem.W.nsIn K mainGlobals "int" = some none)
  (ZgN:PySem.W.nsIn K mainGlobals "bool" = some none)
  (Zkm:PySem.W.nsIn K mainGlobals "all" = some none)
  (Zlg:PySem.W.nsIn K mainGlobals "any" = some none)
  (Zdc:PySem.W.nsIn K mainGlobals "sorted" = some none)
  (Zkb:PySem.W.nsIn K mainGlobals "max" = some none)
  (ZjO:PySem.W.nsIn K mainGlobals "min" = some none)
  (Zg8:PySem.W.nsIn K mainGlobals "list" = some none)
  (Zk5:PySem.W.nsIn K mainGlobals "zip" = some none)
  (UI:PySem.W.nsIn K mainGlobals "enumerate" = some none)
  (GV:PySem.W.nsIn K mainGlobals "ValueError" = some none)
  (Zhn:PySem.W.nsIn K mainGlobals "dict" = some none)
  (Zkf:PySem.W.nsIn K mainGlobals "sum" = some none)
  (Zkj:PySem.W.nsIn K mainGlobals "set" = some none):
  ∃fd:FuncData,(∀(s:Shared) (v:Value),BindsTo s fd ⟨[v],[]⟩ [("_law_script", v)]) /\ ∀base:Heap,K.In base->base.Ns mainGlobals mg->ZX l.prog w K mg base J2 12 fa fd ["_law_script"] (ZiK K):=by
 have e:=hfa.symm.trans (PySem.W.mg_of X G a47)
 cases e
 have ZJ:mg "len" = none:=PySem.W.mg_none_of X G ZjH
 have ZF:mg "range" = none:=PySem.W.mg_none_of X G Zft
 have ZcZ:mg "abs" = none:=PySem.W.mg_none_of X G Zkt
 have ZmJ:mg "isinstance" = none:=PySem.W.mg_none_of X G Uc
 have Zky:mg "int" = none:=PySem.W.mg_none_of X G Zj4
 have Zp4:mg "bool" = none:=PySem.W.mg_none_of X G ZgN
 have ZqD:mg "all" = none:=PySem.W.mg_none_of X G Zkm
 have ZqE:mg "any" = none:=PySem.W.mg_none_of X G Zlg
 have JC:mg "sorted" = none:=PySem.W.mg_none_of X G Zdc
 have Zeo:mg "max" = none:=PySem.W.mg_none_of X G Zkb
 have ZkW:mg "min" = none:=PySem.W.mg_none_of X G ZjO
 have GP:mg "list" = none:=PySem.W.mg_none_of X G Zg8
 have ZaY:mg "zip" = none:=PySem.W.mg_none_of X G Zk5
 have ZP:mg "enumerate" = none:=PySem.W.mg_none_of X G UI
 have Zmy:mg "ValueError" = none:=PySem.W.mg_none_of X G GV
 have Zp9:mg "dict" = none:=PySem.W.mg_none_of X G Zhn
 have ZjP:mg "sum" = none:=PySem.W.mg_none_of X G Zkf
 have Zqv:mg "set" = none:=PySem.W.mg_none_of X G Zkj
 have Ul:=PySem.W.mg_of X G Gk
 have Jq:mg "NoHeights" = some (.ref Zx):=PySem.W.mg_of X G Ud
 have Wz:mg "TooMany" = some (.ref ZH):=PySem.W.mg_of X G ZaR
 have ZbD:mg "WordWay" = some (.ref Zy):=PySem.W.mg_of X G ZaF
 have Zbt:=l0
 have ZeP:=Zbt.binds (ps:=["drawing", "kind"]) fun _ _ _ _ _ _=>us2 fun _ _=>rfl
 have UZ:=l1
 have Zc4:=UZ.binds (ps:=["drawing"]) fun _ _ _ _ _ _=>us1 fun _=>rfl
 have Zeh:=l2
 have ZiX:=Zeh.binds (ps:=["drawing"]) fun _ _ _ _ _ _=>us1 fun _=>rfl
 have ZdB:=l3
 have Zho:=ZdB.binds (ps:=["drawing"]) fun _ _ _ _ _ _=>us1 fun _=>rfl
 have Zm2:=l4
 have ZoH:=Zm2.binds (ps:=["odd", "words"]) fun _ _ _ _ _ _=>us2 fun _ _=>rfl
 have ZhO:=l5
 have Zmn:=ZhO.binds (ps:=["one", "other"]) fun _ _ _ _ _ _=>us2 fun _ _=>rfl
 have Za9:=l6
 have ZeK:=Za9.binds (ps:=["one", "other"]) fun _ _ _ _ _ _=>us2 fun _ _=>rfl
 have GG:=l7
 have ZbT:=GG.binds (ps:=["self"]) fun _ _ _ _ _ _=>us1 fun _=>rfl
 have UM:=l8
 have Zc9:=UM.binds (ps:=["self"]) fun _ _ _ _ _ _=>us1 fun _=>rfl
 have Uy:=l9
 have Zdg:=Uy.binds (ps:=["self", "one", "other"]) fun _ _ _ _ _ _=>us3 fun _ _ _=>rfl
 have Ur:=l10
 have Zcm:=Ur.binds (ps:=["self", "one", "other"]) fun _ _ _ _ _ _=>us3 fun _ _ _=>rfl
 have UD:=l11
 have ZcO:=UD.binds (ps:=["table", "k", "way"]) fun _ _ _ _ _ _=>us3 fun _ _ _=>rfl
 have Gg:=l12
 have Zbn:=Gg.binds (ps:=["table", "k", "name", "way"]) fun _ _ _ _ _ _=>us4 fun _ _ _ _=>rfl
 have Za4:=l13
 have Zff:=Za4.binds (ps:=["table", "k", "name", "way"]) fun _ _ _ _ _ _=>us4 fun _ _ _ _=>rfl
 have UQ:=l14
 have ZcP:=UQ.binds (ps:=["table", "letter", "name", "way"]) fun _ _ _ _ _ _=>us4 fun _ _ _ _=>rfl
 have ZaB:=l15
 have ZdP:=ZaB.binds (ps:=["table"]) fun _ _ _ _ _ _=>us1 fun _=>rfl
 have Zba:=l16
 have ZeZ:=Zba.binds (ps:=["drawing"]) fun _ _ _ _ _ _=>us1 fun _=>rfl
 have Zet:=l17
 have Zjj:=Zet.binds (ps:=["drawing"]) fun _ _ _ _ _ _=>us1 fun _=>rfl
 have Ziu:=l18
 have Zl6:=Ziu.binds (ps:=["drawing"]) fun _ _ _ _ _ _=>us1 fun _=>rfl
 have Zd4:=l19
 have ZiZ:=Zd4.binds (ps:=["drawing"]) fun _ _ _ _ _ _=>us1 fun _=>rfl
 have Zay:=l20
 have ZdY:=Zay.binds (ps:=["drawing", "numbers"]) fun _ _ _ _ _ _=>us2 fun _ _=>rfl
 have Zb5:=l21
 have ZgD:=Zb5.binds (ps:=["drawing"]) fun _ _ _ _ _ _=>us1 fun _=>rfl
 have ZbZ:=l22
 have ZfT:=ZbZ.binds (ps:=["thread"]) fun _ _ _ _ _ _=>us1 fun _=>rfl
 have Zb4:=l23
 have Zf6:=Zb4.binds (ps:=["drawing"]) fun _ _ _ _ _ _=>us1 fun _=>rfl
 have Zb1:=l24
 have Zgi:=Zb1.binds (ps:=["first", "mates"]) fun _ _ _ _ _ _=>us2 fun _ _=>rfl
 have ZiQ:=l25
 have Zmp:=ZiQ.binds (ps:=["drawing"]) fun _ _ _ _ _ _=>us1 fun _=>rfl
 have Zgs:=l26
 have Zkz:=Zgs.binds (ps:=["drawing"]) fun _ _ _ _ _ _=>us1 fun _=>rfl
 have Zds:=l27
 have ZgV:=Zds.binds (ps:=["drawing"]) fun _ _ _ _ _ _=>us1 fun _=>rfl
 have GJ:=l28
 have ZbC:=GJ.binds (ps:=["drawing"]) fun _ _ _ _ _ _=>us1 fun _=>rfl
 have Zbj:=l29
 have ZeV:=Zbj.binds (ps:=["tour", "uppers"]) fun _ _ _ _ _ _=>us2 fun _ _=>rfl
 have ZiB:=l30
 have Zmr:=ZiB.binds (ps:=["drawing"]) fun _ _ _ _ _ _=>us1 fun _=>rfl
 have Zge:=l31
 have ZjM:=Zge.binds (ps:=["drawing"]) fun _ _ _ _ _ _=>us1 fun _=>rfl
 have Us:=l32
 have Zch:=Us.binds (ps:=["tour", "uppers"]) fun _ _ _ _ _ _=>us2 fun _ _=>rfl
 have Zb0:=l33
 have Zgb:=Zb0.binds (ps:=["drawing", "scale"]) fun _ _ _ _ _ _=>us2 fun _ _=>rfl
 have GF:=l34
 have ZbK:=GF.binds (ps:=["drawing", "scale"]) fun _ _ _ _ _ _=>us2 fun _ _=>rfl
 have UW:=l35
 have Zdb:=UW.binds (ps:=["drawing", "scale"]) fun _ _ _ _ _ _=>us2 fun _ _=>rfl
 have Zdt:=l36
 have Zhg:=Zdt.binds (ps:=["_law_script", "_law_at"]) fun _ _ _ _ _ _=>us2 fun _ _=>rfl
 have Zca:=l37
 have ZfF:=Zca.binds (ps:=["_law_bag_here", "_law_many"]) fun _ _ _ _ _ _=>us2 fun _ _=>rfl
 have U3:=l38
 have Zdp:=U3.binds (ps:=["_law_bag_here", "_law_births", "_law_most"]) fun _ _ _ _ _ _=>us3 fun _ _ _=>rfl
 have Zcb:=l39
 have Zgt:=Zcb.binds (ps:=["_law_bag_here", "_law_most"]) fun _ _ _ _ _ _=>us2 fun _ _=>rfl
 have Zdw:=l40
 have Zg3:=Zdw.binds (ps:=["_law_bag_here", "_law_most"]) fun _ _ _ _ _ _=>us2 fun _ _=>rfl
 have ZaA:=l41
 have ZdS:=ZaA.binds (ps:=["_law_bag_here", "_law_most"]) fun _ _ _ _ _ _=>us2 fun _ _=>rfl
 have Zcc:=l42
 have Zf0:=Zcc.binds (ps:=["_law_bag_here", "_law_most"]) fun _ _ _ _ _ _=>us2 fun _ _=>rfl
 have Zb7:=l43
 have ZfJ:=Zb7.binds (ps:=["_law_drawing_here"]) fun _ _ _ _ _ _=>us1 fun _=>rfl
 have Zb2:=l44
 have ZfV:=Zb2.binds (ps:=["_law_one"]) fun _ _ _ _ _ _=>us1 fun _=>rfl
 have Zb6:=l45
 have Zf3:=Zb6.binds (ps:=["_law_drawing_here", "_law_other"]) fun _ _ _ _ _ _=>us2 fun _ _=>rfl
 have Zbr:=l46
 have Zfe:=Zbr.binds (ps:=["_law_drawing_here"]) fun _ _ _ _ _ _=>us1 fun _=>rfl
 have ZmX:=l47
 have ZqB:=ZmX.binds (ps:=["_law_script"]) fun _ _ _ _ _ _=>us1 fun _=>rfl
 obtain ⟨oc,od,kV,dc,pm,an,cd,ct,sl,rfl,_,_⟩:=l47.ex
 refine ⟨PySem.W.fnOf "law" "law" (ZaW Zd7) (Uh Zd7) (Zi Zd7) .none kV dc pm an cd ct,fun s v=>.of_eq rfl,fun base _ _=>?_⟩
 have Je:Yg l.prog w K mg base 1 "letters_of" ["drawing", "kind"] Zai:=ZK (ZgK Zbt ZP) (PySem.W.mg_of X G a0) l0.kp ZeP
 have WN:Yg l.prog w K mg base 2 "crossings_of" ["drawing"] (WH fun x=>decide (x = "cross")):=ZK (Ze5 UZ Je) (PySem.W.mg_of X G a1) l1.kp Zc4
 have ZV:Yg l.prog w K mg base 2 "ends_of" ["drawing"] (WH fun x=>decide (x = "end")):=ZK (Zmx Zeh Je) (PySem.W.mg_of X G a2) l2.kp ZiX
 have JQ:Yg l.prog w K mg base 1 "names_of" ["drawing"] (WH fun x=>!decide (x = "born")):=ZK (Zkd ZdB ZP) (PySem.W.mg_of X G a3) l3.kp Zho
 have ZcW:Yg l.prog w K mg base 1 "put" ["odd", "words"] Zh3:=ZK (Zon Zm2) (PySem.W.mg_of X G a4) l4.kp ZoH
 have Zaf:Yg l.prog w K mg base 2 "added" ["one", "other"] Zcz:=ZK (Zj9 ZhO ZcW JC) (PySem.W.mg_of X G a5) l5.kp Zmn
 have GS:Yg l.prog w K mg base 2 "multiplied" ["one", "other"] Zhe:=ZK (ZlQ Za9 ZcW JC) (PySem.W.mg_of X G a6) l6.kp ZeK
 have J4:Zbv l.prog w K mg base 1 Zy "nought" ["self"] (ZaV Zy):=Zcp (Zjh GG) a7 n7 l7.kp ZbT
 have ZhD:Zbv l.prog w K mg base 1 Zy "unit" ["self"] (Zhs Zy):=Zcp (Zmb UM) a8 n8 l8.kp Zc9
 have Ub:Zbv l.prog w K mg base 3 Zy "plus" ["self", "one", "other"] ZcG:=Zcp (Zj8 Uy Zaf) a9 n9 l9.kp Zdg
 have Wm:Zbv l.prog w K mg base 3 Zy "times" ["self", "one", "other"] Za3:=Zcp (Zjn Ur GS) a10 n10 l10.kp Zcm
 have WW:Yg l.prog w K mg base 2 "behind_birth" ["table", "k", "way"] (Ze3 Zy):=ZK (Zk1 UD c_way J4 ZhD ZF ZJ) (PySem.W.mg_of X G a11) l11.kp ZcO
 have JB:Yg l.prog w K mg base 4 "behind_crossing" ["table", "k", "name", "way"] (Ze2 Zy):=ZK (ZkY Gg c_way J4 Ub Wm ZF ZJ GP) (PySem.W.mg_of X G a12) l12.kp Zbn
 have GO:Yg l.prog w K mg base 4 "behind_end" ["table", "k", "name", "way"] (ZjC Zy):=ZK (ZnQ Za4 c_way Ub Wm ZF ZJ ZaY) (PySem.W.mg_of X G a13) l13.kp Zff
 have WD:Yg l.prog w K mg base 5 "table_behind" ["table", "letter", "name", "way"] (ZnY Zy):=ZK (Zpz UQ WW JB GO) (PySem.W.mg_of X G a14) l14.kp ZcP
 have Gx:Zat l.prog w K mg base 1 "check_words" ["table"] (Zn0 ZH):=Zah (Zo2 ZaB Wz Jr Ul ZJ) (PySem.W.mg_of X G a15) l15.kp ZdP
 have Y7:Zat l.prog w K mg base 6 "sum_tables" ["drawing"] (ZmD ZH Zy):=Zah (ZoS Zba ZbD k_WordWay WD Gx ZP) (PySem.W.mg_of X G a16) l16.kp ZeZ
 have Zac:Zat l.prog w K mg base 7 "between" ["drawing"] (Zla ZH):=Zah (Znv Zet Y7 GP) (PySem.W.mg_of X G a17) l17.kp Zjj
 have Zcq:Zat l.prog w K mg base 7 "deeds" ["drawing"] (Zfd ZH):=Zah (Zj6 Ziu Y7 JQ Zaf) (PySem.W.mg_of X G a18) l18.kp Zl6
 have ZbX:Yg l.prog w K mg base 1 "threads" ["drawing"] ZgM:=ZK (ZhM Zd4 GP) (PySem.W.mg_of X G a19) l19.kp ZiZ
 have Z9:Yg l.prog w K mg base 2 "pairs_ahead" ["drawing", "numbers"] Zbb:=ZK (ZkD Zay ZbX) (PySem.W.mg_of X G a20) l20.kp ZdY
 have Jt:Yg l.prog w K mg base 3 "end_pairs" ["drawing"] Zfb:=ZK (Zfs Zb5 Z9 ZV) (PySem.W.mg_of X G a21) l21.kp ZgD
 have YZ:Yg l.prog w K mg base 1 "born_with" ["thread"] ZlB:=ZK (Zpt ZbZ) (PySem.W.mg_of X G a22) l22.kp ZfT
 have UA:Yg l.prog w K mg base 4 "end_mates" ["drawing"] ZeB:=ZK (ZkT Zb4 Jt ZJ) (PySem.W.mg_of X G a23) l23.kp Zf6
 have UL:Yg l.prog w K mg base 2 "tour_from" ["first", "mates"] Zg5:=ZK (ZmL Zb1 YZ) (PySem.W.mg_of X G a24) l24.kp Zgi
 have Jn:Yg l.prog w K mg base 5 "tours" ["drawing"] Zan:=ZK (ZkA ZiQ UA UL ZJ ZF) (PySem.W.mg_of X G a25) l25.kp Zmp
 have Za2:Yg l.prog w K mg base 6 "pieces" ["drawing"] Zdr:=ZK (Zjw Zgs ZV Jn ZJ ZP) (PySem.W.mg_of X G a26) l26.kp Zkz
 have ZaH:Yg l.prog w K mg base 6 "to_right" ["drawing"] ZbQ:=ZK (ZfC Zds ZV Jn ZJ) (PySem.W.mg_of X G a27) l27.kp ZgV
 have Yi:Yg l.prog w K mg base 4 "uppers_at_ends" ["drawing"] ZaZ:=ZK (ZiW GJ ZV Jt ZJ) (PySem.W.mg_of X G a28) l28.kp ZbC
 have Jb:Yg l.prog w K mg base 2 "steps_down" ["tour", "uppers"] Zct:=ZK (ZkL Zbj YZ ZP) (PySem.W.mg_of X G a29) l29.kp ZeV
 have GZ:Yg l.prog w K mg base 6 "turns" ["drawing"] ZcM:=ZK (Zkp ZiB Yi Jb Jn ZcZ ZjP) (PySem.W.mg_of X G a30) l30.kp Zmr
 have Zbg:Yg l.prog w K mg base 7 "twists" ["drawing"] ZcS:=ZK (ZiY Zge ZV WN ZaH Z9 ZJ) (PySem.W.mg_of X G a31) l31.kp ZjM
 have Wf:Yg l.prog w K mg base 3 "heights_along" ["tour", "uppers"] ZnN:=ZK (Zpf Us Jb ZJ ZaY) (PySem.W.mg_of X G a32) l32.kp Zch
 have UH:Yg l.prog w K mg base 7 "has_scale" ["drawing", "scale"] ZnT:=ZK (ZoN Zb0 GZ) (PySem.W.mg_of X G a33) l33.kp Zgb
 have JN:Zat l.prog w K mg base 8 "thread_heights" ["drawing", "scale"] (Zok Zx):=Zah (Zo5 GF Jq YF UH ZV Jn Yi Wf ZJ) (PySem.W.mg_of X G a34) l34.kp ZbK
 have Y5:Zat l.prog w K mg base 9 "name_heights" ["drawing", "scale"] (Zng Zx):=Zah (ZoQ UW JN Z9 JQ) (PySem.W.mg_of X G a35) l35.kp Zdb
 have ZaI:Yg l.prog w K mg base 1 "_law_bag" ["_law_script", "_law_at"] (Zk8 K):=ZK (Zof Zdt ZJ ZcZ) (PySem.W.mg_of X G a36) l36.kp Zhg
 have Zr:Yg l.prog w K mg base 1 "_law_take" ["_law_bag_here", "_law_many"] ZaO:=ZK (Zmu Zca) (PySem.W.mg_of X G a37) l37.kp ZfF
 have WC:Yg l.prog w K mg base 2 "_law_drawing" ["_law_bag_here", "_law_births", "_law_most"] (Zg1 0):=ZK (ZlF U3 Zr ZF) (PySem.W.mg_of X G a38) l38.kp Zdp
 have U5:Yg l.prog w K mg base 2 "_law_plat" ["_law_bag_here", "_law_most"] Zef:=ZK (Zmz Zcb Zr ZF) (PySem.W.mg_of X G a39) l39.kp Zgt
 have ZaP:Yg l.prog w K mg base 3 "_law_any" ["_law_bag_here", "_law_most"] Zef:=ZK (Znq Zdw Zr U5 WC) (PySem.W.mg_of X G a40) l40.kp Zg3
 have Gs:Yg l.prog w K mg base 2 "_law_curled" ["_law_bag_here", "_law_most"] Zhc:=ZK (Zi5 ZaA Zr ZF ZJ Zeo) (PySem.W.mg_of X G a41) l41.kp ZdS
 have W7:Yg l.prog w K mg base 4 "_law_some" ["_law_bag_here", "_law_most"] ZhH:=ZK (Zmo Zcc Zr ZaP Gs) (PySem.W.mg_of X G a42) l42.kp Zf0
 have UG:Yg l.prog w K mg base 1 "_law_over" ["_law_drawing_here"] ZhI:=ZK (Zl7 Zb7 Zky) (PySem.W.mg_of X G a43) l43.kp ZfJ
 have W5:Yg l.prog w K mg base 1 "_law_back" ["_law_one"] Zg9:=ZK (Zmk Zb2 JC) (PySem.W.mg_of X G a44) l44.kp ZfV
 have Uz:Yg l.prog w K mg base 10 "_law_kept" ["_law_drawing_here", "_law_other"] Zg4:=ZK (Zml Zb6 Jq YF J3 Za2 GZ Zbg Y5) (PySem.W.mg_of X G a45) l45.kp Zf3
 have Wn:Yg l.prog w K mg base 11 "_law_right" ["_law_drawing_here"] Ze4:=ZK (Zj0 Zbr Wz Jr GH UG Uz W5 Zcq Zac ZF ZJ ZaY) (PySem.W.mg_of X G a46) l46.kp Zfe
 exact Zn8 ZmX ZaI W7 Wn ZF ZJ Zeo ZkW
theorem walk {l:PySem.W.OpenLaw}{q:Program}{loose:List Str}{XP:(Str->Option Value)->Heap->Prop}{YP:World->Heap->Prop}{d:DefRec}{K:Params->PySem.W.Frag} (hn:l.most=some 63) (hdf:d.params.defaults = [])
  (hY:∀(w:World) (h:Heap),YP w h->(K w.params).In h)
  (F:∀(w:World) (mg:Str->Option Value) (fa:Addr) (h:Heap),(K w.params).In h->h.Ns mainGlobals mg->mg d.name=some (.ref fa) ->
   ∃fd:FuncData,(∀(s:Shared) (u:Value),BindsTo s fd ⟨[u],[]⟩ [("_law_script", u)]) /\ ∀base:Heap,(K w.params).In base->base.Ns mainGlobals mg->ZX l.prog w (K w.params) mg base J2 12 fa fd ["_law_script"] (ZiK (K w.params))):
  PySem.W.WalkO q loose XP YP l.row.toRowW d [] (fun f vs=>PySem.call f vs):=
 L2.ZlS (n:=63) (k:=12) (x := "_law_script") (CX:=fun _=>J2) (sp:=fun w=>ZiK (K w.params)) hn (by decide) hdf ⟨rfl,by decide,by decide⟩ hY F (fun _ _ a ns hl _ hS=>⟨a,ns,rfl,hS,hl,fun _=>rfl⟩) fun _ _ _ _ _ z=>z
end
end Qk18
namespace PySem.W.Fast
def tw9935205180525984800:=0
def tw1149645384927167520:=0
def tw16850787697994093664:=0
def tw4555770410184868000:=0
def tw16306895174004125056:=0
def tw3820554699671079328:=0
def tw15813026795642939936:=0
def tw16171172507433455136:=0
def tw9868572543623019136:=0
def tw8500047845608763040:=0
def tw12093239233203812160:=0
def tw17091886406667222976:=0
def tw13366370986128515073:=0
def tw14569374320812426433:=0
def tw12590854230953433281:=0
def tw17873186953766153441:=0
def tw17064458462830420193:=0
def tw10815639578016154913:=0
def tw7570653892197669185:=0
def tw11194666789796257121:=0
def tw11885001344242528609:=0
def tw8707788926345976225:=0
def tw1553023400314627489:=0
def tw8536988468497568225:=0
def tw7397270942763033089:=0
def tw4723409296145018369:=0
def tw3088582640408103553:=0
def tw9229205401880815457:=0
def tw17264857057968011137:=0
def tw4166001658252138369:=0
def tw896795557935062977:=0
def tw13814234769185031137:=0
def tw1462825935645455362:=0
def tw13668307151977549858:=0
def tw15463527004298003618:=0
def tw15575856614861930754:=0
def tw9470744937246096706:=0
def tw811992974335423874:=0
def tw909973709112374722:=0
def tw14873052633913487906:=0
def tw10342779108556637762:=0
def tw9415985934565390946:=0
def tw5398559722103058178:=0
def tw16268827755883777890:=0
def tw460449265924633474:=0
def tw3306967948456692642:=0
def tw16157323998219084770:=0
def tw14872001626315044931:=0
def tw12533630157046929507:=0
def tw4335890653176162403:=0
def tw2296853835450315875:=0
def tw11836330602296562115:=0
def tw11635103199816263107:=0
def tw9551964162205500995:=0
def tw9687074424603145955:=0
def tw14858303458367339748:=0
def tw14688587576114966852:=0
def tw18404114442275377476:=0
def tw7153954278854585732:=0
def tw18229857931675892132:=0
def tw17702482766072912388:=0
def tw3657933460332392164:=0
def tw4117133624704906052:=0
def tw13237505385431140196:=0
def tw11477882181948846948:=0
def tw5800696034704740292:=0
def tw9770189974869751013:=0
def tw6279500376898654533:=0
def tw2064808761913548197:=0
def tw230586033659629157:=0
def tw1774537733312277253:=0
def tw7151606930845207686:=0
def tw12729244362280873126:=0
def tw17131822608191293670:=0
def tw9590086506279074086:=0
def tw15476573804793811270:=0
def tw15001834891389657414:=0
def tw2967003245355318662:=0
def tw1886878394370778502:=0
def tw2824821376159379046:=0
def tw5617591285743032102:=0
def tw8557938719573663654:=0
def tw8505429830362184743:=0
def tw3202136327780900935:=0
def tw6457896577862186343:=0
def tw10753166990465381799:=0
def tw14724693566233783751:=0
def tw9071038242327067111:=0
def tw9007609996931863079:=0
def tw2289244247030235815:=0
def tw4658023320612157127:=0
def tw10278085076876886759:=0
def tw12620709772499797799:=0
def tw780482481491171143:=0
def tw5065734327651423079:=0
def tw10374684146310807463:=0
def tw3724565330346932424:=0
def tw5881447928367394280:=0
def tw14407454233070937608:=0
def tw6249316322776585768:=0
def tw13928185266693212712:=0
def tw10456420927340821064:=0
def tw17810316097955728008:=0
def tw273633741437520552:=0
def tw16038632806129873640:=0
def tw14371020722112031528:=0
def tw6875764711758058537:=0
def tw6124568268078405705:=0
def tw15558278022242593897:=0
def tw1082519175251681513:=0
def tw17013777210132092297:=0
def tw13444814677790518761:=0
def tw9712395059185077833:=0
def tw15494585800494878281:=0
def tw13287914973775619817:=0
def tw11718477897260060425:=0
def tw7963000966073536361:=0
def tw7357553597867159433:=0
def tw3465015368438546377:=0
def tw13691143423240335402:=0
def tw17888649293658811498:=0
def tw12279724851387535626:=0
def tw17382410743081229738:=0
def tw15267833278548833706:=0
def tw14502910250674347466:=0
def tw13218357761489298026:=0
def tw11286389862888929994:=0
def tw13457550422699852682:=0
def tw4875234254439717931:=0
def tw14103602127116590315:=0
def tw16164151194526355691:=0
def tw5913375523079753547:=0
def tw8178026563319487371:=0
def tw458392205240995852:=0
def tw14872644542559973516:=0
def tw17497895024585973996:=0
def tw10051915357108330764:=0
def tw1959783745421774124:=0
def tw5058812060654399788:=0
def tw1272124938370068812:=0
def tw15970112317559231948:=0
def tw8627345921253176940:=0
def tw17073102446263308940:=0
def tw13729958533343070924:=0
def tw11148949439548815180:=0
def tw17198417335131575180:=0
def tw15254123477916663724:=0
def tw1841156980328632268:=0
def tw10496133165603661804:=0
def tw8524926817265683501:=0
def tw13205943946405439533:=0
def tw4716136988118134893:=0
def tw8177560544584029389:=0
def tw17478948744964220141:=0
def tw5436762123042259213:=0
def tw12866160765238495565:=0
def tw4974799198467781965:=0
def tw479206618427193677:=0
def tw6345545181666605517:=0
def tw16632423496211479021:=0
def tw6516780086216007213:=0
def tw5392385201254017581:=0
def tw3842925534636640973:=0
def tw5698188049344222925:=0
def tw15473818504887956173:=0
def tw6461306563834354573:=0
def tw9346616722230350733:=0
def tw7024578994446315501:=0
def tw3714349379665727502:=0
def tw16052462170540976430:=0
def tw4843066430487485870:=0
def tw12463301300617483790:=0
def tw18113934595506597550:=0
def tw4001350461030073070:=0
def tw17663086914739376046:=0
def tw11847058929661300654:=0
def tw14747030196761926927:=0
def tw14737807692880917839:=0
def tw227970586589363791:=0
def tw8321958826278662767:=0
def tw3672100284018395087:=0
def tw1864295024516619247:=0
def tw12238403698554585104:=0
def tw16516990426549584976:=0
def tw11524864037962786928:=0
def tw17187983954127782064:=0
def tw15800165171924907280:=0
def tw14946675526281195984:=0
def tw12285692915148743184:=0
def tw10596441104167426672:=0
def tw11121329228994599568:=0
def tw11529674215930046160:=0
def tw6076372640631158512:=0
def tw4201142481623106320:=0
def tw11283113373746869072:=0
def tw14958304181783985008:=0
def tw16109504763281947953:=0
def tw12486880033854101809:=0
def tw5224029287780767057:=0
def tw5970031627315851665:=0
def tw12175147615658322481:=0
def tw3830433317898082961:=0
def tw2833219021502225137:=0
def tw2950765866657647441:=0
def tw2850958081551260657:=0
def tw13058480134181497906:=0
def tw370818138281436242:=0
def tw11954322627203006770:=0
def tw4651448219707060626:=0
def tw11081318880903128850:=0
def tw1446351516891334546:=0
def tw2978359942055197779:=0
def tw8801856681445052691:=0
def tw8177787403431690547:=0
def tw2587518125129221427:=0
def tw6751476316415060339:=0
def tw6124468789917491699:=0
def tw10747645202181988179:=0
def tw3560072471326006131:=0
def tw17551941341675011027:=0
def tw11277671457095197683:=0
def tw16035241948155782164:=0
def tw5558753686919008468:=0
def tw14165773273797371348:=0
def tw11538413390645712404:=0
def tw9620182467111223924:=0
def tw9345552705247581844:=0
def tw5075853618537739124:=0
def tw16862244190788582260:=0
def tw11045861396569351317:=0
def tw2307537219315200181:=0
def tw2722291294507256021:=0
def tw15580871525173056789:=0
def tw2837275205294778965:=0
def tw1432415883532059221:=0
def tw15999940532656380565:=0
def tw13413988848699173525:=0
def tw11159863615181305525:=0
def tw12917165525561152662:=0
def tw16446551687348440246:=0
def tw5465420099454802486:=0
def tw14576520349160262358:=0
def tw8830476844543295286:=0
def tw13534257507261194166:=0
def tw2461939436578222167:=0
def tw9469999078505554071:=0
def tw76044977493922007:=0
def tw997545407348149655:=0
def tw17138978336544167415:=0
def tw8702527962958220855:=0
def tw17388809564896430775:=0
def tw7169820919475351351:=0
def tw15922286970156336983:=0
def tw3313495216201206615:=0
def tw12923534313230879671:=0
def tw7369987951208276983:=0
def tw14738195584813387800:=0
def tw3360194496809396312:=0
def tw5189331974701031608:=0
def tw17787793726441829592:=0
def tw17735143142145274104:=0
def tw605459067943653656:=0
def tw17423029074447576408:=0
def tw893423515850403192:=0
def tw12515333203266910584:=0
def tw9896884697755777560:=0
def tw3328123653173791320:=0
def tw5341721659411027544:=0
def tw1972209817112278648:=0
def tw4555093744585968312:=0
def tw14537514588906041176:=0
def tw7464388907928615896:=0
def tw12106272388785504377:=0
def tw14225831747745098969:=0
def tw9369241879031451929:=0
def tw6036075107203566873:=0
def tw11577355601589879097:=0
def tw15714220553839166873:=0
def tw2122259201898594841:=0
def tw6296148820911123065:=0
def tw6116056156603103865:=0
def tw6676922648937005721:=0
def tw4489572823929368313:=0
def tw15965308063156633337:=0
def tw8727556629387247545:=0
def tw12714461600722901114:=0
def tw16546445376191664314:=0
def tw3604396508754983194:=0
def tw1198351922065258938:=0
def tw17991329061623073210:=0
def tw1902813621428531802:=0
def tw13316455036476232314:=0
def tw15709522385399660186:=0
def tw3533227306484221658:=0
def tw1452470016789186554:=0
def tw8997394013319539739:=0
def tw7917427189400783003:=0
def tw8078195382513622235:=0
def tw17322727626656983387:=0
def tw2347523329421463931:=0
def tw9428670436331117019:=0
def tw10559868087459446555:=0
def tw15392489504692235131:=0
def tw10281589839611714427:=0
def tw14624744593364681980:=0
def tw14815182642389928220:=0
def tw17431509491044240668:=0
def tw17146107597694368028:=0
def tw11637993948262607196:=0
def tw5454665145185714556:=0
def tw274672844624889244:=0
def tw10116357947119280860:=0
def tw9859809603735283484:=0
def tw9828324934794707772:=0
def tw11140729927166399549:=0
def tw9929031729852809533:=0
def tw7337550701834119485:=0
def tw11214922165064237469:=0
def tw15048737270622728637:=0
def tw11462101926949786654:=0
def tw11072130185521309854:=0
def tw5283233152685005022:=0
def tw6429258327318010174:=0
def tw3161549106288574910:=0
def tw301618007119619582:=0
def tw16755987925546401310:=0
def tw12051247791905358494:=0
def tw463177295546259166:=0
def tw5624450734675793694:=0
def tw12506161505560311742:=0
def tw13922441088906099775:=0
def tw4403374353084179679:=0
def tw10281557570893095167:=0
def tw17313904998997614015:=0
def tw12474325599895793087:=0
def tw18295438672364956127:=0
def tw651754297169043007:=0
def tw12987971632309731071:=0
def tw2409446228656036607:=0
def tw12619139383252909919:=0
def tw2430038492986637247:=0
def tw14322830499345603928:=0
end PySem.W.Fast
open PySem PySem.W PyProof.Rows
set_option maxRecDepth 100000 in
set_option maxHeartbeats 0 in
theorem PySem.Challenge.cw_bendfronts_k18_upside_down_holds : PySem.Challenge.rw_bendfronts_k18_upside_down.Holds := by
 w_on; o_law; k_head; (case hw => w_witness2)
 k_fill
 refine Qk18.walk (l := PySem.Challenge.rw_bendfronts_k18_upside_down) rfl rfl (fun w h Y => PySem.W.kIn_of Y) ?F
 case F =>
  intro w mg fa h KX G hmg
  refine' Qk18.all_mk KX G hmg ?Gk ?Ud ?ZaR ?ZaF ?Jr ?c_way ?k_WordWay ?GH ?YF ?J3 ?a0 ?l0 ?a1 ?l1 ?a2 ?l2 ?a3 ?l3 ?a4 ?l4 ?a5 ?l5 ?a6 ?l6 ?a7 ?l7 ?n7 ?a8 ?l8 ?n8 ?a9 ?l9 ?n9 ?a10 ?l10 ?n10 ?a11 ?l11 ?a12 ?l12 ?a13 ?l13 ?a14 ?l14 ?a15 ?l15 ?a16 ?l16 ?a17 ?l17 ?a18 ?l18 ?a19 ?l19 ?a20 ?l20 ?a21 ?l21 ?a22 ?l22 ?a23 ?l23 ?a24 ?l24 ?a25 ?l25 ?a26 ?l26 ?a27 ?l27 ?a28 ?l28 ?a29 ?l29 ?a30 ?l30 ?a31 ?l31 ?a32 ?l32 ?a33 ?l33 ?a34 ?l34 ?a35 ?l35 ?a36 ?l36 ?a37 ?l37 ?a38 ?l38 ?a39 ?l39 ?a40 ?l40 ?a41 ?l41 ?a42 ?l42 ?a43 ?l43 ?a44 ?l44 ?a45 ?l45 ?a46 ?l46 ?a47 ?l47 ?ZjH ?Zft ?Zkt ?Uc ?Zj4 ?ZgN ?Zkm ?Zlg ?Zdc ?Zkb ?ZjO ?Zg8 ?Zk5 ?UI ?GV ?Zhn ?Zkf ?Zkj
  (case Gk => first | k_is | rfl)
  (case Ud => k_is)
  (case ZaR => k_is)
  (case ZaF => k_is)
  (case Jr => k_exc)
  (case c_way => exact ⟨by first | k_is | rfl | decide +kernel, by first | k_is | rfl | decide +kernel, by first | k_is | rfl | decide +kernel, by first | k_is | rfl | decide +kernel⟩)
  (case k_WordWay => exact ⟨by first | k_is | rfl | decide +kernel, by first | k_is | rfl | decide +kernel, by first | k_is | rfl | decide +kernel⟩)
  (case GH => first | k_is | rfl | decide +kernel)
  (case YF => k_exc)
  (case J3 => first | k_is | rfl | decide +kernel)
  (case a0 => k_is)
  (case l0 => exact L2.Zz (by k_is) (by k_is) (by k_is))
  (case a1 => k_is)
  (case l1 => exact L2.Zz (by k_is) (by k_is) (by k_is))
  (case a2 => k_is)
  (case l2 => exact L2.Zz (by k_is) (by k_is) (by k_is))
  (case a3 => k_is)
  (case l3 => exact L2.Zz (by k_is) (by k_is) (by k_is))
  (case a4 => k_is)
  (case l4 => exact L2.Zz (by k_is) (by k_is) (by k_is))
  (case a5 => k_is)
  (case l5 => exact L2.Zz (by k_is) (by k_is) (by k_is))
  (case a6 => k_is)
  (case l6 => exact L2.Zz (by k_is) (by k_is) (by k_is))
  (case a7 => first | k_is | rfl | decide +kernel)
  (case l7 => exact L2.Zz (by k_is) (by k_is) (by k_is))
  (case n7 => first | k_is | rfl | decide +kernel)
  (case a8 => first | k_is | rfl | decide +kernel)
  (case l8 => exact L2.Zz (by k_is) (by k_is) (by k_is))
  (case n8 => first | k_is | rfl | decide +kernel)
  (case a9 => first | k_is | rfl | decide +kernel)
  (case l9 => exact L2.Zz (by k_is) (by k_is) (by k_is))
  (case n9 => first | k_is | rfl | decide +kernel)
  (case a10 => first | k_is | rfl | decide +kernel)
  (case l10 => exact L2.Zz (by k_is) (by k_is) (by k_is))
  (case n10 => first | k_is | rfl | decide +kernel)
  (case a11 => k_is)
  (case l11 => exact L2.Zz (by k_is) (by k_is) (by k_is))
  (case a12 => k_is)
  (case l12 => exact L2.Zz (by k_is) (by k_is) (by k_is))
  (case a13 => k_is)
  (case l13 => exact L2.Zz (by k_is) (by k_is) (by k_is))
  (case a14 => k_is)
  (case l14 => exact L2.Zz (by k_is) (by k_is) (by k_is))
  (case a15 => k_is)
  (case l15 => exact L2.Zz (by k_is) (by k_is) (by k_is))
  (case a16 => k_is)
  (case l16 => exact L2.Zz (by k_is) (by k_is) (by k_is))
  (case a17 => k_is)
  (case l17 => exact L2.Zz (by k_is) (by k_is) (by k_is))
  (case a18 => k_is)
  (case l18 => exact L2.Zz (by k_is) (by k_is) (by k_is))
  (case a19 => k_is)
  (case l19 => exact L2.Zz (by k_is) (by k_is) (by k_is))
  (case a20 => k_is)
  (case l20 => exact L2.Zz (by k_is) (by k_is) (by k_is))
  (case a21 => k_is)
  (case l21 => exact L2.Zz (by k_is) (by k_is) (by k_is))
  (case a22 => k_is)
  (case l22 => exact L2.Zz (by k_is) (by k_is) (by k_is))
  (case a23 => k_is)
  (case l23 => exact L2.Zz (by k_is) (by k_is) (by k_is))
  (case a24 => k_is)
  (case l24 => exact L2.Zz (by k_is) (by k_is) (by k_is))
  (case a25 => k_is)
  (case l25 => exact L2.Zz (by k_is) (by k_is) (by k_is))
  (case a26 => k_is)
  (case l26 => exact L2.Zz (by k_is) (by k_is) (by k_is))
  (case a27 => k_is)
  (case l27 => exact L2.Zz (by k_is) (by k_is) (by k_is))
  (case a28 => k_is)
  (case l28 => exact L2.Zz (by k_is) (by k_is) (by k_is))
  (case a29 => k_is)
  (case l29 => exact L2.Zz (by k_is) (by k_is) (by k_is))
  (case a30 => k_is)
  (case l30 => exact L2.Zz (by k_is) (by k_is) (by k_is))
  (case a31 => k_is)
  (case l31 => exact L2.Zz (by k_is) (by k_is) (by k_is))
  (case a32 => k_is)
  (case l32 => exact L2.Zz (by k_is) (by k_is) (by k_is))
  (case a33 => k_is)
  (case l33 => exact L2.Zz (by k_is) (by k_is) (by k_is))
  (case a34 => k_is)
  (case l34 => exact L2.Zz (by k_is) (by k_is) (by k_is))
  (case a35 => k_is)
  (case l35 => exact L2.Zz (by k_is) (by k_is) (by k_is))
  (case a36 => k_is)
  (case l36 => exact L2.Zz (by k_is) (by k_is) (by k_is))
  (case a37 => k_is)
  (case l37 => exact L2.Zz (by k_is) (by k_is) (by k_is))
  (case a38 => k_is)
  (case l38 => exact L2.Zz (by k_is) (by k_is) (by k_is))
  (case a39 => k_is)
  (case l39 => exact L2.Zz (by k_is) (by k_is) (by k_is))
  (case a40 => k_is)
  (case l40 => exact L2.Zz (by k_is) (by k_is) (by k_is))
  (case a41 => k_is)
  (case l41 => exact L2.Zz (by k_is) (by k_is) (by k_is))
  (case a42 => k_is)
  (case l42 => exact L2.Zz (by k_is) (by k_is) (by k_is))
  (case a43 => k_is)
  (case l43 => exact L2.Zz (by k_is) (by k_is) (by k_is))
  (case a44 => k_is)
  (case l44 => exact L2.Zz (by k_is) (by k_is) (by k_is))
  (case a45 => k_is)
  (case l45 => exact L2.Zz (by k_is) (by k_is) (by k_is))
  (case a46 => k_is)
  (case l46 => exact L2.Zz (by k_is) (by k_is) (by k_is))
  (case a47 => k_is)
  (case l47 => exact L2.Zz (by k_is) (by k_is) (by k_is))
  (case ZjH => k_is)
  (case Zft => k_is)
  (case Zkt => k_is)
  (case Uc => k_is)
  (case Zj4 => k_is)
  (case ZgN => k_is)
  (case Zkm => k_is)
  (case Zlg => k_is)
  (case Zdc => k_is)
  (case Zkb => k_is)
  (case ZjO => k_is)
  (case Zg8 => k_is)
  (case Zk5 => k_is)
  (case UI => k_is)
  (case GV => k_is)
  (case Zhn => k_is)
  (case Zkf => k_is)
  (case Zkj => k_is)

import PyProof.Rows.All
import Wide.All
import OpenK.AllK
import Wide.FinOn
import Lean
import PyProof.EqAt
import PyProof.EqKinds
import PyProof.TupleCall
import PyProof.AttrMissHeap
import PyProof.FactsAll.zip_1
import KE.KDictOf
import PyProof.Draws
import KE.KRevIter
import PyProof.FactsAll.range
import PyProof.Rows.RuleM_int
import KE.BitLaws
import PyProof.DictItems
import PySem.Challenge.RW_bendfronts_k40_loose_crossings
set_option Elab.async false
set_option linter.all false
set_option maxRecDepth 100000
namespace L2
open PySem PySem.Spec PyProof.Rows
abbrev Key:=Sum Int Str
def Zfg:Key->Value->Bool
 | .inl k,v=>Value.isInt k v
 | .inr x,v=>Value.isStrOf x v
def ZpI (w:World):Key->Int
 | .inl k=>hashInt k
 | .inr x=>hashStr w x
theorem YB:∀{k:Key}{v:Value},Zfg k v=true->(∃i t,k=Sum.inl i/\v=Value.int i t)∨(∃x t,k=Sum.inr x/\v=Value.str x t)
 | .inl i,v,h=>by
  obtain ⟨t,e⟩:=Value.isInt_shape (k:=i) (v:=v) h
  exact .inl ⟨i,t,rfl,e⟩
 | .inr x,v,h=>by
  obtain ⟨t,e⟩:=Value.isStrOf_shape (x:=x) (v:=v) h
  exact .inr ⟨x,t,rfl,e⟩
theorem Zjw (i:Int) (t:Tok):Zfg (.inl i) (.int i t)=true:=by simp [Zfg,Value.isInt]
theorem Zjs (x:Str) (t:Tok):Zfg (.inr x) (.str x t)=true:=by simp [Zfg,Value.isStrOf]
theorem Znv (a b:Int):decide ((Sum.inl a:Key)=Sum.inl b)=(a==b):=by
 by_cases e:a=b
 ·subst e;simp
 ·have h:¬(Sum.inl a:Key)=Sum.inl b:=fun q=>e (Sum.inl.inj q)
  rw [decide_eq_false h]
  exact (beq_eq_false_iff_ne.mpr e).symm
theorem ZnV (a b:Str):decide ((Sum.inr a:Key)=Sum.inr b)=decide (a=b):=by
 by_cases e:a=b
 ·subst e;simp
 ·have h:¬(Sum.inr a:Key)=Sum.inr b:=fun q=>e (Sum.inr.inj q)
  rw [decide_eq_false h,decide_eq_false e]
theorem ZnQ (a:Int) (b:Str):decide ((Sum.inl a:Key)=Sum.inr b)=false:=decide_eq_false (fun q=>nomatch q)
theorem ZnK (a:Str) (b:Int):decide ((Sum.inr a:Key)=Sum.inl b)=false:=decide_eq_false (fun q=>nomatch q)
def Z7 (prog:Program) (w:World):PySem.KeyKind prog w Key where
 is:=Zfg
 hash:=ZpI w
 inj:=fun v a b ha hb=>by
  rcases YB ha with ⟨i,t,rfl,rfl⟩ | ⟨x,t,rfl,rfl⟩
  ·rcases YB hb with ⟨j,u,rfl,e⟩ | ⟨y,u,rfl,e⟩
   ·injection e with e1 _;rw [e1]
   ·exact nomatch e
  ·rcases YB hb with ⟨j,u,rfl,e⟩ | ⟨y,u,rfl,e⟩
   ·exact nomatch e
   ·injection e with e1 _;rw [e1]
 byValue:=fun k v h=>by
  rcases YB h with ⟨i,t,rfl,rfl⟩ | ⟨x,t,rfl,rfl⟩<;>rfl
 pyHash:=fun hv h=>by
  rcases YB hv with ⟨i,t,rfl,rfl⟩ | ⟨x,t,rfl,rfl⟩
  ·exact wpAny_pyHash_int h
  ·exact wpAny_pyHash_str h
 eqBool:=fun hu hv h=>by
  rcases YB hu with ⟨i,t,rfl,rfl⟩ | ⟨x,t,rfl,rfl⟩
  ·rcases YB hv with ⟨j,u,rfl,rfl⟩ | ⟨y,u,rfl,rfl⟩
   ·rw [Znv] at h;exact wpAny_eqBool_int h
   ·rw [ZnQ] at h;exact SeqAt.EqAt.int_str i t y u _ _ _ _ h
  ·rcases YB hv with ⟨j,u,rfl,rfl⟩ | ⟨y,u,rfl,rfl⟩
   ·rw [ZnK] at h;exact SeqAt.EqAt.str_int x t j u _ _ _ _ h
   ·rw [ZnV] at h;exact wpAny_eqBool_str h
 «strs»:=fun k x t v h=>by
  rcases YB h with ⟨i,u,rfl,e⟩ | ⟨y,u,rfl,e⟩
  ·exact nomatch e
  ·injection e with e1 _
   subst e1
   cases v<;>rfl
theorem Zhb (prog:Program) (w:World) (i:Int) (t:Tok):(Z7 prog w).is (.inl i) (.int i t)=true:=Zjw i t
theorem ZgL (prog:Program) (w:World) (x:Str) (t:Tok):(Z7 prog w).is (.inr x) (.str x t)=true:=Zjs x t
inductive V where
 | non | bl (b:Bool) | int (i:Int) | str (x:Str) | byt (b:Array UInt8) | flt (b:UInt64) | ref (a:Addr) | ty (n:String)
 deriving DecidableEq
def RelV:V->Value->Prop
 | .non,u=>u=Value.none
 | .bl b,u=>u=Value.bool b
 | .int i,u=>∃t,u=Value.int i t
 | .str x,u=>∃t,u=Value.str x t
 | .byt b,u=>∃t,u=Value.bytes b t
 | .flt b,u=>∃t,u=Value.float b t
 | .ref a,u=>u=Value.ref a
 | .ty n,u=>u=Value.type n
abbrev Vals:List V->List Value->Prop:=Paired RelV
theorem Vals.length {xs:List V}{us:List Value} (r:Vals xs us):xs.length=us.length:=Paired.length r
theorem Vals.get:∀{xs:List V}{us:List Value}{i:Nat}{x:V},Vals xs us->xs[i]? = some x -> ∃u,us[i]? = some u/\RelV x u
 | _,_,_,_,.nil,e=>by simp at e
 | _,_,0,_,.cons r _,e=>by simp at e;subst e;exact ⟨_,rfl,r⟩
 | _,_,i+1,x,.cons _ t,e=>by
  obtain ⟨u,h1,h2⟩:=Vals.get (i:=i) (x:=x) t (by simpa using e)
  exact ⟨u,by simpa using h1,h2⟩
theorem Vals.set {x:V}{u:Value} (r:RelV x u):∀{xs:List V}{us:List Value} (i:Nat),Vals xs us->Vals (xs.set i x) (us.set i u)
 | _,_,_,.nil=>.nil
 | _,_,0,.cons _ t=>.cons r t
 | _,_,i+1,.cons q t=>.cons q (Vals.set r i t)
theorem Vals.append:∀{xs ys:List V}{us ws:List Value},Vals xs us->Vals ys ws->Vals (xs++ys) (us++ws)
 | _,_,_,_,.nil,s=>s
 | _,_,_,_,.cons r t,s=>.cons r (Vals.append t s)
theorem Vals.take:∀{xs:List V}{us:List Value} (n:Nat),Vals xs us->Vals (xs.take n) (us.take n)
 | _,_,0,_=>.nil
 | _,_,_+1,.nil=>.nil
 | _,_,n+1,.cons r t=>.cons r (Vals.take n t)
theorem Vals.drop:∀{xs:List V}{us:List Value} (n:Nat),Vals xs us->Vals (xs.drop n) (us.drop n)
 | _,_,0,r=>r
 | _,_,_+1,.nil=>.nil
 | _,_,n+1,.cons _ t=>Vals.drop n t
def ZcJ:Option V->Option Value->Prop
 | some v,some u=>RelV v u
 | none,none=>True
 | _,_=>False
def KV {κ:Type}:List (κ × V)->List (κ × Value)->Prop:=Paired fun (p:κ × V) (q:κ × Value)=>p.1=q.1/\RelV p.2 q.2
def kV:Key->V
 | .inl i=>.int i
 | .inr x=>.str x
inductive HO where
 | lst (xs:List V)
 | tup (xs:List V)
 | dK (kvs:List (Key×V)) | dT (kvs:List (List Key×V))
 | set (S:Int->Bool) (n:Nat)
 | ins (C dx:Addr) (fs:List (Str×V))
 | own (x:Addr)
 | xd (fs:List (Str×V))
 | met (f x:Addr)
 | rng (lo hi:Int)
 | frz (o:Obj) (u:HO)
 | tbl (ps:Array Value)
 | ext (φ:Heap->Prop)
abbrev Hp:=Addr->Option HO
def upd (H:Hp) (a:Addr) (o:HO):Hp:=fun b=>if b=a then some o else H b
theorem Zd {H:Hp}{a:Addr}{o:HO}:upd H a o a=some o:=by unfold upd;rw [if_pos rfl]
theorem Zj {H:Hp}{a b:Addr}{o:HO} (h:b≠a):upd H a o b=H b:=by unfold upd;rw [if_neg h]
theorem Jy {H:Hp}{a:Addr}{o u:HO}:upd (upd H a o) a u=upd H a u:=by
 funext b;unfold upd;split<;>rfl
theorem Zd1 {H:Hp}{a b:Addr}{o u:HO} (h:H a=some o) (h':H b=some u) (d:o≠u):a≠b:=by
 intro e;subst e;rw [h] at h';exact d (Option.some.inj h')
theorem Zf {H:Hp}{a b:Addr}{o:HO} (h:H a=some o) (h':H b=none):a≠b:=by
 intro e;subst e;rw [h] at h';cases h'
section
variable (P:Program) (w:World)
def Yt (H:Hp) (h:Heap) (a:Addr):HO->Prop
 | .lst xs=>xs.length<=sizeLine /\ ∃(its:List Value) (n:Nat),Vals xs its/\h.get? a=some { cls:=.type "list", data:=.seq its.toArray n }
 | .tup xs=>xs.length<=sizeLine /\ ∃its:List Value,Vals xs its/\IsTup h a its.toArray
 | .dK kvs=>kvs.length<=sizeLine/\(a==sysModules)=false /\ ∃vs,KV kvs vs/\h.DictOf (Z7 P w) a vs
 | .dT kvs=>kvs.length<=sizeLine/\(a==sysModules)=false /\ ∃xs:List (List Key×Addr×Value),
   Paired (fun (p:List Key×V) (q:List Key×Addr×Value)=>p.1=q.1/\H q.2.1=some (.tup (p.1.map kV))/\RelV p.2 q.2.2) kvs xs /\
   ∃o es ep,h.get? a=some o/\o.ExactDict/\o.data = .dict es ep/\es.toList=xs.map (entryOfKey (tupleKind (Z7 P w)))/\(xs.map (·.1)).Nodup
 | .set S n=>h.SetOf (intKind P w) a S n
 | .ins C dx fs=>H dx=some (.own a)/\fs.length<=1000/\dx≠a/\h.get? a=some (PySem.W.instObj C dx) /\
   ∃mA,h.Ns1 dx mA/\(∀f,ZcJ (fs.lookup f) (mA f))/\PySem.Within mA (fs.map (·.1))
 | .own _=>∃o,h.get? a=some o
 | .xd fs=>∃mA,h.Ns1 a mA /\ ∀f,ZcJ (fs.lookup f) (mA f)
 | .rng lo hi=>∃t u v,h.get? a=some { cls:=.type "range", data:=.fields #[.int lo t,.int hi u,.int 1 v] }
 | .frz o u=>h.get? a=some o/\Yt H h a u
 | .tbl ps=>h.get? a=some { cls:=.none,data:=.fields ps }
 | .met f x=>h.get? a=some (PySem.W.methodObj (.ref f) (.ref x))
 | .ext φ=>φ h/\(∃o,h.get? a=some o) /\ ∀h1 h2:Heap,φ h1->(∀o,h1.get? a=some o->h2.get? a=some o) -> φ h2
def UL (H:Hp) (h:Heap):Prop:=∀a o,H a=some o->Yt P w H h a o
end
section
variable {P:Program}{w:World}{H H':Hp}{h h':Heap}{a:Addr}{o:HO}
theorem Yt.lt (x:Yt P w H h a o):a<h.objs.size:=by
 cases o with
 | lst xs=>obtain ⟨_,_,_,_,e⟩:=x;exact Heap.lt_size e
 | tup xs=>obtain ⟨_,_,_,p⟩:=x;exact p.lt
 | dK kvs=>obtain ⟨_,_,_,_,o,_,_,e,_⟩:=x;exact Heap.lt_size e
 | dT kvs=>obtain ⟨_,_,_,_,o,_,_,e,_⟩:=x;exact Heap.lt_size e
 | set S n=>obtain ⟨o,_,_,_,e,_⟩:=x;exact Heap.lt_size e
 | ins C dx fs=>obtain ⟨_,_,_,e,_⟩:=x;exact Heap.lt_size e
 | own y=>obtain ⟨_,e⟩:=x;exact Heap.lt_size e
 | xd fs=>obtain ⟨_,⟨_,_,_,e,_⟩,_⟩:=x;exact Heap.lt_size e
 | rng lo hi=>obtain ⟨_,_,_,e⟩:=x;exact Heap.lt_size e
 | frz ob u=>obtain ⟨e,_⟩:=x;exact Heap.lt_size e
 | tbl ps=>exact Heap.lt_size (show h.get? a=some _ from x)
 | met f y=>exact Heap.lt_size (show h.get? a=some _ from x)
 | ext φ=>obtain ⟨_,⟨_,e⟩,_⟩:=x;exact Heap.lt_size e
theorem Paired.mapP {α β:Type}{F G:α -> β -> Prop}:∀{l₁:List α}{l₂:List β},Paired F l₁ l₂->(∀a b,F a b->G a b)->Paired G l₁ l₂
 | _,_,.nil,_=>.nil
 | _,_,.cons r t,f=>.cons (f _ _ r) (Paired.mapP t f)
theorem Paired.imp' {α β:Type}{F G:α -> β -> Prop} (f:∀a b,F a b->G a b) {l₁:List α}{l₂:List β} (r:Paired F l₁ l₂):Paired G l₁ l₂:=Paired.mapP r f
theorem Yt.stay (x:Yt P w H h a o) (k:∀b u,(b=a∨H b=some (.own a))->h.get? b=some u->h'.get? b=some u)
  (ho:∀b,H b=some (.own a)->H' b=some (.own a)) (ht:∀b xs,H b=some (.tup xs)->H' b=some (.tup xs)):Yt P w H' h' a o:=by
 induction o with
 | lst xs=>obtain ⟨z,its,n,r,e⟩:=x;exact ⟨z,its,n,r,k _ _ (.inl rfl) e⟩
 | tup xs=>obtain ⟨z,its,r,ob,e,c⟩:=x;exact ⟨z,its,r,ob,k _ _ (.inl rfl) e,c⟩
 | dK kvs=>obtain ⟨z,y,vs,r,ob,es,ep,e,c⟩:=x;exact ⟨z,y,vs,r,ob,es,ep,k _ _ (.inl rfl) e,c⟩
 | dT kvs=>
  obtain ⟨z,y,xs,r,ob,es,ep,e,c⟩:=x
  exact ⟨z,y,xs,Paired.mapP r fun p q z=>⟨z.1,ht _ _ z.2.1,z.2.2⟩,ob,es,ep,k _ _ (.inl rfl) e,c⟩
 | set S n=>obtain ⟨ob,es,ep,t,e,c⟩:=x;exact ⟨ob,es,ep,t,k _ _ (.inl rfl) e,c⟩
 | ins C dx fs=>
  obtain ⟨d,z,ne,e,mA,⟨od,es,ep,e2,c⟩,r⟩:=x
  exact ⟨ho _ d,z,ne,k _ _ (.inl rfl) e,mA,⟨od,es,ep,k _ _ (.inr d) e2,c⟩,r⟩
 | own y=>obtain ⟨ob,e⟩:=x;exact ⟨ob,k _ _ (.inl rfl) e⟩
 | xd fs=>obtain ⟨mA,⟨od,es,ep,e,c⟩,r⟩:=x;exact ⟨mA,⟨od,es,ep,k _ _ (.inl rfl) e,c⟩,r⟩
 | rng lo hi=>obtain ⟨t,u,v,e⟩:=x;exact ⟨t,u,v,k _ _ (.inl rfl) e⟩
 | frz ob u ih=>obtain ⟨e,q⟩:=x;exact ⟨k _ _ (.inl rfl) e,ih q⟩
 | tbl ps=>
  have e:h.get? a=some { cls:=.none,data:=.fields ps }:=x
  show h'.get? a=some { cls:=.none,data:=.fields ps }
  exact k a _ (.inl rfl) e
 | met f y=>
  have e:h.get? a=some (PySem.W.methodObj (.ref f) (.ref y)):=x
  show h'.get? a=some (PySem.W.methodObj (.ref f) (.ref y))
  exact k a _ (.inl rfl) e
 | ext φ=>obtain ⟨p,⟨o,e⟩,st⟩:=x;exact ⟨st _ _ p fun o q=>k _ _ (.inl rfl) q,⟨o,k _ _ (.inl rfl) e⟩,st⟩
theorem UL.lt (x:UL P w H h) (e:H a=some o):a<h.objs.size:=(x a o e).lt
theorem UL.fresh (x:UL P w H h) (e:h.objs.size<=a):H a=none:=by
 cases q:H a with
 | none=>rfl
 | some u=>exact absurd (Nat.lt_of_lt_of_le (x.lt q) e) (Nat.lt_irrefl _)
theorem UL.kept (x:UL P w H h) (k:∀b u,h.get? b=some u->h'.get? b=some u):UL P w H h':=fun a o e=>
 (x a o e).stay (fun b u _ q=>k b u q) (fun _ q=>q) fun _ _ q=>q
theorem UL.laid (x:UL P w H h) (k:∀b u,h.get? b=some u->h'.get? b=some u) (hp:h.objs.size<=a) (new:Yt P w (upd H a o) h' a o):UL P w (upd H a o) h':=fun b u e=>by
 have hn:=x.fresh hp
 by_cases hb:b=a
 ·subst hb;rw [Zd] at e;cases e;exact new
 ·rw [Zj hb] at e
  exact (x b u e).stay (fun c v _ q=>k c v q) (fun c q=>by rw [Zj (Zf q hn)];exact q) fun c xs q=>by rw [Zj (Zf q hn)];exact q
end
def Rd (H:Hp) (a:Addr) (u:HO):Prop:=H a=some u ∨ ∃o,H a=some (.frz o u)
theorem Rd.ok {P:Program}{w:World}{H:Hp}{h:Heap}{a:Addr}{u:HO} (r:Rd H a u) (x:UL P w H h):Yt P w H h a u:=by
 rcases r with r | ⟨o,r⟩
 ·exact x a u r
 ·obtain ⟨_,q⟩:=x a _ r
  exact q
def Mut:Option HO->Prop
 | some (.lst _)=>True
 | some (.dK _)=>True
 | some (.dT _)=>True
 | some (.set _ _)=>True
 | some (.ins _ _ _)=>True
 | some (.ext _)=>True
 | _=>False
section
variable {P:Program}{w:World}{H:Hp}{h h':Heap}{x e:Addr}{o':HO}
theorem UL.write (ok:UL P w H h) (mu:Mut (H x)) (he:e=x∨H e=some (.own x)) (k:∀b u,b≠e->h.get? b=some u->h'.get? b=some u) (heo:∃u,h'.get? e=some u)
  (new:Yt P w (upd H x o') h' x o'):UL P w (upd H x o') h':=fun b u q=>by
 have nown:∀c y,H c=some (.own y)->c≠x:=fun c y r z=>by subst z;rw [r] at mu;exact mu
 have ntup:∀c xs,H c=some (.tup xs)->c≠x:=fun c xs r z=>by subst z;rw [r] at mu;exact mu
 by_cases hb:b=x
 ·subst hb;rw [Zd] at q;cases q;exact new
 ·rw [Zj hb] at q
  by_cases hbe:b=e
  ·have q':H b=some (.own x):=by
    rcases he with z | z
    ·exact absurd (hbe.trans z) hb
    ·rw [hbe];exact z
   rw [q] at q';cases q'
   obtain ⟨v,hv⟩:=heo
   exact ⟨v,by rw [hbe];exact hv⟩
  ·refine (ok b u q).stay (fun c v hc r=>k c v ?_ r) (fun c r=>by rw [Zj (nown c b r)];exact r) fun c xs r=>by rw [Zj (ntup c xs r)];exact r
   rcases hc with rfl | hc
   ·exact hbe
   ·rintro rfl
    rcases he with z | z
    ·exact nown c b hc z
    ·rw [hc] at z;cases z;exact hb rfl
end
structure Un (fs ex:List Addr) (H H':Hp) (h h':Heap):Prop where
 keep:∀b o,h.get? b=some o->H b=none->b∉fs->b∉ex->h'.get? b=some o
 slot:∀b o,h.get? b=some o->H b=none->b∈fs->b∉ex -> ∃sl,h'.get? b=some { o with slots:=sl }
 free:∀b o,h.get? b=some o->H b=none->b∉ex->H' b=none
 there:∀b o,h.get? b=some o->b∉ex -> ∃o',h'.get? b=some o'
 tups:∀b xs,H b=some (.tup xs)->H' b=some (.tup xs)
 frzs:∀b o u,H b=some (.frz o u)->H' b=some (.frz o u)
 tbls:∀b ps,H b=some (.tbl ps) -> ∃more,H' b=some (.tbl (ps++more))
section
variable {fs fs' ex ex':List Addr}{H H1 H2:Hp}{h h1 h2 h':Heap}{a x e:Addr}{o:HO}
theorem Un.any (u:Un fs ex H H1 h h1) {b:Addr}{ob:Obj} (q:h.get? b=some ob) (n:H b=none) (hx:b∉ex):∃sl,h1.get? b=some { ob with slots:=sl }:=by
 by_cases hb:b∈fs
 ·exact u.slot b ob q n hb hx
 ·exact ⟨ob.slots,u.keep b ob q n hb hx⟩
theorem Un.kept (k:∀b u,h.get? b=some u->h'.get? b=some u):Un fs ex H H h h':=
 ⟨fun b ob q _ _ _=>k b ob q,fun b ob q _ _ _=>⟨ob.slots,k b ob q⟩,fun _ _ _ n _=>n,fun b ob q _=>⟨ob,k b ob q⟩,fun _ _ q=>q,fun _ _ _ q=>q,fun _ ps q=>⟨#[],by rw [q];simp⟩⟩
theorem Un.refl:Un fs ex H H h h:=Un.kept fun _ _ q=>q
theorem Un.laid (k:∀b u,h.get? b=some u->h'.get? b=some u) (hp:h.objs.size<=a) (hn:H a=none):Un fs ex H (upd H a o) h h' where
 keep:=fun b u q _ _ _=>k b u q
 slot:=fun b u q _ _ _=>⟨u.slots,k b u q⟩
 free:=fun b u q n _=>by rw [Zj (Nat.ne_of_lt (Nat.lt_of_lt_of_le (Heap.lt_size q) hp))];exact n
 there:=fun b u q _=>⟨u,k b u q⟩
 tups:=fun b xs q=>by rw [Zj (Zf q hn)];exact q
 frzs:=fun b u xs q=>by rw [Zj (Zf q hn)];exact q
 tbls:=fun b ps q=>⟨#[],by rw [Zj (Zf q hn),q];simp⟩
theorem Un.write (mu:Mut (H x)) (he:e=x∨H e=some (.own x)) (k:∀b u,b≠e->h.get? b=some u->h'.get? b=some u) (heo:∃u,h'.get? e=some u):Un fs ex H (upd H x o) h h':=by
 have hx:∀b,H b=none->b≠x:=fun b n z=>by subst z;rw [n] at mu;exact mu
 have hb:∀b,H b=none->b≠e:=fun b n z=>by
  subst z
  rcases he with r | r
  ·exact hx b n r
  ·rw [n] at r;cases r
 have hm:∀b u,H b=some u -> ¬Mut (some u)->b≠x:=fun b u q nm z=>by subst z;rw [q] at mu;exact nm mu
 refine ⟨fun b u q n _ _=>k b u (hb b n) q,fun b u q n _ _=>⟨u.slots,k b u (hb b n) q⟩,fun b u q n _=>by rw [Zj (hx b n)];exact n,fun b u q _=>?_,
  fun b xs q=>by rw [Zj (hm b _ q fun z=>z)];exact q,fun b u xs q=>by rw [Zj (hm b _ q fun z=>z)];exact q,fun b ps q=>⟨#[],by rw [Zj (hm b _ q fun z=>z),q];simp⟩⟩
 by_cases hbe:b=e
 ·subst hbe;exact heo
 ·exact ⟨u,k b u hbe q⟩
end
def trk (h:Heap) (H:Hp):List Addr:=(List.range h.objs.size).filter fun a=>(H a).isSome
def ZfS (h:Heap) (H:Hp):Heap:=PySem.W.hideAll h (trk h H)
theorem Zi8 (h:Heap) (H:Hp):(ZfS h H).objs.size=h.objs.size:=PySem.W.hideAll_size _ _
theorem Zj8 {h:Heap}{H:Hp}{b:Addr}{o:Obj} (e:h.get? b=some o) (n:H b=none):(ZfS h H).get? b=some o:=
 PySem.W.hideAll_get _ e fun hm=>by
  have q:(H b).isSome=true:=(List.mem_filter.mp hm).2
  rw [n] at q;simp at q
theorem ZlH {h:Heap}{H:Hp}{b:Addr}{o:Obj} (e:(ZfS h H).get? b=some o):h.get? b=some o/\H b=none:=by
 have e':h.get? b=some o:=PySem.W.of_hideAll (trk h H) e
 refine ⟨e',?_⟩
 cases q:H b with
 | none=>rfl
 | some x=>
  have hm:b∈trk h H:=List.mem_filter.mpr ⟨List.mem_range.mpr (Heap.lt_size e'),by simp [q]⟩
  have z:(ZfS h H).get? b=none:=PySem.W.hideAll_none (trk h H) hm
  rw [z] at e;cases e
def Gh (g h:Heap) (L:Addr):List (Addr×Obj):=(List.range h.objs.size).filterMap fun a=>if a=L∨(g.get? a).isSome=true then none else (h.get? a).map fun o=>(a,o)
theorem ZaE {g h:Heap}{L a:Addr}{o:Obj} (h1:a≠L) (h2:g.get? a=none) (h3:h.get? a=some o):(a,o)∈Gh g h L:=
 List.mem_filterMap.mpr ⟨a,List.mem_range.mpr (Heap.lt_size h3),by simp [h1,h2,h3]⟩
theorem ZdY {g h:Heap}{L:Addr}{p:Addr×Obj} (hp:p∈Gh g h L):p.1≠L/\g.get? p.1=none/\h.get? p.1=some p.2:=by
 obtain ⟨b,_,e⟩:=List.mem_filterMap.mp hp
 split at e
 ·cases e
 ·rename_i hn
  cases q:h.get? b with
  | none=>rw [q] at e;simp at e
  | some u=>
   rw [q] at e
   simp only [Option.map_some,Option.some.injEq] at e
   subst e
   refine ⟨fun z=>hn (.inl z),?_,q⟩
   show g.get? b=none
   cases r:g.get? b with
   | none=>rfl
   | some v=>exact (hn (.inr (by simp [r]))).elim
def rest (g h:Heap) (L d:Addr):List (Addr×Obj):=(Gh g h L).filter fun p=>decide (p.1≠d)
theorem ZgM {g h:Heap}{L:Addr}:News g L h (Gh g h L):=fun p hp=>let ⟨a,b,c⟩:=ZdY hp;⟨c,a,b⟩
structure Mod (K:PySem.W.Frag) (mg:Str->Option Value) (base:Heap):Prop where
 kin:K.In base
 glob:base.Ns mainGlobals mg
 blt:∃mb,base.Ns builtinsNs mb /\ ∀x:Str,x ≠ "__name__" -> mb x=bootBuiltins x
 nolimit:base.NoLimit
structure Cx where
 prog:Program
 w:World
 K:PySem.W.Frag
 mg:Str->Option Value
 base:Heap
 A:Around
 N:List Str
 s₀:Shared
 H₀:Hp
 env:Env
 outer:List Env
 stack:List Env
 ex:List Addr
 fn:Str->Bool
 calm:Bool
 pn:List (Addr×Obj)
 xe:Value->Shared->Prop
def frs (l:List Env):List Addr:=l.filterMap (·.frame)
abbrev Cx.fs (X:Cx):List Addr:=frs X.outer
def Vis (sc:Scope) (x:Str):Prop:=sc.names.lookup x=some .local∨sc.names.lookup x=some .cell∨sc.names.lookup x=some .free
def Loc (sc:Scope) (x:Str):Prop:=sc.names.lookup x=some .local∨sc.names.lookup x=some .cell
def Look (env:Env) (h:Heap) (m:Str->Option Value) (x:Str) (u:Value):Prop:=
 (env.kindOf x=some .local/\m x=some u)∨((env.kindOf x=some .cell∨env.kindOf x=some .free) /\ ∃c,env.cells.lookup x=some c/\h.IsCell c (some u))
structure Cx.Ok (X:Cx):Prop where
 mod:Mod X.K X.mg X.base
 kind:X.env.scope.kind = .function
 glob:X.env.globals=mainGlobals
 blt:X.env.builtins=builtinsNs
 above:X.s₀.heap.objs.size<=X.env.locals
 inj:∀x y c,X.env.cells.lookup x=some c->X.env.cells.lookup y=some c->x=y
 has:∀x,(X.env.kindOf x=some .cell∨X.env.kindOf x=some .free) -> ∃c,X.env.cells.lookup x=some c
 cab:∀x c,X.fn x=true->X.env.cells.lookup x=some c->X.s₀.heap.objs.size<=c
 hd:X.calm=true->X.A.handled=none
 frames:X.A.frames=some X.stack
 stk:X.stack=X.outer∨(X.stack=X.env::X.outer/\X.env.frame=some X.env.locals)
 exf:∀b∈X.ex,b≠X.env.locals /\ ∀x c,X.env.cells.lookup x=some c->c≠b
 bs:∀b o,X.base.get? b=some o->X.s₀.heap.get? b=some o/\X.H₀ b=none
 bsz:X.base.objs.size<=X.s₀.heap.objs.size
 noex:∀b o,X.base.get? b=some o->b∉X.ex
 exfs:∀b∈X.ex,b∉X.fs
 funs:X.s₀.heap.FunFrames X.base X.outer
 frf:∀b∈X.fs,X.H₀ b=none
structure Inv (X:Cx) (pins:List (Addr×Obj)) (σ:List (Option V)) (H:Hp) (s:Shared):Prop where
 ok:X.Ok
 os:s.os=X.s₀.os
 bare:AllBare s.gens
 base:Un X.fs X.ex X.H₀ H X.s₀.heap s.heap
 loc:∃m,s.heap.Ns X.env.locals m /\ ∀(i:Nat) (x:Str) (v:V),X.N[i]? = some x -> σ[i]? = some (some v)->Vis X.env.scope x -> ∃u,RelV v u/\Look X.env s.heap m x u
 cell:∀x c,X.env.cells.lookup x=some c -> ∃v,s.heap.IsCell c v
 free:H X.env.locals=none
 freeC:∀x c,X.env.cells.lookup x=some c->H c=none
 pin:∀p∈X.pn++pins,s.heap.get? p.1=some p.2/\H p.1=none/\p.1≠X.env.locals/\p.1∉X.fs /\ ∀v,p.2.data ≠ .cell v
 hok:UL X.prog X.w H s.heap
 len:σ.length=X.N.length
section
variable {X:Cx}{pins:List (Addr×Obj)} {σ:List (Option V)}{H H':Hp}{s:Shared}{h':Heap}
theorem Cx.Ok.nofr (ok:X.Ok) {b:Addr}{o:Obj} (e:X.base.get? b=some o):b∉X.fs:=fun hb=>by
 have:=(ok.funs.mem hb).1
 rw [e] at this;cases this
theorem Inv.bs (I:Inv X pins σ H s):∀b o,X.base.get? b=some o->s.heap.get? b=some o/\H b=none:=fun b o e=>
 ⟨I.base.keep b o (I.ok.bs b o e).1 (I.ok.bs b o e).2 (I.ok.nofr e) (I.ok.noex b o e),I.base.free b o (I.ok.bs b o e).1 (I.ok.bs b o e).2 (I.ok.noex b o e)⟩
theorem Inv.bk (I:Inv X pins σ H s):∀b o,X.base.get? b=some o->s.heap.get? b=some o:=fun b o e=>(I.bs b o e).1
theorem Inv.mod (I:Inv X pins σ H s):Mod X.K X.mg X.base:=I.ok.mod
theorem Inv.kIn (I:Inv X pins σ H s):X.K.In s.heap:=I.ok.mod.kin.keeps I.bk
theorem Inv.fr (I:Inv X pins σ H s):∃m,Fr X.base X.env.locals s.heap m:=
 let ⟨m,hn,_⟩:=I.loc
 ⟨m,hn,I.bk,Nat.le_trans I.ok.bsz I.ok.above⟩
theorem Inv.lt (I:Inv X pins σ H s):X.env.locals<s.heap.objs.size:=let ⟨_,hn,_⟩:=I.loc;hn.lt
theorem Inv.sz (I:Inv X pins σ H s):X.s₀.heap.objs.size<=s.heap.objs.size:=Nat.le_trans I.ok.above (Nat.le_of_lt I.lt)
theorem Inv.nofs (I:Inv X pins σ H s) {a:Addr} (h:s.heap.objs.size<=a):a∉X.fs:=fun hb=>by
 obtain ⟨_,o,ho,_⟩:=I.ok.funs.mem hb
 exact absurd (Nat.lt_of_lt_of_le (Heap.lt_size ho) (Nat.le_trans I.sz h)) (Nat.lt_irrefl _)
theorem Inv.cne (I:Inv X pins σ H s):∀x c,X.env.cells.lookup x=some c->c≠X.env.locals:=fun x c e z=>by
 obtain ⟨v,o,ho,hd⟩:=I.cell x c e
 obtain ⟨m,⟨o',es,ep,ho',hd',_⟩,_⟩:=I.loc
 rw [z,ho'] at ho;cases ho;rw [hd'] at hd;cases hd
theorem Inv.funs (I:Inv X pins σ H s):s.heap.FunFrames X.base X.outer:=by
 have all:∀(l:List Env),(∀b∈frs l,b∈X.fs)->X.s₀.heap.FunFrames X.base l->s.heap.FunFrames X.base l:=by
  intro l
  induction l with
  | nil=>intro _ _;trivial
  | cons env r ih=>
   intro hs hl
   obtain ⟨hk,⟨L,o,hf,hn,ho,hd⟩,hr⟩:=hl
   have hL:L∈X.fs:=hs L (by unfold frs;rw [List.filterMap_cons,hf];exact List.mem_cons_self)
   obtain ⟨sl,e⟩:=I.base.slot L o ho (I.ok.frf L hL) hL fun z=>I.ok.exfs L z hL
   exact ⟨hk,⟨L,_,hf,hn,e,hd⟩,ih (fun b hb=>hs b (by unfold frs;rw [List.filterMap_cons,hf];exact List.mem_cons_of_mem _ hb)) hr⟩
 exact all X.outer (fun _ hb=>hb) I.ok.funs
theorem Inv.stack (I:Inv X pins σ H s):s.heap.FunFrames X.base X.stack:=by
 rcases I.ok.stk with e | ⟨e,hf⟩
 ·rw [e];exact I.funs
 ·rw [e]
  obtain ⟨m,hn,_⟩:=I.loc
  refine .cons (by rw [I.ok.kind];decide) hf hn ?_ I.funs
  exact Heap.get?_none_of_le (Nat.le_trans I.ok.bsz I.ok.above)
theorem Inv.stkSub (I:Inv X pins σ H s):∀b∈frs X.stack,b∈X.env.locals::X.fs:=fun b hb=>by
 rcases I.ok.stk with e | ⟨e,hf⟩
 ·rw [e] at hb;exact List.mem_cons_of_mem _ hb
 ·rw [e] at hb
  unfold frs at hb
  rw [List.filterMap_cons,hf] at hb
  exact hb
theorem Inv.stkFree (I:Inv X pins σ H s):∀b∈frs X.stack,H b=none:=fun b hb=>by
 rcases List.mem_cons.mp (I.stkSub b hb) with e | hb
 ·rw [e];exact I.free
 ·obtain ⟨_,o,ho,_⟩:=I.ok.funs.mem hb
  exact I.base.free b o ho (I.ok.frf b hb) fun z=>I.ok.exfs b z hb
theorem Inv.step {g':Array GenState}{t':Nat}{d':Drawn}{ch:List Addr} (I:Inv X pins σ H s)
  (hch:∀b∈ch,(b∈X.ex∨X.s₀.heap.objs.size<=b)/\b≠X.env.locals/\(∀x c,X.env.cells.lookup x=some c->c≠b) /\ ∀p∈X.pn++pins,p.1≠b)
  (keep:∀b o,b≠X.env.locals->b∉X.fs->b∉ch->s.heap.get? b=some o->H b=none->h'.get? b=some o)
  (slot:∀b o,b≠X.env.locals->b∈X.fs->b∉ch->s.heap.get? b=some o->H b=none -> ∃sl,h'.get? b=some { o with slots:=sl }) (free:∀b o,b∉ch->s.heap.get? b=some o->H b=none->H' b=none)
  (there:∀b o,b∉ch->s.heap.get? b=some o -> ∃o',h'.get? b=some o')
  (tups:∀b xs,H b=some (.tup xs)->H' b=some (.tup xs)) (frzs:∀b o u,H b=some (.frz o u)->H' b=some (.frz o u)) (tbls:∀b ps,H b=some (.tbl ps) -> ∃more,H' b=some (.tbl (ps++more)))
  (ns:∀m,s.heap.Ns X.env.locals m->h'.Ns X.env.locals m) (hok:UL X.prog X.w H' h') (hg:AllBare g'):
  Inv X pins σ H' { s with heap:=h',gens:=g',drawn:=d',toks:=t' }:=by
 have neL:∀b o,X.s₀.heap.get? b=some o->b≠X.env.locals:=fun b o e=>Nat.ne_of_lt (Nat.lt_of_lt_of_le (Heap.lt_size e) I.ok.above)
 have neC:∀b o,X.s₀.heap.get? b=some o->b∉X.ex->b∉ch:=fun b o e hx hb=>by
  rcases (hch b hb).1 with z | z
  ·exact hx z
  ·exact absurd (Nat.lt_of_lt_of_le (Heap.lt_size e) z) (Nat.lt_irrefl _)
 have cellK:∀x c,X.env.cells.lookup x=some c -> ∀v,s.heap.IsCell c v->h'.IsCell c v:=fun x c e v ⟨o,ho,hd⟩=>by
  have nch:c∉ch:=fun z=>(hch c z).2.2.1 x c e rfl
  by_cases hc:c∈X.fs
  ·obtain ⟨sl,q⟩:=slot c o (I.cne x c e) hc nch ho (I.freeC x c e)
   exact ⟨_,q,hd⟩
  ·exact ⟨o,keep c o (I.cne x c e) hc nch ho (I.freeC x c e),hd⟩
 refine ⟨I.ok,I.os,hg,⟨fun b o e n hb hx=>?_,fun b o e n hb hx=>?_,fun b o e n hx=>?_,fun b o e hx=>?_,fun b xs e=>tups b xs (I.base.tups b xs e),fun b o xs e=>frzs b o xs (I.base.frzs b o xs e),fun b ps e=>?_⟩,?_,fun x c e=>?_,?_,fun x c e=>?_,fun p hp=>?_,hok,I.len⟩
 ·exact keep b o (neL b o e) hb (neC b o e hx) (I.base.keep b o e n hb hx) (I.base.free b o e n hx)
 ·obtain ⟨sl,e1⟩:=I.base.slot b o e n hb hx
  obtain ⟨sl',e2⟩:=slot b _ (neL b o e) hb (neC b o e hx) e1 (I.base.free b o e n hx)
  exact ⟨sl',e2⟩
 ·obtain ⟨o',e1⟩:=I.base.there b o e hx
  exact free b o' (neC b o e hx) e1 (I.base.free b o e n hx)
 ·obtain ⟨o',e1⟩:=I.base.there b o e hx
  exact there b o' (neC b o e hx) e1
 ·obtain ⟨m1,e1⟩:=I.base.tbls b ps e
  obtain ⟨m2,e2⟩:=tbls b _ e1
  exact ⟨m1++m2,by rw [e2,Array.append_assoc]⟩
 ·obtain ⟨m,hn,hl⟩:=I.loc
  refine ⟨m,ns m hn,fun i x v e1 e2 e3=>?_⟩
  obtain ⟨u,r,l⟩:=hl i x v e1 e2 e3
  refine ⟨u,r,?_⟩
  rcases l with l | ⟨k,c,e,z⟩
  ·exact .inl l
  ·exact .inr ⟨k,c,e,cellK x c e _ z⟩
 ·obtain ⟨v,z⟩:=I.cell x c e
  exact ⟨v,cellK x c e v z⟩
 ·obtain ⟨m,⟨o,_,_,ho,_⟩,_⟩:=I.loc
  exact free _ o (fun z=>(hch _ z).2.1 rfl) ho I.free
 ·obtain ⟨v,o,ho,hd⟩:=I.cell x c e
  exact free c o (fun z=>(hch c z).2.2.1 x c e rfl) ho (I.freeC x c e)
 ·obtain ⟨e,n,ne,nf,d⟩:=I.pin p hp
  have nch:p.1∉ch:=fun z=>(hch p.1 z).2.2.2 p hp rfl
  exact ⟨keep p.1 p.2 ne nf nch e n,free p.1 p.2 nch e n,ne,nf,d⟩
theorem Inv.un {t':Nat} (I:Inv X pins σ H s) (u:Un X.fs [] H H' s.heap h') (hok:UL X.prog X.w H' h'):Inv X pins σ H' { s with heap:=h',toks:=t' }:=by
 obtain ⟨m,⟨o,es,ep,ho,r⟩,_⟩:=id I.loc
 obtain ⟨sl,hL⟩:=u.any ho I.free (by simp)
 exact I.step (g':=s.gens) (d':=s.drawn) (ch:=[]) (fun _ z=>nomatch z) (fun b o _ hb _ e n=>u.keep b o e n hb (by simp)) (fun b o _ hb _ e n=>u.slot b o e n hb (by simp)) (fun b o _ e n=>u.free b o e n (by simp)) (fun b o _ e=>u.there b o e (by simp)) u.tups u.frzs u.tbls (fun m' hm=>by
  obtain ⟨o',es',ep',ho',r'⟩:=hm
  rw [ho] at ho';cases ho'
  exact ⟨_,es',ep',hL,r'⟩) hok I.bare
theorem Inv.call {g':Array GenState}{t':Nat}{d':Drawn}{ch:List Addr} (I:Inv X pins σ H s) (u:Un (frs X.stack) ch H H' s.heap h') (hok:UL X.prog X.w H' h') (hg:AllBare g')
  (hch:∀b∈ch,(b∈X.ex∨X.s₀.heap.objs.size<=b)/\b≠X.env.locals/\(∀x c,X.env.cells.lookup x=some c->c≠b) /\ ∀p∈X.pn++pins,p.1≠b):
  Inv X pins σ H' { s with heap:=h',gens:=g',drawn:=d',toks:=t' }:=by
 obtain ⟨m,⟨o,es,ep,ho,r⟩,_⟩:=id I.loc
 obtain ⟨sl,hL⟩:=u.any ho I.free fun z=>(hch _ z).2.1 rfl
 exact I.step (ch:=ch) hch (fun b o hL hb hc e n=>u.keep b o e n (fun z=>(List.mem_cons.mp (I.stkSub b z)).elim hL hb) hc) (fun b o _ _ hc e n=>u.any e n hc) (fun b o hc e n=>u.free b o e n hc) (fun b o hc e=>u.there b o e hc) u.tups u.frzs u.tbls (fun m' hm=>by
  obtain ⟨o',es',ep',ho',r'⟩:=hm
  rw [ho] at ho';cases ho'
  exact ⟨_,es',ep',hL,r'⟩) hok hg
theorem Inv.turned {t':Nat}{it:Addr} (I:Inv X pins σ H s) (k:∀b o,b≠it->s.heap.get? b=some o->h'.get? b=some o) (hn:H it=none) (hL:it≠X.env.locals)
  (h1:it∈X.ex∨X.s₀.heap.objs.size<=it) (h2:∀x c,X.env.cells.lookup x=some c->c≠it) (h3:∀p∈X.pn++pins,p.1≠it):Inv X pins σ H { s with heap:=h',toks:=t' }:=by
 have nit:∀b u,H b=some u->b≠it:=fun b u e z=>by rw [z,hn] at e;cases e
 refine I.step (g':=s.gens) (d':=s.drawn) (ch:=[it]) (fun b hb=>?_) (fun b o _ _ hc e _=>k b o (fun z=>hc (by simp [z])) e) (fun b o _ _ hc e _=>⟨o.slots,k b o (fun z=>hc (by simp [z])) e⟩) (fun _ _ _ _ n=>n)
  (fun b o hc e=>⟨o,k b o (fun z=>hc (by simp [z])) e⟩) (fun _ _ e=>e) (fun _ _ _ e=>e) (fun b ps e=>⟨#[],by rw [e];simp⟩) (fun m hm=>?_) (fun b u e=>?_) I.bare
 ·have e:b=it:=by simpa using hb
  subst e
  exact ⟨h1,hL,h2,h3⟩
 ·obtain ⟨o,es,ep,ho,r⟩:=hm
  exact ⟨o,es,ep,k _ o (Ne.symm hL) ho,r⟩
 ·refine (I.hok b u e).stay (fun c v hc q=>k c v ?_ q) (fun _ q=>q) fun _ _ q=>q
  rcases hc with z | z
  ·rw [z];exact nit b u e
  ·exact nit c _ z
theorem Inv.tok (I:Inv X pins σ H s) (t:Nat):Inv X pins σ H { s with toks:=t }:=I.un (h':=s.heap) (t':=t) Un.refl I.hok
theorem Inv.kept {t':Nat} (I:Inv X pins σ H s) (k:∀b u,s.heap.get? b=some u->h'.get? b=some u):Inv X pins σ H { s with heap:=h',toks:=t' }:=I.un (Un.kept k) (I.hok.kept k)
theorem Inv.laid {a:Addr}{o:HO}{t':Nat} (I:Inv X pins σ H s) (k:∀b u,s.heap.get? b=some u->h'.get? b=some u) (hp:s.heap.objs.size<=a) (new:Yt X.prog X.w (upd H a o) h' a o):
  Inv X pins σ (upd H a o) { s with heap:=h',toks:=t' }:=I.un (Un.laid k hp (I.hok.fresh hp)) (I.hok.laid k hp new)
theorem Inv.write {x e:Addr}{o:HO}{t':Nat} (I:Inv X pins σ H s) (mu:Mut (H x)) (he:e=x∨H e=some (.own x)) (k:∀b u,b≠e->s.heap.get? b=some u->h'.get? b=some u) (heo:∃u,h'.get? e=some u)
  (new:Yt X.prog X.w (upd H x o) h' x o):Inv X pins σ (upd H x o) { s with heap:=h',toks:=t' }:=I.un (Un.write mu he k heo) (I.hok.write mu he k heo new)
theorem Inv.weak {σ':List (Option V)} (I:Inv X pins σ H s) (hl:σ'.length = σ.length) (w:∀(i:Nat) v,σ'[i]? = some (some v) -> σ[i]? = some (some v)):Inv X pins σ' H s:=
 ⟨I.ok,I.os,I.bare,I.base,let ⟨m,hn,hl'⟩:=I.loc;⟨m,hn,fun i x v e1 e2 e3=>hl' i x v e1 (w i v e2) e3⟩,I.cell,I.free,I.freeC,I.pin,I.hok,hl.trans I.len⟩
theorem Inv.pins_of {pins':List (Addr×Obj)} (I:Inv X pins σ H s) (h:∀p∈pins',s.heap.get? p.1=some p.2/\H p.1=none/\p.1≠X.env.locals/\p.1∉X.fs /\ ∀v,p.2.data ≠ .cell v):Inv X pins' σ H s:=
 ⟨I.ok,I.os,I.bare,I.base,I.loc,I.cell,I.free,I.freeC,fun p hp=>(List.mem_append.mp hp).elim (fun z=>I.pin p (List.mem_append_left _ z)) (h p),I.hok,I.len⟩
theorem Zg7 {N:List Str} (hN:N.Nodup) {i j:Nat}{x:Str} (a:N[i]? = some x) (b:N[j]? = some x):i=j:=by
 obtain ⟨h1,e1⟩:=List.getElem?_eq_some_iff.mp a
 obtain ⟨h2,e2⟩:=List.getElem?_eq_some_iff.mp b
 exact (List.getElem_inj hN).mp (e1.trans e2.symm)
theorem ZeV {M:Model}{A:Around}{E:Value->Shared->Prop}{i:Nat}{x:Str}{v:V}{u:Value}{Q:Unit->Shared->Prop} (I:Inv X pins σ H s) (hN:X.N.Nodup) (hi:X.N[i]? = some x) (hx:Loc X.env.scope x) (r:RelV v u)
  (h:∀s',Inv X pins (σ.set i (some v)) H s'->(∃a,Heap.SameBut a s.heap s'.heap/\(a=X.env.locals∨X.env.cells.lookup x=some a))->Q () s') (hf:X.fn x=true∨X.env.scope.names.lookup x=some .local:=by first | exact .inl rfl | exact .inr rfl | assumption):wpAny M A (storeName X.env x u) Q E s:=by
 obtain ⟨m,hn,hl⟩:=id I.loc
 have hcls:(X.env.scope.kind == .class||(X.env.scope.kind == .module&&X.env.locals != X.env.globals))=false:=by rw [I.ok.kind];rfl
 have hiσ:i < σ.length:=by rw [I.len];exact (List.getElem?_eq_some_iff.mp hi).1
 have cne:=I.cne
 have tracked:∀{a:Addr}{h':Heap},(∃o,s.heap.get? a=some o/\H a=none)->Heap.SameBut a s.heap h'->UL X.prog X.w H h':=fun {a h'} ha hs b ob e=>by
  obtain ⟨_,_,hfree⟩:=ha
  refine (I.hok b ob e).stay (fun c w' hc q=>(hs.2 c ?_).trans q) (fun _ q=>q) fun _ _ q=>q
  rintro rfl
  rcases hc with rfl | hc
  ·rw [hfree] at e;cases e
  ·rw [hfree] at hc;cases hc
 rcases hx with hk | hk
 ·refine wpAny_storeName_local hk hn (fun h' hn' hs=>?_) hcls
  obtain ⟨oL,_,_,hoL,_⟩:=id hn
  refine h _ ⟨I.ok,I.os,I.bare,⟨fun b o e n hb hx=>?_,fun b o e n hb hx=>?_,I.base.free,fun b o e hx=>?_,I.base.tups,I.base.frzs,I.base.tbls⟩,⟨_,hn',fun j y v' e1 e2 e3=>?_⟩,fun y c e=>?_,I.free,I.freeC,fun p hp=>?_,tracked ⟨oL,hoL,I.free⟩ hs,by simpa using I.len⟩ ⟨_,hs,.inl rfl⟩
  ·exact (hs.2 b (Nat.ne_of_lt (Nat.lt_of_lt_of_le (Heap.lt_size e) I.ok.above))).trans (I.base.keep b o e n hb hx)
  ·obtain ⟨sl,e1⟩:=I.base.slot b o e n hb hx
   exact ⟨sl,(hs.2 b (Nat.ne_of_lt (Nat.lt_of_lt_of_le (Heap.lt_size e) I.ok.above))).trans e1⟩
  ·obtain ⟨o',e1⟩:=I.base.there b o e hx
   exact ⟨o',(hs.2 b (Nat.ne_of_lt (Nat.lt_of_lt_of_le (Heap.lt_size e) I.ok.above))).trans e1⟩
  ·by_cases hj:j=i
   ·subst hj
    rw [hi] at e1;cases e1
    rw [List.getElem?_set_self hiσ] at e2
    cases e2
    exact ⟨u,r,.inl ⟨hk,by simp⟩⟩
   ·rw [List.getElem?_set_ne (Ne.symm hj)] at e2
    obtain ⟨u',r',q⟩:=hl j y v' e1 e2 e3
    refine ⟨u',r',?_⟩
    rcases q with ⟨k,e⟩ | ⟨k,c,e,z⟩
    ·refine .inl ⟨k,?_⟩
     have:y≠x:=fun e=>hj (Zg7 hN e1 (e ▸ hi))
     simp [this,e]
    ·exact .inr ⟨k,c,e,z.sameBut hs (cne y c e)⟩
  ·obtain ⟨w',z⟩:=I.cell y c e
   exact ⟨w',z.sameBut hs (cne y c e)⟩
  ·obtain ⟨e,n,ne,nf,d⟩:=I.pin p hp
   exact ⟨(hs.2 p.1 ne).trans e,n,ne,nf,d⟩
 ·have hfn:X.fn x=true:=by
   rcases hf with z | z
   ·exact z
   ·rw [z] at hk;cases hk
  obtain ⟨c,hc⟩:=I.ok.has x (.inl hk)
  obtain ⟨w',z⟩:=I.cell x c hc
  refine wpAny_storeName_cell I.ok.kind hk hc z (fun h' hc' hs=>?_)
  obtain ⟨oc,hoc,hocd⟩:=id z
  refine h { s with heap:=h' } ⟨I.ok,I.os,I.bare,⟨fun b o e n hb hx=>?_,fun b o e n hb hx=>?_,I.base.free,fun b o e hx=>?_,I.base.tups,I.base.frzs,I.base.tbls⟩,⟨m,hn.sameBut hs (Ne.symm (cne x c hc)),fun j y v' e1 e2 e3=>?_⟩,fun y c' e=>?_,I.free,I.freeC,fun p hp=>?_,tracked ⟨oc,hoc,I.freeC x c hc⟩ hs,by simpa using I.len⟩ ⟨c,hs,.inr hc⟩
  ·exact (hs.2 b (Nat.ne_of_lt (Nat.lt_of_lt_of_le (Heap.lt_size e) (I.ok.cab x c hfn hc)))).trans (I.base.keep b o e n hb hx)
  ·obtain ⟨sl,e1⟩:=I.base.slot b o e n hb hx
   exact ⟨sl,(hs.2 b (Nat.ne_of_lt (Nat.lt_of_lt_of_le (Heap.lt_size e) (I.ok.cab x c hfn hc)))).trans e1⟩
  ·obtain ⟨o',e1⟩:=I.base.there b o e hx
   exact ⟨o',(hs.2 b (Nat.ne_of_lt (Nat.lt_of_lt_of_le (Heap.lt_size e) (I.ok.cab x c hfn hc)))).trans e1⟩
  ·by_cases hj:j=i
   ·subst hj
    rw [hi] at e1;cases e1
    rw [List.getElem?_set_self hiσ] at e2
    cases e2
    exact ⟨u,r,.inr ⟨.inl hk,c,hc,hc'⟩⟩
   ·rw [List.getElem?_set_ne (Ne.symm hj)] at e2
    obtain ⟨u',r',q⟩:=hl j y v' e1 e2 e3
    refine ⟨u',r',?_⟩
    rcases q with q | ⟨k,c',e,z'⟩
    ·exact .inl q
    ·refine .inr ⟨k,c',e,z'.sameBut hs ?_⟩
     rintro rfl
     exact hj (Zg7 hN e1 (I.ok.inj _ _ _ e hc ▸ hi))
  ·by_cases hcc:c'=c
   ·subst hcc;exact ⟨_,hc'⟩
   ·obtain ⟨w2,z2⟩:=I.cell y c' e
    exact ⟨w2,z2.sameBut hs hcc⟩
  ·obtain ⟨e,n,ne,nf,d⟩:=I.pin p hp
   refine ⟨(hs.2 p.1 ?_).trans e,n,ne,nf,d⟩
   intro q
   rw [q,hoc] at e
   have q':oc=p.2:=Option.some.inj e
   exact d w' (by rw [<- q'];exact hocd)
theorem Uu {M:Model}{A:Around}{E:Value->Shared->Prop}{i:Nat}{x:Str}{v:V}{u:Value}{Q:Unit->Shared->Prop} (I:Inv X pins σ H s) (hN:X.N.Nodup) (hi:X.N[i]? = some x) (hx:Loc X.env.scope x) (r:RelV v u)
  (h:∀s',Inv X pins (σ.set i (some v)) H s'->Q () s') (hf:X.fn x=true∨X.env.scope.names.lookup x=some .local:=by first | exact .inl rfl | exact .inr rfl | assumption):wpAny M A (storeName X.env x u) Q E s:=
 ZeV I hN hi hx r (fun s' I' _=>h s' I') hf
theorem Inv.call' {s':Shared}{ch:List Addr} (I:Inv X pins σ H s) (ho:s'.os=s.os) (u:Un (frs X.stack) ch H H' s.heap s'.heap) (hok:UL X.prog X.w H' s'.heap) (hg:AllBare s'.gens)
  (hch:∀b∈ch,(b∈X.ex∨X.s₀.heap.objs.size<=b)/\b≠X.env.locals/\(∀x c,X.env.cells.lookup x=some c->c≠b) /\ ∀p∈X.pn++pins,p.1≠b):Inv X pins σ H' s':=by
 obtain ⟨h',g',d',t',o'⟩:=s'
 have e:o'=s.os:=ho
 subst e
 exact I.call (g':=g') (t':=t') (d':=d') u hok hg hch
end
abbrev XK:=Value->Option Addr->Hp->Prop
abbrev St:=List (Option V)
abbrev VK:=V->Hp->Prop
abbrev TE:=St->Hp->VK->Prop
abbrev TT:=St->Hp->(Bool->Hp->Prop)->Prop
abbrev TA:=St->Hp->(List V->Hp->Prop)->Prop
structure Ends where
 nx:St->Hp->Prop
 rt:VK
 bk:St->Hp->Prop:=fun _ _=>False
 ct:St->Hp->Prop:=fun _ _=>False
abbrev TS:=Ends->St->Hp->Prop
def EP (X:Cx) (pins:List (Addr×Obj)) (σ:St) (Q:VK) (u:Value) (s':Shared):Prop:=∃v H',Inv X pins σ H' s'/\RelV v u/\Q v H'
def TP (X:Cx) (pins:List (Addr×Obj)) (σ:St) (Q:Bool->Hp->Prop) (b:Bool) (s':Shared):Prop:=∃H',Inv X pins σ H' s'/\Q b H'
def AP (X:Cx) (pins:List (Addr×Obj)) (σ:St) (Q:List V->Hp->Prop) (us:List Value) (s':Shared):Prop:=∃vs H',Inv X pins σ H' s'/\Vals vs us/\Q vs H'
def SP (X:Cx) (pins:List (Addr×Obj)) (D:Ends) (f:Flow) (s':Shared):Prop:=
 match f with
 | .next=>∃ σ' H',Inv X pins σ' H' s'/\D.nx σ' H'
 | .brk=>∃ σ' H',Inv X pins σ' H' s'/\D.bk σ' H'
 | .cont=>∃ σ' H',Inv X pins σ' H' s'/\D.ct σ' H'
 | .ret u=>∃v σ' H',Inv X pins σ' H' s'/\RelV v u/\D.rt v H'
def PE (X:Cx) (e:Expr) (t:TE):Prop:=
 ∀(pins:List (Addr×Obj)) (s:Shared) (σ:St) (H:Hp) (Q:VK),Inv X pins σ H s->t σ H Q->wpAny (model X.prog X.w) X.A (eval e X.env) (EP X pins σ Q) X.xe s
def PT (X:Cx) (e:Expr) (t:TT):Prop:=
 ∀(pins:List (Addr×Obj)) (s:Shared) (σ:St) (H:Hp) (Q:Bool->Hp->Prop),Inv X pins σ H s->t σ H Q->wpAny (model X.prog X.w) X.A (isTrue e X.env (eval e X.env)) (TP X pins σ Q) X.xe s
def PW (X:Cx) (e:Expr) (t:TT):Prop:=
 ∀(whole:Sem Value) (pins:List (Addr×Obj)) (s:Shared) (σ:St) (H:Hp) (Q:Bool->Hp->Prop),Inv X pins σ H s->t σ H Q->wpAny (model X.prog X.w) X.A (isTrue e X.env whole) (TP X pins σ Q) X.xe s
theorem PW.pt {X:Cx}{e:Expr}{t:TT} (h:PW X e t):PT X e t:=h _
def PA (X:Cx) (es:List Expr) (t:TA):Prop:=
 ∀(pos:Pos) (pins:List (Addr×Obj)) (s:Shared) (σ:St) (H:Hp) (Q:List V->Hp->Prop),Inv X pins σ H s->t σ H Q->wpAny (model X.prog X.w) X.A (spliced (backTo pos (starEach es X.env))) (AP X pins σ Q) X.xe s
def PS (X:Cx) (st:Stmt) (t:TS):Prop:=
 ∀(pins:List (Addr×Obj)) (s:Shared) (σ:St) (H:Hp) (D:Ends),Inv X pins σ H s->t D σ H->wpAny (model X.prog X.w) X.A (exec st X.env) (SP X pins D) X.xe s
def PSs (X:Cx) (st:List Stmt) (t:TS):Prop:=
 ∀(pins:List (Addr×Obj)) (s:Shared) (σ:St) (H:Hp) (D:Ends),Inv X pins σ H s->t D σ H->wpAny (model X.prog X.w) X.A (execs st X.env) (SP X pins D) X.xe s
theorem YR {α:Type}{t:Sem α}{Q Q':α -> Shared->Prop}{M:Model}{A:Around}{E:Value->Shared->Prop}{s:Shared} (h:wpAny M A t Q E s) (hQ:∀a s,Q a s->Q' a s):wpAny M A t Q' E s:=wpAny_mono h hQ fun _ _ x=>x
section
variable {X:Cx}
def Zju (i:Nat):TE:=fun σ H Q=>∃v,σ[i]? = some (some v)/\Q v H
def tC (v:V):TE:=fun _ H Q=>Q v H
theorem Zn7 {i:Nat}{x:Str}{pos:Pos} (hN:X.N[i]? = some x) (hv:Vis X.env.scope x) (hd:(x==("__debug__" : Str))=false:=by decide) (hcd:(x==("__classdict__" : Str))=false:=by decide):PE X (.Name x pos) (Zju i):=by
 intro pins s σ H Q I h
 obtain ⟨v,e,h⟩:=h
 obtain ⟨m,hn,hl⟩:=I.loc
 obtain ⟨u,r,l⟩:=hl i x v hN e hv
 have fin:EP X pins σ Q u s:=⟨v,H,I,r,h⟩
 rcases l with ⟨hk,hm⟩ | ⟨hk,c,hc,hcell⟩
 ·exact wpAny_Name (wpAny_loadName_local I.ok.kind hk hn hm fin) hd
 ·rcases hk with hk | hk
  ·exact wpAny_Name (wpAny_loadName_cell I.ok.kind hk hc hcell fin) hd
  ·exact wpAny_Name (wpAny_loadName_free I.ok.kind hk hc hcell fin hcd) hd
theorem Ze {i j pos}:PE X (.Constant (.int i) j pos) (tC (.int i)):=fun _ _ _ H _ I h=>wpAny_Constant_int ⟨.int i,H,I.tok _,⟨_,rfl⟩,h⟩
theorem Gv {b j pos}:PE X (.Constant (.bool b) j pos) (tC (.bl b)):=fun _ _ _ H _ I h=>Constant_bool ⟨.bl b,H,I,rfl,h⟩
theorem JZ {j pos}:PE X (.Constant .none j pos) (tC .non):=fun _ _ _ H _ I h=>Constant_none ⟨.non,H,I,rfl,h⟩
theorem ZJ {x j pos}:PE X (.Constant (.str x) j pos) (tC (.str x)):=fun _ _ _ H _ I h=>Calls.Constant_str ⟨.str x,H,I.tok _,⟨_,rfl⟩,h⟩
def Gl (X:Cx) (x:Str):Prop:=X.env.kindOf x=some .globalImplicit
theorem ZbX {E:Value->Shared->Prop}{pins:List (Addr×Obj)}{s:Shared} {σ:St}{H:Hp}{x:Str}{u:Value}{pos:Pos}{Q:Value->Shared->Prop} (I:Inv X pins σ H s) (hg:Gl X x) (hm:X.mg x=some u) (h:Q u s)
  (hd:(x==("__debug__" : Str))=false:=by decide):wpAny (model X.prog X.w) X.A (eval (.Name x pos) X.env) Q E s:=
 Calls.Name_function_global I.ok.kind hg (Calls.loadGlobal_global (by rw [I.ok.glob];exact I.mod.glob.keeps I.bk) hm h) hd
theorem GZ {E:Value->Shared->Prop}{pins:List (Addr×Obj)}{s:Shared} {σ:St}{H:Hp}{x:Str}{u:Value}{pos:Pos}{Q:Value->Shared->Prop} (I:Inv X pins σ H s) (hg:Gl X x) (hm:X.mg x=none) (hv:bootBuiltins x=some u) (h:Q u s)
  (hn:x ≠ "__name__" := by decide) (hd:(x==("__debug__" : Str))=false:=by decide):wpAny (model X.prog X.w) X.A (eval (.Name x pos) X.env) Q E s:=by
 obtain ⟨mb,h1,h2⟩:=I.mod.blt
 exact Calls.Name_function_global I.ok.kind hg (Calls.loadGlobal_builtin (by rw [I.ok.glob];exact I.mod.glob.keeps I.bk) hm (by rw [I.ok.blt];exact h1.keeps I.bk) ((h2 x hn).trans hv) h) hd
theorem WG {x:Str}{v:V}{u:Value}{pos:Pos} (hg:Gl X x) (hm:X.mg x=some u) (r:RelV v u) (hd:(x==("__debug__" : Str))=false:=by decide):PE X (.Name x pos) (tC v):=
 fun _ _ _ H _ I h=>ZbX I hg hm ⟨v,H,I,r,h⟩ hd
theorem UW {x:Str}{v:V}{u:Value}{pos:Pos} (hg:Gl X x) (hm:X.mg x=none) (hv:bootBuiltins x=some u) (r:RelV v u) (hn:x ≠ "__name__" := by decide) (hd:(x==("__debug__" : Str))=false:=by decide):PE X (.Name x pos) (tC v):=
 fun _ _ _ H _ I h=>GZ I hg hm hv ⟨v,H,I,r,h⟩ hn hd
variable {a b:Expr}{ta tb:TE}{pos:Pos}
def PC (X:Cx) (op:CmpOp) (a b:Expr) (t:TE):Prop:=
 ∀(pins:List (Addr×Obj)) (s:Shared) (σ:St) (H:Hp) (Q:VK),Inv X pins σ H s->t σ H Q ->
  wpAny (model X.prog X.w) X.A (eval a X.env) (fun v s₁=>wpAny (model X.prog X.w) X.A (eval b X.env) (fun u s₂=>wpAny (model X.prog X.w) X.A (compareOp op v u) (EP X pins σ Q) X.xe s₂) X.xe s₁) X.xe s
def tB (t:TE):TT:=fun σ H Q=>t σ H fun x H1=>∃c,x = .bl c/\Q c H1
theorem ZfQ {op:CmpOp}{t:TE} (h:PC X op a b t) (h1:behindInMarks op b=false:=by first | exact nobehind _ (by decide) (by decide) | rfl):PT X (.Compare a [op] [b] pos) (tB t):=by
 intro pins s σ H Q I hw
 refine wpAny_isTrue_Compare1 (YR (h pins s σ H _ I hw) fun v s1 h1=>YR h1 fun u s2 h2=>YR h2 fun c s3 ⟨x,H1,I1,r1,q1⟩=>?_) h1
 obtain ⟨d,rfl,q⟩:=q1
 cases r1
 exact wpAny_truthy_bool ⟨H1,I1,q⟩
theorem JX {e:Expr}{t:TE} (h:PE X e t) (he:∀whole,isTrue e X.env whole=(do let v <- whole;standAt e.pos;holding [v] (truthy v)):=by intro _;rfl):PT X e (tB t):=by
 intro pins s σ H Q I hw
 refine isTrue_plain (YR (h pins s σ H _ I hw) fun v s1 ⟨x,H1,I1,r1,q1⟩=>?_) (he _)
 obtain ⟨d,rfl,q⟩:=q1
 cases r1
 exact wpAny_truthy_bool ⟨H1,I1,q⟩
variable {tA tB':TT}{rest:List Expr}
def ZoC (t u:TT):TT:=fun σ H Q=>t σ H fun c H1=>if c=true then u σ H1 Q else Q false H1
def tOr (t u:TT):TT:=fun σ H Q=>t σ H fun c H1=>if c=true then Q true H1 else u σ H1 Q
def Zpp (t:TT):TT:=fun σ H Q=>t σ H fun c H1=>Q (!c) H1
theorem Gi (ha:PT X a tA):PW X (.BoolOp .And [a] pos) tA:=by
 intro wh pins s σ H Q I h
 refine isTrue_and (YR (ha pins s σ H Q I h) fun c s1 e=>?_)
 cases c with
 | true=>exact isTrue_and_nil e
 | false=>exact e
theorem ZdE (ha:PT X a tA):PW X (.BoolOp .Or [a] pos) tA:=by
 intro wh pins s σ H Q I h
 refine isTrue_or (YR (ha pins s σ H Q I h) fun c s1 e=>?_)
 cases c with
 | false=>exact isTrue_or_nil e
 | true=>exact e
theorem WE (ha:PT X a tA) (hb:PW X (.BoolOp .And (b::rest) pos) tB'):PW X (.BoolOp .And (a::b::rest) pos) (ZoC tA tB'):=by
 intro wh pins s σ H Q I h
 refine isTrue_and (YR (ha pins s σ H _ I h) fun c s1 ⟨H1,I1,q1⟩=>?_)
 cases c with
 | true=>exact hb wh pins s1 σ H1 Q I1 q1
 | false=>exact ⟨H1,I1,q1⟩
theorem ZdB (ha:PT X a tA) (hb:PW X (.BoolOp .Or (b::rest) pos) tB'):PW X (.BoolOp .Or (a::b::rest) pos) (tOr tA tB'):=by
 intro wh pins s σ H Q I h
 refine isTrue_or (YR (ha pins s σ H _ I h) fun c s1 ⟨H1,I1,q1⟩=>?_)
 cases c with
 | true=>exact ⟨H1,I1,q1⟩
 | false=>exact hb wh pins s1 σ H1 Q I1 q1
theorem WB (ha:PT X a tA):PT X (.UnaryOp .Not a pos) (Zpp tA):=by
 intro pins s σ H Q I h
 exact isTrue_not (ha pins s σ H (fun c H1=>Q (!c) H1) I h)
def Zoy (ta tb:TE):TE:=fun σ H Q=>ta σ H fun x H1=>∃c,x = .bl c/\if c=true then tb σ H1 Q else Q (.bl false) H1
def ZpC (ta tb:TE):TE:=fun σ H Q=>ta σ H fun x H1=>∃c,x = .bl c/\if c=true then Q (.bl true) H1 else tb σ H1 Q
def Zou (ta:TE):TE:=fun σ H Q=>ta σ H fun x H1=>∃c,x = .bl c/\Q (.bl (!c)) H1
theorem GJ {op}{t:TE} (h:PE X a t):PE X (.BoolOp op [a] pos) t:=fun pins s σ H Q I hw=>BoolOp_one (h pins s σ H Q I hw)
theorem ZaF (ha:PE X a ta) (hb:PE X (.BoolOp .And (b::rest) pos) tb):PE X (.BoolOp .And (a::b::rest) pos) (Zoy ta tb):=by
 intro pins s σ H Q I h
 refine BoolOp_and (YR (ha pins s σ H _ I h) fun v s1 ⟨x,H1,I1,r1,q1⟩=>?_)
 obtain ⟨c,rfl,q1⟩:=q1
 cases r1
 refine wpAny_truthy_bool ?_
 cases c with
 | true=>exact hb pins s1 σ H1 Q I1 q1
 | false=>exact ⟨.bl false,H1,I1,rfl,q1⟩
theorem ZgI (ha:PE X a ta) (hb:PE X (.BoolOp .Or (b::rest) pos) tb):PE X (.BoolOp .Or (a::b::rest) pos) (ZpC ta tb):=by
 intro pins s σ H Q I h
 refine BoolOp_or (YR (ha pins s σ H _ I h) fun v s1 ⟨x,H1,I1,r1,q1⟩=>?_)
 obtain ⟨c,rfl,q1⟩:=q1
 cases r1
 refine wpAny_truthy_bool ?_
 cases c with
 | false=>exact hb pins s1 σ H1 Q I1 q1
 | true=>exact ⟨.bl true,H1,I1,rfl,q1⟩
theorem ZjO (ha:PE X a ta):PE X (.UnaryOp .Not a pos) (Zou ta):=by
 intro pins s σ H Q I h
 refine UnaryOp_ (YR (ha pins s σ H _ I h) fun v s1 ⟨x,H1,I1,r1,q1⟩=>?_)
 obtain ⟨c,rfl,q1⟩:=q1
 cases r1
 exact not_of (wpAny_truthy_bool ⟨.bl (!c),H1,I1,rfl,q1⟩)
def tIf (t:TT) (ta tb:TE):TE:=fun σ H Q=>t σ H fun c H1=>if c=true then ta σ H1 Q else tb σ H1 Q
theorem Zcf {c:Expr} (hc:PT X c tA) (ha:PE X a ta) (hb:PE X b tb):PE X (.IfExp c a b pos) (tIf tA ta tb):=by
 intro pins s σ H Q I h
 refine wpAny_IfExp (YR (hc pins s σ H _ I h) fun d s1 ⟨H1,I1,q1⟩=>?_)
 cases d with
 | true=>exact ha pins s1 σ H1 Q I1 q1
 | false=>exact hb pins s1 σ H1 Q I1 q1
end
def Zu (K:PySem.W.Frag) (H:Hp) (a:Addr) (xs:List V):Prop:=
 Rd H a (.lst xs) ∨
  ∃(o:Obj) (its:Array Value) (n:Nat),K.lookup a=some o/\o.cls = .type "list" /\ o.dict=none/\o.data = .seq its n/\its.size<=sizeLine/\Vals xs its.toList
def YT (K:PySem.W.Frag) (H:Hp) (a:Addr) (xs:List V):Prop:=
 Rd H a (.tup xs) ∨
  ∃(o:Obj) (its:Array Value) (n:Nat),K.lookup a=some o/\o.cls = .type "tuple" /\ o.data = .seq its n/\its.size<=sizeLine/\Vals xs its.toList
def ZpB:Value->Option V
 | .none=>some .non
 | .bool b=>some (.bl b)
 | .int i _=>some (.int i)
 | .str x _=>some (.str x)
 | .bytes b _=>some (.byt b)
 | .float b _=>some (.flt b)
 | .ref a=>some (.ref a)
 | .type n=>some (.ty n)
 | _=>none
theorem RelV.abs {x:V}{u:Value} (r:RelV x u):ZpB u=some x:=by
 cases x with
 | non=>cases r;rfl
 | bl _=>cases r;rfl
 | int _=>obtain ⟨t,rfl⟩:=r;rfl
 | str _=>obtain ⟨t,rfl⟩:=r;rfl
 | byt _=>obtain ⟨t,rfl⟩:=r;rfl
 | flt _=>obtain ⟨t,rfl⟩:=r;rfl
 | ref _=>cases r;rfl
 | ty _=>cases r;rfl
theorem RelV.inj {x y:V}{u:Value} (r:RelV x u) (q:RelV y u):x=y:=Option.some.inj (r.abs.symm.trans q.abs)
theorem Vals.inj:∀{xs ys:List V}{us:List Value},Vals xs us->Vals ys us->xs=ys
 | _,_,_,.nil,.nil=>rfl
 | _,_,_,.cons r t,.cons r' t'=>by rw [r.inj r',Vals.inj t t']
section
variable {X:Cx}{pins:List (Addr×Obj)} {σ:St}{H:Hp}{s:Shared}{a:Addr}{xs ys:List V}
theorem Zu.of {K:PySem.W.Frag} (h:H a=some (.lst xs)):Zu K H a xs:=.inl (.inl h)
theorem YT.of {K:PySem.W.Frag} (h:H a=some (.tup xs)):YT K H a xs:=.inl (.inl h)
theorem Inv.list (I:Inv X pins σ H s) (h:Zu X.K H a xs):∃its:List Value,Vals xs its/\PlainL s.heap a its.toArray/\xs.length<=sizeLine:=by
 rcases h with h | ⟨o,its,n,hk,hc,hd,hs,hz,r⟩
 ·obtain ⟨z,its,n,r,e⟩:=h.ok I.hok
  exact ⟨its,r,⟨_,n,e,rfl,rfl,rfl⟩,z⟩
 ·refine ⟨its.toList,r,⟨o,n,I.kIn a o hk,hc,hd,by simpa using hs⟩,?_⟩
  have e:=r.length
  simp only [Array.length_toList] at e
  lia
theorem Inv.tuple (I:Inv X pins σ H s) (h:YT X.K H a xs):∃its:List Value,Vals xs its/\IsTup s.heap a its.toArray/\xs.length<=sizeLine:=by
 rcases h with h | ⟨o,its,n,hk,hc,hs,hz,r⟩
 ·obtain ⟨z,its,r,p⟩:=h.ok I.hok
  exact ⟨its,r,p,z⟩
 ·refine ⟨its.toList,r,⟨o,I.kIn a o hk,hc,n,by simpa using hs⟩,?_⟩
  have e:=r.length
  simp only [Array.length_toList] at e
  lia
theorem Inv.list_inj (I:Inv X pins σ H s) (h:Zu X.K H a xs) (h':Zu X.K H a ys):xs=ys:=by
 obtain ⟨its,r,⟨o,n,e,_,_,d⟩,_⟩:=I.list h
 obtain ⟨its',r',⟨o',n',e',_,_,d'⟩,_⟩:=I.list h'
 rw [e] at e';cases e'
 rw [d] at d'
 injection d' with d1 _
 have:its=its':=by simpa using congrArg Array.toList d1
 subst this
 exact r.inj r'
theorem Inv.tuple_inj (I:Inv X pins σ H s) (h:YT X.K H a xs) (h':YT X.K H a ys):xs=ys:=by
 obtain ⟨its,r,⟨o,e,_,n,d⟩,_⟩:=I.tuple h
 obtain ⟨its',r',⟨o',e',_,n',d'⟩,_⟩:=I.tuple h'
 rw [e] at e';cases e'
 rw [d] at d'
 injection d' with d1 _
 have:its=its':=by simpa using congrArg Array.toList d1
 subst this
 exact r.inj r'
end
abbrev Cx.wish (X:Cx) (E:Value->Shared->Prop):Cx:={ X with xe:=E }
abbrev Cx.nox (X:Cx):Cx:=X.wish fun _ _=>False
theorem Cx.Ok.wish {X:Cx} (ok:X.Ok) (E:Value->Shared->Prop):(X.wish E).Ok:=
 ⟨ok.mod,ok.kind,ok.glob,ok.blt,ok.above,ok.inj,ok.has,ok.cab,ok.hd,ok.frames,ok.stk,ok.exf,ok.bs,ok.bsz,ok.noex,ok.exfs,ok.funs,ok.frf⟩
theorem Cx.Ok.unwish {X:Cx}{E:Value->Shared->Prop} (ok:(X.wish E).Ok):X.Ok:=
 ⟨ok.mod,ok.kind,ok.glob,ok.blt,ok.above,ok.inj,ok.has,ok.cab,ok.hd,ok.frames,ok.stk,ok.exf,ok.bs,ok.bsz,ok.noex,ok.exfs,ok.funs,ok.frf⟩
section
variable {X:Cx}{pins:List (Addr×Obj)} {σ:St}{H:Hp}{s:Shared}{E:Value->Shared->Prop}
theorem Inv.wish (I:Inv X pins σ H s) (E:Value->Shared->Prop):Inv (X.wish E) pins σ H s:=⟨I.ok.wish E,I.os,I.bare,I.base,I.loc,I.cell,I.free,I.freeC,I.pin,I.hok,I.len⟩
theorem Inv.unwish (I:Inv (X.wish E) pins σ H s):Inv X pins σ H s:=⟨I.ok.unwish,I.os,I.bare,I.base,I.loc,I.cell,I.free,I.freeC,I.pin,I.hok,I.len⟩
theorem SP.unwish {D:Ends}{f:Flow}{s':Shared} (h:SP (X.wish E) pins D f s'):SP X pins D f s':=by
 cases f with
 | next=>obtain ⟨σ',H',I,q⟩:=h;exact ⟨σ',H',I.unwish,q⟩
 | brk=>obtain ⟨σ',H',I,q⟩:=h;exact ⟨σ',H',I.unwish,q⟩
 | cont=>obtain ⟨σ',H',I,q⟩:=h;exact ⟨σ',H',I.unwish,q⟩
 | ret u=>obtain ⟨v,σ',H',I,r,q⟩:=h;exact ⟨v,σ',H',I.unwish,r,q⟩
theorem PSs.nox {st:List Stmt}{t:TS} (h:PSs X.nox st t):PSs X st t:=fun pins s σ H D I hw=>
 wpAny_mono (h pins s σ H D (I.wish _) hw) (fun _ _ q=>q.unwish) fun _ _ z=>False.elim z
end
section
variable {X:Cx}{st:Stmt}{rest:List Stmt}{t u:TS}{e:Expr}{te:TE}{pos:Pos}
def ZmP:TS:=fun D σ H=>D.nx σ H
def ZoB (t u:TS):TS:=fun D σ H=>t { D with nx:=u D } σ H
theorem ZG:PSs X [] ZmP:=fun _ _ σ H _ I h=>wpAny_execs_nil ⟨σ,H,I,h⟩
theorem Zc (h1:PS X st t) (h2:PSs X rest u):PSs X (st::rest) (ZoB t u):=by
 intro pins s σ H D I h
 refine wpAny_execs_cons (YR (h1 pins s σ H { D with nx:=u D } I h) fun f s1 q=>?_)
 cases f with
 | next=>
  obtain ⟨σ',H',I',q⟩:=q
  exact h2 pins s1 σ' H' D I' q
 | ret v=>exact q
 | brk=>exact q
 | cont=>exact q
theorem Zg (h1:PS X st t):PSs X [st] t:=by
 intro pins s σ H D I h
 refine wpAny_execs_cons (YR (h1 pins s σ H D I h) fun f s1 q=>?_)
 cases f with
 | next=>exact wpAny_execs_nil q
 | ret v=>exact q
 | brk=>exact q
 | cont=>exact q
theorem Inv.quiet {pins:List (Addr×Obj)} {σ:St}{H:Hp}{s:Shared} (I:Inv X pins σ H s):interactive X.env=false:=by simp [interactive,I.ok.kind]
def Zon (te:TE):TS:=fun D σ H=>te σ H fun _ H1=>D.nx σ H1
theorem ZZ (he:PE X e te) (hs:swapsWith e none pos.line X.env=pure false:=by rfl):PS X (.Expr e pos) (Zon te):=by
 intro pins s σ H D I h
 exact wpAny_Expr_any (YR (he pins s σ H _ I h) fun v s1 ⟨x,H1,I1,r1,q1⟩=>⟨σ,H1,I1,q1⟩) I.quiet hs
def ZpG (te:TE):TS:=fun D σ H=>te σ H D.rt
theorem Zv (he:PE X e te):PS X (.Return (some e) pos) (ZpG te):=by
 intro pins s σ H D I h
 exact wpAny_Return_some (YR (he pins s σ H _ I h) fun v s1 ⟨x,H1,I1,r1,q1⟩=>⟨x,σ,H1,I1,r1,q1⟩)
def ZiR (c:TT) (t u:TS):TS:=fun D σ H=>c σ H fun b H1=>if b=true then t D σ H1 else u D σ H1
theorem ZR {c:Expr}{a b:List Stmt}{tc:TT} (hc:PT X c tc) (ha:PSs X a t) (hb:PSs X b u):PS X (.If c a b pos) (ZiR tc t u):=by
 intro pins s σ H D I h
 refine wpAny_If (YR (hc pins s σ H _ I h) fun d s1 ⟨H1,I1,q1⟩=>?_)
 cases d with
 | true=>exact ha pins s1 σ H1 D I1 q1
 | false=>exact hb pins s1 σ H1 D I1 q1
end
abbrev TG:=V->St->Hp->(St->Hp->Prop)->Prop
abbrev TGs:=List V->St->Hp->(St->Hp->Prop)->Prop
def PG (X:Cx) (target:Expr) (t:TG):Prop:=
 ∀(pins:List (Addr×Obj)) (s:Shared) (σ:St) (H:Hp) (v:V) (u:Value) (Q:St->Hp->Prop),Inv X pins σ H s->RelV v u->t v σ H Q ->
  wpAny (model X.prog X.w) X.A (assign target X.env u) (fun _ s'=>∃ σ' H',Inv X pins σ' H' s'/\Q σ' H') X.xe s
def PGs (X:Cx) (ts:List Expr) (t:TGs):Prop:=
 ∀(pins:List (Addr×Obj)) (s:Shared) (σ:St) (H:Hp) (vs:List V) (us:List Value) (Q:St->Hp->Prop),Inv X pins σ H s->Vals vs us->t vs σ H Q ->
  wpAny (model X.prog X.w) X.A (assignInOrder ((assignEach ts X.env).map (·.2)) us) (fun _ s'=>∃ σ' H',Inv X pins σ' H' s'/\Q σ' H') X.xe s
abbrev ZnI:=V->V->V->Hp->(Hp->Prop)->Prop
def Znr (X:Cx) (t:ZnI):Prop:=
 ∀(pins:List (Addr×Obj)) (s:Shared) (σ:St) (H:Hp) (o i v:V) (ov iv u:Value) (Q:Hp->Prop),Inv X pins σ H s->RelV o ov->RelV i iv->RelV v u->t o i v H Q ->
  wpAny (model X.prog X.w) X.A (setItem ov iv u) (fun _ s'=>∃H',Inv X pins σ H' s'/\Q H') X.xe s
abbrev TIp:=V->V->Hp->VK->Prop
def PIp (X:Cx) (op:Operator) (t:TIp):Prop:=
 ∀(pins:List (Addr×Obj)) (s:Shared) (σ:St) (H:Hp) (x y:V) (v u:Value) (Q:VK),Inv X pins σ H s->RelV x v->RelV y u->t x y H Q ->
  wpAny (model X.prog X.w) X.A (inplaceOp op v u) (EP X pins σ Q) X.xe s
section
variable {X:Cx}{pos:Pos}
def Zfa (i:Nat):TG:=fun v σ H Q=>Q (σ.set i (some v)) H
theorem Zl {i:Nat}{x:Str} (hN:X.N.Nodup) (hi:X.N[i]? = some x) (hx:Loc X.env.scope x) (hf:X.fn x=true∨X.env.scope.names.lookup x=some .local:=by first | exact .inl rfl | exact .inr rfl | assumption):PG X (.Name x pos) (Zfa i):=by
 intro pins s σ H v u Q I r h
 exact wpAny_assign_Name (Uu I hN hi hx r (fun s' I'=>⟨_,H,I',h⟩) hf)
def Zpk:TGs:=fun vs σ H Q=>vs = []/\Q σ H
def Zop (t:TG) (u:TGs):TGs:=fun vs σ H Q=>∃v r,vs=v::r/\t v σ H fun σ' H'=>u r σ' H' Q
theorem ZU:PGs X [] Zpk:=by
 intro pins s σ H vs us Q I r h
 obtain ⟨e,h⟩:=h
 subst e
 cases r
 exact assignInOrder_nil ⟨σ,H,I,h⟩
theorem Zq {e:Expr}{es:List Expr}{t:TG}{u:TGs} (h1:PG X e t) (h2:PGs X es u)
  (hs:(assignEach (e::es) X.env).map (·.2)=assign e X.env::(assignEach es X.env).map (·.2):=by rfl):PGs X (e::es) (Zop t u):=by
 intro pins s σ H vs us Q I r h
 obtain ⟨v,vr,e1,h⟩:=h
 subst e1
 cases r with
 | cons r rr=>
  rw [hs]
  refine assignInOrder_cons (YR (h1 pins s σ H _ _ _ I r h) fun _ s1 ⟨σ1,H1,I1,q1⟩=>?_)
  exact h2 pins s1 σ1 H1 _ _ Q I1 rr q1
def ZoU (K:PySem.W.Frag) (n:Nat) (t:TGs):TG:=fun v σ H Q=>∃a xs,v = .ref a/\YT K H a xs/\xs.length=n/\t xs σ H Q
theorem ZmV {es:List Expr}{k:Nat}{t:TGs}{n:Nat} (hc:X.calm=true) (h:PGs X es t)
  (hn:(assignEach es X.env).length=n:=by rfl) (hst:(assignEach es X.env).findIdx? (·.1)=none:=by rfl):PG X (.Tuple es k pos) (ZoU X.K n t):=by
 intro pins s σ H v u Q I r hw
 obtain ⟨a,xs,e1,hq,hl,hw⟩:=hw
 subst e1
 cases r
 obtain ⟨its,rv,ht,hz⟩:=I.tuple hq
 refine assign_Tuple_tuple (I.ok.hd hc) ht (by simp [hn,<- hl,rv.length]) hst fun h' hx=>?_
 have I1:Inv X pins σ H { s with heap:=h' }:=I.kept (t':=s.toks) fun b o e=>hx b o (Nat.ne_of_lt (Heap.lt_size e)) e
 exact h pins _ σ H xs _ Q I1 (by simpa using rv) hw
def Zna (to ti:TE) (t:ZnI):TG:=fun v σ H Q=>to σ H fun o H1=>ti σ H1 fun i H2=>t o i v H2 fun H3=>Q σ H3
theorem YH {o i:Expr}{to ti:TE}{t:ZnI} (ho:PE X o to) (hi:PE X i ti) (hs:Znr X t)
  (ha:∀v,assign (.Subscript o i pos) X.env v=(do
   let ov <- holding [v] (eval o X.env)
   let iv <- holding [v,ov] (eval i X.env)
   standAt pos
   holding [v,ov,iv] (setItem ov iv v)
   release [v,ov,iv] []):=by intro _;rfl):PG X (.Subscript o i pos) (Zna to ti t):=by
 intro pins s σ H v u Q I r h
 rw [ha]
 refine wpAny_bind (wpAny_holding (YR (ho pins s σ H _ I h) fun ov s1 ⟨x,H1,I1,r1,q1⟩=>?_))
 refine wpAny_bind (wpAny_holding (YR (hi pins s1 σ H1 _ I1 q1) fun iv s2 ⟨y,H2,I2,r2,q2⟩=>?_))
 refine wpAny_bind (wpAny_standAt (wpAny_bind (wpAny_holding (YR (hs pins s2 σ H2 x y v ov iv u _ I2 r1 r2 r q2) fun _ s3 ⟨H3,I3,q3⟩=>?_))))
 exact wpAny_release ⟨σ,H3,I3,q3⟩
def Zla (te:TE) (g:TG):TS:=fun D σ H=>te σ H fun x H1=>g x σ H1 D.nx
theorem Yr {tg e:Expr}{te:TE}{g:TG} (he:PE X e te) (hg:PG X tg g) (hs:swapsWithSole [tg] e pos.line X.env=pure false:=by rfl) (hw:swappedStores [tg] e X.env=pure none:=by rfl)
  (h1:(assignEach [tg] X.env).map (·.2) = [assign tg X.env]:=by rfl):PS X (.Assign [tg] e pos) (Zla te g):=by
 intro pins s σ H D I h
 refine wpAny_Assign_stores (YR (he pins s σ H _ I h) fun v s1 ⟨x,H1,I1,r1,q1⟩=>?_) hs hw
 rw [h1]
 exact YR (hg pins s1 σ H1 x v _ I1 r1 q1) fun _ s2 q=>q
theorem Zp {i:Nat}{x:Str}{e:Expr}{te:TE}{pos':Pos} (hN:X.N.Nodup) (hi:X.N[i]? = some x) (hx:Loc X.env.scope x) (he:PE X e te) (hs:swapsWith e (some (.Name x pos')) pos.line X.env=pure false:=by rfl) (hf:X.fn x=true∨X.env.scope.names.lookup x=some .local:=by first | exact .inl rfl | exact .inr rfl | assumption):
  PS X (.Assign [.Name x pos'] e pos) (Zla te (Zfa i)):=by
 intro pins s σ H D I h
 refine wpAny_Assign_Name (YR (he pins s σ H _ I h) fun v s1 ⟨y,H1,I1,r1,q1⟩=>?_) hs
 exact Uu I1 hN hi hx r1 (fun s2 I2=>⟨_,H1,I2,q1⟩) hf
def Zpb (i j:Nat) (ta:TA):TS:=fun D σ H=>ta σ H fun vs H1=>∃v w,vs = [v,w]/\D.nx ((σ.set i (some v)).set j (some w)) H1
theorem ZkA {i j:Nat}{x y:Str}{a b:Expr}{ta:TA}{px py pt:Pos}{kt k2 pt2} (hc:X.calm=true) (hN:X.N.Nodup) (hi:X.N[i]? = some x) (hj:X.N[j]? = some y) (hij:i≠j)
  (hx:X.env.scope.names.lookup x=some .local) (hy:X.env.scope.names.lookup y=some .local) (ha:PA X [a,b] ta)
  (hw:swappedStores [.Tuple [.Name x px,.Name y py] kt pt] (.Tuple [a,b] k2 pt2) X.env=pure (some [x,y]))
  (hs:swapsWithSole [.Tuple [.Name x px,.Name y py] kt pt] (.Tuple [a,b] k2 pt2) pos.line X.env=pure false:=by rfl):
  PS X (.Assign [.Tuple [.Name x px,.Name y py] kt pt] (.Tuple [a,b] k2 pt2) pos) (Zpb i j ta):=by
 intro pins s σ H D I h
 rw [exec_Assign_arm]
 refine wpAny_bind (wpAny_standAt ?_)
 rw [hs]
 refine wpAny_bind (wpAny_pure ?_)
 rw [if_neg (by decide)]
 refine wpAny_bind (Tuple_ (YR (ha _ pins s σ H _ I h) fun us s1 ⟨vs,H1,I1,r1,q1⟩=>?_))
 obtain ⟨v,w,e1,q1⟩:=q1
 subst e1
 obtain ⟨u1,u2,rfl,rv,rw'⟩:∃u1 u2,us = [u1,u2]/\RelV v u1/\RelV w u2:=by
  cases r1 with
  | cons p q=>
   cases q with
   | cons p' q'=>
    cases q'
    exact ⟨_,_,rfl,p,p'⟩
 refine wpAny_newObj_type ?_ (by show 2<=sizeLine;decide)
 have I2:Inv X pins σ H1 { s1 with heap:=s1.heap.push { cls:=.type "tuple", data:=.seq [u1,u2].toArray } }:=I1.kept (t':=s1.toks) fun b o e=>Heap.get?_push_of_some _ e
 rw [hw]
 refine wpAny_bind (wpAny_pure ?_)
 show wpAny (model X.prog X.w) X.A (do rule "assign.swapped-stores"; let items <- unpackItems (.ref s1.heap.objs.size) 2 none;assignInOrder [fun v=>bindName X.env y v,fun v=>bindName X.env x v] items.reverse;pure Flow.next) _ _ _
 refine wpAny_bind (wpAny_rule (wpAny_bind (unpackItems_tuple (items:=#[u1,u2]) (I.ok.hd hc) (IsTup.new s1.heap _) fun h' hx'=>?_)))
 have I3:=I2.kept (h':=h') (t':=s1.toks) fun b o e=>hx' b o (Nat.ne_of_lt (Heap.lt_size e)) e
 show wpAny _ _ (assignInOrder [fun v=>bindName X.env y v,fun v=>bindName X.env x v] [u2,u1] >>= fun _=>pure Flow.next) _ _ _
 refine wpAny_bind (assignInOrder_cons (wpAny_bindName (Uu I3 hN hj (.inl hy) rw' (fun s2 I4=>?_) (.inr hy))))
 refine assignInOrder_cons (wpAny_bindName (Uu I4 hN hi (.inl hx) rv (fun s3 I5=>assignInOrder_nil (wpAny_pure ?_)) (.inr hx)))
 rw [List.set_comm _ _ (Ne.symm hij)] at I5
 exact ⟨_,H1,I5,q1⟩
def Zpv (i:Nat) (te:TE) (ti:TIp):TS:=fun D σ H=>∃x,σ[i]? = some (some x)/\te σ H fun y H1=>ti x y H1 fun z H2=>D.nx (σ.set i (some z)) H2
theorem Zka {i:Nat}{x:Str}{e:Expr}{te:TE}{op:Operator}{ti:TIp}{pos':Pos} (hN:X.N.Nodup) (hi:X.N[i]? = some x) (hx:Loc X.env.scope x) (he:PE X e te) (ho:PIp X op ti) (hf:X.fn x=true∨X.env.scope.names.lookup x=some .local:=by first | exact .inl rfl | exact .inr rfl | assumption):
  PS X (.AugAssign (.Name x pos') op e pos) (Zpv i te ti):=by
 intro pins s σ H D I h
 obtain ⟨v,e1,h⟩:=h
 obtain ⟨m,hn,hl⟩:=I.loc
 have vis:Vis X.env.scope x:=by rcases hx with k | k;exact .inl k;exact .inr (.inl k)
 obtain ⟨u,r,l⟩:=hl i x v hi e1 vis
 refine wpAny_AugAssign_Name ?_
 have go:wpAny (model X.prog X.w) X.A (eval e X.env) (fun w s₂=>wpAny (model X.prog X.w) X.A (inplaceOp op u w) (fun r s₃=>wpAny (model X.prog X.w) X.A (storeName X.env x r) (fun _=>SP X pins D .next) X.xe s₃) X.xe s₂) X.xe s:=by
  refine YR (he pins s σ H _ I h) fun w s1 ⟨y,H1,I1,r1,q1⟩=>?_
  refine YR (ho pins s1 σ H1 v y u w _ I1 r r1 q1) fun z s2 ⟨zv,H2,I2,r2,q2⟩=>?_
  exact Uu I2 hN hi hx r2 (fun s3 I3=>⟨_,H2,I3,q2⟩) hf
 rcases l with ⟨hk,hm⟩ | ⟨hk,c,hc,hcell⟩
 ·exact wpAny_loadName_local I.ok.kind hk hn hm go
 ·rcases hk with hk | hk
  ·exact wpAny_loadName_cell I.ok.kind hk hc hcell go
  ·rcases hx with k | k
   ·have:X.env.scope.names.lookup x=some .free:=hk
    rw [k] at this;cases this
   ·have:X.env.scope.names.lookup x=some .free:=hk
    rw [k] at this;cases this
def ipI (f:Int->Int->Int):TIp:=fun x y H Q=>∃i j,x = .int i/\y = .int j/\Q (.int (f i j)) H
theorem Zn1:PIp X .Add (ipI fun i j=>i+j):=by
 intro pins s σ H x y v u Q I r1 r2 h
 obtain ⟨i,j,e1,e2,q⟩:=h
 subst e1;subst e2
 obtain ⟨t,rfl⟩:=r1
 obtain ⟨t',rfl⟩:=r2
 exact iadd_int ⟨.int _,H,I.tok _,⟨_,rfl⟩,q⟩
theorem Znf:PIp X .Sub (ipI fun i j=>i-j):=by
 intro pins s σ H x y v u Q I r1 r2 h
 obtain ⟨i,j,e1,e2,q⟩:=h
 subst e1;subst e2
 obtain ⟨t,rfl⟩:=r1
 obtain ⟨t',rfl⟩:=r2
 exact isub_int ⟨.int _,H,I.tok _,⟨_,rfl⟩,q⟩
end
section
variable {X:Cx}{pos:Pos}
def Zks (c:TT) (tb:TS):TS:=fun D σ H=>∃W:Nat->St->Hp->Prop,(∃m,W m σ H) /\ ∀m σ H,W m σ H ->
 c σ H fun b H1=>if b=true then ∃N:St->Hp->Prop,(∀ σ' H',N σ' H' -> ∃m',m'<m/\W m' σ' H')/\tb { D with nx:=N,ct:=N,bk:=D.nx } σ H1 else D.nx σ H1
theorem ZbL {c:Expr}{body:List Stmt}{tc:TT}{tb:TS} (hp:PassesOwn (model X.prog X.w) X.A X.env X.xe) (hc:PT X c tc) (hb:PSs X body tb):PS X (.While c body [] pos) (Zks tc tb):=by
 intro pins s σ H D I h
 obtain ⟨W,⟨m0,w0⟩,turn⟩:=h
 refine wpAny_While (codeAny_whileLoop (fun n s'=>∃ σ' H',Inv X pins σ' H' s'/\W n σ' H') ?_ m0 ⟨σ,H,I,w0⟩)
 rintro n s1 ⟨σ1,H1,I1,w1⟩
 refine wpAny_passesOwn hp (YR (hc pins s1 σ1 H1 _ I1 (turn n σ1 H1 w1)) fun b s2 ⟨H2,I2,q2⟩=>?_)
 cases b with
 | true=>
  obtain ⟨N,hN,q2⟩:=q2
  rw [if_pos rfl]
  refine wpAny_passesOwn hp (YR (hb pins s2 σ1 H2 _ I2 q2) fun f s3 q3=>?_)
  cases f with
  | next=>
   obtain ⟨σ3,H3,I3,n3⟩:=q3
   obtain ⟨m',hm,w3⟩:=hN σ3 H3 n3
   exact ⟨m',hm,σ3,H3,I3,w3⟩
  | cont=>
   obtain ⟨σ3,H3,I3,n3⟩:=q3
   obtain ⟨m',hm,w3⟩:=hN σ3 H3 n3
   exact ⟨m',hm,σ3,H3,I3,w3⟩
  | brk=>exact q3
  | ret v=>exact q3
 | false=>
  rw [if_neg Bool.false_ne_true]
  exact wpAny_execs_nil ⟨σ1,H2,I2,q2⟩
end
structure It where
 go:Nat->Hp->Prop
 yld:Nat->Hp->V->Hp->Prop
 stop:Nat->Hp->Prop
def ZcF (X:Cx) (pins:List (Addr×Obj)) (H:Hp) (b:Addr):Prop:=
 H b=none/\b≠X.env.locals/\b∉X.fs/\(b∈X.ex∨X.s₀.heap.objs.size<=b)/\(∀x c,X.env.cells.lookup x=some c->c≠b) /\ ∀p∈X.pn++pins,p.1≠b
theorem Inv.fpOk {X:Cx}{pins:List (Addr×Obj)} {σ:St}{H H':Hp}{s:Shared}{b:Addr} (I:Inv X pins σ H s) (hb:s.heap.objs.size<=b) (hn:H' b=none):ZcF X pins H' b:=by
 refine ⟨hn,Nat.ne_of_gt (Nat.lt_of_lt_of_le I.lt hb),I.nofs hb,.inr (Nat.le_trans I.sz hb),fun x c e z=>?_,fun p hp z=>?_⟩
 ·obtain ⟨v,q⟩:=I.cell x c e
  exact absurd (Nat.lt_of_lt_of_le q.lt (by rw [z];exact hb)) (Nat.lt_irrefl _)
 ·exact absurd (Nat.lt_of_lt_of_le (Heap.lt_size (I.pin p hp).1) (by rw [z];exact hb)) (Nat.lt_irrefl _)
structure Turn (P:Program) (w:World) (K:PySem.W.Frag) (tg:Expr) (J:It) (fp:List Addr) (it:Addr) (tn:Nat->Heap->Prop):Prop where
 mem:it∈fp
 obj:∀i h,tn i h -> ∀b∈fp,∃o,h.get? b=some o /\ ∀v,o.data ≠ .cell v
 keep:∀i h h',tn i h->(∀b∈fp,∀o,h.get? b=some o->h'.get? b=some o)->tn i h'
 item:∀(X:Cx),X.prog=P->X.w=w->X.K=K->X.calm=true -> ∀(i:Nat) (pins:List (Addr×Obj)) (s:Shared) (σ:St) (H:Hp) (E:Value->Shared->Prop),Inv X pins σ H s->(∀b∈fp,ZcF X pins H b)->tn i s.heap->J.go i H ->
  wpAny (model P w) X.A (pyNext (.ref it)) (fun r s1=>∃u,r=some u /\
   wpAny (model P w) X.A (letOwnedTupleGo tg (.ref it) u) (fun _ s2=>∃x H',Inv X pins σ H' s2/\RelV x u/\J.yld i H x H'/\tn (i+1) s2.heap /\ ∀b∈fp,H' b=none) E s1) E s
 done:∀(X:Cx),X.prog=P->X.w=w->X.K=K->X.calm=true -> ∀(i:Nat) (pins:List (Addr×Obj)) (s:Shared) (σ:St) (H:Hp) (E:Value->Shared->Prop),Inv X pins σ H s->(∀b∈fp,ZcF X pins H b)->tn i s.heap->J.stop i H ->
  wpAny (model P w) X.A (pyNext (.ref it)) (fun r s1=>r=none/\Inv X pins σ H s1) E s
 self:∀(A:Around) (i:Nat) (s:Shared) (Q:Value->Shared->Prop) (E:Value->Shared->Prop),tn i s.heap->Q (.ref it) s->wpAny (model P w) A (pyIter (.ref it)) Q E s
abbrev TI:=St->Hp->(It->Hp->Prop)->Prop
def PIE (X:Cx) (pins:List (Addr×Obj)) (σ:St) (tg:Expr) (R:It->Hp->Prop) (itv:Value) (s2:Shared):Prop:=
 ∃(it:Addr) (fp:List Addr) (tn:Nat->Heap->Prop) (J:It) (H':Hp),itv = .ref it/\Inv X pins σ H' s2/\Turn X.prog X.w X.K tg J fp it tn/\tn 0 s2.heap/\(∀b∈fp,ZcF X pins H' b)/\R J H'
def PI (X:Cx) (tg iter:Expr) (wi:TI):Prop:=
 ∀(pins:List (Addr×Obj)) (s:Shared) (σ:St) (H:Hp) (R:It->Hp->Prop),Inv X pins σ H s->wi σ H R ->
  wpAny (model X.prog X.w) X.A (eval iter X.env) (fun v s1=>wpAny (model X.prog X.w) X.A (pyIter v) (PIE X pins σ tg R) X.xe s1) X.xe s
theorem ZgR {M:Model}{A:Around}{E:Value->Shared->Prop}{s:Shared}{tg:Expr}{it:Addr}{u:Value}{o:Obj}{n:String}{vs:Array Value}{Q:Unit->Shared->Prop} (ho:s.heap.get? it=some o) (hc:o.cls = .type n) (hd:o.data = .fields vs)
    (hn:["enumerate", "zip", "dict_itemiterator", "dict_reverseitemiterator", "odict_iterator", "itertools.zip_longest", "itertools.pairwise"].contains n=false) (hQ:Q () s):wpAny M A (letOwnedTupleGo tg (.ref it) u) Q E s:=by
  unfold letOwnedTupleGo
  cases tg<;>first
    | exact wpAny_pure hQ
    | (cases u<;>first
        | exact wpAny_pure hQ
        | (refine wpAny_bind (wpAny_load ho ?_)
           rw [hc,hd]
           show wpAny M A (if (["enumerate", "zip", "dict_itemiterator", "dict_reverseitemiterator", "odict_iterator", "itertools.zip_longest", "itertools.pairwise"].contains n&&vs[0]? == some (rawInt _))=true then _ else _) Q E s
           rw [if_neg (by intro h;rw [hn,Bool.false_and] at h;cases h)]
           exact wpAny_pure hQ))
def Itl (K:PySem.W.Frag) (a:Addr):It:=
 ⟨fun i H=>∃xs x,Zu K H a xs/\xs[i]? = some x,fun i H x H'=>H'=H /\ ∀xs,Zu K H a xs->xs[i]? = some x,fun i H=>∃xs,Zu K H a xs/\xs.length<=i⟩
def Itt (K:PySem.W.Frag) (a:Addr):It:=
 ⟨fun i H=>∃xs x,YT K H a xs/\xs[i]? = some x,fun i H x H'=>H'=H /\ ∀xs,YT K H a xs->xs[i]? = some x,fun i H=>∃xs,YT K H a xs/\xs.length<=i⟩
def Itr (lo:Int) (n:Nat):It:=⟨fun i _=>i<n,fun i H x H'=>H'=H/\x = .int (lo+i),fun i _=>n<=i⟩
theorem Zjj {P:Program}{w:World}{K:PySem.W.Frag}{tg:Expr} (a it:Addr):Turn P w K tg (Itl K a) [it] it (fun i h=>h.IsListIter it a i) where
 mem:=by simp
 obj:=fun i h st b hb=>by
  have e:b=it:=by simpa using hb
  subst e
  obtain ⟨o,e,c,d⟩:=st
  exact ⟨o,e,fun v z=>by rw [d] at z;cases z⟩
 keep:=fun i h h' st k=>st.at fun o e=>k it (by simp) o e
 item:=by
  intro X hP hw hK hc i pins s σ H E I hf st hg
  subst hP hw hK
  obtain ⟨xs,x,hq,hx⟩:=hg
  obtain ⟨its,rv,p,hz⟩:=I.list hq
  obtain ⟨u,hu,ru⟩:=rv.get hx
  obtain ⟨f0,f1,f2,f3,f4,f5⟩:=hf it (by simp)
  refine wpAny_pyNext_list_item st p.isList (x:=u) (by simpa using hu) fun h' st' sb=>?_
  have I1:Inv X pins σ H { s with heap:=h' }:=I.turned (t':=s.toks) (fun b o hb e=>(sb.2 b hb).trans e) f0 f1 f3 f4 f5
  obtain ⟨o,e,c,d⟩:=id st'
  exact ⟨u,rfl,ZgR (s:={ s with heap:=h' }) e c d (by decide) ⟨x,H,I1,ru,⟨rfl,fun ys hy=>by rw [I.list_inj hy hq];exact hx⟩,st',fun b hb=>(hf b hb).1⟩⟩
 done:=by
  intro X hP hw hK hc i pins s σ H E I hf st hg
  subst hP hw hK
  obtain ⟨xs,hq,hx⟩:=hg
  obtain ⟨its,rv,p,hz⟩:=I.list hq
  obtain ⟨f0,f1,f2,f3,f4,f5⟩:=hf it (by simp)
  have hl:=rv.length
  exact wpAny_pyNext_list_end (I.ok.hd hc) st p.isList (by simp;lia) fun h' eb=>⟨rfl,I.turned (t':=s.toks) (fun b o hb e=>eb b o hb e) f0 f1 f3 f4 f5⟩
 self:=fun _ _ _ _ _ st h=>wpAny_pyIter_listiter st h
theorem Zhv {P:Program}{w:World}{K:PySem.W.Frag}{tg:Expr} (a it:Addr):Turn P w K tg (Itt K a) [it] it (fun i h=>h.IsTupleIter it a i) where
 mem:=by simp
 obj:=fun i h st b hb=>by
  have e:b=it:=by simpa using hb
  subst e
  obtain ⟨o,e,c,d⟩:=st
  exact ⟨o,e,fun v z=>by rw [d] at z;cases z⟩
 keep:=fun i h h' st k=>st.at fun o e=>k it (by simp) o e
 item:=by
  intro X hP hw hK hc i pins s σ H E I hf st hg
  subst hP hw hK
  obtain ⟨xs,x,hq,hx⟩:=hg
  obtain ⟨its,rv,p,hz⟩:=I.tuple hq
  obtain ⟨u,hu,ru⟩:=rv.get hx
  obtain ⟨f0,f1,f2,f3,f4,f5⟩:=hf it (by simp)
  refine wpAny_pyNext_tuple_item st (show s.heap.IsTuple a its.toArray from p) (x:=u) (by simpa using hu) fun h' st' sb=>?_
  have I1:Inv X pins σ H { s with heap:=h' }:=I.turned (t':=s.toks) (fun b o hb e=>(sb.2 b hb).trans e) f0 f1 f3 f4 f5
  obtain ⟨o,e,c,d⟩:=id st'
  exact ⟨u,rfl,ZgR (s:={ s with heap:=h' }) e c d (by decide) ⟨x,H,I1,ru,⟨rfl,fun ys hy=>by rw [I.tuple_inj hy hq];exact hx⟩,st',fun b hb=>(hf b hb).1⟩⟩
 done:=by
  intro X hP hw hK hc i pins s σ H E I hf st hg
  subst hP hw hK
  obtain ⟨xs,hq,hx⟩:=hg
  obtain ⟨its,rv,p,hz⟩:=I.tuple hq
  obtain ⟨f0,f1,f2,f3,f4,f5⟩:=hf it (by simp)
  have hl:=rv.length
  exact wpAny_pyNext_tuple_end (I.ok.hd hc) st (show s.heap.IsTuple a its.toArray from p) (by simp;lia) fun h' eb=>⟨rfl,I.turned (t':=s.toks) (fun b o hb e=>eb b o hb e) f0 f1 f3 f4 f5⟩
 self:=fun _ _ _ _ _ st h=>wpAny_pyIter_tupleiter st h
theorem Zed {P:Program}{w:World}{K:PySem.W.Frag}{tg:Expr} (it:Addr) (lo:Int) (n:Nat):Turn P w K tg (Itr lo n) [it] it (fun i h=>IsRangeIter h it (lo+(i:Nat)*1) ((n:Int)-(i:Nat)) 1) where
 mem:=by simp
 obj:=fun i h st b hb=>by
  have e:b=it:=by simpa using hb
  subst e
  exact ⟨_,st,fun v z=>by
   have z':Data.fields _=Data.cell v:=z
   cases z'⟩
 keep:=fun i h h' st k=>k it (by simp) _ st
 item:=by
  intro X hP hw hK hc i pins s σ H E I hf st hg
  subst hP hw hK
  obtain ⟨f0,f1,f2,f3,f4,f5⟩:=hf it (by simp)
  have W:=Walks.range (prog:=X.prog) (w:=X.w) (I.ok.hd hc) it lo 1 n
  refine W.item i s _ _ hg st fun v h' tk hv st' kk=>?_
  obtain ⟨t,rfl⟩:=hv
  have I1:Inv X pins σ H { s with heap:=h',toks:=tk }:=I.turned (fun b o hb e=>kk b o (by simpa using hb) e) f0 f1 f3 f4 f5
  refine ⟨_,rfl,ZgR (s:={ s with heap:=h',toks:=tk }) (n := "range_iterator") st' rfl rfl (by decide) ⟨.int (lo+i),H,I1,⟨t,?_⟩,⟨rfl,rfl⟩,st',fun b hb=>(hf b hb).1⟩⟩
  rw [Int.mul_one]
 done:=by
  intro X hP hw hK hc i pins s σ H E I hf st hg
  subst hP hw hK
  obtain ⟨f0,f1,f2,f3,f4,f5⟩:=hf it (by simp)
  exact wpAny_pyNext_range_end (I.ok.hd hc) st (by have:n<=i:=hg;lia) fun h' eb=>⟨rfl,I.turned (t':=s.toks) (fun b o hb e=>eb b o hb e) f0 f1 f3 f4 f5⟩
 self:=fun _ _ _ _ _ st h=>wpAny_pyIter_rangeiter st h
section
variable {X:Cx}{tg:Expr}
def ZmI (K:PySem.W.Frag) (tl:TE):TI:=fun σ H R=>tl σ H fun x H1=>∃a,x = .ref a/\(∃xs,Zu K H1 a xs)/\R (Itl K a) H1
def ZoR (K:PySem.W.Frag) (tl:TE):TI:=fun σ H R=>tl σ H fun x H1=>∃a,x = .ref a/\(∃xs,YT K H1 a xs)/\R (Itt K a) H1
theorem Zmt {l:Expr}{tl:TE} (hl:PE X l tl):PI X tg l (ZmI X.K tl):=by
 intro pins s σ H R I h
 refine YR (hl pins s σ H _ I h) fun v s1 ⟨x,H1,I1,r1,q1⟩=>?_
 obtain ⟨a,e,⟨xs,hq⟩,q⟩:=q1
 subst e
 cases r1
 obtain ⟨its,rv,p,hz⟩:=I1.list hq
 refine wpAny_pyIter_list p.isList ?_
 refine ⟨s1.heap.objs.size,[s1.heap.objs.size],_,_,H1,rfl,I1.kept (t':=s1.toks) fun b o e=>Heap.get?_push_of_some _ e,Zjj a _,⟨_,Heap.get?_push_size _ rfl,rfl,rfl⟩,fun b hb=>?_,q⟩
 have e:b=s1.heap.objs.size:=by simpa using hb
 subst e
 exact I1.fpOk (Nat.le_refl _) (I1.hok.fresh (Nat.le_refl _))
theorem ZnZ {l:Expr}{tl:TE} (hl:PE X l tl):PI X tg l (ZoR X.K tl):=by
 intro pins s σ H R I h
 refine YR (hl pins s σ H _ I h) fun v s1 ⟨x,H1,I1,r1,q1⟩=>?_
 obtain ⟨a,e,⟨xs,hq⟩,q⟩:=q1
 subst e
 cases r1
 obtain ⟨its,rv,p,hz⟩:=I1.tuple hq
 refine wpAny_pyIter_tuple (show s1.heap.IsTuple a its.toArray from p) ?_
 refine ⟨s1.heap.objs.size,[s1.heap.objs.size],_,_,H1,rfl,I1.kept (t':=s1.toks) fun b o e=>Heap.get?_push_of_some _ e,Zhv a _,⟨_,Heap.get?_push_size _ rfl,rfl,rfl⟩,fun b hb=>?_,q⟩
 have e:b=s1.heap.objs.size:=by simpa using hb
 subst e
 exact I1.fpOk (Nat.le_refl _) (I1.hok.fresh (Nat.le_refl _))
theorem Zj9 {pins:List (Addr×Obj)} {σ:St}{H:Hp}{s:Shared}{R:It->Hp->Prop}{E:Value->Shared->Prop}{lo hi:Int}{t u v:Tok}{tk:Nat} (I:Inv X pins σ H s) (h1 : -(2 ^ 62)<=lo) (h2:lo<2 ^ 62) (h3 : -(2 ^ 62)<=hi) (h4:hi<2 ^ 62)
  (q:R (Itr lo (hi-lo).toNat) H):wpAny (model X.prog X.w) X.A (pyIter (.ref s.heap.objs.size)) (PIE X pins σ tg R) E { s with heap:=s.heap.push { cls:=.type "range", data:=.fields #[.int lo t,.int hi u,.int 1 v] },toks:=tk }:=by
 refine wpAny_pyIter_range (IsRange.new ..) (small_one h1 h2 h3 h4) ?_
 have I1:Inv X pins σ H { s with heap:=s.heap.push { cls:=.type "range", data:=.fields #[.int lo t,.int hi u,.int 1 v] },toks:=tk }:=I.kept fun b o e=>Heap.get?_push_of_some _ e
 refine ⟨(s.heap.push { cls:=.type "range", data:=.fields #[.int lo t,.int hi u,.int 1 v] }).objs.size,[(s.heap.push { cls:=.type "range", data:=.fields #[.int lo t,.int hi u,.int 1 v] }).objs.size],_,_,H,rfl,
  I1.kept (t':=tk) fun b o e=>Heap.get?_push_of_some _ e,Zed _ lo (hi-lo).toNat,?_,fun b hb=>?_,q⟩
 ·have e1:lo+((0:Nat):Int)*1=lo:=by simp
  have e2:(((hi-lo).toNat:Nat):Int)-((0:Nat):Int)=Builtin.Range.rangeSize lo hi 1:=by rw [rangeSize_one];split<;>lia
  show IsRangeIter _ _ (lo+((0:Nat):Int)*1) ((((hi-lo).toNat:Nat):Int)-((0:Nat):Int)) 1
  rw [e1,e2]
  exact Heap.get?_push_size _ rfl
 ·have e:b=(s.heap.push { cls:=.type "range", data:=.fields #[.int lo t,.int hi u,.int 1 v] }).objs.size:=by simpa using hb
  subst e
  exact I1.fpOk (Nat.le_refl _) (I1.hok.fresh (Nat.le_refl _))
def ZoF (ta:TA):TI:=fun σ H R=>ta σ H fun vs H1=>∃j:Int,vs = [.int j] /\ -(2 ^ 62)<=j/\j<2 ^ 62/\R (Itr 0 j.toNat) H1
theorem YK {a:Expr}{ta:TA}{p pos:Pos} (hg:Gl X "range") (hm:X.mg "range" = none) (ha:PA X [a] ta) (hs:starEach [a] X.env = [(false,eval a X.env)]:=by rfl):PI X tg (.Call (.Name "range" p) [a] [] pos) (ZoF ta):=by
 intro pins s σ H R I h
 refine Call_ (GZ I hg hm boot_range (PyProof.Rows.callWith_type1 (YR (ha pos pins s σ H _ I h) fun us s1 ⟨vs,H1,I1,r1,q1⟩=>?_) hs rfl))
 obtain ⟨j,e,q1,q2,q⟩:=q1
 subst e
 cases r1 with
 | cons r rr=>
  cases rr
  obtain ⟨t,rfl⟩:=r
  exact call_range_1 (Zj9 I1 (by lia) (by lia) q1 q2 (by simpa using q))
def ZpD (wi:TI) (g:TG) (tb:TS):TS:=fun D σ H=>wi σ H fun J H1=>∃W:Nat->Nat->St->Hp->Prop,(∃m,W 0 m σ H1) /\ ∀i m σ H,W i m σ H ->
 (J.stop i H/\D.nx σ H)∨(J.go i H /\ ∃N:St->Hp->Prop,(∀ σ' H',N σ' H' -> ∃m',m'<m/\W (i+1) m' σ' H') /\ ∀x H',J.yld i H x H'->g x σ H' fun σ2 H2=>tb { D with nx:=N,ct:=N,bk:=D.nx } σ2 H2)
def ZdG (fp:List Addr) (h:Heap):List (Addr×Obj):=fp.filterMap fun b=>(h.get? b).map fun o=>(b,o)
theorem UZ {fp:List Addr}{h:Heap}{b:Addr}{o:Obj} (hb:b∈fp) (e:h.get? b=some o):(b,o)∈ZdG fp h:=List.mem_filterMap.mpr ⟨b,hb,by rw [e];rfl⟩
theorem Zjd {fp:List Addr}{h:Heap}{p:Addr×Obj} (hp:p∈ZdG fp h):p.1∈fp/\h.get? p.1=some p.2:=by
 obtain ⟨b,hb,e⟩:=List.mem_filterMap.mp hp
 cases q:h.get? b with
 | none=>rw [q] at e;cases e
 | some o=>
  rw [q] at e
  have e':(b,o)=p:=Option.some.inj e
  subst e'
  exact ⟨hb,q⟩
theorem Inv.pinned {pins:List (Addr×Obj)} {σ:St}{H:Hp}{s:Shared}{fp:List Addr} (I:Inv X pins σ H s) (hf:∀b∈fp,ZcF X pins H b) (ho:∀b∈fp,∃o,s.heap.get? b=some o /\ ∀v,o.data ≠ .cell v):Inv X (pins++ZdG fp s.heap) σ H s:=
 I.pins_of fun p hp=>(List.mem_append.mp hp).elim (fun z=>I.pin p (List.mem_append_right _ z)) fun z=>by
  obtain ⟨hb,e⟩:=Zjd z
  obtain ⟨f0,f1,f2,_⟩:=hf p.1 hb
  obtain ⟨o,e',d⟩:=ho p.1 hb
  rw [e] at e';cases e'
  exact ⟨e,f0,f1,f2,d⟩
theorem Inv.unpinned {pins pl:List (Addr×Obj)} {σ:St}{H:Hp}{s:Shared} (I:Inv X (pins++pl) σ H s):Inv X pins σ H s:=I.pins_of fun p hp=>I.pin p (List.mem_append_right _ (List.mem_append_left _ hp))
theorem Yq {iter:Expr}{body:List Stmt}{wi:TI}{g:TG}{tb:TS}{pos:Pos} (hp:PassesOwn (model X.prog X.w) X.A X.env X.xe) (hc:X.calm=true) (hi:PI X tg iter wi) (hg:PG X tg g) (hb:PSs X body tb)
  (hs:∀x,foldedSetIterable iter X.env x=pure x:=by intro _;rfl):PS X (.For tg iter body [] pos) (ZpD wi g tb):=by
 intro pins s σ H D I h
 refine wpAny_For (YR (hi pins s σ H _ I h) fun v s1 h1=>YR h1 fun itv s2 h2=>?_) hs
 obtain ⟨it,fp,tn,J,H2,e,I2,T,st2,f2,W,⟨m0,w0⟩,turn⟩:=h2
 subst e
 have stat:∀{H':Hp},(∀b∈fp,H' b=none) -> ∀b∈fp,ZcF X pins H' b:=fun hn b hb=>⟨hn b hb,(f2 b hb).2⟩
 refine codeAny_forLoop_any (fun n s'=>∃i σ' H',Inv X pins σ' H' s'/\tn i s'.heap/\(∀b∈fp,H' b=none)/\W i n σ' H') ?_ m0 ⟨0,σ,H2,I2,st2,fun b hb=>(f2 b hb).1,w0⟩
 rintro n s3 ⟨i,σ3,H3,I3,st3,fr3,w3⟩
 rcases turn i n σ3 H3 w3 with ⟨stop,qn⟩ | ⟨go,N,hN,step⟩
 ·refine wpAny_passesOwn hp (YR (T.done X rfl rfl rfl hc i pins s3 σ3 H3 X.xe I3 (stat fr3) st3 stop) fun r s4 ⟨hr,I4⟩=>?_)
  subst hr
  exact wpAny_execs_nil ⟨σ3,H3,I4,qn⟩
 ·refine wpAny_passesOwn hp (YR (T.item X rfl rfl rfl hc i pins s3 σ3 H3 X.xe I3 (stat fr3) st3 go) fun r s4 ⟨u,hr,h4⟩=>?_)
  subst hr
  refine wpAny_passesOwn hp (YR h4 fun _ s5 ⟨x,H5,I5,r5,y5,st5,fr5⟩=>?_)
  have I5':=I5.pinned (stat fr5) (T.obj _ _ st5)
  refine wpAny_passesOwn hp (YR (hg _ s5 σ3 H5 x u _ I5' r5 (step x H5 y5)) fun _ s6 ⟨σ6,H6,I6,q6⟩=>?_)
  refine wpAny_passesOwn hp (YR (hb _ s6 σ6 H6 _ I6 q6) fun f s7 q7=>?_)
  have again:∀{σ7:St}{H7:Hp},Inv X (pins++ZdG fp s5.heap) σ7 H7 s7->N σ7 H7 -> ∃m,m<n /\ ∃i σ' H',Inv X pins σ' H' s7/\tn i s7.heap/\(∀b∈fp,H' b=none)/\W i m σ' H':=fun {σ7 H7} I7 n7=>by
   obtain ⟨m',hm,w7⟩:=hN σ7 H7 n7
   refine ⟨m',hm,i+1,σ7,H7,I7.unpinned,T.keep _ _ _ st5 fun b hb o e=>(I7.pin (b,o) (List.mem_append_right _ (List.mem_append_right _ (UZ hb e)))).1,fun b hb=>?_,w7⟩
   obtain ⟨o,e,d⟩:=T.obj _ _ st5 b hb
   exact (I7.pin (b,o) (List.mem_append_right _ (List.mem_append_right _ (UZ hb e)))).2.1
  cases f with
  | next=>obtain ⟨σ7,H7,I7,n7⟩:=q7;exact again I7 n7
  | cont=>obtain ⟨σ7,H7,I7,n7⟩:=q7;exact again I7 n7
  | brk=>obtain ⟨σ7,H7,I7,q7⟩:=q7;exact ⟨σ7,H7,I7.unpinned,q7⟩
  | ret v=>obtain ⟨x7,σ7,H7,I7,r7,q7⟩:=q7;exact ⟨x7,σ7,H7,I7.unpinned,r7,q7⟩
end
theorem JL {K:PySem.W.Frag}{a:Addr}{xs:List V}{g:TG}{tb:TS}{D:Ends} {σ:St}{H:Hp} (Pv:Nat->St->Hp->Prop) (h0:Pv 0 σ H) (hl:∀i σ H,i<=xs.length->Pv i σ H->Zu K H a xs)
  (hs:∀i x σ H,xs[i]? = some x->Pv i σ H->g x σ H fun σ2 H2=>tb { D with nx:=Pv (i+1),ct:=Pv (i+1),bk:=D.nx } σ2 H2) (hd:∀ σ H,Pv xs.length σ H->D.nx σ H):
  ∃W:Nat->Nat->St->Hp->Prop,(∃m,W 0 m σ H) /\ ∀i m σ H,W i m σ H ->
   ((Itl K a).stop i H/\D.nx σ H)∨((Itl K a).go i H /\ ∃N:St->Hp->Prop,(∀ σ' H',N σ' H' -> ∃m',m'<m/\W (i+1) m' σ' H') /\ ∀x H',(Itl K a).yld i H x H'->g x σ H' fun σ2 H2=>tb { D with nx:=N,ct:=N,bk:=D.nx } σ2 H2):=by
 refine ⟨fun i m σ H=>m=xs.length-i/\i<=xs.length/\Pv i σ H,⟨xs.length,by simp,Nat.zero_le _,h0⟩,?_⟩
 rintro i m σ H ⟨rfl,hi,p⟩
 have q:=hl i σ H hi p
 by_cases hlt:i<xs.length
 ·refine .inr ⟨⟨xs,xs[i],q,by simp [hlt]⟩,Pv (i+1),fun σ' H' p'=>⟨xs.length-(i+1),by lia,rfl,hlt,p'⟩,fun x H' y=>?_⟩
  obtain ⟨e,y⟩:=y
  subst e
  exact hs i x σ _ (y xs q) p
 ·have e:i=xs.length:=by lia
  subst e
  exact .inl ⟨⟨xs,q,Nat.le_refl _⟩,hd σ H p⟩
theorem J6 {lo:Int}{n:Nat}{g:TG}{tb:TS}{D:Ends} {σ:St}{H:Hp} (Pv:Nat->St->Hp->Prop) (h0:Pv 0 σ H)
  (hs:∀i σ H,i<n->Pv i σ H->g (.int (lo+i)) σ H fun σ2 H2=>tb { D with nx:=Pv (i+1),ct:=Pv (i+1),bk:=D.nx } σ2 H2) (hd:∀ σ H,Pv n σ H->D.nx σ H):
  ∃W:Nat->Nat->St->Hp->Prop,(∃m,W 0 m σ H) /\ ∀i m σ H,W i m σ H ->
   ((Itr lo n).stop i H/\D.nx σ H)∨((Itr lo n).go i H /\ ∃N:St->Hp->Prop,(∀ σ' H',N σ' H' -> ∃m',m'<m/\W (i+1) m' σ' H') /\ ∀x H',(Itr lo n).yld i H x H'->g x σ H' fun σ2 H2=>tb { D with nx:=N,ct:=N,bk:=D.nx } σ2 H2):=by
 refine ⟨fun i m σ H=>m=n-i/\i<=n/\Pv i σ H,⟨n,by simp,Nat.zero_le _,h0⟩,?_⟩
 rintro i m σ H ⟨rfl,hi,p⟩
 by_cases hlt:i<n
 ·refine .inr ⟨hlt,Pv (i+1),fun σ' H' p'=>⟨n-(i+1),by lia,rfl,hlt,p'⟩,fun x H' y=>?_⟩
  obtain ⟨e,y⟩:=y
  subst e y
  exact hs i σ _ hlt p
 ·have e:i=n:=by lia
  subst e
  exact .inl ⟨Nat.le_refl _,hd σ H p⟩
theorem ZkT {c:TT}{tb:TS}{D:Ends} {σ:St}{H:Hp} (Pv:St->Hp->Prop) (μ:St->Hp->Nat) (h0:Pv σ H)
  (hs:∀ σ H,Pv σ H->c σ H fun b H1=>if b=true then tb { D with nx:=fun σ' H'=>Pv σ' H' /\ μ σ' H' < μ σ H,ct:=fun σ' H'=>Pv σ' H' /\ μ σ' H' < μ σ H,bk:=D.nx } σ H1 else D.nx σ H1)
  (mono:∀ σ H Q Q',(∀b H1,Q b H1->Q' b H1)->c σ H Q->c σ H Q'):Zks c tb D σ H:=by
 refine ⟨fun m σ H=>m = μ σ H/\Pv σ H,⟨_,rfl,h0⟩,?_⟩
 rintro m σ H ⟨rfl,p⟩
 refine mono σ H _ _ (fun b H1 q=>?_) (hs σ H p)
 cases b with
 | true=>exact ⟨_,fun σ' H' ⟨p',l⟩=>⟨_,l,rfl,p'⟩,q⟩
 | false=>exact q
abbrev R2:=V->V->Hp->VK->Prop
def UA (X:Cx) (f:Value->Value->Sem Value) (r:R2):Prop:=
 ∀(pins:List (Addr×Obj)) (s:Shared) (σ:St) (H:Hp) (x y:V) (v u:Value) (Q:VK),Inv X pins σ H s->RelV x v->RelV y u->r x y H Q ->
  wpAny (model X.prog X.w) X.A (f v u) (EP X pins σ Q) X.xe s
def UnR (X:Cx) (f:Value->Sem Value) (r:V->Hp->VK->Prop):Prop:=
 ∀(pins:List (Addr×Obj)) (s:Shared) (σ:St) (H:Hp) (x:V) (v:Value) (Q:VK),Inv X pins σ H s->RelV x v->r x H Q ->
  wpAny (model X.prog X.w) X.A (f v) (EP X pins σ Q) X.xe s
def Jd (X:Cx) (f:Value) (r:List V->Hp->VK->Prop):Prop:=
 ∀(pins:List (Addr×Obj)) (s:Shared) (σ:St) (H:Hp) (xs:List V) (us:List Value) (Q:VK),Inv X pins σ H s->Vals xs us->r xs H Q ->
  wpAny (model X.prog X.w) X.A (call f us) (EP X pins σ Q) X.xe s
def Zpc (X:Cx) (r:V->Hp->(Bool->Hp->Prop)->Prop):Prop:=
 ∀(pins:List (Addr×Obj)) (s:Shared) (σ:St) (H:Hp) (x:V) (v:Value) (Q:Bool->Hp->Prop),Inv X pins σ H s->RelV x v->r x H Q ->
  wpAny (model X.prog X.w) X.A (truthy v) (TP X pins σ Q) X.xe s
def tOp (r:R2) (ta tb:TE):TE:=fun σ H Q=>ta σ H fun x H1=>tb σ H1 fun y H2=>r x y H2 Q
def tUn (r:V->Hp->VK->Prop) (ta:TE):TE:=fun σ H Q=>ta σ H fun x H1=>r x H1 Q
def rI (C:Int->Int->Prop) (g:Int->Int->V):R2:=fun x y H Q=>∃i j,x = .int i/\y = .int j/\C i j/\Q (g i j) H
def rI0 (g:Int->Int->V):R2:=fun x y H Q=>∃i j,x = .int i/\y = .int j/\Q (g i j) H
def rU (g:Int->V):V->Hp->VK->Prop:=fun x H Q=>∃i,x = .int i/\Q (g i) H
section
variable {X:Cx}{a b c:Expr}{ta tb tc:TE}{pos:Pos}
theorem ZnH (ha:PE X a ta) (hb:PE X b tb) {pins:List (Addr×Obj)}{s:Shared} {σ:St}{H:Hp}{R:V->V->Hp->Prop} (I:Inv X pins σ H s)
  (h:ta σ H fun x H1=>tb σ H1 fun y H2=>R x y H2) {Q:Value->Shared->Prop}{f:Value->Value->Sem Value}
  (hf:∀v u s2 x y H2,Inv X pins σ H2 s2->RelV x v->RelV y u->R x y H2->wpAny (model X.prog X.w) X.A (f v u) Q X.xe s2):
  wpAny (model X.prog X.w) X.A (eval a X.env) (fun v s₁=>wpAny (model X.prog X.w) X.A (eval b X.env) (fun u s₂=>wpAny (model X.prog X.w) X.A (f v u) Q X.xe s₂) X.xe s₁) X.xe s:=by
 refine YR (ha pins s σ H _ I h) fun v s1 ⟨x,H1,I1,r1,q1⟩=>?_
 refine YR (hb pins s1 σ H1 _ I1 q1) fun u s2 ⟨y,H2,I2,r2,q2⟩=>?_
 exact hf v u s2 x y H2 I2 r1 r2 q2
theorem Zm {op:Operator}{r:R2} (ho:UA X (binaryOp op) r) (ha:PE X a ta) (hb:PE X b tb):PE X (.BinOp a op b pos) (tOp r ta tb):=by
 intro pins s σ H Q I h
 exact wpAny_BinOp (ZnH ha hb I h fun v u s2 x y H2 I2 rx ry q=>ho pins s2 σ H2 x y v u Q I2 rx ry q)
theorem Zbn {op:UnaryOp}{r:V->Hp->VK->Prop} (ho:UnR X (unaryOp op) r) (ha:PE X a ta):PE X (.UnaryOp op a pos) (tUn r ta):=by
 intro pins s σ H Q I h
 exact UnaryOp_ (YR (ha pins s σ H _ I h) fun v s1 ⟨x,H1,I1,r1,q1⟩=>ho pins s1 σ H1 x v Q I1 r1 q1)
theorem opI {f:Value->Value->Sem Value}{C:Int->Int->Prop}{g:Int->Int->Int}
  (rule:∀(i j:Int) (t u:Tok) (s:Shared) (Q:Value->Shared->Prop) (E:Value->Shared->Prop),C i j->Q (.int (g i j) s.toks) { s with toks:=s.toks+1 } -> wpAny (model X.prog X.w) X.A (f (.int i t) (.int j u)) Q E s):
  UA X f (rI C fun i j=>.int (g i j)):=by
 intro pins s σ H x y v u Q I rx ry h
 obtain ⟨i,j,rfl,rfl,hc,q⟩:=h
 obtain ⟨t,rfl⟩:=rx
 obtain ⟨t',rfl⟩:=ry
 exact rule i j t t' s _ _ hc ⟨.int (g i j),H,I.tok _,⟨_,rfl⟩,q⟩
theorem Zmi {f:Value->Value->Sem Value}{g:Int->Int->Int}
  (rule:∀(i j:Int) (t u:Tok) (s:Shared) (Q:Value->Shared->Prop) (E:Value->Shared->Prop),Q (.int (g i j) s.toks) { s with toks:=s.toks+1 } -> wpAny (model X.prog X.w) X.A (f (.int i t) (.int j u)) Q E s):
  UA X f (rI0 fun i j=>.int (g i j)):=by
 intro pins s σ H x y v u Q I rx ry h
 obtain ⟨i,j,rfl,rfl,q⟩:=h
 obtain ⟨t,rfl⟩:=rx
 obtain ⟨t',rfl⟩:=ry
 exact rule i j t t' s _ _ ⟨.int (g i j),H,I.tok _,⟨_,rfl⟩,q⟩
theorem ZnU {f:Value->Value->Sem Value}{g:Int->Int->Bool}
  (rule:∀(i j:Int) (t u:Tok) (s:Shared) (Q:Value->Shared->Prop) (E:Value->Shared->Prop),Q (.bool (g i j)) s->wpAny (model X.prog X.w) X.A (f (.int i t) (.int j u)) Q E s):
  UA X f (rI0 fun i j=>.bl (g i j)):=by
 intro pins s σ H x y v u Q I rx ry h
 obtain ⟨i,j,rfl,rfl,q⟩:=h
 obtain ⟨t,rfl⟩:=rx
 obtain ⟨t',rfl⟩:=ry
 exact rule i j t t' s _ _ ⟨.bl (g i j),H,I,rfl,q⟩
def Zpr (i j:Int):Prop:=0<j/\j<1073741824
def Zpt (i j:Int):Prop:=0<=j/\j<=1000000/\i.natAbs<2 ^ 64
def Znw (i j:Int):Prop:=(-(2 ^ 64)<i/\i<2 ^ 64)∨(-(2 ^ 64)<j/\j<2 ^ 64)
theorem Znw.ok {i j:Int} (h:Znw i j):IntMulOk i j:=by
 rcases h with ⟨h1,h2⟩ | ⟨h1,h2⟩
 ·exact .of_left (intBits_le_64 h1 h2)
 ·exact .of_right (intBits_le_64 h1 h2)
theorem ZE:UA X (binaryOp .Add) (rI0 fun i j=>.int (i+j)):=Zmi fun _ _ _ _ _ _ _ q=>add_int q
theorem YU:UA X (binaryOp .Sub) (rI0 fun i j=>.int (i-j)):=Zmi fun _ _ _ _ _ _ _ q=>sub_int q
theorem Wn:UA X (binaryOp .Mult) (rI Znw fun i j=>.int (i*j)):=opI fun _ _ _ _ _ _ _ hc q=>mul_int q hc.ok
theorem Zck:UA X (binaryOp .FloorDiv) (rI Zpr fun i j=>.int (i / j)):=opI fun i j _ _ _ _ _ hc q=>by
 have h1:(0:Int)<j:=hc.1
 have h2:j<1073741824:=hc.2
 exact floordiv_int (by lia) (by rw [Int.fdiv_eq_ediv_of_nonneg i (by lia)];exact q) (.inl (PyProof.noPylong_small (by lia)))
theorem GL:UA X (binaryOp .Mod) (rI (fun _ j=>0<j) fun i j=>.int (i % j)):=opI fun i j _ _ _ _ _ hc q=>by
 have h1:(0:Int)<j:=hc
 exact mod_int' (by lia) (by rw [Int.fmod_eq_emod_of_nonneg i (by lia)];exact q)
theorem ZhH:UA X (binaryOp .Pow) (rI Zpt fun i j=>.int (i ^ j.toNat)):=opI fun _ _ _ _ _ _ _ hc q=>pow_int_small hc.1 hc.2.1 hc.2.2 q
theorem Zny:UA X (binaryOp .BitAnd) (rI0 fun i j=>.int (Builtin.bitAnd i j)):=Zmi fun _ _ _ _ _ _ _ q=>and_int q
theorem ZnX:UA X (binaryOp .BitXor) (rI0 fun i j=>.int (Builtin.bitXor i j)):=Zmi fun _ _ _ _ _ _ _ q=>xor_int q
theorem unI {f:Value->Sem Value}{g:Int->Int}
  (rule:∀(i:Int) (t:Tok) (s:Shared) (Q:Value->Shared->Prop) (E:Value->Shared->Prop),Q (.int (g i) s.toks) { s with toks:=s.toks+1 } -> wpAny (model X.prog X.w) X.A (f (.int i t)) Q E s):
  UnR X f (rU fun i=>.int (g i)):=by
 intro pins s σ H x v Q I rx h
 obtain ⟨i,rfl,q⟩:=h
 obtain ⟨t,rfl⟩:=rx
 exact rule i t s _ _ ⟨.int (g i),H,I.tok _,⟨_,rfl⟩,q⟩
theorem Ud:UnR X (unaryOp .USub) (rU fun i=>.int (-i)):=unI fun _ _ _ _ _ q=>neg_int q
end
def Zox:V->V->Bool
 | .non,.non=>true | .non,.int _=>true | .int _,.non=>true | .non,.bl _=>true | .bl _,.non=>true | .non,.str _=>true | .str _,.non=>true
 | .int _,.int _=>true | .bl _,.bl _=>true | .str _,.str _=>true | .byt _,.byt _=>true
 | .int _,.str _=>true | .str _,.int _=>true | .bl _,.str _=>true | .str _,.bl _=>true
 | _,_=>false
def rEq:R2:=fun x y H Q=>Zox x y=true/\Q (.bl (decide (x=y))) H
def rNe:R2:=fun x y H Q=>Zox x y=true/\Q (.bl (!decide (x=y))) H
theorem Zih {i j:Int}:decide (V.int i=V.int j)=(i==j):=by
 rw [Bool.eq_iff_iff]
 simp
theorem ZkY {i j:Bool}:decide (V.bl i=V.bl j)=(i==j):=by
 rw [Bool.eq_iff_iff]
 simp
theorem ZiH {i j:Str}:decide (V.str i=V.str j)=(i==j):=by
 rw [Bool.eq_iff_iff]
 simp
theorem Ziz {i j:Array UInt8}:decide (V.byt i=V.byt j)=(i.toList==j.toList):=by
 rw [Bool.eq_iff_iff]
 cases i
 cases j
 simp
section
variable {X:Cx}{a b c:Expr}{ta tb tc:TE}{pos:Pos}
theorem Ye {pins:List (Addr×Obj)} {σ:St}{H:Hp}{s:Shared}{Q:VK}{k k':Bool} (I:Inv X pins σ H s) (q:Q (.bl k) H) (e:k=k'):EP X pins σ Q (.bool k') s:=by
 subst e
 exact ⟨.bl k,H,I,rfl,q⟩
theorem Yi:UA X (compareOp .Eq) rEq:=by
 intro pins s σ H x y v u Q I rx ry h
 obtain ⟨hs,q⟩:=h
 cases x with
 | non=>
  cases rx
  cases y with
  | non=>cases ry;exact PySem.EqNone.eq_none_none (Ye I q (by simp))
  | bl j=>cases ry;exact PySem.EqNone.eq_none_bool (Ye I q (by simp))
  | int j=>obtain ⟨t',rfl⟩:=ry;exact PySem.EqNone.eq_none_int (Ye I q (by simp))
  | str j=>obtain ⟨t',rfl⟩:=ry;exact PySem.EqNone.eq_none_str (Ye I q (by simp))
  | _=>exact absurd (show false=true from hs) Bool.false_ne_true
 | bl i=>
  cases rx
  cases y with
  | non=>cases ry;exact PySem.EqNone.eq_bool_none (Ye I q (by simp))
  | bl j=>cases ry;exact eq_bool (Ye I q ZkY)
  | str j=>obtain ⟨t',rfl⟩:=ry;exact PySem.EqMixed.eq_bool_str (Ye I q (by simp))
  | _=>exact absurd (show false=true from hs) Bool.false_ne_true
 | int i=>
  obtain ⟨t,rfl⟩:=rx
  cases y with
  | non=>cases ry;exact PySem.EqNone.eq_int_none (Ye I q (by simp))
  | int j=>obtain ⟨t',rfl⟩:=ry;exact eq_int (Ye I q Zih)
  | str j=>obtain ⟨t',rfl⟩:=ry;exact PySem.EqMixed.eq_int_str (Ye I q (by simp))
  | _=>exact absurd (show false=true from hs) Bool.false_ne_true
 | str i=>
  obtain ⟨t,rfl⟩:=rx
  cases y with
  | non=>cases ry;exact PySem.EqNone.eq_str_none (Ye I q (by simp))
  | bl j=>cases ry;exact PySem.EqMixed.eq_str_bool (Ye I q (by simp))
  | int j=>obtain ⟨t',rfl⟩:=ry;exact PySem.EqMixed.eq_str_int (Ye I q (by simp))
  | str j=>obtain ⟨t',rfl⟩:=ry;exact eq_str (Ye I q ZiH)
  | _=>exact absurd (show false=true from hs) Bool.false_ne_true
 | byt i=>
  obtain ⟨t,rfl⟩:=rx
  cases y with
  | byt j=>obtain ⟨t',rfl⟩:=ry;exact PySem.W.eq_bytes (Ye I q Ziz)
  | _=>exact absurd (show false=true from hs) Bool.false_ne_true
 | _=>cases y<;>exact absurd (show false=true from hs) Bool.false_ne_true
theorem Zc8:UA X (compareOp .NotEq) rNe:=by
 intro pins s σ H x y v u Q I rx ry h
 obtain ⟨hs,q⟩:=h
 cases x with
 | non=>
  cases rx
  cases y with
  | non=>cases ry;exact PySem.EqNone.ne_none_none (Ye I q (by simp))
  | bl j=>cases ry;exact PySem.EqNone.ne_none_bool (Ye I q (by simp))
  | int j=>obtain ⟨t',rfl⟩:=ry;exact PySem.EqNone.ne_none_int (Ye I q (by simp))
  | str j=>obtain ⟨t',rfl⟩:=ry;exact PySem.EqNone.ne_none_str (Ye I q (by simp))
  | _=>exact absurd (show false=true from hs) Bool.false_ne_true
 | bl i=>
  cases rx
  cases y with
  | non=>cases ry;exact PySem.EqNone.ne_bool_none (Ye I q (by simp))
  | bl j=>cases ry;exact ne_bool (Ye I q (congrArg not ZkY))
  | str j=>obtain ⟨t',rfl⟩:=ry;exact PySem.EqMixed.ne_bool_str (Ye I q (by simp))
  | _=>exact absurd (show false=true from hs) Bool.false_ne_true
 | int i=>
  obtain ⟨t,rfl⟩:=rx
  cases y with
  | non=>cases ry;exact PySem.EqNone.ne_int_none (Ye I q (by simp))
  | int j=>obtain ⟨t',rfl⟩:=ry;exact ne_int (Ye I q (congrArg not Zih))
  | str j=>obtain ⟨t',rfl⟩:=ry;exact PySem.EqMixed.ne_int_str (Ye I q (by simp))
  | _=>exact absurd (show false=true from hs) Bool.false_ne_true
 | str i=>
  obtain ⟨t,rfl⟩:=rx
  cases y with
  | non=>cases ry;exact PySem.EqNone.ne_str_none (Ye I q (by simp))
  | bl j=>cases ry;exact PySem.EqMixed.ne_str_bool (Ye I q (by simp))
  | int j=>obtain ⟨t',rfl⟩:=ry;exact PySem.EqMixed.ne_str_int (Ye I q (by simp))
  | str j=>obtain ⟨t',rfl⟩:=ry;exact ne_str (Ye I q (congrArg not ZiH))
  | _=>exact absurd (show false=true from hs) Bool.false_ne_true
 | byt i=>
  obtain ⟨t,rfl⟩:=rx
  cases y with
  | byt j=>obtain ⟨t',rfl⟩:=ry;exact PySem.W.ne_bytes (Ye I q (congrArg not Ziz))
  | _=>exact absurd (show false=true from hs) Bool.false_ne_true
 | _=>cases y<;>exact absurd (show false=true from hs) Bool.false_ne_true
theorem Gf:UA X (compareOp .Lt) (rI0 fun i j=>.bl (decide (i<j))):=ZnU fun _ _ _ _ _ _ _ q=>lt_int q
theorem ZbS:UA X (compareOp .Gt) (rI0 fun i j=>.bl (decide (j<i))):=ZnU fun _ _ _ _ _ _ _ q=>gt_int q
theorem ZkU:UA X (compareOp .GtE) (rI0 fun i j=>.bl (decide (j<=i))):=ZnU fun _ _ _ _ _ _ _ q=>ge_int q
theorem Zgb:UA X (compareOp .Is) (fun x y H Q=>y = .non/\Q (.bl (decide (x = .non))) H):=by
 intro pins s σ H x y v u Q I rx ry h
 obtain ⟨rfl,q⟩:=h
 cases ry
 refine is_none_gen (Ye I q ?_)
 cases x<;>first
  | (cases rx;rfl)
  | (obtain ⟨t,rfl⟩:=rx;rfl)
theorem ZfE:UA X (compareOp .IsNot) (fun x y H Q=>y = .non/\Q (.bl (!decide (x = .non))) H):=by
 intro pins s σ H x y v u Q I rx ry h
 obtain ⟨rfl,q⟩:=h
 cases ry
 refine isnot_none_gen (Ye I q ?_)
 cases x<;>first
  | (cases rx;rfl)
  | (obtain ⟨t,rfl⟩:=rx;rfl)
theorem Zs (b:Expr) {op:CmpOp} (h:op ≠ .In:=by decide) (h2:op ≠ .NotIn:=by decide):behindInMarks op b=false:=by
 have e1:(op==CmpOp.In)=false:=by cases op<;>first | rfl | exact absurd rfl h
 have e2:(op==CmpOp.NotIn)=false:=by cases op<;>first | rfl | exact absurd rfl h2
 cases b<;>simp [behindInMarks,e1,e2]
theorem Yg {op:CmpOp}{r:R2} (ho:UA X (compareOp op) r) (ha:PE X a ta) (hb:PE X b tb) (hm:behindInMarks op b=false):PE X (.Compare a [op] [b] pos) (tOp r ta tb):=by
 intro pins s σ H Q I h
 exact wpAny_Compare1 (ZnH ha hb I h fun v u s2 x y H2 I2 rx ry q=>ho pins s2 σ H2 x y v u Q I2 rx ry q) hm
def ZmK (t:TE):TT:=fun σ H Q=>t σ H fun x H'=>∃k,x = .bl k/\Q k H'
theorem Zt {op:CmpOp}{r:R2} (ho:UA X (compareOp op) r) (ha:PE X a ta) (hb:PE X b tb) (hm:behindInMarks op b=false):PT X (.Compare a [op] [b] pos) (ZmK (tOp r ta tb)):=by
 intro pins s σ H Q I h
 refine wpAny_isTrue_Compare1 (YR (ha pins s σ H _ I h) fun v s1 ⟨x,H1,I1,r1,q1⟩=>YR (hb pins s1 σ H1 _ I1 q1) fun u s2 ⟨y,H2,I2,r2,q2⟩=>
  YR (ho pins s2 σ H2 x y v u _ I2 r1 r2 q2) fun c s3 ⟨z,H3,I3,r3,k,e,q3⟩=>?_) hm
 subst e
 cases r3
 exact wpAny_truthy_bool ⟨H3,I3,q3⟩
def ZkB (r r':R2) (ta tb tc:TE):TE:=fun σ H Q=>ta σ H fun x H1=>tb σ H1 fun y H2=>r x y H2 fun z H3=>∃k,z = .bl k /\
 (if k=true then tc σ H3 fun w' H4=>r' y w' H4 Q else Q (.bl false) H3)
theorem ZkW {op op':CmpOp}{r r':R2} (ho:UA X (compareOp op) r) (ho':UA X (compareOp op') r') (ha:PE X a ta) (hb:PE X b tb) (hc:PE X c tc)
  (hm:lastMarks [op,op'] [b,c]=false:=by with_unfolding_all rfl):PE X (.Compare a [op,op'] [b,c] pos) (ZkB r r' ta tb tc):=by
 intro pins s σ H Q I h
 refine Compare_chain (YR (ha pins s σ H _ I h) fun v s1 ⟨x,H1,I1,r1,q1⟩=>chain_link (YR (hb pins s1 σ H1 _ I1 q1) fun u s2 ⟨y,H2,I2,r2,q2⟩=>
  YR (ho pins s2 σ H2 x y v u _ I2 r1 r2 q2) fun d s3 ⟨z,H3,I3,r3,k,e,q3⟩=>?_)) hm
 subst e
 cases r3
 refine wpAny_truthy_bool ?_
 cases k with
 | false=>exact ite_ff ⟨.bl false,H3,I3,rfl,q3⟩
 | true=>exact ite_tt (chain_last (YR (hc pins s3 σ H3 _ I3 q3) fun w' s4 ⟨z',H4,I4,r4,q4⟩=>ho' pins s4 σ H4 y z' u w' Q I4 r2 r4 q4))
theorem Zkx {op op':CmpOp}{r r':R2} (ho:UA X (compareOp op) r) (ho':UA X (compareOp op') r') (ha:PE X a ta) (hb:PE X b tb) (hc:PE X c tc)
  (hm:lastMarks [op,op'] [b,c]=false:=by with_unfolding_all rfl):PT X (.Compare a [op,op'] [b,c] pos) (ZmK (ZkB r r' ta tb tc)):=by
 intro pins s σ H Q I h
 refine isTrue_chain (YR (ha pins s σ H _ I h) fun v s1 ⟨x,H1,I1,r1,q1⟩=>test_link (YR (hb pins s1 σ H1 _ I1 q1) fun u s2 ⟨y,H2,I2,r2,q2⟩=>
  YR (ho pins s2 σ H2 x y v u _ I2 r1 r2 q2) fun d s3 ⟨z,H3,I3,r3,k,e,q3⟩=>?_)) hm
 subst e
 cases r3
 refine wpAny_truthy_bool ?_
 cases k with
 | false=>
  obtain ⟨k',e',q'⟩:=q3
  cases e'
  exact ite_ff ⟨H3,I3,q'⟩
 | true=>
  refine ite_tt (test_last (YR (hc pins s3 σ H3 _ I3 q3) fun w' s4 ⟨z',H4,I4,r4,q4⟩=>YR (ho' pins s4 σ H4 y z' u w' _ I4 r2 r4 q4) fun d' s5 ⟨z2,H5,I5,r5,k2,e2,q5⟩=>?_))
  subst e2
  cases r5
  exact wpAny_truthy_bool ⟨H5,I5,q5⟩
def Zlj (K:PySem.W.Frag) (x:V) (H:Hp) (k:Bool):Prop:=
 match x with
 | .non=>k=false
 | .bl b=>k=b
 | .int i=>k=(i != 0)
 | .str y=>y.length<=sizeLine/\k=((y.length:Int) != 0)
 | .byt y=>y.size<=sizeLine/\k=((y.size:Int) != 0)
 | .ref p=>(∃xs,Zu K H p xs/\k = !xs.isEmpty)∨(∃xs,YT K H p xs/\k = !xs.isEmpty) ∨ ∃kvs,H p=some (.dK kvs)/\k = !kvs.isEmpty
 | _=>False
theorem ZhI {κ:Type}{kvs:List (κ × V)}{vs:List (κ × Value)} (r:KV kvs vs):(!vs.isEmpty) = !kvs.isEmpty:=by
 cases r<;>rfl
theorem ZdA {xs:List V}{its:List Value} (r:Vals xs its):(!its.toArray.isEmpty) = !xs.isEmpty:=by
 cases r<;>simp
theorem ZdT:(sizeLine:Nat)<2 ^ 63:=by rw [sizeLine_eq];decide
theorem ZnN:Zpc X (fun x H Q=>∃k,Zlj X.K x H k/\Q k H):=by
 intro pins s σ H x v Q I rx h
 obtain ⟨k,e,q⟩:=h
 have hl:=ZdT
 have hs:sizeLine=16777216:=sizeLine_eq
 cases x with
 | non=>
  cases rx
  have e':k=false:=e
  subst e'
  exact truthy_none ⟨H,I,q⟩
 | bl b=>
  cases rx
  have e':k=b:=e
  subst e'
  exact wpAny_truthy_bool ⟨H,I,q⟩
 | int i=>
  obtain ⟨t,rfl⟩:=rx
  have e':k=(i != 0):=e
  subst e'
  exact PySem.P.truthy_int ⟨H,I,q⟩
 | str y=>
  obtain ⟨t,rfl⟩:=rx
  obtain ⟨hy,e'⟩:y.length<=sizeLine/\k=((y.length:Int) != 0):=e
  subst e'
  exact PySem.P.truthy_str (by lia) ⟨H,I.tok _,q⟩
 | byt y=>
  obtain ⟨t,rfl⟩:=rx
  obtain ⟨hy,e'⟩:y.size<=sizeLine/\k=((y.size:Int) != 0):=e
  subst e'
  exact PySem.W.truthy_bytes (by lia) ⟨H,I.tok _,q⟩
 | ref p=>
  cases rx
  have e':(∃xs,Zu X.K H p xs/\k = !xs.isEmpty)∨(∃xs,YT X.K H p xs/\k = !xs.isEmpty) ∨ ∃kvs,H p=some (.dK kvs)/\k = !kvs.isEmpty:=e
  rcases e' with ⟨xs,hx,e'⟩ | ⟨xs,hx,e'⟩ | ⟨kvs,hx,e'⟩
  ·subst e'
   obtain ⟨its,r,pl,hz⟩:=I.list hx
   have hlen:=r.length
   exact wpAny_truthy_list pl.isList (by simp only [List.size_toArray];lia) ⟨H,I.tok _,by rw [ZdA r];exact q⟩
  ·subst e'
   obtain ⟨its,r,pl,hz⟩:=I.tuple hx
   have hlen:=r.length
   exact truthy_tuple pl (by simp only [List.size_toArray];lia) ⟨H,I.tok _,by rw [ZdA r];exact q⟩
  ·subst e'
   obtain ⟨hz,hS,vs,r,m⟩:kvs.length<=sizeLine/\(p==sysModules)=false /\ ∃vs,KV kvs vs/\s.heap.DictOf (Z7 X.prog X.w) p vs:=I.hok p _ hx
   have hlen:kvs.length=vs.length:=Paired.length r
   exact wpAny_truthy_dict hS m (by lia) ⟨H,I.tok _,by rw [ZhI r];exact q⟩
 | _=>exact (show False from e).elim
theorem Zgr (ha:PE X a ta) (he:∀whole,isTrue a X.env whole=(do let v <- whole;standAt a.pos;holding [v] (truthy v))):
  PT X a (fun σ H Q=>ta σ H fun x H'=>∃k,Zlj X.K x H' k/\Q k H'):=by
 intro pins s σ H Q I h
 exact isTrue_plain (YR (ha pins s σ H _ I h) fun v s1 ⟨x,H1,I1,r1,q1⟩=>ZnN pins s1 σ H1 x v Q I1 r1 q1) (he _)
theorem vals1 {x:V}{us:List Value} (r:Vals [x] us):∃u,us = [u]/\RelV x u:=by
 cases r with
 | cons r1 r2=>cases r2;exact ⟨_,rfl,r1⟩
theorem vals2 {x y:V}{us:List Value} (r:Vals [x,y] us):∃u w',us = [u,w']/\RelV x u/\RelV y w':=by
 cases r with
 | cons r1 r2=>
  cases r2 with
  | cons r3 r4=>cases r4;exact ⟨_,_,rfl,r1,r3⟩
theorem ZbP:Jd X (.builtin "abs") (fun xs H Q=>∃i,xs = [.int i]/\Q (.int (if i<0 then -i else i)) H):=by
 intro pins s σ H xs us Q I r h
 obtain ⟨i,rfl,q⟩:=h
 obtain ⟨u,rfl,t,rfl⟩:=vals1 r
 exact call_abs_int fun u tk=>⟨.int (if i<0 then -i else i),H,I.tok _,⟨_,rfl⟩,q⟩
theorem Gq (hc:X.calm=true):Jd X (.builtin "max") (fun xs H Q=>∃i j,xs = [.int i,.int j]/\Q (.int (if j>i then j else i)) H):=by
 intro pins s σ H xs us Q I r h
 obtain ⟨i,j,rfl,q⟩:=h
 obtain ⟨u,w',rfl,⟨t,rfl⟩,⟨t',rfl⟩⟩:=vals2 r
 refine max_two_ints (I.ok.hd hc) fun h' tk k=>⟨_,H,I.kept k,?_,q⟩
 by_cases hj:j>i
 ·rw [if_pos hj,if_pos hj];exact ⟨_,rfl⟩
 ·rw [if_neg hj,if_neg hj];exact ⟨_,rfl⟩
theorem Za2 (hc:X.calm=true):Jd X (.builtin "min") (fun xs H Q=>∃i j,xs = [.int i,.int j]/\Q (.int (if j<i then j else i)) H):=by
 intro pins s σ H xs us Q I r h
 obtain ⟨i,j,rfl,q⟩:=h
 obtain ⟨u,w',rfl,⟨t,rfl⟩,⟨t',rfl⟩⟩:=vals2 r
 refine min_two_ints (I.ok.hd hc) fun h' tk k=>⟨_,H,I.kept k,?_,q⟩
 by_cases hj:j<i
 ·rw [if_pos hj,if_pos hj];exact ⟨_,rfl⟩
 ·rw [if_neg hj,if_neg hj];exact ⟨_,rfl⟩
theorem Zbf:Jd X (.type "int") (fun xs H Q=>(∃i,xs = [.int i]/\Q (.int i) H) ∨ ∃k,xs = [.bl k]/\Q (.int (if k then 1 else 0)) H):=by
 intro pins s σ H xs us Q I r h
 rcases h with ⟨i,rfl,q⟩ | ⟨k,rfl,q⟩
 ·obtain ⟨u,rfl,t,rfl⟩:=vals1 r
  exact call_int_int ⟨.int i,H,I,⟨_,rfl⟩,q⟩
 ·obtain ⟨u,rfl,r1⟩:=vals1 r
  cases r1
  exact call_int_bool ⟨.int (if k then 1 else 0),H,I.tok _,⟨_,rfl⟩,q⟩
end
structure Znd (h:Heap) (x dx C:Addr) (mA:Str->Option Value):Prop where
 obj:h.get? x=some (PySem.W.instObj C dx)
 ns:h.Ns1 dx mA
 ne:dx≠x
theorem Zjp {h:Heap}{dx:Addr}{mA:Str->Option Value} (n:h.Ns1 dx mA):∃od,h.get? dx=some od /\ ∀name,PySem.W.lookIn name od=some (mA name):=by
 obtain ⟨o,es,ep,ho,hd,hk,_,hm⟩:=n
 refine ⟨o,ho,fun name=>?_⟩
 have e:=hm name
 unfold nsFind findBy at e
 rw [<- Array.find?_toList] at e
 unfold PySem.W.lookIn
 rw [hd]
 dsimp only
 split
 ·rename_i y q
  rw [q] at e
  exact congrArg some e
 ·rename_i q
  rw [q] at e
  have a:es.toList.any (·.refKey)=false:=by
   rw [List.any_eq_false]
   intro y hy
   obtain ⟨z,t,hkey⟩:=hk y (Array.mem_toList_iff.mp hy)
   simp [DictEntry.refKey,hkey]
  have a':¬es.toList.any (·.refKey)=true:=by rw [a];exact Bool.false_ne_true
  rw [if_neg a']
  exact congrArg some e
theorem Znd.look {h:Heap}{x dx C:Addr}{mA:Str->Option Value} (I:Znd h x dx C mA):∃od,PySem.W.InstAt h x (PySem.W.instObj C dx) C (some od) /\ ∀name,PySem.W.lookIn name od=some (mA name):=
 let ⟨od,ho,hl⟩:=Zjp I.ns
 ⟨od,⟨I.obj,rfl,rfl,ho⟩,hl⟩
theorem ZcJ.some_of {v:V}{o:Option Value} (r:ZcJ (some v) o):∃u,o=some u/\RelV v u:=by
 cases o with
 | none=>exact (show False from r).elim
 | some u=>exact ⟨u,rfl,r⟩
section
variable {P:Program}{w:World}{H H':Hp}{h h':Heap}{a C dx:Addr}{fs fs':List (Str×V)}
theorem ZlU (hok:UL P w H h) (e:H a=some (.ins C dx fs)):∃mA,Znd h a dx C mA/\(∀f,ZcJ (fs.lookup f) (mA f))/\PySem.Within mA (fs.map (·.1))/\fs.length<=1000/\H dx=some (.own a):=by
 obtain ⟨d,z,ne,ob,mA,n,r,q⟩:=(show Yt P w H h a (.ins C dx fs) from hok a _ e)
 exact ⟨mA,⟨ob,n,ne⟩,r,q,z,d⟩
end
structure Cls (K:PySem.W.Frag) (C:Addr):Prop where
 pg:PySem.W.plainGet K C Str.empty=true
 hd:PySem.W.hasDictIn K C=true
 po:PySem.W.plainOver K C=true
 sa:PySem.W.findIn K (.ref C) "__setattr__" = some (some (.builtin "object.__setattr__"))
theorem Cls.get {K:PySem.W.Frag}{C:Addr} (c:Cls K C) (f:Str):PySem.W.plainGet K C f=true:=c.pg
structure Con (K:PySem.W.Frag) (C:Addr) (f:Str) (v:V) (u:Value):Prop where
 at_:PySem.W.findIn K (.ref C) f=some (some u)
 rel:RelV v u
 get:PySem.W.specialIn K u "__get__" = some none
 cp:PySem.W.copiedNames.contains f=false
structure Meth (K:PySem.W.Frag) (C:Addr) (m:Str) (f:Addr):Prop where
 at_:PySem.W.findIn K (.ref C) m=some (some (.ref f))
 fn:PySem.W.isFn K (.ref f)=true
 kp:PySem.W.keepIn K (.ref f)=true
section
variable {X:Cx}{pins:List (Addr×Obj)} {σ:St}{H:Hp}{s:Shared}{A:Around}{E:Value->Shared->Prop}{Q:Value->Shared->Prop}{c:Value}{b:Bool}
inductive Zb9 (K:PySem.W.Frag) (H:Hp):V->Value->Prop where
 | non:Zb9 K H .non (.type "NoneType")
 | bl (x:Bool):Zb9 K H (.bl x) (.type "bool")
 | int (i:Int):Zb9 K H (.int i) (.type "int")
 | str (x:Str):Zb9 K H (.str x) (.type "str")
 | flt (x:UInt64):Zb9 K H (.flt x) (.type "float")
 | lst {a:Addr}{xs:List V} (e:H a=some (.lst xs)):Zb9 K H (.ref a) (.type "list")
 | frz {a:Addr}{o:Obj}{xs:List V} (e:H a=some (.frz o (.lst xs))):Zb9 K H (.ref a) (.type "list")
 | tup {a:Addr}{xs:List V} (e:H a=some (.tup xs)):Zb9 K H (.ref a) (.type "tuple")
 | dK {a:Addr}{kvs:List (Key×V)} (e:H a=some (.dK kvs)):Zb9 K H (.ref a) (.type "dict")
 | dT {a:Addr}{kvs:List (List Key×V)} (e:H a=some (.dT kvs)):Zb9 K H (.ref a) (.type "dict")
 | ins {a C dx:Addr}{fs:List (Str×V)} (e:H a=some (.ins C dx fs)) (cl:Cls K C) (ha:PySem.W.findIn K (.ref C) "__class__" = some (some (.builtin "object.__class__")))
   (hn:PySem.W.specialIn K (.builtin "object.__class__") "__get__" = some (some (.builtin "getset_descriptor.__get__"))) (htk:PySem.W.takesIn K (.builtin "object.__class__")=some true)
   (hm:PySem.W.mroIn K C (.type "object")=some true):Zb9 K H (.ref a) (.ref C)
theorem Zi6 {x:V}{u t:Value} (I:Inv X pins σ H s) (rx:RelV x u) (ty:Zb9 X.K H x t) (e:PySem.W.kitOne X.K t c=some b) (h:∀tk,Q (.bool b) { s with toks:=tk }):
  wpAny (model X.prog X.w) A (call (.builtin "isinstance") [u,c]) Q E s:=by
 cases ty with
 | non=>cases (show u=Value.none from rx);exact PySem.W.kia_one PySem.W.kitx_none I.kIn True.intro e (fun z=>nomatch z) h
 | bl y=>cases (show u=Value.bool y from rx);exact PySem.W.kia_one PySem.W.kitx_bool I.kIn True.intro e (fun z=>nomatch z) h
 | int i=>obtain ⟨t,q⟩:=(show ∃t,u=Value.int i t from rx);cases q;exact PySem.W.kia_one PySem.W.kitx_int I.kIn True.intro e (fun z=>nomatch z) h
 | str y=>obtain ⟨t,q⟩:=(show ∃t,u=Value.str y t from rx);cases q;exact PySem.W.kia_one PySem.W.kitx_str I.kIn True.intro e (fun z=>nomatch z) h
 | flt y=>obtain ⟨t,q⟩:=(show ∃t,u=Value.float y t from rx);cases q;exact PySem.W.kia_one PySem.W.kitx_float I.kIn True.intro e (fun z=>nomatch z) h
 | @lst a xs ea=>
  cases (show u=Value.ref a from rx)
  obtain ⟨_,_,n,_,h1⟩:=(show Yt X.prog X.w H s.heap a (.lst xs) from I.hok a _ ea)
  exact PySem.W.kia_one PySem.W.kitx_list I.kIn ⟨_,h1,rfl⟩ e (fun z=>nomatch z) h
 | @frz a ob xs ea=>
  cases (show u=Value.ref a from rx)
  obtain ⟨_,_,_,n,_,h1⟩:=(show Yt X.prog X.w H s.heap a (.frz ob (.lst xs)) from I.hok a _ ea)
  exact PySem.W.kia_one PySem.W.kitx_list I.kIn ⟨_,h1,rfl⟩ e (fun z=>nomatch z) h
 | @tup a xs ea=>
  cases (show u=Value.ref a from rx)
  obtain ⟨_,_,_,p⟩:=(show Yt X.prog X.w H s.heap a (.tup xs) from I.hok a _ ea)
  obtain ⟨o,h1,h2,_⟩:=p
  exact PySem.W.kia_one PySem.W.kitx_tuple I.kIn ⟨o,h1,h2⟩ e (fun z=>nomatch z) h
 | @dK a kvs ea=>
  cases (show u=Value.ref a from rx)
  obtain ⟨_,_,vs,_,p⟩:=(show Yt X.prog X.w H s.heap a (.dK kvs) from I.hok a _ ea)
  obtain ⟨o,es,ep,h1,h2,_⟩:=p
  exact PySem.W.kia_one PySem.W.kitx_dict I.kIn ⟨o,h1,h2.1⟩ e (fun z=>nomatch z) h
 | @dT a kvs ea=>
  cases (show u=Value.ref a from rx)
  obtain ⟨_,_,xs,_,o,es,ep,h1,h2,_⟩:=(show Yt X.prog X.w H s.heap a (.dT kvs) from I.hok a _ ea)
  exact PySem.W.kia_one PySem.W.kitx_dict I.kIn ⟨o,h1,h2.1⟩ e (fun z=>nomatch z) h
 | @ins a C dx fs ea cl ha hn htk hm=>
  cases (show u=Value.ref a from rx)
  obtain ⟨mA,O,_⟩:=ZlU I.hok ea
  obtain ⟨od,J,_⟩:=O.look
  exact PySem.W.kia_one (PySem.W.kitx_own (cl.get _) cl.hd ha hn htk hm) I.kIn J e (fun z=>nomatch z) h
end
structure GC (k:Nat) (A:Around):Prop where
 hd:A.handled=none
 dp:A.depth+3*k+5<recursionLimit
 un:A.units+16*k+200<cLine
theorem GC.mono {j k:Nat}{A:Around} (r:GC k A) (h:j<=k):GC j A:=⟨r.hd,by have:=r.dp;lia,by have:=r.un;lia⟩
theorem GC.deeper {k:Nat}{A:Around} (r:GC (k+1) A) (env:Env):GC k (A.deeper env):=
 ⟨r.hd,by have:=r.dp;show A.depth+1+3*k+5<_;lia,by have:=r.un;show A.units+3+16*k+200<_;lia⟩
theorem GC.depth {k:Nat}{A:Around} (r:GC k A):A.depth<recursionLimit:=by have:=r.dp;lia
theorem GC.units {k:Nat}{A:Around} (r:GC k A):A.units+64<cLine:=by have:=r.un;lia
def Zpa:TA:=fun _ H Q=>Q [] H
def Zoo (ta:TE) (tr:TA):TA:=fun σ H Q=>ta σ H fun x H1=>tr σ H1 fun xs H2=>Q (x::xs) H2
section
variable {X:Cx}{e:Expr}{es:List Expr}{te:TE}{t:TA}{pos:Pos}
theorem Zb:PA X [] Zpa:=fun _ _ _ _ H Q I h=>Calls.spliced_nil ⟨[],H,I,.nil,h⟩
theorem Za (ha:PE X e te) (hr:PA X es t) (hs:starEach (e::es) X.env=(false,eval e X.env)::starEach es X.env:=by rfl):PA X (e::es) (Zoo te t):=by
 intro pos pins s σ H Q I h
 rw [hs]
 show wpAny _ _ (spliced ((false,eval e X.env)::backTo pos (starEach es X.env))) _ _ s
 refine Calls.spliced_cons (YR (ha pins s σ H _ I h) fun u s1 ⟨x,H1,I1,r1,q1⟩=>?_)
 exact YR (hr pos pins s1 σ H1 _ I1 q1) fun us s2 ⟨xs,H2,I2,r2,q2⟩=>⟨x::xs,H2,I2,.cons r1 r2,q2⟩
def Zpe (t:TA):TE:=fun σ H Q=>t σ H fun xs H1=>xs.length<=sizeLine /\ ∀p,H1 p=none->Q (.ref p) (upd H1 p (.tup xs))
def Zpj (t:TA):TE:=fun σ H Q=>t σ H fun xs H1=>xs.length<=sizeLine /\ ∀p,H1 p=none->Q (.ref p) (upd H1 p (.lst xs))
theorem ZQ {x1} (h:PA X es t):PE X (.Tuple es x1 pos) (Zpe t):=by
 intro pins s σ H Q I hq
 refine wpAny_Tuple_spliced (YR (h pos pins s σ H _ I hq) fun us s1 ⟨xs,H1,I1,r,z,q⟩=>⟨by rw [<- r.length];exact z,?_⟩)
 have hf:H1 s1.heap.objs.size=none:=I1.hok.fresh (Nat.le_refl _)
 refine ⟨.ref s1.heap.objs.size,upd H1 s1.heap.objs.size (.tup xs),I1.laid (t':=s1.toks) (fun b u e=>Heap.get?_push_of_some _ e) (Nat.le_refl _) ?_,rfl,q _ hf⟩
 exact ⟨z,us,r,⟨_,Heap.get?_push_size _ rfl,rfl,_,rfl⟩⟩
theorem ZD (h:PA X es t):PE X (.List es pos) (Zpj t):=by
 intro pins s σ H Q I hq
 refine wpAny_List_spliced (YR (h pos pins s σ H _ I hq) fun us s1 ⟨xs,H1,I1,r,z,q⟩=>⟨by rw [<- r.length];exact z,?_⟩)
 have hf:H1 s1.heap.objs.size=none:=I1.hok.fresh (Nat.le_refl _)
 refine ⟨.ref s1.heap.objs.size,upd H1 s1.heap.objs.size (.lst xs),I1.laid (t':=s1.toks) (fun b u e=>Heap.get?_push_of_some _ e) (Nat.le_refl _) ?_,rfl,q _ hf⟩
 exact ⟨z,us,0,r,Heap.get?_push_size _ rfl⟩
end
abbrev Sp:=List V->Hp->VK->XK->Prop
abbrev CXT:=List Env->Hp->Shared->XK->Value->Shared->Prop
structure ZhB (P:Program) (w:World) (K:PySem.W.Frag) (mg:Str->Option Value) (base:Heap) (A:Around) (outer:List Env) (s:Shared) (H:Hp):Prop where
 frames:A.frames=some outer
 mod:Mod K mg base
 bs:∀b o,base.get? b=some o->s.heap.get? b=some o/\H b=none
 bsz:base.objs.size<=s.heap.objs.size
 funs:s.heap.FunFrames base outer
 frf:∀b∈frs outer,H b=none
 hok:UL P w H s.heap
 bare:AllBare s.gens
def CE (outer:List Env) (P:Program) (w:World) (H:Hp) (s:Shared) (Q:VK) (u:Value) (s':Shared):Prop:=
 ∃v H',s'.os=s.os/\AllBare s'.gens/\Un (frs outer) [] H H' s.heap s'.heap/\UL P w H' s'.heap/\RelV v u/\Q v H'
def CR (CX:CXT) (outer:List Env) (P:Program) (w:World) (H:Hp) (s:Shared) (Q:VK) (E:XK) (r:Result) (s':Shared):Prop:=
 match r with
 | .ok (.ret u)=>CE outer P w H s Q u s'
 | .ok _=>False
 | .error e=>CX outer H s E e s'
structure Yc (P:Program) (w:World) (K:PySem.W.Frag) (mg:Str->Option Value) (base:Heap) (CX:CXT) (k:Nat) (f:Addr) (fd:FuncData) (ps:List Str) (sp:Sp):Prop where
 len:∀vs H Q E,sp vs H Q E->vs.length=ps.length
 run:∀(A:Around) (outer:List Env) (s:Shared) (H:Hp) (args:Args) (us:List Value) (vs:List V) (Q:VK) (E:XK),GC k A->ZhB P w K mg base A outer s H->BindsTo s fd args (ps.zip us)->Vals vs us->sp vs H Q E ->
  codeAny (model P w) A (.call (.ref f) args) (CR CX outer P w H s Q E) s
section
variable {X:Cx}{pins:List (Addr×Obj)} {σ:St}{H:Hp}{s s':Shared}
theorem Inv.env0 (I:Inv X pins σ H s):ZhB X.prog X.w X.K X.mg X.base X.A X.stack s H:=
 ⟨I.ok.frames,I.ok.mod,I.bs,Nat.le_trans I.ok.bsz I.sz,I.stack,I.stkFree,I.hok,I.bare⟩
theorem Inv.after {Q:VK}{u:Value} (I:Inv X pins σ H s) (h:CE X.stack X.prog X.w H s Q u s'):EP X pins σ Q u s':=by
 obtain ⟨v,H',os,bare,un,hok,r,q⟩:=h
 obtain ⟨hh,g,d,t,os'⟩:=s'
 obtain rfl:os'=s.os:=os
 exact ⟨v,H',I.call (h':=hh) (g':=g) (d':=d) (t':=t) (ch:=[]) un hok bare (fun b z=>absurd z (by simp)),r,q⟩
end
def Zkr (sp:Sp) (dvs:List V) (E:XK) (t:TA):TE:=fun σ H Q=>t σ H fun vs H1=>sp (vs++dvs) H1 Q E
def Binds (K:PySem.W.Frag) (fd:FuncData) (ps:List Str) (ds:List Value):Prop:=
 ∀(s:Shared) (us:List Value),K.In s.heap->(us++ds).length=ps.length->BindsTo s fd ⟨us,[]⟩ (ps.zip (us++ds))
theorem Binds.all {K:PySem.W.Frag}{fd:FuncData}{ps:List Str} (h:∀us:List Value,us.length=ps.length->bindArgs fd ⟨us,[]⟩=pure (ps.zip us)):Binds K fd ps []:=fun s us _ hl=>by
 rw [List.append_nil] at hl ⊢
 exact .of_eq (h us hl)
def Passes (CX:CXT) (X:Cx) (E:XK):Prop:=∀(pins:List (Addr×Obj)) (σ:St) (H:Hp) (s:Shared) (e:Value) (s':Shared),Inv X pins σ H s->CX X.stack H s E e s'->X.xe e s'
section
variable {X:Cx}{CX:CXT}{k:Nat}{f C:Addr}{fd:FuncData}{ps:List Str}{sp:Sp}{dvs:List V}{ds:List Value}{E:XK}{x m:Str}{p pos apos:Pos}{e o:Expr}{es:List Expr}{ta:TE}{t:TA}
theorem Zn0 {pins:List (Addr×Obj)} {σ:St}{H:Hp}{s:Shared}{Q:VK}{us:List Value}{vs:List V} (F:Yc X.prog X.w X.K X.mg X.base CX k f fd ps sp) (hr:GC k X.A) (hb:Binds X.K fd ps ds) (hd:Vals dvs ds) (hx:Passes CX X E)
  (I:Inv X pins σ H s) (r:Vals vs us) (h:sp (vs++dvs) H Q E):wpAny (model X.prog X.w) X.A (call (.ref f) us) (EP X pins σ Q) X.xe s:=by
 have r2:Vals (vs++dvs) (us++ds):=r.append hd
 have hl:(us++ds).length=ps.length:=by rw [<- r2.length];exact F.len _ _ _ _ h
 refine wpAny_call (codeAny_mono (F.run X.A X.stack s H ⟨us,[]⟩ (us++ds) (vs++dvs) Q E hr I.env0 (hb s us I.kIn hl) r2 h) fun r s' hq=>?_)
 cases r with
 | error e=>exact hx pins σ H s e s' I hq
 | ok fl=>
  cases fl with
  | ret u=>exact I.after hq
  | next=>exact False.elim hq
  | brk=>exact False.elim hq
  | cont=>exact False.elim hq
theorem ZiJ (F:Yc X.prog X.w X.K X.mg X.base CX k f fd ps sp) (hr:GC k X.A) (hg:Gl X x) (hm:X.mg x=some (.ref f)) (hk:PySem.W.keepIn X.K (.ref f)=true) (hb:Binds X.K fd ps ds) (hd:Vals dvs ds) (hx:Passes CX X E)
  (ha:PA X (e::es) t) (hdb:(x==("__debug__" : Str))=false:=by decide) (he:starEach (e::es) X.env=(false,eval e X.env)::starEach es X.env:=by rfl) (hpl:(backTo pos (starEach es X.env)).any (·.1)=false:=by rfl):
  PE X (.Call (.Name x p) (e::es) [] pos) (Zkr sp dvs E t):=by
 intro pins s σ H Q I h
 refine wpAny_Call_Name_kw (ZbX I hg hm ?_ hdb)
 refine PySem.W.callWith_K (h₀:=X.base) I.ok.mod.kin hk (YR (ha pos pins s σ H _ I h) fun us s1 ⟨vs,H1,I1,r,q⟩=>⟨I1.kIn,?_⟩) he hpl
 exact Zn0 F hr hb hd hx I1 r q
structure Mk (K:PySem.W.Frag) (C f:Addr):Prop where
 makes:PySem.W.makesIn K C=true
 init:PySem.W.findIn K (.ref C) "__init__" = some (some (.ref f))
 fn:PySem.W.isFn K (.ref f)=true
 kp:PySem.W.keepIn K (.ref C)=true
end
section
variable {X:Cx}{CX:CXT}{k:Nat}{f C:Addr}{fd:FuncData}{ps ks:List Str}{sp:Sp}{E:XK}{x m:Str}{p pos apos kpos:Pos}{e o:Expr}{es:List Expr}{kws:List Keyword}{te ta:TE}{t tk:TA}{nm:Option Str}
structure Zpg (K:PySem.W.Frag) (fd:FuncData) (ps ks:List Str) (g:List Value->List Value->List Value) (gV:List V->List V->List V):Prop where
 to:∀(s:Shared) (us ws:List Value),K.In s.heap->(g us ws).length=ps.length->BindsTo s fd ⟨us,ks.zip ws⟩ (ps.zip (g us ws))
 rel:∀{vs:List V}{us:List Value}{zs:List V}{ws:List Value},Vals vs us->Vals zs ws->Vals (gV vs zs) (g us ws)
variable {g:List Value->List Value->List Value}{gV:List V->List V->List V}
end
structure Zz (N P:List Str) (sc:Scope):Prop where
 kind:sc.kind = .function:=by rfl
 co:sc.isCoroutine=false:=by rfl
 gen:sc.isGenerator=false:=by rfl
 nd:N.Nodup:=by decide +kernel
 pre:N.take P.length=P:=by rfl
 par:∀x∈P,sc.names.lookup x=some .local∨sc.names.lookup x=some .cell:=by decide +kernel
 nofree:∀y∈sc.names,y.2 ≠ .free:=by decide +kernel
theorem ZeX {kindOf:Str->Option NameKind}{x:Str}:∀{binds:List (Str×Value)}{m:Str->Option Value},(∀v,(x,v)∉binds)->bindL kindOf binds m x=m x
 | [],_,_=>rfl
 | (n,v)::r,m,h=>by
  unfold bindL
  rw [ZeX fun w hw=>h w (List.mem_cons_of_mem _ hw)]
  split
  ·have:x≠n:=by rintro rfl;exact h v List.mem_cons_self
   simp [this]
  ·rfl
theorem Ze9 {kindOf:Str->Option NameKind}{x:Str}:∀{binds:List (Str×Value)}{m:Str->Option Value},(∀v,(x,v)∉binds)->bindC kindOf binds m x=m x
 | [],_,_=>rfl
 | (n,v)::r,m,h=>by
  unfold bindC
  rw [Ze9 fun w hw=>h w (List.mem_cons_of_mem _ hw)]
  split
  ·rfl
  ·have:x≠n:=by rintro rfl;exact h v List.mem_cons_self
   simp [this]
theorem Zfm {kindOf:Str->Option NameKind}{x:Str}{v:Value}:∀{P:List Str}{vs:List Value}{i:Nat}{m:Str->Option Value},P.Nodup->P[i]? = some x->vs[i]? = some v->kindOf x=some .local ->
  bindL kindOf (P.zip vs) m x=some v
 | [],_,_,_,_,h,_,_=>by simp at h
 | _::_,[],_,_,_,_,h,_=>by simp at h
 | p::P,w::vs,0,m,nd,h1,h2,hk=>by
  simp at h1 h2;subst h1;subst h2
  show bindL kindOf ((p,w)::P.zip vs) m p=_
  unfold bindL
  rw [ZeX fun v hv=>(List.nodup_cons.mp nd).1 (List.of_mem_zip hv).1,if_pos hk]
  simp
 | p::P,w::vs,i+1,m,nd,h1,h2,hk=>by
  show bindL kindOf ((p,w)::P.zip vs) m x=_
  unfold bindL
  exact Zfm (i:=i) (List.nodup_cons.mp nd).2 (by simpa using h1) (by simpa using h2) hk
theorem Ze5 {kindOf:Str->Option NameKind}{x:Str}{v:Value}:∀{P:List Str}{vs:List Value}{i:Nat}{m:Str->Option Value},P.Nodup->P[i]? = some x->vs[i]? = some v->kindOf x≠some .local ->
  bindC kindOf (P.zip vs) m x=some v
 | [],_,_,_,_,h,_,_=>by simp at h
 | _::_,[],_,_,_,_,h,_=>by simp at h
 | p::P,w::vs,0,m,nd,h1,h2,hk=>by
  simp at h1 h2;subst h1;subst h2
  show bindC kindOf ((p,w)::P.zip vs) m p=_
  unfold bindC
  rw [Ze9 fun v hv=>(List.nodup_cons.mp nd).1 (List.of_mem_zip hv).1,if_neg hk]
  simp
 | p::P,w::vs,i+1,m,nd,h1,h2,hk=>by
  show bindC kindOf ((p,w)::P.zip vs) m x=_
  unfold bindC
  exact Ze5 (i:=i) (List.nodup_cons.mp nd).2 (by simpa using h1) (by simpa using h2) hk
def start (N:List Str) (vs:List V):St:=vs.map some++List.replicate (N.length-vs.length) none
def WZ (CX:CXT) (P:Program) (w:World) (K:PySem.W.Frag) (mg:Str->Option Value) (base:Heap) (N:List Str) (qual:Str) (scope:Scope) (f:Addr) (cd:Value) (A:Around) (outer:List Env) (s:Shared) (H:Hp) (E:XK):Cx where
 prog:=P
 w:=w
 K:=K
 mg:=mg
 base:=base
 A:=A.deeper (envOfC qual scope s.heap.objs.size f cd)
 N:=N
 s₀:=s
 H₀:=H
 env:=envOfC qual scope s.heap.objs.size f cd
 outer:=outer
 stack:=envOfC qual scope s.heap.objs.size f cd::outer
 ex:=[]
 calm:=true
 fn:=fun _=>true
 pn:=[]
 xe:=fun e s'=>wpAny (model P w) (A.deeper (envOfC qual scope s.heap.objs.size f cd)) (leaving (envOfC qual scope s.heap.objs.size f cd) e) (fun _ s''=>CX outer H s E e s'') (fun e' s''=>CX outer H s E e' s'') s'
theorem Zg2 {sc:Scope}{n:Nat}{x:Str} (h:sc.names.lookup x=some .cell):∃c,(cellsFrom n sc.names []).lookup x=some c:=by
 have q:=PySem.W.cellsFrom_some sc.names n [] (.inl h)
 exact Option.isSome_iff_exists.mp q
theorem ZeR {CX:CXT}{P:Program}{w:World}{K:PySem.W.Frag}{mg:Str->Option Value}{base:Heap}{N ps:List Str}{qual:Str}{scope:Scope}{f:Addr}{cd:Value}{A:Around}{outer:List Env}{s s1:Shared}{H:Hp}{E:XK}{us:List Value}{vs:List V}
  (S:Zz N ps scope) (hd:A.handled=none) (e0:ZhB P w K mg base A outer s H) (hl:vs.length=ps.length) (r:Vals vs us)
  (x:InCallC s s.heap.objs.size (bindL (envOfC qual scope s.heap.objs.size f cd).kindOf (ps.zip us) fun _=>none) (cellsFrom (s.heap.objs.size+1) scope.names []) (bindC (envOfC qual scope s.heap.objs.size f cd).kindOf (ps.zip us) fun _=>none) s1):
  Inv (WZ CX P w K mg base N qual scope f cd A outer s H E) [] (start N vs) H s1:=by
 have hpl:ps.length<=N.length:=by have:=congrArg List.length S.pre;rw [List.length_take] at this;lia
 obtain ⟨h1,tk,rfl,hk⟩:=x.done
 have noA:∀b:Addr,b∉(WZ CX P w K mg base N qual scope f cd A outer s H E).ex:=fun b z=>absurd (show b∈([]:List Addr) from z) (by simp)
 refine ⟨⟨e0.mod,S.kind,rfl,rfl,Nat.le_refl _,fun y z c h1 h2=>?_,fun y hy=>?_,fun y c _ h=>?_,fun _=>hd,Around.frames_deeper e0.frames,.inr ⟨rfl,rfl⟩,fun b z=>absurd z (noA b),e0.bs,e0.bsz,fun b _ _=>noA b,fun b z=>absurd z (noA b),e0.funs,e0.frf⟩,
  rfl,e0.bare,Un.kept hk,⟨_,x.toInCall.ns,fun i y v h1 h2 h3=>?_⟩,fun y c h=>⟨_,x.cell y c h⟩,e0.hok.fresh (Nat.le_refl _),fun y c h=>?_,fun p hp=>absurd (show p∈([]:List (Addr×Obj)) from hp) (by simp),e0.hok.kept hk,?_⟩
 ·exact name_of_addr x.apart (PySem.mem_of_lookup h1) (PySem.mem_of_lookup h2)
 ·have hy:scope.names.lookup y=some .cell∨scope.names.lookup y=some .free:=hy
  rcases hy with hy | hy
  ·exact Zg2 hy
  ·exact absurd rfl (S.nofree _ (PySem.mem_of_lookup hy))
 ·exact Nat.le_of_lt (x.above y c (PySem.mem_of_lookup h))
 ·have hi:i<vs.length:=by
   unfold start at h2
   by_cases hi:i<vs.length
   ·exact hi
   ·rw [List.getElem?_append_right (by simpa using hi)] at h2
    rw [List.getElem?_replicate] at h2
    split at h2<;>cases h2
  have ha:vs[i]? = some v:=by
   unfold start at h2
   rw [List.getElem?_append_left (by simpa using hi),List.getElem?_map] at h2
   cases e:vs[i]? with
   | none=>rw [e] at h2;cases h2
   | some a=>rw [e] at h2;cases h2;rfl
  obtain ⟨u,hu,rv⟩:=r.get ha
  have hp:ps[i]? = some y:=by
   rw [<- S.pre,List.getElem?_take_of_lt (by lia)];exact h1
  have ndP:ps.Nodup:=by rw [<- S.pre];exact S.nd.sublist (List.take_sublist _ _)
  refine ⟨u,rv,?_⟩
  rcases S.par y (List.mem_of_getElem? hp) with k | k
  ·exact .inl ⟨k,Zfm ndP hp hu k⟩
  ·obtain ⟨c,e⟩:=Zg2 (n:=s.heap.objs.size+1) k
   refine .inr ⟨.inl k,c,e,?_⟩
   have q:=x.cell y c e
   rw [Ze5 ndP hp hu (by show scope.names.lookup y≠_;rw [k];decide)] at q
   exact q
 ·exact e0.hok.fresh (Nat.le_of_lt (x.above y c (PySem.mem_of_lookup h)))
 ·unfold start
  show _=N.length
  rw [List.length_append,List.length_map,List.length_replicate]
  lia
theorem Zmz {CX:CXT}{P:Program}{w:World}{K:PySem.W.Frag}{mg:Str->Option Value}{base:Heap}{k:Nat}{f:Addr}{name qual:Str}{params:Arguments}{body:List Stmt}{scope:Scope}{dV kV doc pm cdv ct oc:Value}{an od:Option Addr}
  {osl:Array (Option Value)}{N ps:List Str}{sp:Sp} (lk:K.lookup f=some ⟨oc,od,.func (PySem.W.fnOf name qual params body scope dV kV doc pm an cdv ct),osl⟩) (hcd:PySem.W.codeIn K cdv qual=true) (S:Zz N ps scope)
  (len:∀vs H Q E,sp vs H Q E->vs.length=ps.length)
  (hbody:∀(A:Around) (outer:List Env) (s:Shared) (H:Hp) (vs:List V) (Q:VK) (E:XK),GC k (A.deeper (envOfC qual scope s.heap.objs.size f cdv))->sp vs H Q E ->
   ∃t,PSs (WZ CX P w K mg base N qual scope f cdv A outer s H E) body t/\t { nx:=fun _ H'=>Q .non H',rt:=Q } (start N vs) H):
  Yc P w K mg base CX (k+1) f (PySem.W.fnOf name qual params body scope dV kV doc pm an cdv ct) ps sp:=by
 refine ⟨len,fun A outer s H args us vs Q E hr e0 hb r hsp=>?_⟩
 have hl:=len _ _ _ _ hsp
 have KX:K.In s.heap:=e0.mod.kin.keeps fun b o e=>(e0.bs b o e).1
 have lim:s.heap.NoLimit:=e0.mod.nolimit.keeps fun b o e=>(e0.bs b o e).1
 have hkind:∀y∈ps.zip us,scope.names.lookup y.1=some .local∨(scope.names.lookup y.1=some .cell/\((cellsFrom (s.heap.objs.size+1) scope.names []).lookup y.1).isSome=true):=fun ⟨n,v⟩ hy=>by
  rcases S.par n (List.of_mem_zip hy).1 with q | q
  ·exact .inl q
  ·exact .inr ⟨q,PySem.W.cellsFrom_some _ _ _ (.inl q)⟩
 refine codeAny_call_function hr.depth (KX _ _ lk) rfl S.co S.gen rfl (PySem.W.codeRec_of KX hcd) (hb _ _ _ _ ?_)
 refine wpAny_newFunctionEnv_cells S.kind hkind fun env he s1 x=>?_
 subst he
 refine ⟨lim.keeps x.toInCall.keep,codeAny_func ?_⟩
 obtain ⟨t,ht,hq⟩:=hbody A outer s H vs Q E (hr.deeper _) hsp
 have I:Inv (WZ CX P w K mg base N qual scope f cdv A outer s H E) [] (start N vs) H s1:=ZeR S hr.hd e0 hl r x
 refine wpAny_mono (ht [] s1 (start N vs) H _ I hq) (fun fl s' hs=>?_) fun e s' hs=>hs
 have fin:∀{σ':St}{H':Hp}{v:V}{u:Value},Inv (WZ CX P w K mg base N qual scope f cdv A outer s H E) [] σ' H' s'->RelV v u->Q v H'->CE outer P w H s Q u s':=
  fun {σ' H' v u} J rv q=>⟨v,H',J.os,J.bare,J.base,J.hok,rv,q⟩
 cases fl with
 | ret u=>
  obtain ⟨v,σ',H',J,rv,q⟩:=hs
  exact fin J rv q
 | next=>
  obtain ⟨σ',H',J,q⟩:=hs
  exact fin (v:=V.non) (u:=Value.none) J rfl q
 | brk=>
  obtain ⟨_,_,_,q⟩:=hs
  exact False.elim q
 | cont=>
  obtain ⟨_,_,_,q⟩:=hs
  exact False.elim q
section
variable {X:Cx}{x:Str}{p pos:Pos}{e:Expr}{es:List Expr}{t:TA}{id T:String}{r:List V->Hp->VK->Prop}
def tCB (r:List V->Hp->VK->Prop) (t:TA):TE:=fun σ H Q=>t σ H fun vs H1=>r vs H1 Q
theorem Zx (hc:Jd X (.builtin id) r) (hg:Gl X x) (hm:X.mg x=none) (hv:bootBuiltins x=some (.builtin id)) (ha:PA X (e::es) t) (hn:x ≠ "__name__" := by decide) (hdb:(x==("__debug__" : Str))=false:=by decide)
  (he:starEach (e::es) X.env=(false,eval e X.env)::starEach es X.env:=by rfl) (hpl:(backTo pos (starEach es X.env)).any (·.1)=false:=by rfl):PE X (.Call (.Name x p) (e::es) [] pos) (tCB r t):=by
 intro pins s σ H Q I h
 refine wpAny_Call_Name_kw (GZ I hg hm hv ?_ hn hdb)
 exact PyProof.Rows.callWith_builtin1 (YR (ha pos pins s σ H _ I h) fun us s1 ⟨vs,H1,I1,r1,q1⟩=>hc pins s1 σ H1 vs us Q I1 r1 q1) he hpl
theorem Yl (hc:Jd X (.type T) r) (hg:Gl X x) (hm:X.mg x=none) (hv:bootBuiltins x=some (.type T)) (ha:PA X (e::es) t) (hn:x ≠ "__name__" := by decide) (hdb:(x==("__debug__" : Str))=false:=by decide)
  (he:starEach (e::es) X.env=(false,eval e X.env)::starEach es X.env:=by rfl) (hpl:(backTo pos (starEach es X.env)).any (·.1)=false:=by rfl):PE X (.Call (.Name x p) (e::es) [] pos) (tCB r t):=by
 intro pins s σ H Q I h
 refine wpAny_Call_Name_kw (GZ I hg hm hv ?_ hn hdb)
 exact PyProof.Rows.callWith_type1 (YR (ha pos pins s σ H _ I h) fun us s1 ⟨vs,H1,I1,r1,q1⟩=>hc pins s1 σ H1 vs us Q I1 r1 q1) he hpl
end
end L2
namespace HT
open PySem PyProof.Rows
def lexLt:List Int->List Int->Bool
 | [],[]=>false
 | [],_::_=>true
 | _::_,[]=>false
 | x::xs,y::ys=>if x=y then lexLt xs ys else decide (x<y)
section
open PySem.SeqAt
open PySem.AutoSeq1 (wpAny_loadPart')
open PySem.MeetsSeq PySem.MeetsSeq2 PySem.MeetsSeq3
end
section
variable {prog:Program}{w:World}{A:Around}{E:Value->Shared->Prop}{s:Shared}
theorem ZlI {t b:Addr}{vs ws:List Value}{Q:Value->Shared->Prop} (ht:IsTup s.heap t vs.toArray) (hb:IsTup s.heap b ws.toArray) (hv:vs ≠ [])
  (h1:ws = []->Q (.ref t) s) (h2:ws ≠ []->Q (.ref s.heap.objs.size) { s with heap:=s.heap.push { cls:=.type "tuple", data:=.seq (vs++ws).toArray } })
  (hsz:vs.length+ws.length<=sizeLine):wpAny (model prog w) A (binaryOp .Add (.ref t) (.ref b)) Q E s:=by
 obtain ⟨⟨cls,dd,data,sl⟩,ho,hc,n,hd⟩:=id ht
 obtain ⟨⟨cls2,dd2,data2,sl2⟩,ho2,hc2,n2,hd2⟩:=id hb
 simp only at hc hd hc2 hd2
 subst hc hd hc2 hd2
 have e:vs.toArray++ws.toArray=(vs++ws).toArray:=by simp
 by_cases hw:ws = []
 ·exact concat_meets ⟨_,ho,rfl⟩ ⟨_,ho2,rfl⟩ noFill_tuple_add seq_tuple_add PySem.F.slot_tuple_add PySem.F.entry_tuple_add (PySem.F.args_tuple_add_2 _ _)
   (tuple_addW1 t b vs.toArray ws.toArray n n2 dd dd2 sl sl2 (by simpa using hv) (by simp [hw])) ⟨ho,ho2,h1 hw⟩
 ·refine concat_meets ⟨_,ho,rfl⟩ ⟨_,ho2,rfl⟩ noFill_tuple_add seq_tuple_add PySem.F.slot_tuple_add PySem.F.entry_tuple_add (PySem.F.args_tuple_add_2 _ _)
   (tuple_addW2 t b vs.toArray ws.toArray n n2 dd dd2 sl sl2 (by simpa using hv) (by simpa using hw) (by rw [List.size_toArray,List.size_toArray];exact hsz)) ⟨ho,ho2,?_⟩
  rw [e]
  exact h2 hw
def JE (n d:Nat):Option Int->Nat
 | none=>d
 | some v=>if v<0 then (v+(n:Int)).toNat else min v.toNat n
theorem Zei (n d:Nat):JE n d none=d:=rfl
theorem Zcc (n d k:Nat):JE n d (some (k:Int))=min k n:=by
 show (if (k:Int)<0 then ((k:Int)+(n:Int)).toNat else min (k:Int).toNat n)=min k n
 rw [if_neg (by lia),Int.toNat_natCast]
theorem ZnS (n d:Nat) (hd:d<=n) (o:Option Int):JE n d o<=n:=by
 cases o with
 | none=>exact hd
 | some v=>
  show (if v<0 then (v+(n:Int)).toNat else min v.toNat n)<=n
  by_cases hv:v<0
  ·rw [if_pos hv];lia
  ·rw [if_neg hv];exact Nat.min_le_right _ _
theorem Zh8 (v:Int) (n d:Nat):(if v<0 then max (v+(n:Int)) 0 else min v (n:Int))=((JE n d (some v):Nat):Int):=by
 show (if v<0 then max (v+(n:Int)) 0 else min v (n:Int))=(((if v<0 then (v+(n:Int)).toNat else min v.toNat n):Nat):Int)
 by_cases hv:v<0
 ·simp only [if_pos hv];lia
 ·simp only [if_neg hv];lia
theorem Zhu (lo hi:Option Int) (n:Nat):Builtin.Slice.sliceAdjust lo hi 1 (n:Int)=(((JE n 0 lo:Nat):Int),((JE n n hi:Nat):Int)):=by
 have h1:¬((1:Int)<0):=by lia
 unfold Builtin.Slice.sliceAdjust
 simp only [h1,if_false]
 refine Prod.ext ?_ ?_
 ·cases lo with
  | none=>rfl
  | some v=>exact Zh8 v n 0
 ·cases hi with
  | none=>rfl
  | some v=>exact Zh8 v n n
theorem ZhT (i j:Nat):Builtin.Slice.slicePlaces (i:Int) (j:Int) 1=j-i:=by
 unfold Builtin.Slice.slicePlaces
 have h1:(1:Int)>0:=by lia
 simp only [h1,if_true,Int.ediv_one]
 split<;>lia
theorem ZdQ {v:Value}{o:Option Int}{Q:Option Int->Shared->Prop} (p:IsPart v o) (h:Q o s):wpAny (model prog w) A (Builtin.Slice.slicePartIndex v) Q E s:=by
 cases p with
 | none=>exact slicePart_none h
 | int i t=>exact slicePart_int h
theorem Uv {sl:Addr}{vl vu:Value}{lo hi:Option Int}{n:Nat}{Q:Int×Int×Nat->Shared->Prop} (hs:s.heap.IsSliceOf sl vl vu .none) (pl:IsPart vl lo) (pu:IsPart vu hi)
  (h:Q (((JE n 0 lo:Nat):Int),1,JE n n hi-JE n 0 lo) s):wpAny (model prog w) A (Builtin.Slice.sliceApplied (.ref sl) (pure (n:Int))) Q E s:=by
 obtain ⟨os,hos,hcs,hds⟩:=id hs
 unfold Builtin.Slice.sliceApplied Builtin.Slice.sliceFields
 refine wpAny_bind (wpAny_bind (wpAny_field hos hds (x:=vl) rfl (wpAny_bind (wpAny_field hos hds (x:=vu) rfl (wpAny_bind (wpAny_field hos hds (x:=.none) rfl (wpAny_pure ?_)))))))
 refine wpAny_bind (slicePart_none ?_)
 show wpAny _ _ (if ((1:Int)==0)=true then _ else _) _ _ s
 rw [if_neg (by decide)]
 refine wpAny_bind (ZdQ pl (wpAny_bind (ZdQ pu (wpAny_bind (wpAny_pure ?_)))))
 show wpAny _ _ (match Builtin.Slice.sliceAdjust lo hi 1 (n:Int) with | (lo,hi)=>pure (lo,(1:Int),Builtin.Slice.slicePlaces lo hi 1)) _ _ s
 rw [Zhu lo hi n]
 show wpAny _ _ (pure (((JE n 0 lo:Nat):Int),(1:Int),Builtin.Slice.slicePlaces ((JE n 0 lo:Nat):Int) ((JE n n hi:Nat):Int) 1)) _ _ s
 rw [ZhT]
 exact wpAny_pure h
theorem Zk2 (xs:Array Value) (i k:Nat):((List.range k).filterMap fun (m:Nat)=>xs[((i:Int)+(m:Int)*1).toNat]?).toArray=((xs.toList.drop i).take k).toArray:=by
 have e:(fun (m:Nat)=>xs[((i:Int)+(m:Int)*1).toNat]?)=fun m=>xs[i+m]?:=by
  funext m
  have:((i:Int)+(m:Int)*1).toNat=i+m:=by lia
  rw [this]
 rw [e]
 have:=pick_run xs i k
 rw [List.filterMap_map] at this
 have e2:((fun x=>xs[x]?) ∘ fun x=>i+x)=fun m=>xs[i+m]?:=rfl
 rw [e2] at this
 rw [this]
theorem Zcg {t sl:Addr}{items:Array Value}{vl vu:Value}{lo hi:Option Int}{Q:Value->Shared->Prop} (ht:IsTup s.heap t items) (hs:s.heap.IsSliceOf sl vl vu .none) (pl:IsPart vl lo) (pu:IsPart vu hi)
  (hw:¬(JE items.size 0 lo=0/\JE items.size items.size hi=items.size))
  (h:Q (.ref s.heap.objs.size) { s with heap:=s.heap.push { cls:=.type "tuple", data:=.seq ((items.toList.drop (JE items.size 0 lo)).take (JE items.size items.size hi-JE items.size 0 lo)).toArray } })
  (hsz:items.size<=sizeLine):wpAny (model prog w) A (getItem (.ref t) (.ref sl)) Q E s:=by
 have htake:sizeOk (.seq ((items.toList.drop (JE items.size 0 lo)).take (JE items.size items.size hi-JE items.size 0 lo)).toArray):=by
  show ((items.toList.drop (JE items.size 0 lo)).take (JE items.size items.size hi-JE items.size 0 lo)).toArray.size<=sizeLine
  rw [List.size_toArray,List.length_take,List.length_drop,Array.length_toList]
  lia
 have hj:JE items.size items.size hi<=items.size:=ZnS _ _ (Nat.le_refl _) hi
 obtain ⟨os,hos,hcs,hds⟩:=id hs
 have hTs:s.TypeIs (.ref sl) "slice" := ⟨os,hos,hcs⟩
 unfold getItem
 try with_reducible refine wpAny_holding ?_
 first | refine wpAny_bind (wpAny_pure ?_) | skip
 refine wpAny_bind (wpAny_sequenceKey ht.typeIs (by decide) ?_)
 refine wpAny_bind (wpAny_callSpecial?_slot (name:=Str.ofString "__getitem__") ht.typeIs PyProof.Rows.slot_tuple_getitem
  (wpAny_call_entry PyProof.Rows.slot_tuple_getitem ht.typeIs entry_tuple_getitem ?_ (args_tuple_getitem _ _)))
 show wpAny _ _ (Builtin.Tuple.tupleItemsOf (.ref t) >>= _) _ _ s
 refine wpAny_bind (tupleItemsOf_ ht ?_)
 refine wpAny_bind (wpAny_typeOf hTs ?_)
 rw [if_pos (by decide)]
 refine wpAny_bind (Uv hs pl pu ?_)
 have hno:¬((((JE items.size 0 lo:Nat):Int)==0&&(1:Int)==1&&(JE items.size items.size hi-JE items.size 0 lo)==items.size)=true):=by
  intro q
  rw [Bool.and_eq_true,Bool.and_eq_true] at q
  have q1:((JE items.size 0 lo:Nat):Int)=0:=eq_of_beq q.1.1
  have q2:JE items.size items.size hi-JE items.size 0 lo=items.size:=eq_of_beq q.2
  exact hw ⟨by lia,by lia⟩
 show wpAny _ _ (if (((JE items.size 0 lo:Nat):Int)==0&&(1:Int)==1&&(JE items.size items.size hi-JE items.size 0 lo)==items.size)=true then _ else _) _ _ s
 rw [if_neg hno,Zk2]
 first
  | exact wpAny_bind (m:=Builtin.Tuple.tupleExact _) (wpAny_newObj_type (wpAny_pure ⟨_,rfl,wpAny_pure h⟩) htake)
  | exact wpAny_bind (m:=Builtin.Tuple.tupleExact _) (wpAny_newObj_type (wpAny_bind (wpAny_pure (wpAny_pure ⟨_,rfl,wpAny_pure h⟩))) htake)
  | exact wpAny_bind (wpAny_bind (m:=Builtin.Tuple.tupleExact _) (wpAny_newObj_type (wpAny_pure (wpAny_pure ⟨_,rfl,wpAny_pure h⟩)) htake))
  | exact wpAny_bind (wpAny_bind (m:=Builtin.Tuple.tupleExact _) (wpAny_newObj_type (wpAny_pure ⟨_,rfl,wpAny_pure h⟩) htake))
end
end HT
namespace L2
open PySem PySem.Spec PyProof.Rows
abbrev TO:=St->Hp->(Option Int->Hp->Prop)->Prop
def PO (X:Cx) (e:Option Expr) (t:TO):Prop:=
 ∀(pins:List (Addr×Obj)) (s:Shared) (σ:St) (H:Hp) (Q:Option Int->Hp->Prop),Inv X pins σ H s->t σ H Q ->
  wpAny (model X.prog X.w) X.A (evalPart e X.env) (fun u s'=>∃o H',Inv X pins σ H' s'/\IsPart u o/\Q o H') X.xe s
def Zba:TO:=fun _ H Q=>Q none H
def Zo1 (t:TE):TO:=fun σ H Q=>t σ H fun x H1=>∃i,x = .int i/\Q (some i) H1
section
variable {X:Cx}{e:Expr}{te:TE}{lo hi:Option Expr}{tl th:TO}{pos p2:Pos}
theorem Jv:PO X none Zba:=by
 intro pins s σ H Q I h
 rw [evalPart_none]
 exact wpAny_pure ⟨none,H,I,.none,h⟩
theorem Ym (h:PE X e te):PO X (some e) (Zo1 te):=by
 intro pins s σ H Q I hw
 rw [evalPart_some]
 refine YR (h pins s σ H _ I hw) fun u s1 ⟨x,H1,I1,r1,q1⟩=>?_
 obtain ⟨i,rfl,q⟩:=q1
 obtain ⟨t,rfl⟩:=r1
 exact ⟨some i,H1,I1,.int i t,q⟩
def SlR (X:Cx) (r:V->Option Int->Option Int->Hp->VK->Prop):Prop:=
 ∀(pins:List (Addr×Obj)) (s:Shared) (σ:St) (H:Hp) (x:V) (v vl vu:Value) (lo hi:Option Int) (sl:Addr) (Q:VK),Inv X pins σ H s->RelV x v->s.heap.IsSliceOf sl vl vu .none->IsPart vl lo->IsPart vu hi->r x lo hi H Q ->
  ∃T id,typeLookup (.type T) "__getitem__" = pure (some (.builtin id))/\s.TypeIs v T/\wpAny (model X.prog X.w) X.A (getItem v (.ref sl)) (EP X pins σ Q) X.xe s
def tSl (r:V->Option Int->Option Int->Hp->VK->Prop) (te:TE) (tl th:TO):TE:=fun σ H Q=>te σ H fun x H1=>tl σ H1 fun l H2=>th σ H2 fun u H3=>r x l u H3 Q
theorem Yy {r:V->Option Int->Option Int->Hp->VK->Prop} (hr:SlR X r) (he:PE X e te) (hl:PO X lo tl) (hu:PO X hi th):PE X (.Subscript e (.Slice lo hi none p2) pos) (tSl r te tl th):=by
 intro pins s σ H Q I h
 refine Subscript_ (YR (he pins s σ H _ I h) fun v s1 ⟨x,H1,I1,r1,q1⟩=>?_)
 refine wpAny_Slice (YR (hl pins s1 σ H1 _ I1 q1) fun vl s2 ⟨l,H2,I2,pl,q2⟩=>YR (hu pins s2 σ H2 _ I2 q2) fun vu s3 ⟨u,H3,I3,pu,q3⟩=>?_)
 rw [evalPart_none]
 refine wpAny_pure ?_
 have I4:Inv X pins σ H3 { s3 with heap:=s3.heap.push { cls:=.type "slice", data:=.fields #[vl,vu,.none] } }:=I3.kept (t':=s3.toks) fun b ob q=>Heap.get?_push_of_some _ q
 obtain ⟨T,id,hT,ht,hg⟩:=hr pins { s3 with heap:=s3.heap.push { cls:=.type "slice", data:=.fields #[vl,vu,.none] } } σ H3 x v vl vu l u s3.heap.objs.size Q I4 r1 (Heap.IsSliceOf.new ..) pl pu q3
 show wpAny (model X.prog X.w) X.A (subscriptTail e (.Slice lo hi none p2) v (.ref s3.heap.objs.size)) (EP X pins σ Q) X.xe { s3 with heap:=s3.heap.push { cls:=.type "slice", data:=.fields #[vl,vu,.none] } }
 exact tail_any (ops:=[.ref s3.heap.objs.size,v]) ht hT hg (by with_unfolding_all rfl)
def GN (xs:List V) (lo hi:Option Int):List V:=(xs.drop (HT.JE xs.length 0 lo)).take (HT.JE xs.length xs.length hi-HT.JE xs.length 0 lo)
theorem Zc6 (xs:List V) (lo hi:Option Int):(GN xs lo hi).length<=xs.length:=by
 unfold GN
 rw [List.length_take,List.length_drop]
 lia
def ZpH (K:PySem.W.Frag):V->Option Int->Option Int->Hp->VK->Prop:=fun x lo hi H Q=>∃a xs,x = .ref a/\YT K H a xs /\
 ¬(HT.JE xs.length 0 lo=0/\HT.JE xs.length xs.length hi=xs.length) /\ ∀p,H p=none->Q (.ref p) (upd H p (.tup (GN xs lo hi)))
theorem ZnF:SlR X (ZpH X.K):=by
 intro pins s σ H x v vl vu lo hi sl Q I rx hs pl pu h
 obtain ⟨a,xs,rfl,hx,hw,q⟩:=h
 cases rx
 obtain ⟨its,r,ht,hz⟩:=I.tuple hx
 have hlen:its.toArray.size=xs.length:=by rw [List.size_toArray];exact r.length.symm
 refine ⟨"tuple", _,PyProof.Rows.slot_tuple_getitem.lookup,ht.typeIs,?_⟩
 refine HT.Zcg ht hs pl pu (by rw [hlen];exact hw) ?_ (by rw [hlen];exact hz)
 rw [hlen]
 refine ⟨.ref s.heap.objs.size,_,I.laid (t':=s.toks) (o:=.tup (GN xs lo hi)) (fun b ob q=>Heap.get?_push_of_some _ q) (Nat.le_refl _) ?_,rfl,q _ (I.hok.fresh (Nat.le_refl _))⟩
 exact ⟨Nat.le_trans (Zc6 xs lo hi) hz,_,(r.drop (HT.JE xs.length 0 lo)).take (HT.JE xs.length xs.length hi-HT.JE xs.length 0 lo),IsTup.new _ _⟩
end
def ixN (n:Nat) (i:Int):Option Nat:=if 0<=i then (if i<n then some i.toNat else none) else if -(n:Int)<=i then some (i+n).toNat else none
def atI {α:Type} (xs:List α) (i:Int):Option α:=(ixN xs.length i).bind fun j=>xs[j]?
theorem Zie {n:Nat}{i:Int}{j:Nat} (h:ixN n i=some j):seqIndex? i n=some j/\j<n /\ -(n:Int)<=i/\i<n:=by
 unfold ixN at h
 by_cases h0:0<=i
 ·rw [if_pos h0] at h
  by_cases h1:i<n
  ·rw [if_pos h1] at h
   have e:i.toNat=j:=Option.some.inj h
   exact ⟨by rw [seqIndex_of h0 h1,e],by lia,by lia,h1⟩
  ·rw [if_neg h1] at h;cases h
 ·rw [if_neg h0] at h
  by_cases h1 : -(n:Int)<=i
  ·rw [if_pos h1] at h
   have e:(i+n).toNat=j:=Option.some.inj h
   exact ⟨by rw [seqIndex_neg (by lia) h1,e],by lia,h1,by lia⟩
  ·rw [if_neg h1] at h;cases h
theorem ZiL {α:Type}{xs:List α}{i:Int}{v:α} (h:atI xs i=some v):∃j,seqIndex? i xs.length=some j/\xs[j]? = some v/\j<xs.length /\ -(xs.length:Int)<=i/\i<xs.length:=by
 unfold atI at h
 cases e:ixN xs.length i with
 | none=>rw [e] at h;cases h
 | some j=>
  rw [e] at h
  obtain ⟨h1,h2,h3,h4⟩:=Zie e
  exact ⟨j,h1,h,h2,h3,h4⟩
theorem Zo {α:Type}{xs:List α}{j:Nat}{v:α} (h:xs[j]? = some v):atI xs (j:Int)=some v:=by
 have hj:j<xs.length:=(List.getElem?_eq_some_iff.mp h).1
 have e:ixN xs.length (j:Int)=some j:=by
  unfold ixN
  rw [if_pos (by lia),if_pos (by lia)];simp
 unfold atI;rw [e];exact h
theorem UB {α:Type} (xs:List α) (v:α):atI (xs ++ [v]) (-1)=some v:=by
 have hl:(xs ++ [v]).length=xs.length+1:=by simp
 have e:ixN (xs ++ [v]).length (-1)=some xs.length:=by
  unfold ixN
  rw [hl,if_neg (by decide),if_pos (by lia)]
  congr 1
  lia
 unfold atI
 rw [e]
 show (xs ++ [v])[xs.length]? = some v
 simp
def Zlg (b:Expr):Prop:=∀o i,subscripted b false o i=operate [o,i] (getItem o i)
def IxR (X:Cx) (r:R2):Prop:=
 ∀(value slice:Expr) (pins:List (Addr×Obj)) (s:Shared) (σ:St) (H:Hp) (x y:V) (v u:Value) (Q:VK),Inv X pins σ H s->RelV x v->RelV y u->r x y H Q ->
  subscripted slice false v u=operate [v,u] (getItem v u)->wpAny (model X.prog X.w) X.A (subscriptTail value slice v u) (EP X pins σ Q) X.xe s
def MtR (X:Cx) (id:String) (r:V->List V->Hp->VK->Prop):Prop:=
 ∀(pins:List (Addr×Obj)) (s:Shared) (σ:St) (H:Hp) (x:V) (xs:List V) (v:Value) (us:List Value) (Q:VK),Inv X pins σ H s->RelV x v->Vals xs us->r x xs H Q ->
  wpAny (model X.prog X.w) X.A (call (.builtin id) (v::us)) (EP X pins σ Q) X.xe s
section
variable {X:Cx}{a b:Expr}{ta tb:TE}{pos:Pos}
theorem Zy {r:R2} (hr:IxR X r) (ha:PE X a ta) (hb:PE X b tb) (hs:Zlg b):PE X (.Subscript a b pos) (tOp r ta tb):=by
 intro pins s σ H Q I h
 exact Subscript_ (ZnH ha hb I h fun v u s2 x y H2 I2 rx ry q=>hr a b pins s2 σ H2 x y v u Q I2 rx ry q (hs _ _))
def ZoO (K:PySem.W.Frag):R2:=fun x y H Q=>∃p xs i v,x = .ref p/\y = .int i/\Zu K H p xs/\atI xs i=some v/\Q v H
def ZoX (K:PySem.W.Frag):R2:=fun x y H Q=>∃p xs i v,x = .ref p/\y = .int i/\YT K H p xs/\atI xs i=some v/\Q v H
theorem ZlM:IxR X (ZoO X.K):=by
 intro value slice pins s σ H x y v u Q I rx ry h hs
 obtain ⟨p,xs,i,z,rfl,rfl,hq,he,q⟩:=h
 cases rx
 obtain ⟨t,rfl⟩:=ry
 obtain ⟨its,r,pl,hz⟩:=I.list hq
 obtain ⟨j,h1,h2,h3,h4,h5⟩:=ZiL he
 obtain ⟨w,ew,rw'⟩:=r.get h2
 have hl:=r.length
 have hn:=ZdT
 have fin:EP X pins σ Q w s:=⟨z,H,I,rw',q⟩
 by_cases h0:0<=i
 ·have hj:i.toNat=j:=by
   rw [seqIndex_of h0 h5] at h1
   exact Option.some.inj h1
  exact item_listR pl.isList h0 (by lia) (by rw [hj];simpa using ew) fin hs
 ·have hj:(i+(its.toArray.size:Int)).toNat=j:=by
   rw [seqIndex_neg (by lia) h4] at h1
   rw [List.size_toArray,<- hl]
   exact Option.some.inj h1
  exact subscriptTail_builtinR (x:=w) pl.isList.typeIs slot_list_getitem.lookup
   (wpAny_getItem_list_neg (Q:=fun r s'=>r=w/\EP X pins σ Q r s') pl.isList (by lia) (by rw [List.size_toArray]<;>lia) (by lia) (by rw [hj];simpa using ew) ⟨rfl,fin⟩) hs
theorem ZnM:IxR X (ZoX X.K):=by
 intro value slice pins s σ H x y v u Q I rx ry h hs
 obtain ⟨p,xs,i,z,rfl,rfl,hq,he,q⟩:=h
 cases rx
 obtain ⟨t,rfl⟩:=ry
 obtain ⟨its,r,pl,hz⟩:=I.tuple hq
 obtain ⟨j,h1,h2,h3,h4,h5⟩:=ZiL he
 obtain ⟨w,ew,rw'⟩:=r.get h2
 have hl:=r.length
 have hn:=ZdT
 have fin:EP X pins σ Q w s:=⟨z,H,I,rw',q⟩
 exact subscriptTail_builtinR (x:=w) pl.typeIs slot_tuple_getitem.lookup
  (getItem_tuple (j:=j) (Q:=fun r s'=>r=w/\EP X pins σ Q r s') pl (by lia) (by lia) (by rw [List.size_toArray,<- hl];exact h1) (by simpa using ew) ⟨rfl,fin⟩) hs
theorem Zh5 (its:List Value) (n j:Nat) (u:Value):Obj.mapSeq (·.setIfInBounds j u) { cls:=.type "list", data:=.seq its.toArray n } = { cls:=.type "list", data:=.seq (its.set j u).toArray n }:=by
 simp [Obj.mapSeq]
theorem Inv.lst {pins:List (Addr×Obj)} {σ:St}{H:Hp}{s:Shared}{p:Addr}{xs:List V} (I:Inv X pins σ H s) (h:H p=some (.lst xs)):
  ∃(its:List Value) (n:Nat),Vals xs its/\s.heap.get? p=some { cls:=.type "list", data:=.seq its.toArray n } /\ xs.length<=sizeLine:=by
 obtain ⟨z,its,n,r,e⟩:=I.hok p _ h
 exact ⟨its,n,r,e,z⟩
theorem Inv.lstUpd {pins:List (Addr×Obj)} {σ:St}{H:Hp}{s:Shared}{p:Addr}{xs ys:List V}{its its':List Value}{n n':Nat}{f:Obj->Obj} (I:Inv X pins σ H s) (h:H p=some (.lst xs))
  (ho:s.heap.get? p=some { cls:=.type "list", data:=.seq its.toArray n }) (hf:f { cls:=.type "list", data:=.seq its.toArray n } = { cls:=.type "list", data:=.seq its'.toArray n' }) (r:Vals ys its') (hz:ys.length<=sizeLine) (t:Nat):
  Inv X pins σ (upd H p (.lst ys)) { s with heap:=s.heap.update p f,toks:=t }:=by
 have e:(s.heap.update p f).get? p=some { cls:=.type "list", data:=.seq its'.toArray n' }:=by
  rw [Heap.get?_update_self f ho (by rw [hf]<;>rfl),hf]
 refine I.write (x:=p) (e:=p) (by rw [h];trivial) (.inl rfl) (fun b u hb q=>(Heap.get?_update_other _ _ (Ne.symm hb)).trans q) ⟨_,e⟩ ?_
 exact ⟨hz,its',n',r,e⟩
def Zo0:V->V->V->Hp->(Hp->Prop)->Prop:=fun o i v H Q=>∃p xs k j,o = .ref p/\i = .int k/\H p=some (.lst xs)/\ixN xs.length k=some j/\Q (upd H p (.lst (xs.set j v)))
theorem set_list:Znr X Zo0:=by
 intro pins s σ H o i v ov iv u Q I ro ri rv h
 obtain ⟨p,xs,k,j,rfl,rfl,hp,hj,q⟩:=h
 cases ro
 obtain ⟨t,rfl⟩:=ri
 obtain ⟨its,n,r,ho,hz⟩:=I.lst hp
 obtain ⟨h1,h2,h3,h4⟩:=Zie hj
 have hl:=r.length
 have hn:=ZdT
 have I':Inv X pins σ (upd H p (.lst (xs.set j v))) { s with heap:=s.heap.update p (Obj.mapSeq (·.setIfInBounds j u)) }:=
  I.lstUpd hp ho (Zh5 its n j u) (r.set rv j) (by rw [List.length_set];exact hz) s.toks
 by_cases h0:0<=k
 ·have hk:k.toNat=j:=by
   rw [seqIndex_of h0 h4] at h1
   exact Option.some.inj h1
  exact PySem.W.ki_setAt ho h0 (by lia) (by rw [List.size_toArray,<- hl];exact h4) (by rw [hk];exact ⟨_,I',q⟩)
 ·have hk:(k+(its.toArray.size:Int)).toNat=j:=by
   rw [seqIndex_neg (by lia) h3] at h1
   rw [List.size_toArray,<- hl]
   exact Option.some.inj h1
  exact PySem.W.ki_setBack ho (by lia) (by rw [List.size_toArray,<- hl];exact h3) (by lia) (by rw [hk];exact ⟨_,I',q⟩)
theorem ZfX (lo hi:Option Int) (n:Nat):(sliceBounds lo hi none n).1=((HT.JE n 0 lo:Nat):Int)/\(sliceBounds lo hi none n).2.1=((HT.JE n n hi:Nat):Int)/\(sliceBounds lo hi none n).2.2=1:=by
 refine ⟨?_,?_,rfl⟩
 ·cases lo with
  | none=>simp [sliceBounds,HT.JE]
  | some i=>
   simp only [sliceBounds,HT.JE,Option.getD_none,show (1:Int)>0 by decide,if_true]
   by_cases h:i<0
   ·simp only [h,if_true]<;>lia
   ·simp only [h,if_false]<;>lia
 ·cases hi with
  | none=>simp [sliceBounds,HT.JE]
  | some i=>
   simp only [sliceBounds,HT.JE,Option.getD_none,show (1:Int)>0 by decide,if_true]
   by_cases h:i<0
   ·simp only [h,if_true]<;>lia
   ·simp only [h,if_false]<;>lia
theorem ZeE (its:List Value) (lo hi:Option Int):slicePick its.toArray lo hi none=((its.drop (HT.JE its.length 0 lo)).take (HT.JE its.length its.length hi-HT.JE its.length 0 lo)).toArray:=by
 obtain ⟨h1,h2,h3⟩:=ZfX lo hi its.toArray.size
 unfold slicePick
 rw [h1,h2,h3]
 simp only [sliceRange_one,pick_run,List.size_toArray]<;>rfl
def ZoL (K:PySem.W.Frag):V->Option Int->Option Int->Hp->VK->Prop:=fun x lo hi H Q=>∃a xs,x = .ref a/\Zu K H a xs /\ ∀p,H p=none->Q (.ref p) (upd H p (.lst (GN xs lo hi)))
theorem ZlN:SlR X (ZoL X.K):=by
 intro pins s σ H x v vl vu lo hi sl Q I rx hs pl pu h
 obtain ⟨a,xs,rfl,hx,q⟩:=h
 cases rx
 obtain ⟨its,r,ht,hz⟩:=I.list hx
 have hlen:=r.length
 refine ⟨"list", _,slot_list_getitem.lookup,ht.isList.typeIs,?_⟩
 refine wpAny_getItem_list_slice ht.isList hs pl pu .none (by simp) ?_ (by rw [List.size_toArray]<;>lia)
 rw [ZeE,<- hlen]
 refine ⟨.ref s.heap.objs.size,_,I.laid (t':=s.toks) (o:=.lst (GN xs lo hi)) (fun b ob q=>Heap.get?_push_of_some _ q) (Nat.le_refl _) ?_,rfl,q _ (I.hok.fresh (Nat.le_refl _))⟩
 exact ⟨Nat.le_trans (Zc6 xs lo hi) hz,_,0,(r.drop (HT.JE xs.length 0 lo)).take (HT.JE xs.length xs.length hi-HT.JE xs.length 0 lo),Heap.get?_push_size _ rfl⟩
def WU:V->Bool
 | .non=>true
 | .bl _=>true
 | .int _=>true
 | .str _=>true
 | _=>false
def eqV:V->V->Bool
 | .non,.non=>true
 | .bl a,.bl b=>a==b
 | .bl a,.int b=>(if a then 1 else 0)==b
 | .int a,.bl b=>a==(if b then 1 else 0)
 | .int a,.int b=>a==b
 | .str a,.str b=>a==b
 | _,_=>false
theorem Zlb {A:Around}{s:Shared}{y x:V}{u v:Value} (ry:RelV y u) (rx:RelV x v) (fy:WU y=true) (fx:WU x=true):SeqAt.EqAt A s u v (eqV y x):=by
 cases y with
 | non=>
  cases ry
  cases x with
  | non=>cases rx;exact SeqAt.EqAt.same _
  | bl b=>cases rx;exact SeqAt.EqAt.none_bool b
  | int b=>obtain ⟨t,rfl⟩:=rx;exact SeqAt.EqAt.none_int b t
  | str b=>obtain ⟨t,rfl⟩:=rx;exact SeqAt.EqAt.none_str b t
  | _=>exact absurd (show false=true from fx) Bool.false_ne_true
 | bl a=>
  cases ry
  cases x with
  | non=>cases rx;exact SeqAt.EqAt.bool_none a
  | bl b=>cases rx;exact SeqAt.EqAt.bool_bool a b
  | int b=>obtain ⟨t,rfl⟩:=rx;exact SeqAt.EqAt.bool_int a b t
  | str b=>obtain ⟨t,rfl⟩:=rx;exact SeqAt.EqAt.bool_str a b t
  | _=>exact absurd (show false=true from fx) Bool.false_ne_true
 | int a=>
  obtain ⟨t',rfl⟩:=ry
  cases x with
  | non=>cases rx;exact SeqAt.EqAt.int_none a t'
  | bl b=>cases rx;exact SeqAt.EqAt.int_bool a t' b
  | int b=>obtain ⟨t,rfl⟩:=rx;exact SeqAt.EqAt.int_int a t' b t
  | str b=>obtain ⟨t,rfl⟩:=rx;exact SeqAt.EqAt.int_str a t' b t
  | _=>exact absurd (show false=true from fx) Bool.false_ne_true
 | str a=>
  obtain ⟨t',rfl⟩:=ry
  cases x with
  | non=>cases rx;exact SeqAt.EqAt.str_none a t'
  | bl b=>cases rx;exact SeqAt.EqAt.str_bool a t' b
  | int b=>obtain ⟨t,rfl⟩:=rx;exact SeqAt.EqAt.str_int a t' b t
  | str b=>obtain ⟨t,rfl⟩:=rx;exact SeqAt.EqAt.str_str a t' b t
  | _=>exact absurd (show false=true from fx) Bool.false_ne_true
 | _=>exact absurd (show false=true from fy) Bool.false_ne_true
def eqU (x:V) (u:Value):Bool:=match u with
 | .none=>eqV .non x
 | .bool b=>eqV (.bl b) x
 | .int i _=>eqV (.int i) x
 | .str z _=>eqV (.str z) x
 | _=>false
theorem Zhn {x y:V}{u:Value} (r:RelV y u) (f:WU y=true):eqU x u=eqV y x:=by
 cases y with
 | non=>cases r;rfl
 | bl b=>cases r;rfl
 | int i=>obtain ⟨t,rfl⟩:=r;rfl
 | str z=>obtain ⟨t,rfl⟩:=r;rfl
 | _=>exact absurd (show false=true from f) Bool.false_ne_true
theorem Zb7 {x:V}:∀{xs:List V}{us:List Value},Vals xs us->xs.all WU=true->us.any (eqU x)=xs.any fun y=>eqV y x
 | _,_,.nil,_=>rfl
 | y::xs,u::us,.cons r t,f=>by
  rw [List.all_cons,Bool.and_eq_true] at f
  rw [List.any_cons,List.any_cons,Zhn r f.1,Zb7 t f.2]
theorem Uq {A:Around}{s:Shared}{x:V}{v:Value} (rx:RelV x v) (fx:WU x=true):∀{xs:List V}{us:List Value},Vals xs us->xs.all WU=true -> ∀u∈us,SeqAt.EqAt A s u v (eqU x u)
 | _,_,.nil,_=>fun u hu=>by cases hu
 | y::xs,u::us,.cons r t,f=>fun u' hu=>by
  rw [List.all_cons,Bool.and_eq_true] at f
  rcases List.mem_cons.mp hu with rfl | hu
  ·rw [Zhn r f.1];exact Zlb r rx f.1 fx
  ·exact Uq rx fx t f.2 u' hu
def inV (x:V) (xs:List V):Bool:=xs.any fun y=>eqV y x
def rIn (K:PySem.W.Frag) (neg:Bool):R2:=fun x y H Q=>∃p xs,y = .ref p/\(Zu K H p xs∨YT K H p xs)/\WU x=true/\xs.all WU=true/\Q (.bl (if neg then !inV x xs else inV x xs)) H
theorem Zjr:UA X (compareOp .In) (rIn X.K false):=by
 intro pins s σ H x y v u Q I rx ry h
 obtain ⟨p,xs,rfl,hq,fx,fs,q⟩:=h
 cases ry
 rcases hq with hq | hq
 ·obtain ⟨its,r,pl,hz⟩:=I.list hq
  refine SeqAt.in_listAt (eqU x) pl.isList (fun w hw=>Uq rx fx r fs w (by simpa using hw)) ⟨.bl _,H,I,rfl,?_⟩
  rw [show its.toArray.any (eqU x)=its.any (eqU x) by simp,Zb7 r fs]
  exact q
 ·obtain ⟨its,r,pl,hz⟩:=I.tuple hq
  refine SeqAt.in_tupleAt (eqU x) pl (fun w hw=>Uq rx fx r fs w (by simpa using hw)) ⟨.bl _,H,I,rfl,?_⟩
  rw [show its.toArray.any (eqU x)=its.any (eqU x) by simp,Zb7 r fs]
  exact q
theorem ZfK:UA X (compareOp .NotIn) (rIn X.K true):=by
 intro pins s σ H x y v u Q I rx ry h
 obtain ⟨p,xs,rfl,hq,fx,fs,q⟩:=h
 cases ry
 rcases hq with hq | hq
 ·obtain ⟨its,r,pl,hz⟩:=I.list hq
  refine SeqAt.notIn_listAt (eqU x) pl.isList (fun w hw=>Uq rx fx r fs w (by simpa using hw)) ⟨.bl _,H,I,rfl,?_⟩
  rw [show its.toArray.any (eqU x)=its.any (eqU x) by simp,Zb7 r fs]
  exact q
 ·obtain ⟨its,r,pl,hz⟩:=I.tuple hq
  refine SeqAt.notIn_tupleAt (eqU x) pl (fun w hw=>Uq rx fx r fs w (by simpa using hw)) ⟨.bl _,H,I,rfl,?_⟩
  rw [show its.toArray.any (eqU x)=its.any (eqU x) by simp,Zb7 r fs]
  exact q
theorem Zfz:Jd X (.builtin "len") (fun xs H Q=>∃p ys,xs = [.ref p]/\(Zu X.K H p ys∨YT X.K H p ys)/\Q (.int ys.length) H):=by
 intro pins s σ H xs us Q I r h
 obtain ⟨p,ys,rfl,hq,q⟩:=h
 obtain ⟨u,rfl,rx⟩:=vals1 r
 cases rx
 have hn:=ZdT
 rcases hq with hq | hq
 ·obtain ⟨its,r',pl,hz⟩:=I.list hq
  have hlen:=r'.length
  exact Calls.call_len_list pl.isList (by simp only [List.size_toArray]<;>lia) ⟨.int ys.length,H,I.tok _,⟨s.toks+1,by rw [List.size_toArray,hlen]⟩,q⟩
 ·obtain ⟨its,r',pl,hz⟩:=I.tuple hq
  have hlen:=r'.length
  exact len_tuple pl (by simp only [List.size_toArray]<;>lia) ⟨.int ys.length,H,I.tok _,⟨s.toks+1,by rw [List.size_toArray,hlen]⟩,q⟩
theorem Zgd:Jd X (.type "list") (fun xs H Q=>∃p ys,xs = [.ref p]/\(Zu X.K H p ys∨YT X.K H p ys) /\ ∀l,H l=none->Q (.ref l) (upd H l (.lst ys))):=by
 intro pins s σ H xs us Q I r h
 obtain ⟨p,ys,rfl,hq,q⟩:=h
 obtain ⟨u,rfl,rx⟩:=vals1 r
 cases rx
 have fin:∀(its:List Value),Vals ys its->ys.length<=sizeLine -> ∀(h':Heap) (c':Nat),(∀b o',s.heap.get? b=some o'->h'.get? b=some o') ->
   h'.get? s.heap.objs.size=some { cls:=.type "list", dict:=none,data:=.seq its.toArray c',slots:=#[] } -> EP X pins σ Q (.ref s.heap.objs.size) { s with heap:=h' }:=fun its r' hz h' c' kp e=>
  ⟨.ref s.heap.objs.size,_,I.laid (t':=s.toks) kp (Nat.le_refl _) (show Yt X.prog X.w _ h' _ (.lst ys) from ⟨hz,its,c',r',e⟩),rfl,q _ (I.hok.fresh (Nat.le_refl _))⟩
 rcases hq with hq | hq
 ·obtain ⟨its,r',pl,hz⟩:=I.list hq
  have hlen:=r'.length
  obtain ⟨o,ho,hc,n,hd⟩:=pl.isList
  exact call_list_seq p (.inl rfl) ho hc hd (fun h' c' kp e=>fin its r' hz h' c' kp e) (by simp only [List.size_toArray]<;>lia)
 ·obtain ⟨its,r',pl,hz⟩:=I.tuple hq
  have hlen:=r'.length
  obtain ⟨o,ho,hc,n,hd⟩:=pl
  exact call_list_seq p (.inr rfl) ho hc hd (fun h' c' kp e=>fin its r' hz h' c' kp e) (by simp only [List.size_toArray]<;>lia)
theorem ZeC:Jd X (.type "tuple") (fun xs H Q=>∃p ys,xs = [.ref p]/\((Zu X.K H p ys /\ ∀l,H l=none->Q (.ref l) (upd H l (.tup ys)))∨(YT X.K H p ys/\Q (.ref p) H))):=by
 intro pins s σ H xs us Q I r h
 obtain ⟨p,ys,rfl,h⟩:=h
 obtain ⟨u,rfl,rx⟩:=vals1 r
 cases rx
 rcases h with ⟨hq,q⟩ | ⟨hq,q⟩
 ·obtain ⟨its,r',pl,hz⟩:=I.list hq
  have hlen:=r'.length
  refine call_tuple_list pl.isList (fun h' kp=>?_) (by simp only [List.size_toArray]<;>lia)
  have I1:Inv X pins σ H { s with heap:=h' }:=I.kept (t':=s.toks) kp
  have I2:Inv X pins σ (upd H h'.objs.size (.tup ys)) { s with heap:=h'.push { cls:=.type "tuple", data:=.seq its.toArray } }:=
   I1.laid (t':=s.toks) (fun b o e=>Heap.get?_push_of_some _ e) (Nat.le_refl _) (show Yt X.prog X.w _ _ _ (.tup ys) from ⟨hz,its,r',IsTup.new _ _⟩)
  exact ⟨.ref h'.objs.size,_,I2,rfl,q _ (I1.hok.fresh (Nat.le_refl _))⟩
 ·obtain ⟨its,r',pl,hz⟩:=I.tuple hq
  exact call_tuple_same pl ⟨.ref p,H,I,rfl,q⟩
def tyV (K:PySem.W.Frag) (T:String) (x:V) (H:Hp):Prop:=match x with
 | .str _=>T = "str"
 | .int _=>T = "int"
 | .ref p=>(T = "list" /\ ∃xs,Zu K H p xs)∨(T = "tuple" /\ ∃o,K.lookup p=some o/\o.cls = .type "tuple" /\ o.dict=none) ∨
   (T = "dict" /\ ((∃kvs,H p=some (.dK kvs)) ∨ ∃kvs,H p=some (.dT kvs)))∨(T = "set" /\ ∃S n,H p=some (.set S n))
 | _=>False
theorem ZnT {pins:List (Addr×Obj)} {σ:St}{H:Hp}{s:Shared}{T:String}{x:V}{v:Value} (I:Inv X pins σ H s) (r:RelV x v) (ty:tyV X.K T x H):
  s.TypeIs v T /\ ∀a,v = .ref a -> ∃ob,s.heap.get? a=some ob/\ob.dict=none:=by
 cases x with
 | str z=>
  obtain ⟨t,rfl⟩:=r
  cases (show T = "str" from ty)
  exact ⟨typeIs_str s z t,fun _ e=>nomatch e⟩
 | int i=>
  obtain ⟨t,rfl⟩:=r
  cases (show T = "int" from ty)
  exact ⟨typeIs_int s i t,fun _ e=>nomatch e⟩
 | ref p=>
  cases r
  rcases ty with ⟨rfl,xs,hq⟩ | ⟨rfl,o,hk,hc,hd⟩ | ⟨rfl,hk⟩ | ⟨rfl,S,n,hk⟩
  ·obtain ⟨its,_,pl,_⟩:=I.list hq
   refine ⟨pl.isList.typeIs,fun a e=>?_⟩
   cases e
   obtain ⟨o,n,e,c,hd,_⟩:=pl
   exact ⟨o,e,hd⟩
  ·refine ⟨⟨o,I.kIn p o hk,hc⟩,fun a e=>?_⟩
   cases e
   exact ⟨o,I.kIn _ o hk,hd⟩
  ·have z:∃o,s.heap.get? p=some o/\o.ExactDict:=by
    rcases hk with ⟨kvs,hk⟩ | ⟨kvs,hk⟩
    ·obtain ⟨_,_,_,_,o,_,_,e,ex,_⟩:=I.hok p _ hk
     exact ⟨o,e,ex⟩
    ·obtain ⟨_,_,_,_,o,_,_,e,ex,_⟩:=I.hok p _ hk
     exact ⟨o,e,ex⟩
   obtain ⟨o,e,ex⟩:=z
   refine ⟨⟨o,e,ex.1⟩,fun a e2=>?_⟩
   cases e2
   exact ⟨o,e,ex.2.1⟩
  ·obtain ⟨o,_,_,_,e,ex,_⟩:=I.hok p _ hk
   refine ⟨⟨o,e,ex.1⟩,fun a e2=>?_⟩
   cases e2
   exact ⟨o,e,ex.2.1⟩
 | _=>exact False.elim ty
def tBM (K:PySem.W.Frag) (T:String) (r:V->List V->Hp->VK->Prop) (to:TE) (t:TA):TE:=fun σ H Q=>to σ H fun x H1=>tyV K T x H1/\t σ H1 fun xs H2=>r x xs H2 Q
variable {o e:Expr}{es:List Expr}{to:TE}{t:TA}{name:Str}{apos cpos:Pos}{T id:String}{r:V->List V->Hp->VK->Prop}
theorem Yx (pa:PlainAttrs T) (slot:Slot T name id) (hty:typeOf (.builtin id)=pure (.type "method_descriptor")) (hm:MtR X id r) (ho:PE X o to) (ha:PA X (e::es) t)
  (hbase:attributeBase o name X.env (eval o X.env)=eval o X.env:=by rfl)
  (hfew:((backTo cpos (starEach (e::es) X.env)).all (fun x=>!x.1)&&(backToKw cpos (keywordEach [] X.env)).all (fun x=>x.1.isSome)
   && decide ((e::es).length+([]:List Keyword).length+(if ([]:List Keyword).isEmpty then 0 else 1)<30))=true:=by rfl)
  (hline:(apos.endLine==cpos.line)=true:=by rfl) (hs:starEach (e::es) X.env=(false,eval e X.env)::starEach es X.env:=by rfl) (hplain:(backTo cpos (starEach es X.env)).any (·.1)=false:=by rfl):
  PE X (.Call (.Attribute o name apos) (e::es) [] cpos) (tBM X.K T r to t):=by
 intro pins s σ H Q I h
 refine wpAny_Call_method_late hbase hfew hline rfl (YR (ho pins s σ H _ I h) fun v s1 ⟨x,H1,I1,r1,ty,q1⟩=>?_)
 obtain ⟨h1,h2⟩:=ZnT I1 r1 ty
 refine ⟨T,id,pa,slot,hty,h1,h2,?_⟩
 have hA:=ha cpos pins s1 σ H1 _ I1 q1
 rw [hs] at hA ⊢
 refine Calls.callWith_builtin (by show (false||(backTo cpos (starEach es X.env)).any (·.1))=false;rw [hplain]<;>rfl) (Calls.evalArgs_plain ?_)
 exact YR hA fun us s2 ⟨vs,H2,I2,r2,q2⟩=>hm pins s2 σ H2 x vs v us Q I2 r1 r2 q2
end
def MtM (X:Cx) (id:String) (r:V->List V->Hp->VK->Prop):Prop:=
 ∀(pins:List (Addr×Obj)) (s:Shared) (σ:St) (H:Hp) (x:V) (xs:List V) (v:Value) (us:List Value) (Q:VK),Inv X pins σ H s->RelV x v->Vals xs us->r x xs H Q ->
  wpAny (model X.prog X.w) X.A (call (.builtin id) (v::us)) (EP X pins σ Q) X.xe s
theorem Vals.one:∀{x:V}{us:List Value},Vals [x] us -> ∃u,us = [u]/\RelV x u
 | _,_,.cons r .nil=>⟨_,rfl,r⟩
theorem Vals.two:∀{x y:V}{us:List Value},Vals [x,y] us -> ∃u v,us = [u,v]/\RelV x u/\RelV y v
 | _,_,_,.cons r (.cons q .nil)=>⟨_,_,rfl,r,q⟩
theorem Vals.eraseIdx:∀{xs:List V}{us:List Value} (i:Nat),Vals xs us->Vals (xs.eraseIdx i) (us.eraseIdx i)
 | _,_,_,.nil=>.nil
 | _,_,0,.cons _ t=>t
 | _,_,i+1,.cons r t=>.cons r (Vals.eraseIdx i t)
theorem Vals.rep {xs:List V}{us:List Value} (h:Vals xs us):∀k:Nat,Vals (List.replicate k xs).flatten (List.replicate k us).flatten
 | 0=>.nil
 | k+1=>by
  rw [List.replicate_succ,List.replicate_succ,List.flatten_cons,List.flatten_cons]
  exact Vals.append h (Vals.rep h k)
theorem ZeW {α:Type}:∀(l:List α) (i:Nat),(l.eraseIdx i).length<=l.length
 | [],_=>Nat.le_refl _
 | _::_,0=>Nat.le_succ _
 | _::r,i+1=>Nat.succ_le_succ (ZeW r i)
theorem foldl_rep (its:List Value):∀(k:Nat) (acc:List Value),
  List.foldl (fun x1 x2=>x1++x2) acc.toArray (List.replicate k its.toArray)=(acc++(List.replicate k its).flatten).toArray
 | 0,acc=>by simp
 | k+1,acc=>by
  have e:acc.toArray++its.toArray=(acc++its).toArray:=by simp
  have e2:(acc++its)++(List.replicate k its).flatten=acc++(List.replicate (k+1) its).flatten:=by
   rw [List.replicate_succ,List.flatten_cons,List.append_assoc]
  rw [<- e2,<- foldl_rep its k (acc++its),<- e,List.replicate_succ,List.foldl_cons]
section
variable {X:Cx}{pins:List (Addr×Obj)} {σ:St}{H:Hp}{s:Shared}{l b:Addr}{xs ys zs:List V}
theorem Inv.lset {its its':List Value}{n:Nat}{f:Array Value->Array Value}{t':Nat} (I:Inv X pins σ H s) (hH:H l=some (.lst xs))
  (e:s.heap.get? l=some { cls:=.type "list", data:=.seq its.toArray n }) (hf:f its.toArray=its'.toArray) (hv:Vals ys its') (hz:ys.length<=sizeLine):
  Inv X pins σ (upd H l (.lst ys)) { s with heap:=s.heap.update l (Obj.mapSeq f),toks:=t' }:=by
 have q:=PySem.IsL.update e f
 rw [hf] at q
 refine I.write (x:=l) (e:=l) (by rw [hH];exact trivial) (.inl rfl) (fun b' u hb hu=>(Heap.get?_update_other s.heap (Obj.mapSeq f) (Ne.symm hb)).trans hu) ⟨_,q⟩ ?_
 exact ⟨hz,its',_,hv,q⟩
theorem Inv.lnew {its:List Value}{t':Nat} (I:Inv X pins σ H s) (hv:Vals ys its) (hz:ys.length<=sizeLine):
  Inv X pins σ (upd H s.heap.objs.size (.lst ys)) { s with heap:=s.heap.push { cls:=.type "list", data:=.seq its.toArray },toks:=t' }:=
 I.laid (fun _ _ q=>Heap.get?_push_of_some _ q) (Nat.le_refl _) ⟨hz,its,0,hv,Heap.get?_push_size _ rfl⟩
theorem Inv.fresh (I:Inv X pins σ H s):H s.heap.objs.size=none:=I.hok.fresh (Nat.le_refl _)
theorem Inv.lstM (I:Inv X pins σ H s) (hH:H l=some (.lst xs)):xs.length<=sizeLine /\ ∃(its:List Value) (n:Nat),Vals xs its/\xs.length=its.length/\s.heap.get? l=some { cls:=.type "list", data:=.seq its.toArray n }:=by
 obtain ⟨z,its,n,r,e⟩:=I.hok l _ hH
 exact ⟨z,its,n,r,r.length,e⟩
theorem ZdU {n:Nat} (h:n<=sizeLine):Builtin.List.listTooLong n=false:=by
 unfold Builtin.List.listTooLong
 exact decide_eq_false (by lia)
end
section
variable {X:Cx}
def Zlh:V->List V->Hp->VK->Prop:=fun x vs H Q=>∃l xs y,x = .ref l/\vs = [y]/\H l=some (.lst xs)/\xs.length<sizeLine/\Q .non (upd H l (.lst (xs ++ [y])))
theorem ZO:MtM X "list.append" Zlh:=by
 intro pins s σ H x vs v us Q I rx rv h
 obtain ⟨l,xs,y,rfl,rfl,hH,hz,q⟩:=h
 cases rx
 obtain ⟨u,rfl,ru⟩:=rv.one
 obtain ⟨z,its,n,r,hl,e⟩:=I.lstM hH
 refine call_meets F.slot_list_append ⟨_,e,rfl⟩ F.entry_list_append (F.args_list_append_2 _ _) (PySem.list_append l its.toArray n u (by rw [List.size_toArray];lia)) ⟨e,?_⟩
 refine ⟨.non,_,I.lset (its':=its ++ [u]) hH e (by simp) (r.append (.cons ru .nil)) ?_,rfl,q⟩
 rw [List.length_append,List.length_singleton]
 lia
def Zng:V->List V->Hp->VK->Prop:=fun x vs H Q=>∃l xs i k y,x = .ref l/\vs = [.int i]/\H l=some (.lst xs) /\ -(2 ^ 63)<=i/\i<2 ^ 63/\seqIndex? i xs.length=some k/\xs[k]? = some y/\Q y (upd H l (.lst (xs.eraseIdx k)))
theorem Zd3:MtM X "list.pop" Zng:=by
 intro pins s σ H x vs v us Q I rx rv h
 obtain ⟨l,xs,i,k,y,rfl,rfl,hH,h1,h2,hk,hy,q⟩:=h
 cases rx
 obtain ⟨u,rfl,ru⟩:=rv.one
 obtain ⟨t,rfl⟩:=ru
 obtain ⟨z,its,n,r,hl,e⟩:=I.lstM hH
 obtain ⟨w,hw,rw'⟩:=r.get hy
 refine call_meets F.slot_list_pop ⟨_,e,rfl⟩ F.entry_list_pop (F.args_list_pop_2 _ _)
  (MeetsSeq.list_pop_at l its.toArray n i t k w (fitsIndex_both h1 h2) (by rw [List.size_toArray,<- hl];exact hk) (by rw [<- Array.getElem?_toList];exact hw) (by rw [List.size_toArray];lia)) ⟨e,?_⟩
 refine ⟨y,_,I.lset (its':=its.eraseIdx k) hH e ?_ (r.eraseIdx k) ?_,rw',q⟩
 ·show its.toArray.eraseIdxIfInBounds k=(its.eraseIdx k).toArray
  rw [List.eraseIdxIfInBounds_toArray]
 ·have:=ZeW xs k
  lia
def Zos:R2:=fun x y H Q=>∃l b xs zs,x = .ref l/\y = .ref b/\H l=some (.lst xs)/\H b=some (.lst zs)/\xs.length+zs.length<=sizeLine /\ ∀p,H p=none->Q (.ref p) (upd H p (.lst (xs++zs)))
theorem Ws:UA X (binaryOp .Add) Zos:=by
 intro pins s σ H x y v u Q I rx ry h
 obtain ⟨l,b,xs,zs,rfl,rfl,hH,hB,hz,q⟩:=h
 cases rx
 cases ry
 obtain ⟨z,its,n,r,hl,e⟩:=I.lstM hH
 obtain ⟨z2,its2,n2,r2,hl2,e2⟩:=I.lstM hB
 refine PySem.P.add_list e e2 ?_ (by rw [List.size_toArray,List.size_toArray];lia)
 have ea:its.toArray++its2.toArray=(its++its2).toArray:=by simp
 rw [ea]
 exact ⟨.ref _,_,I.lnew (t':=s.toks) (r.append r2) (by rw [List.length_append];lia),rfl,q _ I.fresh⟩
def ZmZ:R2:=fun x y H Q=>∃l k xs,x = .ref l/\y = .int k/\H l=some (.lst xs) /\ -(2 ^ 63)<=k/\k<2 ^ 63/\xs.length*k.toNat<=sizeLine /\
 ∀p,H p=none->Q (.ref p) (upd H p (.lst (List.replicate k.toNat xs).flatten))
theorem len_rep {α:Type} (xs:List α) (k:Nat):(List.replicate k xs).flatten.length=k*xs.length:=by
 induction k with
 | zero=>simp
 | succ k ih=>rw [List.replicate_succ,List.flatten_cons,List.length_append,ih,Nat.succ_mul,Nat.add_comm]
theorem ZbA:UA X (binaryOp .Mult) ZmZ:=by
 intro pins s σ H x y v u Q I rx ry h
 obtain ⟨l,k,xs,rfl,rfl,hH,h1,h2,hz,q⟩:=h
 cases rx
 obtain ⟨t,rfl⟩:=ry
 obtain ⟨z,its,n,r,hl,e⟩:=I.lstM hH
 have hlen:its.toArray.size*k.toNat<=sizeLine:=by rw [List.size_toArray,<- hl];exact hz
 have hcap:¬its.toArray.size*k.toNat>(2 ^ 63-1) / 8:=by
  have:(sizeLine:Nat)<=(2 ^ 63-1) / 8:=by decide
  lia
 have hfit:¬(!Builtin.List.listFitsIndex k)=true:=by
  rw [fitsIndex_both h1 h2]
  exact Bool.false_ne_true
 have hlong:¬Builtin.List.listTooLong (its.toArray.size*k.toNat)=true:=by
  rw [ZdU hlen]
  exact Bool.false_ne_true
 have hnew:List.foldl (fun x1 x2=>x1++x2) #[] (List.replicate (if its.toArray.isEmpty=true then 0 else k.toNat) its.toArray)=(List.replicate k.toNat its).flatten.toArray:=by
  have f0:∀m:Nat,List.foldl (fun x1 x2=>x1++x2) #[] (List.replicate m its.toArray)=(List.replicate m its).flatten.toArray:=fun m=>by
   have:=foldl_rep its m []
   rw [List.nil_append] at this
   exact this
  rw [f0]
  cases its with
  | nil=>simp
  | cons a r'=>rw [if_neg (by simp)]
 refine wpAny_binaryOp_repeat_ref (T := "list") (U := "int") (by decide) ⟨_,e,rfl⟩ (fun s'=>typeIs_int s' k t) noFill_list_mul F.fills_int_mul F.slot_int_rmul repeat_list F.slot_int_index.lookup
  (call_meets F.slot_int_rmul (typeIs_int s k t) F.entry_int_rmul (F.args_int_rmul_2 _ _) (int___rmul___int_list k t l its.toArray n)
   ⟨e,rfl,⟨_,e,rfl⟩,call_meets F.slot_list_mul ⟨_,e,rfl⟩ F.entry_list_mul (F.args_list_mul_2 _ _) (AutoListH.list___mul___list_int_3 l its.toArray n k t hfit hcap hlong) ⟨e,?_⟩⟩)
 rw [hnew]
 exact ⟨.ref _,_,I.lnew (t':=s.toks) (r.rep k.toNat) (by rw [len_rep,Nat.mul_comm];exact hz),rfl,q _ I.fresh⟩
end
section
variable {prog:Program}{w:World}{A:Around}{E:Value->Shared->Prop}{s:Shared}
theorem Zje (its its2:List Value) (a c:Nat):its.toArray.extract 0 a++its2.toArray++its.toArray.extract c its.toArray.size=(its.take a++its2++its.drop c).toArray:=by
  apply Array.toList_inj.mp
  first
    | (simp
       exact List.take_of_length_le (by simp))
    | simp [List.take_of_length_le]
    | simp
theorem ZdI {a c n:Nat} (hac:a<=c) (hc:c<=n):sliceBounds (some (a:Int)) (some (c:Int)) none n=((a:Int),(c:Int),1):=by
 simp only [sliceBounds,Option.getD_none]
 have h1:¬((a:Int)<0):=by lia
 have h2:¬((c:Int)<0):=by lia
 simp only [h1,h2,if_false,show (1:Int)>0 by decide,if_true]
 congr 1
 ·lia
 ·congr 1;lia
set_option maxRecDepth 100000 in
theorem ZeI {l b sl:Addr}{items new:Array Value}{n n2:Nat}{vl vu:Value}{a c:Nat}{Q:Unit->Shared->Prop}
    (e:s.heap.get? l=some { cls:=.type "list", data:=.seq items n }) (e2:s.heap.get? b=some { cls:=.type "list", data:=.seq new n2 }) (hne:l≠b)
    (hs:s.heap.IsSliceOf sl vl vu .none) (pl:IsPart vl (some (a:Int))) (pu:IsPart vu (some (c:Int))) (hac:a<=c) (hc:c<=items.size)
    (hsz:items.size+new.size<=sizeLine) (h:Q () { s with heap:=s.heap.update l (Obj.mapSeq fun xs=>xs.extract 0 a++new++xs.extract c xs.size) }):
    wpAny (model prog w) A (setItem (.ref l) (.ref sl) (.ref b)) Q E s:=by
  have hl:s.heap.IsList l items:=PySem.IsL.isList e
  have hb:s.heap.IsList b new:=PySem.IsL.isList e2
  obtain ⟨os,hos,hcs,hds⟩:=id hs
  have hTs:s.TypeIs (.ref sl) "slice" := ⟨os,hos,hcs⟩
  have hstep:¬((rawPart none==rawInt 0)=true):=Bool.false_ne_true
  have hsame:Builtin.List.listSameRef (.ref l) (.ref b)=false:=by
    unfold Builtin.List.listSameRef
    exact beq_eq_false_iff_ne.mpr hne
  have hmax:(max (a:Int) (c:Int)).toNat=c:=by lia
  have hz':((fun xs:Array Value=>xs.extract 0 a++new++xs.extract c xs.size) items).size<=sizeLine+1:=by
    simp only [Array.size_append,Array.size_extract]
    lia
  unfold setItem
  try with_reducible refine wpAny_holding ?_
  first | refine wpAny_bind (wpAny_pure ?_) | skip
  refine wpAny_bind (wpAny_sequenceKey hl.typeIs (by decide) ?_)
  refine wpAny_bind (wpAny_callSpecial?_slot (name:=Str.ofString "__setitem__") hl.typeIs slot_list_setitem
    (wpAny_call_entry slot_list_setitem hl.typeIs entry_list_setitem ?_ (args_list_setitem _ _ _)))
  show wpAny _ _ (Builtin.List.listSubscript? (.ref sl) >>= _) _ _ s
  refine wpAny_bind ?_
  unfold Builtin.List.listSubscript?
  refine wpAny_bind (wpAny_specialOf hTs slice_no_index ?_)
  simp only [Option.isNone_none,if_true]
  refine wpAny_pure ?_
  show wpAny _ _ (typeOf (.ref sl) >>= _) _ _ s
  refine wpAny_bind (wpAny_typeOf hTs ?_)
  first
    | rw [if_neg (by decide)]
    | refine PySem.W.KFB.if_not (by decide) ?_
  rw [listSliceParts_eq]
  refine wpAny_bind (wpAny_bind (wpAny_field hos hds (x:=.none) rfl (wpAny_bind (wpAny_listPart .none ?_))))
  rw [if_neg hstep]
  refine wpAny_bind (wpAny_field hos hds (x:=vl) rfl (wpAny_bind (wpAny_listPart pl ?_)))
  refine wpAny_bind (wpAny_field hos hds (x:=vu) rfl (wpAny_bind (wpAny_listPart pu (wpAny_pure ?_))))
  first
    | simp only [hsame,Bool.false_eq_true,if_false]
    | refine PySem.W.KFB.if_not hsame ?_
    | (dsimp only
       rw [if_neg (by rw [hsame];exact Bool.false_ne_true)])
  refine wpAny_bind (m:=Builtin.List.listAllItems (.ref b) "must assign iterable to extended slice") ?_
  unfold Builtin.List.listAllItems
  refine wpAny_bind (wpAny_typeOf hb.typeIs ?_)
  first
    | refine PySem.W.KFB.if_so (by decide) ?_
    | rw [if_pos (by decide)]
    | simp only [beq_self_eq_true,Bool.true_or,if_true]
  unfold Builtin.List.listItems
  refine wpAny_bind (wpAny_seqItems e2 rfl (wpAny_pure ?_))
  refine wpAny_bind (wpAny_bind (wpAny_seqItems e rfl (wpAny_pure ?_)))
  refine wpAny_bind (wpAny_of_eq ((sliceIndices_raw (some (a:Int)) (some (c:Int)) none items.size (by simp)).trans (congrArg (pure:Int×Int×Int->Sem (Int×Int×Int)) (ZdI hac hc))) ?_)
  show wpAny _ _ (if ((1:Int)==1)=true then _ else _) _ _ s
  rw [if_pos (by decide)]
  refine wpAny_bind (wpAny_rule ?_)
  first
    | simp only [ZdU hsz,Bool.false_eq_true,if_false]
    | refine PySem.W.KFB.if_not (ZdU hsz) ?_
  first | refine wpAny_bind (wpAny_pure ?_) | skip
  show wpAny _ _ (updateSeq l (fun xs=>xs.extract 0 ((a:Int)).toNat++new++xs.extract (max (a:Int) (c:Int)).toNat xs.size) >>= _) _ _ s
  rw [hmax,Int.toNat_natCast]
  refine wpAny_bind (wpAny_updateSeq (hz:=Nat.le_trans (Nat.le_add_right _ _) hsz) (_hz':=hz') e rfl ?_)
  refine wpAny_bind (wpAny_letGo ?_)
  first
    | exact wpAny_bind (wpAny_pure (wpAny_pure ⟨.none,rfl,wpAny_pure h⟩))
    | exact wpAny_pure ⟨.none,rfl,wpAny_pure h⟩
end
section
variable {X:Cx}
theorem Zjl {pins:List (Addr×Obj)}{s:Shared} {σ:St}{H:Hp}{l b sl:Addr}{xs ys:List V}{a c:Int}{vl vu:Value}{Q:Unit->Shared->Prop} (I:Inv X pins σ H s)
  (hH:H l=some (.lst xs)) (hB:H b=some (.lst ys)) (hne:l≠b) (hs:s.heap.IsSliceOf sl vl vu .none) (ra:RelV (.int a) vl) (rc:RelV (.int c) vu) (h0:0<=a) (hac:a<=c) (hc:c<=xs.length)
  (hz:xs.length+ys.length<=sizeLine) (h:∀s',Inv X pins σ (upd H l (.lst (xs.take a.toNat++ys++xs.drop c.toNat))) s'->Q () s'):
  wpAny (model X.prog X.w) X.A (setItem (.ref l) (.ref sl) (.ref b)) Q X.xe s:=by
 obtain ⟨ta,rfl⟩:=ra
 obtain ⟨tc,rfl⟩:=rc
 obtain ⟨z,its,n,r,hl,e⟩:=I.lstM hH
 obtain ⟨z2,its2,n2,r2,hl2,e2⟩:=I.lstM hB
 obtain ⟨a',rfl⟩:=Int.eq_ofNat_of_zero_le h0
 obtain ⟨c',rfl⟩:=Int.eq_ofNat_of_zero_le (Int.le_trans h0 hac)
 simp only [Int.toNat_natCast] at h
 refine ZeI (a:=a') (c:=c') e e2 hne hs (.int _ _) (.int _ _) (by lia) (by rw [List.size_toArray];lia) (by rw [List.size_toArray,List.size_toArray];lia) (h _ ?_)
 refine I.lset (its':=its.take a'++its2++its.drop c') (t':=s.toks) hH e ?_ (Vals.append (Vals.append (r.take _) r2) (r.drop _)) ?_
 ·exact Zje its its2 a' c'
 ·rw [List.length_append,List.length_append,List.length_take,List.length_drop]
  lia
end
end L2
namespace Att
open PySem PySem.W PySem.Calls PyProof.Rows
theorem Zdg {P:Params}{h:Heap}:∀(ns:List Int) (vs:List Value),WellAll P h vs (ns.map WData.int)->IntsAre vs ns:=by
 intro ns
 induction ns with
 | nil=>
  intro vs w
  rw [List.map_nil] at w
  cases w
  exact .nil
 | cons n ns ih=>
  intro vs w
  rw [List.map_cons] at w
  cases w with
  | cons a b=>
   cases a
   exact .cons _ _ (ih _ b)
theorem ZiN {l:OpenLaw}{n:Nat} (hn:l.most=some n) {P:Params}{h:Heap}{args:List WData}{vals:List Value}
  (hpre:l.row.toRowW.claim.pre args=true) (hwl:WellAll P h vals args):
  ∃a vs ns,vals = [Value.ref a]/\args = [WData.list (ns.map WData.int)]/\h.get? a=some { cls:=.type "list", data:=.seq vs.toArray } /\ IntsAre vs ns/\ns.length<=n:=by
 have hsh:WShape.hasAll [] args [.list .int]=true:=(pre_splitW hpre).1
 have hc:l.pre.holds [] { args:=args } = true:=(pre_splitW hpre).2
 obtain ⟨d,r,rfl,h1,h2⟩:=hasAllW_cons hsh
 obtain rfl:=hasAllW_nil h2
 obtain ⟨xs,rfl,h3⟩:=hasW_list h1
 obtain ⟨ns,rfl⟩:=items_int h3
 have hlen:ns.length<=n:=by
  unfold OpenLaw.pre at hc
  have h4:(WTm.not (.lt (.lit (.int (n:Int))) (.len (.arg 0)))).holds [] { args:=[.list (ns.map .int)] } = true:=by
   have h4:=(holds_andW hc).1
   rw [hn] at h4
   exact h4
  have h5:=condW_of h4 (w_not (w_lt w_lit (w_len_list (w_arg rfl))))
  rw [List.length_map] at h5
  refine Nat.le_of_not_lt fun q=>?_
  have q':(n:Int)<((ns.length:Nat):Int):=by lia
  first
   | (rw [decide_eq_true q'] at h5;exact absurd h5 (by decide))
   | (simp at h5;lia)
 cases hwl with
 | cons w1 w2=>
  cases w2
  cases w1 with
  | list ho hall=>exact ⟨_,_,ns,rfl,rfl,ho,Zdg ns _ hall,hlen⟩
theorem Zi2 (l:OpenLaw) (args:List WData):l.row.toRowW.claim.post args (.bool true) args=true:=
 postW_of (r:=l.row.toRowW) (X:=(true==true))
  (show WShape.has [] (.bool true) .bool=true by first | rfl | decide | simp [WShape.has,WShape.arms,WShape.armsAll])
  (show (WTm.eq .res (.lit (.bool true))).value [] { args:=args,res:=some (.bool true),after:=args } = some (.bool (true==true)) from w_eq_bool (w_res rfl) w_lit) rfl
theorem Zgo {l:OpenLaw}{n:Nat}{q:Program}{loose:List Str}{XP:(Str->Option Value)->Heap->Prop}{YP:World->Heap->Prop}{d:DefRec}
  (hn:l.most=some n) (hdf:d.params.defaults = [])
  (call:∀(w:World) (s₀ s₁:Shared) (mg mb:Str->Option Value) (fa:Addr) (o:Obj) (pm cd doc:Value) (a:Addr) (vs:List Value) (ns:List Int),
   Ground q loose [] XP w s₀ mg mb s₁.heap->YP w s₁.heap ->
   s₁.heap.get? fa=some o->o.data = .func (docDef d.name d.params d.body d.scope pm cd doc)->s₁.heap.CodeRec cd d.name->mg d.name=some (.ref fa) ->
   s₁.heap.get? a=some { cls:=.type "list", data:=.seq vs.toArray } -> IntsAre vs ns->ns.length<=n->s₁.gens = #[] ->
   codeAny (model l.prog w) callerA (.call (.ref fa) ⟨[.ref a],[]⟩) (fun r s'=>r = .ok (.ret (.bool true))/\OldK s₁.heap s'.heap/\s'.os=s₁.os/\AllBare s'.gens) s₁):
  WalkO q loose XP YP l.row.toRowW d [] (fun f vs=>PySem.call f vs):=by
 intro w s₀ s₁ mg mb G Y fa o pm cd doc dV kV ho hd hcd hD hmg hg args vals as hpre hlay hrd hwl hlo
 obtain rfl:dV = .none:=Dflts.none hD hdf
 obtain rfl:kV = .none:=Dflts.noKw hD
 obtain ⟨a,vs,ns,rfl,rfl,hobj,hints,hlen⟩:=ZiN hn hpre hwl
 refine enter_call (codeAny_mono (call w s₀ s₁ mg mb fa o pm cd doc a vs ns G Y ho (fd_plain hd) hcd hmg hobj hints hlen hg) fun r s' hq=>?_)
 obtain ⟨rfl,h2,h3,h4⟩:=hq
 exact ⟨.inl ⟨.bool true,.bool true,[],rfl,fun _=>rfl,.bool true,Zi2 l _,fun _=>⟨List.Pairwise.nil,fun _ hm=>(nomatch hm)⟩⟩,h2,h3,h4⟩
section
variable {prog:Program}{w:World}{A:Around}{E:Value->Shared->Prop}{s:Shared}{K:Frag}
def ledger (h:Heap) (L d:Addr):List (Addr×Obj):=(List.range h.objs.size).filterMap fun a=>if a=L∨a=d then none else (h.get? a).map fun o=>(a,o)
end
end Att
namespace L2
open PySem PySem.Spec PyProof.Rows
theorem Za3:∀{vs:List Value}{ns:List Int},IntsAre vs ns->Vals (ns.map V.int) vs
 | _,_,.nil=>.nil
 | _,_,.cons n t h=>.cons ⟨t,rfl⟩ (Za3 h)
def Znq (H:Hp):Prop:=∀b,H b=none ∨ ∃o xs,H b=some (.frz o (.lst xs))
theorem ZjN {P:Program}{w:World}{K:PySem.W.Frag}{mg mb:Str->Option Value}{CX:CXT}{k:Nat}{fa a:Addr}{fd:FuncData}{x:Str}{sp:Sp}{s₁:Shared}{vs:List Value}{ns:List Int}
  (KX:K.In s₁.heap) (hns:s₁.heap.Ns mainGlobals mg) (hb:s₁.heap.Ns builtinsNs mb) (hbb:∀x:Str,x ≠ "__name__" -> mb x=bootBuiltins x) (hlim:s₁.heap.NoLimit) (hg:s₁.gens = #[])
  (ha:s₁.heap.get? a=some { cls:=.type "list", data:=.seq vs.toArray }) (hi:IntsAre vs ns) (hl:ns.length<=sizeLine) (hr:GC k callerA)
  (F:∀base:Heap,K.In base->base.Ns mainGlobals mg->Yc P w K mg base CX k fa fd [x] sp) (hbind:∀(s:Shared) (u:Value),BindsTo s fd ⟨[u],[]⟩ [(x,u)])
  (hsp:∀H:Hp,Znq H->Zu K H a (ns.map V.int)->sp [.ref a] H (fun v _=>v = .bl true) fun _ _ _=>False)
  (hCX:∀H e s',CX [] H s₁ (fun _ _ _=>False) e s'->False):
  codeAny (model P w) callerA (.call (.ref fa) ⟨[.ref a],[]⟩) (fun r s'=>r = .ok (.ret (.bool true))/\OldK s₁.heap s'.heap/\s'.os=s₁.os/\AllBare s'.gens) s₁:=by
 have rv:=Za3 hi
 have lenV:=hi.length
 have core:∀H:Hp,Znq H->Zu K H a (ns.map V.int)->UL P w H s₁.heap->(∀b,H b≠none->b=a)->(H a≠none->K.lookup a=none) ->
   codeAny (model P w) callerA (.call (.ref fa) ⟨[.ref a],[]⟩) (fun r s'=>r = .ok (.ret (.bool true))/\OldK s₁.heap s'.heap/\s'.os=s₁.os/\AllBare s'.gens) s₁:=by
  intro H hO hS hok hA hK
  have base_of:∀{b:Addr}{o:Obj},s₁.heap.get? b=some o->H b=none->(ZfS s₁.heap H).get? b=some o:=fun e n=>Zj8 e n
  have noA:∀{b:Addr}{o:Obj}{es:Array DictEntry}{ep:Nat},s₁.heap.get? b=some o->o.data = .dict es ep->H b=none:=fun {b o es ep} e d=>by
   cases q:H b with
   | none=>rfl
   | some u=>
    have e':b=a:=hA b (by rw [q];simp)
    subst e'
    rw [ha] at e;cases e
    have d':Data.seq vs.toArray _=Data.dict es ep:=d
    cases d'
  have nsK:∀{b:Addr}{m:Str->Option Value},s₁.heap.Ns b m->(ZfS s₁.heap H).Ns b m:=fun {b m} ⟨o,es,ep,e,d,r⟩=>⟨o,es,ep,base_of e (noA e d),d,r⟩
  have hKb:K.In (ZfS s₁.heap H):=fun b o e=>base_of (KX b o e) (by
   cases q:H b with
   | none=>rfl
   | some u=>
    have e':b=a:=hA b (by rw [q];simp)
    subst e'
    rw [hK (by rw [q];simp)] at e;cases e)
  have hM:Mod K mg (ZfS s₁.heap H):=⟨hKb,nsK hns,⟨mb,nsK hb,hbb⟩,let ⟨mc,h1,h2⟩:=hlim;⟨mc,nsK h1,h2⟩⟩
  have e0:ZhB P w K mg (ZfS s₁.heap H) callerA [] s₁ H:=⟨rfl,hM,fun b o e=>ZlH e,Nat.le_of_eq (Zi8 _ _),trivial,fun b hb=>absurd (show b∈([]:List Addr) from hb) (by simp),hok,.of_eq hg⟩
  refine codeAny_mono ((F _ hKb (nsK hns)).run callerA [] s₁ H ⟨[.ref a],[]⟩ [.ref a] [.ref a] _ _ hr e0 (hbind s₁ (.ref a)) (.cons rfl .nil) (hsp H hO hS)) fun r s' h=>?_
  cases r with
  | error e=>exact (hCX H e s' h).elim
  | ok fl=>
   cases fl with
   | next=>exact False.elim h
   | brk=>exact False.elim h
   | cont=>exact False.elim h
   | ret u=>
    obtain ⟨v,H',os,bare,un,hok',r',q⟩:=h
    have q':v = .bl true:=q
    subst q'
    obtain rfl:u=Value.bool true:=r'
    refine ⟨rfl,OldK.of_keep fun b o e=>?_,os,bare⟩
    cases q:H b with
    | none=>exact un.keep b o e q (by intro z;exact absurd (show b∈([]:List Addr) from z) (by simp)) (by simp)
    | some u=>
     rcases hO b with z | ⟨ob,xs,z⟩
     ·rw [q] at z;cases z
     ·have z2:=un.frzs b ob _ z
      obtain ⟨e1,_⟩:=hok b _ z
      obtain ⟨e2,_⟩:=hok' b _ z2
      rw [e] at e1;cases e1
      exact e2
 cases hk:K.lookup a with
 | some o=>
  have e:=KX a o hk
  rw [ha] at e
  cases e
  refine core (fun _=>none) (fun _=>.inl rfl) (.inr ⟨_,vs.toArray,_,hk,rfl,rfl,rfl,by rw [List.size_toArray,lenV];exact hl,by simpa using rv⟩) (fun b u z=>by have z':(none:Option HO)=some u:=z;cases z') (fun b z=>absurd rfl z) fun z=>absurd rfl z
 | none=>
  refine core (fun b=>if b=a then some (.frz { cls:=.type "list", data:=.seq vs.toArray } (.lst (ns.map V.int))) else none) (fun b=>?_) (.inl (.inr ⟨{ cls:=.type "list", data:=.seq vs.toArray },if_pos rfl⟩)) (fun b u z=>?_) (fun b z=>?_) fun _=>hk
  ·by_cases hb:b=a
   ·exact .inr ⟨_,_,if_pos hb⟩
   ·exact .inl (if_neg hb)
  ·by_cases hb:b=a
   ·have z':=(if_pos hb).symm.trans z
    cases z'
    subst hb
    exact ⟨ha,by rw [List.length_map];exact hl,vs,_,rv,ha⟩
   ·have z':=(if_neg hb).symm.trans z
    cases z'
  ·by_cases hb:b=a
   ·exact hb
   ·exact absurd (if_neg hb) z
abbrev KOf {K:PySem.W.Frag}{h:Heap} (_:K.In h):PySem.W.Frag:=K
theorem ZlV {l:PySem.W.OpenLaw}{n k:Nat}{q:Program}{loose:List Str}{XP:(Str->Option Value)->Heap->Prop}{YP:World->Heap->Prop}{d:DefRec}{K:Params->PySem.W.Frag}{CX:World->CXT}{sp:World->Sp}{x:Str}
  (hn:l.most=some n) (hn2:n<=sizeLine) (hdf:d.params.defaults = []) (hr:GC k callerA)
  (hY:∀(w:World) (h:Heap),YP w h->(K w.params).In h)
  (F:∀(w:World) (mg:Str->Option Value) (fa:Addr) (h:Heap),(K w.params).In h->h.Ns mainGlobals mg->mg d.name=some (.ref fa) ->
   ∃fd:FuncData,(∀(s:Shared) (u:Value),BindsTo s fd ⟨[u],[]⟩ [(x,u)]) /\
    ∀base:Heap,(K w.params).In base->base.Ns mainGlobals mg->Yc l.prog w (K w.params) mg base (CX w) k fa fd [x] (sp w))
  (hsp:∀(w:World) (H:Hp) (a:Addr) (ns:List Int),ns.length<=n->Znq H->Zu (K w.params) H a (ns.map V.int)->sp w [.ref a] H (fun v _=>v = .bl true) fun _ _ _=>False)
  (hCX:∀(w:World) (H:Hp) (s:Shared) (e:Value) (s':Shared),CX w [] H s (fun _ _ _=>False) e s'->False):
  PySem.W.WalkO q loose XP YP l.row.toRowW d [] (fun f vs=>PySem.call f vs):=by
 refine Att.Zgo hn hdf fun w s₀ s₁ mg mb fa o pm cd doc a vs ns G Y ho hd hcd hmg hobj hints hlen hg=>?_
 have KX:=hY w _ Y
 obtain ⟨fd,hb,hF⟩:=F w mg fa _ KX G.T.g hmg
 exact ZjN KX G.T.g G.T.b G.T.builtins G.T.nolimit hg hobj hints (Nat.le_trans hlen hn2) hr hF hb (fun H hO hS=>hsp w H a ns hlen hO hS) fun H e s'=>hCX w H s₁ e s'
def Zb6 (s:Stmt):Arguments:=match s with
 | .FunctionDef _ a _ _ _ _ _ _ _ _=>a
 | _=>{ posonlyargs:=[],args:=[],vararg:=none,kwonlyargs:=[],kw_defaults:=[],kwarg:=none,defaults:=[] }
def GR (s:Stmt):List Stmt:=match s with
 | .FunctionDef _ _ b _ _ _ _ _ _ _=>b
 | _=>[]
def Zh (s:Stmt):Scope:=match s with
 | .FunctionDef _ _ _ _ _ _ sc _ _ _=>sc
 | _=>{ kind:=.function,names:=[],isGenerator:=false,isCoroutine:=false }
abbrev J9:CXT:=fun _ _ _ _ _ _=>False
abbrev E0:XK:=fun _ _ _=>False
theorem Zoq {X:Cx}:Passes J9 X E0:=fun _ _ _ _ _ _ _ h=>h.elim
structure Yp (K:PySem.W.Frag) (x qual:Str) (st:Stmt) (f:Addr) (fd:FuncData):Prop where
 ex:∃(oc:Value) (od:Option Addr) (kV doc pm:Value) (an:Option Addr) (cdv ct:Value) (osl:Array (Option Value)),
  fd=PySem.W.fnOf x qual (Zb6 st) (GR st) (Zh st) .none kV doc pm an cdv ct/\K.lookup f=some ⟨oc,od,.func fd,osl⟩/\PySem.W.codeIn K cdv qual=true
 kp:PySem.W.keepIn K (.ref f)=true
section
variable {P:Program}{w:World}{K:PySem.W.Frag}{mg:Str->Option Value}{base:Heap}
theorem Yp.ok {x qual:Str}{st:Stmt}{f:Addr}{fd:FuncData}{N ps:List Str}{k:Nat}{sp:Sp} (F:Yp K x qual st f fd) (S:Zz N ps (Zh st)) (len:∀vs H Q E,sp vs H Q E->vs.length=ps.length)
  (hbody:∀(cdv:Value) (A:Around) (outer:List Env) (s:Shared) (H:Hp) (vs:List V) (Q:VK) (E:XK),GC k (A.deeper (envOfC qual (Zh st) s.heap.objs.size f cdv))->sp vs H Q E ->
   ∃t,PSs (WZ J9 P w K mg base N qual (Zh st) f cdv A outer s H E).nox (GR st) t/\t { nx:=fun _ H'=>Q .non H',rt:=Q } (start N vs) H):Yc P w K mg base J9 (k+1) f fd ps sp:=by
 obtain ⟨oc,od,kV,doc,pm,an,cdv,ct,osl,rfl,lk,hcd⟩:=F.ex
 refine Zmz lk hcd S len fun A outer s H vs Q E hr hsp=>?_
 obtain ⟨t,h,q⟩:=hbody cdv A outer s H vs Q E hr hsp
 exact ⟨t,h.nox,q⟩
theorem Yp.binds {x qual:Str}{st:Stmt}{f:Addr}{fd:FuncData}{ps:List Str} (F:Yp K x qual st f fd)
  (h:∀(kV doc pm:Value) (an:Option Addr) (cdv ct:Value) (us:List Value),us.length=ps.length->bindArgs (PySem.W.fnOf x qual (Zb6 st) (GR st) (Zh st) .none kV doc pm an cdv ct) ⟨us,[]⟩=pure (ps.zip us)):Binds K fd ps []:=by
 obtain ⟨oc,od,kV,doc,pm,an,cdv,ct,osl,rfl,lk,hcd⟩:=F.ex
 exact .all (h kV doc pm an cdv ct)
theorem ZH {x qual:Str}{st:Stmt}{f:Addr}{oc:Value}{od an:Option Addr}{osl:Array (Option Value)}{kV doc pm cdv ct:Value} (l:K.lookup f=some ⟨oc,od,.func (PySem.W.fnOf x qual (Zb6 st) (GR st) (Zh st) .none kV doc pm an cdv ct),osl⟩)
  (c:PySem.W.codeIn K cdv qual=true) (k:PySem.W.keepIn K (.ref f)=true):Yp K x qual st f (PySem.W.fnOf x qual (Zb6 st) (GR st) (Zh st) .none kV doc pm an cdv ct):=⟨⟨oc,od,kV,doc,pm,an,cdv,ct,osl,rfl,l,c⟩,k⟩
end
theorem Wl {A:Around}{k:Nat} (hr:GC k A):A.units+1<cLine:=Nat.lt_of_le_of_lt (Nat.add_le_add_left (by decide:1<=64) _) hr.units
theorem ZC {n:Nat} (h:n<=1000):n<sizeLine:=Nat.lt_of_le_of_lt h (by decide)
section
variable {X:Cx}
theorem pv (i:Nat) {x:Str}{pos:Pos} (hN:X.N[i]? = some x:=by rfl) (hv:Vis X.env.scope x:=by first | exact Or.inl rfl | exact Or.inr (Or.inl rfl) | exact Or.inr (Or.inr rfl)) (hd:(x==("__debug__" : Str))=false:=by decide)
  (hcd:(x==("__classdict__" : Str))=false:=by decide):PE X (.Name x pos) (Zju i):=Zn7 hN hv hd hcd
end
theorem Y5 {A B:Prop} (h:B):if false=true then A else B:=by
 rw [if_neg Bool.false_ne_true]
 exact h
theorem JN {A B:Prop} (h:A):if true=true then A else B:=by
 rw [if_pos rfl]
 exact h
theorem Z0 {c A B:Prop} [Decidable c] (h1:c->A) (h2:¬c->B):if c then A else B:=by
 by_cases h:c
 ·rw [if_pos h]
  exact h1 h
 ·rw [if_neg h]
  exact h2 h
theorem Zmy {c A B:Prop} [Decidable c] (hc:c) (h:B):if (!decide c)=true then A else B:=by
 rw [decide_eq_true hc]
 exact Y5 h
def Zi (H H':Hp):Prop:=∀b o,H b=some o->H' b=some o
theorem Zi.refl (H:Hp):Zi H H:=fun _ _ h=>h
theorem Zi.trans {H H1 H2:Hp} (a:Zi H H1) (b:Zi H1 H2):Zi H H2:=fun c o h=>b c o (a c o h)
theorem Zi.free {H H':Hp} (e:Zi H H') {l:Addr} (h:H' l=Option.none):H l=Option.none:=by
 cases q:H l with
 | none=>rfl
 | some o=>
  rw [e l o q] at h
  cases h
theorem Zi.seq {K:PySem.W.Frag}{H H':Hp}{a:Addr}{xs:List V} (e:Zi H H') (h:Zu K H a xs):Zu K H' a xs:=by
 rcases h with (h | ⟨o,h⟩) | h
 ·exact .inl (.inl (e _ _ h))
 ·exact .inl (.inr ⟨o,e _ _ h⟩)
 ·exact .inr h
end L2
set_option maxHeartbeats 4000000
namespace L2
open PySem PySem.Spec PyProof.Rows
section
variable {prog:Program}{w:World}{A:Around}{R:Result->Shared->Prop}{s:Shared}
theorem Zi5 {elt target iter:Expr}{ifs:List Expr}{scope:Scope}{pos:Pos}{it acc:Value}{env:Env} (I:Nat->Shared->Prop)
  (turn:∀n s,I n s->wpAny (model prog w) A (pyNext it) (fun r s₁=>match r with
   | none=>R (.ok .next) s₁
   | some v=>wpAny (model prog w) A (letOwnedTupleGo target it v) (fun _ s₁'=>wpAny (model prog w) A (assign target env v) (fun _ s₂=>
     wpAny (model prog w) A (forIn ifs true fun c r=>if r=true then do let ok <- isTrue c env (eval c env);pure (ForInStep.yield ok) else pure (ForInStep.yield r)) (fun ok s₃=>
      if ok=true then wpAny (model prog w) A (eval elt env) (fun x s₄=>
       wpAny (model prog w) A (call (.builtin "list.append") [acc,x]) (fun _ s₅=>∃m,m<n/\I m s₅) (fun _ _=>False) s₄) (fun _ _=>False) s₃
      else ∃m,m<n/\I m s₃) (fun _ _=>False) s₂) (fun _ _=>False) s₁') (fun _ _=>False) s₁) (fun _ _=>False) s)
  (n:Nat) (h:I n s):codeAny (model prog w) A (.compLoop (.ListComp elt [⟨target,iter,ifs,0⟩] scope pos) 0 it acc env) R s:=by
 refine codeAny_loop rfl I (fun n s hI=>?_) n h
 show wpAny _ A ((compTurn (.ListComp elt [⟨target,iter,ifs,0⟩] scope pos) 0 it acc env).onRaise (fun x=>do noteFrame x env;theTreesLotGoes x)) _ _ s
 refine wpAny_noted ?_
 rw [compTurn_list]
 refine wpAny_bind (wpAny_standAt (wpAny_bind (wpAny_mono (turn n s hI) (fun r s₁ h₁=>?_) fun _ _ h'=>h'.elim)))
 cases r with
 | none=>exact wpAny_pure h₁
 | some v=>
  refine wpAny_bind (wpAny_mono h₁ (fun _ s₁' h₁'=>?_) fun _ _ h'=>h'.elim)
  refine wpAny_bind (wpAny_mono h₁' (fun _ s₂ h₂=>wpAny_bind (wpAny_mono h₂ (fun ok s₃ h₃=>?_) fun _ _ h'=>h'.elim)) fun _ _ h'=>h'.elim)
  cases ok with
  | false=>exact wpAny_pure ⟨rfl,h₃⟩
  | true=>
   exact wpAny_bind (wpAny_bind (wpAny_mono h₃ (fun x s₄ h₄=>wpAny_bind (wpAny_mono h₄ (fun _ s₅ h₅=>wpAny_pure (wpAny_pure ⟨rfl,h₅⟩)) fun _ _ h'=>h'.elim)) fun _ _ h'=>h'.elim))
end
theorem Zgc (env:Env) (f:Str×NameKind->List (Str×Addr)->Sem (ForInStep (List (Str×Addr))))
  (hf:∀n k r,f (n,k) r=if (k==NameKind.free)=true then (do let a <- cellOf env n;pure (ForInStep.yield ((n,a)::r))) else pure (ForInStep.yield r)):
  ∀(ns:List (Str×NameKind)) (acc:List (Str×Addr)),(∀y∈ns,y.2 = .free -> ∃c,env.cells.lookup y.1=some c)->(∀x c,acc.lookup x=some c->env.cells.lookup x=some c) ->
   ∃cl,forIn ns acc f=pure cl/\(∀x c,cl.lookup x=some c->env.cells.lookup x=some c)/\(∀y∈ns,y.2 = .free -> ∃c,cl.lookup y.1=some c)/\(∀x c,acc.lookup x=some c -> ∃c',cl.lookup x=some c')
 | [],acc,_,ha=>⟨acc,by rw [List.forIn_nil],ha,fun _ h=>(nomatch h),fun x c h=>⟨c,h⟩⟩
 | (n,k)::r,acc,hn,ha=>by
  rw [List.forIn_cons,hf]
  by_cases hk:k = .free
  ·subst hk
   obtain ⟨c,hc⟩:=hn (n,.free) List.mem_cons_self rfl
   have hc':env.cells.lookup n=some c:=hc
   have e1:cellOf env n=pure c:=by unfold cellOf;rw [hc']
   obtain ⟨cl,h1,h2,h3,h4⟩:=Zgc env f hf r ((n,c)::acc) (fun y hy=>hn y (List.mem_cons_of_mem _ hy)) (fun x c' hx=>by
    rw [List.lookup_cons] at hx
    cases e:x==n with
    | true=>
     rw [e] at hx
     have:x=n:=by simpa using e
     subst this
     rw [<- Option.some.inj hx];exact hc'
    | false=>rw [e] at hx;exact ha x c' hx)
   refine ⟨cl,?_,h2,fun y hy hyf=>?_,fun x c' hx=>?_⟩
   ·rw [if_pos (by rfl),e1]
    exact h1
   ·rcases List.mem_cons.mp hy with e | hy
    ·subst e
     exact h4 n c (by simp)
    ·exact h3 y hy hyf
   ·cases e:x==n with
    | true=>exact h4 x c (by rw [List.lookup_cons,e])
    | false=>exact h4 x c' (by rw [List.lookup_cons,e];exact hx)
  ·have hk':(k==NameKind.free)=false:=by simpa using hk
   obtain ⟨cl,h1,h2,h3,h4⟩:=Zgc env f hf r acc (fun y hy=>hn y (List.mem_cons_of_mem _ hy)) ha
   refine ⟨cl,?_,h2,fun y hy hyf=>?_,h4⟩
   ·rw [hk',if_neg Bool.false_ne_true]
    exact h1
   ·rcases List.mem_cons.mp hy with e | hy
    ·subst e
     exact absurd hyf hk
    ·exact h3 y hy hyf
theorem ZfG {scope:Scope}{env:Env} (h:∀y∈scope.names,y.2 = .free -> ∃c,env.cells.lookup y.1=some c):
  ∃cl,closureFor scope env=pure cl/\(∀x c,cl.lookup x=some c->env.cells.lookup x=some c)/\(∀y∈scope.names,y.2 = .free -> ∃c,cl.lookup y.1=some c):=by
 obtain ⟨cl,h1,h2,h3,_⟩:=Zgc env (fun x r=>match x with
  | (n,k)=>if (k==NameKind.free)=true then (do let a <- cellOf env n;pure (ForInStep.yield ((n,a)::r))) else pure (ForInStep.yield r)) (fun _ _ _=>rfl) scope.names [] h (fun x c q=>by simp at q)
 refine ⟨cl,?_,h2,h3⟩
 unfold closureFor
 refine Eq.trans ?_ h1
 have e:∀(m:Sem (List (Str×Addr))),(m >>= fun r=>(pure r >>= fun r=>pure r))=m:=fun m=>by simp only [pure_bind,bind_pure]
 exact e _
def Zc9 (n:Nat) (fi:List Nat) (σ:St):St:=List.replicate n none++fi.map fun i=>σ.getD i none
def Zg8:TT:=fun _ H Q=>Q true H
def PTs (X:Cx) (ifs:List Expr) (t:TT):Prop:=
 ∀(pins:List (Addr×Obj)) (s:Shared) (σ:St) (H:Hp) (Q:Bool->Hp->Prop),Inv X pins σ H s->t σ H Q ->
  wpAny (model X.prog X.w) X.A (forIn ifs true fun c r=>if r=true then do let ok <- isTrue c X.env (eval c X.env);pure (ForInStep.yield ok) else pure (ForInStep.yield r)) (TP X pins σ Q) X.xe s
theorem YS {X:Cx}:PTs X [] Zg8:=fun pins s σ H Q I h=>wpAny_tests_nil ⟨H,I,h⟩
theorem Zbd {X:Cx}{c:Expr}{t:TT} (h:PT X c t):PTs X [c] t:=fun pins s σ H Q I q=>wpAny_tests_one (h pins s σ H Q I q)
structure ZY (N:List Str) (osc scope:Scope) (Ls Fs:List Str) (fi:List Nat):Prop where
 kind:scope.kind = .function
 cells:∀y∈scope.names,y.2 ≠ .cell
 names:∀y∈scope.names,y.2 = .local->scope.names.lookup y.1=some .local
 fre:∀x∈Fs,scope.names.lookup x=some .free
 all:∀y∈scope.names,y.2 = .free->osc.names.lookup y.1=some .cell∨osc.names.lookup y.1=some .free
 ix:fi.map (fun i=>N[i]?)=Fs.map some
def blk (X:Cx) (scope:Scope) (N:List Str) (cl:List (Str×Addr)) (C:Addr) (s3:Shared) (H3:Hp) (ex:List Addr):Cx:=
 { X with N:=N,s₀:=s3,H₀:=H3,env:=compEnvC scope cl C X.env,outer:=X.stack,stack:=X.stack,ex:=ex,fn:=fun _=>false,pn:=[],xe:=fun _ _=>False }
theorem Zb1 {env:Env}:∀{names:List (Str×NameKind)}{x:Str},(∀y∈names,y.2 ≠ .cell) ->
    ((names.map fun (n,k)=>if (k==NameKind.free&&env.scope.kind == .function&&env.kindOf n==some .cell) then (n,NameKind.cell) else (n,k)).lookup x=some .cell ∨
     (names.map fun (n,k)=>if (k==NameKind.free&&env.scope.kind == .function&&env.kindOf n==some .cell) then (n,NameKind.cell) else (n,k)).lookup x=some .free) -> ∃y∈names,y.1=x/\y.2 = .free
  | [],_,_,h=>by simp at h
  | (n,k)::r,x,hc,h=>by
    have ih:=@Zb1 env r x (fun y hy=>hc y (List.mem_cons_of_mem _ hy))
    cases hx:x==n with
    | true=>
      have e:x=n:=by simpa using hx
      subst e
      by_cases hb:(k==NameKind.free&&env.scope.kind == .function&&env.kindOf x==some .cell)=true
      · have:k = .free:=by
          simp only [Bool.and_eq_true,beq_iff_eq] at hb
          exact hb.1.1
        exact ⟨(x,k),List.mem_cons_self,rfl,this⟩
      · simp only [List.map_cons,if_neg hb,List.lookup_cons,hx] at h
        rcases h with h | h
        · exact absurd (Option.some.inj h) (hc (x,k) List.mem_cons_self)
        · exact ⟨(x,k),List.mem_cons_self,rfl,Option.some.inj h⟩
    | false=>
      have h':((r.map fun (n,k)=>if (k==NameKind.free&&env.scope.kind == .function&&env.kindOf n==some .cell) then (n,NameKind.cell) else (n,k)).lookup x=some .cell ∨
        (r.map fun (n,k)=>if (k==NameKind.free&&env.scope.kind == .function&&env.kindOf n==some .cell) then (n,NameKind.cell) else (n,k)).lookup x=some .free):=by
        by_cases hb:(k==NameKind.free&&env.scope.kind == .function&&env.kindOf n==some .cell)=true
        · simpa only [List.map_cons,if_pos hb,List.lookup_cons,hx] using h
        · simpa only [List.map_cons,if_neg hb,List.lookup_cons,hx] using h
      obtain ⟨y,hy,z⟩:=ih h'
      exact ⟨y,List.mem_cons_of_mem _ hy,z⟩
theorem ZbZ {env:Env}{x:Str}:∀{names:List (Str×NameKind)},names.lookup x=some .free ->
    ((names.map fun (n,k)=>if (k==NameKind.free&&env.scope.kind == .function&&env.kindOf n==some .cell) then (n,NameKind.cell) else (n,k)).lookup x=some .cell ∨
     (names.map fun (n,k)=>if (k==NameKind.free&&env.scope.kind == .function&&env.kindOf n==some .cell) then (n,NameKind.cell) else (n,k)).lookup x=some .free)
  | [],h=>by simp at h
  | (n,k)::r,h=>by
    cases hx:x==n with
    | true=>
      have e:x=n:=by simpa using hx
      subst e
      rw [List.lookup_cons,hx] at h
      have hk:k = .free:=Option.some.inj h
      subst hk
      by_cases hb:(NameKind.free==NameKind.free&&env.scope.kind == .function&&env.kindOf x==some .cell)=true
      · left;simp only [List.map_cons,if_pos hb,List.lookup_cons,hx]
      · right;simp only [List.map_cons,if_neg hb,List.lookup_cons,hx]
    | false=>
      rw [List.lookup_cons,hx] at h
      have ih:=@ZbZ env x r h
      by_cases hb:(k==NameKind.free&&env.scope.kind == .function&&env.kindOf n==some .cell)=true
      · simpa only [List.map_cons,if_pos hb,List.lookup_cons,hx] using ih
      · simpa only [List.map_cons,if_neg hb,List.lookup_cons,hx] using ih
theorem aLt {h:Heap}{b:Addr}{o:Obj} (e:h.get? b=some o):@LT.lt Nat _ b h.objs.size:=Heap.lt_size e
def LcW (J:It) (σ:St) (g:TG) (tc:TT) (te:TE) (H:Hp) (Q:VK):Prop:=
 ∃W:Nat->Nat->List V->Hp->Prop,(∃m,W 0 m [] H) /\ ∀i m ys H,W i m ys H ->
  (J.stop i H/\ys.length<=sizeLine /\ ∀D,H D=none->Q (.ref D) (upd H D (.lst ys))) ∨
  (J.go i H/\ys.length<=sizeLine /\ ∃N:List V->Hp->Prop,(∀ys' H',N ys' H' -> ∃m',m'<m/\W (i+1) m' ys' H') /\ ∀x H',J.yld i H x H'->g x σ H' fun σ2 H2=>
   tc σ2 H2 fun b H3=>if b=true then te σ2 H3 fun y H4=>N (ys ++ [y]) H4 else N ys H3)
def tLc (n:Nat) (fi:List Nat) (wi:TI) (g:TG) (tc:TT) (te:TE):TE:=fun σ H Q=>wi σ H fun J H1=>LcW J (Zc9 n fi σ) g tc te H1 Q
section
variable {X:Cx}{pins:List (Addr×Obj)} {σ:St}{tg elt iter:Expr}{ifs:List Expr}{scope:Scope}{pos:Pos}{Ls Fs:List Str}{fi:List Nat}{g:TG}{tc:TT}{te:TE}
structure Zit (X:Cx) (tg:Expr) (J:It) (fp:List Addr) (it:Addr) (tn:Nat->Heap->Prop):Prop where
 obj:∀i h,tn i h -> ∀b∈fp,∃o,h.get? b=some o /\ ∀v,o.data ≠ .cell v
 keep:∀i h h',tn i h->(∀b∈fp,∀o,h.get? b=some o->h'.get? b=some o)->tn i h'
 item:∀(i:Nat) (pins:List (Addr×Obj)) (s:Shared) (σ:St) (H:Hp) (E:Value->Shared->Prop),Inv X pins σ H s->(∀b∈fp,ZcF X pins H b)->tn i s.heap->J.go i H ->
  wpAny (model X.prog X.w) X.A (pyNext (.ref it)) (fun r s1=>∃u,r=some u /\
   wpAny (model X.prog X.w) X.A (letOwnedTupleGo tg (.ref it) u) (fun _ s2=>∃x H',Inv X pins σ H' s2/\RelV x u/\J.yld i H x H'/\tn (i+1) s2.heap /\ ∀b∈fp,H' b=none) E s1) E s
 done:∀(i:Nat) (pins:List (Addr×Obj)) (s:Shared) (σ:St) (H:Hp) (E:Value->Shared->Prop),Inv X pins σ H s->(∀b∈fp,ZcF X pins H b)->tn i s.heap->J.stop i H ->
  wpAny (model X.prog X.w) X.A (pyNext (.ref it)) (fun r s1=>r=none/\Inv X pins σ H s1) E s
 self:∀(A:Around) (i:Nat) (s:Shared) (Q:Value->Shared->Prop) (E:Value->Shared->Prop),tn i s.heap->Q (.ref it) s->wpAny (model X.prog X.w) A (pyIter (.ref it)) Q E s
theorem Turn.at {X:Cx}{tg:Expr}{J:It}{fp:List Addr}{it:Addr}{tn:Nat->Heap->Prop} (T:Turn X.prog X.w X.K tg J fp it tn) (hc:X.calm=true):Zit X tg J fp it tn:=⟨T.obj,T.keep,T.item X rfl rfl rfl hc,T.done X rfl rfl rfl hc,T.self⟩
theorem ZdC {H2:Hp}{s2:Shared}{it:Addr}{fp:List Addr}{tn:Nat->Heap->Prop}{J:It}{cl:List (Str×Addr)}{Q:VK}{E:Value->Shared->Prop}{RR:Value->Addr->Result->Shared->Prop}
  (S:ZY X.N X.env.scope scope Ls Fs fi)
  (hb:∀C s3 H3 ex,PG (blk X scope (Ls++Fs) cl C s3 H3 ex) tg g/\PTs (blk X scope (Ls++Fs) cl C s3 H3 ex) ifs tc/\PE (blk X scope (Ls++Fs) cl C s3 H3 ex) elt te)
  (hcl1:∀x c,cl.lookup x=some c->X.env.cells.lookup x=some c) (hcl2:∀y∈scope.names,y.2 = .free -> ∃c,cl.lookup y.1=some c)
  (I2:Inv X pins σ H2 s2) (TX:∀C s3 H3 ex,Zit (blk X scope (Ls++Fs) cl C s3 H3 ex) tg J fp it tn) (st2:tn 0 s2.heap) (f2:∀b∈fp,ZcF X pins H2 b)
  (hW:∃W:Nat->Nat->List V->Hp->Prop,(∃m,W 0 m [] H2) /\ ∀i m ys H,W i m ys H ->
   (J.stop i H/\ys.length<=sizeLine /\ ∀D,H D=none->Q (.ref D) (upd H D (.lst ys))) ∨
   (J.go i H/\ys.length<=sizeLine /\ ∃N:List V->Hp->Prop,(∀ys' H',N ys' H' -> ∃m',m'<m/\W (i+1) m' ys' H') /\ ∀x H',J.yld i H x H'->g x (Zc9 Ls.length fi σ) H' fun σ2 H2=>
    tc σ2 H2 fun b H3=>if b=true then te σ2 H3 fun y H4=>N (ys ++ [y]) H4 else N ys H3))
  (fin:∀D C H' s' m,Inv X pins σ H' s'->Q (.ref D) H'->s'.heap.Ns C m->ZcF X pins H' C->RR (.ref D) C (.ok .next) s'):
  wpAny (model X.prog X.w) X.A (newList []) (fun acc s₃=>wpAny (model X.prog X.w) X.A (newFunctionEnv scope X.env.globals cl [] X.env.qual none .none (some X.env)) (fun cenv s₄=>
   codeAny (model X.prog X.w) X.A (.compStart (.ListComp elt [⟨tg,iter,ifs,0⟩] scope pos) 0 (.ref it) acc { cenv with scope:=relabel scope X.env }) (RR acc cenv.locals) s₄) E s₃) E s2:=by
 refine wpAny_newObj_type (wpAny_newFunctionEnv S.cells (by intro y hy;simp at hy) (fun h₁ hns₁ hsb₁=>?_) S.kind)
 dsimp only at hns₁ hsb₁ ⊢
 generalize hH3:s2.heap.push { cls:=.type "list", dict:=none,data:=.seq ([]:List Value).toArray } = h3 at hns₁ hsb₁ ⊢
 generalize hC:h3.objs.size=C at hns₁ hsb₁ ⊢
 generalize hD:s2.heap.objs.size=D
 have hCD:C=D+1:=by rw [<- hC,<- hH3,Heap.size_push,hD]
 have k23:∀b o,s2.heap.get? b=some o->h3.get? b=some o:=fun b o e=>by rw [<- hH3];exact Heap.get?_push_of_some _ e
 have k34:∀b o,h3.get? b=some o->h₁.get? b=some o:=fun b o e=>hsb₁.extBut b o (Nat.ne_of_lt (by have:=aLt e;lia)) (Heap.get?_push_of_some _ e)
 have hDo:h3.get? D=some { cls:=.type "list", data:=.seq ([]:List Value).toArray }:=by rw [<- hH3,<- hD];exact Heap.get?_push_size _ rfl
 obtain ⟨W,⟨m0,w0⟩,turn⟩:=hW
 have T:=TX C { s2 with heap:=h3 } H2 (D::fp)
 have I3:Inv X pins σ H2 { s2 with heap:=h3 }:=I2.kept (t':=s2.toks) k23
 have frD:H2 D=none:=by rw [<- hD];exact I2.fresh
 have frC:H2 C=none:=I2.hok.fresh (by lia)
 have DL:D≠X.env.locals:=Nat.ne_of_gt (by have:@LT.lt Nat _ X.env.locals s2.heap.objs.size:=I2.lt;lia)
 have CL:C≠X.env.locals:=Nat.ne_of_gt (by have:@LT.lt Nat _ X.env.locals s2.heap.objs.size:=I2.lt;lia)
 have cellLt:∀x c,X.env.cells.lookup x=some c -> @LT.lt Nat _ c D:=fun x c e=>by
  obtain ⟨v,q⟩:=I2.cell x c e
  have:@LT.lt Nat _ c s2.heap.objs.size:=q.lt
  lia
 have fpLt:∀b∈fp,@LT.lt Nat _ b D:=fun b hb=>by
  obtain ⟨o,e,_⟩:=T.obj _ _ st2 b hb
  have:=aLt e
  lia
 have exLoc:∀b∈D::fp,b≠C/\(∀x c,X.env.cells.lookup x=some c->c≠b):=fun b hb=>by
  rcases List.mem_cons.mp hb with e | hb
  ·subst e
   exact ⟨Nat.ne_of_lt (by lia),fun x c e=>Nat.ne_of_lt (cellLt x c e)⟩
  ·exact ⟨Nat.ne_of_lt (by have:=fpLt b hb;lia),(f2 b hb).2.2.2.2.1⟩
 have ok':(blk X scope (Ls++Fs) cl C { s2 with heap:=h3 } H2 (D::fp)).Ok:=by
  refine ⟨I2.ok.mod,S.kind,I2.ok.glob,I2.ok.blt,?_,fun x y c e1 e2=>I2.ok.inj x y c (hcl1 x c e1) (hcl1 y c e2),fun x hx=>?_,fun x c hx=>absurd hx Bool.false_ne_true,I2.ok.hd,I2.ok.frames,.inl rfl,
   fun b hb=>⟨(exLoc b hb).1,fun x c e=>(exLoc b hb).2 x c (hcl1 x c e)⟩,I3.bs,Nat.le_trans I2.ok.bsz I3.sz,fun b o e hb=>?_,fun b hb=>?_,I3.stack,I3.stkFree⟩
  ·show h3.objs.size<=C
   lia
  ·obtain ⟨y,hy,e1,e2⟩:=Zb1 S.cells hx
   obtain ⟨c,q⟩:=hcl2 y hy e2
   exact ⟨c,e1 ▸ q⟩
  ·rcases List.mem_cons.mp hb with z | hb
   ·exact absurd z (Nat.ne_of_lt (by have:=aLt (I2.bk b o e);lia))
   ·rcases (f2 b hb).2.2.2.1 with z | z
    ·exact I2.ok.noex b o e z
    ·have h1:@LT.lt Nat _ b X.base.objs.size:=aLt e
     have h2:@LE.le Nat _ X.base.objs.size X.s₀.heap.objs.size:=I2.ok.bsz
     have h3:@LE.le Nat _ X.s₀.heap.objs.size b:=z
     lia
  ·intro hz
   have hz':=I2.stkSub b hz
   rcases List.mem_cons.mp hb with e | hb
   ·subst e
    rcases List.mem_cons.mp hz' with z | z
    ·exact DL z
    ·exact I2.nofs (by lia) z
   ·rcases List.mem_cons.mp hz' with z | z
    ·exact (f2 b hb).2.1 z
    ·exact (f2 b hb).2.2.1 z
 obtain ⟨m2,hn2,hl2⟩:=id I2.loc
 have cap:∀(i:Nat) (x:Str) (v:V),(Ls++Fs)[i]? = some x->(Zc9 Ls.length fi σ)[i]? = some (some v) -> ∃u c,RelV v u/\((relabel scope X.env).names.lookup x=some .cell∨(relabel scope X.env).names.lookup x=some .free) /\
   cl.lookup x=some c/\X.env.cells.lookup x=some c/\s2.heap.IsCell c (some u):=by
  intro i x v e1 e2
  unfold Zc9 at e2
  by_cases hi:i<Ls.length
  ·rw [List.getElem?_append_left (by simpa using hi),List.getElem?_replicate,if_pos hi] at e2
   cases e2
  ·have hi':Ls.length<=i:=Nat.le_of_not_lt hi
   rw [List.getElem?_append_right hi'] at e1
   rw [List.getElem?_append_right (by simpa using hi'),List.length_replicate,List.getElem?_map] at e2
   cases e3:fi[i-Ls.length]? with
   | none=>rw [e3] at e2;cases e2
   | some j=>
    rw [e3] at e2
    have e4:σ.getD j none=some v:=Option.some.inj e2
    have e5:X.N[j]? = some x:=by
     have q:=congrArg (fun l=>l[i-Ls.length]?) S.ix
     simp only [List.getElem?_map,e3,e1,Option.map_some] at q
     exact Option.some.inj q
    have e6:σ[j]? = some (some v):=by
     rw [List.getD_eq_getElem?_getD] at e4
     cases e7:σ[j]? with
     | none=>rw [e7] at e4;cases e4
     | some z=>rw [e7] at e4;exact congrArg some e4
    have fx:=S.fre x (List.mem_of_getElem? e1)
    have al:=S.all (x,.free) (PySem.mem_of_lookup fx) rfl
    have vis:Vis X.env.scope x:=by
     rcases al with z | z
     ·exact .inr (.inl z)
     ·exact .inr (.inr z)
    obtain ⟨u,ru,lk⟩:=hl2 j x v e5 e6 vis
    rcases lk with ⟨k,_⟩ | ⟨k,c,ec,hcell⟩
    ·have k':X.env.scope.names.lookup x=some .local:=k
     rcases al with z | z
     ·rw [show X.env.scope.names.lookup x=some .cell from z] at k';cases k'
     ·rw [show X.env.scope.names.lookup x=some .free from z] at k';cases k'
    ·obtain ⟨c',ec'⟩:=hcl2 (x,.free) (PySem.mem_of_lookup fx) rfl
     have:c'=c:=Option.some.inj ((hcl1 x c' ec').symm.trans ec)
     subst this
     exact ⟨u,c',ru,ZbZ fx,ec',ec,hcell⟩
 have capLen:(Zc9 Ls.length fi σ).length=(Ls++Fs).length:=by
  unfold Zc9
  have q:=congrArg List.length S.ix
  simp only [List.length_map] at q
  rw [List.length_append,List.length_replicate,List.length_map,List.length_append,q]
 have re:∀{ps:List (Addr×Obj)} {σ':St}{H':Hp}{s':Shared},Inv (blk X scope (Ls++Fs) cl C { s2 with heap:=h3 } H2 (D::fp)) ps σ' H' s'->Inv (blk X scope (Ls++Fs) cl C { s2 with heap:=h3 } H2 (D::fp)) ps (Zc9 Ls.length fi σ) H' s':=by
  intro ps σ' H' s' J'
  refine ⟨J'.ok,J'.os,J'.bare,J'.base,?_,J'.cell,J'.free,J'.freeC,J'.pin,J'.hok,capLen⟩
  obtain ⟨m,hn,_⟩:=J'.loc
  refine ⟨m,hn,fun i x v e1 e2 _=>?_⟩
  obtain ⟨u,c,ru,kk,ec,ec2,o,ho,hd⟩:=cap i x v e1 e2
  obtain ⟨sl,q⟩:=J'.base.any (k23 c o ho) (I2.freeC x c ec2) fun z=>(exLoc c z).2 x c ec2 rfl
  exact ⟨u,ru,.inr ⟨kk,c,ec,_,q,hd⟩⟩
 have I4:Inv (blk X scope (Ls++Fs) cl C { s2 with heap:=h3 } H2 (D::fp)) [(D,{ cls:=.type "list", data:=.seq ([]:List Value).toArray })] (Zc9 Ls.length fi σ) H2 { s2 with heap:=h₁,toks:=s2.toks+([]:List (Str×Value)).length }:=by
  refine ⟨ok',rfl,I2.bare,Un.kept k34,⟨_,hns₁,fun i x v e1 e2 _=>?_⟩,fun x c e=>?_,frC,fun x c e=>I2.freeC x c (hcl1 x c e),fun p hp=>?_,I2.hok.kept fun b o e=>k34 b o (k23 b o e),capLen⟩
  ·obtain ⟨u,c,ru,kk,ec,ec2,o,ho,hd⟩:=cap i x v e1 e2
   exact ⟨u,ru,.inr ⟨kk,c,ec,o,k34 c o (k23 c o ho),hd⟩⟩
  ·obtain ⟨v,o,ho,hd⟩:=I2.cell x c (hcl1 x c e)
   exact ⟨v,o,k34 c o (k23 c o ho),hd⟩
  ·have hp':p=(D,{ cls:=.type "list", data:=.seq ([]:List Value).toArray }):=by
    have:p∈([]:List (Addr×Obj)) ++ [(D,{ cls:=.type "list", data:=.seq ([]:List Value).toArray })]:=hp
    simpa using this
   subst hp'
   refine ⟨k34 D _ hDo,frD,Nat.ne_of_lt (show @LT.lt Nat _ D C by lia),fun z=>?_,fun v z=>by cases z⟩
   rcases List.mem_cons.mp (I2.stkSub D z) with z | z
   ·exact DL z
   ·exact I2.nofs (by lia) z
 obtain ⟨hg,ht,he⟩:=hb C { s2 with heap:=h3 } H2 (D::fp)
 have back:∀{ps:List (Addr×Obj)} {σ':St}{H':Hp}{s':Shared}{ys:List V}{its:List Value}{n:Nat},Inv (blk X scope (Ls++Fs) cl C { s2 with heap:=h3 } H2 (D::fp)) ps σ' H' s'->s'.heap.get? D=some { cls:=.type "list", data:=.seq its.toArray n } ->
   H' D=none->Vals ys its->ys.length<=sizeLine->Inv X pins σ (upd H' D (.lst ys)) s'/\ZcF X pins (upd H' D (.lst ys)) C:=by
  intro ps σ' H' s' ys its n J' hDs hDn rv hz
  have neD:∀b o,s2.heap.get? b=some o->b≠D:=fun b o e=>Nat.ne_of_lt (by have:=aLt e;lia)
  have nex:∀b,b∉fp->b≠D->b∉D::fp:=fun b h1 h2 z=>(List.mem_cons.mp z).elim h2 h1
  have U:Un (frs X.stack) fp H2 (upd H' D (.lst ys)) s2.heap s'.heap:=by
   refine ⟨fun b o e n hb hx=>J'.base.keep b o (k23 b o e) n hb (nex b hx (neD b o e)),fun b o e n hb hx=>J'.base.slot b o (k23 b o e) n hb (nex b hx (neD b o e)),fun b o e n hx=>?_,fun b o e hx=>J'.base.there b o (k23 b o e) (nex b hx (neD b o e)),fun b xs e=>?_,fun b o u e=>?_,fun b ps e=>?_⟩
   ·rw [Zj (neD b o e)]
    exact J'.base.free b o (k23 b o e) n (nex b hx (neD b o e))
   ·rw [Zj (Zf e frD)]
    exact J'.base.tups b xs e
   ·rw [Zj (Zf e frD)]
    exact J'.base.frzs b o u e
   ·obtain ⟨more,q⟩:=J'.base.tbls b ps e
    exact ⟨more,by rw [Zj (Zf e frD)];exact q⟩
  have hok':UL X.prog X.w (upd H' D (.lst ys)) s'.heap:=fun b u q=>by
   by_cases hbD:b=D
   ·subst hbD
    rw [Zd] at q
    cases q
    exact ⟨hz,its,n,rv,hDs⟩
   ·rw [Zj hbD] at q
    exact (J'.hok b u q).stay (fun c v _ r=>r) (fun c r=>by rw [Zj (Zf r hDn)];exact r) fun c xs r=>by rw [Zj (Zf r hDn)];exact r
  refine ⟨I2.call' J'.os U hok' J'.bare fun b hb=>⟨(f2 b hb).2.2.2.1,(f2 b hb).2.1,(f2 b hb).2.2.2.2.1,(f2 b hb).2.2.2.2.2⟩,?_⟩
  refine ⟨by rw [Zj (Nat.ne_of_gt (by lia))];exact J'.free,CL,I2.nofs (by lia),.inr (by have:=I2.sz;lia),fun x c e=>Nat.ne_of_lt (by have:=cellLt x c e;lia),fun p hp=>?_⟩
  have:=aLt (I2.pin p hp).1
  exact Nat.ne_of_lt (by lia)
 have loop:codeAny (model X.prog X.w) X.A (.compLoop (.ListComp elt [⟨tg,iter,ifs,0⟩] scope pos) 0 (.ref it) (.ref D) (compEnvC scope cl C X.env)) (RR (.ref D) C) { s2 with heap:=h₁,toks:=s2.toks+([]:List (Str×Value)).length }:=by
  refine Zi5 (fun n s'=>∃(i:Nat) (ys:List V) (H':Hp) (its:List Value) (k:Nat),Inv (blk X scope (Ls++Fs) cl C { s2 with heap:=h3 } H2 (D::fp)) [(D,{ cls:=.type "list", data:=.seq its.toArray k })] (Zc9 Ls.length fi σ) H' s' /\
   Vals ys its/\tn i s'.heap/\(∀b∈fp,H' b=none)/\W i n ys H') ?_ m0 ⟨0,[],H2,[],0,I4,.nil,T.keep _ _ _ st2 fun b _ o e=>k34 b o (k23 b o e),fun b hb=>(f2 b hb).1,w0⟩
  rintro n s5 ⟨i,ys,H5,its,k,I5,rv,st5,fr5,w5⟩
  have stat:∀{H':Hp}{its':List Value}{k':Nat},(∀b∈fp,H' b=none) -> ∀b∈fp,ZcF (blk X scope (Ls++Fs) cl C { s2 with heap:=h3 } H2 (D::fp)) [(D,{ cls:=.type "list", data:=.seq its'.toArray k' })] H' b:=fun hn b hb=>by
   refine ⟨hn b hb,(exLoc b (List.mem_cons_of_mem _ hb)).1,fun z=>ok'.exfs b (List.mem_cons_of_mem _ hb) z,.inl (List.mem_cons_of_mem _ hb),fun x c e=>(exLoc b (List.mem_cons_of_mem _ hb)).2 x c (hcl1 x c e),fun p hp=>?_⟩
   have hp':p=_:=List.mem_singleton.mp hp
   rw [hp']
   have:=fpLt b hb
   show D≠b
   exact Nat.ne_of_gt this
  have pinD:=I5.pin (D,{ cls:=.type "list", data:=.seq its.toArray k }) (List.mem_singleton.mpr rfl)
  rcases turn i n ys H5 w5 with ⟨stop,hz,qn⟩ | ⟨go,hz,N,hN,step⟩
  ·refine wpAny_mono (T.done i _ s5 _ H5 _ I5 (stat fr5) st5 stop) (fun r s6 ⟨hr,I6⟩=>?_) fun _ _ h=>h
   subst hr
   have pin6:=I6.pin (D,{ cls:=.type "list", data:=.seq its.toArray k }) (List.mem_singleton.mpr rfl)
   obtain ⟨b1,b2⟩:=back I6 pin6.1 pin6.2.1 rv hz
   obtain ⟨m,hn,_⟩:=I6.loc
   exact fin D C _ s6 m b1 (qn D pin6.2.1) hn b2
  ·refine wpAny_mono (T.item i _ s5 _ H5 _ I5 (stat fr5) st5 go) (fun r s6 ⟨u,hr,h6⟩=>?_) fun _ _ h=>h
   subst hr
   refine wpAny_mono h6 (fun _ s7 ⟨x,H7,I7,r7,y7,st7,fr7⟩=>?_) fun _ _ h=>h
   have I7':=I7.pinned (stat fr7) (T.obj _ _ st7)
   refine wpAny_mono (hg _ s7 _ H7 x u _ I7' r7 (step x H7 y7)) (fun _ s8 ⟨σ8,H8,I8,q8⟩=>?_) fun _ _ h=>h
   refine wpAny_mono (ht _ s8 σ8 H8 _ I8 q8) (fun ok s9 ⟨H9,I9,q9⟩=>?_) fun _ _ h=>h
   have keepT:∀{σ':St}{H':Hp}{s':Shared},Inv (blk X scope (Ls++Fs) cl C { s2 with heap:=h3 } H2 (D::fp)) ([(D,{ cls:=.type "list", data:=.seq its.toArray k })]++ZdG fp s7.heap) σ' H' s'->tn (i+1) s'.heap /\ ∀b∈fp,H' b=none:=by
    intro σ' H' s' J'
    refine ⟨T.keep _ _ _ st7 fun b hb o e=>(J'.pin (b,o) (List.mem_append_right _ (List.mem_append_right _ (UZ hb e)))).1,fun b hb=>?_⟩
    obtain ⟨o,e,d⟩:=T.obj _ _ st7 b hb
    exact (J'.pin (b,o) (List.mem_append_right _ (List.mem_append_right _ (UZ hb e)))).2.1
   cases ok with
   | false=>
    rw [if_neg Bool.false_ne_true] at q9 ⊢
    obtain ⟨m',hm,w'⟩:=hN _ _ q9
    exact ⟨m',hm,i+1,ys,H9,its,k,re I9.unpinned,rv,(keepT I9).1,(keepT I9).2,w'⟩
   | true=>
    rw [if_pos rfl] at q9 ⊢
    refine wpAny_mono (he _ s9 σ8 H9 _ I9 q9) (fun v s10 ⟨y,H10,I10,r10,q10⟩=>?_) fun _ _ h=>h
    obtain ⟨m',hm,w'⟩:=hN _ _ q10
    obtain ⟨k10,f10⟩:=keepT I10
    have I11:Inv (blk X scope (Ls++Fs) cl C { s2 with heap:=h3 } H2 (D::fp)) [(D,{ cls:=.type "list", data:=.seq its.toArray k })] (Zc9 Ls.length fi σ) H10 s10:=re I10.unpinned
    have pin11:=I11.pin (D,{ cls:=.type "list", data:=.seq its.toArray k }) (List.mem_singleton.mpr rfl)
    refine wpAny_list_append_plain ⟨k,pin11.1⟩ (fun h' hp' sb=>?_) (by rw [List.size_toArray,<- rv.length];exact hz)
    obtain ⟨k',hk'⟩:=hp'
    have e1:its.toArray.push v=(its ++ [v]).toArray:=by simp
    rw [e1] at hk'
    have I12:Inv (blk X scope (Ls++Fs) cl C { s2 with heap:=h3 } H2 (D::fp)) [] (Zc9 Ls.length fi σ) H10 { s10 with heap:=h',toks:=s10.toks }:=
     (I11.pins_of (pins':=[]) fun p hp=>(nomatch hp)).turned (it:=D) (fun b o hb e=>(sb.2 b hb).trans e) pin11.2.1 pin11.2.2.1 (.inl List.mem_cons_self) (fun x c e=>(exLoc D List.mem_cons_self).2 x c (hcl1 x c e)) fun p hp=>(nomatch hp)
    have I13:Inv (blk X scope (Ls++Fs) cl C { s2 with heap:=h3 } H2 (D::fp)) [(D,{ cls:=.type "list", data:=.seq (its ++ [v]).toArray k' })] (Zc9 Ls.length fi σ) H10 { s10 with heap:=h',toks:=s10.toks }:=I12.pins_of fun p hp=>by
     have hp':p=_:=List.mem_singleton.mp hp
     subst hp'
     exact ⟨hk',pin11.2.1,pin11.2.2.1,pin11.2.2.2.1,fun v z=>by cases z⟩
    refine ⟨m',hm,i+1,ys ++ [y],H10,its ++ [v],k',I13,rv.append (.cons r10 .nil),?_,f10,w'⟩
    exact T.keep _ _ _ k10 fun b hb o e=>(sb.2 b (Nat.ne_of_lt (fpLt b hb))).trans e
 exact codeAny_compStart_list loop (T.self _ 0 _ _ _ (T.keep _ _ _ st2 fun b _ o e=>k34 b o (k23 b o e)) loop)
theorem GF {wi:TI} (S:ZY X.N X.env.scope scope Ls Fs fi) (hc:X.calm=true) (hi:PI X tg iter wi)
  (hb:∀cl C s3 H3 ex,PG (blk X scope (Ls++Fs) cl C s3 H3 ex) tg g/\PTs (blk X scope (Ls++Fs) cl C s3 H3 ex) ifs tc/\PE (blk X scope (Ls++Fs) cl C s3 H3 ex) elt te)
  (hs:∀x,foldedSetIterable iter X.env x=pure x:=by intro _;rfl):PE X (.ListComp elt [⟨tg,iter,ifs,0⟩] scope pos) (tLc Ls.length fi wi g tc te):=by
 intro pins s σ H Q I h
 rw [eval_ListComp]
 obtain ⟨cl,hcl,hcl1,hcl2⟩:=ZfG (scope:=scope) (env:=X.env) fun y hy hf=>I.ok.has y.1 (S.all y hy hf)
 refine wpAny_comprehension_free (use:=none) rfl hs hcl S.kind S.names (wpAny_mono (hi pins s σ H _ I h) (fun v s1 h1=>wpAny_mono h1 (fun itv s2 h2=>?_) fun _ _ e=>e) fun _ _ e=>e)
 obtain ⟨it,fp,tn,J,H2,e,I2,T,st2,f2,hW⟩:=h2
 subst e
 refine ZdC (RR:=fun acc C=>compPost (model X.prog X.w) X.A X.xe none (EP X pins σ Q) acc C) S (hb cl) hcl1 hcl2 I2 (fun C s3 H3 ex=>Turn.at (X:=blk X scope (Ls++Fs) cl C s3 H3 ex) T hc) st2 f2 hW fun D C H' s' m I' q hn f=>?_
 obtain ⟨f0,f1,f2,f3,f4,f5⟩:=f
 exact ⟨m,hn,fun h' hs'=>⟨.ref D,H',I'.turned (it:=C) (t':=s'.toks) (fun b o hb e=>(hs'.2 b hb).trans e) f0 f1 f3 f4 f5,rfl,q⟩⟩
theorem ZdD {wi:TI}{i:Nat}{x:Str}{pos' spos:Pos} (hN:X.N.Nodup) (hi':X.N[i]? = some x) (hx:Loc X.env.scope x) (S:ZY X.N X.env.scope scope Ls Fs fi) (hc:X.calm=true) (hi:PI X tg iter wi)
  (hb:∀cl C s3 H3 ex,PG (blk X scope (Ls++Fs) cl C s3 H3 ex) tg g/\PTs (blk X scope (Ls++Fs) cl C s3 H3 ex) ifs tc/\PE (blk X scope (Ls++Fs) cl C s3 H3 ex) elt te)
  (hsw:swapsWith (.ListComp elt [⟨tg,iter,ifs,0⟩] scope pos) (some (.Name x pos')) spos.line X.env=pure true:=by rfl)
  (hs:∀x,foldedSetIterable iter X.env x=pure x:=by intro _;rfl) (hf:X.fn x=true∨X.env.scope.names.lookup x=some .local:=by first | exact .inl rfl | exact .inr rfl | assumption):
  PS X (.Assign [.Name x pos'] (.ListComp elt [⟨tg,iter,ifs,0⟩] scope pos) spos) (Zla (tLc Ls.length fi wi g tc te) (Zfa i)):=by
 intro pins s σ H D' I h
 rw [exec_Assign_Name_used _ _ _ _ hsw]
 obtain ⟨cl,hcl,hcl1,hcl2⟩:=ZfG (scope:=scope) (env:=X.env) fun y hy hf=>I.ok.has y.1 (S.all y hy hf)
 refine wpAny_bind (wpAny_standAt (wpAny_bind ?_))
 show wpAny _ X.A (do let _ <- comprehension (.ListComp elt [⟨tg,iter,ifs,0⟩] scope pos) scope X.env _ (newList []) false (eval iter X.env) (some (assign (.Name x pos') X.env))) _ _ s
 refine wpAny_bind (wpAny_mono (wpAny_comprehension_free (use:=some (assign (.Name x pos') X.env)) (Q:=fun _ s'=>SP X pins D' .next s') rfl hs hcl S.kind S.names
  (wpAny_mono (hi pins s σ H _ I h) (fun v s1 h1=>wpAny_mono h1 (fun itv s2 h2=>?_) fun _ _ e=>e) fun _ _ e=>e)) (fun _ s' hq=>wpAny_pure (wpAny_pure hq)) fun _ _ e=>e)
 obtain ⟨it,fp,tn,J,H2,e,I2,T,st2,f2,hW⟩:=h2
 subst e
 refine ZdC (RR:=fun acc C=>compPost (model X.prog X.w) X.A X.xe (some (assign (.Name x pos') X.env)) (fun _ s'=>SP X pins D' .next s') acc C) (Q:=fun x H1=>Zfa i x σ H1 D'.nx) S (hb cl) hcl1 hcl2 I2 (fun C s3 H3 ex=>Turn.at (X:=blk X scope (Ls++Fs) cl C s3 H3 ex) T hc) st2 f2 hW fun D C H' s' m I' q hn f=>?_
 obtain ⟨f0,f1,f2,f3,f4,f5⟩:=f
 show wpAny _ X.A (assign (.Name x pos') X.env (.ref D)) _ _ _
 refine wpAny_assign_Name (ZeV I' hN hi' hx (v:=.ref D) rfl (fun s'' I'' hch=>?_) hf)
 obtain ⟨a,sb,ha⟩:=hch
 have hCa:C≠a:=by
  rcases ha with z | z
  ·rw [z];exact f1
  ·exact (f4 x a z).symm
 exact ⟨m,hn.sameBut sb hCa,fun h' hs'=>⟨_,H',I''.turned (it:=C) (t':=s''.toks) (fun b o hb e=>(hs'.2 b hb).trans e) f0 f1 f3 f4 f5,q⟩⟩
end
end L2
namespace L2
open PySem PySem.Spec PyProof.Rows PyProof.V
def Ite (K:PySem.W.Frag) (a:Addr):It:=
 ⟨fun i H=>∃xs x,Zu K H a xs/\xs[i]? = some x,fun i H v H'=>∃p x,v = .ref p/\H p=none/\H'=upd H p (.tup [.int i,x]) /\ ∀xs,Zu K H a xs->xs[i]? = some x,fun i H=>∃xs,Zu K H a xs/\xs.length<=i⟩
theorem ZiX {P:Program}{w:World}{K:PySem.W.Frag}{es:List Expr}{k:Nat}{pos:Pos} (a e it:Addr) (hei:e≠it):
  Turn P w K (.Tuple es k pos) (Ite K a) [e,it] e (fun i h=>(∃old,IsEnum h e it i old)/\h.IsListIter it a i) where
 mem:=by simp
 obj:=fun i h st b hb=>by
  obtain ⟨⟨old,he⟩,o,ho,c,d⟩:=st
  rcases List.mem_cons.mp hb with z | z
  ·subst z
   exact ⟨_,he,fun v z=>by
    have z':Data.fields _=Data.cell v:=z
    cases z'⟩
  ·have z':b=it:=by simpa using z
   subst z'
   exact ⟨o,ho,fun v z=>by rw [d] at z;cases z⟩
 keep:=fun i h h' st k=>by
  obtain ⟨⟨old,he⟩,hi⟩:=st
  exact ⟨⟨old,k e (by simp) _ he⟩,hi.at fun o x=>k it (by simp) o x⟩
 item:=by
  intro X hP hw hK hc i pins s σ H E I hf st hg
  subst hP hw hK
  obtain ⟨xs,x,hq,hx⟩:=hg
  obtain ⟨its,rv,p,hz⟩:=I.list hq
  obtain ⟨u,hu,ru⟩:=rv.get hx
  obtain ⟨⟨old,he⟩,hi⟩:=st
  obtain ⟨e0,e1,e2,e3,e4,e5⟩:=hf e (by simp)
  obtain ⟨f0,f1,f2,f3,f4,f5⟩:=hf it (by simp)
  refine wpAny_pyNext_enum_item he hi p.isList (x:=u) (by simpa using hu) hei fun h' ho hit ht hsz kk=>⟨_,rfl,?_⟩
  refine wpAny_letOwnedTupleGo_enum (s:={ s with heap:=h',toks:=s.toks+1 }) ho fun h'' he'' hs''=>?_
  have Tn:@LT.lt Nat _ e s.heap.objs.size:=aLt he
  have kk2:∀b o,b≠e->b≠it->s.heap.get? b=some o->h''.get? b=some o:=fun b o h1 h2 q=>(hs''.2 b h1).trans (kk b o h1 h2 q)
  have nne:∀b u,H b=some u->b≠e/\b≠it:=fun b u q=>⟨fun z=>by (rw [z,e0] at q;cases q),fun z=>by (rw [z,f0] at q;cases q)⟩
  have fr:H s.heap.objs.size=none:=I.hok.fresh (Nat.le_refl _)
  have hT:h''.get? s.heap.objs.size=some { cls:=.type "tuple", data:=.seq #[.int i s.toks,u] }:=(hs''.2 _ (Nat.ne_of_gt Tn)).trans ht
  have nT:∀b o,s.heap.get? b=some o->b≠s.heap.objs.size:=fun b o q=>Nat.ne_of_lt (aLt q)
  have ok':UL X.prog X.w (upd H s.heap.objs.size (.tup [.int i,x])) h'':=fun b o q=>by
   by_cases hb:b=s.heap.objs.size
   ·subst hb
    rw [Zd] at q
    cases q
    exact ⟨show 2<=sizeLine by decide,[.int i s.toks,u],.cons ⟨_,rfl⟩ (.cons ru .nil),⟨_,hT,rfl,_,rfl⟩⟩
   ·rw [Zj hb] at q
    refine (I.hok b o q).stay (fun c v hc r=>?_) (fun c r=>by rw [Zj (Zf r fr)];exact r) fun c xs r=>by rw [Zj (Zf r fr)];exact r
    rcases hc with z | z
    ·subst z
     exact kk2 c v (nne c o q).1 (nne c o q).2 r
    ·exact kk2 c v (nne c _ z).1 (nne c _ z).2 r
  have I1:Inv X pins σ (upd H s.heap.objs.size (.tup [.int i,x])) { s with heap:=h'',gens:=s.gens,drawn:=s.drawn,toks:=s.toks+1 }:=by
   refine I.step (ch:=[e,it]) (fun b hb=>?_) (fun b o _ _ hc q _=>kk2 b o (fun z=>hc (by simp [z])) (fun z=>hc (by simp [z])) q) (fun b o _ _ hc q _=>⟨o.slots,kk2 b o (fun z=>hc (by simp [z])) (fun z=>hc (by simp [z])) q⟩)
    (fun b o _ q n=>by rw [Zj (nT b o q)];exact n) (fun b o hc q=>⟨o,kk2 b o (fun z=>hc (by simp [z])) (fun z=>hc (by simp [z])) q⟩) (fun b xs q=>by rw [Zj (Zf q fr)];exact q) (fun b o u q=>by rw [Zj (Zf q fr)];exact q)
    (fun b ps q=>⟨#[],by rw [Zj (Zf q fr),q];simp⟩) (fun m hm=>?_) ok' I.bare
   ·rcases List.mem_cons.mp hb with z | z
    ·subst z;exact ⟨e3,e1,e4,e5⟩
    ·have z':b=it:=by simpa using z
     subst z';exact ⟨f3,f1,f4,f5⟩
   ·obtain ⟨o,es,ep,ho,r⟩:=hm
    exact ⟨o,es,ep,kk2 _ o (Ne.symm e1) (Ne.symm f1) ho,r⟩
  refine ⟨.ref s.heap.objs.size,_,I1,rfl,⟨s.heap.objs.size,x,rfl,fr,rfl,fun ys hy=>by rw [I.list_inj hy hq];exact hx⟩,⟨⟨_,by simpa using he''⟩,hit.at fun o q=>(hs''.2 it (Ne.symm hei)).trans q⟩,fun b hb=>?_⟩
  have hbo:∃o,s.heap.get? b=some o:=by
   rcases List.mem_cons.mp hb with z | z
   ·subst z;exact ⟨_,he⟩
   ·have z':b=it:=by simpa using z
    subst z'
    obtain ⟨o,ho,_⟩:=hi
    exact ⟨o,ho⟩
  obtain ⟨o,hbo⟩:=hbo
  rw [Zj (nT b o hbo)]
  exact (hf b hb).1
 done:=by
  intro X hP hw hK hc i pins s σ H E I hf st hg
  subst hP hw hK
  obtain ⟨xs,hq,hx⟩:=hg
  obtain ⟨its,rv,p,hz⟩:=I.list hq
  obtain ⟨⟨old,he⟩,hi⟩:=st
  obtain ⟨f0,f1,f2,f3,f4,f5⟩:=hf it (by simp)
  have hl:=rv.length
  exact wpAny_pyNext_enum_end (I.ok.hd hc) he hi p.isList (by simp;lia) fun h' eb=>⟨rfl,I.turned (t':=s.toks) (fun b o hb e=>eb b o hb e) f0 f1 f3 f4 f5⟩
 self:=fun _ _ _ _ _ st h=>by
  obtain ⟨⟨old,he⟩,_⟩:=st
  exact wpAny_pyIter_enum he h
section
variable {X:Cx}
def ZmE (K:PySem.W.Frag) (ta:TA):TI:=fun σ H R=>ta σ H fun vs H1=>∃a,vs = [.ref a]/\(∃xs,Zu K H1 a xs)/\R (Ite K a) H1
theorem Zmx {a:Expr}{ta:TA}{p pos tpos:Pos}{es:List Expr}{k:Nat} (hg:Gl X "enumerate") (hm:X.mg "enumerate" = none) (ha:PA X [a] ta) (hs:starEach [a] X.env = [(false,eval a X.env)]:=by rfl):
  PI X (.Tuple es k tpos) (.Call (.Name "enumerate" p) [a] [] pos) (ZmE X.K ta):=by
 intro pins s σ H R I h
 refine Call_ (GZ I hg hm boot_enumerate (PyProof.Rows.callWith_type1 (YR (ha pos pins s σ H _ I h) fun us s1 ⟨vs,H1,I1,r1,q1⟩=>?_) hs rfl))
 obtain ⟨l,e,⟨xs,hq⟩,q⟩:=q1
 subst e
 cases r1 with
 | cons r rr=>
  cases rr
  cases r
  obtain ⟨its,rv,pl,hz⟩:=I1.list hq
  refine call_enumerate_list pl.isList fun h' he hi hsz kk=>?_
  have I2:Inv X pins σ H1 { s1 with heap:=h' }:=I1.kept (t':=s1.toks) kk
  refine wpAny_pyIter_enum (s:={ s1 with heap:=h' }) he ?_
  refine ⟨_,[s1.heap.objs.size+1,s1.heap.objs.size],_,_,H1,rfl,I2,ZiX l _ _ (Nat.succ_ne_self _),⟨⟨_,he⟩,hi⟩,fun b hb=>?_,q⟩
  have hb':s1.heap.objs.size<=b:=by
   rcases List.mem_cons.mp hb with z | z
   ·subst z;exact Nat.le_succ _
   ·have z':b=s1.heap.objs.size:=by simpa using z
    subst z';exact Nat.le_refl _
  exact I1.fpOk hb' (I1.hok.fresh hb')
end
section
variable {X:Cx}
theorem Zhe:Jd X (.builtin "isinstance") (fun xs H Q=>∃x T t b,xs = [x,.ty T]/\Zb9 X.K H x t/\PySem.W.kitOne X.K t (.type T)=some b/\Q (.bl b) H):=by
 intro pins s σ H xs us Q I r h
 obtain ⟨x,T,t,b,rfl,ty,e,q⟩:=h
 obtain ⟨u,v,rfl,ru,rv⟩:=r.two
 cases rv
 exact Zi6 I ru ty e fun tk=>⟨.bl b,H,I.tok _,rfl,q⟩
theorem range_all (bs:List Bool):(List.range bs.length).all (fun i=>bs.getD i false)=bs.all id:=by
 rw [Bool.eq_iff_iff,List.all_eq_true,List.all_eq_true]
 constructor
 ·intro h b hb
  obtain ⟨i,hi,rfl⟩:=List.mem_iff_getElem.mp hb
  have:=h i (List.mem_range.mpr hi)
  simpa [hi] using this
 ·intro h i hi
  have hi':i<bs.length:=List.mem_range.mp hi
  have:=h bs[i] (List.getElem_mem hi')
  simpa [hi'] using this
theorem ZkX (hc:X.calm=true):Jd X (.builtin "all") (fun xs H Q=>∃(p:Addr) (bs:List Bool),xs = [.ref p]/\Zu X.K H p (bs.map V.bl)/\Q (.bl (bs.all id)) H):=by
 intro pins s σ H xs us Q I r h
 obtain ⟨p,bs,rfl,hq,q⟩:=h
 obtain ⟨u,rfl,ru⟩:=r.one
 cases ru
 obtain ⟨its,rv,pl,hz⟩:=I.list hq
 have hlen:bs.length=its.length:=by simpa using rv.length
 have hh:X.A.in1.handled=none:=I.ok.hd hc
 have hp:p<s.heap.objs.size:=by
  obtain ⟨o,ho,_⟩:=pl.isList
  exact Heap.lt_size ho
 refine call_all_walk (wpAny_pyIter_list pl.isList ?_)
 refine ⟨s.heap.objs.size,_,_,_,_,_,fun i=>bs.getD i false,rfl,Walks.list hh s.heap.objs.size p (Nat.ne_of_lt hp) its.toArray,⟨⟨_,Heap.get?_push_size _ rfl,rfl,rfl⟩,?_⟩,fun i v s2 Q2 E2 hv hq2=>?_,fun h' tk kk=>?_⟩
 ·obtain ⟨o,ho,r⟩:=pl.isList
  exact ⟨o,Heap.get?_push_of_some _ ho,r⟩
 ·have hv':its[i]? = some v:=by simpa using hv
  have hi:i<bs.length:=by rw [hlen];exact (List.getElem?_eq_some_iff.mp hv').1
  obtain ⟨w,hw,rw'⟩:=rv.get (i:=i) (x:=.bl bs[i]) (by simp [hi])
  rw [hv'] at hw
  cases hw
  cases rw'
  refine wpAny_truthy_bool ?_
  have e:bs.getD i false=bs[i]:=by simp [hi]
  rw [<- e]
  exact hq2
 ·have hk:∀b o,s.heap.get? b=some o->h'.get? b=some o:=fun b o e=>kk b o (fun z=>by
   have z':b=s.heap.objs.size:=by simpa using z
   exact Nat.lt_irrefl _ (z' ▸ Heap.lt_size e)) (Heap.get?_push_of_some _ e)
  refine ⟨.bl (bs.all id),H,I.kept (t':=tk) hk,?_,q⟩
  have e:its.toArray.size=bs.length:=by rw [List.size_toArray,hlen]
  rw [e,range_all]
  rfl
theorem Gk:∀{ns:List Int}{vs:List Value},Vals (ns.map V.int) vs->IntsAre vs ns
 | [],_,r=>by cases r;exact .nil
 | n::ns,_,r=>by
  cases r with
  | cons r rr=>
   obtain ⟨t,rfl⟩:=r
   exact .cons n t (Gk rr)
theorem ZgA:Jd X (.builtin "sorted") (fun xs H Q=>∃(p:Addr) (ns:List Int),xs = [.ref p]/\Zu X.K H p (ns.map V.int)/\ns.length<64 /\ ∀(l:Addr) (ns':List Int),H l=none->ns'.Perm ns->ns'.Pairwise (· <= ·)->Q (.ref l) (upd H l (.lst (ns'.map V.int)))):=by
 intro pins s σ H xs us Q I r h
 obtain ⟨p,ns,rfl,hq,h64,q⟩:=h
 obtain ⟨u,rfl,ru⟩:=r.one
 cases ru
 obtain ⟨its,rv,pl,hz⟩:=I.list hq
 have hlen:ns.length=its.length:=by simpa using rv.length
 refine sorted_ints pl.isList (Gk rv) (by lia) fun out ns' a1 a2 a3=>?_
 obtain ⟨e,he⟩:=sortedAll_at s.heap its out
 have fr:H (s.heap.objs.size+1)=none:=I.hok.fresh (Nat.le_succ _)
 have hl':ns'.length=ns.length:=a2.length_eq
 refine ⟨.ref (s.heap.objs.size+1),_,I.laid (a:=s.heap.objs.size+1) (o:=.lst (ns'.map V.int)) (t':=s.toks) (fun b o q=>sortedAll_old q) (Nat.le_succ _) ⟨?_,out.toList,e,Za3 a1,?_⟩,rfl,q _ _ fr a2 a3⟩
 ·rw [List.length_map]
  have:(ns.map V.int).length<=sizeLine:=hz
  rw [List.length_map] at this
  lia
 ·simpa [seqObj] using he
def ZjR (K:PySem.W.Frag):V->List V->Hp->VK->Prop:=fun x vs H Q=>∃(l:Addr) (xs:List V) (y:V),x = .ref l/\vs = [y]/\Zu K H l xs/\WU y=true/\xs.all WU=true/\Q (.int (xs.countP fun z=>eqV z y)) H
theorem Zeh {x:V}:∀{xs:List V}{us:List Value},Vals xs us->xs.all WU=true->us.countP (eqU x)=xs.countP fun y=>eqV y x
 | _,_,.nil,_=>rfl
 | _,_,.cons r rr,h=>by
  rw [List.all_cons,Bool.and_eq_true] at h
  rw [List.countP_cons,List.countP_cons,Zeh rr h.2,Zhn r h.1]
theorem ZjI:MtM X "list.count" (ZjR X.K):=by
 intro pins s σ H x vs v us Q I rx rv h
 obtain ⟨l,xs,y,rfl,rfl,hq,fy,fx,q⟩:=h
 cases rx
 obtain ⟨u,rfl,ru⟩:=rv.one
 obtain ⟨its,r,pl,hz⟩:=I.list hq
 obtain ⟨⟨c,dd,dt,sl⟩,ho,hc,n,hd⟩:=pl.isList
 simp only at hc hd
 subst hc hd
 refine call_meets F.slot_list_count ⟨_,ho,rfl⟩ F.entry_list_count (F.args_list_count_2 _ _) (SeqAt.list_countAt l its.toArray n dd sl u (eqU y)) ⟨ho,fun w hw=>Uq ru fy r fx w (by simpa using hw),?_⟩
 refine ⟨.int _,H,I.tok _,⟨_,rfl⟩,?_⟩
 rw [show its.toArray.toList=its by simp,Zeh r fx]
 exact q
end
inductive Eqv (K:PySem.W.Frag) (H:Hp):Nat->V->V->Prop
 | flat {n:Nat}{x:V}:WU x=true->Eqv K H n x x
 | same {n:Nat}{a:Addr}:Eqv K H n (.ref a) (.ref a)
 | lst {n:Nat}{a b:Addr}{xs ys:List V}:Zu K H a xs->Zu K H b ys->xs.length=ys.length->(∀(i:Nat) (x y:V),xs[i]? = some x->ys[i]? = some y->Eqv K H n x y)->Eqv K H (n+1) (.ref a) (.ref b)
 | tup {n:Nat}{a b:Addr}{xs ys:List V}:YT K H a xs->YT K H b ys->xs.length=ys.length->(∀(i:Nat) (x y:V),xs[i]? = some x->ys[i]? = some y->Eqv K H n x y)->Eqv K H (n+1) (.ref a) (.ref b)
theorem all_true (n:Nat):((List.range n).all fun _=>true)=true:=by rw [List.all_eq_true];intro _ _;rfl
theorem ZkI {x:V} (h:WU x=true):eqV x x=true:=by
 cases x<;>simp_all [eqV,WU]
theorem Eqv.at {X:Cx}{pins:List (Addr×Obj)} {σ:St}{H:Hp}{s:Shared} (I:Inv X pins σ H s):∀{n:Nat}{x y:V}{u v:Value}{A:Around},Eqv X.K H n x y->RelV x u->RelV y v->A.units+n<cLine->SeqAt.EqAt A s u v true:=by
 intro n x y u v A h
 induction h generalizing u v A with
 | flat f=>
  intro ru rv _
  have:=Zlb (A:=A) (s:=s) ru rv f f
  rw [ZkI f] at this
  exact this
 | same=>
  intro ru rv _
  cases ru
  cases rv
  exact SeqAt.EqAt.same _
 | @lst n a b xs ys ha hb hl _ ih=>
  intro ru rv hu
  cases ru
  cases rv
  by_cases e:a=b
  ·subst e;exact SeqAt.EqAt.same _
  ·obtain ⟨its,r1,p1,_⟩:=I.list ha
   obtain ⟨its2,r2,p2,_⟩:=I.list hb
   have l1:=r1.length
   have l2:=r2.length
   refine SeqAt.EqAt.of_refs e ?_
   have q:=SeqAt.RcAt.lists (A:=A) (e:=fun _=>true) p1.isList p2.isList (by simp only [List.size_toArray];lia) (by lia) fun j h1 h2=>by
    simp only [List.size_toArray] at h1 h2
    obtain ⟨u1,e1,s1⟩:=r1.get (i:=j) (x:=xs[j]'(by lia)) (by simp)
    obtain ⟨u2,e2,s2⟩:=r2.get (i:=j) (x:=ys[j]'(by lia)) (by simp)
    have z1:its.toArray[j]=u1:=by
     have:its[j]? = some its[j]:=by simp [h1]
     rw [this] at e1
     simpa using Option.some.inj e1
    have z2:its2.toArray[j]=u2:=by
     have:its2[j]? = some its2[j]:=by simp [h2]
     rw [this] at e2
     simpa using Option.some.inj e2
    rw [z1,z2]
    exact ih j _ _ (by simp) (by simp) s1 s2 (by show A.units+1+n<cLine;lia)
   rw [all_true] at q
   exact q
 | @tup n a b xs ys ha hb hl _ ih=>
  intro ru rv hu
  cases ru
  cases rv
  by_cases e:a=b
  ·subst e;exact SeqAt.EqAt.same _
  ·obtain ⟨its,r1,p1,_⟩:=I.tuple ha
   obtain ⟨its2,r2,p2,_⟩:=I.tuple hb
   have l1:=r1.length
   have l2:=r2.length
   refine SeqAt.EqAt.of_refs e ?_
   have q:=SeqAt.RcAt.tuples (A:=A) (s:=s) (l:=a) (b:=b) (items:=its.toArray) (items2:=its2.toArray) (e:=fun _=>true) p1 p2 (by lia) fun j h1 h2=>by
    simp only [List.size_toArray] at h1 h2
    obtain ⟨u1,e1,s1⟩:=r1.get (i:=j) (x:=xs[j]'(by lia)) (by simp)
    obtain ⟨u2,e2,s2⟩:=r2.get (i:=j) (x:=ys[j]'(by lia)) (by simp)
    have z1:its.toArray[j]=u1:=by
     have:its[j]? = some its[j]:=by simp [h1]
     rw [this] at e1
     simpa using Option.some.inj e1
    have z2:its2.toArray[j]=u2:=by
     have:its2[j]? = some its2[j]:=by simp [h2]
     rw [this] at e2
     simpa using Option.some.inj e2
    rw [z1,z2]
    exact ih j _ _ (by simp) (by simp) s1 s2 (by show A.units+1+n<cLine;lia)
   have e3:(its.toArray.size==its2.toArray.size)=true:=by
    rw [beq_iff_eq];simp only [List.size_toArray];lia
   rw [e3,all_true] at q
   exact q
section
variable {X:Cx}
def Zmo (K:PySem.W.Frag) (b:Bool):R2:=fun x y H Q=>∃(p q:Addr) (xs ys:List V),x = .ref p/\y = .ref q/\Zu K H p xs/\Zu K H q ys/\xs.length=ys.length/\(∀(i:Nat) (x y:V),xs[i]? = some x->ys[i]? = some y->Eqv K H 60 x y)/\Q (.bl b) H
theorem Ze3 {pins:List (Addr×Obj)} {σ:St}{H:Hp}{s:Shared}{xs ys:List V}{its its2:List Value}{A:Around} (I:Inv X pins σ H s) (r1:Vals xs its) (r2:Vals ys its2) (hl:xs.length=ys.length) (h:∀(i:Nat) (x y:V),xs[i]? = some x->ys[i]? = some y->Eqv X.K H 60 x y) (hu:A.units+62<cLine):
  ∀j (h1:j<its.toArray.size) (h2:j<its2.toArray.size),SeqAt.EqAt A.in1 s its.toArray[j] its2.toArray[j] ((fun _=>true) j):=fun j h1 h2=>by
 have l1:=r1.length
 have l2:=r2.length
 simp only [List.size_toArray] at h1 h2
 obtain ⟨u1,e1,s1⟩:=r1.get (i:=j) (x:=xs[j]'(by lia)) (by simp)
 obtain ⟨u2,e2,s2⟩:=r2.get (i:=j) (x:=ys[j]'(by lia)) (by simp)
 have z1:its.toArray[j]=u1:=by
  have:its[j]? = some its[j]:=by simp [h1]
  rw [this] at e1
  simpa using Option.some.inj e1
 have z2:its2.toArray[j]=u2:=by
  have:its2[j]? = some its2[j]:=by simp [h2]
  rw [this] at e2
  simpa using Option.some.inj e2
 rw [z1,z2]
 exact Eqv.at I (h j _ _ (by simp) (by simp)) s1 s2 (by show A.units+1+60<cLine;lia)
theorem ZnG (hu:X.A.units+64<cLine):UA X (compareOp .Eq) (Zmo X.K true):=by
 intro pins s σ H x y v u Q I rx ry h
 obtain ⟨p,q,xs,ys,rfl,rfl,hp,hq,hl,he,hQ⟩:=h
 cases rx
 cases ry
 obtain ⟨its,r1,p1,_⟩:=I.list hp
 obtain ⟨its2,r2,p2,_⟩:=I.list hq
 have l1:=r1.length
 have l2:=r2.length
 refine SeqAt.eq_listAt (e:=fun _=>true) p1.isList p2.isList (by simp only [List.size_toArray];lia) (by lia) (Ze3 I r1 r2 hl he (by lia)) ⟨.bl true,H,I,?_,hQ⟩
 show Value.bool _=Value.bool true
 simp
theorem Znk (hu:X.A.units+64<cLine):UA X (compareOp .NotEq) (Zmo X.K false):=by
 intro pins s σ H x y v u Q I rx ry h
 obtain ⟨p,q,xs,ys,rfl,rfl,hp,hq,hl,he,hQ⟩:=h
 cases rx
 cases ry
 obtain ⟨its,r1,p1,_⟩:=I.list hp
 obtain ⟨its2,r2,p2,_⟩:=I.list hq
 have l1:=r1.length
 have l2:=r2.length
 refine SeqAt.RcNeAt.lists (e:=fun _=>true) p1.isList p2.isList (by simp only [List.size_toArray];lia) (by lia) (Ze3 I r1 r2 hl he (by lia)) X.prog X.w _ _ ⟨.bl false,H,I,?_,hQ⟩
 show Value.bool _=Value.bool false
 simp
theorem Zn {K:PySem.W.Frag} (h:X.K=K):IxR X (ZoO K):=h ▸ ZlM
theorem Yh {K:PySem.W.Frag} (h:X.K=K):IxR X (ZoX K):=h ▸ ZnM
theorem Jc {K:PySem.W.Frag} (h:X.K=K):SlR X (ZoL K):=h ▸ ZlN
theorem Za5 {K:PySem.W.Frag} (h:X.K=K):MtM X "list.count" (ZjR K):=h ▸ ZjI
theorem Zli {K:PySem.W.Frag} (h:X.K=K) (hu:X.A.units+64<cLine):UA X (compareOp .Eq) (Zmo K true):=h ▸ ZnG hu
theorem ZiF {K:PySem.W.Frag} (h:X.K=K) (hu:X.A.units+64<cLine):UA X (compareOp .NotEq) (Zmo K false):=h ▸ Znk hu
theorem YE {K:PySem.W.Frag} (h:X.K=K):Jd X (.builtin "len") (fun xs H Q=>∃p ys,xs = [.ref p]/\(Zu K H p ys∨YT K H p ys)/\Q (.int ys.length) H):=h ▸ Zfz
theorem JC {K:PySem.W.Frag} (h:X.K=K):Jd X (.builtin "isinstance") (fun xs H Q=>∃x T t b,xs = [x,.ty T]/\Zb9 K H x t/\PySem.W.kitOne K t (.type T)=some b/\Q (.bl b) H):=h ▸ Zhe
theorem ZcH {K:PySem.W.Frag} (h:X.K=K) (hc:X.calm=true):Jd X (.builtin "all") (fun xs H Q=>∃(p:Addr) (bs:List Bool),xs = [.ref p]/\Zu K H p (bs.map V.bl)/\Q (.bl (bs.all id)) H):=h ▸ ZkX hc
theorem ZbN {K:PySem.W.Frag} (h:X.K=K):Jd X (.builtin "sorted") (fun xs H Q=>∃(p:Addr) (ns:List Int),xs = [.ref p]/\Zu K H p (ns.map V.int)/\ns.length<64 /\ ∀(l:Addr) (ns':List Int),H l=none->ns'.Perm ns->ns'.Pairwise (· <= ·)->Q (.ref l) (upd H l (.lst (ns'.map V.int)))):=h ▸ ZgA
theorem YZ {K:PySem.W.Frag} (h:X.K=K):Jd X (.type "list") (fun xs H Q=>∃p ys,xs = [.ref p]/\(Zu K H p ys∨YT K H p ys) /\ ∀l,H l=none->Q (.ref l) (upd H l (.lst ys))):=h ▸ Zgd
theorem Z6 {K:PySem.W.Frag}{es:List Expr}{k:Nat}{t:TGs}{n:Nat}{pos:Pos} (hk:X.K=K) (hc:X.calm=true) (h:PGs X es t) (hn:(assignEach es X.env).length=n:=by rfl) (hst:(assignEach es X.env).findIdx? (·.1)=none:=by rfl):PG X (.Tuple es k pos) (ZoU K n t):=hk ▸ ZmV hc h hn hst
theorem Yb {K:PySem.W.Frag}{T:String}{name:Str}{r:V->List V->Hp->VK->Prop}{o e:Expr}{es:List Expr}{to:TE}{t:TA}{apos pos:Pos} (hk:X.K=K) (h:PE X (.Call (.Attribute o name apos) (e::es) [] pos) (tBM X.K T r to t)):PE X (.Call (.Attribute o name apos) (e::es) [] pos) (tBM K T r to t):=hk ▸ h
theorem Z8 {K:PySem.W.Frag}{l tg:Expr}{tl:TE} (hk:X.K=K) (hl:PE X l tl):PI X tg l (ZmI K tl):=hk ▸ Zmt hl
theorem JT {K:PySem.W.Frag}{a:Expr}{ta:TA}{p pos tpos:Pos}{es:List Expr}{k:Nat} (hk:X.K=K) (hg:Gl X "enumerate") (hm:X.mg "enumerate" = none) (ha:PA X [a] ta) (hs:starEach [a] X.env = [(false,eval a X.env)]:=by rfl):
  PI X (.Tuple es k tpos) (.Call (.Name "enumerate" p) [a] [] pos) (ZmE K ta):=hk ▸ Zmx hg hm ha hs
end
section
variable {g:TG}{tc:TT}{te:TE} {σ:St}{H:Hp}{Q:VK}{K:PySem.W.Frag}{a:Addr}{xs:List V}
theorem ZcA {J:It}{n:Nat} (hn:n<=sizeLine) (Pv:Nat->List V->Hp->Prop) (h0:Pv 0 [] H) (hlen:∀i ys H,Pv i ys H->ys.length<=i) (go:∀i ys H,i<n->Pv i ys H->J.go i H) (stop:∀ys H,Pv n ys H->J.stop n H)
  (hs:∀i ys H,i<n->Pv i ys H -> ∀x H',J.yld i H x H'->g x σ H' fun σ2 H2=>tc σ2 H2 fun b H3=>if b=true then te σ2 H3 fun y H4=>Pv (i+1) (ys ++ [y]) H4 else Pv (i+1) ys H3)
  (hd:∀ys H,Pv n ys H -> ∀D,H D=none->Q (.ref D) (upd H D (.lst ys))):LcW J σ g tc te H Q:=by
 unfold LcW
 refine ⟨fun i m ys H=>m=n-i/\i<=n/\Pv i ys H,⟨n,by simp,Nat.zero_le _,h0⟩,?_⟩
 rintro i m ys H ⟨rfl,hi,p⟩
 have hy:=hlen i ys H p
 by_cases hlt:i<n
 ·exact .inr ⟨go i ys H hlt p,by lia,Pv (i+1),fun ys' H' h2=>⟨n-(i+1),by lia,rfl,hlt,h2⟩,fun x H' y=>hs i ys H hlt p x H' y⟩
 ·have e:i=n:=by lia
  subst e
  exact .inl ⟨stop ys H p,by lia,hd ys H p⟩
theorem JG (hn:xs.length<=sizeLine) (Pv:Nat->List V->Hp->Prop) (h0:Pv 0 [] H) (hlen:∀i ys H,Pv i ys H->ys.length<=i) (hS:∀i ys H,Pv i ys H->Zu K H a xs)
  (hs:∀i x ys H,xs[i]? = some x->Pv i ys H->g x σ H fun σ2 H2=>tc σ2 H2 fun b H3=>if b=true then te σ2 H3 fun y H4=>Pv (i+1) (ys ++ [y]) H4 else Pv (i+1) ys H3)
  (hd:∀ys H,Pv xs.length ys H -> ∀D,H D=none->Q (.ref D) (upd H D (.lst ys))):LcW (Itl K a) σ g tc te H Q:=
 ZcA hn Pv h0 hlen (fun i ys H hi p=>⟨xs,xs[i],hS i ys H p,by simp [hi]⟩) (fun ys H p=>⟨xs,hS _ ys H p,Nat.le_refl _⟩) (fun i ys H hi p x H' y=>by
  obtain ⟨e,y⟩:=y
  subst e
  exact hs i x ys _ (y xs (hS i ys _ p)) p) hd
theorem Zgi {lo:Int}{n:Nat} (hn:n<=sizeLine) (Pv:Nat->List V->Hp->Prop) (h0:Pv 0 [] H) (hlen:∀i ys H,Pv i ys H->ys.length<=i)
  (hs:∀i ys H,i<n->Pv i ys H->g (.int (lo+i)) σ H fun σ2 H2=>tc σ2 H2 fun b H3=>if b=true then te σ2 H3 fun y H4=>Pv (i+1) (ys ++ [y]) H4 else Pv (i+1) ys H3)
  (hd:∀ys H,Pv n ys H -> ∀D,H D=none->Q (.ref D) (upd H D (.lst ys))):LcW (Itr lo n) σ g tc te H Q:=
 ZcA hn Pv h0 hlen (fun i ys H hi p=>hi) (fun ys H p=>Nat.le_refl _) (fun i ys H hi p x H' y=>by
  obtain ⟨e,y⟩:=y
  subst e y
  exact hs i ys _ hi p) hd
theorem ZkO (hn:xs.length<=sizeLine) (Pv:Nat->List V->Hp->Prop) (h0:Pv 0 [] H) (hlen:∀i ys H,Pv i ys H->ys.length<=i) (hS:∀i ys H,Pv i ys H->Zu K H a xs)
  (hs:∀i x p ys H,xs[i]? = some x->Pv i ys H->H p=none->g (.ref p) σ (upd H p (.tup [.int i,x])) fun σ2 H2=>tc σ2 H2 fun b H3=>if b=true then te σ2 H3 fun y H4=>Pv (i+1) (ys ++ [y]) H4 else Pv (i+1) ys H3)
  (hd:∀ys H,Pv xs.length ys H -> ∀D,H D=none->Q (.ref D) (upd H D (.lst ys))):LcW (Ite K a) σ g tc te H Q:=
 ZcA hn Pv h0 hlen (fun i ys H hi p=>⟨xs,xs[i],hS i ys H p,by simp [hi]⟩) (fun ys H p=>⟨xs,hS _ ys H p,Nat.le_refl _⟩) (fun i ys H hi p x H' y=>by
  obtain ⟨q,z,e1,e2,e3,y⟩:=y
  subst e1 e3
  exact hs i z q ys _ (y xs (hS i ys _ p)) p e2) hd
end
def Yv (N:List Str) (osc scope:Scope) (Fs:List Str) (fi:List Nat):Bool:=
 (scope.kind == .function)&&scope.names.all (fun y=>y.2 != .cell)&&scope.names.all (fun y=>y.2 != .local||scope.names.lookup y.1==some .local)&&Fs.all (fun x=>scope.names.lookup x==some .free) &&
  scope.names.all (fun y=>y.2 != .free||osc.names.lookup y.1==some .cell||osc.names.lookup y.1==some .free)&&(fi.map (fun i=>N[i]?)==Fs.map some)
theorem ZY.of {N:List Str}{osc scope:Scope}{Ls Fs:List Str}{fi:List Nat} (h:Yv N osc scope Fs fi=true):ZY N osc scope Ls Fs fi:=by
 simp only [Yv,Bool.and_eq_true,List.all_eq_true,Bool.or_eq_true,bne_iff_ne,beq_iff_eq] at h
 obtain ⟨⟨⟨⟨⟨h1,h2⟩,h3⟩,h4⟩,h5⟩,h6⟩:=h
 refine ⟨h1,h2,fun y hy hl=>(h3 y hy).elim (fun z=>absurd hl z) id,h4,fun y hy hf=>?_,h6⟩
 rcases h5 y hy with (z | z) | z
 ·exact absurd hf z
 ·exact .inl z
 ·exact .inr z
def Yk (P:Program) (w:World) (K:PySem.W.Frag) (mg:Str->Option Value) (base:Heap) (k:Nat) (x:Str) (ps:List Str) (sp:Sp):Prop:=
 ∃(f:Addr) (fd:FuncData),Yc P w K mg base J9 k f fd ps sp/\mg x=some (.ref f)/\PySem.W.keepIn K (.ref f)=true/\Binds K fd ps []
theorem Zr {X:Cx}{j k:Nat}{x:Str}{ps:List Str}{sp:Sp}{p pos:Pos}{e:Expr}{es:List Expr}{t:TA} (h:Yk X.prog X.w X.K X.mg X.base j x ps sp) (hr:GC k X.A) (ha:PA X (e::es) t) (hj:j<=k:=by decide) (hg:Gl X x:=by rfl) (hdb:(x==("__debug__" : Str))=false:=by decide)
  (he:starEach (e::es) X.env=(false,eval e X.env)::starEach es X.env:=by rfl) (hpl:(backTo pos (starEach es X.env)).any (·.1)=false:=by rfl):PE X (.Call (.Name x p) (e::es) [] pos) (Zkr sp [] E0 t):=by
 obtain ⟨f,fd,G,hm,hk,hb⟩:=h
 exact ZiJ G (hr.mono hj) hg hm hk hb .nil Zoq ha hdb he hpl
def Jn (b:Addr) (H H':Hp):Prop:=∀c o,H c=some o->c≠b->H' c=some o
theorem Jn.refl (b:Addr) (H:Hp):Jn b H H:=fun _ _ h _=>h
theorem Jn.trans {b:Addr}{H H1 H2:Hp} (x:Jn b H H1) (y:Jn b H1 H2):Jn b H H2:=fun c o h n=>y c o (x c o h n) n
theorem Zi.frm {b:Addr}{H H':Hp} (x:Zi H H'):Jn b H H':=fun c o h _=>x c o h
theorem Zi.laid {H:Hp}{p:Addr}{o:HO} (h:H p=none):Zi H (upd H p o):=fun c u e=>by rw [Zj (Zf e h)];exact e
theorem Zi.step {H H':Hp}{p:Addr}{o:HO} (s:Zi H H') (h:H' p=none):Zi H (upd H' p o):=s.trans (.laid h)
theorem Jn.upd {b:Addr}{H:Hp}{o:HO}:Jn b H (upd H b o):=fun c u e n=>by rw [Zj n];exact e
theorem Jn.new {b p:Addr}{H H':Hp}{o:HO} (s:Jn b H H') (h:H' p=none):Jn b H (L2.upd H' p o):=s.trans (Zi.laid h).frm
theorem Zi.put {H H':Hp}{p:Addr}{o:HO} (s:Zi H H') (h:H p=none):Zi H (upd H' p o):=fun c u e=>by rw [Zj (Zf e h)];exact s c u e
def Bag (H:Hp) (b:Addr):Prop:=∃g r:Int,0<=g/\H b=some (.lst [.int g,.int r])
theorem Jn.free {b:Addr}{H H':Hp} (f:Jn b H H') (hb:Bag H' b) {p:Addr} (h:H' p=none):H p=none:=by
 cases q:H p with
 | none=>rfl
 | some o=>
  by_cases e:p=b
  ·subst e
   obtain ⟨g,r,_,z⟩:=hb
   rw [h] at z;cases z
  ·rw [f p o q e] at h;cases h
def ZI (H:Hp) (xs:List V) (ls:List (Str×Int)):Prop:=Paired (fun x (p:Str×Int)=>∃t,x=V.ref t/\H t=some (.tup [.str p.1,.int p.2])) xs ls
theorem ZI.mono {H H':Hp} (h:∀t p,H t=some (.tup p)->H' t=some (.tup p)):∀{xs:List V}{ls:List (Str×Int)},ZI H xs ls->ZI H' xs ls
 | _,_,.nil=>.nil
 | _,_,.cons ⟨t,e,q⟩ r=>.cons ⟨t,e,h t _ q⟩ (ZI.mono h r)
theorem ZI.same {H H':Hp} (s:Zi H H') {xs:List V}{ls:List (Str×Int)} (h:ZI H xs ls):ZI H' xs ls:=h.mono fun t p e=>s t _ e
theorem ZI.frm {b:Addr}{H H':Hp} (s:Jn b H H') (hb:Bag H b) {xs:List V}{ls:List (Str×Int)} (h:ZI H xs ls):ZI H' xs ls:=h.mono fun t p e=>s t _ e (fun z=>by
 obtain ⟨g,r,_,q⟩:=hb
 rw [z,q] at e;cases e)
theorem ZI.len {H:Hp}{xs:List V}{ls:List (Str×Int)} (h:ZI H xs ls):xs.length=ls.length:=Paired.length h
theorem ZI.get {H:Hp}:∀{xs:List V}{ls:List (Str×Int)}{i:Nat}{x:V},ZI H xs ls->xs[i]? = some x -> ∃p t,ls[i]? = some p/\x = .ref t/\H t=some (.tup [.str p.1,.int p.2])
 | _,_,_,_,.nil,e=>by simp at e
 | _,_,0,_,.cons ⟨t,e1,q⟩ _,e=>by simp at e;subst e;exact ⟨_,t,rfl,e1,q⟩
 | _,_,i+1,x,.cons _ r,e=>by
  obtain ⟨p,t,h1,h2⟩:=ZI.get (i:=i) (x:=x) r (by simpa using e)
  exact ⟨p,t,by simpa using h1,h2⟩
theorem ZI.snoc {H:Hp}{xs:List V}{ls:List (Str×Int)}{t:Addr}{x:Str}{k:Int} (h:ZI H xs ls) (e:H t=some (.tup [.str x,.int k])):ZI H (xs ++ [.ref t]) (ls ++ [(x,k)]):=Paired.snoc h ⟨t,rfl,e⟩
theorem ZI.append {H:Hp}:∀{xs ys:List V}{ls ms:List (Str×Int)},ZI H xs ls->ZI H ys ms->ZI H (xs++ys) (ls++ms)
 | _,_,_,_,.nil,s=>s
 | _,_,_,_,.cons r t,s=>.cons r (ZI.append t s)
inductive Wk:List (Str×Int)->Int->Prop
 | nil:Wk [] 0
 | born {ls:List (Str×Int)}{n k:Int}:Wk ls n->0<=k->k<=n->Wk (ls ++ [((("born" : Str),k):Str×Int)]) (n+2)
 | cross {ls:List (Str×Int)}{n k:Int}:Wk ls n->0<=k->k+1<n->Wk (ls ++ [((("cross" : Str),k):Str×Int)]) n
 | fin {ls:List (Str×Int)}{n k:Int}:Wk ls n->0<=k->k+1<n->Wk (ls ++ [((("end" : Str),k):Str×Int)]) (n-2)
def Kd (x:Str):Prop:=x = "born" ∨ x = "cross" ∨ x = "end"
theorem Wk.kd {ls:List (Str×Int)}{n:Int} (h:Wk ls n):∀p∈ls,Kd p.1:=by
 induction h with
 | nil=>intro p hp;cases hp
 | born _ _ _ ih=>intro p hp;rcases List.mem_append.mp hp with z | z;exact ih p z;rw [List.mem_singleton.mp z];exact .inl rfl
 | cross _ _ _ ih=>intro p hp;rcases List.mem_append.mp hp with z | z;exact ih p z;rw [List.mem_singleton.mp z];exact .inr (.inl rfl)
 | fin _ _ _ ih=>intro p hp;rcases List.mem_append.mp hp with z | z;exact ih p z;rw [List.mem_singleton.mp z];exact .inr (.inr rfl)
def Drw (H:Hp) (l:Addr) (ls:List (Str×Int)):Prop:=∃xs,H l=some (.lst xs)/\ZI H xs ls/\Wk ls 0/\ls.length<=60
def Ev (t:TT) (σ:St) (H:Hp) (β:Bool):Prop:=∀Q:Bool->Hp->Prop,Q β H->t σ H Q
theorem Zf2 {t u:TT} {σ:St}{H:Hp} {β γ:Bool} (h1:Ev t σ H β) (h2:β = true->Ev u σ H γ):Ev (ZoC t u) σ H (β && γ):=fun Q q=>h1 _ (by
 cases β with
 | true=>rw [if_pos rfl];exact h2 rfl _ q
 | false=>rw [if_neg Bool.false_ne_true];exact q)
theorem ZoN {t u:TT} {σ:St}{H:Hp} {β γ:Bool} (h1:Ev t σ H β) (h2:β = false->Ev u σ H γ):Ev (tOr t u) σ H (β || γ):=fun Q q=>h1 _ (by
 cases β with
 | true=>rw [if_pos rfl];exact q
 | false=>rw [if_neg Bool.false_ne_true];exact h2 rfl _ q)
theorem ZoG {t:TT} {σ:St}{H:Hp} {β:Bool}{T U:Hp->Prop} (h:Ev t σ H β) (h1:β = true->T H) (h2:β = false->U H):t σ H fun b H1=>if b=true then T H1 else U H1:=h _ (by
 cases β with
 | true=>rw [if_pos rfl];exact h1 rfl
 | false=>rw [if_neg Bool.false_ne_true];exact h2 rfl)
theorem ZhJ {tc:TT}{t u:TS}{D:Ends} {σ:St}{H:Hp} {β:Bool} (h:Ev tc σ H β) (h1:β = true->t D σ H) (h2:β = false->u D σ H):ZiR tc t u D σ H:=ZoG h h1 h2
theorem lcT {σ:St}{H:Hp}{A B:Hp->Prop} (h:A H):Zg8 σ H fun b H3=>if b=true then A H3 else B H3:=by
 show if true=true then A H else B H
 exact JN h
theorem WW {H H1 H2:Hp}{b l t:Addr}{xs:List V}{ls:List (Str×Int)} (x:Str) (k:Int) (f0:Jn b H H1) (hb1:Bag H1 b) (hl:H1 l=some (.lst xs)) (hL:ZI H1 xs ls) (hlb:l≠b) (hlf:H l=none) (f2:Jn b H1 H2) (bag2:Bag H2 b) (ht:H2 t=none):
  (upd H2 t (.tup [.str x,.int k])) l=some (.lst xs)/\Bag (upd (upd H2 t (.tup [.str x,.int k])) l (.lst (xs ++ [.ref t]))) b/\Jn b H (upd (upd H2 t (.tup [.str x,.int k])) l (.lst (xs ++ [.ref t]))) /\
   (upd (upd H2 t (.tup [.str x,.int k])) l (.lst (xs ++ [.ref t]))) l=some (.lst (xs ++ [.ref t]))/\ZI (upd (upd H2 t (.tup [.str x,.int k])) l (.lst (xs ++ [.ref t]))) (xs ++ [.ref t]) (ls ++ [(x,k)]):=by
 have hl2:H2 l=some (.lst xs):=f2 l _ hl hlb
 have hlt:l≠t:=Zf hl2 ht
 have hbt:b≠t:=by
  obtain ⟨g,r,_,e⟩:=bag2
  exact Zf e ht
 refine ⟨by rw [Zj hlt];exact hl2,?_,fun c o e n=>?_,Zd,?_⟩
 ·obtain ⟨g,r,h0,e⟩:=bag2
  exact ⟨g,r,h0,by rw [Zj (Ne.symm hlb),Zj hbt];exact e⟩
 ·have e2:=f2 c o (f0 c o e n) n
  rw [Zj (Zf e hlf),Zj (Zf e2 ht)]
  exact e2
 ·refine ZI.snoc ?_ (by rw [Zj (Ne.symm hlt)];exact Zd)
  refine (hL.frm f2 hb1).mono fun t' p e=>?_
  rw [Zj (Zd1 e hl2 (by intro z;cases z)),Zj (Zf e ht)]
  exact e
theorem Wk.nil0:Wk [] (2*((0:Nat):Int)):=Wk.nil
theorem Zdq {ls:List (Str×Int)}:∀(n:Nat),Wk ls (2*(n:Int)) -> ∀m,m<=n->Wk (ls++List.replicate m ((("end" : Str),0):Str×Int)) (2*((n-m:Nat):Int))
 | n,h,0,_=>by simpa using h
 | n,h,m+1,hm=>by
  have ih:=Zdq n h m (by lia)
  rw [List.replicate_succ',<- List.append_assoc]
  have e:(2*((n-(m+1):Nat):Int))=2*((n-m:Nat):Int)-2:=by lia
  rw [e]
  exact Wk.fin ih (by decide) (by lia)
theorem Zfc:∀(n:Nat),Wk ((List.range n).map fun (k:Nat)=>((("born" : Str),2*(k:Int)):Str×Int)) (2*(n:Int))
 | 0=>by simpa using Wk.nil
 | n+1=>by
  rw [List.range_succ,List.map_append]
  have e:(2*((n+1:Nat):Int))=2*(n:Int)+2:=by lia
  rw [e]
  exact Wk.born (Zfc n) (by lia) (by lia)
theorem lcG {i:Nat}{v:V} {σ:St}{H:Hp}{A B:St->Hp->Prop} (h:A (σ.set i (some v)) H):Zfa i v σ H fun σ2 H2=>Zg8 σ2 H2 fun b H3=>if b=true then A σ2 H3 else B σ2 H3:=by
 show if true=true then A (σ.set i (some v)) H else B (σ.set i (some v)) H
 exact JN h
def UJ (ls:List (Str×Int)) (pr:Str->Bool) (i:Nat):Bool:=((ls[i]?).map fun q=>pr q.1)==some true
def Z9 (ls:List (Str×Int)) (pr:Str->Bool) (n:Nat):List Int:=(List.range n).filterMap fun i=>if UJ ls pr i=true then some (i:Int) else none
theorem JB (ls:List (Str×Int)) (pr:Str->Bool) (n:Nat):Z9 ls pr (n+1)=Z9 ls pr n++(if UJ ls pr n=true then [(n:Int)] else []):=by
 unfold Z9
 rw [List.range_succ,List.filterMap_append]
 by_cases h:UJ ls pr n=true<;>simp [h]
theorem Zhg {ls:List (Str×Int)}{pr:Str->Bool}{n:Nat}{q:Str×Int} (h:ls[n]? = some q) (hp:pr q.1=true):(Z9 ls pr n).map V.int ++ [V.int n]=(Z9 ls pr (n+1)).map V.int:=by
 have:UJ ls pr n=true:=by unfold UJ;rw [h];simp [hp]
 rw [JB,this]
 simp
theorem Zik {ls:List (Str×Int)}{pr:Str->Bool}{n:Nat}{q:Str×Int} (h:ls[n]? = some q) (hp:pr q.1=false):(Z9 ls pr n).map V.int=(Z9 ls pr (n+1)).map V.int:=by
 have:UJ ls pr n=false:=by unfold UJ;rw [h];simp [hp]
 rw [JB,this]
 simp
theorem Jf (ls:List (Str×Int)) (pr:Str->Bool) (n:Nat):(Z9 ls pr n).length<=n:=by
 unfold Z9
 exact Nat.le_trans (List.length_filterMap_le _ _) (by simp)
theorem ZfB (ls:List (Str×Int)) (pr:Str->Bool) (n:Nat):∀x∈Z9 ls pr n,x<(n:Int):=by
 intro x hx
 unfold Z9 at hx
 obtain ⟨i,hi,e⟩:=List.mem_filterMap.mp hx
 have hi':=List.mem_range.mp hi
 by_cases h:UJ ls pr i=true
 ·rw [if_pos h] at e;have:=Option.some.inj e;lia
 ·rw [if_neg h] at e;cases e
theorem Zbw:∀{a b:List Int},a.Perm b->a.Pairwise (· <= ·)->b.Pairwise (· <= ·)->a=b
 | [],b,p,_,_=>(List.nil_perm.mp p).symm
 | x::a,[],p,_,_=>absurd p.length_eq (by simp)
 | x::a,y::b,p,ha,hb=>by
  have hx:x∈y::b:=p.mem_iff.mp List.mem_cons_self
  have hy:y∈x::a:=p.mem_iff.mpr List.mem_cons_self
  have h1:y<=x:=by
   rcases List.mem_cons.mp hx with e | h
   ·lia
   ·exact (List.pairwise_cons.mp hb).1 x h
  have h2:x<=y:=by
   rcases List.mem_cons.mp hy with e | h
   ·lia
   ·exact (List.pairwise_cons.mp ha).1 y h
  have e:x=y:=by lia
  subst e
  rw [Zbw (List.perm_cons x |>.mp p) (List.pairwise_cons.mp ha).2 (List.pairwise_cons.mp hb).2]
def ZiW (x:Str):Int:=if x = "born" then 2 else if x = "end" then -2 else 0
def ZdZ (ls:List (Str×Int)):Int:=(ls.map fun p=>ZiW p.1).sum
theorem ZcG (ls:List (Str×Int)) (p:Str×Int):ZdZ (ls ++ [p])=ZdZ ls+ZiW p.1:=by
 unfold ZdZ
 simp
theorem ZjU {xs:List V}{t:Nat} (h:t<=xs.length):GN xs none (some (t:Int))=xs.take t:=by
 have e1:HT.JE xs.length 0 none=0:=by unfold HT.JE;rfl
 have e2:HT.JE xs.length xs.length (some (t:Int))=t:=by
  have h0:¬((t:Int)<0):=by lia
  unfold HT.JE
  simp [h0]
  lia
 unfold GN
 rw [e1,e2]
 simp
theorem Zcx (ns:List Int):(ns.map V.int).all WU=true:=by
 rw [List.all_eq_true]
 intro x hx
 obtain ⟨n,_,rfl⟩:=List.mem_map.mp hx
 rfl
section
variable {X:Cx}
theorem Zg9 {v:Value}{a:Int} (h:IsPart v (some a)):RelV (.int a) v:=by
 cases h with
 | int _ t=>exact ⟨t,rfl⟩
def Zpi (to:TE) (tl th:TO):TG:=fun v σ H Q=>to σ H fun x H1=>tl σ H1 fun lo H2=>th σ H2 fun hi H3=>∃(l b:Addr) (xs ys:List V) (a c:Int),x = .ref l/\v = .ref b/\lo=some a/\hi=some c/\H3 l=some (.lst xs)/\H3 b=some (.lst ys)/\l≠b /\
 0<=a/\a<=c/\c<=xs.length/\xs.length+ys.length<=sizeLine/\Q σ (upd H3 l (.lst (xs.take a.toNat++ys++xs.drop c.toNat)))
theorem Zm9 {o:Expr}{lo hi:Option Expr}{to:TE}{tl th:TO}{p2 pos:Pos} (ho:PE X o to) (hl:PO X lo tl) (hu:PO X hi th):PG X (.Subscript o (.Slice lo hi none p2) pos) (Zpi to tl th):=by
 intro pins s σ H v u Q I r h
 show wpAny _ _ (do
   let ov <- holding [u] (eval o X.env)
   let iv <- holding [u,ov] (eval (.Slice lo hi none p2) X.env)
   standAt pos
   holding [u,ov,iv] (setItem ov iv u)
   release [iv,u,ov] []) _ _ s
 refine wpAny_bind (wpAny_holding (YR (ho pins s σ H _ I h) fun ov s1 ⟨x,H1,I1,r1,q1⟩=>?_))
 refine wpAny_bind (wpAny_holding (wpAny_Slice (YR (hl pins s1 σ H1 _ I1 q1) fun vl s2 ⟨l',H2,I2,pl,q2⟩=>YR (hu pins s2 σ H2 _ I2 q2) fun vu s3 ⟨u',H3,I3,pu,q3⟩=>?_)))
 rw [evalPart_none]
 refine wpAny_pure ?_
 have I4:Inv X pins σ H3 { s3 with heap:=s3.heap.push { cls:=.type "slice", data:=.fields #[vl,vu,.none] } }:=I3.kept (t':=s3.toks) fun b ob q=>Heap.get?_push_of_some _ q
 obtain ⟨l,b,xs,ys,a,c,rfl,rfl,rfl,rfl,hx,hy,hne,h0,hac,hc,hz,q⟩:=q3
 cases r1
 cases r
 refine wpAny_bind (wpAny_standAt (wpAny_bind (wpAny_holding (Zjl I4 hx hy hne (Heap.IsSliceOf.new ..) (Zg9 pl) (Zg9 pu) h0 hac hc hz fun s5 I5=>?_))))
 exact wpAny_release ⟨σ,_,I5,q⟩
def ZlL:V->List V->Hp->VK->Prop:=fun x vs H Q=>∃(l:Addr) (xs:List V) (i:Int) (y:V),x = .ref l/\vs = [.int i,y]/\H l=some (.lst xs)/\0<=i/\i<=xs.length/\xs.length<sizeLine/\xs.length<2 ^ 62/\Q .non (upd H l (.lst (xs.take i.toNat++y::xs.drop i.toNat)))
theorem ZeQ:MtM X "list.insert" ZlL:=by
 intro pins s σ H x vs v us Q I rx rv h
 obtain ⟨l,xs,i,y,rfl,rfl,hH,h0,h1,hz,hb,q⟩:=h
 cases rx
 obtain ⟨u1,u,rfl,ri,ru⟩:=rv.two
 obtain ⟨t,rfl⟩:=ri
 obtain ⟨z,its,n,r,hl,e⟩:=I.lstM hH
 have hfit:¬(!Builtin.List.listFitsIndex i)=true:=by
  unfold Builtin.List.listFitsIndex
  simp
  lia
 refine call_meets F.slot_list_insert ⟨_,e,rfl⟩ F.entry_list_insert (F.args_list_insert_3 _ _ _) (AutoSeq1.list_insert_list_int_val_1 l its.toArray n i t u hfit (by rw [List.size_toArray];lia)) ⟨e,?_⟩
 refine ⟨.non,_,I.lset (its':=its.take i.toNat++u::its.drop i.toNat) hH e ?_ (Vals.append (r.take _) (.cons ru (r.drop _))) ?_,rfl,q⟩
 ·have hi:¬i<0:=by lia
  have hm:min i.toNat its.toArray.size=i.toNat:=by rw [List.size_toArray];lia
  simp only [if_neg hi,hm]
  simp
  rw [List.take_of_length_le (by simp)]
 ·rw [List.length_append,List.length_cons,List.length_take,List.length_drop]
  lia
end
theorem Zh9 (a c:Nat) (hac:a<=c):∀(its:List Value) (i:Nat),((its.zipIdx i).filterMap fun (p:Value×Nat)=>if (a<=p.2/\p.2<c) then none else some p.1)=its.take (a-i)++its.drop (c-i)
 | [],i=>by simp
 | x::r,i=>by
  have ih:=Zh9 a c hac r (i+1)
  rw [List.zipIdx_cons,List.filterMap_cons]
  by_cases h1:i<a
  ·have e1:a-i=(a-(i+1))+1:=by lia
   have e2:c-i=(c-(i+1))+1:=by lia
   rw [if_neg (show ¬(a<=(x,i).2/\(x,i).2<c) by show ¬(a<=i/\i<c);lia)]
   simp only [ih]
   rw [e1,e2]
   simp
  ·by_cases h2:i<c
   ·have e1:a-i=0:=by lia
    have e1':a-(i+1)=0:=by lia
    have e2:c-i=(c-(i+1))+1:=by lia
    rw [if_pos (show (a<=(x,i).2/\(x,i).2<c) by show (a<=i/\i<c);lia)]
    simp only [ih]
    rw [e1,e1',e2]
    simp
   ·have e1:a-i=0:=by lia
    have e1':a-(i+1)=0:=by lia
    have e2:c-i=0:=by lia
    have e2':c-(i+1)=0:=by lia
    rw [if_neg (show ¬(a<=(x,i).2/\(x,i).2<c) by show ¬(a<=i/\i<c);lia)]
    simp only [ih]
    rw [e1,e1',e2,e2']
    simp
section
variable {prog:Program}{w:World}{A:Around}{E:Value->Shared->Prop}{s:Shared}
theorem ZeM {l sl:Addr}{its:List Value}{n:Nat}{vl vu:Value}{a c:Nat}{Q:Unit->Shared->Prop}
  (e:s.heap.get? l=some { cls:=.type "list", data:=.seq its.toArray n }) (hs:s.heap.IsSliceOf sl vl vu .none) (pl:IsPart vl (some (a:Int))) (pu:IsPart vu (some (c:Int))) (hac:a<=c) (hc:c<=its.length)
  (hsz:its.length<=sizeLine) (h:∀f:Array Value->Array Value,f its.toArray=(its.take a++its.drop c).toArray->Q () { s with heap:=s.heap.update l (Obj.mapSeq f) }):
  wpAny (model prog w) A (delItem (.ref l) (.ref sl)) Q E s:=by
 have hl:s.heap.IsList l its.toArray:=PySem.IsL.isList e
 obtain ⟨os,hos,hcs,hds⟩:=id hs
 have hTs:s.TypeIs (.ref sl) "slice" := ⟨os,hos,hcs⟩
 have hstep:¬((rawPart none==rawInt 0)=true):=Bool.false_ne_true
 refine wpAny_delItem_slot hl.typeIs (by decide) F.slot_list_delitem (wpAny_call_entry F.slot_list_delitem hl.typeIs F.entry_list_delitem ?_ (F.args_list_delitem_2 _ _))
 show wpAny _ _ (Builtin.List.listSubscript? (.ref sl) >>= _) _ _ s
 refine wpAny_bind ?_
 unfold Builtin.List.listSubscript?
 refine wpAny_bind (wpAny_specialOf hTs slice_no_index ?_)
 simp only [Option.isNone_none,if_true]
 refine wpAny_pure ?_
 show wpAny _ _ (typeOf (.ref sl) >>= _) _ _ s
 refine wpAny_bind (wpAny_typeOf hTs ?_)
 first
  | rw [if_neg (by decide)]
  | refine PySem.W.KFB.if_not (by decide) ?_
 rw [listSliceParts_eq]
 refine wpAny_bind (wpAny_bind (wpAny_field hos hds (x:=.none) rfl (wpAny_bind (wpAny_listPart .none ?_))))
 rw [if_neg hstep]
 refine wpAny_bind (wpAny_field hos hds (x:=vl) rfl (wpAny_bind (wpAny_listPart pl ?_)))
 refine wpAny_bind (wpAny_field hos hds (x:=vu) rfl (wpAny_bind (wpAny_listPart pu (wpAny_pure ?_))))
 unfold Builtin.List.listItems
 refine wpAny_bind (wpAny_bind (wpAny_seqItems e rfl (wpAny_pure ?_)))
 refine wpAny_bind (wpAny_of_eq ((sliceIndices_raw (some (a:Int)) (some (c:Int)) none its.toArray.size (by simp)).trans (congrArg (pure:Int×Int×Int->Sem (Int×Int×Int)) (ZdI hac (by rw [List.size_toArray];exact hc)))) ?_)
 refine wpAny_bind (wpAny_rule ?_)
 have key:∀(F:Array Value->Array Value),F its.toArray=(its.take a++its.drop c).toArray -> ∀(g:Sem Fin),(∀s',Q () s'->wpAny (model prog w) A.in1 g (fun fin s'=>∃v,fin = .done (.ret v)/\Q () s') E s') ->
   wpAny (model prog w) A.in1 (Builtin.List.listUpdate (.ref l) F >>= fun _=>g) (fun fin s'=>∃v,fin = .done (.ret v)/\Q () s') E s:=fun F hF g hg=>by
  show wpAny (model prog w) A.in1 (updateSeq l F >>= fun _=>g) _ E s
  refine wpAny_bind (wpAny_updateSeq (hz:=by rw [List.size_toArray];exact hsz) (_hz':=?_) e rfl (hg _ (h F hF)))
  rw [hF,List.size_toArray,List.length_append,List.length_take,List.length_drop]
  lia
 refine key _ ?_ _ ?_
 ·refine congrArg List.toArray ((congrArg (fun f=>List.filterMap f its.zipIdx) (funext fun p=>?_)).trans (Zh9 a c hac its 0))
  obtain ⟨x,k⟩:=p
  show (if (if (1:Int)>0 then decide ((a:Int)<=(k:Int))&&decide ((k:Int)<(c:Int))&&(((k:Int)-(a:Int)) % 1==0) else _)=true then none else some x)=if (a<=k/\k<c) then none else some x
  rw [if_pos (show (1:Int)>0 by decide)]
  have e0:((k:Int)-(a:Int)) % 1=0:=Int.emod_one _
  by_cases h1:a<=k/\k<c
  ·rw [if_pos h1,if_pos (by rw [e0];simp;lia)]
  ·rw [if_neg h1,if_neg (by rw [e0];simp;lia)]
 ·intro s' hq
  exact wpAny_bind (wpAny_letGo (wpAny_pure ⟨.none,rfl,hq⟩))
end
section
variable {X:Cx}
def ZmX (to:TE) (tl th:TO):TS:=fun D σ H=>to σ H fun x H1=>tl σ H1 fun lo H2=>th σ H2 fun hi H3=>∃(l:Addr) (xs:List V) (a c:Int),x = .ref l/\lo=some a/\hi=some c/\H3 l=some (.lst xs)/\0<=a/\a<=c/\c<=xs.length/\D.nx σ (upd H3 l (.lst (xs.take a.toNat++xs.drop c.toNat)))
theorem Zkv {o:Expr}{lo hi:Option Expr}{to:TE}{tl th:TO}{p2 p3 pos:Pos} (ho:PE X o to) (hl:PO X lo tl) (hu:PO X hi th):PS X (.Delete [.Subscript o (.Slice lo hi none p2) p3] pos) (ZmX to tl th):=by
 intro pins s σ H D I h
 refine wpAny_Delete (wpAny_deleteEach_cons ?_)
 rw [arm_delete_Subscript]
 refine wpAny_bind (YR (ho pins s σ H _ I h) fun ov s1 ⟨x,H1,I1,r1,q1⟩=>?_)
 refine wpAny_bind (wpAny_holding (wpAny_Slice (YR (hl pins s1 σ H1 _ I1 q1) fun vl s2 ⟨l',H2,I2,pl,q2⟩=>YR (hu pins s2 σ H2 _ I2 q2) fun vu s3 ⟨u',H3,I3,pu,q3⟩=>?_)))
 rw [evalPart_none]
 refine wpAny_pure ?_
 have I4:Inv X pins σ H3 { s3 with heap:=s3.heap.push { cls:=.type "slice", data:=.fields #[vl,vu,.none] } }:=I3.kept (t':=s3.toks) fun b ob q=>Heap.get?_push_of_some _ q
 obtain ⟨l,xs,a,c,rfl,rfl,rfl,hx,h0,hac,hc,q⟩:=q3
 cases r1
 obtain ⟨z,its,n,r,hlen,e⟩:=I4.lstM hx
 obtain ⟨a',rfl⟩:=Int.eq_ofNat_of_zero_le h0
 obtain ⟨c',rfl⟩:=Int.eq_ofNat_of_zero_le (Int.le_trans h0 hac)
 simp only [Int.toNat_natCast] at q
 refine wpAny_bind (wpAny_standAt (wpAny_bind (wpAny_holding (ZeM (a:=a') (c:=c') e (Heap.IsSliceOf.new ..) pl pu (by lia) (by lia) (by lia) fun f hf=>?_))))
 refine wpAny_release (wpAny_deleteEach_nil ?_)
 refine ⟨σ,_,I4.lset (its':=its.take a'++its.drop c') (t':=s3.toks) hx e hf (Vals.append (r.take _) (r.drop _)) ?_,q⟩
 rw [List.length_append,List.length_take,List.length_drop]
 lia
end
theorem GV {K:PySem.W.Frag}{a:Addr}{xs:List V}{g:TG}{tb:TS}{D:Ends} {σ:St}{H:Hp} (Pv:Nat->St->Hp->Prop) (h0:Pv 0 σ H) (hl:∀i σ H,i<=xs.length->Pv i σ H->Zu K H a xs)
  (hs:∀i x p σ H,xs[i]? = some x->Pv i σ H->H p=none->g (.ref p) σ (upd H p (.tup [.int i,x])) fun σ2 H2=>tb { D with nx:=Pv (i+1),ct:=Pv (i+1),bk:=D.nx } σ2 H2) (hd:∀ σ H,Pv xs.length σ H->D.nx σ H):
  ∃W:Nat->Nat->St->Hp->Prop,(∃m,W 0 m σ H) /\ ∀i m σ H,W i m σ H ->
   ((Ite K a).stop i H/\D.nx σ H)∨((Ite K a).go i H /\ ∃N:St->Hp->Prop,(∀ σ' H',N σ' H' -> ∃m',m'<m/\W (i+1) m' σ' H') /\ ∀x H',(Ite K a).yld i H x H'->g x σ H' fun σ2 H2=>tb { D with nx:=N,ct:=N,bk:=D.nx } σ2 H2):=by
 refine ⟨fun i m σ H=>m=xs.length-i/\i<=xs.length/\Pv i σ H,⟨xs.length,by simp,Nat.zero_le _,h0⟩,?_⟩
 rintro i m σ H ⟨rfl,hi,p⟩
 have q:=hl i σ H hi p
 by_cases hlt:i<xs.length
 ·refine .inr ⟨⟨xs,xs[i],q,by simp [hlt]⟩,Pv (i+1),fun σ' H' p'=>⟨xs.length-(i+1),by lia,rfl,hlt,p'⟩,fun x H' y=>?_⟩
  obtain ⟨r,z,e1,e2,e3,y⟩:=y
  subst e1 e3
  exact hs i z r σ _ (y xs q) p e2
 ·have e:i=xs.length:=by lia
  subst e
  exact .inl ⟨⟨xs,q,Nat.le_refl _⟩,hd σ H p⟩
def Uh (r:List Int) (k:Nat):List Int:=(r.set k (r.getD (k+1) 0)).set (k+1) (r.getD k 0)
def stp (s:List Int×Int) (p:Str×Int):List Int×Int:=
 if p.1 = "born" then (s.1.take p.2.toNat ++ [s.2,s.2+1]++s.1.drop p.2.toNat,s.2+2) else if p.1 = "cross" then (Uh s.1 p.2.toNat,s.2) else (s.1.take p.2.toNat++s.1.drop (p.2.toNat+2),s.2)
def rb (ls:List (Str×Int)):List Int×Int:=ls.foldl stp ([],0)
theorem YI (ls:List (Str×Int)) (p:Str×Int):rb (ls ++ [p])=stp (rb ls) p:=by
 unfold rb
 rw [List.foldl_append]
 rfl
theorem W0 {s:List Int×Int}{k:Int}:stp s ("born", k)=(s.1.take k.toNat ++ [s.2,s.2+1]++s.1.drop k.toNat,s.2+2):=if_pos rfl
theorem nb1:¬(("cross" : Str) = "born"):=by decide +kernel
theorem nb2:¬(("end" : Str) = "born"):=by decide +kernel
theorem nb3:¬(("end" : Str) = "cross"):=by decide +kernel
theorem J1 {s:List Int×Int}{k:Int}:stp s ("cross", k)=(Uh s.1 k.toNat,s.2):=(if_neg nb1).trans (if_pos rfl)
theorem GX {s:List Int×Int}{k:Int}:stp s ("end", k)=(s.1.take k.toNat++s.1.drop (k.toNat+2),s.2):=(if_neg nb2).trans (if_neg nb3)
theorem ZaD {ls:List (Str×Int)}{n:Int} (h:Wk ls n):((rb ls).1.length:Int)=n:=by
 induction h with
 | nil=>rfl
 | born h h0 h1 ih=>
  rw [YI,W0]
  simp only [List.length_append,List.length_take,List.length_drop,List.length_cons,List.length_nil]
  lia
 | cross h h0 h1 ih=>
  rw [YI,J1]
  simp only [Uh,List.length_set]
  exact ih
 | fin h h0 h1 ih=>
  rw [YI,GX]
  simp only [List.length_append,List.length_take,List.length_drop]
  lia
theorem UC {α:Type}{a b:List α}{x y:α} (h:a ++ [x]=b ++ [y]):a=b/\x=y:=by
 have h1:=List.append_inj' h rfl
 exact ⟨h1.1,by simpa using h1.2⟩
theorem Znh {l:List (Str×Int)}{p:Str×Int}{m:Int} (h:Wk (l ++ [p]) m):∃n,Wk l n/\((p.1 = "born" /\ 0<=p.2/\p.2<=n)∨(p.1 = "cross" /\ 0<=p.2/\p.2+1<n)∨(p.1 = "end" /\ 0<=p.2/\p.2+1<n)):=by
 generalize hq:l ++ [p]=q at h
 cases h with
 | nil=>exact absurd hq (by simp)
 | born h h0 h1=>obtain ⟨rfl,rfl⟩:=UC hq;exact ⟨_,h,.inl ⟨rfl,h0,h1⟩⟩
 | cross h h0 h1=>obtain ⟨rfl,rfl⟩:=UC hq;exact ⟨_,h,.inr (.inl ⟨rfl,h0,h1⟩)⟩
 | fin h h0 h1=>obtain ⟨rfl,rfl⟩:=UC hq;exact ⟨_,h,.inr (.inr ⟨rfl,h0,h1⟩)⟩
theorem Zbc {ls:List (Str×Int)}{n:Int} (h:Wk ls n):∀i,∃m,Wk (ls.take i) m:=by
 induction h with
 | nil=>intro i;exact ⟨0,by simpa using Wk.nil⟩
 | @born l n k h h0 h1 ih=>
  intro i
  by_cases hi:i<=l.length
  ·rw [List.take_append_of_le_length hi];exact ih i
  ·rw [List.take_of_length_le (by rw [List.length_append,List.length_singleton];lia)];exact ⟨_,Wk.born h h0 h1⟩
 | @cross l n k h h0 h1 ih=>
  intro i
  by_cases hi:i<=l.length
  ·rw [List.take_append_of_le_length hi];exact ih i
  ·rw [List.take_of_length_le (by rw [List.length_append,List.length_singleton];lia)];exact ⟨_,Wk.cross h h0 h1⟩
 | @fin l n k h h0 h1 ih=>
  intro i
  by_cases hi:i<=l.length
  ·rw [List.take_append_of_le_length hi];exact ih i
  ·rw [List.take_of_length_le (by rw [List.length_append,List.length_singleton];lia)];exact ⟨_,Wk.fin h h0 h1⟩
theorem ZeP {ls:List (Str×Int)}{n:Int} (h:Wk ls n) {i:Nat}{p:Str×Int} (hp:ls[i]? = some p):
  ls.take (i+1)=ls.take i ++ [p]/\((p.1 = "born" /\ 0<=p.2/\p.2<=((rb (ls.take i)).1.length:Int))∨(p.1 = "cross" /\ 0<=p.2/\p.2+1<((rb (ls.take i)).1.length:Int))∨(p.1 = "end" /\ 0<=p.2/\p.2+1<((rb (ls.take i)).1.length:Int))):=by
 have e:ls.take (i+1)=ls.take i ++ [p]:=by rw [List.take_add_one,hp];rfl
 refine ⟨e,?_⟩
 obtain ⟨m,hm⟩:=Zbc h (i+1)
 rw [e] at hm
 obtain ⟨n',hn,c⟩:=Znh hm
 rw [ZaD hn]
 exact c
def YQ (H:Hp) (xs:List V) (rs:List (List Int)):Prop:=Paired (fun x (r:List Int)=>∃t,x=V.ref t/\H t=some (.lst (r.map V.int))) xs rs
theorem YQ.mono {H H':Hp} (h:∀t o,V.ref t∈xs->H t=some o->H' t=some o) {rs:List (List Int)} (r:YQ H xs rs):YQ H' xs rs:=by
 unfold YQ at *
 induction r with
 | nil=>exact .nil
 | cons a t ih=>
  obtain ⟨q,e,hq⟩:=a
  subst e
  exact .cons ⟨q,rfl,h q _ List.mem_cons_self hq⟩ (ih fun t o ht=>h t o (List.mem_cons_of_mem _ ht))
def rowsOf (ls:List (Str×Int)) (i:Nat):List (List Int):=(List.range i).map fun j=>(rb (ls.take j)).1
theorem ZaI (ls:List (Str×Int)) (i:Nat):rowsOf ls (i+1)=rowsOf ls i ++ [(rb (ls.take i)).1]:=by
 unfold rowsOf
 rw [List.range_succ,List.map_append]
 rfl
theorem YQ.mem {H:Hp}{xs:List V}{rs:List (List Int)} (r:YQ H xs rs) {t:Addr} (h:V.ref t∈xs):∃q:List Int,H t=some (.lst (q.map V.int)):=by
 unfold YQ at r
 induction r with
 | nil=>cases h
 | cons a _ ih=>
  obtain ⟨q,e,hq⟩:=a
  rcases List.mem_cons.mp h with z | z
  ·rw [e] at z
   have:t=q:=V.ref.inj z
   subst this
   exact ⟨_,hq⟩
  ·exact ih z
theorem YQ.last {H:Hp}{rs:List (List Int)}{r:List Int}:∀{xs:List V} , YQ H xs (rs ++ [r]) -> ∃ys t,xs=ys ++ [V.ref t]/\H t=some (.lst (r.map V.int)):=by
 induction rs with
 | nil=>
  intro xs h
  cases h with
  | cons a b=>
   cases b
   obtain ⟨t,e,q⟩:=a
   exact ⟨[],t,by rw [e];rfl,q⟩
 | cons q rs ih=>
  intro xs h
  cases h with
  | @cons x _ l _ a b=>
   obtain ⟨ys,t,e,q⟩:=ih b
   exact ⟨x::ys,t,by rw [e];rfl,q⟩
theorem YQ.snoc {H:Hp}{xs:List V}{rs:List (List Int)}{t:Addr}{r:List Int} (h:YQ H xs rs) (e:H t=some (.lst (r.map V.int))):YQ H (xs ++ [.ref t]) (rs ++ [r]):=Paired.snoc h ⟨t,rfl,e⟩
theorem YQ.len {H:Hp}{xs:List V}{rs:List (List Int)} (h:YQ H xs rs):xs.length=rs.length:=Paired.length h
theorem Gr {H H' G:Hp}{R w:Addr}{ys:List V}{ls:List (Str×Int)}{i:Nat} (hR:H R=none) (sm:Zi H H') (rv:YQ H' ys (rowsOf ls (i+1))) (ap:∀t,V.ref t∈ys->H t=none/\t≠R) (nd:ys.Nodup) (hw:H' w=none) (hwR:w≠R)
  (k:∀c o,H' c=some o->c≠R->G c=some o) (gw:G w=some (.lst ((rb (ls.take (i+1))).1.map V.int))):
  Zi H G/\YQ G (ys ++ [.ref w]) (rowsOf ls (i+2))/\(∀t,V.ref t∈ys ++ [V.ref w]->H t=none/\t≠R)/\(ys ++ [V.ref w]).Nodup:=by
 refine ⟨fun c o e=>k c o (sm c o e) (Zf e hR),?_,fun t ht=>?_,?_⟩
 ·rw [ZaI]
  exact YQ.snoc (rv.mono fun t o ht e=>k t o e (ap t ht).2) gw
 ·rcases List.mem_append.mp ht with z | z
  ·exact ap t z
  ·have:t=w:=V.ref.inj (List.mem_singleton.mp z)
   subst this
   exact ⟨sm.free hw,hwR⟩
 ·rw [List.nodup_append]
  refine ⟨nd,by simp,fun a ha b hb=>?_⟩
  rw [List.mem_singleton.mp hb]
  intro z
  subst z
  obtain ⟨q,e⟩:=rv.mem ha
  rw [hw] at e
  cases e
theorem U9 {ls:List (Str×Int)}{n:Int} (h:Wk ls n):n<=2*(ls.length:Int):=by
 induction h with
 | nil=>decide
 | born _ _ _ ih=>rw [List.length_append,List.length_singleton];lia
 | cross _ _ _ ih=>rw [List.length_append,List.length_singleton];lia
 | fin _ _ _ ih=>rw [List.length_append,List.length_singleton];lia
theorem Y0 {n j:Nat} (h:j<n):ixN n (j:Int)=some j:=by
 unfold ixN
 rw [if_pos (by lia),if_pos (by lia)]
 simp
theorem ZiE (r:List Int) (k:Nat):((r.map V.int).set k (V.int (r.getD (k+1) 0))).set (k+1) (V.int (r.getD k 0))=(Uh r k).map V.int:=by
 unfold Uh
 rw [List.map_set,List.map_set]
theorem map_getD (r:List Int) {k:Nat} (h:k<r.length):(r.map V.int)[k]? = some (V.int (r.getD k 0)):=by
 rw [List.getElem?_map]
 simp [h]
def ZaR:Sp:=fun vs H Q _=>∃(l:Addr) (xs:List V) (ls:List (Str×Int)),vs = [.ref l]/\H l=some (.lst xs)/\ZI H xs ls/\ls.length<=60/\Wk ls 0 /\ ∀(p:Addr) (H':Hp) (ys:List V),H p=none->Zi H H'->H' p=some (.lst ys)->YQ H' ys (rowsOf ls (ls.length+1))->(∀t,V.ref t∈ys->H t=none/\t≠p)->ys.Nodup->Q (.ref p) H'
theorem Zlp {α:Type} (r:List α) (k:Nat) (x y:α) (h:k<=r.length):(r.take k++y::r.drop k).take k++x::(r.take k++y::r.drop k).drop k=r.take k ++ [x,y]++r.drop k:=by
 have hl:(r.take k).length=k:=by rw [List.length_take];lia
 have e1:(r.take k++y::r.drop k).take k=r.take k:=by
  have:=List.take_left' (l₂:=y::r.drop k) hl
  exact this
 have e2:(r.take k++y::r.drop k).drop k=y::r.drop k:=List.drop_left' hl
 rw [e1,e2]
 simp
theorem Zmr {α:Type} (r:List α) (k:Nat):(r.eraseIdx k).eraseIdx k=r.take k++r.drop (k+2):=by
 induction r generalizing k with
 | nil=>simp
 | cons x r ih=>
  cases k with
  | zero=>cases r<;>simp
  | succ k=>
   rw [List.eraseIdx_cons_succ,List.eraseIdx_cons_succ,ih]
   simp
theorem Zfh {n j:Nat} (h:j<n):seqIndex? (j:Int) n=some j:=by
 unfold seqIndex?
 have h0:¬((j:Int)<0):=by lia
 simp [h0,h]
section
variable {κ:Type} [DecidableEq κ]
def JI (kvs:List (κ × V)) (k:κ):Option V:=(kvs.find? fun kv=>decide (kv.1=k)).map (·.2)
def putK (kvs:List (κ × V)) (k:κ) (v:V):List (κ × V):=
 if (kvs.any fun kv=>decide (kv.1=k))=true then kvs.map (fun kv=>if kv.1=k then (kv.1,v) else kv) else kvs ++ [(k,v)]
theorem YX {p:κ × V}{r:List (κ × V)}{k:κ} (e:p.1=k):JI (p::r) k=some p.2:=by simp [JI,List.find?_cons,e]
theorem YY {p:κ × V}{r:List (κ × V)}{k:κ} (e:¬p.1=k):JI (p::r) k=JI r k:=by simp [JI,List.find?_cons,e]
theorem Zas (k:κ):∀kvs:List (κ × V),(kvs.any fun kv=>decide (kv.1=k))=(JI kvs k).isSome
 | []=>rfl
 | p::r=>by
  rw [List.any_cons]
  by_cases e:p.1=k
  ·simp only [YX e,decide_eq_true e,Bool.true_or,Option.isSome_some]
  ·rw [YY e,decide_eq_false e,Bool.false_or];exact Zas k r
theorem Zg3 (k j:κ) (y:V):∀kvs:List (κ × V),JI (kvs.map fun kv=>if kv.1=k then (kv.1,y) else kv) j=(JI kvs j).map fun x=>if j=k then y else x
 | []=>rfl
 | p::r=>by
  have ih:=Zg3 k j y r
  rw [List.map_cons]
  by_cases h:p.1=k
  ·rw [if_pos h]
   by_cases e:p.1=j
   ·rw [YX (p:=(p.1,y)) e,YX e,Option.map_some,if_pos (e.symm.trans h)]
   ·rw [YY (p:=(p.1,y)) e,YY e,ih]
  ·rw [if_neg h]
   by_cases e:p.1=j
   ·rw [YX (p:=p) e,YX e,Option.map_some,if_neg (fun z=>h (e.trans z))]
   ·rw [YY (p:=p) e,YY e,ih]
theorem Ze0 (k j:κ) (y:V):∀kvs:List (κ × V),JI kvs k=none->JI (kvs ++ [(k,y)]) j=if j=k then some y else JI kvs j
 | [],_=>by
  by_cases e:k=j
  ·rw [if_pos e.symm];exact YX (p:=(k,y)) e
  ·rw [if_neg (fun z=>e z.symm)];exact YY (p:=(k,y)) e
 | p::r,hn=>by
  rw [List.cons_append]
  have hk:¬p.1=k:=fun z=>by rw [YX z] at hn;cases hn
  rw [YY hk] at hn
  have ih:=Ze0 k j y r hn
  by_cases e:p.1=j
  ·rw [YX e,YX e,if_neg (fun z=>hk (e.trans z))]
  ·rw [YY e,YY e,ih]
theorem Zef (kvs:List (κ × V)) (k j:κ) (y:V):JI (putK kvs k y) j=if j=k then some y else JI kvs j:=by
 unfold putK
 by_cases a:(kvs.any fun kv=>decide (kv.1=k))=true
 ·rw [if_pos a,Zg3]
  rw [Zas] at a
  by_cases e:j=k
  ·obtain ⟨x,hx⟩:=Option.isSome_iff_exists.mp a
   rw [if_pos e,e,hx,Option.map_some,if_pos rfl]
  ·rw [if_neg e]
   cases JI kvs j with
   | none=>rfl
   | some x=>rw [Option.map_some,if_neg e]
 ·rw [if_neg a]
  refine Ze0 k j y kvs ?_
  rw [Zas] at a
  cases q:JI kvs k with
  | none=>rfl
  | some x=>rw [q] at a;exact (a rfl).elim
theorem WO (kvs:List (κ × V)) (k:κ) (v:V):(putK kvs k v).length<=kvs.length+1:=by
 unfold putK
 split
 ·rw [List.length_map];lia
 ·rw [List.length_append,List.length_cons,List.length_nil];lia
theorem Zd6 {kvs:List (κ × V)}{k:κ} (v:V) (h:JI kvs k=none):putK kvs k v=kvs ++ [(k,v)]:=by
 unfold putK
 rw [Zas,h]
 exact if_neg (by decide)
theorem ZcJ.isSome_eq {o:Option V}{u:Option Value} (r:ZcJ o u):o.isSome=u.isSome:=by
 cases o with
 | none=>cases u with
  | none=>rfl
  | some _=>exact (show False from r).elim
 | some _=>cases u with
  | none=>exact (show False from r).elim
  | some _=>rfl
theorem ZcJ.getD {o:Option V}{u:Option Value}{d:V}{d':Value} (r:ZcJ o u) (rd:RelV d d'):RelV (o.getD d) (u.getD d'):=by
 cases o with
 | none=>cases u with
  | none=>exact rd
  | some _=>exact (show False from r).elim
 | some _=>cases u with
  | none=>exact (show False from r).elim
  | some _=>exact r
theorem KV.val {kvs:List (κ × V)}{vs:List (κ × Value)} (r:KV kvs vs) (k:κ):ZcJ (JI kvs k) (valueAt vs k):=by
 unfold KV at r
 induction r with
 | nil=>exact True.intro
 | @cons p q ps qs h t ih=>
  obtain ⟨h1,h2⟩:=h
  by_cases e:p.1=k
  ·have e':q.1=k:=h1.symm.trans e
   have b:valueAt (q::qs) k=some q.2:=by simp [valueAt,List.find?_cons,e']
   rw [YX e,b];exact h2
  ·have e':¬q.1=k:=fun z=>e (h1.trans z)
   have b:valueAt (q::qs) k=valueAt qs k:=by simp [valueAt,List.find?_cons,e']
   rw [YY e,b];exact ih
theorem KV.any {kvs:List (κ × V)}{vs:List (κ × Value)} (r:KV kvs vs) (k:κ):(kvs.any fun kv=>decide (kv.1=k))=vs.any fun kv=>decide (kv.1=k):=by
 unfold KV at r
 induction r with
 | nil=>rfl
 | cons h t ih=>rw [List.any_cons,List.any_cons,ih,h.1]
theorem KV.repl {kvs:List (κ × V)}{vs:List (κ × Value)} (r:KV kvs vs) (k:κ) {y:V}{u:Value} (ry:RelV y u):
  KV (kvs.map fun kv=>if kv.1=k then (kv.1,y) else kv) (vs.map fun kv=>if kv.1=k then (kv.1,u) else kv):=by
 unfold KV at r ⊢
 induction r with
 | nil=>exact .nil
 | @cons p q ps qs h t ih=>
  rw [List.map_cons,List.map_cons]
  refine .cons ?_ ih
  obtain ⟨h1,h2⟩:=h
  by_cases e:p.1=k
  ·rw [if_pos e,if_pos (h1.symm.trans e)];exact ⟨h1,ry⟩
  ·rw [if_neg e,if_neg (fun z=>e (h1.trans z))];exact ⟨h1,h2⟩
theorem KV.put {kvs:List (κ × V)}{vs:List (κ × Value)} (r:KV kvs vs) (k:κ) {y:V}{u:Value} (ry:RelV y u):KV (putK kvs k y) (stored vs k u):=by
 unfold putK stored
 rw [r.any k]
 by_cases e:(vs.any fun kv=>decide (kv.1=k))=true
 ·rw [if_pos e,if_pos e];exact r.repl k ry
 ·rw [if_neg e,if_neg e];exact Paired.snoc r ⟨rfl,ry⟩
theorem KV.length {kvs:List (κ × V)}{vs:List (κ × Value)} (r:KV kvs vs):kvs.length=vs.length:=Paired.length r
end
theorem Zfd {P:Program}{w:World}{k:Key}{u:Value} (r:RelV (kV k) u):(Z7 P w).is k u=true:=by
 cases k with
 | inl i=>obtain ⟨t,e⟩:=(show ∃t,u=Value.int i t from r);subst e;exact Zhb P w i t
 | inr x=>obtain ⟨t,e⟩:=(show ∃t,u=Value.str x t from r);subst e;exact ZgL P w x t
theorem Zfk {P:Program}{w:World}:∀{ks:List Key}{us:List Value},Vals (ks.map kV) us->ItemsAre (Z7 P w) ks us
 | [],_,r=>by rw [List.map_nil] at r;cases r;exact .nil
 | k::ks,_,r=>by
  rw [List.map_cons] at r
  cases r with
  | cons h t=>exact .cons (Zfd h) (Zfk t)
abbrev KT (H:Hp):List (List Key×V)->List (List Key×Addr×Value)->Prop:=Paired fun p q=>p.1=q.1/\H q.2.1=some (.tup (p.1.map kV))/\RelV p.2 q.2.2
theorem KT.val {H:Hp}{kvs:List (List Key×V)}{xs:List (List Key×Addr×Value)} (r:KT H kvs xs) (k:List Key):ZcJ (JI kvs k) ((atKey xs k).map (·.2)):=by
 induction r with
 | nil=>exact True.intro
 | @cons p q ps qs h t ih=>
  obtain ⟨h1,_,h2⟩:=h
  by_cases e:p.1=k
  ·have e':q.1=k:=h1.symm.trans e
   have b:atKey (q::qs) k=some q.2:=by simp [atKey,List.find?_cons,e']
   rw [YX e,b];exact h2
  ·have e':¬q.1=k:=fun z=>e (h1.trans z)
   have b:atKey (q::qs) k=atKey qs k:=by simp [atKey,List.find?_cons,e']
   rw [YY e,b];exact ih
theorem KT.repl {H:Hp}{kvs:List (List Key×V)}{xs:List (List Key×Addr×Value)} (r:KT H kvs xs) (k:List Key) {y:V}{u:Value} (ry:RelV y u):
  KT H (kvs.map fun kv=>if kv.1=k then (kv.1,y) else kv) (xs.map (putAt k u)):=by
 induction r with
 | nil=>exact .nil
 | @cons p q ps qs h t ih=>
  rw [List.map_cons,List.map_cons]
  refine .cons ?_ ih
  obtain ⟨h1,h2,h3⟩:=h
  unfold putAt
  by_cases e:p.1=k
  ·rw [if_pos e,if_pos (h1.symm.trans e)];exact ⟨h1,h2,ry⟩
  ·rw [if_neg e,if_neg (fun z=>e (h1.trans z))];exact ⟨h1,h2,h3⟩
theorem KT.put {H:Hp}{kvs:List (List Key×V)}{xs:List (List Key×Addr×Value)} (r:KT H kvs xs) (k:List Key) {b:Addr}{y:V}{u:Value} (hb:H b=some (.tup (k.map kV))) (ry:RelV y u):
  KT H (putK kvs k y) (storedH xs k b u):=by
 have e:(kvs.any fun kv=>decide (kv.1=k))=(atKey xs k).isSome:=by
  rw [Zas,(r.val k).isSome_eq,Option.isSome_map]
 unfold putK storedH
 rw [e]
 by_cases q:(atKey xs k).isSome=true
 ·rw [if_pos q,if_pos q];exact r.repl k ry
 ·rw [if_neg q,if_neg q];exact Paired.snoc r ⟨rfl,hb,ry⟩
theorem KT.keeps {H H':Hp}{kvs:List (List Key×V)}{xs:List (List Key×Addr×Value)} (r:KT H kvs xs) (ht:∀b ys,H b=some (.tup ys)->H' b=some (.tup ys)):KT H' kvs xs:=
 Paired.mapP r fun _ _ z=>⟨z.1,ht _ _ z.2.1,z.2.2⟩
section
variable {P:Program}{w:World}{H:Hp}{h:Heap}{a:Addr}
theorem ZmH {u:HO} (ok:UL P w H h) (e:Rd H a u):Yt P w H h a u:=e.ok ok
theorem Ze8 {kvs:List (Key×V)} (ok:UL P w H h) (e:Rd H a (.dK kvs)):kvs.length<=sizeLine/\(a==sysModules)=false /\ ∃vs,KV kvs vs/\h.DictOf (Z7 P w) a vs:=
 show Yt P w H h a (.dK kvs) from ZmH ok e
theorem Zkd {kvs:List (Key×V)} (ok:UL P w H h) (e:H a=some (.dK kvs)):kvs.length<=sizeLine/\(a==sysModules)=false /\ ∃vs,KV kvs vs/\h.DictOf (Z7 P w) a vs:=Ze8 ok (.inl e)
theorem Zd2 {ks:List Key} (ok:UL P w H h) (e:H a=some (.tup (ks.map kV))):(tupleKind (Z7 P w)).is h ks a:=by
 obtain ⟨_,its,r,o,h1,h2,n,h3⟩:=(show Yt P w H h a (.tup (ks.map kV)) from ok a _ e)
 exact ⟨o,its.toArray,n,h1,h2,h3,by simpa using Zfk r⟩
theorem Ze7 {kvs:List (List Key×V)} (ok:UL P w H h) (e:Rd H a (.dT kvs)):kvs.length<=sizeLine/\(a==sysModules)=false /\
  ∃xs,KT H kvs xs/\h.DictOfH (tupleKind (Z7 P w)) a xs:=by
 obtain ⟨z,y,xs,r,o,es,ep,h1,h2,h3,h4,h5⟩:=(show Yt P w H h a (.dT kvs) from ZmH ok e)
 refine ⟨z,y,xs,r,o,es,ep,h1,h2,h3,h4,fun x hx=>?_,h5⟩
 have all:∀{l:List (List Key×V)}{m:List (List Key×Addr×Value)},KT H l m -> ∀x∈m,(tupleKind (Z7 P w)).is h x.1 x.2.1:=by
  intro l m q
  induction q with
  | nil=>intro x hx;exact nomatch hx
  | @cons p q ps qs hq t ih=>
   intro x hx
   rcases List.mem_cons.mp hx with e | hx
   ·subst e
    exact Zd2 ok (by rw [<- hq.1];exact hq.2.1)
   ·exact ih x hx
 exact all r x hx
theorem Zor {kvs:List (List Key×V)} (ok:UL P w H h) (e:H a=some (.dT kvs)):kvs.length<=sizeLine/\(a==sysModules)=false /\
  ∃xs,KT H kvs xs/\h.DictOfH (tupleKind (Z7 P w)) a xs:=Ze7 ok (.inl e)
end
def Zbi (H:Hp) (a:Addr) (y:V) (r:Option V):Prop:=
 (∃kvs k,Rd H a (.dK kvs)/\y=kV k/\r=JI kvs k) ∨ ∃kvs k b,Rd H a (.dT kvs)/\y = .ref b/\H b=some (.tup (k.map kV))/\r=JI kvs k
def ZgG (H:Hp) (a:Addr) (y v:V) (H':Hp):Prop:=
 (∃kvs k,H a=some (.dK kvs)/\y=kV k/\kvs.length<sizeLine/\H'=upd H a (.dK (putK kvs k v))) ∨
 ∃kvs k b,H a=some (.dT kvs)/\y = .ref b/\H b=some (.tup (k.map kV))/\kvs.length<sizeLine/\H'=upd H a (.dT (putK kvs k v))
theorem Zbi.k {H:Hp}{a:Addr}{kvs:List (Key×V)}{k:Key} (e:H a=some (.dK kvs)):Zbi H a (kV k) (JI kvs k):=.inl ⟨kvs,k,.inl e,rfl,rfl⟩
theorem ZgG.k {H:Hp}{a:Addr}{kvs:List (Key×V)}{k:Key}{v:V} (e:H a=some (.dK kvs)) (hl:kvs.length<sizeLine):ZgG H a (kV k) v (upd H a (.dK (putK kvs k v))):=.inl ⟨kvs,k,e,rfl,hl,rfl⟩
section
variable {X:Cx}{pins:List (Addr×Obj)} {σ:St}{H:Hp}{s:Shared}{a:Addr}{y v:V}{u r:Value}{o:Option V}{A:Around}{E:Value->Shared->Prop}
theorem Inv.big (I:Inv X pins σ H s):sysModules<s.heap.objs.size:=by
 have h:mainGlobals<s.heap.objs.size:=(I.mod.glob.keeps I.bk).lt
 exact Nat.lt_trans (by decide) h
theorem Zjk {Q:Value->Shared->Prop} (hu:A.units+1<cLine) (I:Inv X pins σ H s) (g:Zbi H a y (some v)) (ry:RelV y u) (h:∀w' s',Inv X pins σ H s'->RelV v w'->Q w' s'):
  wpAny (model X.prog X.w) A (getItem (.ref a) u) Q E s:=by
 rcases g with ⟨kvs,k,e,ey,l⟩ | ⟨kvs,k,b,e,ey,eb,l⟩
 ·subst ey
  obtain ⟨z,hd,vs,rel,dd⟩:=Ze8 I.hok e
  obtain ⟨w',hw,rw'⟩:=ZcJ.some_of (v:=v) (o:=valueAt vs k) (by rw [l];exact rel.val k)
  exact wpAny_getItem_of (Zfd ry) dd.mapOf hw (h w' _ (I.tok _) rw')
 ·subst ey
  cases (show u=Value.ref b from ry)
  obtain ⟨z,hd,xs,rel,dd⟩:=Ze7 I.hok e
  obtain ⟨w',hw,rw'⟩:=ZcJ.some_of (v:=v) (o:=(atKey xs k).map (·.2)) (by rw [l];exact rel.val k)
  obtain ⟨p,hp,hp2⟩:=Option.map_eq_some_iff.mp hw
  refine wpAny_getItem_heap (tupleKind_room_in1 hu) (Zd2 I.hok eb) dd hp ?_
  rw [hp2]
  exact h w' _ (I.tok _) rw'
theorem Zo9 {Q:Value->Shared->Prop} (hu:A.units+1<cLine) (I:Inv X pins σ H s) (g:Zbi H a y o) (ry:RelV y u) (h:∀s',Inv X pins σ H s'->Q (.bool o.isSome) s'):
  wpAny (model X.prog X.w) A (compareOp .In u (.ref a)) Q E s:=by
 rcases g with ⟨kvs,k,e,ey,l⟩ | ⟨kvs,k,b,e,ey,eb,l⟩
 ·subst ey
  obtain ⟨z,hd,vs,rel,dd⟩:=Ze8 I.hok e
  refine wpAny_in_of (Zfd ry) hd dd.mapOf ?_
  rw [<- (rel.val k).isSome_eq,<- l]
  exact h _ (I.tok _)
 ·subst ey
  cases (show u=Value.ref b from ry)
  obtain ⟨z,hd,xs,rel,dd⟩:=Ze7 I.hok e
  refine wpAny_in_heap (tupleKind_room_in1 hu) (Zd2 I.hok eb) hd dd ?_
  have q:=(rel.val k).isSome_eq
  rw [Option.isSome_map] at q
  rw [<- q,<- l]
  exact h _ (I.tok _)
theorem Zf5 {h':Heap}{t':Nat}{ob:HO} (I:Inv X pins σ H s) (mu:Mut (H a)) (hs:Heap.SameBut a s.heap h') (he:∃q,h'.get? a=some q) (new:Yt X.prog X.w (upd H a ob) h' a ob):
  Inv X pins σ (upd H a ob) { s with heap:=h',toks:=t' }:=
 I.write (x:=a) (e:=a) mu (.inl rfl) (fun b q hb z=>(hs.2 b hb).trans z) he new
theorem Zhw {P:Program}{w:World}{H':Hp}{h':Heap}{kvs:List (Key×V)}{vs:List (Key×Value)} (z:kvs.length<=sizeLine) (hd:(a==sysModules)=false) (rel:KV kvs vs) (dd:h'.DictOf (Z7 P w) a vs):
  Yt P w H' h' a (.dK kvs):=⟨z,hd,vs,rel,dd⟩
theorem Zjo {H':Hp}{Q:Unit->Shared->Prop} (hu:A.units+1<cLine) (I:Inv X pins σ H s) (g:ZgG H a y v H') (ry:RelV y u) (rv:RelV v r) (h:∀s',Inv X pins σ H' s'->Q () s'):
  wpAny (model X.prog X.w) A (setItem (.ref a) u r) Q E s:=by
 rcases g with ⟨kvs,k,e,ey,l,eH⟩ | ⟨kvs,k,b,e,ey,eb,l,eH⟩
 ·subst ey eH
  obtain ⟨z,hd,vs,rel,dd⟩:=Zkd I.hok e
  have hz:vs.length<=sizeLine:=by rw [<- rel.length];exact z
  have hl:(putK kvs k v).length<=sizeLine:=by have:=WO kvs k v;lia
  refine wpAny_setItem_pairs (hsz:=hz) (Zfd ry) dd fun h' dd' hs=>h _ ?_
  have he:∃q,h'.get? a=some q:=let ⟨q,_,_,hq,_⟩:=dd';⟨q,hq⟩
  exact Zf5 I (by rw [e];exact True.intro) hs he (Zhw hl hd (rel.put k rv) dd')
 ·subst ey eH
  cases (show u=Value.ref b from ry)
  obtain ⟨z,hd,xs,rel,dd⟩:=Zor I.hok e
  have hz:xs.length<=sizeLine:=by rw [<- Paired.length rel];exact z
  have hl:(putK kvs k v).length<=sizeLine:=by have:=WO kvs k v;lia
  refine wpAny_setItem_heap (hsz:=hz) (tupleKind_room_in1 hu) (Zd2 I.hok eb) dd fun h' dd' hs=>h _ ?_
  obtain ⟨q,es,ep,hq,h2,h3,h4,_,h5⟩:=dd'
  refine Zf5 I (by rw [e];exact True.intro) hs ⟨q,hq⟩ ⟨hl,hd,_,(rel.put k eb rv).keeps fun c ys ec=>?_,q,es,ep,hq,h2,h3,h4,h5⟩
  rw [Zj (Zd1 ec e (fun z=>nomatch z))]
  exact ec
end
theorem ZgD {X:Cx}{pins:List (Addr×Obj)} {σ:St}{H:Hp}{s:Shared}{a:Addr}{y:V}{o:Option V} (I:Inv X pins σ H s) (g:Zbi H a y o):s.TypeIs (.ref a) "dict" := by
 rcases g with ⟨kvs,k,e,_,_⟩ | ⟨kvs,k,b,e,_,_,_⟩
 ·obtain ⟨_,_,vs,_,dd⟩:=Ze8 I.hok e
  exact dd.typeIs
 ·obtain ⟨_,_,xs,_,dd⟩:=Ze7 I.hok e
  exact dd.typeIs
def Zkm (ty td:TE):TE:=fun σ H Q=>ty σ H fun y H1=>td σ H1 fun x H2=>∃a o,x = .ref a/\Zbi H2 a y o/\Q (.bl o.isSome) H2
section
variable {X:Cx}{o i e value:Expr}{pos pos' tpos:Pos}{td ty tv:TE}
theorem Zf6 (hu:X.A.units+1<cLine) (hi:PE X i ty) (ho:PE X o td):PC X .In i o (Zkm ty td):=by
 intro pins s σ H Q I h
 refine YR (hi pins s σ H _ I h) fun iv s1 ⟨y,H1,I1,ry,q1⟩=>YR (ho pins s1 σ H1 _ I1 q1) fun u s2 ⟨x,H2,I2,rx,a,ov,ex,g,q2⟩=>?_
 subst ex
 obtain rfl:u=Value.ref a:=rx
 exact Zo9 hu I2 g ry fun s3 I3=>⟨.bl ov.isSome,H2,I3,rfl,q2⟩
end
theorem ZgC {P:Program}{w:World}{H:Hp} (h:Heap) (hb:sysModules<h.objs.size):Yt P w H (h.push { cls:=.type "dict", data:=.dict #[] }) h.objs.size (.dK []):=
 ⟨Nat.zero_le _,beq_eq_false_iff_ne.mpr (Ne.symm (Nat.ne_of_lt hb)),[],.nil,Heap.DictOf.new h⟩
def Zm0:TE:=fun _ H Q=>∀p,H p=none->Q (.ref p) (upd H p (.dK []))
section
variable {X:Cx}{pos:Pos}
theorem Zki:PE X (.Dict [] [] pos) Zm0:=fun pins s σ H Q I h=>
 wpAny_Dict_empty ⟨.ref s.heap.objs.size,_,I.laid (a:=s.heap.objs.size) (o:=.dK []) (t':=s.toks) (fun _ _ q=>Heap.get?_push_of_some _ q) (Nat.le_refl _) (ZgC s.heap I.big),rfl,h _ (I.hok.fresh (Nat.le_refl _))⟩
end
theorem Yt.there {P:Program}{w:World}{H:Hp}{h:Heap}{a:Addr}{o:HO} (x:Yt P w H h a o):∃ob,h.get? a=some ob:=by
 cases o with
 | lst xs=>obtain ⟨_,_,_,_,e⟩:=x;exact ⟨_,e⟩
 | tup xs=>obtain ⟨_,_,_,_,e,_⟩:=x;exact ⟨_,e⟩
 | dK kvs=>obtain ⟨_,_,_,_,o,_,_,e,_⟩:=x;exact ⟨_,e⟩
 | dT kvs=>obtain ⟨_,_,_,_,o,_,_,e,_⟩:=x;exact ⟨_,e⟩
 | set S n=>obtain ⟨o,_,_,_,e,_⟩:=x;exact ⟨_,e⟩
 | ins C dx fs=>obtain ⟨_,_,_,e,_⟩:=x;exact ⟨_,e⟩
 | own y=>obtain ⟨_,e⟩:=x;exact ⟨_,e⟩
 | xd fs=>obtain ⟨_,⟨_,_,_,e,_⟩,_⟩:=x;exact ⟨_,e⟩
 | rng lo hi=>obtain ⟨_,_,_,e⟩:=x;exact ⟨_,e⟩
 | frz ob u=>obtain ⟨e,_⟩:=x;exact ⟨_,e⟩
 | tbl ps=>exact ⟨_,x⟩
 | met f y=>exact ⟨_,x⟩
 | ext φ=>obtain ⟨_,⟨_,e⟩,_⟩:=x;exact ⟨_,e⟩
theorem ZjX {h:Heap}{a:Addr}{m m':Str->Option Value} (x:h.Ns a m) (y:h.Ns a m'):m=m':=by
 obtain ⟨o,es,ep,ho,hd,_,hm⟩:=x
 obtain ⟨o',es',ep',ho',hd',_,hm'⟩:=y
 rw [ho] at ho'
 cases ho'
 rw [hd] at hd'
 cases hd'
 exact funext fun n=>(hm n).symm.trans (hm' n)
section
variable {X:Cx}{pins:List (Addr×Obj)} {σ:St}{H:Hp}{s:Shared}
theorem Inv.laidN {h':Heap}{D:Addr}{o:HO}{t':Nat}{m:Str->Option Value} (I:Inv X pins σ H s) (F:Fr X.base X.env.locals s.heap m) (F':Fr X.base X.env.locals h' m)
  (N':News X.base X.env.locals h' (Gh X.base s.heap X.env.locals)) (hD:s.heap.get? D=none) (hn:H D=none) (new:Yt X.prog X.w (upd H D o) h' D o):Inv X pins σ (upd H D o) { s with heap:=h',toks:=t' }:=by
 have kp:∀b u,b≠X.env.locals->s.heap.get? b=some u->h'.get? b=some u:=fun b u hb e=>by
  cases q:X.base.get? b with
  | some v=>
   have e1:=F'.keep b v q
   have e2:=F.keep b v q
   rw [e] at e2
   cases e2
   exact e1
  | none=>exact (N' (b,u) (ZaE hb q e)).1
 have neL:∀b u,H b=some u->b≠X.env.locals:=fun b u e z=>by rw [z,I.free] at e;cases e
 refine I.step (g':=s.gens) (d':=s.drawn) (ch:=[]) (fun _ z=>nomatch z) (fun b ob hb _ _ e _=>kp b ob hb e) (fun b ob hb _ _ e _=>⟨ob.slots,kp b ob hb e⟩) (fun b ob _ e n=>?_) (fun b ob _ e=>?_) (fun b xs e=>?_) (fun b ob u e=>?_) (fun b ps e=>⟨#[],?_⟩) (fun m' hm=>?_) (fun b u e=>?_) I.bare
 ·rw [Zj (fun z=>by subst z;rw [hD] at e;cases e)]
  exact n
 ·by_cases hb:b=X.env.locals
  ·subst hb
   obtain ⟨ob',_,_,z,_⟩:=F'.ns
   exact ⟨ob',z⟩
  ·exact ⟨ob,kp b ob hb e⟩
 ·rw [Zj (Zf e hn)];exact e
 ·rw [Zj (Zf e hn)];exact e
 ·rw [Zj (Zf e hn),e];simp
 ·rw [ZjX hm F.ns];exact F'.ns
 ·by_cases hb:b=D
  ·subst hb;rw [Zd] at e;cases e;exact new
  ·rw [Zj hb] at e
   refine (I.hok b u e).stay (fun c v hc q=>kp c v ?_ q) (fun c q=>by rw [Zj (Zf q hn)];exact q) fun c xs q=>by rw [Zj (Zf q hn)];exact q
   rcases hc with z | z
   ·subst z;exact neL _ u e
   ·exact neL c _ z
end
section
variable {X:Cx}
theorem ZfP (hc:X.calm=true):Jd X (.builtin "sorted") (fun xs H Q=>∃(p:Addr) (kvs:List (Key×V)) (ns:List Int),xs = [.ref p]/\H p=some (.dK kvs)/\kvs.map (·.1)=ns.map Sum.inl/\ns.length<64 /\
  ∀(l:Addr) (ns':List Int),H l=none->ns'.Perm ns->ns'.Pairwise (· <= ·)->Q (.ref l) (upd H l (.lst (ns'.map V.int)))):=by
 intro pins s σ H xs us Q I r h
 obtain ⟨p,kvs,ns,rfl,hp,hk,h64,q⟩:=h
 obtain ⟨u,rfl,ru⟩:=r.one
 cases ru
 obtain ⟨z,hsm,vs,rel,ob,es,ep,hd⟩:=Zkd I.hok hp
 obtain ⟨m,fr⟩:=I.fr
 have lv:kvs.length=vs.length:=Paired.length rel
 have ln:kvs.length=ns.length:=by simpa using congrArg List.length hk
 refine W.kdu_sorted (W.kdl_dict (knd:=Z7 X.prog X.w) (kvs:=vs) (ep:=ep) hsm) (I.ok.hd hc) fr (news:=Gh X.base s.heap X.env.locals) ZgM ⟨ob,es,hd⟩ (by lia) fun D h' tk ws fr' nw' lt' hlen hP=>?_
 have ia:IntsAre ws ns:=by
  have key:∀(ws:List Value) (ns:List Int),ws.length=ns.length->(∀(j:Nat) (v:Value) (n:Int),ws[j]? = some v->ns[j]? = some n -> ∃t,v = .int n t)->IntsAre ws ns:=by
   intro ws
   induction ws with
   | nil=>intro ns hl _;cases ns with
    | nil=>exact .nil
    | cons _ _=>cases hl
   | cons w ws ih=>
    intro ns hl h
    cases ns with
    | nil=>cases hl
    | cons n ns=>
     obtain ⟨t,rfl⟩:=h 0 w n rfl rfl
     exact .cons n t (ih ns (by simpa using hl) fun j v n' e1 e2=>h (j+1) v n' (by simpa using e1) (by simpa using e2))
  refine key ws ns (by lia) fun j v n e1 e2=>?_
  obtain ⟨k,x,e3,e4⟩:=hP j v e1
  have e5:(kvs.map (·.1))[j]? = some k:=by
   have hj:j<kvs.length:=by have:=(List.getElem?_eq_some_iff.mp e3).1;lia
   have key:∀(kvs:List (Key×V)) (vs:List (Key×Value)),KV kvs vs -> ∀j:Nat,(kvs.map (·.1))[j]? = (vs.map (·.1))[j]?:=by
    intro kvs vs rel
    unfold KV at rel
    induction rel with
    | nil=>intro j;rfl
    | cons a _ ih=>
     intro j
     cases j with
     | zero=>simp [a.1]
     | succ j=>simpa using ih j
   rw [key kvs vs rel j,List.getElem?_map,e3]
   rfl
  rw [hk,List.getElem?_map,e2] at e5
  cases e5
  rcases YB (k:=Sum.inl n) (v:=v) e4 with ⟨i,t,z1,z2⟩ | ⟨x',t,z1,z2⟩
  ·cases z1;exact ⟨t,z2⟩
  ·cases z1
 refine W.ksk_lsort (vs:=ws) (its:=ws.toArray) (n:=0) fr' nw' (news':=fun o=>(D,o)::Gh X.base s.heap X.env.locals) (fun o=>.head fun q hq=>Nat.ne_of_lt (lt' q hq)) rfl ia h64 fun vs' ns' c h'' fr'' nw'' ia' hl' perm pw _=>?_
 have hD:s.heap.get? D=none:=by
  have nb:X.base.get? D=none:=(nw' (D,W.listOf ws.toArray 0) List.mem_cons_self).2.2
  have nL:D≠X.env.locals:=(nw' (D,W.listOf ws.toArray 0) List.mem_cons_self).2.1
  cases e:s.heap.get? D with
  | none=>rfl
  | some o=>exact absurd (lt' (D,o) (ZaE nL nb e)) (Nat.lt_irrefl _)
 have fresh:H D=none:=by
  cases e:H D with
  | none=>rfl
  | some o=>
   obtain ⟨ob,e2⟩:=(I.hok D o e).there
   rw [hD] at e2
   cases e2
 have I2:=I.laidN (o:=.lst (ns'.map V.int)) (D:=D) (h':=h'') (t':=tk) fr fr'' (fun q hq=>nw'' q (List.mem_cons_of_mem _ hq)) hD fresh ⟨by
  rw [List.length_map,hl']
  lia,vs',c,Za3 ia',(nw'' _ List.mem_cons_self).1⟩
 exact ⟨.ref D,_,I2,rfl,q D ns' fresh perm pw⟩
def Znb:R2:=fun x y H Q=>∃a v,x = .ref a/\Zbi H a y (some v)/\Q v H
theorem U0 (hu:X.A.units+1<cLine):IxR X Znb:=by
 intro value slice pins s σ H x y v u Q I rx ry h hs
 obtain ⟨a,w,rfl,g,q⟩:=h
 cases rx
 exact tail_any (ops:=[.ref a,u]) (ZgD I g) PySem.F.slot_dict_getitem.lookup (Zjk hu I g ry fun w' s3 I3 rw'=>⟨w,H,I3,rw',q⟩) hs
def ZjE:V->V->V->Hp->(Hp->Prop)->Prop:=fun o i v H Q=>∃a H',o = .ref a/\ZgG H a i v H'/\Q H'
theorem set_dict (hu:X.A.units+1<cLine):Znr X ZjE:=by
 intro pins s σ H o i v ov iv u Q I ro ri rv h
 obtain ⟨a,H',rfl,g,q⟩:=h
 cases ro
 exact Zjo hu I g ri rv fun s' I'=>⟨H',I',q⟩
def Zo2 (K:PySem.W.Frag) (n:Nat) (t:TGs):TG:=fun v σ H Q=>∃a xs,v = .ref a/\Zu K H a xs/\xs.length=n/\t xs σ H Q
theorem ZnJ {es:List Expr}{k:Nat}{t:TGs}{n:Nat}{pos:Pos} (hc:X.calm=true) (h:PGs X es t)
  (hn:(assignEach es X.env).length=n:=by rfl) (hst:(assignEach es X.env).findIdx? (·.1)=none:=by rfl):PG X (.Tuple es k pos) (Zo2 X.K n t):=by
 intro pins s σ H v u Q I r hw
 obtain ⟨a,xs,e1,hq,hl,hw⟩:=hw
 subst e1
 cases r
 obtain ⟨its,rv,p,hz⟩:=I.list hq
 rw [arm_assign_Tuple]
 refine wpAny_bind (wpAny_standAt ?_)
 unfold unpack
 rw [hst]
 refine wpAny_bind (wpAny_holding ?_)
 have e:(assignEach es X.env).length=its.toArray.size:=by rw [hn,<- hl,rv.length];simp
 rw [e]
 refine W.kun_itemsOf (I.ok.hd hc) p.isList fun h' hx=>?_
 have I1:Inv X pins σ H { s with heap:=h' }:=I.kept (t':=s.toks) fun b o e=>hx b o (Nat.ne_of_lt (Heap.lt_size e)) e
 exact h pins _ σ H xs _ Q I1 (by simpa using rv) hw
theorem Zdu {K:PySem.W.Frag}{es:List Expr}{k:Nat}{t:TGs}{n:Nat}{pos:Pos} (hk:X.K=K) (hc:X.calm=true) (h:PGs X es t)
  (hn:(assignEach es X.env).length=n:=by rfl) (hst:(assignEach es X.env).findIdx? (·.1)=none:=by rfl):PG X (.Tuple es k pos) (Zo2 K n t):=hk ▸ ZnJ hc h hn hst
end
def bw (x:Int):Int:=if x % 2=0 then x+1 else x-1
theorem Zc3 (x:Int):bw (bw x)=x:=by unfold bw;split<;>split<;>lia
theorem Zok (x:Int):bw x≠x:=by unfold bw;split<;>lia
structure J8 (m:Int->Int) (N:Int):Prop where
 lo:∀x,0<=x->x<N->0<=m x
 hi:∀x,0<=x->x<N->m x<N
 inv:∀x,0<=x->x<N->m (m x)=x
 ne:∀x,0<=x->x<N->m x≠x
 ev:N % 2=0
theorem Zk9 {N x:Int} (e:N % 2=0) (h0:0<=x) (h1:x<N):0<=bw x/\bw x<N:=by unfold bw;split<;>lia
def gt (m:Int->Int) (f:Int):Nat->Int
 | 0=>f
 | i+1=>bw (m (gt m f i))
def W6 (m:Int->Int) (f:Int):Nat->List Int
 | 0=>[]
 | i+1=>W6 m f i ++ [gt m f i,m (gt m f i)]
theorem WH (m:Int->Int) (f:Int):∀i,(W6 m f i).length=2*i
 | 0=>rfl
 | i+1=>by
  simp only [W6,List.length_append,WH m f i,List.length_cons,List.length_nil]
  lia
theorem Y8 {m:Int->Int}{f x:Int}:∀{i:Nat},x∈W6 m f i ↔ ∃j,j<i/\(x=gt m f j∨x=m (gt m f j))
 | 0=>by simp [W6]
 | i+1=>by
  simp only [W6,List.mem_append,Y8 (i:=i),List.mem_cons,List.not_mem_nil,or_false]
  constructor
  ·rintro (⟨j,h,e⟩ | h)
   ·exact ⟨j,by lia,e⟩
   ·exact ⟨i,by lia,h⟩
  ·rintro ⟨j,h,e⟩
   by_cases hj:j=i
   ·subst hj;exact .inr e
   ·exact .inl ⟨j,by lia,e⟩
section
variable {m:Int->Int}{N f:Int}
theorem YJ (M:J8 m N) (h0:0<=f) (h1:f<N):∀i,0<=gt m f i/\gt m f i<N
 | 0=>⟨h0,h1⟩
 | i+1=>by
  obtain ⟨a,b⟩:=YJ M h0 h1 i
  exact Zk9 M.ev (M.lo _ a b) (M.hi _ a b)
theorem ZkD (M:J8 m N) (h0:0<=f) (h1:f<N):∀d j,gt m f (j+d)≠m (gt m f j)
 | 0,j=>fun e=>M.ne _ (YJ M h0 h1 j).1 (YJ M h0 h1 j).2 e.symm
 | 1,j=>Zok _
 | d+2,j=>fun e=>by
  refine ZkD M h0 h1 d (j+1) ?_
  have e1:bw (m (gt m f (j+d+1)))=m (gt m f j):=e
  have e2:m (gt m f (j+d+1))=bw (m (gt m f j)):=by rw [<- e1,Zc3]
  have e3:gt m f (j+1)=m (gt m f (j+d+1)):=e2.symm
  have dm:=YJ M h0 h1 (j+d+1)
  rw [e3,M.inv _ dm.1 dm.2]
  congr 1
  lia
theorem ZiK (M:J8 m N) (h0:0<=f) (h1:f<N) (i j:Nat):gt m f i≠m (gt m f j):=by
 by_cases h:j<=i
 ·have:=ZkD M h0 h1 (i-j) j
  rwa [show j+(i-j)=i by lia] at this
 ·intro e
  refine ZkD M h0 h1 (j-i) i ?_
  rw [show i+(j-i)=j by lia,e]
  exact (M.inv _ (YJ M h0 h1 j).1 (YJ M h0 h1 j).2).symm
theorem ZmG (M:J8 m N) {x y:Int} (hx:0<=x/\x<N) (hy:0<=y/\y<N) (e:m x=m y):x=y:=by
 rw [<- M.inv x hx.1 hx.2,e,M.inv y hy.1 hy.2]
theorem Ziv (M:J8 m N) (h0:0<=f) (h1:f<N):∀j d,gt m f (j+d)=gt m f j->gt m f d=f
 | 0,d,e=>by simpa [gt] using e
 | j+1,d,e=>by
  refine Ziv M h0 h1 j d (ZmG M (YJ M h0 h1 _) (YJ M h0 h1 _) ?_)
  have e1:bw (m (gt m f (j+d)))=bw (m (gt m f j)):=by
   have:j+1+d=j+d+1:=by lia
   rw [this] at e
   exact e
  rw [<- Zc3 (m (gt m f (j+d))),e1,Zc3]
theorem Zge (M:J8 m N) (h0:0<=f) (h1:f<N) {i j:Nat} (hj:j<i) (e:gt m f i=gt m f j):gt m f (i-j)=f:=by
 refine Ziv M h0 h1 j (i-j) ?_
 rw [show j+(i-j)=i by lia]
 exact e
theorem ZcR (M:J8 m N) (h0:0<=f) (h1:f<N):∀i,(∀j,1<=j->j<i->gt m f j≠f)->(W6 m f i).Nodup
 | 0,_=>by simp [W6]
 | i+1,h=>by
  have ih:=ZcR M h0 h1 i fun j a b=>h j a (by lia)
  show (W6 m f i ++ [gt m f i,m (gt m f i)]).Nodup
  rw [List.nodup_append]
  refine ⟨ih,by simp [ZiK M h0 h1 i i],fun a ha b hb=>?_⟩
  obtain ⟨j,hj,e⟩:=Y8.mp ha
  have hb:b=gt m f i∨b=m (gt m f i):=by simpa using hb
  intro z
  subst z
  rcases e with e | e<;>rcases hb with z | z
  ·exact h (i-j) (by lia) (by lia) (Zge M h0 h1 hj (z.symm.trans e))
  ·exact ZiK M h0 h1 j i (e.symm.trans z)
  ·exact ZiK M h0 h1 i j (z.symm.trans e)
  ·exact h (i-j) (by lia) (by lia) (Zge M h0 h1 hj (ZmG M (YJ M h0 h1 _) (YJ M h0 h1 _) (z.symm.trans e)))
theorem Ziw (M:J8 m N) (h0:0<=f) (h1:f<N) {i:Nat}{x:Int} (hx:x∈W6 m f i):0<=x/\x<N:=by
 obtain ⟨j,_,e | e⟩:=Y8.mp hx
 ·rw [e];exact YJ M h0 h1 j
 ·rw [e];exact ⟨M.lo _ (YJ M h0 h1 j).1 (YJ M h0 h1 j).2,M.hi _ (YJ M h0 h1 j).1 (YJ M h0 h1 j).2⟩
theorem WT:∀(n:Nat) (l:List Int),l.Nodup->(∀x∈l,0<=x/\x<(n:Int))->l.length<=n
 | 0,l,_,h=>by
  cases l with
  | nil=>simp
  | cons x _=>have:=h x List.mem_cons_self;lia
 | n+1,l,nd,h=>by
  by_cases hn:(n:Int)∈l
  ·have h1:=WT n (l.erase (n:Int)) (nd.erase _) fun x hx=>by
    have h2:=(nd.mem_erase_iff).mp hx
    have:=h x h2.2
    have:=h2.1
    lia
   rw [List.length_erase_of_mem hn] at h1
   lia
  ·have h1:=WT n l nd fun x hx=>by
    have:=h x hx
    have h3:x≠(n:Int):=fun z=>hn (z ▸ hx)
    lia
   lia
theorem Um (M:J8 m N) (h0:0<=f) (h1:f<N) {i:Nat} (h:∀j,1<=j->j<i->gt m f j≠f):2*(i:Int)<=N:=by
 have:=WT N.toNat (W6 m f i) (ZcR M h0 h1 i h) fun x hx=>by
  have:=Ziw M h0 h1 hx
  lia
 rw [WH] at this
 lia
theorem Zj2 (M:J8 m N) (h0:0<=f) (h1:f<N) {i:Nat} (h:∀j,1<=j->j<i->gt m f j≠f):gt m f i∈W6 m f i ↔ (1<=i/\gt m f i=f):=by
 constructor
 ·intro hx
  obtain ⟨j,hj,e | e⟩:=Y8.mp hx
  ·have:=Zge M h0 h1 hj e
   by_cases z:j=0
   ·subst z;exact ⟨by lia,this⟩
   ·exact absurd this (h (i-j) (by lia) (by lia))
  ·exact absurd e (ZiK M h0 h1 i j)
 ·rintro ⟨a,e⟩
  exact Y8.mpr ⟨0,by lia,.inl e⟩
end
def Jl (m:Int->Int) (f:Int) (T:List Int):Prop:=∃L,1<=L/\gt m f L=f/\(∀j,1<=j->j<L->gt m f j≠f)/\T=W6 m f L
theorem Jl.uniq {m:Int->Int}{f:Int}{T T':List Int} (a:Jl m f T) (b:Jl m f T'):T=T':=by
 obtain ⟨L,h1,e1,n1,rfl⟩:=a
 obtain ⟨L',h2,e2,n2,rfl⟩:=b
 have:L=L':=by
  rcases Nat.lt_trichotomy L L' with z | z | z
  ·exact absurd e1 (n2 L h1 z)
  ·exact z
  ·exact absurd e2 (n1 L' h2 z)
 rw [this]
theorem Jl.self {m:Int->Int}{f:Int}{T:List Int} (a:Jl m f T):f∈T:=by
 obtain ⟨L,h1,e1,n1,rfl⟩:=a
 exact Y8.mpr ⟨0,by lia,.inl rfl⟩
theorem Jl.dom {m:Int->Int}{N f:Int}{T:List Int} (M:J8 m N) (h0:0<=f) (h1:f<N) (a:Jl m f T):∀x∈T,0<=x/\x<N:=by
 obtain ⟨L,_,_,_,rfl⟩:=a
 exact fun x hx=>Ziw M h0 h1 hx
theorem Jl.nodup {m:Int->Int}{N f:Int}{T:List Int} (M:J8 m N) (h0:0<=f) (h1:f<N) (a:Jl m f T):T.Nodup:=by
 obtain ⟨L,_,_,n,rfl⟩:=a
 exact ZcR M h0 h1 L n
theorem Jl.len {m:Int->Int}{N f:Int}{T:List Int} (M:J8 m N) (h0:0<=f) (h1:f<N) (a:Jl m f T):(T.length:Int)<=N:=by
 obtain ⟨L,_,_,n,rfl⟩:=a
 have:=Um M h0 h1 n
 rw [WH]
 lia
theorem Jl.closed {m:Int->Int}{N f:Int}{T:List Int} (M:J8 m N) (h0:0<=f) (h1:f<N) (a:Jl m f T):∀x∈T,m x∈T/\bw x∈T:=by
 obtain ⟨L,hL,eL,n,rfl⟩:=a
 intro x hx
 obtain ⟨j,hj,e | e⟩:=Y8.mp hx
 ·subst e
  refine ⟨Y8.mpr ⟨j,hj,.inr rfl⟩,?_⟩
  cases j with
  | zero=>
   refine Y8.mpr ⟨L-1,by lia,.inr ?_⟩
   have:gt m f (L-1+1)=f:=by rw [show L-1+1=L by lia];exact eL
   have e2:bw (m (gt m f (L-1)))=f:=this
   show bw f=_
   rw [<- e2,Zc3,e2]
  | succ j=>exact Y8.mpr ⟨j,by lia,.inr (Zc3 _)⟩
 ·subst e
  refine ⟨?_,?_⟩
  ·rw [M.inv _ (YJ M h0 h1 j).1 (YJ M h0 h1 j).2]
   exact Y8.mpr ⟨j,hj,.inl rfl⟩
  ·by_cases z:j+1=L
   ·refine Y8.mpr ⟨0,by lia,.inl ?_⟩
    show gt m f (j+1)=f
    rw [z,eL]
   ·exact Y8.mpr ⟨j+1,by lia,.inl rfl⟩
theorem ZcP {m:Int->Int}{N f:Int} (M:J8 m N) (h0:0<=f) (h1:f<N) {S:List Int} (cl:∀x∈S,m x∈S/\bw x∈S) (hf:f∉S):∀i,gt m f i∉S/\m (gt m f i)∉S
 | 0=>⟨hf,fun h=>hf (by
  have:m (m f)∈S:=(cl _ h).1
  rwa [M.inv _ h0 h1] at this)⟩
 | i+1=>by
  have ih:=ZcP M h0 h1 cl hf i
  have a:gt m f (i+1)∉S:=fun h=>ih.2 (by
   have:=(cl _ h).2
   rwa [show bw (gt m f (i+1))=m (gt m f i) from Zc3 _] at this)
  refine ⟨a,fun h=>a ?_⟩
  have:=(cl _ h).1
  rwa [M.inv _ (YJ M h0 h1 (i+1)).1 (YJ M h0 h1 (i+1)).2] at this
inductive Uj (m:Int->Int):Nat->List (List Int)->Prop
 | nil:Uj m 0 []
 | add {i:Nat}{ts:List (List Int)}{T:List Int}:Uj m i ts->(i:Int)∉ts.flatten->Jl m (i:Int) T->Uj m (i+1) (ts ++ [T])
 | skip {i:Nat}{ts:List (List Int)}:Uj m i ts->(i:Int)∈ts.flatten->Uj m (i+1) ts
theorem Uj.uniq {m:Int->Int}{i:Nat}{ts:List (List Int)} (a:Uj m i ts):∀{ts':List (List Int)},Uj m i ts'->ts=ts':=by
 induction a with
 | nil=>intro ts' b;cases b;rfl
 | add a h t ih=>
  intro ts' b
  cases b with
  | add b h' t'=>rw [ih b,t.uniq t']
  | skip b h'=>rw [ih b] at h;exact absurd h' h
 | skip a h ih=>
  intro ts' b
  cases b with
  | add b h' t'=>rw [ih b] at h;exact absurd h h'
  | skip b h'=>exact ih b
theorem Uj.mem {m:Int->Int}{i:Nat}{ts:List (List Int)} (a:Uj m i ts):∀j:Nat,j<i->(j:Int)∈ts.flatten:=by
 induction a with
 | nil=>intro j hj;lia
 | @add i ts T a h t ih=>
  intro j hj
  rw [List.flatten_append,List.mem_append]
  by_cases e:j=i
  ·subst e;exact .inr (by simpa using t.self)
  ·exact .inl (ih j (by lia))
 | @skip i ts a h ih=>
  intro j hj
  by_cases e:j=i
  ·subst e;exact h
  ·exact ih j (by lia)
theorem Uj.good {m:Int->Int}{N:Int} (M:J8 m N) {i:Nat}{ts:List (List Int)} (a:Uj m i ts) (hi:(i:Int)<=N):ts.flatten.Nodup/\(∀x∈ts.flatten,0<=x/\x<N)/\(∀x∈ts.flatten,m x∈ts.flatten/\bw x∈ts.flatten):=by
 induction a with
 | nil=>simp
 | @add i ts T a h t ih=>
  obtain ⟨n,d,c⟩:=ih (by lia)
  have h0:(0:Int)<=(i:Int):=by lia
  have h1:(i:Int)<N:=by lia
  rw [List.flatten_append]
  have e:[T].flatten=T:=by simp
  rw [e]
  refine ⟨?_,fun x hx=>?_,fun x hx=>?_⟩
  ·rw [List.nodup_append]
   refine ⟨n,t.nodup M h0 h1,fun a ha b hb z=>?_⟩
   subst z
   obtain ⟨L,_,_,_,rfl⟩:=t
   obtain ⟨j,_,e | e⟩:=Y8.mp hb
   ·exact (ZcP M h0 h1 c h j).1 (e ▸ ha)
   ·exact (ZcP M h0 h1 c h j).2 (e ▸ ha)
  ·rcases List.mem_append.mp hx with z | z
   ·exact d x z
   ·exact t.dom M h0 h1 x z
  ·rw [List.mem_append,List.mem_append]
   rcases List.mem_append.mp hx with z | z
   ·exact ⟨.inl (c x z).1,.inl (c x z).2⟩
   ·exact ⟨.inr (t.closed M h0 h1 x z).1,.inr (t.closed M h0 h1 x z).2⟩
 | skip a h ih=>exact ih (by lia)
theorem Uj.jump {m:Int->Int}{ts:List (List Int)}{i:Nat} (a:Uj m i ts):∀d:Nat,(∀j:Nat,i<=j->j<i+d->(j:Int)∈ts.flatten)->Uj m (i+d) ts
 | 0,_=>a
 | d+1,h=>by
  have:=Uj.jump a d fun j x y=>h j x (by lia)
  exact Uj.skip this (h (i+d) (by lia) (by lia))
theorem Uj.len {m:Int->Int}{N:Int} (M:J8 m N) {i:Nat}{ts:List (List Int)} (a:Uj m i ts) (hi:(i:Int)<=N):ts.length<=i:=by
 induction a with
 | nil=>simp
 | add a h t ih=>have:=ih (by lia);simp;lia
 | skip a h ih=>have:=ih (by lia);lia
def rowAt (ls:List (Str×Int)) (t:Nat):List Int:=(rb (ls.take t)).1
def YV (ls:List (Str×Int)) (t:Nat):Int×Int:=((rowAt ls t).getD ((ls.getD t ("", 0)).2.toNat) 0,(rowAt ls t).getD ((ls.getD t ("", 0)).2.toNat+1) 0)
def Uz:Str->Bool:=fun x=>decide (x = "end")
def Jr (ls:List (Str×Int)) (i:Nat):List (Int×Int):=(Z9 ls Uz i).map fun t=>YV ls t.toNat
def ZM (ps:List (Int×Int)):List Int:=ps.flatMap fun p=>[p.1,p.2]
theorem Ja (a b:List (Int×Int)):ZM (a++b)=ZM a++ZM b:=by simp [ZM]
theorem Uy (ps:List (Int×Int)):(ZM ps).length=2*ps.length:=by
 induction ps with
 | nil=>rfl
 | cons p r ih=>
  have:ZM (p::r) = [p.1,p.2]++ZM r:=by simp [ZM]
  rw [this,List.length_append,ih]
  simp
  lia
theorem Gp (ls:List (Str×Int)) (i:Nat):Jr ls (i+1)=Jr ls i++(if UJ ls Uz i=true then [YV ls i] else []):=by
 unfold Jr
 rw [JB,List.map_append]
 by_cases h:UJ ls Uz i=true<;>simp [h]
def Zam (n:Nat):List Int:=(List.range n).map fun (x:Nat)=>(x:Int)
theorem ZjP (n:Nat):Zam (n+2)=Zam n ++ [(n:Int),(n:Int)+1]:=by
 unfold Zam
 rw [List.range_succ,List.range_succ]
 simp
theorem YO {n:Nat}{x:Int}:x∈Zam n ↔ 0<=x/\x<(n:Int):=by
 unfold Zam
 rw [List.mem_map]
 constructor
 ·rintro ⟨a,h,rfl⟩
  have:=List.mem_range.mp h
  lia
 ·rintro ⟨h0,h1⟩
  exact ⟨x.toNat,List.mem_range.mpr (by lia),by lia⟩
theorem Gx (n:Nat):(Zam n).Nodup:=by
 unfold Zam
 rw [List.nodup_iff_pairwise_ne,List.pairwise_map]
 exact (List.nodup_iff_pairwise_ne.mp List.nodup_range).imp fun h e=>h (by lia)
theorem Uk (n:Nat):(Zam n).length=n:=by simp [Zam]
theorem Zlo (r:List Int) (k:Nat) (h:k+1<r.length):r=r.take k ++ [r.getD k 0,r.getD (k+1) 0]++r.drop (k+2):=by
 have e1:r.drop k=r[k]::r.drop (k+1):=List.drop_eq_getElem_cons (by lia)
 have e2:r.drop (k+1)=r[k+1]::r.drop (k+2):=List.drop_eq_getElem_cons h
 have e:r.take k++r.drop k=r:=List.take_append_drop k r
 rw [e1,e2] at e
 have h1:r.getD k 0=r[k]:=by simp [show k<r.length by lia]
 have h2:r.getD (k+1) 0=r[k+1]:=by simp [h]
 rw [h1,h2]
 simpa using e.symm
theorem Zlw (r:List Int) (k:Nat) (h:k+1<r.length):Uh r k=r.take k ++ [r.getD (k+1) 0,r.getD k 0]++r.drop (k+2):=by
 have hl:(r.take k).length=k:=by rw [List.length_take];lia
 unfold Uh
 generalize ha:r.getD k 0=a
 generalize hb:r.getD (k+1) 0=b
 have e:=Zlo r k h
 rw [ha,hb] at e
 generalize r.take k=p at e hl ⊢
 generalize r.drop (k+2)=q at e ⊢
 subst e
 rw [List.append_assoc,List.set_append_right _ _ (by lia),hl,List.set_append_right _ _ (by lia),hl]
 simp
theorem Zb5 {ls:List (Str×Int)} (hW:Wk ls 0):∀i,i<=ls.length->0<=(rb (ls.take i)).2/\(rb (ls.take i)).2 % 2=0/\(rowAt ls i++ZM (Jr ls i)).Perm (Zam (rb (ls.take i)).2.toNat)
 | 0,_=>by
  refine ⟨Int.le_refl _,rfl,?_⟩
  exact List.Perm.refl _
 | i+1,hi=>by
  obtain ⟨ih0,ih1,ih⟩:=Zb5 hW i (by lia)
  have hq:ls[i]? = some ls[i]:=by simp [show i<ls.length by lia]
  obtain ⟨tk,c⟩:=ZeP hW hq
  have gd:ls.getD i ("", 0)=ls[i]:=by simp [show i<ls.length by lia]
  unfold rowAt at ih ⊢
  generalize hp:ls[i]=p at *
  obtain ⟨px,pk⟩:=p
  rw [tk,YI,Gp]
  have kk:∀pr:Str->Bool,UJ ls pr i=pr px:=fun pr=>by
   unfold UJ
   rw [hq]
   cases h:pr px<;>simp [h]
  rw [kk]
  rcases c with ⟨e,b0,b1⟩ | ⟨e,b0,b1⟩ | ⟨e,b0,b1⟩
  ·have e:px = "born" := e
   subst e
   rw [W0]
   have hf:Uz "born" = false:=by unfold Uz;decide +kernel
   rw [hf]
   simp only [Bool.false_eq_true,if_false,List.append_nil]
   generalize hr:rb (ls.take i)=s at *
   obtain ⟨r,b⟩:=s
   refine ⟨by lia,by lia,?_⟩
   have e2:(b+2).toNat=b.toNat+2:=by lia
   rw [e2,ZjP]
   have e3:((b.toNat:Nat):Int)=b:=by lia
   rw [e3]
   have p1:(r.take pk.toNat ++ [b,b+1]++r.drop pk.toNat).Perm (r ++ [b,b+1]):=by
    rw [List.append_assoc]
    refine (List.Perm.append_left _ List.perm_append_comm).trans ?_
    rw [<- List.append_assoc,List.take_append_drop]
   refine (p1.append_right _).trans ?_
   rw [List.append_assoc]
   refine (List.Perm.append_left _ List.perm_append_comm).trans ?_
   rw [<- List.append_assoc]
   exact ih.append_right _
  ·have e:px = "cross" := e
   subst e
   rw [J1]
   have hf:Uz "cross" = false:=by unfold Uz;decide +kernel
   rw [hf]
   simp only [Bool.false_eq_true,if_false,List.append_nil]
   refine ⟨ih0,ih1,?_⟩
   have hk:pk.toNat+1<(rb (ls.take i)).1.length:=by
    have b1:pk+1<_:=b1
    have b0:0<=pk:=b0
    lia
   refine List.Perm.trans ?_ ih
   refine List.Perm.append_right _ ?_
   rw [Zlw _ _ hk]
   conv=>rhs;rw [Zlo _ _ hk]
   exact List.Perm.append_right _ (List.Perm.append_left _ (List.Perm.swap _ _ _))
  ·have e:px = "end" := e
   subst e
   rw [GX]
   have hf:Uz "end" = true:=by unfold Uz;simp
   rw [hf]
   simp only [if_true]
   refine ⟨ih0,ih1,?_⟩
   have hk:pk.toNat+1<(rb (ls.take i)).1.length:=by
    have b1:pk+1<_:=b1
    have b0:0<=pk:=b0
    lia
   refine List.Perm.trans ?_ ih
   rw [Ja]
   have pr:ZM [YV ls i] = [(rb (ls.take i)).1.getD pk.toNat 0,(rb (ls.take i)).1.getD (pk.toNat+1) 0]:=by
    unfold YV rowAt
    rw [gd]
    simp [ZM]
   rw [pr]
   conv=>rhs;rw [Zlo _ _ hk]
   generalize (rb (ls.take i)).1.take pk.toNat=A
   generalize (rb (ls.take i)).1.drop (pk.toNat+2)=B
   generalize [(rb (ls.take i)).1.getD pk.toNat 0,(rb (ls.take i)).1.getD (pk.toNat+1) 0]=C
   generalize ZM (Jr ls i)=F
   rw [List.append_assoc,List.append_assoc,List.append_assoc]
   refine List.Perm.append_left _ ?_
   rw [<- List.append_assoc]
   exact List.perm_append_comm
def Y9 (ls:List (Str×Int)):List (Int×Int):=Jr ls ls.length
def Jk (ls:List (Str×Int)):Nat:=2*(Y9 ls).length
theorem WM {ls:List (Str×Int)} (hW:Wk ls 0):(ZM (Y9 ls)).Perm (Zam (Jk ls)):=by
 obtain ⟨h0,h1,h2⟩:=Zb5 hW ls.length (Nat.le_refl _)
 have e:rowAt ls ls.length = []:=by
  unfold rowAt
  rw [List.take_of_length_le (Nat.le_refl _)]
  have:=ZaD hW
  exact List.length_eq_zero_iff.mp (by lia)
 rw [e,List.nil_append] at h2
 have hl:=h2.length_eq
 rw [Uk,Uy] at hl
 show (ZM (Jr ls ls.length)).Perm (Zam (2*(Jr ls ls.length).length))
 rw [hl]
 exact h2
def Js:List (Int×Int)->Int->Int
 | [],_=>0
 | p::r,x=>if x=p.1 then p.2 else if x=p.2 then p.1 else Js r x
theorem Zd9:∀{ps:List (Int×Int)}{u l:Int},(ZM ps).Nodup->(u,l)∈ps->Js ps u=l/\Js ps l=u
 | [],_,_,_,h=>by cases h
 | p::r,u,l,nd,h=>by
  have e:ZM (p::r)=p.1::p.2::ZM r:=by simp [ZM]
  rw [e] at nd
  obtain ⟨n1,nd2⟩:=List.nodup_cons.mp nd
  obtain ⟨n2,nd3⟩:=List.nodup_cons.mp nd2
  rcases List.mem_cons.mp h with z | z
  ·subst z
   refine ⟨by simp [Js],?_⟩
   have:l≠u:=fun z=>n1 (by simp [z])
   simp [Js,this]
  ·have m1:u∈ZM r:=List.mem_flatMap.mpr ⟨(u,l),z,by simp⟩
   have m2:l∈ZM r:=List.mem_flatMap.mpr ⟨(u,l),z,by simp⟩
   have ih:=Zd9 nd3 z
   have a1:u≠p.1:=fun z=>n1 (List.mem_cons_of_mem _ (z ▸ m1))
   have a2:u≠p.2:=fun z=>n2 (z ▸ m1)
   have a3:l≠p.1:=fun z=>n1 (List.mem_cons_of_mem _ (z ▸ m2))
   have a4:l≠p.2:=fun z=>n2 (z ▸ m2)
   simp only [Js,a1,a2,a3,a4,if_false]
   exact ih
theorem Zbx {ps:List (Int×Int)} (nd:(ZM ps).Nodup) {u l:Int} (h:(u,l)∈ps):u≠l:=by
 induction ps with
 | nil=>cases h
 | cons p r ih=>
  have e:ZM (p::r)=p.1::p.2::ZM r:=by simp [ZM]
  rw [e] at nd
  obtain ⟨n1,nd2⟩:=List.nodup_cons.mp nd
  obtain ⟨n2,nd3⟩:=List.nodup_cons.mp nd2
  rcases List.mem_cons.mp h with z | z
  ·subst z;intro z;exact n1 (by simp [z])
  ·exact ih nd3 z
theorem Wy {ls:List (Str×Int)} (hW:Wk ls 0):J8 (Js (Y9 ls)) (Jk ls):=by
 have pm:=WM hW
 have nd:(ZM (Y9 ls)).Nodup:=pm.nodup_iff.mpr (Gx _)
 have get:∀x:Int,0<=x->x<(Jk ls:Int) -> ∃u l,(u,l)∈Y9 ls/\(x=u∨x=l):=fun x h0 h1=>by
  have:x∈ZM (Y9 ls):=pm.mem_iff.mpr (YO.mpr ⟨h0,h1⟩)
  obtain ⟨p,hp,hx⟩:=List.mem_flatMap.mp this
  exact ⟨p.1,p.2,hp,by simpa using hx⟩
 have dom:∀u l,(u,l)∈Y9 ls->(0<=u/\u<(Jk ls:Int))/\(0<=l/\l<(Jk ls:Int)):=fun u l h=>
  ⟨YO.mp (pm.mem_iff.mp (List.mem_flatMap.mpr ⟨(u,l),h,by simp⟩)),YO.mp (pm.mem_iff.mp (List.mem_flatMap.mpr ⟨(u,l),h,by simp⟩))⟩
 refine ⟨fun x h0 h1=>?_,fun x h0 h1=>?_,fun x h0 h1=>?_,fun x h0 h1=>?_,by unfold Jk;lia⟩
 all_goals
  obtain ⟨u,l,hm,rfl | rfl⟩:=get x h0 h1
  all_goals
   obtain ⟨a,b⟩:=Zd9 nd hm
   obtain ⟨d1,d2⟩:=dom _ _ hm
   have ne:=Zbx nd hm
   first
    | (rw [a];exact d2.1)
    | (rw [b];exact d1.1)
    | (rw [a];exact d2.2)
    | (rw [b];exact d1.2)
    | (rw [a,b])
    | (rw [b,a])
    | (rw [a];exact Ne.symm ne)
    | (rw [b];exact ne)
theorem Zm3 {x:Int} (h:0<=x):Builtin.bitXor x 1=bw x:=by
 obtain ⟨n,rfl⟩:=Int.eq_ofNat_of_zero_le h
 unfold bw
 have ho:Builtin.bitOr (n:Int) 1=((n ||| 1:Nat):Int):=by
  have e1:decide (0<=Builtin.bitNot (n:Int))=false:=by unfold Builtin.bitNot;rw [decide_eq_false_iff_not];lia
  have e2:decide (0<=Builtin.bitNot (1:Int))=false:=by decide
  have e3:(Builtin.bitNot (Builtin.bitNot (n:Int))).toNat=n:=by unfold Builtin.bitNot;lia
  have e4:(Builtin.bitNot (Builtin.bitNot (1:Int))).toNat=1:=by decide
  unfold Builtin.bitOr Builtin.bitAnd
  rw [e1,e2]
  simp only [e3,e4]
  unfold Builtin.bitNot
  lia
 have ha:Builtin.bitAnd (n:Int) 1=((n &&& 1:Nat):Int):=by
  unfold Builtin.bitAnd
  simp
 unfold Builtin.bitXor
 rw [ho,ha]
 have h1:n &&& 1=n % 2:=Nat.and_one_is_mod n
 have h2:n ||| 1=n+1-n % 2:=by
  have d:(n ||| 1) / 2=n / 2:=by rw [Nat.or_div_two];simp
  have m:(n ||| 1) % 2=1:=Nat.or_mod_two_eq_one.mpr (.inr rfl)
  lia
 rw [h1,h2]
 split<;>lia
section
variable {X:Cx}
def ZjF (K:PySem.W.Frag):R2:=fun x y H Q=>∃(p q:Addr) (xs:List V),x = .ref p/\y = .ref q/\Zu K H p xs/\Zu K H q []/\Q (.bl (!xs.isEmpty)) H
theorem Zk0 (hu:X.A.units+64<cLine):UA X (compareOp .NotEq) (ZjF X.K):=by
 intro pins s σ H x y v u Q I rx ry h
 obtain ⟨p,q,xs,rfl,rfl,hp,hq,hQ⟩:=h
 cases rx
 cases ry
 obtain ⟨its,r1,p1,_⟩:=I.list hp
 obtain ⟨its2,r2,p2,_⟩:=I.list hq
 have l1:=r1.length
 have l2:=r2.length
 cases xs with
 | nil=>
  refine SeqAt.RcNeAt.lists (e:=fun _=>true) p1.isList p2.isList (by simp only [List.size_toArray];lia) (by lia) (fun j h1 h2=>?_) X.prog X.w _ _ ⟨.bl false,H,I,?_,hQ⟩
  ·rw [List.size_toArray] at h1
   have:its.length=0:=by simpa using l1.symm
   lia
  ·show Value.bool _=Value.bool false
   simp
 | cons z zs=>
  refine SeqAt.RcNeAt.lists_lengths p1.isList p2.isList (by simp only [List.size_toArray];rw [bne_iff_ne];simp at l1 l2;lia) (by lia) X.prog X.w _ _ ⟨.bl true,H,I,rfl,hQ⟩
theorem ZiV {K:PySem.W.Frag} (h:X.K=K) (hu:X.A.units+64<cLine):UA X (compareOp .NotEq) (ZjF K):=h ▸ Zk0 hu
theorem ZbE {K:PySem.W.Frag} (h:X.K=K):UA X (compareOp .In) (rIn K false):=h ▸ Zjr
theorem Zbq {K:PySem.W.Frag} (h:X.K=K):UA X (compareOp .NotIn) (rIn K true):=h ▸ ZfK
end
theorem ZaG {x:Int}{ns:List Int}:inV (.int x) (ns.map V.int)=decide (x∈ns):=by
 unfold inV
 induction ns with
 | nil=>simp
 | cons n ns ih=>
  rw [List.map_cons,List.any_cons,ih]
  have e:eqV (V.int n) (V.int x)=decide (n=x):=by
   unfold eqV
   by_cases h:n=x<;>simp [h]
  rw [e,<- Bool.decide_or]
  exact decide_eq_decide.mpr (by rw [List.mem_cons];exact ⟨fun h=>h.imp Eq.symm id,fun h=>h.imp Eq.symm id⟩)
def JJ (H:Hp) (ys:List V) (ps:List (Int×Int)):Prop:=Paired (fun v (p:Int×Int)=>∃a,v=V.ref a/\H a=some (.tup [.int p.1,.int p.2])) ys ps
theorem JJ.mono {H H':Hp} (h:∀t p,H t=some (.tup p)->H' t=some (.tup p)):∀{xs:List V}{ps:List (Int×Int)},JJ H xs ps->JJ H' xs ps
 | _,_,.nil=>.nil
 | _,_,.cons ⟨t,e,q⟩ r=>.cons ⟨t,e,h t _ q⟩ (JJ.mono h r)
theorem JJ.len {H:Hp}{xs:List V}{ps:List (Int×Int)} (h:JJ H xs ps):xs.length=ps.length:=Paired.length h
theorem JJ.get {H:Hp}:∀{xs:List V}{ps:List (Int×Int)}{i:Nat}{x:V},JJ H xs ps->xs[i]? = some x -> ∃p t,ps[i]? = some p/\x = .ref t/\H t=some (.tup [.int p.1,.int p.2])
 | _,_,_,_,.nil,e=>by simp at e
 | _,_,0,_,.cons ⟨t,e1,q⟩ _,e=>by simp at e;subst e;exact ⟨_,t,rfl,e1,q⟩
 | _,_,i+1,x,.cons _ r,e=>by
  obtain ⟨p,t,h1,h2⟩:=JJ.get (i:=i) (x:=x) r (by simpa using e)
  exact ⟨p,t,by simpa using h1,h2⟩
theorem JJ.snoc {H:Hp}{xs:List V}{ps:List (Int×Int)}{t:Addr}{p:Int×Int} (h:JJ H xs ps) (e:H t=some (.tup [.int p.1,.int p.2])):JJ H (xs ++ [.ref t]) (ps ++ [p]):=Paired.snoc h ⟨t,rfl,e⟩
theorem YQ.at {H:Hp}:∀{xs:List V}{rs:List (List Int)}{i:Nat}{r:List Int},YQ H xs rs->rs[i]? = some r -> ∃p,xs[i]? = some (.ref p)/\H p=some (.lst (r.map V.int))
 | _,_,_,_,.nil,e=>by simp at e
 | _,_,0,_,.cons ⟨t,e1,q⟩ _,e=>by simp at e;subst e;exact ⟨t,by simp [e1],q⟩
 | _,_,i+1,r,.cons _ rr,e=>by
  obtain ⟨p,h1,h2⟩:=YQ.at (i:=i) (r:=r) rr (by simpa using e)
  exact ⟨p,by simpa using h1,h2⟩
theorem YQ.atX {H:Hp}:∀{xs:List V}{rs:List (List Int)}{i:Nat}{x:V},YQ H xs rs->xs[i]? = some x -> ∃(p:Addr) (r:List Int),rs[i]? = some r/\x = .ref p/\H p=some (.lst (r.map V.int))
 | _,_,_,_,.nil,e=>by simp at e
 | _,_,0,_,.cons ⟨t,e1,q⟩ _,e=>by simp at e;subst e;exact ⟨t,_,rfl,e1,q⟩
 | _,_,i+1,x,.cons _ r,e=>by
  obtain ⟨p,q,h1,h2⟩:=YQ.atX (i:=i) (x:=x) r (by simpa using e)
  exact ⟨p,q,by simpa using h1,h2⟩
theorem Za8 (ls:List (Str×Int)) {i n:Nat} (h:i<n):(rowsOf ls n)[i]? = some (rowAt ls i):=by
 unfold rowsOf rowAt
 rw [List.getElem?_map]
 simp [h]
theorem ZgB {ls:List (Str×Int)} (hW:Wk ls 0) {t:Nat}{q:Str×Int} (hq:ls[t]? = some q) (hb:q.1 ≠ "born"):0<=q.2/\q.2.toNat+1<(rowAt ls t).length/\YV ls t=((rowAt ls t).getD q.2.toNat 0,(rowAt ls t).getD (q.2.toNat+1) 0):=by
 obtain ⟨_,c⟩:=ZeP hW hq
 have gd:ls.getD t ("", 0)=q:=by simp [hq]
 have e:YV ls t=((rowAt ls t).getD q.2.toNat 0,(rowAt ls t).getD (q.2.toNat+1) 0):=by unfold YV;rw [gd]
 rcases c with ⟨z,_⟩ | ⟨_,b0,b1⟩ | ⟨_,b0,b1⟩
 ·exact absurd z hb
 ·exact ⟨b0,by unfold rowAt;lia,e⟩
 ·exact ⟨b0,by unfold rowAt;lia,e⟩
theorem Wv {ns:List Int}{i:Nat}{x:V} (h:(ns.map V.int)[i]? = some x):∃t,ns[i]? = some t/\x=V.int t:=by
 rw [List.getElem?_map] at h
 cases e:ns[i]? with
 | none=>rw [e] at h;cases h
 | some z=>rw [e] at h;exact ⟨z,rfl,(Option.some.inj h).symm⟩
theorem Jg {α β:Type}{ns:List α}{i:Nat}{t:α} (f:α -> β) (h:ns[i]? = some t):(ns.take (i+1)).map f=(ns.take i).map f ++ [f t]:=by
 rw [List.take_add_one,h]
 simp
theorem ZgW {ls:List (Str×Int)}{pr:Str->Bool}{n:Nat}{x:Int} (h:x∈Z9 ls pr n):0<=x/\x.toNat<n /\ ∃q,ls[x.toNat]? = some q/\pr q.1=true:=by
 unfold Z9 at h
 obtain ⟨i,hi,e⟩:=List.mem_filterMap.mp h
 have hi':=List.mem_range.mp hi
 by_cases hk:UJ ls pr i=true
 ·rw [if_pos hk] at e
  have e:(i:Int)=x:=Option.some.inj e
  subst e
  refine ⟨by lia,by simpa using hi',?_⟩
  unfold UJ at hk
  cases hq:ls[i]? with
  | none=>rw [hq] at hk;cases hk
  | some q=>
   rw [hq] at hk
   refine ⟨q,by simpa using hq,by simpa using hk⟩
 ·rw [if_neg hk] at e;cases e
theorem WD {ls:List (Str×Int)} (hl:ls.length<=60):Jk ls<=120:=by
 unfold Jk Y9 Jr
 rw [List.length_map]
 have:=Jf ls Uz ls.length
 lia
section
variable {X:Cx}{pins:List (Addr×Obj)} {σ:St}{H:Hp}{s:Shared}
theorem Inv.keptN {h':Heap}{t':Nat}{m:Str->Option Value} (I:Inv X pins σ H s) (F:Fr X.base X.env.locals s.heap m) (F':Fr X.base X.env.locals h' m)
  (N':News X.base X.env.locals h' (Gh X.base s.heap X.env.locals)):Inv X pins σ H { s with heap:=h',toks:=t' }:=by
 have kp:∀b u,b≠X.env.locals->s.heap.get? b=some u->h'.get? b=some u:=fun b u hb e=>by
  cases q:X.base.get? b with
  | some v=>
   have e1:=F'.keep b v q
   have e2:=F.keep b v q
   rw [e] at e2
   cases e2
   exact e1
  | none=>exact (N' (b,u) (ZaE hb q e)).1
 have neL:∀b u,H b=some u->b≠X.env.locals:=fun b u e z=>by rw [z,I.free] at e;cases e
 refine I.step (g':=s.gens) (d':=s.drawn) (ch:=[]) (fun _ z=>nomatch z) (fun b ob hb _ _ e _=>kp b ob hb e) (fun b ob hb _ _ e _=>⟨ob.slots,kp b ob hb e⟩) (fun b ob _ e n=>n) (fun b ob _ e=>?_) (fun b xs e=>e) (fun b ob u e=>e) (fun b ps e=>⟨#[],by rw [e];simp⟩) (fun m' hm=>?_) (fun b u e=>?_) I.bare
 ·by_cases hb:b=X.env.locals
  ·subst hb
   obtain ⟨ob',_,_,z,_⟩:=F'.ns
   exact ⟨ob',z⟩
  ·exact ⟨ob,kp b ob hb e⟩
 ·rw [ZjX hm F.ns];exact F'.ns
 ·refine (I.hok b u e).stay (fun c v hc q=>kp c v ?_ q) (fun c q=>q) fun c xs q=>q
  rcases hc with z | z
  ·subst z;exact neL _ u e
  ·exact neL c _ z
end
section
variable {X:Cx}
theorem Zjz (hc:X.calm=true):Jd X (.builtin "sum") (fun xs H Q=>∃(p:Addr) (ns:List Int),xs = [.ref p]/\Zu X.K H p (ns.map V.int)/\Q (.int ns.sum) H):=by
 intro pins s σ H xs us Q I r h
 obtain ⟨p,ns,rfl,hq,q⟩:=h
 obtain ⟨u,rfl,ru⟩:=r.one
 cases ru
 obtain ⟨its,rv,pl,hz⟩:=I.list hq
 obtain ⟨m,fr⟩:=I.fr
 refine LSm.sum_ints fr (news:=Gh X.base s.heap X.env.locals) ZgM (I.ok.hd hc) pl.isList (Gk rv) fun h' tk t' fr' nw'=>?_
 exact ⟨.int ns.sum,H,I.keptN fr fr' nw',⟨t',rfl⟩,q⟩
theorem Zfe {K:PySem.W.Frag} (h:X.K=K) (hc:X.calm=true):Jd X (.builtin "sum") (fun xs H Q=>∃(p:Addr) (ns:List Int),xs = [.ref p]/\Zu K H p (ns.map V.int)/\Q (.int ns.sum) H):=h ▸ Zjz hc
end
theorem ZlX {x:Int} (h:0<=x):Builtin.bitAnd x 1=x % 2:=by
 obtain ⟨n,rfl⟩:=Int.eq_ofNat_of_zero_le h
 have ha:Builtin.bitAnd (n:Int) 1=((n &&& 1:Nat):Int):=by
  unfold Builtin.bitAnd
  simp
 rw [ha,Nat.and_one_is_mod]
 lia
end L2
namespace L2
open PySem PySem.Spec PyProof.Rows PyProof.V
def Itz (K:PySem.W.Frag) (a b:Addr):It:=
  ⟨fun i H=>∃xs ys x y,Zu K H a xs/\Zu K H b ys/\xs[i]? = some x/\ys[i]? = some y,
   fun i H v H'=>∃p x y,v = .ref p/\H p=none/\H'=upd H p (.tup [x,y])/\(∀xs,Zu K H a xs->xs[i]? = some x)/\(∀ys,Zu K H b ys->ys[i]? = some y),
   fun i H=>∃xs ys,Zu K H a xs/\Zu K H b ys/\(xs.length<=i∨ys.length<=i)⟩
theorem Zj1 {P:Program}{w:World}{K:PySem.W.Frag}{es:List Expr}{k:Nat}{pos:Pos} (a b z TI TO i1 i2:Addr) (ap:ZipApart z TI TO i1 i2 a b):
  Turn P w K (.Tuple es k pos) (Itz K a b) [z,TI,TO,i1,i2] z (fun i h=>IsZip h z TI TO .none/\IsPair h TI (.ref i1) (.ref i2)/\(∃u v,IsPair h TO u v)/\h.IsListIter i1 a i/\h.IsListIter i2 b i) where
 mem:=by simp
 obj:=fun i h st c hc=>by
  obtain ⟨h1,h2,⟨u,v,h3⟩,⟨o1,ho1,c1,d1⟩,⟨o2,ho2,c2,d2⟩⟩:=st
  simp only [List.mem_cons,List.not_mem_nil,or_false] at hc
  rcases hc with e | e | e | e | e
  ·subst e;exact ⟨_,h1,fun v z=>by have z':Data.fields _=Data.cell v:=z;cases z'⟩
  ·subst e;exact ⟨_,h2,fun v z=>by have z':Data.seq _ _=Data.cell v:=z;cases z'⟩
  ·subst e;exact ⟨_,h3,fun v z=>by have z':Data.seq _ _=Data.cell v:=z;cases z'⟩
  ·subst e;exact ⟨o1,ho1,fun v z=>by rw [d1] at z;cases z⟩
  ·subst e;exact ⟨o2,ho2,fun v z=>by rw [d2] at z;cases z⟩
 keep:=fun i h h' st k=>by
  obtain ⟨h1,h2,⟨u,v,h3⟩,h4,h5⟩:=st
  exact ⟨k z (by simp) _ h1,k TI (by simp) _ h2,⟨u,v,k TO (by simp) _ h3⟩,h4.at fun o x=>k i1 (by simp) o x,h5.at fun o x=>k i2 (by simp) o x⟩
 item:=by
  intro X hP hw hK hc i pins s σ H E I hf st hg
  subst hP hw hK
  obtain ⟨xs,ys,x,y,hq1,hq2,hx,hy⟩:=hg
  obtain ⟨its1,rv1,p1,hz1⟩:=I.list hq1
  obtain ⟨its2,rv2,p2,hz2⟩:=I.list hq2
  obtain ⟨u,hu,ru⟩:=rv1.get hx
  obtain ⟨v,hv,rv⟩:=rv2.get hy
  obtain ⟨h1,h2,⟨oa,ob,h3⟩,h4,h5⟩:=st
  refine wpAny_pyNext_zip_item ap h1 h2 h3 h4 h5 p1.isList p2.isList (x:=u) (y:=v) (by simpa using hu) (by simpa using hv) fun h' g1 g2 g3 g4 g5 hsz kk=>⟨_,rfl,?_⟩
  refine wpAny_letOwnedTupleGo_zip (s:={ s with heap:=h' }) g1 fun h'' e1 hs''=>?_
  have lt:∀c ∈ [z,TI,TO,i1,i2],@LT.lt Nat _ c s.heap.objs.size:=fun c hc=>by
   simp only [List.mem_cons,List.not_mem_nil,or_false] at hc
   rcases hc with e | e | e | e | e
   ·subst e;exact aLt h1
   ·subst e;exact aLt h2
   ·subst e;exact aLt h3
   ·subst e;obtain ⟨o,ho,_⟩:=h4;exact aLt ho
   ·subst e;obtain ⟨o,ho,_⟩:=h5;exact aLt ho
  have kk2:∀c o,c≠z->c≠TO->c≠i1->c≠i2->s.heap.get? c=some o->h''.get? c=some o:=fun c o n1 n2 n3 n4 q=>(hs''.2 c n1).trans (kk c o n1 n2 n3 n4 q)
  have nne:∀c o,H c=some o->c≠z/\c≠TO/\c≠i1/\c≠i2:=fun c o q=>by
   refine ⟨fun e=>?_,fun e=>?_,fun e=>?_,fun e=>?_⟩
   ·rw [e,(hf z (by simp)).1] at q;cases q
   ·rw [e,(hf TO (by simp)).1] at q;cases q
   ·rw [e,(hf i1 (by simp)).1] at q;cases q
   ·rw [e,(hf i2 (by simp)).1] at q;cases q
  have fr:H s.heap.objs.size=none:=I.hok.fresh (Nat.le_refl _)
  have hT:h''.get? s.heap.objs.size=some { cls:=.type "tuple", data:=.seq #[u,v] }:=(hs''.2 _ (Nat.ne_of_gt (lt z (by simp)))).trans g5
  have nT:∀c o,s.heap.get? c=some o->c≠s.heap.objs.size:=fun c o q=>Nat.ne_of_lt (aLt q)
  have ok':UL X.prog X.w (upd H s.heap.objs.size (.tup [x,y])) h'':=fun c o q=>by
   by_cases hb:c=s.heap.objs.size
   ·subst hb
    rw [Zd] at q
    cases q
    exact ⟨show 2<=sizeLine by decide,[u,v],.cons ru (.cons rv .nil),⟨_,hT,rfl,_,rfl⟩⟩
   ·rw [Zj hb] at q
    refine (I.hok c o q).stay (fun d v hd r=>?_) (fun d r=>by rw [Zj (Zf r fr)];exact r) fun d xs r=>by rw [Zj (Zf r fr)];exact r
    rcases hd with e | e
    ·subst e
     obtain ⟨n1,n2,n3,n4⟩:=nne d o q
     exact kk2 d v n1 n2 n3 n4 r
    ·obtain ⟨n1,n2,n3,n4⟩:=nne d _ e
     exact kk2 d v n1 n2 n3 n4 r
  have notin:∀c,c ∉ [z,TI,TO,i1,i2]->c≠z/\c≠TO/\c≠i1/\c≠i2:=fun c hc=>by
   simp only [List.mem_cons,List.not_mem_nil,or_false,not_or] at hc
   exact ⟨hc.1,hc.2.2.1,hc.2.2.2.1,hc.2.2.2.2⟩
  have I1:Inv X pins σ (upd H s.heap.objs.size (.tup [x,y])) { s with heap:=h'',gens:=s.gens,drawn:=s.drawn,toks:=s.toks }:=by
   refine I.step (ch:=[z,TI,TO,i1,i2]) (fun c hc=>?_) (fun c o _ _ hc q _=>?_) (fun c o _ _ hc q _=>⟨o.slots,?_⟩)
    (fun c o _ q n=>by rw [Zj (nT c o q)];exact n) (fun c o hc q=>⟨o,?_⟩) (fun c xs q=>by rw [Zj (Zf q fr)];exact q) (fun c o u q=>by rw [Zj (Zf q fr)];exact q)
    (fun c ps q=>⟨#[],by rw [Zj (Zf q fr),q];simp⟩) (fun m hm=>?_) ok' I.bare
   ·obtain ⟨f0,f1,f2,f3,f4,f5⟩:=hf c hc
    exact ⟨f3,f1,f4,f5⟩
   ·obtain ⟨n1,n2,n3,n4⟩:=notin c hc;exact kk2 c o n1 n2 n3 n4 q
   ·obtain ⟨n1,n2,n3,n4⟩:=notin c hc;exact kk2 c o n1 n2 n3 n4 q
   ·obtain ⟨n1,n2,n3,n4⟩:=notin c hc;exact kk2 c o n1 n2 n3 n4 q
   ·obtain ⟨o,es,ep,ho,r⟩:=hm
    exact ⟨o,es,ep,kk2 _ o (Ne.symm (hf z (by simp)).2.1) (Ne.symm (hf TO (by simp)).2.1) (Ne.symm (hf i1 (by simp)).2.1) (Ne.symm (hf i2 (by simp)).2.1) ho,r⟩
  refine ⟨.ref s.heap.objs.size,_,I1,rfl,⟨s.heap.objs.size,x,y,rfl,fr,rfl,fun zs hz=>by rw [I.list_inj hz hq1];exact hx,fun zs hz=>by rw [I.list_inj hz hq2];exact hy⟩,
   ⟨e1,kk2 TI _ ap.TIz ap.TITO ap.TIi1 ap.TIi2 h2,⟨u,v,(hs''.2 TO ap.TOz).trans g2⟩,g3.at fun o q=>(hs''.2 i1 ap.i1z).trans q,g4.at fun o q=>(hs''.2 i2 ap.i2z).trans q⟩,fun c hc=>?_⟩
  rw [Zj (Nat.ne_of_lt (lt c hc))]
  exact (hf c hc).1
 done:=by
  intro X hP hw hK hc i pins s σ H E I hf st hg
  subst hP hw hK
  obtain ⟨xs,ys,hq1,hq2,hx⟩:=hg
  obtain ⟨its1,rv1,p1,hz1⟩:=I.list hq1
  obtain ⟨its2,rv2,p2,hz2⟩:=I.list hq2
  obtain ⟨h1,h2,⟨oa,ob,h3⟩,h4,h5⟩:=st
  have l1:=rv1.length
  have l2:=rv2.length
  refine wpAny_pyNext_zip_end (I.ok.hd hc) ap h1 h2 h3 h4 h5 p1.isList p2.isList (by rcases hx with e | e;exact .inl (by simp;lia);exact .inr (by simp;lia)) fun h' kk=>⟨rfl,?_⟩
  have nne:∀c o,H c=some o->c≠z/\c≠TO/\c≠i1/\c≠i2:=fun c o q=>by
   refine ⟨fun e=>?_,fun e=>?_,fun e=>?_,fun e=>?_⟩
   ·rw [e,(hf z (by simp)).1] at q;cases q
   ·rw [e,(hf TO (by simp)).1] at q;cases q
   ·rw [e,(hf i1 (by simp)).1] at q;cases q
   ·rw [e,(hf i2 (by simp)).1] at q;cases q
  have notin:∀c,c ∉ [z,TI,TO,i1,i2]->c≠z/\c≠TO/\c≠i1/\c≠i2:=fun c hc=>by
   simp only [List.mem_cons,List.not_mem_nil,or_false,not_or] at hc
   exact ⟨hc.1,hc.2.2.1,hc.2.2.2.1,hc.2.2.2.2⟩
  have ok':UL X.prog X.w H h':=fun c o q=>by
   refine (I.hok c o q).stay (fun d v hd r=>?_) (fun d r=>r) fun d xs r=>r
   rcases hd with e | e
   ·subst e
    obtain ⟨n1,n2,n3,n4⟩:=nne d o q
    exact kk d v n1 n2 n3 n4 r
   ·obtain ⟨n1,n2,n3,n4⟩:=nne d _ e
    exact kk d v n1 n2 n3 n4 r
  refine I.step (g':=s.gens) (d':=s.drawn) (t':=s.toks) (ch:=[z,TI,TO,i1,i2]) (fun c hc=>?_) (fun c o _ _ hc q _=>?_) (fun c o _ _ hc q _=>⟨o.slots,?_⟩)
    (fun c o _ q n=>n) (fun c o hc q=>⟨o,?_⟩) (fun c xs q=>q) (fun c o u q=>q) (fun c ps q=>⟨#[],by rw [q];simp⟩) (fun m hm=>?_) ok' I.bare
  ·obtain ⟨f0,f1,f2,f3,f4,f5⟩:=hf c hc
   exact ⟨f3,f1,f4,f5⟩
  ·obtain ⟨n1,n2,n3,n4⟩:=notin c hc;exact kk c o n1 n2 n3 n4 q
  ·obtain ⟨n1,n2,n3,n4⟩:=notin c hc;exact kk c o n1 n2 n3 n4 q
  ·obtain ⟨n1,n2,n3,n4⟩:=notin c hc;exact kk c o n1 n2 n3 n4 q
  ·obtain ⟨o,es,ep,ho,r⟩:=hm
   exact ⟨o,es,ep,kk _ o (Ne.symm (hf z (by simp)).2.1) (Ne.symm (hf TO (by simp)).2.1) (Ne.symm (hf i1 (by simp)).2.1) (Ne.symm (hf i2 (by simp)).2.1) ho,r⟩
 self:=fun _ _ _ _ _ st h=>wpAny_pyIter_zip st.1 h
section
variable {X:Cx}
def ZoA (K:PySem.W.Frag) (ta:TA):TI:=fun σ H R=>ta σ H fun vs H1=>∃a b,vs = [.ref a,.ref b]/\(∃xs,Zu K H1 a xs)/\(∃ys,Zu K H1 b ys)/\R (Itz K a b) H1
theorem Znt {a b:Expr}{ta:TA}{p pos tpos:Pos}{es:List Expr}{k:Nat} (hg:Gl X "zip") (hm:X.mg "zip" = none) (ha:PA X [a,b] ta) (hs:starEach [a,b] X.env = [(false,eval a X.env),(false,eval b X.env)]:=by rfl) (hs2:starEach [b] X.env = [(false,eval b X.env)]:=by rfl):
  PI X (.Tuple es k tpos) (.Call (.Name "zip" p) [a,b] [] pos) (ZoA X.K ta):=by
 intro pins s σ H R I h
 refine Call_ (GZ I hg hm boot_zip (PyProof.Rows.callWith_type1 (YR (ha pos pins s σ H _ I h) fun us s1 ⟨vs,H1,I1,r1,q1⟩=>?_) (by rw [hs,hs2]) (by rw [hs2];rfl)))
 obtain ⟨l1,l2,e,⟨xs,hq1⟩,⟨ys,hq2⟩,q⟩:=q1
 subst e
 obtain ⟨u,v,rfl,ru,rv⟩:=r1.two
 cases ru
 cases rv
 obtain ⟨its1,rv1,p1,hz1⟩:=I1.list hq1
 obtain ⟨its2,rv2,p2,hz2⟩:=I1.list hq2
 have L1:@LT.lt Nat _ l1 s1.heap.objs.size:=by obtain ⟨o,ho,_⟩:=p1.isList;exact aLt ho
 have L2:@LT.lt Nat _ l2 s1.heap.objs.size:=by obtain ⟨o,ho,_⟩:=p2.isList;exact aLt ho
 refine call_zip_2 p1.isList p2.isList fun h' g1 g2 g3 g4 g5 hsz kk=>?_
 have I2:Inv X pins σ H1 { s1 with heap:=h' }:=I1.kept (t':=s1.toks) kk
 refine wpAny_pyIter_zip (s:={ s1 with heap:=h' }) g1 ?_
 have ap:ZipApart (s1.heap.objs.size+4) (s1.heap.objs.size+2) (s1.heap.objs.size+3) s1.heap.objs.size (s1.heap.objs.size+1) l1 l2:=by
  constructor<;>(intro e;have e':@Eq Nat _ _:=e;lia)
 refine ⟨_,[s1.heap.objs.size+4,s1.heap.objs.size+2,s1.heap.objs.size+3,s1.heap.objs.size,s1.heap.objs.size+1],_,_,H1,rfl,I2,Zj1 l1 l2 _ _ _ _ _ ap,⟨g1,g2,⟨_,_,g3⟩,g4,g5⟩,fun c hc=>?_,q⟩
 have hb':@LE.le Nat _ s1.heap.objs.size c:=by
  simp only [List.mem_cons,List.not_mem_nil,or_false] at hc
  rcases hc with e | e | e | e | e<;>(subst e;first | exact Nat.le_refl _ | exact Nat.le_add_right _ _)
 exact I1.fpOk hb' (I1.hok.fresh hb')
theorem Zil {K:PySem.W.Frag}{a b:Expr}{ta:TA}{p pos tpos:Pos}{es:List Expr}{k:Nat} (hk:X.K=K) (hg:Gl X "zip") (hm:X.mg "zip" = none) (ha:PA X [a,b] ta) (hs:starEach [a,b] X.env = [(false,eval a X.env),(false,eval b X.env)]:=by rfl) (hs2:starEach [b] X.env = [(false,eval b X.env)]:=by rfl):
  PI X (.Tuple es k tpos) (.Call (.Name "zip" p) [a,b] [] pos) (ZoA K ta):=hk ▸ Znt hg hm ha hs hs2
end
end L2
namespace L2
open PySem PySem.Spec PyProof.Rows PyProof.V
inductive Sim (H:Hp):V->Prop
 | non:Sim H .non
 | bl (b:Bool):Sim H (.bl b)
 | int (i:Int):Sim H (.int i)
 | str (x:Str):Sim H (.str x)
 | lst {a:Addr}{xs:List V} (e:H a=some (.lst xs)):Sim H (.ref a)
 | tup {a:Addr}{xs:List V} (e:H a=some (.tup xs)):Sim H (.ref a)
def isStr:V->Bool
 | .str _=>true
 | _=>false
def isIn:V->Bool
 | .int _=>true
 | _=>false
inductive Zf4 (H:Hp):V->Option (Str×Int)->Prop
 | yes {a:Addr}{x:Str}{k:Int} (e:H a=some (.tup [.str x,.int k])):Zf4 H (.ref a) (some (x,k))
 | non:Zf4 H .non none
 | bl (b:Bool):Zf4 H (.bl b) none
 | int (i:Int):Zf4 H (.int i) none
 | str (x:Str):Zf4 H (.str x) none
 | lst {a:Addr}{xs:List V} (e:H a=some (.lst xs)):Zf4 H (.ref a) none
 | len {a:Addr}{xs:List V} (e:H a=some (.tup xs)) (n:xs.length≠2):Zf4 H (.ref a) none
 | fst {a:Addr}{u w:V} (e:H a=some (.tup [u,w])) (s:Sim H u) (n:isStr u=false):Zf4 H (.ref a) none
 | snd {a:Addr}{x:Str}{w:V} (e:H a=some (.tup [.str x,w])) (s:Sim H w) (n:isIn w=false):Zf4 H (.ref a) none
section
variable {X:Cx}{e a b:Expr}{es:List Expr}{te ta tb:TE}{t:TA}{pos:Pos}{st:Stmt}{rest:List Stmt}{ts us:TS}
structure PEc (X:Cx) (e:Expr) (t:TE):Prop where
 out:PE X e t
structure PAc (X:Cx) (es:List Expr) (t:TA):Prop where
 out:PA X es t
structure PSc (X:Cx) (st:Stmt) (t:TS):Prop where
 out:PS X st t
structure Zp4 (X:Cx) (st:List Stmt) (t:TS):Prop where
 out:PSs X st t
end
inductive Lit
 | non | bl (b:Bool) | int (i:Int) | str (x:Str) | tup (l:List Lit) | lst (l:List Lit)
mutual
inductive Zgu (H:Hp):V->Lit->Prop
 | non:Zgu H .non .non
 | bl (b:Bool):Zgu H (.bl b) (.bl b)
 | int (i:Int):Zgu H (.int i) (.int i)
 | str (x:Str):Zgu H (.str x) (.str x)
 | tup {a:Addr}{xs:List V}{l:List Lit} (e:H a=some (.tup xs)) (r:ZeS H xs l):Zgu H (.ref a) (.tup l)
 | lst {a:Addr}{xs:List V}{l:List Lit} (e:H a=some (.lst xs)) (r:ZeS H xs l):Zgu H (.ref a) (.lst l)
inductive ZeS (H:Hp):List V->List Lit->Prop
 | nil:ZeS H [] []
 | cons {v:V}{vs:List V}{l:Lit}{ls:List Lit} (a:Zgu H v l) (r:ZeS H vs ls):ZeS H (v::vs) (l::ls)
end
section
variable {X:Cx}{G:St->Hp->Prop}{e a b:Expr}{es:List Expr}{pos:Pos}{l:Lit}{ls la lb:List Lit}
def tL (G:St->Hp->Prop) (l:Lit):TE:=fun σ H Q=>G σ H /\ ∀v H',Zi H H'->Zgu H' v l->Q v H'
def tLs (G:St->Hp->Prop) (l:List Lit):TA:=fun σ H Q=>G σ H /\ ∀v H',Zi H H'->ZeS H' v l->Q v H'
structure PL (X:Cx) (G:St->Hp->Prop) (e:Expr) (l:Lit):Prop where
 out:PE X e (tL G l)
structure PLs (X:Cx) (G:St->Hp->Prop) (es:List Expr) (l:List Lit):Prop where
 out:PA X es (tLs G l)
end
section
variable {X:Cx}{st:Stmt}{rest:List Stmt}{t u:TS}
def Zps (t u:TS):TS:=fun D σ H=>∃I:St->Hp->Prop,t { D with nx:=I } σ H /\ ∀ σ' H',I σ' H'->u D σ' H'
theorem Zlf (h1:PS X st t) (h2:PSs X rest u):PSs X (st::rest) (Zps t u):=by
 intro pins s σ H D I h
 obtain ⟨W,a,b⟩:=h
 have c:PSs X (st::rest) (ZoB (fun D' σ' H'=>σ' = σ /\ H'=H/\D' = { D with nx:=u D } /\ t { D with nx:=W } σ H) u):=by
  refine Zc (fun pins s σ' H' D' I' q=>?_) h2
  obtain ⟨rfl,rfl,rfl,q⟩:=q
  refine YR (h1 pins s σ' H' _ I' q) fun f s' z=>?_
  cases f with
  | next=>obtain ⟨σ2,H2,I2,q2⟩:=z;exact ⟨σ2,H2,I2,b σ2 H2 q2⟩
  | _=>exact z
 exact c pins s σ H D I ⟨rfl,rfl,rfl,a⟩
end
def Exc (h:Heap) (a T:Addr) (C:Value):Prop:=
 ∃oe vs oT ts,h.get? a=some oe/\oe.cls=C/\oe.data = .fields vs/\vs[1]? = some (.ref T)/\h.get? T=some oT/\oT.data = .fields ts/\ts[3]? = some .none/\T≠a/\vs[2]? = some .none
theorem Exc.ne_dict {h:Heap}{a T b:Addr}{C:Value}{o:Obj} (x:Exc h a T C) (e:h.get? b=some o) (d:∀vs,o.data ≠ .fields vs):b≠a/\b≠T:=by
 obtain ⟨oe,vs,oT,ts,p1,_,p3,_,p5,p6,_⟩:=x
 refine ⟨fun z=>?_,fun z=>?_⟩
 ·rw [z,p1] at e;cases e;exact d _ p3
 ·rw [z,p5] at e;cases e;exact d _ p6
section
variable {M:Model}{A:Around}{E:Value->Shared->Prop}{s:Shared}{env:Env}{outer:List Env}{L a T:Addr}{C:Value}{base h:Heap}{Q:Unit->Shared->Prop}
theorem ZlD {o:Obj}{vs:Array Value}{k:Nat}{x:Value} (ho:s.heap.get? a=some o) (hd:o.data = .fields vs) (hk:k<vs.size)
  (h:∀h',(∃o',h'.get? a=some o'/\o'.cls=o.cls/\o'.data = .fields (vs.setIfInBounds k x))->Heap.SameBut a s.heap h'->Q () { s with heap:=h' }):wpAny M A (setField (.ref a) k x) Q E s:=
 wpAny_setField ho hd hk (h _ ⟨_,Heap.get?_update_self _ ho (Obj.isFreed_of_fields (Obj.data_mapFields hd _)),Obj.cls_mapFields ..,Obj.data_mapFields hd _⟩ (Heap.SameBut.update ..))
theorem Zib {oe:Obj}{vs:Array Value}{T:Option Addr} (hfr:A.frames=some (env::outer)) (hf:env.frame=some L) (hl:s.heap.FunFrames base (env::outer)) (ha:s.heap.get? a=some oe) (hv:oe.data = .fields vs) (h1:vs[1]? = some (T.elim .none .ref)) (h2:vs[2]? = some .none)
  (hT:∀t,T=some t->t≠a /\ ∃oT ts,s.heap.get? t=some oT/\oT.data = .fields ts/\ts[3]? = some .none)
  (hQ:∀h' T',(∀b o,s.heap.get? b=some o->b∉frs (env::outer)->b≠a->T≠some b->h'.get? b=some o)->(∀b o,s.heap.get? b=some o->b∈frs (env::outer) -> ∃sl,h'.get? b=some { o with slots:=sl }) ->
   Exc h' a T' oe.cls->s.heap.get? T'=none->Q () { s with heap:=h' }):wpAny M A (noteFrame (.ref a) env) (fun _ s₂=>wpAny M A (setFlight (.ref a) none) Q E s₂) E s:=by
 have nf:∀b o,s.heap.get? b=some o->(∃ws,o.data = .fields ws)->b∉frs (env::outer):=fun b o e ⟨ws,d⟩ hb=>by
  obtain ⟨_,o',e',n⟩:=hl.mem hb
  rw [e] at e';cases e'
  exact n ws d
 have sz:2<vs.size:=(Array.getElem?_eq_some_iff.mp h2).1
 have entry:∀(head:Value) (nx:Bool) (h0:Heap),(∀b o,s.heap.get? b=some o->T≠some b->h0.get? b=some o)->(∀b o,s.heap.get? b=some o -> ∃o',h0.get? b=some o')->h0.FunFrames base (env::outer) ->
   wpAny M A (do let f <- frameOf env;let pl <- entryPlaceOf L nx;let b <- EntryCells.newEntry head f .none (rawInt L) .none pl;setField (.ref a) 1 b) (fun _ s₂=>wpAny M A (setFlight (.ref a) none) Q E s₂) E { s with heap:=h0 }:=by
  intro head nx h0 k0 n0 hl0
  have a0:h0.get? a=some oe:=k0 a oe ha fun z=>(hT a z).1 rfl
  refine wpAny_bind (wpAny_frameOf_fun hfr hl0 hf fun h₁ so=>wpAny_bind (wpAny_entryPlaceOf fun pl hpl=>?_))
  unfold EntryCells.newEntry newFields
  refine wpAny_bind (wpAny_newObj_type ?_ (hpl.sizeOk5 _ _ _ _ _))
  generalize hob:([head,Value.ref L,.none,rawInt L,.none]++(if pl.isEmpty then List.replicate 6 Value.none else pl)).toArray=ts
  have t3:3<ts.size:=by rw [<- hob];simp only [List.size_toArray,List.length_append,List.length_cons,List.length_nil];lia
  have a1:h₁.get? a=some oe:=(so.2.1 a (nf a oe ha ⟨vs,hv⟩)).trans a0
  have ne:h₁.objs.size≠a:=Nat.ne_of_gt (Heap.lt_size a1)
  refine ZlD (Heap.get?_push_of_some _ a1) hv (by lia) fun g2 ⟨o2,e2,c2,d2⟩ sb2=>?_
  have eT:g2.get? h₁.objs.size=some _:=(sb2.2 _ ne).trans (Heap.get?_push_size h₁ rfl)
  unfold setFlight
  refine wpAny_bind (wpAny_field (x:=.ref h₁.objs.size) e2 d2 (by simp [show 1<vs.size by lia]) ?_)
  rw [if_pos (by simp)]
  refine ZlD eT rfl t3 fun h3 ⟨o3,e3,c3,d3⟩ sb3=>?_
  have old:∀b o,h₁.get? b=some o->b≠a->h3.get? b=some o:=fun b o e z=>(sb3.2 b (Nat.ne_of_lt (Heap.lt_size e))).trans ((sb2.2 b z).trans (Heap.get?_push_of_some _ e))
  have fresh:s.heap.get? h₁.objs.size=none:=by
   cases q:s.heap.get? h₁.objs.size with
   | none=>rfl
   | some o=>
    exfalso
    obtain ⟨o',z⟩:=n0 _ o q
    obtain ⟨sl,y⟩:=so.2.2 _ _ z
    exact Nat.lt_irrefl _ (Heap.lt_size y)
  refine hQ h3 h₁.objs.size (fun b o e n na nt=>old b o ((so.2.1 b n).trans (k0 b o e nt)) na) (fun b o e hb=>?_) ⟨o2,_,o3,_,(sb3.2 a (Ne.symm ne)).trans e2,c2,d2,by simp [show 1<vs.size by lia],e3,d3,by simp [t3],ne,by rw [Array.getElem?_setIfInBounds_ne (by decide)];exact h2⟩ fresh
  obtain ⟨_,o',e',n⟩:=hl.mem hb
  rw [e] at e';cases e'
  obtain ⟨sl,y⟩:=so.2.2 b o (k0 b o e fun z=>by obtain ⟨_,oT,ts,q,d,_⟩:=hT b z;rw [e] at q;cases q;exact n _ d)
  exact ⟨sl,old b _ y fun z=>by rw [z,ha] at e;cases e;exact n _ hv⟩
 unfold noteFrame
 simp only [hf]
 refine wpAny_bind (wpAny_field ha hv h1 ?_)
 cases T with
 | none=>
  rw [if_neg (by decide)]
  exact entry _ _ s.heap (fun b o e _=>e) (fun b o e=>⟨o,e⟩) hl
 | some t=>
  obtain ⟨nt,oT,ts,eT,dT,f3⟩:=hT t rfl
  show wpAny M A (if (Value.ref t != Value.none)=true then _ else _) _ _ s
  rw [if_pos (by simp)]
  refine wpAny_bind (wpAny_field eT dT f3 ?_)
  rw [if_neg (by simp [rawInt])]
  refine wpAny_bind (ZlD eT dT (Array.getElem?_eq_some_iff.mp f3).1 fun h' ⟨o1,g1,_⟩ sb=>?_)
  refine entry _ _ h' (fun b o e n=>(sb.2 b fun z=>n (by rw [z])).trans e) (fun b o e=>by
   by_cases z:b=t
   ·exact ⟨o1,by rw [z];exact g1⟩
   ·exact ⟨o,(sb.2 b z).trans e⟩) (hl.of_keeps fun b o e n=>⟨o,(sb.2 b fun z=>?_).trans e,rfl⟩)
  rw [z,eT] at e;cases e
  exact n _ dT
theorem ZhQ {args:List Value} (hfr:A.frames=some (env::outer)) (hf:env.frame=some L) (hl:h.FunFrames base (env::outer)) (hx:Heap.MadeExcOf h s.heap a C args)
  (hQ:∀h' T,(∀b o,h.get? b=some o->b∉frs (env::outer)->h'.get? b=some o)->(∀b o,h.get? b=some o->b∈frs (env::outer) -> ∃sl,h'.get? b=some { o with slots:=sl }) ->
   Exc h' a T C->h.get? a=none->h.get? T=none->Q () { s with heap:=h' }):wpAny M A (leaving env (.ref a)) Q E s:=by
 obtain ⟨t,ha,_⟩:=hx.there
 have was:∀b,s.heap.get? b=none->h.get? b=none:=fun b e=>by
  cases q:h.get? b with
  | none=>rfl
  | some o=>rw [hx.keeps b o q] at e;cases e
 exact wpAny_bind (Zib (T:=none) hfr hf (hl.of_keeps fun b o e _=>⟨o,hx.keeps b o e,rfl⟩) ha rfl rfl rfl (fun _ z=>nomatch z) fun h' T' k1 k2 ex nT=>
  hQ h' T' (fun b o e n=>k1 b o (hx.keeps b o e) n (fun z=>by rw [z,hx.new] at e;cases e) (fun z=>nomatch z)) (fun b o e hb=>k2 b o (hx.keeps b o e) hb) ex hx.new (was _ nT))
theorem looked (hfr:A.frames=some (env::outer)) (hf:env.frame=some L) (hl:s.heap.FunFrames base (env::outer)) (hx:Exc s.heap a T C)
  (hQ:∀h' T',(∀b o,s.heap.get? b=some o->b∉frs (env::outer)->b≠a->b≠T->h'.get? b=some o)->(∀b o,s.heap.get? b=some o->b∈frs (env::outer) -> ∃sl,h'.get? b=some { o with slots:=sl }) ->
   Exc h' a T' C->(T'=T∨s.heap.get? T'=none)->Q () { s with heap:=h' }):wpAny M A (noteFrame (.ref a) env) (fun _ s₂=>wpAny M A (setFlight (.ref a) none) Q E s₂) E s:=by
 obtain ⟨oe,vs,oT,ts,p1,rfl,p3,p4,p5,p6,p7,p8,p9⟩:=hx
 exact Zib (T:=some T) hfr hf hl p1 p3 p4 p9 (fun t z=>by cases z;exact ⟨p8,oT,ts,p5,p6,p7⟩) fun h' T' k1 k2 ex nT=>hQ h' T' (fun b o e n na nt=>k1 b o e n na fun z=>nt (Option.some.inj z).symm) k2 ex (.inr nT)
theorem ZjJ (hfr:A.frames=some (env::outer)) (hf:env.frame=some L) (hl:s.heap.FunFrames base (env::outer)) (hx:Exc s.heap a T C)
  (hQ:∀h' T',(∀b o,s.heap.get? b=some o->b∉frs (env::outer)->b≠a->b≠T->h'.get? b=some o)->(∀b o,s.heap.get? b=some o->b∈frs (env::outer) -> ∃sl,h'.get? b=some { o with slots:=sl }) ->
   Exc h' a T' C->(T'=T∨s.heap.get? T'=none)->Q () { s with heap:=h' }):wpAny M A (leaving env (.ref a)) Q E s:=wpAny_bind (looked hfr hf hl hx hQ)
theorem landed (hx:Exc s.heap a T C) (hQ:∀h',(∀b o,s.heap.get? b=some o->b≠a->b≠T->h'.get? b=some o)->Exc h' a T C->Q () { s with heap:=h' }):wpAny M A (setFlight (.ref a) none) Q E s:=by
 obtain ⟨oe,vs,oT,ts,p1,p2,p3,p4,p5,p6,p7,p8,p9⟩:=hx
 unfold setFlight
 refine wpAny_bind (wpAny_field p1 p3 p4 ?_)
 rw [if_pos (by simp)]
 have t3:=(Array.getElem?_eq_some_iff.mp p7).1
 refine ZlD p5 p6 t3 fun h' ⟨o',e',c',d'⟩ sb=>hQ h' (fun b o e _ nt=>(sb.2 b nt).trans e) ⟨oe,vs,o',_,(sb.2 a (Ne.symm p8)).trans p1,p2,p3,p4,e',d',by simp [t3],p8,p9⟩
end
def CX1 (P:Program) (w:World):CXT:=fun outer H s E e s'=>∃(a T C:Addr) (H':Hp),e = .ref a/\s'.os=s.os/\AllBare s'.gens/\Un (frs outer) [] H H' s.heap s'.heap/\UL P w H' s'.heap /\
 Exc s'.heap a T (.ref C)/\s.heap.get? a=none/\s.heap.get? T=none/\H' a=none/\H' T=none/\E (.ref C) none H'
section
variable {P:Program}{w:World}{K:PySem.W.Frag}{mg:Str->Option Value}{base:Heap}{N:List Str}{qual:Str}{scope:Scope}{f:Addr}{cd:Value}{A:Around}{outer:List Env}{s₀ s:Shared}{H₀ H:Hp}{E:XK}{CX:CXT}{pins:List (Addr×Obj)} {σ:L2.St}
theorem ZeK {h:Heap}{b:Addr}{o:HO} (ok:UL P w H h) (e:H b=some o):∃ob,h.get? b=some ob:=(ok b o e).there
theorem JA {h:Heap}{b:Addr} (ok:UL P w H h) (e:h.get? b=none):H b=none:=by
 cases q:H b with
 | none=>rfl
 | some o=>
  obtain ⟨ob,z⟩:=ZeK ok q
  rw [e] at z
  cases z
theorem ZeY {a T:Addr}{h':Heap} (I:Inv (WZ CX P w K mg base N qual scope f cd A outer s₀ H₀ E) pins σ H s)
  (na:H a=none/\s₀.heap.get? a=none) (nT:H T=none/\s₀.heap.get? T=none)
  (keep:∀b o,s.heap.get? b=some o->b∉frs (WZ CX P w K mg base N qual scope f cd A outer s₀ H₀ E).stack->b≠a->b≠T->h'.get? b=some o)
  (slot:∀b o,s.heap.get? b=some o->b∈frs (WZ CX P w K mg base N qual scope f cd A outer s₀ H₀ E).stack -> ∃sl,h'.get? b=some { o with slots:=sl }):
  Un (frs outer) [] H₀ H s₀.heap h'/\UL P w H h':=by
 have B:Un (frs outer) [] H₀ H s₀.heap s.heap:=I.base
 have neL:∀b o,s₀.heap.get? b=some o->b∉frs outer->b∉frs (WZ CX P w K mg base N qual scope f cd A outer s₀ H₀ E).stack:=fun b o e nb hb=>by
  rcases List.mem_cons.mp (I.stkSub b hb) with z | z
  ·exact absurd (Nat.lt_of_lt_of_le (Heap.lt_size e) I.ok.above) (by rw [z];exact Nat.lt_irrefl _)
  ·exact nb z
 have nea:∀b o,s₀.heap.get? b=some o->b≠a/\b≠T:=fun b o e=>⟨(fun z=>by rw [z,na.2] at e;cases e),(fun z=>by rw [z,nT.2] at e;cases e)⟩
 have any:∀b o,s.heap.get? b=some o->b≠a->b≠T -> ∃o',h'.get? b=some o':=fun b o e z1 z2=>by
  by_cases hb:b∈frs (WZ CX P w K mg base N qual scope f cd A outer s₀ H₀ E).stack
  ·obtain ⟨sl,q⟩:=slot b o e hb
   exact ⟨_,q⟩
  ·exact ⟨o,keep b o e hb z1 z2⟩
 refine ⟨⟨fun b o e n hb hx=>keep b o (B.keep b o e n hb hx) (neL b o e hb) (nea b o e).1 (nea b o e).2,fun b o e n hb hx=>?_,B.free,fun b o e hx=>?_,B.tups,B.frzs,B.tbls⟩,fun b u e=>?_⟩
 ·obtain ⟨sl,q⟩:=B.slot b o e n hb hx
  obtain ⟨sl',q'⟩:=slot b _ q (by
   show b∈frs (envOfC qual scope s₀.heap.objs.size f cd::outer)
   unfold frs
   rw [List.filterMap_cons]
   exact List.mem_cons_of_mem _ hb)
  exact ⟨sl',q'⟩
 ·obtain ⟨o',q⟩:=B.there b o e hx
  exact any b o' q (nea b o e).1 (nea b o e).2
 ·refine (I.hok b u e).stay (fun c v hc q=>?_) (fun _ q=>q) fun _ _ q=>q
  have hH:H c≠none:=by
   rcases hc with rfl | z
   ·rw [e];exact fun z=>nomatch z
   ·rw [z];exact fun z=>nomatch z
  exact keep c v q (fun z=>hH (I.stkFree c z)) (fun z=>hH (by rw [z];exact na.1)) (fun z=>hH (by rw [z];exact nT.1))
theorem Wd {b:Addr} (I:Inv (WZ CX P w K mg base N qual scope f cd A outer s₀ H₀ E) pins σ H s) (e:s.heap.get? b=none):s₀.heap.get? b=none:=by
 cases q:s₀.heap.get? b with
 | none=>rfl
 | some o=>
  obtain ⟨o',z⟩:=I.base.there b o q (fun y=>nomatch y)
  rw [e] at z
  cases z
theorem Zlz {a C:Addr}{args:List Value}{h':Heap}{tk:Nat} (I:Inv (WZ (CX1 P w) P w K mg base N qual scope f cd A outer s₀ H₀ E) pins σ H s) (hx:Heap.MadeExcOf s.heap h' a (.ref C) args) (hE:E (.ref C) none H):
  (WZ (CX1 P w) P w K mg base N qual scope f cd A outer s₀ H₀ E).xe (.ref a) { s with heap:=h',toks:=tk }:=by
 refine ZhQ (L:=s₀.heap.objs.size) I.ok.frames rfl I.stack (s:={ s with heap:=h',toks:=tk }) hx fun h2 T keep slot ex na nT=>?_
 obtain ⟨u,ok⟩:=ZeY I ⟨JA I.hok na,Wd I na⟩ ⟨JA I.hok nT,Wd I nT⟩ (fun b o e n _ _=>keep b o e n) slot
 exact ⟨a,T,C,H,rfl,I.os,I.bare,u,ok,ex,Wd I na,Wd I nT,JA I.hok na,JA I.hok nT,hE⟩
theorem ZmB:Passes (CX1 P w) (WZ (CX1 P w) P w K mg base N qual scope f cd A outer s₀ H₀ E) E:=by
 intro pins σ H s e s' I c
 obtain ⟨a,T,C,H',rfl,os,bare,un,ok,ex,na,nT,ha,hT,hE⟩:=c
 have I':Inv (WZ (CX1 P w) P w K mg base N qual scope f cd A outer s₀ H₀ E) pins σ H' s':=I.call' os un ok bare (fun b z=>nomatch z)
 refine ZjJ (L:=s₀.heap.objs.size) I'.ok.frames rfl I'.stack ex fun h2 T' keep slot ex' oT=>?_
 obtain ⟨u,ok'⟩:=ZeY I' ⟨ha,Wd I na⟩ ⟨hT,Wd I nT⟩ keep slot
 refine ⟨a,T',C,H',rfl,I'.os,I'.bare,u,ok',ex',Wd I na,?_,ha,?_,hE⟩
 ·rcases oT with z | z
  ·rw [z];exact Wd I nT
  ·exact Wd I' z
 ·rcases oT with z | z
  ·rw [z];exact hT
  ·exact JA I'.hok z
end
theorem ZjQ {K:PySem.W.Frag}{C:Addr}{bmB:List Value}{newId:String}{h:Heap} (KI:K.In h) (hq:PySem.W.excIn K C bmB newId=true):
  ∃bm N nm qn bs hd sn sub ab col dd k0 k1 k2 k3 k5 mN,h.get? C=some (excClassObj nm qn C N bs bm hd sn sub ab col dd k0 k1 k2 k3 k5 newId)/\h.Ns N mN/\mN "__init__" = none/\OwnTail h bmB bm:=by
 unfold PySem.W.excIn at hq
 split at hq
 ·rename_i dd dat slots hob
  split at hq
  ·rename_i C2 tail k0 k1 k2 k3 nid k5 hmro hsl
   simp only [Bool.and_eq_true,Bool.not_eq_true',beq_iff_eq] at hq
   obtain ⟨⟨⟨⟨⟨e1,e2⟩,e3⟩,e4⟩,e5⟩,e6⟩:=hq
   subst e1
   subst e2
   obtain ⟨nm,bs,mro,ns,qn,hd,sn,sub,ab,col,del⟩:=dat
   simp only at hmro e3 e5 e6
   subst hmro
   subst e3
   obtain ⟨sl⟩:=slots
   simp only at hsl
   subst hsl
   exact ⟨tail,ns,nm,qn,bs,hd,sn,sub,ab,col,dd,k0,k1,k2,k3,k5,_,KI _ _ hob,.of_isNs (PySem.W.isNs_of_in KI e5),PySem.W.nsMap_none_of_in KI e5 e6,PySem.W.tail_of_in KI e4⟩
  ·exact nomatch hq
 ·exact nomatch hq
def bmV:List Value:=[.type "ValueError", .type "Exception", .type "BaseException", .type "object"]
def Zne (C:Addr) (E:XK) (ta:TA):TS:=fun _ σ H=>ta σ H fun vs H1=>vs.length<=sizeLine/\E (.ref C) none H1
section
variable {P:Program}{w:World}{K:PySem.W.Frag}{mg:Str->Option Value}{base:Heap}{N:List Str}{qual:Str}{scope:Scope}{f:Addr}{cd:Value}{A:Around}{outer:List Env}{s₀:Shared}{H₀:Hp}{E:XK}
theorem ZgZ {x:Str}{C:Addr}{e:Expr}{es:List Expr}{ta:TA}{np cpos pos:Pos} (hg:Gl (WZ (CX1 P w) P w K mg base N qual scope f cd A outer s₀ H₀ E) x) (hm:mg x=some (.ref C)) (hc:PySem.W.excIn K C bmV "ValueError.__new__" = true)
  (ha:PA (WZ (CX1 P w) P w K mg base N qual scope f cd A outer s₀ H₀ E) (e::es) ta)
  (he:starEach (e::es) (WZ (CX1 P w) P w K mg base N qual scope f cd A outer s₀ H₀ E).env=(false,eval e (WZ (CX1 P w) P w K mg base N qual scope f cd A outer s₀ H₀ E).env)::starEach es (WZ (CX1 P w) P w K mg base N qual scope f cd A outer s₀ H₀ E).env:=by rfl)
  (hp:(backTo cpos (starEach es (WZ (CX1 P w) P w K mg base N qual scope f cd A outer s₀ H₀ E).env)).any (·.1)=false:=by rfl) (hd:(x==("__debug__" : Str))=false:=by decide):
  PS (WZ (CX1 P w) P w K mg base N qual scope f cd A outer s₀ H₀ E) (.Raise (some (.Call (.Name x np) (e::es) [] cpos)) none pos) (Zne C E ta):=by
 intro pins s σ H D I h
 obtain ⟨bm,NN,nm,qn,bs,hdc,sn,sub,ab,col,dd,k0,k1,k2,k3,k5,mN,hC,hN,hni,T⟩:=ZjQ I.mod.kin hc
 have hb:bmV.contains (.type "BaseException")=true:=PySem.F.excBase_ValueError.hasBase
 refine wpAny_Raise_call_subT (C:=C) (nm:=nm) (q:=qn) (N:=NN) (bs:=bs) (bm:=bm) (bmB:=bmV) (hdct:=hdc) (sn:=sn) (sub:=sub) (ab:=ab) (col:=col) (dd:=dd) (k0:=k0) (k1:=k1) (k2:=k2) (k3:=k3) (k5:=k5)
  (newId := "ValueError.__new__") PySem.F.excBase_ValueError (mN:=mN) (T.hasType hb) (I.ok.hd rfl) (by rw [he];show (false||(backTo cpos (starEach es _)).any (·.1))=false;rw [hp];rfl) hni (ZbX I hg hm ⟨rfl,?_⟩ hd)
 have hz:=ha cpos pins s σ H _ I h
 rw [he] at hz ⊢
 refine Calls.evalArgs_plain (wpAny_mono hz (fun us s2 ⟨vs,H2,I2,rv,hl,hE⟩=>?_) fun _ _ y=>y)
 refine ⟨rfl,by rw [<- rv.length];exact hl,I2.bk _ _ hC,hN.keeps I2.bk,T.keeps I2.bk,fun h' a mk=>?_⟩
 exact Zlz (tk:=s2.toks) I2 mk hE
end
structure ZgK (M:Model) (h:Heap) (C:Addr):Prop where
 ga:PySem.W.Looks M h (typeLookup (.ref C) "__getattribute__") (some (.builtin "BaseException.__getattribute__"))
 ca:PySem.W.Looks M h (typeLookup (.ref C) "__class__") (some (.builtin "object.__class__"))
 ob:PySem.W.Looks M h (isSubtype (.ref C) (.type "object")) true
 be:PySem.W.Looks M h (isSubtype (.ref C) (.type "BaseException")) true
 gn:PySem.W.Looks M h (typeLookup (.ref C) "__getattr__") none
section
variable {prog:Program}{w:World}{A:Around}{E:Value->Shared->Prop}{h:Heap}{g:Array GenState}{d:Drawn}{t:Nat}{os:OsState}{a C:Addr}{o:Obj}
theorem ZmW {R:Result->Shared->Prop} (L:ZgK (model prog w) h C) (hx:h.get? a=some o) (hc:o.cls = .ref C) (hq:R (.ok (.ret (.ref C))) ⟨h,g,d,t,os⟩):
  codeAny (model prog w) A (.call (.builtin "getset_descriptor.__get__") ⟨[.builtin "object.__class__", .ref a,.ref C],[]⟩) R ⟨h,g,d,t,os⟩:=by
 have hT5:(⟨h,g,d,t,os⟩:Shared).TypeIs (.builtin "object.__class__") "getset_descriptor" := PySem.F.typeOf_object_class
 have Lo:PySem.W.Looks (model prog w) h (isSubtype (.ref C) (.type (".".intercalate ("object.__class__".cutAt '.').dropLast))) true:=by
  rw [PySem.F.owner_object_class];exact L.ob
 refine codeAny_call_builtin PySem.F.slot_gs_get.plain PySem.F.entry_gs_get (PySem.F.slot_gs_get.check _ _ _ _ _ _ _ _ hT5 (PySem.F.args_gs_get _ _ _) ?_)
 repeat (any_goals (first | assumption | (with_reducible refine wpAny_loadPart_at hx ?_;rw [hc]) | with_reducible refine Lo.at ?_ | wp_step))
 refine ⟨Code.quiet_builtin _ (by decide +kernel),codeAny_builtin PySem.F.entry_object_class ?_⟩
 repeat (any_goals (first | assumption | (with_reducible refine wpAny_loadPart_at hx ?_;rw [hc]) | wp_step))
theorem Zkn {tk:Tok}{Q:Fin->Shared->Prop} (L:ZgK (model prog w) h C) (hx:h.get? a=some o) (hc:o.cls = .ref C) (hq:Q (.done (.ret (.ref C))) ⟨h,g,d,t,os⟩):
  wpAny (model prog w) A (Builtin.«object.__getattribute__» ⟨[.ref a,.str "__class__" tk],[]⟩) Q E ⟨h,g,d,t,os⟩:=by
 have hT5:(⟨h,g,d,t,os⟩:Shared).TypeIs (.builtin "object.__class__") "getset_descriptor" := PySem.F.typeOf_object_class
 have f5:=PySem.F.typeOf_object_class
 have f6:=PySem.F.slot_gs_get.lookup
 have f7:=PySem.F.slot_gs_set.lookup
 have Lc:=L.ca
 repeat (any_goals (first | assumption | (with_reducible refine wpAny_loadPart_at hx ?_;rw [hc]) | with_reducible refine Lc.at ?_ | wp_step))
 refine ZmW L hx hc ?_
 repeat (any_goals (first | assumption | wp_step))
theorem Zj7 {M:Model}{nameV:Value}{Q:Unit->Shared->Prop} (L:ZgK M h C) (hx:h.get? a=some o) (hc:o.cls = .ref C) (hq:Q () ⟨h,g,d,t,os⟩):
  wpAny M A (checkBuiltinCall "BaseException.__getattribute__" ⟨[.ref a,nameV],[]⟩) Q E ⟨h,g,d,t,os⟩:=by
 have kd:builtinKind "BaseException.__getattribute__" = some .slot:=by decide +kernel
 have sp:splitId "BaseException.__getattribute__" = some ("BaseException", "__getattribute__"):=by decide +kernel
 have ag:=PySem.F.args_bexc_ga (.ref a) nameV
 have Lb:=L.be
 simp only [checkBuiltinCall,kd,sp]
 refine wpAny_bind ?_
 unfold isInstance
 repeat (first | (with_reducible refine wpAny_loadPart_at hx ?_;rw [hc]) | with_reducible refine Lb.at ?_ | wp_step)
 exact hq
theorem ZoT {tk:Tok}{Q:Value->Shared->Prop} (L:ZgK (model prog w) h C) (hx:h.get? a=some o) (hc:o.cls = .ref C) (hq:Q (.ref C) ⟨h,g,d,t,os⟩):
  wpAny (model prog w) A (getAttrBy (.ref a) (.str "__class__" tk) false) Q E ⟨h,g,d,t,os⟩:=by
 have f3:=PySem.F.excAttr_ValueError.ga.bind (.ref a)
 have e2:(Value.builtin "BaseException.__getattribute__" == Value.builtin "object.__getattribute__")=false:=by decide +kernel
 have e1:(onTheHeap (Value.ref C)&&Value.builtin "BaseException.__getattribute__" == Value.builtin "object.__getattribute__")=false:=by rw [e2];rfl
 have Lg:=L.ga
 have Ln:=L.gn
 repeat (any_goals (first | assumption | (with_reducible refine wpAny_loadPart_at hx ?_;rw [hc]) | with_reducible refine Lg.at ?_ | with_reducible refine Ln.at ?_ | wp_step))
 refine codeAny_call_builtin PySem.F.excAttr_ValueError.ga.plain PySem.F.entry_bexc_ga (Zj7 L hx hc (Zkn L hx hc ?_))
 repeat (any_goals (first | assumption | wp_step))
theorem ZlB {Q:Option Value->Shared->Prop} (L:ZgK (model prog w) h C) (hx:h.get? a=some o) (hc:o.cls = .ref C) (hq:Q (some (.ref C)) ⟨h,g,d,t+1,os⟩):
  wpAny (model prog w) A (getAttr? (.ref a) "__class__") Q E ⟨h,g,d,t,os⟩:=by
 unfold getAttr? getAttrBy?
 repeat (any_goals (first | assumption | with_reducible apply ZoT L hx hc | wp_step))
theorem ZdS {K:PySem.W.Frag}{a C:Addr} (h1:PySem.W.findIn K (.ref C) "__getattribute__" = some (some (.builtin "BaseException.__getattribute__"))) (h2:PySem.W.findIn K (.ref C) "__getattr__" = some none)
  (h3:PySem.W.findIn K (.ref C) "__class__" = some (some (.builtin "object.__class__"))) (h4:PySem.W.mroIn K C (.type "object")=some true) (h5:PySem.W.mroIn K C (.type "BaseException")=some true) (h6:(PySem.W.clsIn K C).isSome=true):
  PySem.W.KitX K (.ref a) (.ref C) (fun h=>∃o,h.get? a=some o/\o.cls = .ref C) where
 ty:=fun _ _ _ ⟨o,e,c⟩=>c ▸ (PySem.W.Looks.ld e).andThen .now
 it:=fun _ _ KI _=>by
  obtain ⟨cd,z⟩:=Option.isSome_iff_exists.mp h6
  unfold PySem.W.clsIn at z
  split at z
  ·rename_i ho
   intro A' Q' E' s' k q
   unfold isType loadHead
   refine wpAny_bind (wpAny_loadPart (k _ _ (KI _ _ ho)) (wpAny_pure ?_))
   exact q
  ·exact nomatch z
 ne:=fun h tp dd its n sl KI htp=>by
  obtain ⟨cd,z⟩:=Option.isSome_iff_exists.mp h6
  refine Bool.eq_false_iff.mpr fun q=>?_
  have eq:C=tp:=Value.ref.inj (beq_iff_eq.mp q)
  rw [<- eq] at htp
  unfold PySem.W.clsIn at z
  split at z
  ·rename_i ho
   have:=(KI _ _ ho).symm.trans htp
   cases this
  ·exact nomatch z
 ca:=fun {prog w A E Q s} KI ⟨o,e,c⟩ k=>by
  obtain ⟨hh,g,d,t,os⟩:=s
  exact ZlB ⟨PySem.W.looks_findIn KI h1,PySem.W.looks_findIn KI h3,PySem.W.looks_mroIn KI h4,PySem.W.looks_mroIn KI h5,PySem.W.looks_findIn KI h2⟩ e c k
end
section
variable {M:Model}{A:Around}{E:Value->Shared->Prop}{h:Heap}{g:Array GenState}{d:Drawn}{t:Nat}{os:OsState}
variable {nm q nmD qD:Str}{C N D ND:Addr}{bs bm bsD bmD:List Value}{hdct hdD:Bool}{sn snD:List Str}{sub subD:List Value}{ab abD:Bool}{col colD:Option Bool}{dd ddD:Option Addr}{k0 k1 k2 k3 k5 j0 j1 j2 j3 j5:Option Value}{newId newD:String}
theorem ZiT {e:Addr}{oe:Obj}{Q:Bool->Shared->Prop} (hD:h.get? D=some (excClassObj nmD qD D ND bsD bmD hdD snD subD abD colD ddD j0 j1 j2 j3 j5 newD)) (he:h.get? e=some oe) (hcls:oe.cls = .ref C)
  (hbD:bmD.contains (.type "BaseException")=true) (hsub:PySem.W.Looks M h (isSubtype (.ref C) (.ref D)) true) (hq:Q true ⟨h,g,d,t,os⟩):wpAny M A (excMatches (.ref e) (.ref D)) Q E ⟨h,g,d,t,os⟩:=by
 have hcB:(Value.ref D::bmD).contains (.type "BaseException")=true:=by rw [List.contains_cons,hbD,Bool.or_true]
 have f:=tc_notTuple
 unfold excMatches
 repeat (first | (with_reducible refine wpAny_loadPart_at he ?_;rw [hcls]) | with_reducible refine wpAny_loadPart_at hD ?_ | (with_reducible refine wpAny_isSubtype_exc hD ?_;rw [hcB]) | with_reducible refine hsub.at ?_ | wp_step)
 exact hq
end
abbrev Cx.nailed (X:Cx) (pins:List (Addr×Obj)):Cx:={ X with pn:=X.pn++pins }
theorem Cx.Ok.nailed {X:Cx} (ok:X.Ok) (pins:List (Addr×Obj)):(X.nailed pins).Ok:=
 ⟨ok.mod,ok.kind,ok.glob,ok.blt,ok.above,ok.inj,ok.has,ok.cab,ok.hd,ok.frames,ok.stk,ok.exf,ok.bs,ok.bsz,ok.noex,ok.exfs,ok.funs,ok.frf⟩
theorem Cx.Ok.unnailed {X:Cx}{pins:List (Addr×Obj)} (ok:(X.nailed pins).Ok):X.Ok:=
 ⟨ok.mod,ok.kind,ok.glob,ok.blt,ok.above,ok.inj,ok.has,ok.cab,ok.hd,ok.frames,ok.stk,ok.exf,ok.bs,ok.bsz,ok.noex,ok.exfs,ok.funs,ok.frf⟩
section
variable {X:Cx}{pins ps:List (Addr×Obj)} {σ:L2.St}{H:Hp}{s:Shared}
theorem Inv.nail (I:Inv X pins σ H s):Inv (X.nailed pins) [] σ H s:=⟨I.ok.nailed pins,I.os,I.bare,I.base,I.loc,I.cell,I.free,I.freeC,fun p hp=>I.pin p (by simpa using hp),I.hok,I.len⟩
theorem Inv.unnail (I:Inv (X.nailed pins) ps σ H s):Inv X pins σ H s:=⟨I.ok.unnailed,I.os,I.bare,I.base,I.loc,I.cell,I.free,I.freeC,fun p hp=>I.pin p (List.mem_append_left _ hp),I.hok,I.len⟩
theorem Inv.left {a T:Addr}{h':Heap} (I:Inv X pins σ H s) (hex:X.ex = []) (na:H a=none/\X.s₀.heap.get? a=none) (nT:H T=none/\X.s₀.heap.get? T=none)
  (np:∀p∈X.pn++pins,p.1≠a/\p.1≠T) (xc:∃C,Exc s.heap a T C)
  (keep:∀b o,s.heap.get? b=some o->b∉frs X.stack->b≠a->b≠T->h'.get? b=some o) (slot:∀b o,s.heap.get? b=some o->b∈frs X.stack -> ∃sl,h'.get? b=some { o with slots:=sl }):
  Inv X pins σ H { s with heap:=h' }:=by
 obtain ⟨C0,xc⟩:=xc
 have up:∀b o,s.heap.get? b=some o->b≠a->b≠T -> ∃sl,h'.get? b=some { o with slots:=sl }:=fun b o e z1 z2=>by
  by_cases hb:b∈frs X.stack
  ·exact slot b o e hb
  ·exact ⟨o.slots,keep b o e hb z1 z2⟩
 have neL:∀b o,X.s₀.heap.get? b=some o->b∉X.fs->b∉frs X.stack:=fun b o e nb hb=>by
  rcases List.mem_cons.mp (I.stkSub b hb) with z | z
  ·exact absurd (Nat.lt_of_lt_of_le (Heap.lt_size e) I.ok.above) (by rw [z];exact Nat.lt_irrefl _)
  ·exact nb z
 have nea:∀b o,X.s₀.heap.get? b=some o->b≠a/\b≠T:=fun b o e=>⟨(fun z=>by rw [z,na.2] at e;cases e),(fun z=>by rw [z,nT.2] at e;cases e)⟩
 have cellK:∀c v,s.heap.IsCell c v->h'.IsCell c v:=fun c v ⟨o,e,dt⟩=>by
  have n:=xc.ne_dict e (fun vs z=>by rw [dt] at z;cases z)
  obtain ⟨sl,e'⟩:=up c o e n.1 n.2
  exact ⟨_,e',dt⟩
 refine ⟨I.ok,I.os,I.bare,⟨fun b o e n hb hx=>?_,fun b o e n hb hx=>?_,I.base.free,fun b o e hx=>?_,I.base.tups,I.base.frzs,I.base.tbls⟩,?_,fun x c e=>?_,I.free,I.freeC,fun p hp=>?_,fun b u e=>?_,I.len⟩
 ·exact keep b o (I.base.keep b o e n hb hx) (neL b o e hb) (nea b o e).1 (nea b o e).2
 ·obtain ⟨sl,e1⟩:=I.base.slot b o e n hb hx
  obtain ⟨sl',e2⟩:=up b _ e1 (nea b o e).1 (nea b o e).2
  exact ⟨sl',e2⟩
 ·obtain ⟨o',e1⟩:=I.base.there b o e hx
  obtain ⟨sl,e2⟩:=up b o' e1 (nea b o e).1 (nea b o e).2
  exact ⟨_,e2⟩
 ·obtain ⟨m,⟨o,es,ep,ho,hd,r⟩,hl⟩:=I.loc
  have n:=xc.ne_dict ho (fun vs z=>by rw [hd] at z;cases z)
  obtain ⟨sl,e'⟩:=up _ o ho n.1 n.2
  refine ⟨m,⟨_,es,ep,e',hd,r⟩,fun i x v e1 e2 e3=>?_⟩
  obtain ⟨u,rv,l⟩:=hl i x v e1 e2 e3
  refine ⟨u,rv,?_⟩
  rcases l with l | ⟨k,c,e,z⟩
  ·exact .inl l
  ·exact .inr ⟨k,c,e,cellK c _ z⟩
 ·obtain ⟨v,z⟩:=I.cell x c e
  exact ⟨v,cellK c v z⟩
 ·obtain ⟨e,n,ne,nf,dd⟩:=I.pin p hp
  have nst:p.1∉frs X.stack:=fun hb=>by
   rcases List.mem_cons.mp (I.stkSub _ hb) with z | z
   ·exact ne z
   ·exact nf z
  exact ⟨keep p.1 p.2 e nst (np p hp).1 (np p hp).2,n,ne,nf,dd⟩
 ·refine (I.hok b u e).stay (fun c v hc q=>?_) (fun _ q=>q) fun _ _ q=>q
  have hH:H c≠none:=by
   rcases hc with rfl | z
   ·rw [e];exact fun z=>nomatch z
   ·rw [z];exact fun z=>nomatch z
  exact keep c v q (fun z=>hH (I.stkFree c z)) (fun z=>hH (by rw [z];exact na.1)) (fun z=>hH (by rw [z];exact nT.1))
end
def xeT (X:Cx) (R:Addr->Hp->Prop):Value->Shared->Prop:=fun e s'=>∃(a T C:Addr) (σ':L2.St) (H':Hp),e = .ref a/\Inv X [] σ' H' s'/\Exc s'.heap a T (.ref C)/\X.s₀.heap.get? a=none/\X.s₀.heap.get? T=none /\
 H' a=none/\H' T=none/\(∀p∈X.pn,p.1≠a/\p.1≠T)/\R C H'
abbrev ET (R:Addr->Hp->Prop):XK:=fun c _ H'=>∃C,c = .ref C/\R C H'
section
variable {X:Cx}{pins:List (Addr×Obj)} {σ:L2.St}{H:Hp}{s:Shared}{R:Addr->Hp->Prop}
theorem Zoz (hex:X.ex = []):Passes (CX1 X.prog X.w) (X.wish (xeT X R)) (ET R):=by
 intro pins σ H s e s' I c
 obtain ⟨a,T,C,H',rfl,os,bare,un,ok,ex,na,nT,ha,hT,C',hC,hR⟩:=c
 cases hC
 have I0:=I.unwish
 have I':Inv X pins σ H' s':=I0.call' os un ok bare (fun b z=>nomatch z)
 have old:∀b,s.heap.get? b=none->X.s₀.heap.get? b=none:=fun b e=>by
  cases q:X.s₀.heap.get? b with
  | none=>rfl
  | some o=>
   obtain ⟨o',z⟩:=I0.base.there b o q (by rw [hex];exact fun y=>nomatch y)
   rw [e] at z
   cases z
 have pin:∀b,s.heap.get? b=none -> ∀p∈X.pn,p.1≠b:=fun b e p hp z=>by
  have:=(I0.pin p (List.mem_append_left _ hp)).1
  rw [z,e] at this
  cases this
 exact ⟨a,T,C,σ,H',rfl,I'.pins_of (fun p hp=>nomatch hp),ex,old a na,old T nT,ha,hT,fun p hp=>⟨pin a na p hp,pin T nT p hp⟩,hR⟩
abbrev Cx.suite (X:Cx) (pins:List (Addr×Obj)) (a:Addr):Cx:={ X with pn:=X.pn++pins,A:=X.A.mark (some (.ref a)),calm:=false,xe:=fun _ _=>False }
theorem Cx.Ok.suite {X:Cx} (ok:X.Ok) (pins:List (Addr×Obj)) (a:Addr):(X.suite pins a).Ok:=
 ⟨ok.mod,ok.kind,ok.glob,ok.blt,ok.above,ok.inj,ok.has,ok.cab,(fun z=>nomatch z),ok.frames,ok.stk,ok.exf,ok.bs,ok.bsz,ok.noex,ok.exfs,ok.funs,ok.frf⟩
theorem Inv.suite (I:Inv (X.nailed pins) [] σ H s) (ok:X.Ok) (a:Addr):Inv (X.suite pins a) [] σ H s:=⟨ok.suite pins a,I.os,I.bare,I.base,I.loc,I.cell,I.free,I.freeC,I.pin,I.hok,I.len⟩
theorem Inv.unsuite {a:Addr}{ps:List (Addr×Obj)} (I:Inv (X.suite pins a) ps σ H s) (ok:X.Ok):Inv X pins σ H s:=⟨ok,I.os,I.bare,I.base,I.loc,I.cell,I.free,I.freeC,fun p hp=>I.pin p (List.mem_append_left _ hp),I.hok,I.len⟩
def isX (a C:Addr):Heap->Prop:=fun h=>∃o,h.get? a=some o/\o.cls = .ref C /\ ∃vs,o.data = .fields vs/\vs[2]? = some .none
theorem Inv.track {a C:Addr} (I:Inv X pins σ H s) (ha:H a=none) (h0:X.s₀.heap.get? a=none) (hL:a≠X.env.locals) (hc:∀x c,X.env.cells.lookup x=some c->c≠a) (hp:∀p∈X.pn++pins,p.1≠a) (hx:isX a C s.heap):
  Inv X pins σ (upd H a (.ext (isX a C))) s:=by
 have new:∀b o,H b=some o->upd H a (.ext (isX a C)) b=some o:=fun b o e=>by rw [Zj (Zf e ha)];exact e
 refine ⟨I.ok,I.os,I.bare,⟨I.base.keep,I.base.slot,fun b o e n hx=>?_,I.base.there,fun b xs e=>new _ _ (I.base.tups b xs e),fun b o u e=>new _ _ (I.base.frzs b o u e),fun b ps e=>?_⟩,I.loc,I.cell,?_,fun x c e=>?_,fun p q=>?_,fun b u e=>?_,I.len⟩
 ·have:b≠a:=fun z=>by rw [z,h0] at e;cases e
  rw [Zj this]
  exact I.base.free b o e n hx
 ·obtain ⟨m,z⟩:=I.base.tbls b ps e
  exact ⟨m,new _ _ z⟩
 ·rw [Zj hL.symm];exact I.free
 ·rw [Zj (hc x c e)];exact I.freeC x c e
 ·obtain ⟨e,n,r⟩:=I.pin p q
  exact ⟨e,by rw [Zj (hp p q)];exact n,r⟩
 ·by_cases z:b=a
  ·subst z
   rw [Zd] at e
   cases e
   obtain ⟨o,ho,hcl⟩:=hx
   exact ⟨⟨o,ho,hcl⟩,⟨o,ho⟩,fun h1 h2 ⟨o1,q1,c1⟩ k=>⟨o1,k o1 q1,c1⟩⟩
  ·rw [Zj z] at e
   exact (I.hok b u e).stay (fun _ _ _ q=>q) (fun b' q=>new _ _ q) fun b' xs q=>new _ _ q
theorem Inv.goes {h':Heap}{m':Str->Option Value}{tk:Nat} (I:Inv X pins σ H s) (ns:h'.Ns X.env.locals m') (hs:Heap.SameBut X.env.locals s.heap h'):Inv X pins (List.replicate X.N.length none) H { s with heap:=h',toks:=tk }:=by
 have old:∀b o,X.s₀.heap.get? b=some o->b≠X.env.locals:=fun b o e=>Nat.ne_of_lt (Nat.lt_of_lt_of_le (Heap.lt_size e) I.ok.above)
 refine ⟨I.ok,I.os,I.bare,⟨fun b o e n hb hx=>(hs.2 b (old b o e)).trans (I.base.keep b o e n hb hx),fun b o e n hb hx=>?_,I.base.free,fun b o e hx=>?_,I.base.tups,I.base.frzs,I.base.tbls⟩,⟨m',ns,fun i x v e1 e2 _=>?_⟩,fun x c e=>?_,I.free,I.freeC,fun p hp=>?_,fun b u e=>?_,List.length_replicate⟩
 ·obtain ⟨sl,q⟩:=I.base.slot b o e n hb hx
  exact ⟨sl,(hs.2 b (old b o e)).trans q⟩
 ·obtain ⟨o',q⟩:=I.base.there b o e hx
  exact ⟨o',(hs.2 b (old b o e)).trans q⟩
 ·rw [List.getElem?_replicate] at e2
  split at e2<;>cases e2
 ·obtain ⟨v,o,ho,hd⟩:=I.cell x c e
  exact ⟨v,o,(hs.2 c (I.cne x c e)).trans ho,hd⟩
 ·obtain ⟨e,n,ne,r⟩:=I.pin p hp
  exact ⟨(hs.2 p.1 ne).trans e,n,ne,r⟩
 ·refine (I.hok b u e).stay (fun c v hc q=>(hs.2 c fun z=>?_).trans q) (fun _ q=>q) fun _ _ q=>q
  have:H c≠none:=by
   rcases hc with rfl | y
   ·rw [e];exact fun z=>nomatch z
   ·rw [y];exact fun z=>nomatch z
  exact this (by rw [z];exact I.free)
def Zpx (n i:Nat) (R:Addr->Hp->Prop) (tb:TS) (th:Addr->TS):TS:=fun D σ H=>tb D σ H /\ ∀(a C:Addr) (H':Hp),R C H'->H' a=none ->
 th a { nx:=fun _ H2=>D.nx (List.replicate n none) H2,bk:=fun _ H2=>D.bk (List.replicate n none) H2,ct:=fun _ H2=>D.ct (List.replicate n none) H2,rt:=D.rt } ((List.replicate n none).set i (some (.ref a))) (upd H' a (.ext (isX a C)))
theorem Zn3 {body suite:List Stmt}{b₀:Stmt}{i:Nat}{n cx:Str}{Dc:Addr}{tb:TS}{th:Addr->TS}{np hpos pos:Pos}{newId:String} (R:Addr->Hp->Prop) (hb:∀pins,PSs ((X.nailed pins).wish (xeT (X.nailed pins) R)) body tb) (hs:∀pins a,PSs (X.suite pins a) (b₀::suite) (th a))
  (hg:Gl X cx) (hm:X.mg cx=some (.ref Dc)) (hcD:PySem.W.excIn X.K Dc bmV newId=true) (hR:∀C H',R C H'->PySem.W.mroIn X.K C (.ref Dc)=some true) (hN:X.N.Nodup) (hi:X.N[i]? = some n) (hl:X.env.scope.names.lookup n=some .local)
  (hex:X.ex = []:=by rfl) (hst:X.stack=X.env::X.outer:=by rfl) (hfr:X.env.frame=some X.env.locals:=by rfl) (hd:(cx==("__debug__" : Str))=false:=by decide):
  PS X (.Try body [.ExceptHandler (some (.Name cx np)) (some n) (b₀::suite) hpos] [] [] pos) (Zpx X.N.length i R tb th):=by
 intro pins s σ H D I hw
 obtain ⟨hw1,hw2⟩:=hw
 refine wpAny_Try_except ?_
 refine wpAny_mono (hb pins [] s σ H D (I.nail.wish _) hw1) (fun f s1 q=>?_) (fun e s1 xe=>?_)
 ·cases f with
  | next=>obtain ⟨σ',H',I',d⟩:=q;exact wpAny_execs_nil ⟨σ',H',I'.unwish.unnail,d⟩
  | brk=>obtain ⟨σ',H',I',d⟩:=q;exact ⟨σ',H',I'.unwish.unnail,d⟩
  | cont=>obtain ⟨σ',H',I',d⟩:=q;exact ⟨σ',H',I'.unwish.unnail,d⟩
  | ret u=>obtain ⟨v,σ',H',I',r,d⟩:=q;exact ⟨v,σ',H',I'.unwish.unnail,r,d⟩
 ·obtain ⟨a,T,C,σ',H',rfl,I',ex,a0,T0,ha,hT,np',hR'⟩:=xe
  have ok:X.Ok:=I.ok
  have np1:∀p∈(X.nailed pins).pn ++ [],p.1≠a/\p.1≠T:=fun p hp=>np' p (by simpa using hp)
  refine looked (L:=X.env.locals) (outer:=X.outer) (base:=X.base) (by rw [<- hst];exact ok.frames) hfr (by rw [<- hst];exact I'.stack) ex fun h2 T2 keep slot ex2 oT=>?_
  have I2:Inv (X.nailed pins) [] σ' H' { s1 with heap:=h2 }:=I'.left hex ⟨ha,a0⟩ ⟨hT,T0⟩ np1 ⟨_,ex⟩ (by show ∀b o,_->b∉frs X.stack->_;rw [hst];exact keep) (by show ∀b o,_->b∈frs X.stack->_;rw [hst];exact slot)
  have old:∀{h:Heap} {σ'':L2.St}{s2:Shared},Inv (X.nailed pins) [] σ'' H' s2 -> ∀b,s2.heap.get? b=none->H' b=none/\X.s₀.heap.get? b=none /\ ∀p∈(X.nailed pins).pn,p.1≠b:=fun J b e=>by
   refine ⟨JA J.hok e,?_,fun p hp z=>?_⟩
   ·cases q:X.s₀.heap.get? b with
    | none=>rfl
    | some o=>
     obtain ⟨o',z⟩:=J.base.there b o q (by show b∉X.ex;rw [hex];exact fun y=>nomatch y)
     rw [e] at z
     cases z
   ·have:=(J.pin p (List.mem_append_left _ hp)).1
    rw [z,e] at this
    cases this
  have T2f:H' T2=none/\X.s₀.heap.get? T2=none /\ ∀p∈(X.nailed pins).pn,p.1≠T2:=by
   rcases oT with z | z
   ·rw [z];exact ⟨hT,T0,fun p hp=>(np' p hp).2⟩
   ·exact old (h:=s1.heap) I' T2 z
  obtain ⟨bmD,ND,nmD,qnD,bsD,hdD,snD,subD,abD,colD,ddD,j0,j1,j2,j3,j5,mD,hD,hND,hniD,TD⟩:=ZjQ I2.kIn hcD
  have hbD:bmD.contains (.type "BaseException")=true:=TD.hasType PySem.F.excBase_ValueError.hasBase
  refine wpAny_handleBy_cons (codeAny_handlers_test ?_) (fun z=>nomatch z)
  refine ZbX (X:=X.suite pins a) (I2.suite ok a) hg hm ?_ hd
  obtain ⟨oe,vs,oT',ts,x1,x2,x3⟩:=id ex2
  refine ZiT hD x1 x2 hbD (PySem.W.looks_mroIn I2.kIn (hR C H' hR')) ?_
  refine codeAny_handlers_suite_as ?_
  refine landed (s:={ s1 with heap:=h2 }) ex2 fun h3 keep3 ex3=>?_
  have np2:∀p∈(X.nailed pins).pn ++ [],p.1≠a/\p.1≠T2:=fun p hp=>⟨(np1 p hp).1,T2f.2.2 p (by simpa using hp)⟩
  have I3:Inv (X.nailed pins) [] σ' H' { s1 with heap:=h3 }:=I2.left hex ⟨ha,a0⟩ ⟨T2f.1,T2f.2.1⟩ np2 ⟨_,ex2⟩ (fun b o e _ z1 z2=>keep3 b o e z1 z2) (fun b o e hb=>by
   obtain ⟨_,o',e',dd⟩:=I2.stack.mem hb
   rw [e] at e'
   cases e'
   have n:=ex2.ne_dict e dd
   exact ⟨o.slots,keep3 b o e n.1 n.2⟩)
  have hx3:isX a C h3:=by obtain ⟨oe,vs,oT,ts,y1,y2,y3,_,_,_,_,_,y9⟩:=ex3;exact ⟨oe,y1,y2,vs,y3,y9⟩
  have hL:a≠X.env.locals:=by
   obtain ⟨m,⟨o,es,ep,ho,hdt,_⟩,_⟩:=I3.loc
   exact fun z=>(ex3.ne_dict ho (fun vs y=>by rw [hdt] at y;cases y)).1 z.symm
  have hcl:∀x c,X.env.cells.lookup x=some c->c≠a:=fun x c e=>by
   obtain ⟨v,o,ho,hdt⟩:=I3.cell x c e
   exact (ex3.ne_dict ho (fun vs y=>by rw [hdt] at y;cases y)).1
  have I4:Inv (X.nailed pins) [] σ' (upd H' a (.ext (isX a C))) { s1 with heap:=h3 }:=I3.track ha a0 hL hcl (fun p hp=>(np1 p hp).1) hx3
  have I5:Inv (X.nailed pins) [] (List.replicate X.N.length none) (upd H' a (.ext (isX a C))) { s1 with heap:=h3 }:=I4.weak (by rw [List.length_replicate];exact I4.len.symm) (fun k v z=>by
   rw [List.getElem?_replicate] at z
   split at z<;>cases z)
  refine Uu (X:=X.suite pins a) (I5.suite ok a) hN hi (.inl hl) (show RelV (.ref a) (.ref a) from rfl) (fun s6 I6=>?_) (.inr hl)
  refine wpAny_mono (hs pins a [] s6 _ _ _ I6 (hw2 a C H' hR' ha)) (fun f s7 q=>?_) (fun _ _ z=>z.elim)
  have hcls:(X.env.scope.kind == .class||(X.env.scope.kind == .module&&X.env.locals != X.env.globals))=false:=by rw [ok.kind];rfl
  have fin:∀{σ7:L2.St}{H7:Hp},Inv (X.suite pins a) [] σ7 H7 s7 -> ∀{Q:Shared->Prop},(∀s',Inv X pins (List.replicate X.N.length none) H7 s'->Q s') ->
    wpAny (model X.prog X.w) X.A (do bindName X.env n .none;unbindBehindTheSuite X.env n hpos) (fun _ s'=>Q s') X.xe s7:=fun {σ7 H7} J {Q} k=>by
   obtain ⟨m,hn,_⟩:=(J.unsuite ok).loc
   exact wpAny_nameGoes hl hn hcls fun h5 m' ns sb=>k _ ((J.unsuite ok).goes ns sb)
  cases f with
  | next=>obtain ⟨σ7,H7,I7,dq⟩:=q;exact fin I7 fun s' J=>⟨_,H7,J,dq⟩
  | brk=>obtain ⟨σ7,H7,I7,dq⟩:=q;exact fin I7 fun s' J=>⟨_,H7,J,dq⟩
  | cont=>obtain ⟨σ7,H7,I7,dq⟩:=q;exact fin I7 fun s' J=>⟨_,H7,J,dq⟩
  | ret u=>obtain ⟨v,σ7,H7,I7,r,dq⟩:=q;exact fin I7 fun s' J=>⟨v,_,H7,J,r,dq⟩
end
section
variable {P:Program}{w:World}{K:PySem.W.Frag}{mg:Str->Option Value}{base:Heap}
theorem Yp.okX {x qual:Str}{st:Stmt}{f:Addr}{fd:FuncData}{N ps:List Str}{k:Nat}{sp:Sp} (F:Yp K x qual st f fd) (S:Zz N ps (Zh st)) (len:∀vs H Q E,sp vs H Q E->vs.length=ps.length)
  (hbody:∀(cdv:Value) (A:Around) (outer:List Env) (s:Shared) (H:Hp) (vs:List V) (Q:VK) (E:XK),GC k (A.deeper (envOfC qual (Zh st) s.heap.objs.size f cdv))->sp vs H Q E ->
   ∃t,PSs (WZ (CX1 P w) P w K mg base N qual (Zh st) f cdv A outer s H E) (GR st) t/\t { nx:=fun _ H'=>Q .non H',rt:=Q } (start N vs) H):Yc P w K mg base (CX1 P w) (k+1) f fd ps sp:=by
 obtain ⟨oc,od,kV,doc,pm,an,cdv,ct,osl,rfl,lk,hcd⟩:=F.ex
 exact Zmz lk hcd S len fun A outer s H vs Q E hr hsp=>hbody cdv A outer s H vs Q E hr hsp
def Zdb (P:Program) (w:World) (K:PySem.W.Frag) (mg:Str->Option Value) (base:Heap) (k:Nat) (x:Str) (ps:List Str) (sp:Sp):Prop:=
 ∃(f:Addr) (fd:FuncData),Yc P w K mg base (CX1 P w) k f fd ps sp/\mg x=some (.ref f)/\PySem.W.keepIn K (.ref f)=true/\Binds K fd ps []
theorem Zbe {X:Cx}{k:Nat}{x:Str}{ps:List Str}{sp:Sp}{p pos:Pos}{e:Expr}{es:List Expr}{t:TA}{E:XK} (h:Zdb X.prog X.w X.K X.mg X.base k x ps sp) (hr:GC k X.A) (hx:Passes (CX1 X.prog X.w) X E) (ha:PA X (e::es) t) (hg:Gl X x:=by rfl) (hdb:(x==("__debug__" : Str))=false:=by decide)
  (he:starEach (e::es) X.env=(false,eval e X.env)::starEach es X.env:=by rfl) (hpl:(backTo pos (starEach es X.env)).any (·.1)=false:=by rfl):PE X (.Call (.Name x p) (e::es) [] pos) (Zkr sp [] E t):=by
 obtain ⟨f,fd,G,hm,hk,hb⟩:=h
 exact ZiJ G hr hg hm hk hb .nil hx ha hdb he hpl
structure Zea (k:Nat) (A:Around):Prop where
 dp:A.depth+3*k+5<recursionLimit
 un:A.units+16*k+200<cLine
theorem GC.suite {k:Nat}{A:Around} (r:GC k A) (v:Option Value):Zea k (A.mark v):=⟨r.dp,r.un⟩
structure ZpR (P:Program) (w:World) (K:PySem.W.Frag) (mg:Str->Option Value) (base:Heap) (k:Nat) (f:Addr) (fd:FuncData) (ps:List Str) (sp:Sp):Prop where
 len:∀vs H Q E,sp vs H Q E->vs.length=ps.length
 run:∀(A:Around) (outer:List Env) (s:Shared) (H:Hp) (args:Args) (us:List Value) (vs:List V) (Q:VK),Zea k A->ZhB P w K mg base A outer s H->BindsTo s fd args (ps.zip us)->Vals vs us->sp vs H Q E0 ->
  codeAny (model P w) A (.call (.ref f) args) (CR J9 outer P w H s Q E0) s
abbrev cxS (P:Program) (w:World) (K:PySem.W.Frag) (mg:Str->Option Value) (base:Heap) (N:List Str) (qual:Str) (scope:Scope) (f:Addr) (cd:Value) (A:Around) (outer:List Env) (s:Shared) (H:Hp):Cx:=
 { WZ J9 P w K mg base N qual scope f cd A outer s H E0 with calm:=false,xe:=fun _ _=>False }
end
structure Zl5 (K:PySem.W.Frag) (C:Addr):Prop where
 ga:PySem.W.findIn K (.ref C) "__getattribute__" = some (some (.builtin "BaseException.__getattribute__"))
 gn:PySem.W.findIn K (.ref C) "__getattr__" = some none
 ca:PySem.W.findIn K (.ref C) "__class__" = some (some (.builtin "object.__class__"))
 ob:PySem.W.mroIn K C (.type "object")=some true
 be:PySem.W.mroIn K C (.type "BaseException")=some true
 cl:(PySem.W.clsIn K C).isSome=true
def Zpn (K:PySem.W.Frag):List V->Hp->VK->Prop:=fun xs H Q=>∃(a C:Addr) (y:V) (b:Bool),xs = [.ref a,y]/\H a=some (.ext (isX a C))/\Zl5 K C /\
 ((∃D,y = .ref D/\PySem.W.kitOne K (.ref C) (.ref D)=some b)∨(∃T,y = .ty T/\PySem.W.kitOne K (.ref C) (.type T)=some b))/\Q (.bl b) H
theorem Zhj {X:Cx}{K:PySem.W.Frag} (h:X.K=K):Jd X (.builtin "isinstance") (Zpn K):=by
 subst h
 intro pins s σ H vs us Q I rv hq
 obtain ⟨a,C,y,b,rfl,ha,xc,hy,q⟩:=hq
 cases rv with
 | cons r1 rv=>
  cases rv with
  | cons r2 rv=>
   cases rv
   cases r1
   have hx:∃o,s.heap.get? a=some o/\o.cls = .ref C:=let ⟨o,e,c,_⟩:=(show isX a C s.heap from (I.hok a _ ha).1);⟨o,e,c⟩
   rcases hy with ⟨D,rfl,hk⟩ | ⟨T,rfl,hk⟩
   ·cases r2
    exact PySem.W.kia_one (ZdS xc.ga xc.gn xc.ca xc.ob xc.be xc.cl) I.kIn hx hk (fun z=>nomatch z) fun tk=>⟨.bl b,H,I.tok _,rfl,q⟩
   ·cases r2
    exact PySem.W.kia_one (ZdS xc.ga xc.gn xc.ca xc.ob xc.be xc.cl) I.kIn hx hk (fun z=>nomatch z) fun tk=>⟨.bl b,H,I.tok _,rfl,q⟩
def ZhN:List (TE×TE)->St->Hp->(List (V×V)->Hp->Prop)->Prop
 | [],_,H,Q=>Q [] H
 | (tk,tv)::r,σ,H,Q=>tk σ H fun x H1=>tv σ H1 fun y H2=>ZhN r σ H2 fun ps H3=>Q ((x,y)::ps) H3
abbrev VV:List (V×V)->List (Value×Value)->Prop:=Paired fun p q=>RelV p.1 q.1/\RelV p.2 q.2
def PPs (X:Cx) (pos:Pos) (keys:List (Option Expr)) (values:List Expr) (trs:List (TE×TE)):Prop:=
 ∀(pins:List (Addr×Obj)) (s:Shared) (σ:St) (H:Hp) (Q:List (V×V)->Hp->Prop),Inv X pins σ H s->ZhN trs σ H Q ->
  wpAny (model X.prog X.w) X.A (evalPairs (pairTrees keys values X.env pos)) (fun vs s'=>∃ps H',Inv X pins σ H' s'/\VV ps vs/\Q ps H') X.xe s
theorem ZlQ {X:Cx}{pos:Pos}:PPs X pos [] [] []:=fun pins s σ H Q I h=>pairTrees_nil_walk ⟨[],H,I,.nil,h⟩
theorem ZgJ {X:Cx}{pos:Pos}{k v:Expr}{ks:List (Option Expr)}{vs:List Expr}{tk tv:TE}{trs:List (TE×TE)} (hk:PE X k tk) (hv:PE X v tv) (hr:PPs X pos ks vs trs):
  PPs X pos (some k::ks) (v::vs) ((tk,tv)::trs):=fun pins s σ H Q I h=>
 pairTrees_cons_walk (YR (hk pins s σ H _ I h) fun u s1 ⟨x,H1,I1,rx,q1⟩=>YR (hv pins s1 σ H1 _ I1 q1) fun w2 s2 ⟨y,H2,I2,ry,q2⟩=>
  YR (hr pins s2 σ H2 _ I2 q2) fun ws s3 ⟨ps,H3,I3,rel,q3⟩=>⟨(x,y)::ps,H3,I3,.cons ⟨rx,ry⟩ rel,q3⟩)
def ZcC (kvs more:List (Key×V)):List (Key×V):=more.foldl (fun acc kv=>putK acc kv.1 kv.2) kvs
theorem KV.merge:∀{more:List (Key×V)}{rs:List (Key×Value)}{kvs:List (Key×V)}{vs:List (Key×Value)},KV more rs->KV kvs vs->KV (ZcC kvs more) (merged vs rs):=by
 intro more rs kvs vs r
 unfold KV at r
 induction r generalizing kvs vs with
 | nil=>intro q;exact q
 | @cons p q ps qs h t ih=>
  intro r0
  have e:KV (putK kvs p.1 p.2) (stored vs q.1 q.2):=by
   have:=r0.put p.1 h.2
   rw [<- h.1];exact this
  exact ih e
theorem Zbm:∀(more kvs:List (Key×V)),(ZcC kvs more).length<=kvs.length+more.length
 | [],kvs=>by show kvs.length<=kvs.length+0;lia
 | p::r,kvs=>by
  have h1:=Zbm r (putK kvs p.1 p.2)
  have h2:=WO kvs p.1 p.2
  show (ZcC (putK kvs p.1 p.2) r).length<=_
  rw [List.length_cons];lia
theorem ZdV {P:Program}{w:World}:∀{kvs:List (Key×V)}{ws:List (Value×Value)},VV (kvs.map fun kv=>(kV kv.1,kv.2)) ws -> ∃rs,Carries (Z7 P w) ws rs/\KV kvs rs
 | [],_,r=>by rw [List.map_nil] at r;cases r;exact ⟨[],True.intro,.nil⟩
 | p::kvs,_,r=>by
  rw [List.map_cons] at r
  cases r with
  | @cons a b as bs h t=>
   obtain ⟨rs,c,q⟩:=ZdV (P:=P) (w:=w) t
   obtain ⟨b1,b2⟩:=b
   exact ⟨(p.1,b2)::rs,⟨Zfd h.1,rfl,c⟩,.cons ⟨rfl,h.2⟩ q⟩
def ZoP (trs:List (TE×TE)):TE:=fun σ H Q=>∀p,H p=none->ZhN trs σ (upd H p (.dK [])) fun ps H2=>H2 p=some (.dK []) /\ ∃kvs:List (Key×V),ps=kvs.map (fun kv=>(kV kv.1,kv.2))/\kvs.length<=15/\Q (.ref p) (upd H2 p (.dK (ZcC [] kvs)))
theorem Zl7 {X:Cx}{pos:Pos}{keys:List (Option Expr)}{values:List Expr}{trs:List (TE×TE)} (h:PPs X pos keys values trs) (hall:keys.all (·.isSome)=true) (hl:keys.length=values.length) (h0:keys ≠ [])
  (h15:keys.length<=15):PE X (.Dict keys values pos) (ZoP trs):=by
 intro pins s σ H Q I q
 have hn:=I.hok.fresh (Nat.le_refl s.heap.objs.size)
 have I1:=I.laid (a:=s.heap.objs.size) (o:=.dK []) (h':=s.heap.push { cls:=.type "dict", data:=.dict #[] }) (t':=s.toks) (fun _ _ q=>Heap.get?_push_of_some _ q) (Nat.le_refl _) (ZgC s.heap I.big)
 refine wpAny_Dict_walk (knd:=Z7 X.prog X.w) hall hl h0 h15 (YR (h pins _ σ _ _ I1 (q _ hn)) fun ws s2 ⟨ps,H2,I2,rel,e,kvs,ep,lk,q2⟩=>?_)
 subst ep
 obtain ⟨rs,c,rk⟩:=ZdV (P:=X.prog) (w:=X.w) rel
 obtain ⟨z,hd,vs0,r0,dd⟩:=Zkd I2.hok e
 cases r0
 refine ⟨rs,c,dd,fun h' dd' hs=>⟨.ref s.heap.objs.size,_,?_,rfl,q2⟩⟩
 have hz:(ZcC [] kvs).length<=sizeLine:=by
  have h1:=Zbm kvs []
  rw [List.length_nil] at h1
  rw [sizeLine_eq];lia
 have he:∃q,h'.get? s.heap.objs.size=some q:=let ⟨q,_,_,hq,_⟩:=dd';⟨q,hq⟩
 exact Zf5 I2 (by rw [e];exact True.intro) hs he (Zhw hz hd (rk.merge .nil) dd')
def Zkw (lo:Int) (n:Nat):It:=⟨fun i _=>i<n,fun i H x H'=>H'=H/\x = .int (lo+i*2),fun i _=>n<=i⟩
theorem ZgE {P:Program}{w:World}{K:PySem.W.Frag}{tg:Expr} (it:Addr) (lo:Int) (n:Nat):Turn P w K tg (Zkw lo n) [it] it (fun i h=>IsRangeIter h it (lo+(i:Nat)*2) ((n:Int)-(i:Nat)) 2) where
 mem:=by simp
 obj:=fun i h st b hb=>by
  have e:b=it:=by simpa using hb
  subst e
  exact ⟨_,st,fun v z=>by
   have z':Data.fields _=Data.cell v:=z
   cases z'⟩
 keep:=fun i h h' st k=>k it (by simp) _ st
 item:=by
  intro X hP hw hK hc i pins s σ H E I hf st hg
  subst hP hw hK
  obtain ⟨f0,f1,f2,f3,f4,f5⟩:=hf it (by simp)
  have W:=Walks.range (prog:=X.prog) (w:=X.w) (I.ok.hd hc) it lo 2 n
  refine W.item i s _ _ hg st fun v h' tk hv st' kk=>?_
  obtain ⟨t,rfl⟩:=hv
  have I1:Inv X pins σ H { s with heap:=h',toks:=tk }:=I.turned (fun b o hb e=>kk b o (by simpa using hb) e) f0 f1 f3 f4 f5
  exact ⟨_,rfl,ZgR (s:={ s with heap:=h',toks:=tk }) (n := "range_iterator") st' rfl rfl (by decide) ⟨.int (lo+i*2),H,I1,⟨t,rfl⟩,⟨rfl,rfl⟩,st',fun b hb=>(hf b hb).1⟩⟩
 done:=by
  intro X hP hw hK hc i pins s σ H E I hf st hg
  subst hP hw hK
  obtain ⟨f0,f1,f2,f3,f4,f5⟩:=hf it (by simp)
  exact wpAny_pyNext_range_end (I.ok.hd hc) st (by have:n<=i:=hg;lia) fun h' eb=>⟨rfl,I.turned (t':=s.toks) (fun b o hb e=>eb b o hb e) f0 f1 f3 f4 f5⟩
 self:=fun _ _ _ _ _ st h=>wpAny_pyIter_rangeiter st h
section
variable {X:Cx}{tg:Expr}
def ZoS (ta:TA):TI:=fun σ H R=>ta σ H fun vs H1=>∃n:Nat,vs = [.int 0,.int (2*n),.int 2]/\n<100000/\R (Zkw 0 n) H1
theorem Zgx (n:Nat):Builtin.Range.rangeSize 0 (2*(n:Int)) 2=n:=by
 unfold Builtin.Range.rangeSize
 rw [if_pos (by decide)]
 split<;>lia
theorem GD {i:Int} (h0 : -1<=i) (h1:i<1000000):Builtin.Range.rangeFitsLong i=true:=by
 unfold Builtin.Range.rangeFitsLong
 rw [Bool.and_eq_true]
 exact ⟨decide_eq_true (by lia),decide_eq_true (by lia)⟩
theorem ZiZ {n:Nat} (h:n<100000):Builtin.Range.small 0 (2*(n:Int)) 2=true:=by
 unfold Builtin.Range.small
 rw [Zgx]
 rw [if_pos (by decide),GD (i:=0) (by lia) (by lia),GD (i:=2*(n:Int)) (by lia) (by lia),GD (i:=2) (by lia) (by lia),GD (i:=(n:Int)) (by lia) (by lia),GD (i:=2*(n:Int)+(2-1)) (by lia) (by lia)]
 simp
theorem Zjh {a b c:Expr}{ta:TA}{p pos:Pos} (hg:Gl X "range") (hm:X.mg "range" = none) (ha:PA X [a,b,c] ta) (hs:starEach [a,b,c] X.env = [(false,eval a X.env),(false,eval b X.env),(false,eval c X.env)]:=by rfl) (hs2:starEach [b,c] X.env = [(false,eval b X.env),(false,eval c X.env)]:=by rfl):
  PI X tg (.Call (.Name "range" p) [a,b,c] [] pos) (ZoS ta):=by
 intro pins s σ H R I h
 refine Call_ (GZ I hg hm boot_range (PyProof.Rows.callWith_type1 (YR (ha pos pins s σ H _ I h) fun us s1 ⟨vs,H1,I1,r1,q1⟩=>?_) (by rw [hs,hs2]) (by rw [hs2];rfl)))
 obtain ⟨n,e,hn,q⟩:=q1
 subst e
 cases r1 with
 | cons r rr=>
  cases rr with
  | cons r' rr=>
   cases rr with
   | cons r2 rr=>
    cases rr
    obtain ⟨t,rfl⟩:=r
    obtain ⟨t',rfl⟩:=r'
    obtain ⟨t2,rfl⟩:=r2
    refine call_range_3 (by decide) ?_ (Or.inl (PyProof.noPylong_small (by lia)))
    refine wpAny_pyIter_range (IsRange.new ..) (ZiZ hn) ?_
    have I2:Inv X pins σ H1 { s1 with heap:=s1.heap.push { cls:=.type "range", data:=.fields #[.int 0 t,.int (2*(n:Int)) t',.int 2 t2] } }:=I1.kept (t':=s1.toks) fun b o e=>Heap.get?_push_of_some _ e
    refine ⟨(s1.heap.push { cls:=.type "range", data:=.fields #[.int 0 t,.int (2*(n:Int)) t',.int 2 t2] }).objs.size,[(s1.heap.push { cls:=.type "range", data:=.fields #[.int 0 t,.int (2*(n:Int)) t',.int 2 t2] }).objs.size],_,_,H1,rfl,
     I2.kept (t':=s1.toks) fun b o e=>Heap.get?_push_of_some _ e,ZgE _ 0 n,?_,fun b hb=>?_,q⟩
    ·have e1:(0:Int)+((0:Nat):Int)*2=0:=by simp
     have e2:((n:Nat):Int)-((0:Nat):Int)=Builtin.Range.rangeSize 0 (2*(n:Int)) 2:=by rw [Zgx];simp
     show IsRangeIter _ _ ((0:Int)+((0:Nat):Int)*2) (((n:Nat):Int)-((0:Nat):Int)) 2
     rw [e1,e2]
     exact Heap.get?_push_size _ rfl
    ·have e:b=(s1.heap.push { cls:=.type "range", data:=.fields #[.int 0 t,.int (2*(n:Int)) t',.int 2 t2] }).objs.size:=by simpa using hb
     subst e
     exact I2.fpOk (Nat.le_refl _) (I2.hok.fresh (Nat.le_refl _))
end
theorem ZhE {lo:Int}{n:Nat}{g:TG}{tb:TS}{D:Ends} {σ:L2.St}{H:Hp} (Pv:Nat->L2.St->Hp->Prop) (h0:Pv 0 σ H)
  (hs:∀i σ H,i<n->Pv i σ H->g (.int (lo+i*2)) σ H fun σ2 H2=>tb { D with nx:=Pv (i+1),ct:=Pv (i+1),bk:=D.nx } σ2 H2) (hd:∀ σ H,Pv n σ H->D.nx σ H):
  ∃W:Nat->Nat->L2.St->Hp->Prop,(∃m,W 0 m σ H) /\ ∀i m σ H,W i m σ H ->
   ((Zkw lo n).stop i H/\D.nx σ H)∨((Zkw lo n).go i H /\ ∃N:L2.St->Hp->Prop,(∀ σ' H',N σ' H' -> ∃m',m'<m/\W (i+1) m' σ' H') /\ ∀x H',(Zkw lo n).yld i H x H'->g x σ H' fun σ2 H2=>tb { D with nx:=N,ct:=N,bk:=D.nx } σ2 H2):=by
 refine ⟨fun i m σ H=>m=n-i/\i<=n/\Pv i σ H,⟨n,by simp,Nat.zero_le _,h0⟩,?_⟩
 rintro i m σ H ⟨rfl,hi,p⟩
 by_cases hlt:i<n
 ·refine .inr ⟨hlt,Pv (i+1),fun σ' H' p'=>⟨n-(i+1),by lia,rfl,hlt,p'⟩,fun x H' y=>?_⟩
  obtain ⟨rfl,rfl⟩:=y
  exact hs i σ _ hlt p
 ·exact .inl ⟨by show n<=i;lia,hd σ H ((show i=n by lia) ▸ p)⟩
theorem Zml {K:PySem.W.Frag}{a b:Addr}{xs ys:List V}{g:TG}{tb:TS}{D:Ends} {σ:L2.St}{H:Hp} (hl:xs.length=ys.length) (Pv:Nat->L2.St->Hp->Prop) (h0:Pv 0 σ H) (hS:∀i σ H,Pv i σ H->Zu K H a xs/\Zu K H b ys)
  (hs:∀i x y p σ H,xs[i]? = some x->ys[i]? = some y->Pv i σ H->H p=none->g (.ref p) σ (upd H p (.tup [x,y])) fun σ2 H2=>tb { D with nx:=Pv (i+1),ct:=Pv (i+1),bk:=D.nx } σ2 H2) (hd:∀ σ H,Pv xs.length σ H->D.nx σ H):
  ∃W:Nat->Nat->L2.St->Hp->Prop,(∃m,W 0 m σ H) /\ ∀i m σ H,W i m σ H ->
   ((Itz K a b).stop i H/\D.nx σ H)∨((Itz K a b).go i H /\ ∃N:L2.St->Hp->Prop,(∀ σ' H',N σ' H' -> ∃m',m'<m/\W (i+1) m' σ' H') /\ ∀x H',(Itz K a b).yld i H x H'->g x σ H' fun σ2 H2=>tb { D with nx:=N,ct:=N,bk:=D.nx } σ2 H2):=by
 refine ⟨fun i m σ H=>m=xs.length-i/\i<=xs.length/\Pv i σ H,⟨xs.length,by simp,Nat.zero_le _,h0⟩,?_⟩
 rintro i m σ H ⟨rfl,hi,p⟩
 obtain ⟨s1,s2⟩:=hS i σ H p
 by_cases hlt:i<xs.length
 ·refine .inr ⟨⟨xs,ys,xs[i],ys[i]'(by lia),s1,s2,by simp [hlt],by simp [show i<ys.length by lia]⟩,Pv (i+1),fun σ' H' p'=>⟨xs.length-(i+1),by lia,rfl,hlt,p'⟩,fun x H' y=>?_⟩
  obtain ⟨q,u,v,e1,e2,e3,y1,y2⟩:=y
  subst e1 e3
  exact hs i u v q σ _ (y1 xs s1) (y2 ys s2) p e2
 ·exact .inl ⟨⟨xs,ys,s1,s2,.inl (by lia)⟩,hd σ H ((show i=xs.length by lia) ▸ p)⟩
end L2
namespace L2
open PySem PySem.Spec PyProof.Rows PyProof.V
section
variable {X:Cx}
def ZoH (K:PySem.W.Frag):R2:=fun x y H Q=>∃(p q:Addr) (ns ms:List Int),x = .ref p/\y = .ref q/\Zu K H p (ns.map V.int)/\Zu K H q (ms.map V.int)/\Q (.bl (decide (ns=ms))) H
theorem ZiC {ns:List Int}{its:List Value} (r:Vals (ns.map V.int) its) {j:Nat} (h:j<its.toArray.size):∃t,its.toArray[j] = .int (ns.getD j 0) t:=by
 have l:=r.length
 rw [List.length_map] at l
 have hj:j<ns.length:=by simp only [List.size_toArray] at h;lia
 obtain ⟨u,e,ru⟩:=r.get (i:=j) (x:=V.int ns[j]) (by simp [hj])
 obtain ⟨t,q⟩:=(show ∃t,u=Value.int ns[j] t from ru)
 have hi:j<its.length:=by lia
 refine ⟨t,?_⟩
 have:its[j]? = some its[j]:=by simp [hi]
 rw [this] at e
 have e2:=Option.some.inj e
 simp [hj]
 rw [e2,q]
theorem Znp (hu:X.A.units+64<cLine):UA X (compareOp .Eq) (ZoH X.K):=by
 intro pins s σ H x y v u Q I rx ry h
 obtain ⟨p,q,ns,ms,rfl,rfl,hp,hq,hQ⟩:=h
 cases rx
 cases ry
 obtain ⟨its,r1,p1,_⟩:=I.list hp
 obtain ⟨its2,r2,p2,_⟩:=I.list hq
 have l1:=r1.length
 have l2:=r2.length
 rw [List.length_map] at l1 l2
 by_cases hl:ns.length=ms.length
 ·refine SeqAt.eq_listAt (e:=fun j=>ns.getD j 0==ms.getD j 0) p1.isList p2.isList (by simp only [List.size_toArray];lia) (by lia) (fun j h1 h2=>?_) ⟨.bl (decide (ns=ms)),H,I,?_,hQ⟩
  ·obtain ⟨t1,e1⟩:=ZiC r1 h1
   obtain ⟨t2,e2⟩:=ZiC r2 h2
   rw [e1,e2]
   exact SeqAt.EqAt.int_int _ _ _ _
  ·show Value.bool _=Value.bool _
   congr 1
   rw [Bool.eq_iff_iff,List.all_eq_true,decide_eq_true_iff]
   constructor
   ·intro z
    refine List.ext_getElem hl fun i h1 h2=>?_
    have:=z i (List.mem_range.mpr (by simp only [List.size_toArray];lia))
    simpa [h1,h2] using this
   ·intro z i _
    rw [z]
    simp
 ·refine SeqAt.eq_list_lengthsAt p1.isList p2.isList (by simp only [List.size_toArray];rw [bne_iff_ne];lia) (by lia) ⟨.bl (decide (ns=ms)),H,I,?_,hQ⟩
  rw [decide_eq_false (fun z=>hl (by rw [z]))]
  rfl
theorem Zl4 {K:PySem.W.Frag} (h:X.K=K) (hu:X.A.units+64<cLine):UA X (compareOp .Eq) (ZoH K):=h ▸ Znp hu
end
def ZmT (b:Nat->Bool):List Nat:=(bif b 0 then [0] else [])++((bif b 1 then [1] else [])++((bif b 2 then [2] else [])++(bif b 3 then [3] else [])))
def Zpw (b:Nat->Bool) (led:Bool) (f m:Nat):SetTable:={ mask:=7,place:=(ZmT b).toArray,dummies:=#[],finger:=f,led:=led,moves:=m,plain:=true }
def EK:Int×Value->Nat->Prop:=fun e k=>e.1=hashInt (k:Int) /\ ∃t,e.2 = .int (k:Int) t
def SO (w:World) (a:Addr) (b:Nat->Bool) (ep:Nat) (es:Array (Int×Value)) (h:Heap):Prop:=
 ∃o led f m,h.get? a=some o/\o.ExactSet/\o.data = .set es ep (Zpw b led f m)/\(w.params.followText "set-order" = true∨led=true)/\Paired EK es.toList (ZmT b)
section
variable {prog:Program}{w:World}{A:Around}{E:Value->Shared->Prop}{s:Shared}{a:Addr}{b:Nat->Bool}{ep:Nat}{es:Array (Int×Value)}
def Zph (prog:Program) (w:World) (u:Nat) (S:Addr) (J:Nat->Heap->Prop) (i:Nat) (v:Value):Prop:=
 ∀(A:Around) (E:Value->Shared->Prop) (s:Shared) (Q:Bool->Shared->Prop),A.units<=u->J i s.heap ->
  (∀b h' tk,s.toks<=tk->J (i+1) h'->Heap.SameBut S s.heap h'->Q b { s with heap:=h',toks:=tk })->wpAny (model prog w) A (setAdd S v) Q E s
theorem grow {R:Result->Shared->Prop}{I:Addr}{fp wr:List Addr}{G:Array GenState->Array GenState->Prop}{n:Nat}{P:Nat->Value->Prop}{St:Nat->Shared->Prop}
  (W:WalksS prog w A.in1 I fp wr G n P St) {S:Addr} (hS:S∉fp) {J:Nat->Heap->Prop} (jk:∀i h h',J i h->(∀c o,c∉wr->h.get? c=some o->h'.get? c=some o)->J i h') (ja:∀i v,P i v->Zph prog w A.in1.units S J i v):
  ∀(k i:Nat) (s:Shared),i+k=n->St i s->J i s.heap->(∀s',Moved (S::wr) G s s'->J n s'.heap->R (.ok (.ret .none)) s')->codeAny (model prog w) A (.builtin "set.update.loop" ⟨[.ref S,.ref I],[]⟩) R s:=by
 have sub:∀c∈wr,c∈S::wr:=fun c hc=>.tail _ hc
 intro k
 induction k with
 | zero=>
  rintro i s e st j hR
  obtain rfl:i=n:=e
  refine codeAny_builtin F.entry_set_update_loop ?_
  rw [Around.under_plainId F.plain_set_update_loop _]
  wp_walk using W.done s _ _ st
  intro s' m
  wp_walk
  exact hR s' (m.mono sub) (jk _ _ _ j m.heap)
 | succ k ih=>
  rintro i s rfl st j hR
  refine codeAny_builtin F.entry_set_update_loop ?_
  rw [Around.under_plainId F.plain_set_update_loop _]
  wp_walk using W.item i s _ _ (by lia) st
  intro v s' p st' m
  have j':=jk _ _ s'.heap j m.heap
  refine wpAny_bind (wpAny_holding (ja i v p _ _ s' _ (Nat.le_refl _) j' fun b h' tk le j2 sb=>?_))
  wp_walk
  refine ⟨plainId_quiet F.plain_set_update_loop _,ih (i+1) _ (by lia) (W.frame _ s' _ _ st' le fun c hc o e=>(sb.2 c fun z=>hS (z ▸ hc)).trans e) j2 fun s2 m2 j3=>hR s2 (Moved.trans W.gtrans ((m.mono sub).then_heap le fun c o hc e=>(sb.2 c fun z=>hc (z ▸ .head _)).trans e) m2) j3⟩
end
def ZpF (w:World) (a:Addr) (ep:Nat) (es:Array (Int×Value)):Array (Int×Value):=if w.params.followText "set-order" = true then pickOrder (w.params.setOrder a ep) es else es
section
variable {prog:Program}{w:World}{A:Around}{E:Value->Shared->Prop}{s:Shared}{a it:Addr}{b:Nat->Bool}{ep i:Nat}{es:Array (Int×Value)}
structure Wlk (prog:Program) (w:World) (a:Addr) (ep:Nat) (es:Array (Int×Value)) (f:Nat->Nat) (C:Heap->Prop):Prop where
 there:∀{h},C h -> ∃o t,h.get? a=some o/\o.ExactSet/\o.data = .set es ep t/\t.fits es.size=true/\t.plain=true
 kept:∀{h h'},C h->(∀o,h.get? a=some o->h'.get? a=some o)->C h'
 first:f 0=0
 next:∀{A E s i}{Q:Option (Value×Nat)->Shared->Prop},C s.heap->i<=es.size->Q (((ZpF w a ep es)[i]?).map fun e=>(e.2,f (i+1))) s->wpAny (model prog w) A (setNext a (f i) i ep) Q E s
section
variable {f:Nat->Nat}{C:Heap->Prop} (N:Wlk prog w a ep es f C)
include N
end
end
def Zp7 (w:World) (a:Addr) (ks:List Nat):HO:=.ext fun h=>∃b ep es,ZmT b=ks/\SO w a b ep es h
structure Wo (lt:Keyed->Keyed->Bool):Prop where
 irr:∀p,lt p p=false
 asym:∀p q,lt p q=true->lt q p=false
 neg:∀p q r,lt p r=true->lt p q=true∨lt q r=true
structure Cmp (prog:Program) (w:World) (A:Around) (E:Value->Shared->Prop) (s:Shared) (kd:SortKind) (D:Keyed->Prop) (lt:Keyed->Keyed->Bool):Prop where
 cmp:∀(p q:Keyed) (st:SortSt) (Q:Option Bool->SortSt->Prop),D p->D q->kindOf st=kd->Q (some (lt p q)) st->wpS (model prog w) A E s (lt' p q) Q st
 wo:Wo lt
section
variable {prog:Program}{w:World}{A:Around}{E:Value->Shared->Prop}{s:Shared}{kd:SortKind}{D:Keyed->Prop}{lt:Keyed->Keyed->Bool}
def Srt (lt:Keyed->Keyed->Bool) (l:List Keyed):Prop:=l.Pairwise fun p q=>lt q p=false
theorem ZmD {arr:Array Keyed}{i:Nat}{x:Keyed}{st:SortSt}{Q:Keyed->SortSt->Prop}{M:Model} (e:arr[i]? = some x) (h:Q x st):wpS M A E s (elem' arr i) Q st:=by
 rw [elem'_eq,e];exact wpS_pure h
structure Mg (lt:Keyed->Keyed->Bool) (a b out:List Keyed) (ia ib:Nat):Prop where
 srt:Srt lt out
 pm:(out++(a.drop ia++b.drop ib)).Perm (a++b)
 le:∀p∈out,∀q∈a.drop ia++b.drop ib,lt q p=false
end
def Zjn:Nat->Nat->StateT SortSt Sem (Option Nat):=sortPriv% PySem.Builtin.countRun
def Za9:StateT SortSt Sem Unit:=sortPriv% PySem.Builtin.sortRuns
section
variable {prog:Program}{w:World}{A:Around}{E:Value->Shared->Prop}{s:Shared}{kd:SortKind}{D:Keyed->Prop}{lt:Keyed->Keyed->Bool}
structure Kp (lo n:Nat) (st st':SortSt):Prop where
 kind:kindOf st'=kindOf st
 pend:pendingOf st'=pendingOf st
 fail:failedOf st'=failedOf st
 perm:(arrOf st').toList.Perm (arrOf st).toList
 out:∀i,i<lo∨lo+n<=i->(arrOf st')[i]? = (arrOf st)[i]?
theorem Zm1 {M:Model}{i j:Nat}{st:SortSt}{Q:Unit->SortSt->Prop} (h:Q () (setArr st (mirror (arrOf st) i j ((j-i) / 2)))):wpS M A E s (reverseSlice' i j) Q st:=by
 rw [reverseSlice'_eq];exact wpS_modify h
end
section
variable {prog:Program}{w:World}{A:Around}{E:Value->Shared->Prop}{s:Shared}{kd:SortKind}{D:Keyed->Prop}{lt:Keyed->Keyed->Bool}
def Zni (p:List (Nat×Nat×Nat)) (rs:List (List Keyed)):Prop:=p.length=rs.length /\ ∀i r,rs[i]? = some r -> ∃pw,p[i]? = some ((rs.take i).flatten.length,r.length,pw)
end
section
variable {prog:Program}{w:World}{A:Around}{E:Value->Shared->Prop}{s:Shared}{kd:SortKind}{D:Keyed->Prop}{lt:Keyed->Keyed->Bool}
structure Rn (lt:Keyed->Keyed->Bool) (kd:SortKind) (l₀:List Keyed) (rs:List (List Keyed)) (S:List Keyed) (st:SortSt):Prop where
 arr:(arrOf st).toList=rs.flatten++S
 srt:∀r∈rs,Srt lt r/\0<r.length
 pend:Zni (pendingOf st).toList rs
 perm:(arrOf st).toList.Perm l₀
 kind:kindOf st=kd
 fail:failedOf st=none
theorem ZkF {β:Type}{M:Model}{st:SortSt}{Q:β -> SortSt->Prop}{k n:Nat}{X Y:StateT SortSt Sem β} (h1:k<n->wpS M A E s X Q st) (h2:n<=k->wpS M A E s Y Q st):wpS M A E s (if k<n then X else Y) Q st:=by
 by_cases h:k<n
 ·rw [if_pos h];exact h1 h
 ·rw [if_neg h];exact h2 (by lia)
end
def lexLt:List Int->List Int->Bool
 | [],[]=>false
 | [],_::_=>true
 | _::_,[]=>false
 | a::as,b::bs=>if a=b then lexLt as bs else decide (a<b)
theorem Zi1:∀{xs ys:List Int}{i:Nat},(xs.length<=i∨ys.length<=i)->lexLt (xs.drop i) (ys.drop i)=decide (xs.length-i<ys.length-i):=fun {xs ys i} h=>by
 rcases Nat.lt_or_ge i xs.length with h1 | h1
 ·rw [List.drop_eq_getElem_cons h1,show ys.drop i = [] from List.drop_eq_nil_of_le (by lia)]
  simp [lexLt];lia
 ·rw [List.drop_eq_nil_of_le h1]
  rcases Nat.lt_or_ge i ys.length with h2 | h2
  ·rw [List.drop_eq_getElem_cons h2]
   simp [lexLt];lia
  ·rw [List.drop_eq_nil_of_le h2]
   simp [lexLt];lia
theorem ZkM {xs ys:List Int}{i:Nat} (h1:i<xs.length) (h2:i<ys.length):lexLt (xs.drop i) (ys.drop i)=if xs[i]=ys[i] then lexLt (xs.drop (i+1)) (ys.drop (i+1)) else decide (xs[i]<ys[i]):=by
 conv=>lhs;rw [List.drop_eq_getElem_cons h1,List.drop_eq_getElem_cons h2]
 rfl
theorem ints_get:∀{vs:List Value}{ns:List Int},IntsAre vs ns -> ∀(i:Nat) (h:i<vs.length) (h':i<ns.length),∃t,vs[i] = .int ns[i] t
 | _,_,.cons n t hr,0,_,_=>⟨t,rfl⟩
 | _,_,.cons n t hr,i+1,h,h'=>by
  obtain ⟨t',e⟩:=ints_get hr i (by simpa using h) (by simpa using h')
  exact ⟨t',by simpa using e⟩
open PySem.SeqAt AutoSeq1 in
theorem ZiM:∀xs:List Int,lexLt xs xs=false
 | []=>rfl
 | a::as=>by rw [lexLt,if_pos rfl];exact ZiM as
theorem Zix:∀(xs ys zs:List Int),lexLt xs zs=true->lexLt xs ys=true∨lexLt ys zs=true
 | [],[],[],h=>by simp [lexLt] at h
 | [],[],_::_,h=>.inr rfl
 | [],_::_,_,h=>.inl rfl
 | _::_,_,[],h=>by simp [lexLt] at h
 | _::_,[],_::_,h=>.inr rfl
 | a::as,b::bs,c::cs,h=>by
  simp only [lexLt] at h ⊢
  by_cases e1:a=c
  ·subst e1
   rw [if_pos rfl] at h
   by_cases e2:a=b
   ·subst e2
    rw [if_pos rfl,if_pos rfl]
    exact Zix as bs cs h
   ·rw [if_neg e2,if_neg (Ne.symm e2),decide_eq_true_eq,decide_eq_true_eq]
    lia
  ·rw [if_neg e1,decide_eq_true_eq] at h
   by_cases e2:a=b
   ·subst e2
    rw [if_neg e1]
    exact .inr (decide_eq_true h)
   ·rw [if_neg e2]
    by_cases e3:b=c
    ·subst e3
     exact .inl (decide_eq_true h)
    ·rw [if_neg e3,decide_eq_true_eq,decide_eq_true_eq]
     lia
theorem ZgP:∀(xs ys:List Int),lexLt xs ys=true->lexLt ys xs=false
 | [],[],h=>by simp [lexLt] at h
 | [],_::_,_=>rfl
 | _::_,[],h=>by simp [lexLt] at h
 | a::as,b::bs,h=>by
  simp only [lexLt] at h ⊢
  by_cases e:a=b
  ·subst e
   rw [if_pos rfl] at h ⊢
   exact ZgP as bs h
  ·rw [if_neg e,decide_eq_true_eq] at h
   rw [if_neg (Ne.symm e)]
   exact decide_eq_false (by lia)
section
variable {prog:Program}{w:World}{A:Around}{E:Value->Shared->Prop}{s:Shared}{a b:Addr}{xs ys:List Int}
def Ua (T:String) (h:Heap) (a:Addr) (ks:List Int):Prop:=∃(vs:Array Value) (dd:Option Addr) (n:Nat) (sl:Array (Option Value)),h.get? a=some { cls:=.type T,dict:=dd,data:=.seq vs n,slots:=sl } /\ IntsAre vs.toList ks
end
section
variable {prog:Program}{w:World}{A:Around}{E:Value->Shared->Prop}{s:Shared}{a b:Addr}{xs ys:List Int}
def Zg0 (h:Heap):Value->List Int
 | .ref a=>match h.get? a with
  | some o=>match o.data with
   | .seq vs _=>vs.toList.map numOf
   | _=>[]
  | none=>[]
 | _=>[]
theorem Ua.key {T:String}{h:Heap} (x:Ua T h a xs):Zg0 h (.ref a)=xs:=by
 obtain ⟨vs,dd,n,sl,e,i⟩:=x
 show (match h.get? a with | some o=>_ | none=>_)=_
 rw [e]
 exact i.nums
theorem Ua.kept {T:String}{h h':Heap} (x:Ua T h a xs) (k:∀o,h.get? a=some o->h'.get? a=some o):Ua T h' a xs:=
 let ⟨vs,dd,n,sl,e,i⟩:=x;⟨vs,dd,n,sl,k _ e,i⟩
def DS (T:String) (s:Shared) (p:Keyed):Prop:=∃a ks,p.1 = .ref a/\Ua T s.heap a ks
def ltW (s:Shared) (p q:Keyed):Bool:=lexLt (Zg0 s.heap p.1) (Zg0 s.heap q.1)
def ZkV (h:Heap) (l:List Value):Prop:=l.Pairwise fun u v=>lexLt (Zg0 h v) (Zg0 h u)=false
theorem Zi3 {M:Model} {α β:Type}{c:Prop} [Decidable c] {m n:Sem α}{f:α -> Sem β}{Q:β -> Shared->Prop} (R:α -> Prop) (h1:c -> ∀Q':α -> Shared->Prop,(∀x,R x->Q' x s)->wpAny M A m Q' E s) (h2:¬c -> ∀Q':α -> Shared->Prop,(∀x,R x->Q' x s)->wpAny M A n Q' E s)
  (h:∀x,R x->wpAny M A (f x) Q E s):wpAny M A (if c then m >>= f else n >>= f) Q E s:=by
 split
 ·exact wpAny_bind (h1 (by assumption) _ h)
 ·exact wpAny_bind (h2 (by assumption) _ h)
end
section
variable {prog:Program}{w:World}{A:Around}{E:Value->Shared->Prop}{s:Shared}{d it:Addr}{es:Array DictEntry}{ep i:Nat}
theorem ZhD {α:Type}{Q:α -> Shared->Prop} (hh:A.handled=none) (h:∀h' a,(∀b o,s.heap.get? b=some o->h'.get? b=some o)->Shared.TypeIs { s with heap:=h' } (.ref a) "StopIteration" -> E (.ref a) { s with heap:=h' }):
  wpAny (model prog w) A ((newExc (.type "StopIteration") [] >>= raiseNew:Sem α)) Q E s:=by
 wp_walk using wpAny_newObj_type,wpAny_raiseNew_none hh
 ·exact h _ _ (fun b o e=>Heap.get?_push_of_some _ (Heap.get?_push_of_some _ e)) ⟨_,Heap.get?_push_size _ rfl,rfl⟩
 all_goals size_fits
end
def Je (H:Hp) (v:V) (ks:List Int):Prop:=∃a,v = .ref a/\H a=some (.tup (ks.map V.int))
abbrev Words (H:Hp) (xs:List V) (ws:List (List Int)):Prop:=Paired (Je H) xs ws
theorem Paired.Ziy {α β:Type}{F:α -> β -> Prop}{l:List α}{m m':List β} (p:m.Perm m'):Paired F l m -> ∃l',l.Perm l'/\Paired F l' m':=by
 induction p generalizing l with
 | nil=>intro r;cases r;exact ⟨[],.nil,.nil⟩
 | cons x _ ih=>intro r;cases r with | cons h t=>obtain ⟨l',a,b⟩:=ih t;exact ⟨_::l',a.cons _,.cons h b⟩
 | swap x y t=>intro r;cases r with | cons h t=>cases t with | cons h2 t=>exact ⟨_,.swap _ _ _,.cons h2 (.cons h t)⟩
 | trans _ _ i1 i2=>intro r;obtain ⟨l1,a,b⟩:=i1 r;obtain ⟨l2,c,d⟩:=i2 b;exact ⟨l2,a.trans c,d⟩
theorem Paired.flip {α β:Type}{F:α -> β -> Prop}:∀{l:List α}{m:List β},Paired F l m->Paired (fun b a=>F a b) m l
 | _,_,.nil=>.nil
 | _,_,.cons h t=>.cons h (Paired.flip t)
theorem Paired.mem1 {α β:Type}{F:α -> β -> Prop}:∀{l:List α}{m:List β},Paired F l m -> ∀a∈l,∃b∈m,F a b
 | _,_,.nil,a,h=>by cases h
 | _,_,.cons r t,a,h=>by
  rcases List.mem_cons.mp h with rfl | h
  ·exact ⟨_,List.mem_cons_self,r⟩
  ·obtain ⟨b,hb,f⟩:=Paired.mem1 t a h
   exact ⟨b,List.mem_cons_of_mem _ hb,f⟩
def Znx (ws:List (List Int)):Prop:=ws.Pairwise fun u v=>lexLt v u=false
section
variable {X:Cx}{pins:List (Addr×Obj)} {σ:St}{H:Hp}{s:Shared}
theorem ZkE {T:String}{F:V->List Int->Prop}{h h1:Heap} (hF:∀{v u ks},F v ks->RelV v u -> ∃a,u = .ref a/\Ua T h a ks) {xs:List V}{us out:List Value}{ws:List (List Int)} (r:Vals xs us) (x:Paired F xs ws) (hp:out.Perm us)
  (hk:∀a ks,Ua T h a ks->Ua T h1 a ks) (hr:ZkV h1 out):∃ys vs,Vals ys out/\Paired F ys vs/\ys.Perm xs/\vs.Perm ws/\Znx vs:=by
 obtain ⟨ys,p1,r1⟩:=Paired.Ziy hp.symm r
 obtain ⟨vs,p2,r2⟩:=Paired.Ziy p1 (Paired.flip x)
 have x2:Paired F ys vs:=Paired.flip r2
 refine ⟨ys,vs,r1,x2,p1.symm,p2.symm,?_⟩
 have key:∀{ys:List V}{out:List Value}{vs:List (List Int)},Vals ys out->Paired F ys vs->out.map (Zg0 h1)=vs:=by
  intro ys out vs a b
  induction a generalizing vs with
  | nil=>cases b;rfl
  | cons r _ ih=>
   cases b with
   | cons f t=>
    obtain ⟨q,e1,e3⟩:=hF f r
    rw [List.map_cons,ih t,e1,(hk _ _ e3).key]
 rw [<- key r1 x2]
 unfold Znx
 rw [List.pairwise_map]
 exact hr
end
section
variable {X:Cx}
def ZmC:R2:=fun x y H Q=>∃a b:List Int,Je H x a/\Je H y b/\a.length+b.length<=sizeLine /\
 (a = []->Q y H)/\(b = []->Q x H)/\(∀p,H p=none->Q (.ref p) (upd H p (.tup ((a++b).map V.int))))
theorem ZfT:UA X (binaryOp .Add) ZmC:=by
 intro pins s σ H x y v u Q I rx ry h
 obtain ⟨a,b,⟨p,rfl,hp⟩,⟨r,rfl,hr⟩,hz,q1,q2,q3⟩:=h
 cases rx
 cases ry
 obtain ⟨_,its,r1,p1⟩:=(show Yt X.prog X.w H s.heap p (.tup (a.map V.int)) from I.hok p _ hp)
 obtain ⟨_,its2,r2,p2⟩:=(show Yt X.prog X.w H s.heap r (.tup (b.map V.int)) from I.hok r _ hr)
 have l1:a.length=its.length:=by simpa using r1.length
 have l2:b.length=its2.length:=by simpa using r2.length
 by_cases e:its = []
 ·obtain ⟨⟨cls,dd,data,sl⟩,ho,hc,n,hd⟩:=id p1
  obtain ⟨⟨cls2,dd2,data2,sl2⟩,ho2,hc2,n2,hd2⟩:=id p2
  simp only at hc hd hc2 hd2
  subst hc hd hc2 hd2
  have ea:a = []:=by rw [e] at l1;exact List.length_eq_zero_iff.mp l1
  exact concat_meets ⟨_,ho,rfl⟩ ⟨_,ho2,rfl⟩ noFill_tuple_add seq_tuple_add PySem.F.slot_tuple_add PySem.F.entry_tuple_add (PySem.F.args_tuple_add_2 _ _)
   (tuple_addW0 p r its.toArray its2.toArray n n2 dd dd2 sl sl2 (by simp [e])) ⟨ho,ho2,⟨.ref r,H,I,rfl,q1 ea⟩⟩
 ·refine HT.ZlI p1 p2 e (fun z=>⟨.ref p,H,I,rfl,q2 (by rw [z] at l2;exact List.length_eq_zero_iff.mp l2)⟩) (fun z=>?_) (by rw [<- l1,<- l2];exact hz)
  refine ⟨.ref s.heap.objs.size,_,I.laid (t':=s.toks) (o:=.tup ((a++b).map V.int)) (fun b ob q=>Heap.get?_push_of_some _ q) (Nat.le_refl _) ?_,rfl,q3 _ (I.hok.fresh (Nat.le_refl _))⟩
  exact ⟨by rw [List.length_map,List.length_append];exact hz,_,by rw [List.map_append];exact r1.append r2,IsTup.new _ _⟩
end
end L2
namespace L2
open PySem PySem.Spec PyProof.Rows PyProof.V
section
variable {X:Cx}
theorem ZiB {K:PySem.W.Frag}{l tg:Expr}{tl:TE} (hk:X.K=K) (hl:PE X l tl):PI X tg l (ZoR K tl):=hk ▸ ZnZ hl
end
section
variable {g:TG}{tc:TT}{te:TE} {σ:St}{H:Hp}{Q:VK}{K:PySem.W.Frag}{a b:Addr}{xs ys:List V}
theorem Zk7 (hn:xs.length<=sizeLine) (Pv:Nat->List V->Hp->Prop) (h0:Pv 0 [] H) (hlen:∀i ys H,Pv i ys H->ys.length<=i) (hS:∀i ys H,Pv i ys H->YT K H a xs)
  (hs:∀i x ys H,xs[i]? = some x->Pv i ys H->g x σ H fun σ2 H2=>tc σ2 H2 fun b H3=>if b=true then te σ2 H3 fun y H4=>Pv (i+1) (ys ++ [y]) H4 else Pv (i+1) ys H3)
  (hd:∀ys H,Pv xs.length ys H -> ∀D,H D=none->Q (.ref D) (upd H D (.lst ys))):LcW (Itt K a) σ g tc te H Q:=
 ZcA hn Pv h0 hlen (fun i ys H hi p=>⟨xs,xs[i],hS i ys H p,by simp [hi]⟩) (fun ys H p=>⟨xs,hS _ ys H p,Nat.le_refl _⟩) (fun i ys H hi p x H' y=>by
  obtain ⟨e,y⟩:=y
  subst e
  exact hs i x ys _ (y xs (hS i ys _ p)) p) hd
theorem ZlE (hn:ys.length<=sizeLine) (hl:ys.length<=xs.length) (Pv:Nat->List V->Hp->Prop) (h0:Pv 0 [] H) (hlen:∀i zs H,Pv i zs H->zs.length<=i) (hS:∀i zs H,Pv i zs H->Zu K H a xs/\Zu K H b ys)
  (hs:∀i x y p zs H,xs[i]? = some x->ys[i]? = some y->Pv i zs H->H p=none->g (.ref p) σ (upd H p (.tup [x,y])) fun σ2 H2=>tc σ2 H2 fun b H3=>if b=true then te σ2 H3 fun y H4=>Pv (i+1) (zs ++ [y]) H4 else Pv (i+1) zs H3)
  (hd:∀zs H,Pv ys.length zs H -> ∀D,H D=none->Q (.ref D) (upd H D (.lst zs))):LcW (Itz K a b) σ g tc te H Q:=
 ZcA hn Pv h0 hlen (fun i zs H hi p=>⟨xs,ys,xs[i]'(by lia),ys[i],(hS i zs H p).1,(hS i zs H p).2,by simp [show i<xs.length by lia],by simp [hi]⟩) (fun zs H p=>⟨xs,ys,(hS _ zs H p).1,(hS _ zs H p).2,.inr (Nat.le_refl _)⟩) (fun i zs H hi p x H' y=>by
  obtain ⟨q,u,v,e1,e2,e3,y1,y2⟩:=y
  subst e1 e3
  exact hs i u v q zs _ (y1 xs (hS i zs _ p).1) (y2 ys (hS i zs _ p).2) p e2) hd
end
abbrev WS:=List (List Int)
def SR (r:WS):Prop:=r.Pairwise fun u v=>lexLt u v=true
structure ZpM (L r:WS):Prop where
 rise:SR r
 mem:∀w,w∈r ↔ L.count w % 2=1
theorem sub_len:∀{r L:WS},r.Nodup->(∀w∈r,w∈L)->r.length<=L.length
 | [],_,_,_=>Nat.zero_le _
 | a::r,L,n,h=>by
  obtain ⟨n1,n2⟩:=List.nodup_cons.mp n
  have ha:=h a List.mem_cons_self
  have:=sub_len (r:=r) (L:=L.erase a) n2 fun w hw=>(List.mem_erase_of_ne (fun (e:w=a)=>n1 (e ▸ hw))).mpr (h w (List.mem_cons_of_mem _ hw))
  rw [List.length_erase_of_mem ha] at this
  have:=List.length_pos_of_mem ha
  rw [List.length_cons];lia
structure Zqb (L ks:WS):Prop where
 nd:ks.Nodup
 mem:∀w,w∈ks ↔ L.count w % 2=1
theorem Je.mono {H H':Hp}{v:V}{w:List Int} (k:∀t p,H t=some (.tup p)->H' t=some (.tup p)) (x:Je H v w):Je H' v w:=let ⟨a,e,q⟩:=x;⟨a,e,k _ _ q⟩
theorem Words.mono {H H':Hp}{xs:List V}{L:WS} (k:∀t p,H t=some (.tup p)->H' t=some (.tup p)) (x:Words H xs L):Words H' xs L:=Paired.mapP x fun _ _ q=>Je.mono k q
theorem Words.same {H H':Hp}{xs:List V}{L:WS} (s:Zi H H') (x:Words H xs L):Words H' xs L:=Words.mono (fun t p e=>s t _ e) x
theorem Je.same {H H':Hp}{v:V}{w:List Int} (s:Zi H H') (x:Je H v w):Je H' v w:=Je.mono (fun t p e=>s t _ e) x
theorem Words.len {H:Hp}{xs:List V}{L:WS} (x:Words H xs L):xs.length=L.length:=Paired.length x
theorem Words.get {H:Hp}:∀{xs:List V}{L:WS}{i:Nat}{x:V},Words H xs L->xs[i]? = some x -> ∃w,L[i]? = some w/\Je H x w
 | _,_,_,_,.nil,e=>by simp at e
 | _,_,0,_,.cons r _,e=>by simp at e;subst e;exact ⟨_,rfl,r⟩
 | _,_,i+1,x,.cons _ t,e=>by
  obtain ⟨w,h1,h2⟩:=Words.get (i:=i) (x:=x) t (by simpa using e)
  exact ⟨w,by simpa using h1,h2⟩
theorem Words.snoc {H:Hp}{xs:List V}{L:WS}{x:V}{w:List Int} (h:Words H xs L) (e:Je H x w):Words H (xs ++ [x]) (L ++ [w]):=Paired.snoc h e
section
variable {X:Cx}
theorem GQ:Jd X (.type "tuple") (fun xs H Q=>∃p ys,xs = [.ref p]/\H p=some (.lst ys) /\ ∀l,H l=none->Q (.ref l) (upd H l (.tup ys))):=by
 intro pins s σ H xs us Q I r ⟨p,ys,e,hp,q⟩
 exact ZeC pins s σ H xs us Q I r ⟨p,ys,e,.inl ⟨Zu.of hp,q⟩⟩
end
end L2
namespace L2
open PySem PySem.Spec PyProof.Rows PyProof.V
section
variable {X:Cx}{C:Addr}{x m:Str}{p pos apos:Pos}{e o:Expr}{es:List Expr}{ta:TE}{t:TA}
structure MkO (K:PySem.W.Frag) (C:Addr):Prop where
 makes:PySem.W.makesIn K C=true
 init:PySem.W.findIn K (.ref C) "__init__" = some (some (.builtin "object.__init__"))
 kp:PySem.W.keepIn K (.ref C)=true
end
theorem Zkq:entryFor table "zip.__getattribute__" = some Builtin.«object.__getattribute__»:=entryFor_alias (id' := "object.__getattribute__") (by kernel_rfl) (by decide +kernel) (by decide +kernel) (by kernel_rfl)
theorem Zmb:typeLookup (.type "zip") "__getattr__" = pure none:=by rw [typeLookup_type,builtinLookup_eq_fast];kernel_rfl
theorem ZhL:typeLookup (.type "zip") "keys" = pure none:=by rw [typeLookup_type,builtinLookup_eq_fast];kernel_rfl
abbrev Zkf (f0 f1:Value) (TI TO:Addr):Obj:={ cls:=.type "zip", dict:=none,data:=.fields #[f0,f1,.bool false,.ref TI,.ref TO],slots:=#[] }
theorem Zmv (a TI TO:Addr) (f0 f1:Value) (u:Tok):Meets (Builtin.«object.__getattribute__» ⟨[.ref a,.str "keys" u],[]⟩) (fun A R s=>s.heap.get? a=some (Zkf f0 f1 TI TO)/\raisesAttr (.ref a) "keys" A R s):=
 .of_wp fun prog w A R ⟨hp,g,d,tk,os⟩ ⟨hx,hn,hr⟩=>by
  have ty:Shared.TypeIs ⟨hp,g,d,tk,os⟩ (.ref a) "zip" := ⟨_,hx,rfl⟩
  have no:=ZhL
  wp_walk
  exact wpAny_raiseAttrError hn hr (attrMsg_fits (by decide +kernel) (by decide))
theorem Zmd {prog:Program}{w:World}{A:Around}{E:Value->Shared->Prop}{s:Shared}{a TI TO:Addr}{f0 f1:Value}{Q:Option Value->Shared->Prop} (hx:s.heap.get? a=some (Zkf f0 f1 TI TO)) (hA:A.handled=none)
  (h:∀h' tk,(∀b o,s.heap.get? b=some o->h'.get? b=some o)->Q none { s with heap:=h',toks:=tk }):wpAny (model prog w) A (getAttr? (.ref a) "keys") Q E s:=by
 obtain ⟨hp,g,d,tk,os⟩:=s
 have ty:∀t,Shared.TypeIs ⟨hp,g,d,t,os⟩ (.ref a) "zip" := fun _=>⟨_,hx,rfl⟩
 have kind:=sub_AttributeError
 have own:=F.slot_zip_getattribute.lookup
 have bound:=F.slot_zip_getattribute.bind (.ref a)
 have hook:=Zmb
 have said:∀{A':Around}{R:Result->Shared->Prop} (t:Nat) (u:Tok),A'.handled=none->(∀h' tk e,Heap.NewAttrErr hp h' e (.ref a) "keys" -> R (.error (.ref e)) ⟨h',g,d,tk,os⟩)->codeAny (model prog w) A' (.call (.builtin "zip.__getattribute__") ⟨[.ref a,.str "keys" u],[]⟩) R ⟨hp,g,d,t,os⟩:=
  fun {A' R} t u hA' k=>codeAny_call_builtin F.slot_zip_getattribute.plain Zkq (F.slot_zip_getattribute.check _ _ _ _ _ _ _ _ (ty t) (F.args_zip_getattribute_2 _ _) (Zmv a TI TO f0 f1 u _ _ A' R _ ⟨hx,hA',k⟩))
 unfold getAttr? getAttrBy? getAttrBy
 wp_walk
 refine said _ _ hA fun h' tk' e new=>?_
 obtain ⟨t',u',there⟩:=new.there
 unfold getattributeRaised
 wp_walk
 exact h _ _ new.1
section
variable {prog:Program}{w:World}{A:Around}{E:Value->Shared->Prop}{s:Shared}
theorem ZgV {a:Addr}{Q:Option Obj->Shared->Prop} (h:Q (s.heap.get? a) s):wpAny (model prog w) A (loadIfAlive a) Q E s:=fun Γ p _=>by
 unfold loadIfAlive
 rw [Sem.wp_loadIfAlive]
 exact h
abbrev Zd5 (h:Heap) (z TI TO T:Addr) (b:Bool):Prop:=
 h.get? z=some { cls:=.type "zip", dict:=none,data:=.fields #[rawInt T,.bool b,.bool false,.ref TI,.ref TO],slots:=#[] }
theorem Zhp {z TI TO T:Addr}{bb:Bool}{oT:Obj}{Q:Bool->Shared->Prop} (hz:Zd5 s.heap z TI TO T bb) (hT:s.heap.get? T=some oT)
  (h:∀h₁,Zd5 h₁ z TI TO T true->Heap.SameBut z s.heap h₁->Q false { s with heap:=h₁ }):wpAny (model prog w) A (Builtin.SmallTypes.ownedTupleIsFree (.ref z)) Q E s:=by
 unfold Builtin.SmallTypes.ownedTupleIsFree
 wp_walk using ZgV,wpAny_field hz rfl rfl
 cases bb with
 | true=>exact wpAny_pure (h s.heap hz ⟨rfl,fun _ _=>rfl⟩)
 | false=>exact wpAny_bind (wpAny_setField_rec hz (by simp) fun h₁ a b=>wpAny_pure (h h₁ a b))
theorem Zky {z TI TO T i1 i2 l1 l2:Addr}{k:Nat}{bb:Bool}{oT:Obj}{xs ys:Array Value}{R:Fin->Shared->Prop} (D:ZipApart z TI TO i1 i2 l1 l2)
  (hz:Zd5 s.heap z TI TO T bb) (hT:s.heap.get? T=some oT) (hTI:IsPair s.heap TI (.ref i1) (.ref i2))
  (h1:s.heap.IsListIter i1 l1 k) (h2:s.heap.IsListIter i2 l2 k) (hl1:s.heap.IsList l1 xs) (hl2:s.heap.IsList l2 ys)
  (more:∀x y h',xs[k]? = some x->ys[k]? = some y->Zd5 h' z TI TO T true->h'.IsListIter i1 l1 (k+1)->h'.IsListIter i2 l2 (k+1)->IsPair h' s.heap.objs.size x y->h'.objs.size=s.heap.objs.size+1 ->
   (∀c o,c≠z->c≠i1->c≠i2->s.heap.get? c=some o->h'.get? c=some o)->R (.done (.ret (.ref s.heap.objs.size))) { s with heap:=h' })
  (over:xs[k]? = none->A.handled=none /\ ∀h' e,(∀c o,c≠z->c≠i1->s.heap.get? c=some o->h'.get? c=some o)->(∃o,h'.get? e=some o/\o.cls = .type "StopIteration")->E (.ref e) { s with heap:=h' })
  (even:∀x,xs[k]? = some x -> ∃y,ys[k]? = some y):
  wpAny (model prog w) A (Builtin.«zip.__next__» ⟨[.ref z],[]⟩) R E s:=by
 unfold Builtin.«zip.__next__»
 refine wpAny_bind (show wpAny _ _ (pure (Value.ref z,[])) _ _ _ from wpAny_pure ?_)
 dsimp only
 refine wpAny_bind (wpAny_field hz rfl rfl (wpAny_bind (wpAny_field hz rfl rfl (wpAny_bind (wpAny_seqItems hTI rfl ?_)))))
 refine wpAny_bind (Zhp hz hT fun h₁ hz₁ hs₁=>?_)
 simp only [Bool.false_eq_true,if_false,List.forIn_toArray,List.forIn_cons,List.forIn_nil]
 have b1:=h1.extBut hs₁.extBut D.i1z
 have b2:=hl1.extBut hs₁.extBut D.l1z
 refine wpAny_bind (wpAny_bind (wpAny_bind (wpAny_holding ?_)))
 show wpAny _ _ (Builtin.SmallTypes.nextOf (.ref i1) >>= fun v=>pure (some v)) _ _ _
 cases hx:xs[k]? with
 | none=>
  obtain ⟨hh,fin⟩:=over hx
  exact wpAny_bind (wpAny_nextOf_list_end hh b1 b2 hx fun h₂ e keep stop=>fin h₂ e (fun c o n1 n2 g=>keep c o n2 (hs₁.extBut c o n1 g)) stop)
 | some x=>
  obtain ⟨y,hy⟩:=even x hx
  refine wpAny_bind (wpAny_nextOf_list_item b1 b2 hx fun h₂ c1 hs₂=>wpAny_pure (wpAny_pure ?_))
  refine wpAny_bind (wpAny_bind (wpAny_holding ?_))
  show wpAny _ _ (Builtin.SmallTypes.nextOf (.ref i2) >>= fun v=>pure (some v)) _ _ _
  refine wpAny_bind (wpAny_nextOf_list_item ((h2.extBut hs₁.extBut D.i2z).extBut hs₂.extBut D.i12.symm) ((hl2.extBut hs₁.extBut D.l2z).extBut hs₂.extBut D.l2i1) hy fun h₃ c2 hs₃=>wpAny_pure (wpAny_pure (wpAny_pure ?_)))
  show wpAny _ _ (newTuple [x,y] >>= ret) _ _ _
  have size:h₃.objs.size=s.heap.objs.size:=hs₃.1.trans (hs₂.1.trans hs₁.1)
  refine wpAny_bind (wpAny_newTuple (wpAny_pure ?_))
  show R (.done (.ret (.ref h₃.objs.size))) _
  rw [size]
  have lay:∀c o,h₃.get? c=some o->(h₃.push { cls:=.type "tuple", data:=.seq #[x,y] }).get? c=some o:=fun c o=>Heap.get?_push_of_some _
  refine more x y _ hx hy (lay _ _ (hs₃.extBut _ _ D.i2z.symm (hs₂.extBut _ _ D.i1z.symm hz₁))) ((c1.extBut hs₃.extBut D.i12).at fun o=>lay _ o) (c2.at fun o=>lay _ o) ?_ (by rw [Heap.size_push,size]) fun c o n1 n2 n3 g=>lay _ _ (hs₃.extBut _ _ n3 (hs₂.extBut _ _ n2 (hs₁.extBut _ _ n1 g)))
  rw [<- size]
  exact Heap.get?_push_size _ rfl
theorem Zij {z:Addr}{Q:Option Value->Shared->Prop} (ty:s.TypeIs (.ref z) "zip")
  (h:∀E',(∀e s',(∃o,s'.heap.get? e=some o/\o.cls = .type "StopIteration")->Q none s'->E' (.ref e) s') -> ∀A',A'.handled=A.handled->wpAny (model prog w) A' (Builtin.«zip.__next__» ⟨[.ref z],[]⟩) (fun fin s'=>∃v,fin = .done (.ret v)/\wpAny (model prog w) A (pure (some v)) Q E s') E' s):wpAny (model prog w) A (pyNext (.ref z)) Q E s:=by
 unfold pyNext
 refine wpAny_bind (wpAny_attempt (wpAny_callSpecial?_slot (name:=Str.ofString "__next__") ty F.slot_zip_next (wpAny_call_entry F.slot_zip_next ty F.entry_zip_next (h _ (fun e s' ⟨o,g,c⟩ q=>?_) _ rfl) (F.args_zip_next_1 _))))
 exact wpAny_bind (wpAny_isInstance (T := "StopIteration") (b:=true) ⟨o,g,c⟩ isSubtype_stop (wpAny_pure q))
structure ZS (h:Heap) (z TI TO i1 i2 l1 l2:Addr) (k:Nat):Prop where
 zp:(IsZip h z TI TO .none /\ ∃a b,IsPair h TO a b) ∨ ∃T b o,Zd5 h z TI TO T b/\h.get? T=some o/\o.cls = .type "tuple" /\ T≠z/\T≠TO/\T≠i1/\T≠i2
 ti:IsPair h TI (.ref i1) (.ref i2)
 j1:h.IsListIter i1 l1 k
 j2:h.IsListIter i2 l2 k
theorem ZS.keep {h h':Heap}{z TI TO i1 i2 l1 l2:Addr}{k:Nat} (x:ZS h z TI TO i1 i2 l1 l2 k) (kk:∀c o,h.get? c=some o->o.cls ≠ .type "dict" -> h'.get? c=some o):ZS h' z TI TO i1 i2 l1 l2 k:=by
 refine ⟨?_,kk _ _ x.ti (by show Value.type "tuple" ≠ _;decide),?_,?_⟩
 ·rcases x.zp with ⟨a,p,q,b⟩ | ⟨T,b,o,a,c,d,e⟩
  ·exact .inl ⟨kk _ _ a (by show Value.type "zip" ≠ _;decide),p,q,kk _ _ b (by show Value.type "tuple" ≠ _;decide)⟩
  ·exact .inr ⟨T,b,o,kk _ _ a (by show Value.type "zip" ≠ _;decide),kk _ _ c (by rw [d];decide),d,e⟩
 ·obtain ⟨o,ho,hc,r⟩:=x.j1
  exact ⟨o,kk _ _ ho (by rw [hc];decide),hc,r⟩
 ·obtain ⟨o,ho,hc,r⟩:=x.j2
  exact ⟨o,kk _ _ ho (by rw [hc];decide),hc,r⟩
theorem Zme {z TI TO i1 i2 l1 l2:Addr}{k:Nat}{xs ys:Array Value}{x y:Value}{Q:Option Value->Shared->Prop} (D:ZipApart z TI TO i1 i2 l1 l2) (Z:ZS s.heap z TI TO i1 i2 l1 l2 k)
  (hl1:s.heap.IsList l1 xs) (hl2:s.heap.IsList l2 ys) (hx:xs[k]? = some x) (hy:ys[k]? = some y)
  (hQ:∀h',ZS h' z TI TO i1 i2 l1 l2 (k+1)->IsPair h' s.heap.objs.size x y->h'.objs.size=s.heap.objs.size+1->(∀c o,c≠z->c≠TO->c≠i1->c≠i2->s.heap.get? c=some o->h'.get? c=some o)->Q (some (.ref s.heap.objs.size)) { s with heap:=h' }):
  wpAny (model prog w) A (pyNext (.ref z)) Q E s:=by
 have lt:∀{c:Addr}{o:Obj},s.heap.get? c=some o->s.heap.objs.size≠c:=fun e=>Ne.symm (Nat.ne_of_lt (Heap.lt_size e))
 have n1:s.heap.objs.size≠i1:=by obtain ⟨o,ho,_⟩:=Z.j1;exact lt ho
 have n2:s.heap.objs.size≠i2:=by obtain ⟨o,ho,_⟩:=Z.j2;exact lt ho
 rcases Z.zp with ⟨hz,a,b,hTO⟩ | ⟨T,b,o,hz,hT,hc,t1,t2,t3,t4⟩
 ·exact wpAny_pyNext_zip_item D hz Z.ti hTO Z.j1 Z.j2 hl1 hl2 hx hy fun h' a1 a2 a3 a4 a5 a6 a7=>
   hQ h' ⟨.inr ⟨s.heap.objs.size,false,_,a1,a5,rfl,lt hz,lt hTO,n1,n2⟩,a7 _ _ D.TIz D.TITO D.TIi1 D.TIi2 Z.ti,a3,a4⟩ a5 a6 a7
 ·refine Zij ⟨_,hz,rfl⟩ fun E' _ A' _=>Zky D hz hT Z.ti Z.j1 Z.j2 hl1 hl2 (fun x' y' h' e1 e2 a1 a3 a4 a5 a6 a7=>⟨_,rfl,wpAny_pure ?_⟩) (fun e=>by rw [hx] at e;cases e) (fun _ _=>⟨y,hy⟩)
  rw [hx] at e1
  rw [hy] at e2
  cases e1
  cases e2
  exact hQ h' ⟨.inr ⟨T,true,o,a1,a7 _ _ t1 t3 t4 hT,hc,t1,t2,t3,t4⟩,a7 _ _ D.TIz D.TIi1 D.TIi2 Z.ti,a3,a4⟩ a5 a6 fun c o c1 _ c3 c4 e=>a7 c o c1 c3 c4 e
theorem ZnL {z TI TO i1 i2 l1 l2:Addr}{k:Nat}{xs ys:Array Value}{Q:Option Value->Shared->Prop} (hh:A.handled=none) (D:ZipApart z TI TO i1 i2 l1 l2) (Z:ZS s.heap z TI TO i1 i2 l1 l2 k)
  (hl1:s.heap.IsList l1 xs) (hl2:s.heap.IsList l2 ys) (hx:xs[k]? = none)
  (hQ:∀h',(∀c o,c≠z->c≠TO->c≠i1->c≠i2->s.heap.get? c=some o->h'.get? c=some o)->Q none { s with heap:=h' }):
  wpAny (model prog w) A (pyNext (.ref z)) Q E s:=by
 rcases Z.zp with ⟨hz,a,b,hTO⟩ | ⟨T,b,o,hz,hT,hc,t1,t2,t3,t4⟩
 ·exact wpAny_pyNext_zip_end hh D hz Z.ti hTO Z.j1 Z.j2 hl1 hl2 (.inl hx) hQ
 ·exact Zij ⟨_,hz,rfl⟩ fun E' out A' hA=>Zky D hz hT Z.ti Z.j1 Z.j2 hl1 hl2 (fun x' y' h' e1=>by rw [hx] at e1;cases e1) (fun _=>⟨hA.trans hh,fun h' e keep stop=>out e _ stop (hQ h' fun c o c1 _ c3 _ g=>keep c o c1 c3 g)⟩) (fun x' e=>by rw [hx] at e;cases e)
end
theorem ZgQ:entryFor table "dict.update.loop" = some Builtin.«dict.update.loop»:=entryFor_of_tree (by kernel_rfl)
theorem ZbR:plainId "dict.update.loop" = true:=by decide +kernel
def ZjC (kvs:List (Key×Value)) (ps:List (Key×Value)):List (Key×Value):=ps.foldl (fun a p=>stored a p.1 p.2) kvs
section
variable {prog:Program}{w:World}{A:Around}{R:Result->Shared->Prop}
theorem Zm7 {E:Value->Shared->Prop}{s:Shared}{d:Addr}{kvs:List (Key×Value)}{k:Int}{t:Tok}{v:Value}{Q:Unit->Shared->Prop} (hm:s.heap.DictOf (Z7 prog w) d kvs) (hsz:kvs.length<=sizeLine)
  (hQ:∀h',h'.DictOf (Z7 prog w) d (stored kvs (Sum.inl k) v)->Heap.SameBut d s.heap h'->Q () { s with heap:=h',toks:=s.toks+1 }):wpAny (model prog w) A (dictSet d (.int k t) v) Q E s:=by
 unfold dictSet
 try with_reducible refine wpAny_holding ?_
 refine wpAny_bind (wpAny_pyHash_int ?_)
 exact wpAny_dictSetHashed_pairs (knd:=Z7 prog w) (k:=Sum.inl k) (by show Value.isInt k (.int k t)=true;simp [Value.isInt]) (s:={ s with toks:=s.toks+1 }) hm hQ hsz
theorem Zmh {z TI TO i1 i2 l1 l2 d:Addr}{xs ys:Array Value}{ps:List (Key×Value)} (D:ZipApart z TI TO i1 i2 l1 l2) (hh:A.handled=none) (hn:xs.size=ys.size) (hz:xs.size<=100000)
  (hp:ps.length=xs.size) (hps:∀(i:Nat) (k:Key) (v:Value),ps[i]? = some (k,v) -> ∃(a:Int) (t:Tok),k=Sum.inl a/\xs[i]? = some (Value.int a t)/\ys[i]? = some v)
  (dz:d≠z/\d≠TO/\d≠i1/\d≠i2/\l1≠d/\l2≠d):
  ∀(m k:Nat) (s:Shared) (kvs:List (Key×Value)),m+k=xs.size->ZS s.heap z TI TO i1 i2 l1 l2 k->s.heap.IsList l1 xs->s.heap.IsList l2 ys->s.heap.DictOf (Z7 prog w) d kvs->kvs.length<=k ->
   (∀h' tk,h'.DictOf (Z7 prog w) d (ZjC kvs (ps.drop k))->(∀c o,c≠z->c≠TO->c≠i1->c≠i2->c≠d->s.heap.get? c=some o->h'.get? c=some o)->R (.ok (.ret .none)) { s with heap:=h',toks:=tk }) ->
   codeAny (model prog w) A (.builtin "dict.update.loop" ⟨[.ref d,.ref z,rawInt (k:Int),.none],[]⟩) R s:=by
 intro m
 induction m with
 | zero=>
  intro k s kvs hk Z hl1 hl2 hd hlen fin
  refine codeAny_builtin ZgQ ?_
  rw [Around.under_plainId ZbR _]
  show wpAny _ A.in1 (pyNext (.ref z) >>= _) _ _ s
  refine wpAny_bind (ZnL (A:=A.in1) hh D Z hl1 hl2 (by rw [Array.getElem?_eq_none];lia) fun h' kk=>?_)
  refine wpAny_pure ?_
  have e:ps.drop k = []:=List.drop_eq_nil_of_le (by lia)
  rw [e] at fin
  refine fin h' s.toks ?_ fun c o c1 c2 c3 c4 _ x=>kk c o c1 c2 c3 c4 x
  obtain ⟨o,es,ep,ho,r⟩:=hd
  exact ⟨o,es,ep,kk _ _ dz.1 dz.2.1 dz.2.2.1 dz.2.2.2.1 ho,r⟩
 | succ m ih=>
  intro k s kvs hk Z hl1 hl2 hd hlen fin
  refine codeAny_builtin ZgQ ?_
  rw [Around.under_plainId ZbR _]
  show wpAny _ A.in1 (pyNext (.ref z) >>= _) _ _ s
  obtain ⟨⟨pk,pv⟩,hpk⟩:∃p,ps[k]? = some p:=⟨ps[k]'(by lia),by simp⟩
  obtain ⟨a,t,rfl,hx,hy⟩:=hps k pk pv hpk
  refine wpAny_bind (Zme (A:=A.in1) D Z hl1 hl2 hx hy fun h' Z' hpair hsz kk=>?_)
  refine wpAny_bind (wpAny_holding ?_)
  refine wpAny_bind (wpAny_tryCatch ?_)
  unfold Builtin.Dict.pairItems
  refine wpAny_bind (wpAny_typeOf (T := "tuple") ⟨_,hpair,rfl⟩ ?_)
  refine wpAny_ite ?_
  rw [if_pos (by decide)]
  refine wpAny_bind (wpAny_seqItems hpair rfl ?_)
  refine wpAny_pure ?_
  show wpAny _ _ (holding [.int a t,pv] (dictSet d (.int a t) pv)) _ _ _
  have hd':h'.DictOf (Z7 prog w) d kvs:=by
   obtain ⟨o,es,ep,ho,r⟩:=hd
   exact ⟨o,es,ep,kk _ _ dz.1 dz.2.1 dz.2.2.1 dz.2.2.2.1 ho,r⟩
  have lst:∀{h h2:Heap}{l:Addr}{zs:Array Value},h.IsList l zs->(∀o,h.get? l=some o->h2.get? l=some o)->h2.IsList l zs:=fun {h h2 l zs} q k=>by
   obtain ⟨o,ho,r⟩:=q
   exact ⟨o,k o ho,r⟩
  refine wpAny_holding (Zm7 (s:={ s with heap:=h' }) hd' (by rw [sizeLine_eq];lia) fun h2 hd2 sb=>?_)
  refine wpAny_pure ⟨plainId_quiet ZbR _,?_⟩
  have hk2:∀c o,c≠z->c≠TO->c≠i1->c≠i2->c≠d->s.heap.get? c=some o->h2.get? c=some o:=fun c o c1 c2 c3 c4 c5 e=>sb.extBut _ _ c5 (kk c o c1 c2 c3 c4 e)
  have e:((k:Int)+1)=((k+1:Nat):Int):=by lia
  rw [e]
  have e2:ps.drop k=(Sum.inl a,pv)::ps.drop (k+1):=by
   obtain ⟨h1,h3⟩:=List.getElem?_eq_some_iff.mp hpk
   rw [<- h3]
   exact List.drop_eq_getElem_cons h1
  refine ih (k+1) { s with heap:=h2,toks:=s.toks+1 } _ (by lia) (Z'.keep fun c o e nd=>sb.extBut _ _ (fun q=>?_) e) (lst hl1 fun o e=>hk2 _ o D.l1z D.l1TO D.l1i1 D.l1i2 dz.2.2.2.2.1 e) (lst hl2 fun o e=>hk2 _ o D.l2z D.l2TO D.l2i1 D.l2i2 dz.2.2.2.2.2 e) hd2 ?_ fun h3 tk hd3 k3=>?_
  ·obtain ⟨o',es,ep,ho,hc,_⟩:=hd'
   rw [q,ho] at e
   cases e
   exact nd hc.1
  ·have:=stored_length_le kvs (Sum.inl a:Key) pv
   lia
  ·refine fin h3 tk ?_ fun c o c1 c2 c3 c4 c5 e=>k3 c o c1 c2 c3 c4 c5 (hk2 c o c1 c2 c3 c4 c5 e)
   rw [e2]
   exact hd3
theorem Zmj {z TI TO i1 i2 l1 l2:Addr}{E:Value->Shared->Prop}{s:Shared}{xs ys:Array Value}{ps:List (Key×Value)}{Q:Value->Shared->Prop} (D:ZipApart z TI TO i1 i2 l1 l2) (hh:A.handled=none) (hn:xs.size=ys.size) (hz:xs.size<=100000)
  (hp:ps.length=xs.size) (hps:∀(i:Nat) (k:Key) (v:Value),ps[i]? = some (k,v) -> ∃(a:Int) (t:Tok),k=Sum.inl a/\xs[i]? = some (Value.int a t)/\ys[i]? = some v)
  (hzp:IsZip s.heap z TI TO .none) (hTI:IsPair s.heap TI (.ref i1) (.ref i2)) (hTO:∃a b,IsPair s.heap TO a b) (h1:s.heap.IsListIter i1 l1 0) (h2:s.heap.IsListIter i2 l2 0) (hl1:s.heap.IsList l1 xs) (hl2:s.heap.IsList l2 ys)
  (h:∀h' tk,h'.DictOf (Z7 prog w) s.heap.objs.size (ZjC [] ps)->(∀c o,c≠z->c≠TO->c≠i1->c≠i2->s.heap.get? c=some o->h'.get? c=some o)->Q (.ref s.heap.objs.size) { s with heap:=h',toks:=tk }):
  wpAny (model prog w) A (call (.type "dict") [.ref z]) Q E s:=by
 refine callType_codes (Q₁:=fun obj s₁=>obj = .ref s.heap.objs.size/\s₁ = { s with heap:=s.heap.push { cls:=.type "dict", data:=.dict #[] } }) F.kt_called_dict (F.kt_typeCall_dict_1 _) F.entry_dict_init (kt_code_dict_new _ ⟨rfl,rfl⟩) ?_
 rintro obj s₁ ⟨rfl,rfl⟩
 have hnew:(s.heap.push { cls:=.type "dict", data:=.dict #[] }).DictOf (Z7 prog w) s.heap.objs.size []:=Heap.DictOf.new s.heap
 have up:∀c o,s.heap.get? c=some o->(s.heap.push { cls:=.type "dict", data:=.dict #[] }).get? c=some o:=fun c o e=>Heap.get?_push_of_some _ e
 refine ⟨hnew.typeIs,F.args_dict_init_2 _ _,?_⟩
 unfold Builtin.«dict.__init__»
 refine wpAny_bind ?_
 unfold Builtin.Dict.selfAndRest
 refine wpAny_bind (wpAny_notOrdered_dict hnew.typeIs ?_)
 show wpAny _ _ (pure (s.heap.objs.size,[Value.ref z])) _ _ _
 refine wpAny_pure ?_
 show wpAny _ _ (Builtin.Dict.updateFrom "dict.__init__" s.heap.objs.size (.ref z) [] .none) _ _ _
 unfold Builtin.Dict.updateFrom
 refine wpAny_bind (wpAny_typeOf (T := "zip") ⟨_,up _ _ hzp,rfl⟩ ?_)
 rw [if_pos (by decide)]
 refine wpAny_bind (Zmd (up _ _ hzp) hh fun h' tk kk=>?_)
 rw [if_pos (by rfl)]
 refine wpAny_bind (wpAny_rule ?_)
 refine wpAny_bind (wpAny_pyIter_zip (kk _ _ (up _ _ hzp)) ?_)
 have U:∀c o,s.heap.get? c=some o->h'.get? c=some o:=fun c o e=>kk c o (up c o e)
 have lt:∀{c:Addr}{o:Obj},s.heap.get? c=some o->s.heap.objs.size≠c:=fun e=>Ne.symm (Nat.ne_of_lt (Heap.lt_size e))
 obtain ⟨ta,tb,hto⟩:=hTO
 have n1:s.heap.objs.size≠i1:=by obtain ⟨o,ho,_⟩:=h1;exact lt ho
 have n2:s.heap.objs.size≠i2:=by obtain ⟨o,ho,_⟩:=h2;exact lt ho
 have n3:l1≠s.heap.objs.size:=by obtain ⟨o,ho,_⟩:=hl1;exact (lt ho).symm
 have n4:l2≠s.heap.objs.size:=by obtain ⟨o,ho,_⟩:=hl2;exact (lt ho).symm
 have cp:∀{l:Addr}{zs:Array Value},s.heap.IsList l zs->h'.IsList l zs:=fun {l zs} q=>by obtain ⟨o,ho,r⟩:=q;exact ⟨o,U _ _ ho,r⟩
 have ci:∀{i l:Addr}{k:Nat},s.heap.IsListIter i l k->h'.IsListIter i l k:=fun {i l k} q=>by obtain ⟨o,ho,r⟩:=q;exact ⟨o,U _ _ ho,r⟩
 have hd':h'.DictOf (Z7 prog w) s.heap.objs.size []:=by
  obtain ⟨o,es,ep,ho,r⟩:=hnew
  exact ⟨o,es,ep,kk _ _ ho,r⟩
 refine wpAny_pure ⟨plainId_quiet ZbR _,?_⟩
 refine Zmh (A:=A.in1) D hh hn hz hp hps ⟨lt hzp,lt hto,n1,n2,n3,n4⟩ xs.size 0 _ [] rfl ⟨.inl ⟨U _ _ hzp,ta,tb,U _ _ hto⟩,U _ _ hTI,ci h1,ci h2⟩ (cp hl1) (cp hl2) hd' (Nat.le_refl _) fun h3 tk3 d3 k3=>?_
 exact ⟨rfl,h h3 tk3 d3 fun c o c1 c2 c3 c4 e=>k3 c o c1 c2 c3 c4 (lt e).symm (U c o e)⟩
end
def Zaq (acc:List (Key×V)) (ps:List (Int×V)):List (Key×V):=ps.foldl (fun a p=>putK a (Sum.inl p.1) p.2) acc
def tDz (K:PySem.W.Frag) (ta:TA):TE:=fun σ H Q=>ta σ H fun vs H1=>∃(a b:Addr) (ns:List Int) (ys:List V),vs = [.ref a,.ref b]/\Zu K H1 a (ns.map V.int)/\Zu K H1 b ys/\ns.length=ys.length/\ns.length<=100000 /\ ∀D,H1 D=none->Q (.ref D) (upd H1 D (.dK (Zaq [] (ns.zip ys))))
theorem Ziu:∀{ns:List Int}{ys:List V}{us vs:List Value}{acc:List (Key×V)}{acc':List (Key×Value)},Vals (ns.map V.int) us->Vals ys vs->KV acc acc'->KV (Zaq acc (ns.zip ys)) (ZjC acc' ((ns.map fun n=>(Sum.inl n:Key)).zip vs))
 | [],_,_,_,_,_,_,_,r=>r
 | n::ns,[],_,_,_,_,_,h,r=>by cases h;exact r
 | n::ns,y::ys,_,_,_,_,h1,h2,r=>by
  cases h1 with
  | cons a1 t1=>
   cases h2 with
   | cons a2 t2=>exact Ziu (ns:=ns) (ys:=ys) t1 t2 (r.put (Sum.inl n) a2)
theorem Ze2:∀(ps:List (Int×V)) (acc:List (Key×V)),(Zaq acc ps).length<=acc.length+ps.length
 | [],acc=>Nat.le_refl _
 | p::ps,acc=>by
  have h1:=Ze2 ps (putK acc (Sum.inl p.1) p.2)
  have h2:=WO acc (Sum.inl p.1:Key) p.2
  show (Zaq (putK acc (Sum.inl p.1) p.2) ps).length<=_
  rw [List.length_cons];lia
section
variable {X:Cx}
theorem Zfb:∀{xs:List V}{us:List Value}{i:Nat}{x:V},Vals xs us->xs[i]? = some x -> ∃u,us[i]? = some u/\RelV x u
 | _,_,_,_,.nil,h=>by simp at h
 | _,_,0,_,.cons r _,h=>by simp at h;subst h;exact ⟨_,rfl,r⟩
 | _,_,i+1,x,.cons _ t,h=>by
  obtain ⟨b,h1,h2⟩:=Zfb (i:=i) (x:=x) t (by simpa using h)
  exact ⟨b,by simpa using h1,h2⟩
theorem ZhP {K:PySem.W.Frag}{a b:Expr}{ta:TA}{p p2 pos pos2:Pos} (hK:X.K=K) (hc:X.calm=true) (hgd:Gl X "dict") (hmd:X.mg "dict" = none) (hgz:Gl X "zip") (hmz:X.mg "zip" = none) (ha:PA X [a,b] ta)
  (hs:starEach [a,b] X.env = [(false,eval a X.env),(false,eval b X.env)]:=by rfl) (hs2:starEach [b] X.env = [(false,eval b X.env)]:=by rfl)
  (he:starEach [Expr.Call (.Name "zip" p2) [a,b] [] pos2] X.env=(false,eval (Expr.Call (.Name "zip" p2) [a,b] [] pos2) X.env)::starEach [] X.env:=by rfl) (hpl:(backTo pos (starEach [] X.env)).any (·.1)=false:=by rfl):
  PE X (.Call (.Name "dict" p) [.Call (.Name "zip" p2) [a,b] [] pos2] [] pos) (tDz K ta):=by
 subst hK
 intro pins s σ H Q I h
 refine wpAny_Call_Name_kw (GZ I hgd hmd boot_dict ?_ (by decide) (by decide))
 refine PyProof.Rows.callWith_type1 ?_ he hpl
 rw [he]
 show wpAny _ _ (spliced ((false,eval (Expr.Call (.Name "zip" p2) [a,b] [] pos2) X.env)::backTo pos (starEach [] X.env))) _ _ s
 refine Calls.spliced_cons ?_
 refine Call_ (GZ I hgz hmz boot_zip (PyProof.Rows.callWith_type1 (YR (ha pos2 pins s σ H _ I h) fun us s1 ⟨vs,H1,I1,r1,q1⟩=>?_) (by rw [hs,hs2]) (by rw [hs2];rfl)))
 obtain ⟨l1,l2,ns,ys,e,hq1,hq2,hl,hz,q⟩:=q1
 subst e
 obtain ⟨u,v,rfl,ru,rv⟩:=r1.two
 cases ru
 cases rv
 obtain ⟨its1,rv1,p1,hz1⟩:=I1.list hq1
 obtain ⟨its2,rv2,p2',hz2⟩:=I1.list hq2
 have L1:@LT.lt Nat _ l1 s1.heap.objs.size:=by obtain ⟨o,ho,_⟩:=p1.isList;exact aLt ho
 have L2:@LT.lt Nat _ l2 s1.heap.objs.size:=by obtain ⟨o,ho,_⟩:=p2'.isList;exact aLt ho
 refine call_zip_2 p1.isList p2'.isList fun h' g1 g2 g3 g4 g5 hsz kk=>?_
 have ap:ZipApart (s1.heap.objs.size+4) (s1.heap.objs.size+2) (s1.heap.objs.size+3) s1.heap.objs.size (s1.heap.objs.size+1) l1 l2:=by
  constructor<;>(intro e;have e':@Eq Nat _ _:=e;lia)
 refine Calls.spliced_nil ?_
 have le1:its1.length=ns.length:=by rw [<- rv1.length,List.length_map]
 have le2:its2.length=ys.length:=rv2.length.symm
 have hb:@LT.lt Nat _ sysModules h'.objs.size:=by have:@LT.lt Nat _ sysModules s1.heap.objs.size:=I1.big;rw [hsz];lia
 have cp:∀{l:Addr}{zs:Array Value},s1.heap.IsList l zs->h'.IsList l zs:=fun {l zs} q=>by obtain ⟨o,ho,r⟩:=q;exact ⟨o,kk _ _ ho,r⟩
 refine Zmj (s:={ s1 with heap:=h' }) (ps:=(ns.map fun n=>(Sum.inl n:Key)).zip its2) ap (I1.ok.hd hc) (by simp;lia) (by simp;lia) (by simp;lia) (fun i k v hi=>?_) g1 g2 ⟨_,_,g3⟩ g4 g5 (cp p1.isList) (cp p2'.isList) fun h2 tk hd k2=>?_
 ·obtain ⟨e1,e2⟩:=List.getElem?_zip_eq_some.mp hi
  rw [List.getElem?_map] at e1
  obtain ⟨a,ha',rfl⟩:=Option.map_eq_some_iff.mp e1
  obtain ⟨u,hu,t,rfl⟩:=Zfb rv1 (i:=i) (x:=.int a) (by rw [List.getElem?_map,ha'];rfl)
  exact ⟨a,t,rfl,by simpa using hu,by simpa using e2⟩
 ·have keep:∀c o,s1.heap.get? c=some o->h2.get? c=some o:=fun c o e=>by
   have lt:@LT.lt Nat _ c s1.heap.objs.size:=aLt e
   refine k2 c o ?_ ?_ ?_ ?_ (kk c o e)<;>(intro e;have e':@Eq Nat _ _:=e;lia)
  have le:@LE.le Nat _ s1.heap.objs.size h'.objs.size:=by rw [hsz];lia
  refine ⟨.ref h'.objs.size,_,I1.laid (a:=h'.objs.size) (o:=.dK (Zaq [] (ns.zip ys))) (h':=h2) (t':=tk) keep le (Zhw ?_ (beq_eq_false_iff_ne.mpr (Ne.symm (Nat.ne_of_lt hb))) (Ziu rv1 rv2 .nil) hd),rfl,q _ (I1.hok.fresh le)⟩
  have:=Ze2 (ns.zip ys) []
  rw [List.length_zip,List.length_nil] at this
  rw [sizeLine_eq];lia
end
open AutoSeq1 (wpAny_loadPart') in
theorem Zdp (xs:List V) (k:Nat):GN xs none (some (k:Int))=xs.take k:=by
 unfold GN
 rw [HT.Zei,HT.Zcc,List.drop_zero,Nat.sub_zero,List.take_eq_take_iff]
 lia
theorem Zdl (xs:List V) (k:Nat):GN xs (some (k:Int)) none=xs.drop k:=by
 unfold GN
 rw [HT.Zei,HT.Zcc]
 by_cases h:k<=xs.length
 ·rw [Nat.min_eq_left h,List.take_of_length_le (by rw [List.length_drop];lia)]
 ·rw [Nat.min_eq_right (by lia),List.drop_eq_nil_of_le (Nat.le_refl _),List.drop_eq_nil_of_le (by lia),List.take_nil]
end L2
namespace L2
open PySem PySem.Spec PyProof.Rows HT
def adv (mask:Nat) (p:SetTable.Probe):SetTable.Probe:=
 if p.more>0 then { p with j:=p.j+1,more:=p.more-1 } else
 { p with j:=(SetTable.leap mask p.i p.perturb).1,more:=SetTable.runEnd mask (SetTable.leap mask p.i p.perturb).1-(SetTable.leap mask p.i p.perturb).1,i:=(SetTable.leap mask p.i p.perturb).1,perturb:=(SetTable.leap mask p.i p.perturb).2 }
def stH (mask:Nat) (h:Int):Nat->SetTable.Probe
 | 0=>{ j:=SetTable.bits h % (mask+1),more:=SetTable.runEnd mask (SetTable.bits h % (mask+1))-SetTable.bits h % (mask+1),i:=SetTable.bits h % (mask+1),perturb:=SetTable.bits h,dummy:=none }
 | n+1=>adv mask (stH mask h n)
def pj (mask:Nat) (h:Int) (n:Nat):Nat:=(stH mask h n).j
def Rch (mask:Nat) (P:Nat->Prop) (h:Int) (j:Nat):Prop:=∃s,s<10*SetTable.turns mask/\pj mask h s=j /\ ∀m,m<s->P (pj mask h m)
structure TbG (t:SetTable) (hs:List Int):Prop where
 dum:t.dummies = #[]
 rise:t.place.toList.Pairwise (· < ·)
 dom:∀j∈t.place.toList,j<=t.mask
 len:t.place.size=hs.length
 msk:t.mask=7∨t.mask=31
 few:hs.length*5<t.mask*3
 rch:∀(i j:Nat) (h:Int),t.place.toList[i]? = some j->hs[i]? = some h->Rch t.mask (· ∈ t.place.toList) h j
def occ (owner:Array (Option Nat)) (j:Nat):Prop:=∃k,owner[j]? = some (some k)
structure OC (mask:Nat) (owner:Array (Option Nat)) (hs:List Int):Prop where
 sz:owner.size=mask+1
 sur:∀i:Nat,i<hs.length -> ∃j:Nat,owner[j]? = some (some i)
 lt:∀j i:Nat,owner[j]? = some (some i)->i<hs.length
 one:∀j j' i:Nat,owner[j]? = some (some i)->owner[j']? = some (some i)->j=j'
 rch:∀(j i:Nat) (h:Int),owner[j]? = some (some i)->hs[i]? = some h->Rch mask (occ owner) h j
end L2
namespace L2
def Zmk (T:Nat->Nat):Nat->Nat->Nat
 | 0,_=>0
 | n+1,v=>(if v.testBit n=true then T n else 0) ^^^ Zmk T n v
def LB (v j:Nat):Prop:=v.testBit j=true /\ ∀k,k<j->v.testBit k=false
structure Up (T:Nat->Nat) (n i:Nat) (S:Nat->Nat) (p:Nat->Option Nat):Prop where
 lb:∀r,i<=r->r<n->LB (S r) r
 bd:∀r,i<=r->r<n->S r<2 ^ n
 inv:∀r q,i<=r->r<n->p r=some q->i<=q/\q<n/\q≠r/\p q=some r
 img:∀r q,i<=r->r<n->p r=some q->r<q->Zmk T n (S r)=S q
 ker:∀r,i<=r->r<n->(∀q,p r=some q->q<r)->Zmk T n (S r)=0
def Zol:List Nat->Nat
 | []=>0
 | a::l=>a ^^^ Zol l
structure Tk (T:Nat->Nat) (n i:Nat) (S:Nat->Nat) (p:Nat->Option Nat) (rest a:Nat) (lone:List Nat):Prop where
 up:Up T n (i+1) S p
 eq:Zmk T n a=rest ^^^ Zol (lone.map S)
 la:LB a i
 ba:a<2 ^ n
 br:rest<2 ^ n
 lo:∀k,k<=i->rest.testBit k=false
 ln:∀l∈lone,i<l/\l<n/\p l=none
 as:lone.Pairwise (· < ·)
 ab:∀l∈lone,∀k,k<=l->rest.testBit k=false
end L2
namespace L2
open PySem PyProof.Rows
section
variable {X:Cx}
theorem Zji {K:PySem.W.Frag}{a:Expr}{ta:TE} (hk:X.K=K) (h:PT X a (fun σ H Q=>ta σ H fun x H'=>∃k,Zlj X.K x H' k/\Q k H')):PT X a (fun σ H Q=>ta σ H fun x H'=>∃k,Zlj K x H' k/\Q k H'):=hk ▸ h
end
structure ZoK (N:List Str) (osc scope:Scope) (Ls Fs:List Str) (fi:List Nat):Prop where
 kind:scope.kind = .function
 cells:∀y∈scope.names,y.2 = .cell->scope.names.lookup y.1=some .cell
 names:∀y∈scope.names,y.2 = .local->scope.names.lookup y.1=some .local
 fre:∀x∈Fs,scope.names.lookup x=some .free
 all:∀y∈scope.names,y.2 = .free->osc.names.lookup y.1=some .cell∨osc.names.lookup y.1=some .free
 ix:fi.map (fun i=>N[i]?)=Fs.map some
end L2
namespace L2
open PySem PySem.Spec PyProof.Rows
section
variable {X:Cx}
def ZnW (K:PySem.W.Frag):R2:=fun x y H Q=>∃(p q:Addr) (xs:List V),x = .ref p/\y = .ref q/\Zu K H p xs/\Zu K H q []/\Q (.bl xs.isEmpty) H
theorem ZiY {K:PySem.W.Frag} (h:X.K=K) (hu:X.A.units+64<cLine):UA X (compareOp .Eq) (ZnW K):=by
 subst h
 intro pins s σ H x y v u Q I rx ry h
 obtain ⟨p,q,xs,rfl,rfl,hp,hq,hQ⟩:=h
 cases rx
 cases ry
 obtain ⟨its,r1,p1,_⟩:=I.list hp
 obtain ⟨its2,r2,p2,_⟩:=I.list hq
 have l1:=r1.length
 have l2:its2.length=0:=by simpa using r2.length.symm
 cases xs with
 | nil=>
  have l3:its.length=0:=by simpa using l1.symm
  refine SeqAt.eq_listAt (e:=fun _=>true) p1.isList p2.isList (by simp only [List.size_toArray];lia) (by lia) (fun j h1 _=>by simp only [List.size_toArray] at h1;lia) ⟨.bl true,H,I,?_,hQ⟩
  show Value.bool _=Value.bool true
  simp
 | cons z zs=>
  have l3:its.length=zs.length+1:=by simpa using l1.symm
  exact SeqAt.eq_list_lengthsAt p1.isList p2.isList (by simp only [List.size_toArray,bne_iff_ne];lia) (by lia) ⟨.bl false,H,I,rfl,hQ⟩
end
def Trk (H:Hp) (v:Value):Prop:=∃a C,v = .ref a/\H a=some (.ext (isX a C))
def Hnd (A:Around) (H:Hp):Prop:=∀v,A.handled=some v->Trk H v
def Quiet (A:Around) (h:Heap):Prop:=∀v,A.handled=some v -> ∃a o vs,v = .ref a/\h.get? a=some o/\o.data = .fields vs/\vs[2]? = some .none
theorem Inv.quietH {X:Cx}{pins:List (Addr×Obj)} {σ:St}{H:Hp}{s:Shared} (I:Inv X pins σ H s) (hq:Hnd X.A H):Quiet X.A s.heap:=fun v e=>by
 obtain ⟨a,C,rfl,ha⟩:=hq v e
 obtain ⟨o,e1,_,vs,d,z⟩:=(show isX a C s.heap from (I.hok a _ ha).1)
 exact ⟨a,o,vs,rfl,e1,d,z⟩
theorem Hnd.same {A:Around}{H H':Hp} (x:Hnd A H) (s:Zi H H'):Hnd A H':=fun v e=>let ⟨a,C,r,h⟩:=x v e;⟨a,C,r,s a _ h⟩
section
variable {prog:Program}{w:World}{A:Around}{E:Value->Shared->Prop}{s:Shared}
theorem Zex:entryFor table "proto.unchain" = some Builtin.«proto.unchain»:=entryFor_of_tree (by kernel_rfl)
theorem ZeF:plainId "proto.unchain" = true:=by decide +kernel
theorem ZgX {α:Type}{Q:α -> Shared->Prop} (hq:Quiet A s.heap) (h:∀h' a,(∀b o,s.heap.get? b=some o->h'.get? b=some o)->Shared.TypeIs { s with heap:=h' } (.ref a) "StopIteration" -> E (.ref a) { s with heap:=h' }):
  wpAny (model prog w) A ((newExc (.type "StopIteration") [] >>= raiseNew:Sem α)) Q E s:=by
 cases hh:A.handled with
 | none=>exact ZhD hh h
 | some v=>
  obtain ⟨a,o,vs,rfl,ha,hd,h2⟩:=hq v hh
  wp_walk using wpAny_newObj_type
  ·obtain ⟨h1,e1⟩:∃h1,h1=s.heap.push { cls:=.type "tuple", data:=.seq #[] }:=⟨_,rfl⟩
   obtain ⟨ws,e2⟩:∃ws,ws=(#[Value.ref s.heap.objs.size,Value.none,Value.none,Value.none,Value.bool false,if ((Manifest.find? "StopIteration").elim false fun t=>t.mro.contains "StopIteration" || t.mro.contains "SystemExit")=true then [].headD Value.none else Value.none]++ownMembersOf (Value.type "StopIteration") []):=⟨_,rfl⟩
   have wz:2<ws.size:=by rw [e2,Array.size_append];simp only [List.size_toArray,List.length_cons,List.length_nil];lia
   obtain ⟨h2',e3⟩:∃h2',h2'=h1.push { cls:=.type "StopIteration", data:=.fields ws }:=⟨_,rfl⟩
   have up:∀b o,s.heap.get? b=some o->h1.get? b=some o:=fun b o e=>by rw [e1];exact Heap.get?_push_of_some _ e
   have up2:∀b o,s.heap.get? b=some o->h2'.get? b=some o:=fun b o e=>by rw [e3];exact Heap.get?_push_of_some _ (up b o e)
   have nw:h2'.get? h1.objs.size=some { cls:=.type "StopIteration", data:=.fields ws }:=by rw [e3];exact Heap.get?_push_size _ rfl
   have ne:(Value.ref a != Value.ref h1.objs.size)=true:=bne_iff_ne.mpr fun z=>by
    have:=Heap.lt_size (up a o ha)
    rw [Value.ref.inj z] at this
    exact Nat.lt_irrefl _ this
   show wpAny (model prog w) A (raiseNew (.ref (s.heap.push { cls:=.type "tuple", data:=.seq #[] }).objs.size)) Q E { s with heap:=(s.heap.push { cls:=.type "tuple", data:=.seq #[] }).push { cls:=.type "StopIteration", data:=.fields (#[Value.ref s.heap.objs.size,Value.none,Value.none,Value.none,Value.bool false,if ((Manifest.find? "StopIteration").elim false fun t=>t.mro.contains "StopIteration" || t.mro.contains "SystemExit")=true then [].headD Value.none else Value.none]++ownMembersOf (Value.type "StopIteration") []) } }
   rw [<- e1,<- e2,<- e3]
   unfold raiseNew
   refine wpAny_bind (wpAny_handled ?_)
   rw [hh]
   refine wpAny_ite_true (decide_eq_true ne) (wpAny_bind (wpAny_holding (wpAny_runValue (codeAny_builtin Zex ?_))))
   rw [Around.under_plainId ZeF _]
   unfold Builtin.«proto.unchain»
   refine wpAny_bind (wpAny_field (up2 a o ha) hd h2 ?_)
   wp_walk
   rw [if_pos wz]
   wp_walk
   refine h _ _ (fun b o e=>(Heap.get?_update_other _ _ fun z=>?_).trans (up2 b o e)) ⟨_,Heap.get?_update_self _ nw rfl,rfl⟩
   have q:=Heap.lt_size (up b o e)
   rw [<- z] at q
   exact Nat.lt_irrefl _ q
  all_goals size_fits
theorem Zh2 {it:Addr}{x left step:Int}{Q:Option Value->Shared->Prop} (hq:Quiet A s.heap) (hit:IsRangeIter s.heap it x left step) (hl:left<=0)
  (hQ:∀h',(∀b o,b≠it->s.heap.get? b=some o->h'.get? b=some o)->Q none { s with heap:=h' }):wpAny (model prog w) A (pyNext (.ref it)) Q E s:=by
 have ty:s.TypeIs (.ref it) "range_iterator" := ⟨_,hit,rfl⟩
 have hq':Quiet A.in1 s.heap:=hq
 unfold pyNext
 refine wpAny_bind (wpAny_attempt (wpAny_callSpecial?_slot (name:=Str.ofString "__next__") ty F.slot_range_iterator_next (wpAny_call_entry F.slot_range_iterator_next ty F.entry_range_iterator_next ?_ (F.args_range_iterator_next_1 _))))
 wp_walk using ZgX hq',wpAny_ite_true (decide_eq_true hl),wpAny_fieldsOf hit rfl
 intro h' a k tys
 wp_walk using wpAny_isInstance (T := "StopIteration") (b:=true) tys isSubtype_stop
 exact hQ h' fun b o _ e=>k b o e
end
def Zm5 (A:Around) (lo:Int) (n:Nat):It:=⟨(Itr lo n).go,(Itr lo n).yld,fun i H=>(Itr lo n).stop i H/\Hnd A H⟩
def Zpo (X:Cx) (pins:List (Addr×Obj)) (σ:St) (tg:Expr) (R:It->Hp->Prop) (itv:Value) (s2:Shared):Prop:=
 ∃(it:Addr) (fp:List Addr) (tn:Nat->Heap->Prop) (J:It) (H':Hp),itv = .ref it/\Inv X pins σ H' s2/\(∀X':Cx,X'.A=X.A->Zit X' tg J fp it tn)/\tn 0 s2.heap/\(∀b∈fp,ZcF X pins H' b)/\R J H'
def PIQ (X:Cx) (tg iter:Expr) (wi:TI):Prop:=
 ∀(pins:List (Addr×Obj)) (s:Shared) (σ:St) (H:Hp) (R:It->Hp->Prop),Inv X pins σ H s->wi σ H R ->
  wpAny (model X.prog X.w) X.A (eval iter X.env) (fun v s1=>wpAny (model X.prog X.w) X.A (pyIter v) (Zpo X pins σ tg R) X.xe s1) X.xe s
theorem Zha {X:Cx}{A:Around} (hA:X.A=A) {tg:Expr} (it:Addr) (lo:Int) (n:Nat):Zit X tg (Zm5 A lo n) [it] it (fun i h=>IsRangeIter h it (lo+(i:Nat)*1) ((n:Int)-(i:Nat)) 1):=by
 subst hA
 have T:=Zed (P:=X.prog) (w:=X.w) (K:=X.K) (tg:=tg) it lo n
 refine ⟨T.obj,T.keep,fun i pins s σ H E I hf st hg=>?_,fun i pins s σ H E I hf st hg=>?_,T.self⟩
 ·obtain ⟨f0,f1,f2,f3,f4,f5⟩:=hf it (by simp)
  have lt:i<n:=hg
  refine wpAny_pyNext_range_item st (by lia) fun h' st' sb=>?_
  have st'':IsRangeIter h' it (lo+((i+1:Nat):Int)*1) ((n:Int)-((i+1:Nat):Int)) 1:=by
   rw [show lo+((i+1:Nat):Int)*1=lo+(i:Nat)*1+1 by lia,show (n:Int)-((i+1:Nat):Int)=(n:Int)-(i:Nat)-1 by lia]
   exact st'
  have I1:Inv X pins σ H { s with heap:=h',toks:=s.toks+1 }:=I.turned (fun b o hb e=>(sb.2 b hb).trans e) f0 f1 f3 f4 f5
  refine ⟨_,rfl,ZgR (s:={ s with heap:=h',toks:=s.toks+1 }) (n := "range_iterator") st'' rfl rfl (by decide) ⟨.int (lo+i),H,I1,⟨s.toks,?_⟩,⟨rfl,rfl⟩,st'',fun b hb=>(hf b hb).1⟩⟩
  rw [Int.mul_one]
 ·obtain ⟨f0,f1,f2,f3,f4,f5⟩:=hf it (by simp)
  exact Zh2 (I.quietH hg.2) st (by have:n<=i:=hg.1;lia) fun h' eb=>⟨rfl,I.turned (t':=s.toks) eb f0 f1 f3 f4 f5⟩
def ZoQ (A:Around) (ta:TA):TI:=fun σ H R=>ta σ H fun vs H1=>∃j:Int,vs = [.int j] /\ -(2 ^ 62)<=j/\j<2 ^ 62/\R (Zm5 A 0 j.toNat) H1
section
variable {X:Cx}{tg:Expr}
theorem Zi4 {A:Around}{a:Expr}{ta:TA}{p pos:Pos} (hA:X.A=A) (hg:Gl X "range") (hm:X.mg "range" = none) (ha:PA X [a] ta) (hs:starEach [a] X.env = [(false,eval a X.env)]:=by rfl):PIQ X tg (.Call (.Name "range" p) [a] [] pos) (ZoQ A ta):=by
 subst hA
 intro pins s σ H R I h
 refine Call_ (GZ I hg hm boot_range (PyProof.Rows.callWith_type1 (YR (ha pos pins s σ H _ I h) fun us s1 ⟨vs,H1,I1,r1,q1⟩=>?_) hs rfl))
 obtain ⟨j,e,q1,q2,q⟩:=q1
 subst e
 cases r1 with
 | cons r rr=>
  cases rr
  obtain ⟨t,rfl⟩:=r
  refine call_range_1 (wpAny_pyIter_range (IsRange.new ..) (small_one (by lia) (by lia) q1 q2) ?_)
  have I2:Inv X pins σ H1 { s1 with heap:=s1.heap.push { cls:=.type "range", data:=.fields #[.int 0 s1.toks,.int j t,.int 1 (s1.toks+1)] },toks:=s1.toks+1+1 }:=I1.kept fun b o e=>Heap.get?_push_of_some _ e
  refine ⟨_,[(s1.heap.push { cls:=.type "range", data:=.fields #[.int 0 s1.toks,.int j t,.int 1 (s1.toks+1)] }).objs.size],_,_,H1,rfl,I2.kept (t':=s1.toks+1+1) fun b o e=>Heap.get?_push_of_some _ e,fun X' hX=>Zha hX _ 0 j.toNat,?_,fun b hb=>?_,q⟩
  ·have e2:((j.toNat:Nat):Int)-((0:Nat):Int)=Builtin.Range.rangeSize 0 j 1:=by rw [rangeSize_one];split<;>lia
   show IsRangeIter _ _ (0+((0:Nat):Int)*1) (((j.toNat:Nat):Int)-((0:Nat):Int)) 1
   rw [e2]
   exact Heap.get?_push_size _ rfl
  ·obtain rfl:b=_:=by simpa using hb
   have e:(s1.heap.push { cls:=.type "range", data:=.fields #[.int 0 s1.toks,.int j t,.int 1 (s1.toks+1)] }).objs.size=s1.heap.objs.size+1:=Heap.size_push ..
   exact I2.fpOk (Nat.le_of_eq e) (I2.hok.fresh (Nat.le_of_eq e))
theorem Zn2 {elt iter:Expr}{ifs:List Expr}{scope:Scope}{pos:Pos}{Ls Fs:List Str}{fi:List Nat}{g:TG}{tc:TT}{te:TE}{wi:TI} (S:ZY X.N X.env.scope scope Ls Fs fi) (hi:PIQ X tg iter wi)
  (hb:∀cl C s3 H3 ex,PG (blk X scope (Ls++Fs) cl C s3 H3 ex) tg g/\PTs (blk X scope (Ls++Fs) cl C s3 H3 ex) ifs tc/\PE (blk X scope (Ls++Fs) cl C s3 H3 ex) elt te)
  (hs:∀x,foldedSetIterable iter X.env x=pure x:=by intro _;rfl):PE X (.ListComp elt [⟨tg,iter,ifs,0⟩] scope pos) (tLc Ls.length fi wi g tc te):=by
 intro pins s σ H Q I h
 rw [eval_ListComp]
 obtain ⟨cl,hcl,hcl1,hcl2⟩:=ZfG (scope:=scope) (env:=X.env) fun y hy hf=>I.ok.has y.1 (S.all y hy hf)
 refine wpAny_comprehension_free (use:=none) rfl hs hcl S.kind S.names (wpAny_mono (hi pins s σ H _ I h) (fun v s1 h1=>wpAny_mono h1 (fun itv s2 h2=>?_) fun _ _ e=>e) fun _ _ e=>e)
 obtain ⟨it,fp,tn,J,H2,e,I2,T,st2,f2,hW⟩:=h2
 subst e
 refine ZdC (RR:=fun acc C=>compPost (model X.prog X.w) X.A X.xe none (EP X pins σ Q) acc C) S (hb cl) hcl1 hcl2 I2 (fun C s3 H3 ex=>T _ rfl) st2 f2 hW fun D C H' s' m I' q hn f=>?_
 obtain ⟨f0,f1,f2,f3,f4,f5⟩:=f
 exact ⟨m,hn,fun h' hs'=>⟨.ref D,H',I'.turned (it:=C) (t':=s'.toks) (fun b o hb e=>(hs'.2 b hb).trans e) f0 f1 f3 f4 f5,rfl,q⟩⟩
end
def ZoW (K:PySem.W.Frag):List V->Hp->VK->Prop:=fun xs H Q=>∃(a C:Addr) (y:V) (b:Bool),xs = [.ref a,y]/\H a=some (.ext (isX a C))/\Zl5 K C /\
 ((∃D,y = .ref D/\PySem.W.kitOne K (.ref C) (.ref D)=some b)∨(∃T,y = .ty T/\PySem.W.kitOne K (.ref C) (.type T)=some b)∨(∃(p:Addr) (ds:List Addr),y = .ref p/\H p=some (.tup (ds.map V.ref))/\PySem.W.kitAny K (.ref C) (ds.map Value.ref)=some b))/\Q (.bl b) H
theorem Ze4:∀{ds:List Addr}{us:List Value},Vals (ds.map V.ref) us->us=ds.map Value.ref
 | [],_,.nil=>rfl
 | _::_,_,.cons r t=>by rw [Ze4 t];cases r;rfl
theorem Ww {X:Cx}{K:PySem.W.Frag} (h:X.K=K):Jd X (.builtin "isinstance") (ZoW K):=by
 intro pins s σ H vs us Q I rv hq
 obtain ⟨a,C,y,b,rfl,ha,xc,hy,q⟩:=hq
 rcases hy with hy | hy | ⟨p,ds,rfl,hp,hk⟩
 ·exact Zhj h pins s σ H _ us Q I rv ⟨a,C,y,b,rfl,ha,xc,.inl hy,q⟩
 ·exact Zhj h pins s σ H _ us Q I rv ⟨a,C,y,b,rfl,ha,xc,.inr hy,q⟩
 ·subst h
  cases rv with
  | cons r1 rv=>
   cases rv with
   | cons r2 rv=>
    cases rv
    cases r1
    cases r2
    obtain ⟨_,its,r,o,h1,h2,n,h3⟩:=(show Yt X.prog X.w H s.heap p (.tup (ds.map V.ref)) from I.hok p _ hp)
    obtain ⟨cls,dd,data,sl⟩:=o
    dsimp only at h2 h3
    subst h2 h3
    obtain rfl:=Ze4 r
    have hx:∃o,s.heap.get? a=some o/\o.cls = .ref C:=let ⟨o,e,c,_⟩:=(show isX a C s.heap from (I.hok a _ ha).1);⟨o,e,c⟩
    exact PySem.W.kia_tup (ZdS xc.ga xc.gn xc.ca xc.ob xc.be xc.cl) I.kIn hx h1 hk (fun z=>nomatch z) fun tk=>⟨.bl b,H,I.tok _,rfl,q⟩
section
variable {P:Program}{w:World}{K:PySem.W.Frag}{mg:Str->Option Value}{base:Heap}
structure Zh7 (P:Program) (w:World) (K:PySem.W.Frag) (mg:Str->Option Value) (base:Heap) (k:Nat) (f:Addr) (fd:FuncData) (ps:List Str) (sp:Sp):Prop where
 len:∀vs H Q E,sp vs H Q E->vs.length=ps.length
 run:∀(A:Around) (outer:List Env) (s:Shared) (H:Hp) (args:Args) (us:List Value) (vs:List V) (Q:VK),Zea k A->Hnd A H->ZhB P w K mg base A outer s H->BindsTo s fd args (ps.zip us)->Vals vs us->sp vs H Q E0 ->
  codeAny (model P w) A (.call (.ref f) args) (CR J9 outer P w H s Q E0) s
theorem Yp.okQ {x qual:Str}{st:Stmt}{f:Addr}{fd:FuncData}{N ps:List Str}{k:Nat}{sp:Sp} (F:Yp K x qual st f fd) (S:Zz N ps (Zh st)) (len:∀vs H Q E,sp vs H Q E->vs.length=ps.length)
  (hbody:∀(cdv:Value) (A:Around) (outer:List Env) (s:Shared) (H:Hp) (vs:List V) (Q:VK),Zea k (A.deeper (envOfC qual (Zh st) s.heap.objs.size f cdv))->Hnd (A.deeper (envOfC qual (Zh st) s.heap.objs.size f cdv)) H->sp vs H Q E0 ->
   ∃t,PSs (cxS P w K mg base N qual (Zh st) f cdv A outer s H) (GR st) t/\t { nx:=fun _ H'=>Q .non H',rt:=Q } (start N vs) H):Zh7 P w K mg base (k+1) f fd ps sp:=by
 obtain ⟨oc,od,kV,doc,pm,an,cdv,ct,osl,rfl,lk,hcd⟩:=F.ex
 refine ⟨len,fun A outer s H args us vs Q hr hq e0 hb r hsp=>?_⟩
 have hl:=len _ _ _ _ hsp
 have KX:K.In s.heap:=e0.mod.kin.keeps fun b o e=>(e0.bs b o e).1
 have lim:s.heap.NoLimit:=e0.mod.nolimit.keeps fun b o e=>(e0.bs b o e).1
 have hkind:∀y∈ps.zip us,(Zh st).names.lookup y.1=some .local∨((Zh st).names.lookup y.1=some .cell/\((cellsFrom (s.heap.objs.size+1) (Zh st).names []).lookup y.1).isSome=true):=fun ⟨n,v⟩ hy=>by
  rcases S.par n (List.of_mem_zip hy).1 with q | q
  ·exact .inl q
  ·exact .inr ⟨q,PySem.W.cellsFrom_some _ _ _ (.inl q)⟩
 have dep:A.depth<recursionLimit:=by have:=hr.dp;lia
 refine codeAny_call_function dep (KX _ _ lk) rfl S.co S.gen rfl (PySem.W.codeRec_of KX hcd) (hb _ _ _ _ ?_)
 refine wpAny_newFunctionEnv_cells S.kind hkind fun env he s1 x=>?_
 subst he
 refine ⟨lim.keeps x.toInCall.keep,codeAny_func ?_⟩
 obtain ⟨t,ht,hq⟩:=hbody cdv A outer s H vs Q ⟨by have:=hr.dp;show A.depth+1+3*k+5<_;lia,by have:=hr.un;show A.units+3+16*k+200<_;lia⟩ hq hsp
 have e1:ZhB P w K mg base ({ A with handled:=none }) outer s H:=⟨e0.frames,e0.mod,e0.bs,e0.bsz,e0.funs,e0.frf,e0.hok,e0.bare⟩
 have I0:Inv (WZ J9 P w K mg base N qual (Zh st) f cdv ({ A with handled:=none }) outer s H E0) [] (start N vs) H s1:=ZeR S rfl e1 hl r x
 have ok:=I0.ok
 have I:Inv (cxS P w K mg base N qual (Zh st) f cdv A outer s H) [] (start N vs) H s1:=
  ⟨⟨ok.mod,ok.kind,ok.glob,ok.blt,ok.above,ok.inj,ok.has,ok.cab,(fun z=>nomatch z),Around.frames_deeper e0.frames,ok.stk,ok.exf,ok.bs,ok.bsz,ok.noex,ok.exfs,ok.funs,ok.frf⟩,I0.os,I0.bare,I0.base,I0.loc,I0.cell,I0.free,I0.freeC,I0.pin,I0.hok,I0.len⟩
 refine wpAny_mono (ht [] s1 (start N vs) H _ I hq) (fun fl s' hs=>?_) fun e s' hs=>hs.elim
 have fin:∀{σ':L2.St}{H':Hp}{v:V}{u:Value},Inv (cxS P w K mg base N qual (Zh st) f cdv A outer s H) [] σ' H' s'->RelV v u->Q v H'->CE outer P w H s Q u s':=
  fun {σ' H' v u} J rv q=>⟨v,H',J.os,J.bare,J.base,J.hok,rv,q⟩
 cases fl with
 | ret u=>obtain ⟨v,σ',H',J,rv,q⟩:=hs;exact fin J rv q
 | next=>obtain ⟨σ',H',J,q⟩:=hs;exact fin (v:=V.non) (u:=Value.none) J rfl q
 | brk=>obtain ⟨_,_,_,q⟩:=hs;exact False.elim q
 | cont=>obtain ⟨_,_,_,q⟩:=hs;exact False.elim q
def Zm8 (A:Around) (sp:Sp) (ta:TA):TE:=fun σ H Q=>ta σ H fun vs H1=>Hnd A H1/\sp vs H1 Q E0
def Zlv (P:Program) (w:World) (K:PySem.W.Frag) (mg:Str->Option Value) (base:Heap) (k:Nat) (x:Str) (ps:List Str) (sp:Sp):Prop:=
 ∃(f:Addr) (fd:FuncData),Zh7 P w K mg base k f fd ps sp/\mg x=some (.ref f)/\PySem.W.keepIn K (.ref f)=true/\Binds K fd ps []
theorem Zly {X:Cx}{k:Nat}{x:Str}{ps:List Str}{sp:Sp}{p pos:Pos}{e:Expr}{es:List Expr}{t:TA}{A:Around} (h:Zlv X.prog X.w X.K X.mg X.base k x ps sp) (hr:Zea k X.A) (hA:X.A=A) (ha:PA X (e::es) t) (hg:Gl X x:=by rfl) (hdb:(x==("__debug__" : Str))=false:=by decide)
  (he:starEach (e::es) X.env=(false,eval e X.env)::starEach es X.env:=by rfl) (hpl:(backTo pos (starEach es X.env)).any (·.1)=false:=by rfl):PE X (.Call (.Name x p) (e::es) [] pos) (Zm8 A sp t):=by
 subst hA
 obtain ⟨f,fd,G,hm,hk,hb⟩:=h
 intro pins s σ H Q I hw
 refine wpAny_Call_Name_kw (ZbX I hg hm ?_ hdb)
 refine PySem.W.callWith_K (h₀:=X.base) I.ok.mod.kin hk (YR (ha pos pins s σ H _ I hw) fun us s1 ⟨vs,H1,I1,r,q⟩=>⟨I1.kIn,?_⟩) he hpl
 obtain ⟨hq,q⟩:=q
 have hl:=G.len _ _ _ _ q
 refine wpAny_call (codeAny_mono (G.run X.A X.stack s1 H1 ⟨us,[]⟩ us vs Q hr hq I1.env0 ?_ r q) fun res s2 c=>?_)
 ·have:=hb s1 us I1.kIn (by rw [List.append_nil,<- r.length,hl])
  rwa [List.append_nil] at this
 ·cases res with
  | error e=>exact c.elim
  | ok fl=>
   cases fl with
   | ret u=>exact I1.after c
   | next=>exact c.elim
   | brk=>exact c.elim
   | cont=>exact c.elim
end
theorem Zea.units {k:Nat}{A:Around} (r:Zea k A):A.units+64<cLine:=by have:=r.un;lia
theorem ZlA {A:Around} {σ:St}{g:TG}{tc:TT}{te:TE}{H:Hp}{Q:VK}{lo:Int}{n:Nat} (hn:n<=sizeLine) (Pv:Nat->List V->Hp->Prop) (h0:Pv 0 [] H) (hlen:∀i ys H,Pv i ys H->ys.length<=i) (hq:∀ys H,Pv n ys H->Hnd A H)
  (hs:∀i ys H,i<n->Pv i ys H->g (.int (lo+i)) σ H fun σ2 H2=>tc σ2 H2 fun b H3=>if b=true then te σ2 H3 fun y H4=>Pv (i+1) (ys ++ [y]) H4 else Pv (i+1) ys H3)
  (hd:∀ys H,Pv n ys H -> ∀D,H D=none->Q (.ref D) (upd H D (.lst ys))):LcW (Zm5 A lo n) σ g tc te H Q:=
 ZcA hn Pv h0 hlen (fun i ys H hi p=>hi) (fun ys H p=>⟨Nat.le_refl _,hq ys H p⟩) (fun i ys H hi p x H' y=>by
  obtain ⟨e,y⟩:=y
  subst e y
  exact hs i ys _ hi p) hd
end L2
namespace L2
open PySem PySem.Spec PyProof.Rows MeetsSeq3
section
variable {l b:Addr}{us vs:Array Value}{m n:Nat}{p q:Option Addr}{sl st:Array (Option Value)}{xs ys:List Int}
theorem ZkP (hx:IntsAre us.toList xs) (hy:IntsAre vs.toList ys):∀k i:Nat,i+k=min xs.length ys.length->Meets (Builtin.«list.__eq__.loop» ⟨[.ref l,.ref b,rawInt i,rawInt 0],[]⟩)
  (fun A R s=>(s.heap.get? l=some ⟨.type "list", p,.seq us m,sl⟩/\s.heap.get? b=some ⟨.type "list", q,.seq vs n,st⟩)/\R (.ok (.ret (.bool (lexLt (xs.drop i) (ys.drop i))))) s):=by
 have lu:us.size=xs.length:=Array.length_toList.symm.trans (IntsAre.length hx)
 have lv:vs.size=ys.length:=Array.length_toList.symm.trans (IntsAre.length hy)
 intro k
 induction k with
 | zero=>
  rintro i hi prog w A R ⟨hp,g,d,tk,os⟩ ⟨⟨hl,hb⟩,h⟩
  rw [Zi1 (by lia),show decide (xs.length-i<ys.length-i)=decide (us.size<vs.size) from decide_eq_decide.mpr ⟨fun z=>by lia,fun z=>by lia⟩] at h
  wp_walk
  have no:us[((i:Nat):Int).toNat]? = none∨vs[((i:Nat):Int).toNat]? = none:=by simp;lia
  cases e1:us[((i:Nat):Int).toNat]? with
  | none=>
   wp_walk
   exact h
  | some _=>
   cases e2:vs[((i:Nat):Int).toNat]? with
   | none=>
    wp_walk
    exact h
   | some _=>
    rw [e1,e2] at no
    rcases no with no | no<;>cases no
 | succ k ih=>
  rintro i hi prog w A R ⟨hp,g,d,tk,os⟩ ⟨⟨hl,hb⟩,h⟩
  have i1:i<us.size:=by lia
  have i2:i<vs.size:=by lia
  obtain ⟨t1,e1⟩:=ints_get hx i (by simpa using i1) (by lia)
  obtain ⟨t2,e2⟩:=ints_get hy i (by simpa using i2) (by lia)
  have g1:us[((i:Nat):Int).toNat]? = some (.int (xs[i]'(by lia)) t1):=by rw [<- e1];simp [i1]
  have g2:vs[((i:Nat):Int).toNat]? = some (.int (ys[i]'(by lia)) t2):=by rw [<- e2];simp [i2]
  rw [ZkM (by lia) (by lia)] at h
  wp_walk
  rw [g1,g2]
  refine wpAny_bind (wpAny_eqBool_int ?_)
  by_cases z:xs[i]'(by lia)=ys[i]'(by lia)
  ·rw [if_pos z] at h
   rw [beq_iff_eq.mpr z]
   wp_walk
   refine ⟨plainId_quiet plain_eq_loop _,codeAny_builtin entry_eq_loop ?_⟩
   rw [Around.under_plainId plain_eq_loop _]
   exact ih (i+1) (by lia) prog w A R _ ⟨⟨hl,hb⟩,h⟩
  ·rw [if_neg z] at h
   rw [beq_eq_false_iff_ne.mpr z]
   wp_walk
   rw [g1,g2]
   refine wpAny_bind (wpAny_lt_int ?_)
   wp_walk
   exact h
theorem Ze6 (hx:IntsAre us.toList xs) (hy:IntsAre vs.toList ys):Meets (Builtin.«list.__lt__» ⟨[.ref l,.ref b],[]⟩)
  (fun A R s=>(s.heap.get? l=some ⟨.type "list", p,.seq us m,sl⟩/\s.heap.get? b=some ⟨.type "list", q,.seq vs n,st⟩)/\R (.ok (.ret (.bool (lexLt xs ys)))) s):=by
 rintro prog w A R ⟨hp,g,d,tk,os⟩ ⟨⟨hl,hb⟩,h⟩
 have su:=AutoSeq1.sub_list_list
 wp_walk
 refine ⟨plainId_quiet plain_eq_loop _,codeAny_builtin entry_eq_loop ?_⟩
 rw [Around.under_plainId plain_eq_loop _]
 exact ZkP hx hy _ 0 (Nat.zero_add _) prog w A R _ ⟨⟨hl,hb⟩,h⟩
end
section
variable {prog:Program}{w:World}{A:Around}{E:Value->Shared->Prop}{s:Shared}{a b:Addr}{xs ys:List Int}
theorem Zg6 {c:Bool}{Q:Bool->Shared->Prop} (ha:Ua "list" s.heap a xs) (hb:Ua "list" s.heap b ys) (hu:A.units<cLine) (h:Q (lexLt xs ys) s):wpAny (model prog w) A (oneLt' c (.ref a) (.ref b)) Q E s:=by
 obtain ⟨_,_,_,_,e,i⟩:=ha
 obtain ⟨_,_,_,_,e2,i2⟩:=hb
 rw [oneLt'_eq]
 cases c with
 | false=>exact wpAny_bind (richCompare_meets_room (op:=.Lt) ⟨_,e,rfl⟩ ⟨_,e2,rfl⟩ F.slot_list_lt F.entry_list_lt (F.args_list_lt_2 _ _) (Ze6 i i2) ⟨⟨e,e2⟩,⟨(fun x=>nomatch x),wpAny_truthy_bool h⟩⟩ hu)
 | true=>exact wpAny_bind (wpAny_cRoomFor hu (wpAny_bind (wpAny_callSpecialIfBound?_slot (T := "list") ⟨_,e,rfl⟩ F.slot_list_lt (call_meets F.slot_list_lt ⟨_,e,rfl⟩ F.entry_list_lt (F.args_list_lt_2 _ _) (Ze6 i i2) ⟨⟨e,e2⟩,wpAny_bind (wpAny_truthy_bool (wpAny_pure h))⟩))))
def Kd2 (kd:SortKind):Prop:=kd=general'∨kd=oneType'
theorem Zjg {kd:SortKind} (hkd:Kd2 kd) (hu:A.units<cLine):Cmp prog w A E s kd (DS "list" s) (ltW s) where
 wo:=⟨fun p=>ZiM _,fun p q h=>ZgP _ _ h,fun p q r h=>Zix _ _ _ h⟩
 cmp:=fun p q st Q ⟨a,ks,e1,h1⟩ ⟨b,js,e2,h2⟩ hk h=>by
  unfold ltW at h
  rw [e1,e2,h1.key,h2.key] at h
  rw [lt'_eq]
  refine wpS_bind (wpS_get ?_)
  rw [hk,e1,e2]
  refine wpS_bind (wpS_lift (wpAny_attempt ?_))
  rcases hkd with rfl | rfl
  ·exact Zg6 (c:=false) h1 h2 hu (by exact ⟨rfl,wpS_pure h⟩)
  ·exact Zg6 (c:=true) h1 h2 hu (by exact ⟨rfl,wpS_pure h⟩)
theorem ZcU {M:Model}:∀(vs:List Value) {Q:List (Option Value)->Shared->Prop},(∀v∈vs,∃a ks,v = .ref a/\Ua "list" s.heap a ks)->(∀fs:List (Option Value),(∀f∈fs,f=none)->fs.length=vs.length->Q fs s)->wpAny M A (vs.mapM firstOfTuple') Q E s
 | [],Q,_,h=>by rw [List.mapM_nil];exact wpAny_pure (h [] (fun f hf=>by cases hf) rfl)
 | v::vs,Q,hv,h=>by
  obtain ⟨a,ks,rfl,ws,dd,n,sl,e,i⟩:=hv v List.mem_cons_self
  rw [List.mapM_cons]
  refine wpAny_bind ?_
  rw [W.kas_first_eq]
  refine wpAny_bind (wpAny_typeOf (T := "list") ⟨_,e,rfl⟩ ?_)
  rw [if_pos (by first | decide | simp)]
  refine wpAny_pure ?_
  refine wpAny_bind (ZcU vs (fun v hv'=>hv v (List.mem_cons_of_mem _ hv')) fun fs hfs hl=>wpAny_pure (h _ (fun f hf=>?_) (by simp [hl])))
  rcases List.mem_cons.mp hf with rfl | hf
  ·rfl
  ·exact hfs f hf
theorem ZhF {M:Model}{vs:List Value}{Q:SortKind->Shared->Prop} (hne:vs ≠ []) (hv:∀v∈vs,∃a ks,v = .ref a/\Ua "list" s.heap a ks) (h:∀kd,Kd2 kd->Q kd s):wpAny M A (keyKind' vs.toArray) Q E s:=by
 rw [kat_kind_eq,List.mapM_toArray,map_eq_pure_bind]
 refine wpAny_bind (wpAny_bind (ZcU vs hv fun fs hfs hfl=>wpAny_pure ?_))
 have n0:∃rest,fs=none::rest:=by
  cases fs with
  | nil=>exact absurd (List.eq_nil_of_length_eq_zero hfl.symm) hne
  | cons f r=>exact ⟨r,by rw [hfs f List.mem_cons_self]⟩
 obtain ⟨rest,rfl⟩:=n0
 refine wpAny_ite_split (fun q=>?_) (fun _=>wpAny_ite_split (fun _=>wpAny_pure (h _ (.inl rfl))) fun _=>?_)
 ·exfalso
  simp at q
 ·rw [oneTypeOnly'_eq,List.mapM_toArray,map_eq_pure_bind]
  refine wpAny_bind (wpAny_bind (wpAny_bind (W.kas_mapM (r:=.type "list") _ (fun v hv' Q' hq=>?_) (wpAny_pure ?_))))
  ·obtain ⟨a,ks,rfl,ws,dd,n,sl,e,i⟩:=hv v hv'
   exact wpAny_typeOf (T := "list") ⟨_,e,rfl⟩ hq
  ·split
   ·refine wpAny_pure (wpAny_pure (h _ ?_))
    split
    ·exact .inr rfl
    ·exact .inl rfl
   ·exact wpAny_pure (wpAny_pure (h _ (.inl rfl)))
end
def Zn4 (H:Hp) (v:V) (ks:List Int):Prop:=∃a,v = .ref a/\H a=some (.lst (ks.map V.int))
abbrev Zcd (H:Hp):List V->List (List Int)->Prop:=Paired (Zn4 H)
theorem Zg1 {H:Hp}{P:Program}{w:World}{h:Heap}{v:V}{u:Value}{ks:List Int} (ok:UL P w H h) (x:Zn4 H v ks) (r:RelV v u):∃a,u = .ref a/\H a=some (.lst (ks.map V.int))/\Ua "list" h a ks:=by
 obtain ⟨a,rfl,e⟩:=x
 obtain ⟨_,its,n,r',h1⟩:=(show Yt P w H h a (.lst (ks.map V.int)) from ok a _ e)
 exact ⟨a,r,e,its.toArray,_,n,_,h1,by simpa using Gk r'⟩
section
variable {prog:Program}{w:World}{A:Around}{E:Value->Shared->Prop}{s:Shared}{kd:SortKind}{D:Keyed->Prop}{lt:Keyed->Keyed->Bool}{x y:Keyed}{st:SortSt}
theorem Zm4 (C:Cmp prog w A E s kd D lt) (ha:arrOf st = #[x,y]) (hx:D x) (hy:D y) (hk:kindOf st=kd) {Q:Option Bool->SortSt->Prop} (h:Q (some (lt y x)) st):wpS (model prog w) A E s (ltAt' 1 0) Q st:=by
 rw [ltAt'_eq]
 refine wpS_bind (wpS_get ?_)
 show wpS _ _ _ _ (elem' (arrOf st) 1 >>= fun x=>elem' (arrOf st) 0 >>= fun y=>lt' x y) Q st
 rw [ha]
 exact wpS_bind (ZmD rfl (wpS_bind (ZmD rfl (C.cmp y x st Q hy hx hk h))))
theorem Zmp (C:Cmp prog w A E s kd D lt) (ha:arrOf st = #[x,y]) (hx:D x) (hy:D y) (hk:kindOf st=kd) {Q:Option Nat->SortSt->Prop} (h1:lt y x=false->Q (some 2) st) (h2:lt y x=true->Q (some 2) (setArr st #[y,x])):
  wpS (model prog w) A E s (Zjn 0 2) Q st:=by
 refine wpS_bind (wpS_mono (wpS_forRange (a:=1) (b:=2) (I:=fun i c st'=>st'=st/\c=(none,i)/\(i=2->lt y x=false)) (Q:=fun c st'=>st'=st /\ ∃i,c=(none,i)/\i=if lt y x=true then 1 else 2) ?_ ?_ ⟨rfl,rfl,fun z=>nomatch z⟩) ?_)
 ·rintro i c st' a1 a2 ⟨rfl,rfl,_⟩
  obtain rfl:i=1:=by lia
  refine wpS_bind (Zm4 C ha hx hy hk ?_)
  cases e:lt y x with
  | true=>exact wpS_pure ⟨rfl,1,rfl,rfl⟩
  | false=>exact wpS_pure ⟨rfl,rfl,fun _=>rfl⟩
 ·rintro c st' ⟨rfl,rfl,e⟩
  exact ⟨rfl,2,rfl,by rw [e rfl];rfl⟩
 ·rintro c st' ⟨rfl,i,rfl,rfl⟩
  cases e:lt y x with
  | false=>exact wpS_pure (h1 e)
  | true=>
   refine wpS_bind (wpS_lift (wpAny_rule ⟨rfl,?_⟩))
   refine wpS_bind (wpS_mono (wpS_forRange (a:=2) (b:=2) (I:=fun i c st2=>st2=st'/\c=(none,2,0)) (Q:=fun c st2=>st2=st'/\c=(none,2,0)) (fun i c st2 a b _=>by lia) (fun c st2 z=>z) ⟨rfl,rfl⟩) ?_)
   rintro c st2 ⟨rfl,rfl⟩
   refine wpS_bind (Zm1 (i:=0) (j:=2) ?_)
   have em:mirror (arrOf st2) 0 2 ((2-0) / 2) = #[y,x]:=by rw [ha];rfl
   rw [em]
   refine wpS_bind (wpS_mono (wpS_forRange (a:=2) (b:=2) (I:=fun i c st3=>st3=setArr st2 #[y,x]/\c=(none,2)) (Q:=fun c st3=>st3=setArr st2 #[y,x]/\c=(none,2)) (fun i c st3 a b _=>by lia) (fun c st3 z=>z) ⟨rfl,rfl⟩) ?_)
   rintro c st3 ⟨rfl,rfl⟩
   exact wpS_pure (h2 e)
theorem Zkl (C:Cmp prog w A E s kd D lt) (ha:arrOf st = #[x,y]) (hx:D x) (hy:D y) (hk:kindOf st=kd) (hf:failedOf st=none) (hp:pendingOf st = #[]) {Q:Unit->SortSt->Prop}
  (h1:∀st',lt y x=false->arrOf st' = #[x,y]->failedOf st'=none->Q () st') (h2:∀st',lt y x=true->arrOf st' = #[y,x]->failedOf st'=none->Q () st'):wpS (model prog w) A E s Za9 Q st:=by
 refine wpS_bind (wpS_get ?_)
 have hs:(arrOf st).size=2:=by rw [ha];rfl
 refine wpS_bind (wpS_mono (wpS_forRange (a:=0) (b:=(arrOf st).size) (I:=fun i c st'=>(i=0/\c=(none,0)/\st'=st)∨(c=(none,2)/\failedOf st'=none/\(pendingOf st').size=1/\((lt y x=false/\arrOf st' = #[x,y])∨(lt y x=true/\arrOf st' = #[y,x]))))
  (Q:=fun c st'=>c=(none,2)/\failedOf st'=none/\(pendingOf st').size=1/\((lt y x=false/\arrOf st' = #[x,y])∨(lt y x=true/\arrOf st' = #[y,x]))) ?_ ?_ (.inl ⟨rfl,rfl,rfl⟩)) ?_)
 ·rintro i c st' _ hi (⟨rfl,rfl,rfl⟩ | ⟨rfl,z⟩)
  ·show wpS _ _ _ _ (if 0>=(arrOf st').size then _ else _) _ _
   rw [if_neg (by lia)]
   rw [hs]
   refine wpS_bind (Zmp C ha hx hy hk (fun e=>?_) (fun e=>?_))
   ·show wpS _ _ _ _ (if 2<2 then _ else _) _ _
    refine ZkF (fun c=>absurd c (by lia)) (fun _=>?_)
    refine wpS_bind (wpS_get ?_)
    have hb:(pendingOf st').back? = none:=by rw [hp];rfl
    generalize hbk:(pendingOf st').back? = bk at hb
    subst hb
    exact wpS_bind (wpS_modify (wpS_pure (.inr ⟨rfl,hf,by show ((pendingOf st').push _).size=1;rw [hp];rfl,.inl ⟨e,ha⟩⟩)))
   ·show wpS _ _ _ _ (if 2<2 then _ else _) _ _
    refine ZkF (fun c=>absurd c (by lia)) (fun _=>?_)
    refine wpS_bind (wpS_get ?_)
    have hb:(pendingOf st').back? = none:=by rw [hp];rfl
    show wpS _ _ _ _ _ _ (setArr st' #[y,x])
    generalize hbk:(pendingOf (setArr st' #[y,x])).back? = bk
    rw [show (pendingOf (setArr st' #[y,x])).back? = (pendingOf st').back? from rfl,hb] at hbk
    subst hbk
    exact wpS_bind (wpS_modify (wpS_pure (.inr ⟨rfl,hf,by show ((pendingOf st').push _).size=1;rw [hp];rfl,.inr ⟨e,rfl⟩⟩)))
  ·show wpS _ _ _ _ (if 2>=(arrOf st).size then _ else _) _ _
   rw [if_pos (by lia)]
   exact wpS_pure ⟨rfl,z⟩
 ·rintro c st' (⟨z,_⟩ | z)
  ·rw [hs] at z;cases z
  ·exact z
 ·rintro c st' ⟨rfl,z1,z2,z3⟩
  refine wpS_bind (wpS_mono (wpS_forRange (a:=0) (b:=(arrOf st).size) (I:=fun i c st2=>c=(none,())/\st2=st') (Q:=fun c st2=>c=(none,())/\st2=st') ?_ (fun c st2 z=>z) ⟨rfl,rfl⟩) ?_)
  ·rintro i c st2 _ _ ⟨rfl,rfl⟩
   refine wpS_bind (wpS_get ?_)
   show wpS _ _ _ _ (if (pendingOf st2).size<=1 then _ else _) _ _
   rw [if_pos (by lia)]
   exact wpS_pure ⟨rfl,rfl⟩
  ·rintro c st2 ⟨rfl,rfl⟩
   refine wpS_pure ?_
   rcases z3 with ⟨e,a⟩ | ⟨e,a⟩
   ·exact h1 _ e a z1
   ·exact h2 _ e a z1
theorem Zja {vs:List Value}{Dk:Keyed->Prop} (C:Cmp prog w A E s kd Dk lt) (h2:vs.length=2) (hd:∀p∈(pairsOf vs).toList,Dk p):
  wpS (model prog w) A E s Za9 (fun _ st'=>(arrOf st').toList.Perm (pairsOf vs).toList/\Srt lt (arrOf st').toList/\failedOf st'=none) (SortSt.mk' kd (vs.toArray.zip vs.toArray) #[] 7 none):=by
 obtain ⟨u,v,rfl⟩:∃u v,vs = [u,v]:=by
  cases vs with
  | nil=>cases h2
  | cons u r=>
   cases r with
   | nil=>cases h2
   | cons v r=>
    cases r with
    | nil=>exact ⟨u,v,rfl⟩
    | cons _ _=>cases h2
 have ep:(pairsOf [u,v]).toList = [(u,u),(v,v)]:=by rw [pairsOf_toList];rfl
 rw [ep] at hd ⊢
 refine Zkl C (x:=(u,u)) (y:=(v,v)) (Array.toList_inj.mp ep) (hd _ (by simp)) (hd _ (by simp)) rfl rfl rfl (fun st' e a f=>⟨?_,?_,f⟩) (fun st' e a f=>⟨?_,?_,f⟩)
 ·rw [a]
 ·rw [a];exact List.Pairwise.cons (fun q hq=>by rw [List.mem_singleton.mp hq];exact e) (List.pairwise_singleton _ _)
 ·rw [a];exact List.Perm.swap _ _ _
 ·rw [a];exact List.Pairwise.cons (fun q hq=>by rw [List.mem_singleton.mp hq];exact C.wo.asym _ _ e) (List.pairwise_singleton _ _)
theorem ZhZ {T:String} (kp:SortKind->Prop) {D:Addr}{vs:List Value}{n:Nat}{P:PySem.Fin->Shared->Prop} (sr:∀(s':Shared) (kd:SortKind),kp kd->(∀p∈(pairsOf vs).toList,DS T s' p) -> ¬vs.toArray.size<2->wpS (model prog w) A E s' Za9 (fun _ st'=>(arrOf st').toList.Perm (pairsOf vs).toList/\Srt (ltW s') (arrOf st').toList/\failedOf st'=none) (SortSt.mk' kd (vs.toArray.zip vs.toArray) #[] 7 none))
  (kn:∀(s':Shared) (Q:SortKind->Shared->Prop),vs ≠ []->(∀v∈vs,∃a ks,v = .ref a/\Ua T s'.heap a ks)->(∀kd,kp kd->Q kd s')->wpAny (model prog w) A (keyKind' vs.toArray) Q E s')
  (ho:s.heap.get? D=some (seqObj "list" vs.toArray n)) (hv:∀v∈vs,∃a ks,v = .ref a/\a≠D/\Ua T s.heap a ks) (hz:vs.length<=sizeLine)
  (h:∀out:Array Value,out.toList.Perm vs->ZkV s.heap out.toList->P (.done (.ret .none)) { s with heap:=sortedHeap s.heap D vs out }):
  wpAny (model prog w) A (Builtin.«list.sort» ⟨[.ref D],[]⟩) P E s:=by
 rw [list_sort_plain]
 obtain ⟨ep,he⟩:∃ep,(s.heap.update D (Obj.mapSeq fun _=>#[])).get? D=some (seqObj "list" #[] ep):=⟨_,get?_update_seq ho fun _=>#[]⟩
 refine wpAny_bind (listItems_at ho rfl (wpAny_bind (listUpdate_at ho rfl (wpAny_bind (seqEpoch_at he rfl (wpAny_bind (wpAny_newTuple (wpAny_bind (wpAny_newList (wpAny_holding ?_))) (by simpa using hz))))) (by simpa using hz))))
 obtain ⟨u,eu⟩:∃u:Shared,u = { s with heap:=((s.heap.update D (Obj.mapSeq fun _=>#[])).push (seqObj "tuple" vs.toArray 0)).push (seqObj "list" #[] 0) }:=⟨_,rfl⟩
 have keep:∀b o,b≠D->s.heap.get? b=some o->u.heap.get? b=some o:=fun b o hb e=>by
  rw [eu]
  exact Heap.get?_push_of_some _ (Heap.get?_push_of_some _ ((Heap.get?_update_other _ _ (Ne.symm hb)).trans e))
 have hD:u.heap.get? D=some (seqObj "list" #[] ep):=by rw [eu];exact Heap.get?_push_of_some _ (Heap.get?_push_of_some _ he)
 have hu4:∀v∈vs,(∃a ks,v = .ref a/\Ua T u.heap a ks)/\Zg0 u.heap v=Zg0 s.heap v:=fun v hv'=>by
  obtain ⟨a,ks,rfl,ne,t⟩:=hv v hv'
  have t':=t.kept fun o q=>keep a o ne q
  exact ⟨⟨a,ks,rfl,t'⟩,by rw [t.key,t'.key]⟩
 show wpAny (model prog w) A _ P E { s with heap:=((s.heap.update D (Obj.mapSeq fun _=>#[])).push (seqObj "tuple" vs.toArray 0)).push (seqObj "list" #[] 0) }
 rw [<- eu]
 dsimp only
 refine Zi3 (fun kd=>vs.toArray.size<2∨kp kd) (fun h2 Q' q=>wpAny_pure (q _ (.inl h2))) (fun h2 Q' q=>kn u Q' (fun z=>h2 (by rw [z];decide)) (fun v hv'=>(hu4 v hv').1) fun kd hk=>q kd (.inr hk)) fun kd hk=>?_
 refine wpAny_bind (wpAny_mono (Q:=fun r s''=>s''=u/\(arrOf r.2).toList.Perm (pairsOf vs).toList/\Srt (ltW u) (arrOf r.2).toList/\failedOf r.2=none) ?_ (fun r s'' hr=>?_) fun _ _ e=>e)
 ·by_cases h2:vs.toArray.size<2
  ·rw [if_pos h2,StateT.run_pure]
   refine wpAny_pure ⟨rfl,List.Perm.refl _,?_,rfl⟩
   have lp:(pairsOf vs).toList.length<2:=by rw [Array.length_toList,pairsOf_size];simpa using h2
   show Srt _ (pairsOf vs).toList
   generalize (pairsOf vs).toList=L at lp ⊢
   cases L with
   | nil=>exact .nil
   | cons x t=>
    cases t with
    | nil=>exact List.pairwise_singleton _ _
    | cons y t=>exact absurd lp (by simp)
  ·rw [if_neg h2]
   refine wpAny_mono (sr u kd (hk.resolve_left h2) (fun p hp=>?_) h2) (fun r s'' x=>x) fun _ _ e=>e
   have hp':p∈(pairsOf vs).toList:=hp
   rw [pairsOf_toList] at hp'
   exact (hu4 _ (mem_zip_self hp').2).1
 obtain ⟨rfl,hp,hs,hf⟩:=hr
 refine wpAny_bind (seqEpoch_at hD rfl (wpAny_bind (listUpdate_at hD rfl ?_ (hsz2:=by
  have:=hp.length_eq
  rw [Array.length_toList,Array.length_toList,pairsOf_size] at this
  rw [Array.size_map,this];lia))))
 have same:∀p∈(arrOf r.2).toList,p.1=p.2/\p.1∈vs:=fun p hp'=>by
  have:=hp.mem_iff.mp hp'
  rw [pairsOf_toList] at this
  exact mem_zip_self this
 have:=h ((arrOf r.2).map (·.2)) (by
  rw [Array.toList_map]
  refine (hp.map _).trans ?_
  rw [pairsOf_toList,List.map_snd_zip (Nat.le_refl _)]) (by
  rw [Array.toList_map]
  refine List.pairwise_map.mpr (List.Pairwise.imp_of_mem (fun {p q} hp' hq' x=>?_) hs)
  rw [<- (same p hp').1,<- (same q hq').1,<- (hu4 _ (same p hp').2).2,<- (hu4 _ (same q hq').2).2]
  exact x)
 unfold sortedHeap at this
 subst eu
 rw [hf,if_neg (by simp)]
 exact wpAny_pure this
theorem Zf3 {T:String} (kp:SortKind->Prop) {l:Addr}{vs:List Value}{Q:Value->Shared->Prop} (sr:∀(A:Around) (E:Value->Shared->Prop),A.units<cLine -> ∀(s':Shared) (kd:SortKind),kp kd->(∀p∈(pairsOf vs).toList,DS T s' p) -> ¬vs.toArray.size<2->wpS (model prog w) A E s' Za9 (fun _ st'=>(arrOf st').toList.Perm (pairsOf vs).toList/\Srt (ltW s') (arrOf st').toList/\failedOf st'=none) (SortSt.mk' kd (vs.toArray.zip vs.toArray) #[] 7 none))
  (kn:∀(A:Around) E (s':Shared) (Q:SortKind->Shared->Prop),vs ≠ []->(∀v∈vs,∃a ks,v = .ref a/\Ua T s'.heap a ks)->(∀kd,kp kd->Q kd s')->wpAny (model prog w) A (keyKind' vs.toArray) Q E s')
  (hu:A.units+2<cLine) (hl:s.heap.IsList l vs.toArray) (hv:∀v∈vs,∃a ks,v = .ref a/\Ua T s.heap a ks) (hz:vs.length<=sizeLine)
  (h:∀(out:Array Value),out.toList.Perm vs->(∃h1:Heap,(∀a ks,Ua T s.heap a ks->Ua T h1 a ks)/\ZkV h1 out.toList)->Q (.ref (s.heap.objs.size+1)) { s with heap:=sortedAll s.heap vs out }):
  wpAny (model prog w) A (call (.builtin "sorted") [.ref l]) Q E s:=by
 refine Calls.call_function_entry kind_sorted plain_sorted entry_sorted (args_sorted1 _) ?_
 unfold Builtin.«sorted»
 refine wpAny_bind (wpAny_of_eq (a:=()) rfl (wpAny_bind (collect_list hl (wpAny_bind (wpAny_newList ?_ hz)) hz)))
 obtain ⟨u,eu⟩:∃u:Heap,u=(s.heap.push (seqObj "list" #[] 0)).update s.heap.objs.size (Obj.mapSeq (· ++ vs.toArray)):=⟨_,rfl⟩
 have zu:u.objs.size=s.heap.objs.size+1:=by rw [eu,Heap.size_update,size_push']
 have kp':∀b o,s.heap.get? b=some o->(u.push (seqObj "list" vs.toArray 0)).get? b=some o:=fun b o e=>Heap.get?_push_of_some _ (by
  rw [eu,Heap.get?_update_ne _ _ _ _ (Nat.ne_of_lt (Heap.lt_size e))]
  exact Heap.get?_push_of_some _ e)
 have nw:(u.push (seqObj "list" vs.toArray 0)).get? (s.heap.objs.size+1)=some (seqObj "list" vs.toArray 0):=zu ▸ Heap.get?_push_size _ rfl
 show wpAny _ _ _ _ _ { s with heap:=((s.heap.push (seqObj "list" #[] 0)).update s.heap.objs.size (Obj.mapSeq (· ++ vs.toArray))).push (seqObj "list" vs.toArray 0) }
 unfold sortedAll at h
 rw [<- eu] at h ⊢
 rw [zu]
 refine wpAny_bind (wpAny_holding (wpAny_call_entry slot_list_sort ⟨_,nw,rfl⟩ entry_list_sort (ZhZ kp (sr _ _ (by exact hu)) (kn _ _) nw (fun v hv'=>?_) hz fun out a2 a3=>⟨_,rfl,wpAny_pure ⟨_,rfl,h out a2 ⟨_,fun a ks t=>t.kept fun o e=>kp' a o e,a3⟩⟩⟩) (args_list_sort _)))
 obtain ⟨a,ks,e,t⟩:=hv v hv'
 refine ⟨a,ks,e,?_,t.kept fun o e=>kp' a o e⟩
 obtain ⟨_,_,_,_,e',_⟩:=t
 exact Nat.ne_of_lt (Nat.lt_succ_of_lt (Heap.lt_size e'))
end
section
variable {X:Cx}
def ZkH (K:PySem.W.Frag):List V->Hp->VK->Prop:=fun xs H Q=>∃(p:Addr) (ys:List V) (ws:List (List Int)),xs = [.ref p]/\Zu K H p ys/\Zcd H ys ws/\ys.length=2 /\
  ∀(l:Addr) (zs:List V) (vs:List (List Int)),H l=none->zs.Perm ys->vs.Perm ws->Zcd H zs vs->Znx vs->Q (.ref l) (upd H l (.lst zs))
theorem ZfY (hu:X.A.units+64<cLine):Jd X (.builtin "sorted") (ZkH X.K):=by
 intro pins s σ H xs us Q I r h
 obtain ⟨p,ys,ws,rfl,hq,hw,h2,q⟩:=h
 obtain ⟨u,rfl,ru⟩:=r.one
 cases ru
 obtain ⟨its,rv,pl,hz⟩:=I.list hq
 have hlen:ys.length=its.length:=rv.length
 refine Zf3 Kd2 (fun A E hu s' kd hk hd _=>Zja (Zjg hk hu) (by lia) hd) (fun A E s' Q hn hv h=>ZhF hn hv h) (by lia) pl.isList (fun v hv=>?_) (by lia) fun out a2 ⟨h1,k1,a3⟩=>?_
 ·obtain ⟨y,hy,ry⟩:=Paired.mem1 (Paired.flip rv) v hv
  obtain ⟨ks,_,hk⟩:=Paired.mem1 hw y hy
  obtain ⟨a,e1,e2,e3⟩:=Zg1 I.hok hk ry
  exact ⟨a,ks,e1,e3⟩
 obtain ⟨zs,vs,b1,b2,b3,b4,b5⟩:=ZkE (fun f r=>(Zg1 I.hok f r).imp fun _ z=>⟨z.1,z.2.2⟩) rv hw a2 k1 a3
 obtain ⟨e,he⟩:=sortedAll_at s.heap its out
 have fr:H (s.heap.objs.size+1)=none:=I.hok.fresh (Nat.le_succ _)
 refine ⟨.ref (s.heap.objs.size+1),_,I.laid (a:=s.heap.objs.size+1) (o:=.lst zs) (t':=s.toks) (fun b o q=>sortedAll_old q) (Nat.le_succ _) ⟨?_,out.toList,e,b1,?_⟩,rfl,q _ _ _ fr b3 b4 b2 b5⟩
 ·rw [b3.length_eq];lia
 ·simpa [seqObj] using he
theorem ZeB {K:PySem.W.Frag} (h:X.K=K) (hu:X.A.units+64<cLine):Jd X (.builtin "sorted") (ZkH K):=h ▸ ZfY hu
end
end L2
namespace HT
open PySem PySem.Spec PyProof.Rows
section
variable {prog:Program}{w:World}{A:Around}{E:Value->Shared->Prop}{s:Shared}
theorem Zbh {t sl:Addr}{items:Array Value}{vl vu:Value}{lo hi:Option Int}{Q:Value->Shared->Prop} (ht:IsTup s.heap t items) (hs:s.heap.IsSliceOf sl vl vu .none) (pl:IsPart vl lo) (pu:IsPart vu hi)
  (hw:JE items.size 0 lo=0/\JE items.size items.size hi=items.size) (h:Q (.ref t) s):wpAny (model prog w) A (getItem (.ref t) (.ref sl)) Q E s:=by
 obtain ⟨os,hos,hcs,hds⟩:=id hs
 have hTs:s.TypeIs (.ref sl) "slice" := ⟨os,hos,hcs⟩
 unfold getItem
 try with_reducible refine wpAny_holding ?_
 first | refine wpAny_bind (wpAny_pure ?_) | skip
 refine wpAny_bind (wpAny_sequenceKey ht.typeIs (by decide) ?_)
 refine wpAny_bind (wpAny_callSpecial?_slot (name:=Str.ofString "__getitem__") ht.typeIs PyProof.Rows.slot_tuple_getitem
  (wpAny_call_entry PyProof.Rows.slot_tuple_getitem ht.typeIs entry_tuple_getitem ?_ (args_tuple_getitem _ _)))
 show wpAny _ _ (Builtin.Tuple.tupleItemsOf (.ref t) >>= _) _ _ s
 refine wpAny_bind (tupleItemsOf_ ht ?_)
 refine wpAny_bind (wpAny_typeOf hTs ?_)
 rw [if_pos (by decide)]
 refine wpAny_bind (Uv hs pl pu ?_)
 have hyes:((((JE items.size 0 lo:Nat):Int)==0&&(1:Int)==1&&(JE items.size items.size hi-JE items.size 0 lo)==items.size)=true):=by
  rw [hw.1,hw.2];simp
 show wpAny _ _ (if (((JE items.size 0 lo:Nat):Int)==0&&(1:Int)==1&&(JE items.size items.size hi-JE items.size 0 lo)==items.size)=true then _ else _) _ _ s
 rw [if_pos hyes]
 refine wpAny_bind (m:=Builtin.Tuple.tupleIsExact _) (wpAny_bind (wpAny_typeOf ht.typeIs (wpAny_pure ?_)))
 rw [if_pos (by decide)]
 exact wpAny_bind (wpAny_rule (wpAny_pure ⟨_,rfl,wpAny_pure h⟩))
end
end HT
namespace L2
open PySem PySem.Spec PyProof.Rows
def Zmq (K:PySem.W.Frag):V->Option Int->Option Int->Hp->VK->Prop:=fun x lo hi H Q=>∃a xs,x = .ref a/\YT K H a xs/\(GN xs lo hi=xs->Q x H) /\ ∀p,H p=none->Q (.ref p) (upd H p (.tup (GN xs lo hi)))
theorem Zmg {X:Cx}:SlR X (Zmq X.K):=by
 intro pins s σ H x v vl vu lo hi sl Q I rx hs pl pu h
 obtain ⟨a,xs,rfl,hx,h1,q⟩:=h
 by_cases hw:HT.JE xs.length 0 lo=0/\HT.JE xs.length xs.length hi=xs.length
 ·have e:GN xs lo hi=xs:=by unfold GN;rw [hw.1,hw.2,List.drop_zero,Nat.sub_zero,List.take_length]
  cases rx
  obtain ⟨its,r,ht,hz⟩:=I.tuple hx
  have hlen:its.toArray.size=xs.length:=by rw [List.size_toArray];exact r.length.symm
  refine ⟨"tuple", _,PyProof.Rows.slot_tuple_getitem.lookup,ht.typeIs,?_⟩
  exact HT.Zbh ht hs pl pu (by rw [hlen];exact hw) ⟨.ref a,H,I,rfl,h1 e⟩
 ·exact ZnF pins s σ H _ v vl vu lo hi sl Q I rx hs pl pu ⟨a,xs,rfl,hx,hw,q⟩
theorem ZbU {X:Cx}{K:PySem.W.Frag} (h:X.K=K):SlR X (Zmq K):=h ▸ Zmg
theorem ZjA {K:PySem.W.Frag}{G:Hp}{x:V}{w:List Int}{k:Nat}{Q:VK} (hx:Je G x w) (q:∀v G',Zi G G'->Je G' v (w.take k)->Q v G'):Zmq K x none (some (k:Int)) G Q:=by
 obtain ⟨a,rfl,ha⟩:=hx
 refine ⟨a,_,rfl,YT.of ha,fun z=>q _ _ (Zi.refl _) ⟨a,rfl,?_⟩,fun p hp=>q _ _ (Zi.laid hp) ⟨p,rfl,?_⟩⟩
 ·rw [ha,<- z,Zdp,List.map_take]
 ·rw [Zd,Zdp,List.map_take]
theorem ZjY {K:PySem.W.Frag}{G:Hp}{x:V}{w:List Int}{k:Nat}{i:Int}{Q:VK} (hi:i=(k:Int)) (hx:Je G x w) (q:∀v G',Zi G G'->Je G' v (w.drop k)->Q v G'):Zmq K x (some i) none G Q:=by
 subst hi
 obtain ⟨a,rfl,ha⟩:=hx
 refine ⟨a,_,rfl,YT.of ha,fun z=>q _ _ (Zi.refl _) ⟨a,rfl,?_⟩,fun p hp=>q _ _ (Zi.laid hp) ⟨p,rfl,?_⟩⟩
 ·rw [ha,<- z,Zdl,List.map_drop]
 ·rw [Zd,Zdl,List.map_drop]
theorem ZdO {G:Hp}{x y:V}{a b:List Int}{Q:VK} (hx:Je G x a) (hy:Je G y b) (hz:a.length+b.length<=sizeLine) (k:∀v G',Zi G G'->Je G' v (a++b)->Q v G'):ZmC x y G Q:=
 ⟨a,b,hx,hy,hz,fun e=>k y G (Zi.refl _) (by rw [e];exact hy),fun e=>k x G (Zi.refl _) (by rw [e,List.append_nil];exact hx),fun p fp=>k _ _ (Zi.laid fp) ⟨p,rfl,Zd⟩⟩
structure M1 (X:Cx) (o:Expr) (m:Str) (apos:Pos) (e:Expr) (cpos:Pos):Prop where
 base:attributeBase o m X.env (eval o X.env)=eval o X.env
 few:((backTo cpos (starEach [e] X.env)).all (fun x=>!x.1)&&(backToKw cpos (keywordEach [] X.env)).all (fun x=>x.1.isSome)
  && decide (([e]:List Expr).length+([]:List Keyword).length+(if ([]:List Keyword).isEmpty then 0 else 1)<30))=true
 line:(apos.endLine==cpos.line)=true
 trees:backTo cpos (starEach [e] X.env) = [(false,eval e X.env)]
structure M2 (X:Cx) (o:Expr) (m:Str) (apos:Pos) (e f:Expr) (cpos:Pos):Prop where
 base:attributeBase o m X.env (eval o X.env)=eval o X.env
 few:((backTo cpos (starEach [e,f] X.env)).all (fun x=>!x.1)&&(backToKw cpos (keywordEach [] X.env)).all (fun x=>x.1.isSome)
  && decide (([e,f]:List Expr).length+([]:List Keyword).length+(if ([]:List Keyword).isEmpty then 0 else 1)<30))=true
 line:(apos.endLine==cpos.line)=true
 trees:backTo cpos (starEach [e,f] X.env) = [(false,eval e X.env),(false,eval f X.env)]
def IsD (H:Hp) (a:Addr):Prop:=(∃kvs,Rd H a (.dK kvs)) ∨ ∃kvs,Rd H a (.dT kvs)
theorem Zn5 {X:Cx}{pins:List (Addr×Obj)} {σ:St}{H:Hp}{s:Shared}{a:Addr} (I:Inv X pins σ H s) (d:IsD H a):
  s.TypeIs (.ref a) "dict" /\ (∀b,Value.ref a = .ref b -> ∃ob,s.heap.get? b=some ob/\ob.dict=none)/\(a==sysModules)=false:=by
 rcases d with ⟨kvs,e⟩ | ⟨kvs,e⟩
 ·obtain ⟨_,hd,vs,_,dd⟩:=Ze8 I.hok e
  refine ⟨dd.typeIs,fun b q=>?_,hd⟩
  cases q
  obtain ⟨ob,_,_,h1,h2,_⟩:=dd
  exact ⟨ob,h1,h2.2.1⟩
 ·obtain ⟨_,hd,xs,_,dd⟩:=Ze7 I.hok e
  refine ⟨dd.typeIs,fun b q=>?_,hd⟩
  cases q
  obtain ⟨ob,_,_,h1,h2,_⟩:=dd
  exact ⟨ob,h1,h2.2.1⟩
section
variable {X:Cx}{pins:List (Addr×Obj)} {σ:St}{H:Hp}{s:Shared}{a:Addr}{y d:V}{u r:Value}{o:Option V}{A:Around}{E:Value->Shared->Prop}
theorem ZnA {Q:Value->Shared->Prop} (hu:A.units+1<cLine) (I:Inv X pins σ H s) (g:Zbi H a y o) (ry:RelV y u) (h:∀w' s',Inv X pins σ H s'->RelV (o.getD .non) w'->Q w' s'):
  wpAny (model X.prog X.w) A (call (.builtin "dict.get") [.ref a,u]) Q E s:=by
 rcases g with ⟨kvs,k,e,ey,l⟩ | ⟨kvs,k,b,e,ey,eb,l⟩
 ·subst ey
  obtain ⟨z,hd,vs,rel,dd⟩:=Ze8 I.hok e
  refine call_meetsIn PySem.F.slot_dict_get dd.typeIs PySem.F.entry_dict_get (PySem.F.args_dict_get_2 _ _) (meets_dict_get (Z7 X.prog X.w) a (Zfd ry) hd) ⟨_,dd.mapOf,h _ _ (I.tok _) ?_⟩
  rw [l]
  exact (rel.val k).getD rfl
 ·subst ey
  cases (show u=Value.ref b from ry)
  obtain ⟨z,hd,xs,rel,dd⟩:=Ze7 I.hok e
  refine call_meetsIn PySem.F.slot_dict_get dd.typeIs PySem.F.entry_dict_get (PySem.F.args_dict_get_2 _ _) (meetsH_dict_get (tupleKind (Z7 X.prog X.w)) a b hd) ⟨tupleKind_room_in1 hu,k,xs,Zd2 I.hok eb,dd,h _ _ (I.tok _) ?_⟩
  rw [l]
  exact (rel.val k).getD rfl
end
def ZnR (td ty:TE):TE:=fun σ H Q=>td σ H fun x H1=>∃a,x = .ref a/\IsD H1 a/\ty σ H1 fun y H2=>∃o,Zbi H2 a y o/\Q (o.getD .non) H2
section
variable {X:Cx}{o e f:Expr}{apos cpos:Pos}{td ty tx:TE}
theorem ZkG (hu:X.A.units+1<cLine) (ho:PE X o td) (he:PE X e ty) (m:M1 X o "get" apos e cpos):PE X (.Call (.Attribute o "get" apos) [e] [] cpos) (ZnR td ty):=by
 intro pins s σ H Q I h
 refine wpAny_Call_method m.base m.few m.line PySem.F.plainAttrs_dict PySem.F.slot_dict_get PySem.F.type_dict_get (YR (ho pins s σ H _ I h) fun u s1 ⟨x,H1,I1,rx,a,ex,d,q1⟩=>?_)
 subst ex
 obtain rfl:u=Value.ref a:=rx
 obtain ⟨t1,t2,_⟩:=Zn5 I1 d
 refine ⟨t1,t2,?_⟩
 rw [m.trees]
 refine Calls.callWith_builtin rfl (Calls.evalArgs_plain (Calls.spliced_cons (YR (he pins s1 σ H1 _ I1 q1) fun iv s2 ⟨y,H2,I2,ry,ov,g,q2⟩=>Calls.spliced_nil ?_)))
 exact ZnA hu I2 g ry fun w' s3 I3 rw'=>⟨_,H2,I3,rw',q2⟩
end
end L2
namespace Qk40
open PySem L2 PyProof.Rows
def top (i:Nat):Stmt:=PySem.Challenge.pw_bendfronts_k40_loose_crossings.main.body.getD i (.Pass ⟨0,0,0,0⟩)
section
variable {P:Program}{w:World}{K:PySem.W.Frag}{mg:Str->Option Value}{base:Heap}
def Zaz:Sp:=fun vs H Q _=>∃(b:Addr) (m:Int),vs = [.ref b,.int m]/\Bag H b/\1<=m/\m<1073741824 /\ ∀(d:Int) (H':Hp),0<=d->d<m->Bag H' b->Jn b H H'->Q (.int d) H'
abbrev ZaM:Stmt:=top 48
theorem Zcj:Zz ["_law_bag_here", "_law_many", "_law_digit"] ["_law_bag_here", "_law_many"] (Zh ZaM):={}
theorem Zlx {f:Addr}{fd:FuncData} (F:Yp K "_law_take" "_law_take" ZaM f fd):Yc P w K mg base J9 1 f fd ["_law_bag_here", "_law_many"] Zaz:=by
 refine F.ok Zcj (fun vs H Q E h=>?_) (fun cdv A outer s H vs Q E hr h=>?_)
 ·obtain ⟨b,m,rfl,_⟩:=h
  rfl
 ·obtain ⟨b,m,rfl,⟨g,r,hg,hb⟩,h1,h2,k⟩:=h
  refine ⟨_,(Zc (ZR (Zt ZbS (Zy (Zn (K:=K) rfl) (pv 0) Ze (fun _ _=>rfl)) Ze (Zs _)) (Zc (Zp (i:=2) Zcj.nd rfl (Or.inl rfl) (Zm GL (Zy (Zn (K:=K) rfl) (pv 0) Ze (fun _ _=>rfl)) (pv 1)))
   (Zc (Yr (Zm Zck (Zy (Zn (K:=K) rfl) (pv 0) Ze (fun _ _=>rfl)) (pv 1)) (YH (pv 0) Ze set_list))
   (Zg (Zv (pv 2))))) ZG)
   (Zc (Yr (Zm GL (Zm ZE (Zm Wn (Zy (Zn (K:=K) rfl) (pv 0) Ze (fun _ _=>rfl)) Ze) Ze) Ze) (YH (pv 0) Ze set_list))
   (Zg (Zv (Zm GL (Zm GL (Zm ZhH (Zm Zck (Zy (Zn (K:=K) rfl) (pv 0) Ze (fun _ _=>rfl)) Ze) Ze) Ze) (pv 1)))))),?_⟩
  refine ⟨_,rfl,b,_,_,_,rfl,rfl,Zu.of hb,Zo (j:=0) rfl,_,_,rfl,rfl,_,rfl,?_⟩
  refine Z0 (fun hp=>?_) (fun hp=>?_)
  ·have hp':0<g:=of_decide_eq_true hp
   refine ⟨_,rfl,b,_,_,_,rfl,rfl,Zu.of hb,Zo (j:=0) rfl,_,rfl,_,_,rfl,rfl,(by lia:0<m),?_⟩
   refine ⟨_,rfl,b,_,_,_,rfl,rfl,Zu.of hb,Zo (j:=0) rfl,_,rfl,_,_,rfl,rfl,⟨by lia,by lia⟩,_,rfl,b,_,_,0,rfl,rfl,hb,rfl,?_⟩
   refine ⟨_,rfl,k _ _ (Int.emod_nonneg _ (by lia)) (Int.emod_lt_of_pos _ (by lia)) ⟨g / m,r,Int.ediv_nonneg (by lia) (by lia),Zd⟩ Jn.upd⟩
  ·refine ⟨_,rfl,b,_,_,_,rfl,rfl,Zu.of hb,Zo (j:=1) rfl,_,_,rfl,rfl,.inr ⟨by decide,by decide⟩,_,_,rfl,rfl,_,_,rfl,rfl,(show (0:Int)<2147483647 by decide),_,rfl,b,_,_,1,rfl,rfl,hb,rfl,?_⟩
   have e1:0<=(r*48271+11) % 2147483647:=Int.emod_nonneg _ (by decide)
   have e2:(r*48271+11) % 2147483647<2147483647:=Int.emod_lt_of_pos _ (by decide)
   refine ⟨_,rfl,b,_,_,_,rfl,rfl,Zu.of Zd,Zo (j:=1) rfl,_,_,rfl,rfl,⟨by decide,by decide⟩,_,_,rfl,rfl,⟨by decide,by decide,by lia⟩,_,_,rfl,rfl,(show (0:Int)<2147483629 by decide),_,rfl,_,_,rfl,rfl,(by lia:0<m),?_⟩
   exact k _ _ (Int.emod_nonneg _ (by lia)) (Int.emod_lt_of_pos _ (by lia)) ⟨g,_,hg,Zd⟩ Jn.upd
def ZjD (K:PySem.W.Frag):Sp:=fun vs H Q _=>∃(a:Addr) (i:Int) (ns:List Int),vs = [.ref a,.int i]/\Zu K H a (ns.map V.int)/\0<=i/\i<1000 /\ ∀(l:Addr) (H':Hp),H l=none->Zi H H'->Bag H' l->Q (.ref l) H'
abbrev ZbI:Stmt:=top 47
theorem J4:Zz ["_law_script", "_law_at", "_law_cell", "_law_great", "_law_primes"] ["_law_script", "_law_at"] (Zh ZbI):={}
theorem Zno {f:Addr}{fd:FuncData} (F:Yp K "_law_bag" "_law_bag" ZbI f fd) (Yw:mg "len" = none) (Zbo:mg "abs" = none):Yc P w K mg base J9 1 f fd ["_law_script", "_law_at"] (ZjD K):=by
 refine F.ok J4 (fun vs H Q E h=>?_) (fun cdv A outer s H vs Q E hr h=>?_)
 ·obtain ⟨a,i,ns,rfl,_⟩:=h
  rfl
 ·obtain ⟨a,i,ns,rfl,hS,h0,h1,k⟩:=h
  refine ⟨_,(Zc (Zp (i:=2) J4.nd rfl (Or.inl rfl) Ze)
   (Zc (ZR (Zt Gf (pv 1) (Zx (YE (K:=K) rfl) (by rfl) Yw PySem.boot_len (Za (pv 0) Zb)) (Zs _)) (Zg (Zp (i:=2) J4.nd rfl (Or.inl rfl) (Zy (Zn (K:=K) rfl) (pv 0) (pv 1) (fun _ _=>rfl)))) ZG)
   (Zc (Zp (i:=3) J4.nd rfl (Or.inl rfl) Ze)
   (Zc (ZR (Zt ZkU (Zx ZbP (by rfl) Zbo boot_abs (Za (pv 2) Zb)) (Zm ZhH Ze Ze) (Zs _)) (Zg (Zp (i:=3) J4.nd rfl (Or.inl rfl) (Zx ZbP (by rfl) Zbo boot_abs (Za (pv 2) Zb)))) ZG)
   (Zc (Zp (i:=4) J4.nd rfl (Or.inl rfl) (ZD (Za Ze (Za Ze (Za Ze (Za Ze (Za Ze (Za Ze (Za Ze (Za Ze Zb))))))))))
   (Zg (Zv (ZD (Za (pv 3) (Za (Zm GL (Zm ZhH (Zm ZE (Zm ZE (Zm GL (pv 2) Ze) (Zm Wn Ze (pv 1))) Ze) Ze) (Zy (Zn (K:=K) rfl) (pv 4) (Zm GL (pv 1) Ze) (fun _ _=>rfl))) Zb)))))))))),?_⟩
  refine ⟨_,rfl,_,rfl,a,_,rfl,.inl hS,_,_,rfl,rfl,_,rfl,?_⟩
  have last:∀(c:Int),0<=c % 2147483647/\c % 2147483647<2147483647:=fun c=>⟨Int.emod_nonneg _ (by decide),Int.emod_lt_of_pos _ (by decide)⟩
  have e3:0<=i % 8:=Int.emod_nonneg _ (by decide)
  have e4:i % 8<8:=Int.emod_lt_of_pos _ (by decide)
  obtain ⟨j,hj⟩:∃j:Nat,i % 8=(j:Int):=⟨(i % 8).toNat,by lia⟩
  have hj8:j<8:=by lia
  obtain ⟨q,hq,hq0⟩:∃q:Int,([V.int 2147483629,.int 2147483587,.int 2147483579,.int 2147483563,.int 2147483549,.int 2147483543,.int 2147483497,.int 2147483489]:List V)[j]? = some (.int q)/\0<q:=by
   match j,hj8 with
   | 0,_=>exact ⟨_,rfl,by decide⟩
   | 1,_=>exact ⟨_,rfl,by decide⟩
   | 2,_=>exact ⟨_,rfl,by decide⟩
   | 3,_=>exact ⟨_,rfl,by decide⟩
   | 4,_=>exact ⟨_,rfl,by decide⟩
   | 5,_=>exact ⟨_,rfl,by decide⟩
   | 6,_=>exact ⟨_,rfl,by decide⟩
   | 7,_=>exact ⟨_,rfl,by decide⟩
  have two:∀(c:Int) (B:Prop),B->(c=0 ∨ ∃j:Nat,i=(j:Int)/\ns[j]? = some c)->B:=fun _ _ b _=>b
  refine Z0 (fun hp=>?_) (fun hp=>?_)
  ·have hp':i<((ns.map V.int).length:Int):=of_decide_eq_true hp
   rw [List.length_map] at hp'
   obtain ⟨n,hn⟩:∃n:Nat,i=(n:Int):=⟨i.toNat,by lia⟩
   have hnl:n<ns.length:=by lia
   refine ⟨_,rfl,_,rfl,a,_,_,_,rfl,rfl,hS,(by rw [hn];exact Zo (v:=V.int ns[n]) (by simp [hnl])),?_⟩
   refine ⟨_,rfl,_,rfl,_,_,rfl,rfl,⟨by decide,by decide,by decide⟩,_,_,rfl,rfl,_,rfl,?_⟩
   refine Z0 (fun hp=>?_) (fun hp=>?_)
   ·refine ⟨_,rfl,_,rfl,?_⟩
    have l0:=last ns[n]
    refine ⟨(by show 8<=sizeLine;decide),fun pl hpl=>?_⟩
    refine ⟨_,rfl,_,rfl,_,_,rfl,rfl,(show (0:Int)<2147483647 by decide),_,rfl,_,_,rfl,rfl,.inl ⟨by decide,by decide⟩,_,_,rfl,rfl,_,_,rfl,rfl,_,_,rfl,rfl,⟨by decide,by decide,by lia⟩,_,rfl,_,rfl,_,_,rfl,rfl,(show (0:Int)<8 by decide),pl,_,_,_,rfl,rfl,Zu.of Zd,(by rw [hj];exact Zo hq),_,_,rfl,rfl,hq0,(by show 2<=sizeLine;decide),fun l hl=>?_⟩
    have hl0:H l=none:=(Zi.laid hpl).free hl
    exact k l _ hl0 ((Zi.laid hpl).step hl) ⟨_,_,(by split<;>lia),Zd⟩
   ·have l0:=last ns[n]
    refine ⟨(by show 8<=sizeLine;decide),fun pl hpl=>?_⟩
    refine ⟨_,rfl,_,rfl,_,_,rfl,rfl,(show (0:Int)<2147483647 by decide),_,rfl,_,_,rfl,rfl,.inl ⟨by decide,by decide⟩,_,_,rfl,rfl,_,_,rfl,rfl,_,_,rfl,rfl,⟨by decide,by decide,by lia⟩,_,rfl,_,rfl,_,_,rfl,rfl,(show (0:Int)<8 by decide),pl,_,_,_,rfl,rfl,Zu.of Zd,(by rw [hj];exact Zo hq),_,_,rfl,rfl,hq0,(by show 2<=sizeLine;decide),fun l hl=>?_⟩
    have hl0:H l=none:=(Zi.laid hpl).free hl
    exact k l _ hl0 ((Zi.laid hpl).step hl) ⟨0,_,Int.le_refl _,Zd⟩
  ·refine ⟨_,rfl,_,rfl,_,_,rfl,rfl,⟨by decide,by decide,by decide⟩,_,_,rfl,rfl,_,rfl,?_⟩
   refine Z0 (fun hp=>?_) (fun hp=>?_)
   ·exact absurd hp (by decide)
   ·have l0:=last 0
    refine ⟨(by show 8<=sizeLine;decide),fun pl hpl=>?_⟩
    refine ⟨_,rfl,_,rfl,_,_,rfl,rfl,(show (0:Int)<2147483647 by decide),_,rfl,_,_,rfl,rfl,.inl ⟨by decide,by decide⟩,_,_,rfl,rfl,_,_,rfl,rfl,_,_,rfl,rfl,⟨by decide,by decide,by lia⟩,_,rfl,_,rfl,_,_,rfl,rfl,(show (0:Int)<8 by decide),pl,_,_,_,rfl,rfl,Zu.of Zd,(by rw [hj];exact Zo hq),_,_,rfl,rfl,hq0,(by show 2<=sizeLine;decide),fun l hl=>?_⟩
    have hl0:H l=none:=(Zi.laid hpl).free hl
    exact k l _ hl0 ((Zi.laid hpl).step hl) ⟨0,_,Int.le_refl _,Zd⟩
def nX (ls:List (Str×Int)):Nat:=ls.countP fun p=>decide (p.1=("cross" : Str))
theorem Uc (a b:List (Str×Int)):nX (a++b)=nX a+nX b:=List.countP_append
theorem Zmu (a:List (Str×Int)) (k:Int):nX (a ++ [(("born" : Str),k)])=nX a:=by rw [Uc];rfl
theorem ZkN (a:List (Str×Int)) (k:Int):nX (a ++ [(("end" : Str),k)])=nX a:=by rw [Uc];rfl
theorem ZaZ (a:List (Str×Int)) (k:Int):nX (a ++ [(("cross" : Str),k)])=nX a+1:=by rw [Uc];rfl
def Zhm (lo:Int):Sp:=fun vs H Q _=>∃(b:Addr) (m n:Int),vs = [.ref b,.int m,.int n]/\Bag H b/\1<=m/\m<1000/\0<=n/\n<1000 /\ ∀(l:Addr) (H':Hp) (ls:List (Str×Int)),H l=none->Bag H' b->Jn b H H'->Drw H' l ls->(nX ls:Int)<=n->Q (.ref l) H'
def Zev:Sp:=fun vs H Q _=>∃(b:Addr) (n:Int),vs = [.ref b,.int n]/\Bag H b/\0<=n/\n<20 /\ ∀(l:Addr) (H':Hp) (ls:List (Str×Int)),H l=none->Bag H' b->Jn b H H'->Drw H' l ls->(nX ls:Int)<=n->Q (.ref l) H'
abbrev Gw:Stmt:=top 49
theorem ZP:Zz ["_law_bag_here", "_law_births", "_law_most", "_law_letters", "_law_many", "_law_left", "_law_crosses", "_law_turn", "_law_way"] ["_law_bag_here", "_law_births", "_law_most"] (Zh Gw):={}
theorem Zlt {f:Addr}{fd:FuncData} (F:Yp K "_law_drawing" "_law_drawing" Gw f fd) (Zw:Yk P w K mg base 1 "_law_take" ["_law_bag_here", "_law_many"] Zaz) (ZT:mg "range" = none):
  Yc P w K mg base J9 2 f fd ["_law_bag_here", "_law_births", "_law_most"] (Zhm 0):=by
 refine F.ok ZP (fun vs H Q E h=>?_) (fun cdv A outer s H vs Q E hr h=>?_)
 ·obtain ⟨b,m,n,rfl,_⟩:=h
  rfl
 ·obtain ⟨b,m,n,rfl,hbag,m1,m2,n1,n2,k⟩:=h
  refine ⟨_,(Zc (Zp (i:=3) ZP.nd rfl (Or.inl rfl) (ZD Zb))
   (Zc (Zp (i:=4) ZP.nd rfl (Or.inl rfl) Ze)
   (Zc (Zp (i:=5) ZP.nd rfl (Or.inl rfl) (Zm ZE Ze (Zr Zw hr (Za (pv 0) (Za (pv 1) Zb)))))
   (Zc (Zp (i:=6) ZP.nd rfl (Or.inl rfl) (Zr Zw hr (Za (pv 0) (Za (Zm ZE (pv 2) Ze) Zb))))
   (Zc (Yq PassesOwn.never rfl (YK (by rfl) ZT (Za Ze Zb)) (Zl (i:=7) ZP.nd rfl (Or.inl rfl)) (Zc (Zp (i:=8) ZP.nd rfl (Or.inl rfl) (Zr Zw hr (Za (pv 0) (Za Ze Zb))))
   (Zg (ZR (PW.pt (WE (Zt ZbS (pv 5) Ze (Zs _)) (WE (Zt Gf (pv 4) Ze (Zs _)) (Gi (PW.pt (ZdB (Zt Yi (pv 4) Ze (Zs _)) (ZdE (Zt Yi (pv 8) Ze (Zs _))))))))) (Zc (ZZ (Yb (K:=K) rfl (Yx PySem.F.plainAttrs_list PySem.F.slot_list_append PySem.F.type_list_append ZO (pv 3) (Za (ZQ (Za ZJ (Za (Zr Zw hr (Za (pv 0) (Za (Zm ZE (pv 4) Ze) Zb))) Zb))) Zb))))
   (Zc (Zp (i:=4) ZP.nd rfl (Or.inl rfl) (Zm ZE (pv 4) Ze))
   (Zg (Zp (i:=5) ZP.nd rfl (Or.inl rfl) (Zm YU (pv 5) Ze))))) (Zg (ZR (PW.pt (WE (Zt ZbS (pv 4) Ze (Zs _)) (Gi (Zt Yi (pv 8) Ze (Zs _))))) (Zc (ZZ (Yb (K:=K) rfl (Yx PySem.F.plainAttrs_list PySem.F.slot_list_append PySem.F.type_list_append ZO (pv 3) (Za (ZQ (Za ZJ (Za (Zr Zw hr (Za (pv 0) (Za (Zm YU (pv 4) Ze) Zb))) Zb))) Zb))))
   (Zg (Zp (i:=4) ZP.nd rfl (Or.inl rfl) (Zm YU (pv 4) Ze)))) (Zg (ZR (PW.pt (WE (Zt ZbS (pv 4) Ze (Zs _)) (Gi (Zt ZbS (pv 6) Ze (Zs _))))) (Zc (ZZ (Yb (K:=K) rfl (Yx PySem.F.plainAttrs_list PySem.F.slot_list_append PySem.F.type_list_append ZO (pv 3) (Za (ZQ (Za ZJ (Za (Zr Zw hr (Za (pv 0) (Za (Zm YU (pv 4) Ze) Zb))) Zb))) Zb))))
   (Zg (Zp (i:=6) ZP.nd rfl (Or.inl rfl) (Zm YU (pv 6) Ze)))) ZG))))))))
   (Zc (ZbL PassesOwn.never (Zt ZbS (pv 4) Ze (Zs _)) (Zc (ZZ (Yb (K:=K) rfl (Yx PySem.F.plainAttrs_list PySem.F.slot_list_append PySem.F.type_list_append ZO (pv 3) (Za (ZQ (Za ZJ (Za (Zr Zw hr (Za (pv 0) (Za (Zm YU (pv 4) Ze) Zb))) Zb))) Zb))))
   (Zg (Zp (i:=4) ZP.nd rfl (Or.inl rfl) (Zm YU (pv 4) Ze)))))
   (Zg (Zv (pv 3))))))))),?_⟩
  refine ⟨(by show 0<=sizeLine;decide),fun l hl=>?_⟩
  obtain ⟨g0,r0,hg0,hb0⟩:=id hbag
  have hlb:l≠b:=(Zf hb0 hl).symm
  have bag1:Bag (upd H l (.lst [])) b:=⟨g0,r0,hg0,by rw [Zj (Ne.symm hlb)];exact hb0⟩
  refine ⟨_,rfl,_,rfl,b,m,rfl,bag1,m1,by lia,fun d1 H1 _ _ bg1 f1=>?_⟩
  refine ⟨_,_,rfl,rfl,?_⟩
  refine ⟨_,rfl,_,rfl,_,_,rfl,rfl,b,_,rfl,bg1,by lia,by lia,fun d2 H2 d20 d21 bg2 f2=>?_⟩
  have hl2:H2 l=some (.lst []):=f2 l _ (f1 l _ Zd hlb) hlb
  have fr2:Jn b H H2:=fun c o e nb=>f2 c o (f1 c o (by rw [Zj (Zf e hl)];exact e) nb) nb
  refine ⟨30,rfl,by decide,by decide,J6 (n:=30) (fun i σ H'=>∃(xs:List V) (ls:List (Str×Int)) (c:Nat) (lf cr:Int) (tv wv:Option V),σ = [some (.ref b),some (.int m),some (.int n),some (.ref l),some (.int (2*(c:Int))),some (.int lf),some (.int cr),tv,wv]/\c<=4/\Bag H' b/\Jn b H H'/\H' l=some (.lst xs)/\ZI H' xs ls/\Wk ls (2*(c:Int))/\ls.length<=i/\(nX ls:Int)+cr<=n/\0<=cr)
   ⟨[],[],0,_,_,none,none,rfl,by decide,bg2,fr2,hl2,.nil,Wk.nil0,Nat.le_refl _,(by show ((0:Nat):Int)+d2<=n;lia),d20⟩ ?_ ?_⟩
  ·rintro i σ H3 hi ⟨xs,ls,c,lf,cr,tv,wv,rfl,hc,bg3,fr3,hl3,hL,hW,hlen,hx,hx0⟩
   have hxl:xs.length<sizeLine:=by
    rw [hL.len]
    exact ZC (by lia)
   refine ⟨_,rfl,b,8,rfl,bg3,by decide,by decide,fun wy H4 _ _ bg4 f4=>?_⟩
   have hl4:H4 l=some (.lst xs):=f4 l _ hl3 hlb
   have fr4:Jn b H H4:=fr3.trans f4
   have hL4:ZI H4 xs ls:=hL.frm f4 bg3
   dsimp only [Zfa]
   refine ZhJ (Zf2 (β:=decide (0<lf)) (fun Q q=>⟨_,rfl,_,_,rfl,rfl,_,rfl,q⟩) fun _=>Zf2 (β:=decide (2*(c:Int)<7)) (fun Q q=>⟨_,rfl,_,_,rfl,rfl,_,rfl,q⟩) fun _=>ZoN (fun Q q=>⟨_,rfl,rfl,_,rfl,q⟩) fun _=>(fun Q q=>⟨_,rfl,rfl,_,rfl,q⟩)) (fun hp=>?_) (fun _=>?_)
   ·
    have hp1:2*(c:Int)<7:=by
     simp only [Bool.and_eq_true,decide_eq_true_eq] at hp
     exact hp.2.1
    refine ⟨_,rfl,.inl ⟨rfl,_,Zu.of hl4⟩,_,rfl,_,rfl,_,_,rfl,rfl,b,_,rfl,bg4,by lia,by lia,fun d H5 hd0 hd1 bg5 f5=>⟨(by show 2<=sizeLine;decide),fun t ht=>?_⟩⟩
    obtain ⟨a1,a2,a3,a4,a5⟩:=WW "born" d fr4 bg4 hl4 hL4 hlb hl f5 bg5 ht
    refine ⟨l,_,_,rfl,rfl,a1,hxl,_,rfl,_,_,rfl,rfl,_,rfl,_,_,rfl,rfl,?_⟩
    refine ⟨xs ++ [.ref t],ls ++ [((("born" : Str),d):Str×Int)],c+1,lf-1,cr,some (.int (0+(i:Int))),some (.int wy),?_,by lia,a2,a3,a4,a5,?_,by rw [List.length_append,List.length_singleton];lia,by rw [Zmu];exact hx,hx0⟩
    ·have e:2*((c+1:Nat):Int)=2*(c:Int)+2:=by lia
     rw [e]
     rfl
    ·have e:2*((c+1:Nat):Int)=2*(c:Int)+2:=by lia
     rw [e]
     exact Wk.born hW hd0 (by lia)
   ·refine ZhJ (Zf2 (β:=decide (2<2*(c:Int))) (fun Q q=>⟨_,rfl,_,_,rfl,rfl,_,rfl,q⟩) fun _=>(fun Q q=>⟨_,rfl,rfl,_,rfl,q⟩)) (fun hp=>?_) (fun _=>?_)
    ·
     have hp1:2<2*(c:Int):=by
      simp only [Bool.and_eq_true,decide_eq_true_eq] at hp
      exact hp.1
     refine ⟨_,rfl,.inl ⟨rfl,_,Zu.of hl4⟩,_,rfl,_,rfl,_,_,rfl,rfl,b,_,rfl,bg4,by lia,by lia,fun d H5 hd0 hd1 bg5 f5=>⟨(by show 2<=sizeLine;decide),fun t ht=>?_⟩⟩
     obtain ⟨a1,a2,a3,a4,a5⟩:=WW "end" d fr4 bg4 hl4 hL4 hlb hl f5 bg5 ht
     refine ⟨l,_,_,rfl,rfl,a1,hxl,_,rfl,_,_,rfl,rfl,?_⟩
     have e:2*((c-1:Nat):Int)=2*(c:Int)-2:=by lia
     refine ⟨xs ++ [.ref t],ls ++ [((("end" : Str),d):Str×Int)],c-1,lf,cr,some (.int (0+(i:Int))),some (.int wy),?_,by lia,a2,a3,a4,a5,?_,by rw [List.length_append,List.length_singleton];lia,by rw [ZkN];exact hx,hx0⟩
     ·rw [e]
      rfl
     ·rw [e]
      exact Wk.fin hW hd0 (by lia)
    ·refine ZhJ (Zf2 (β:=decide (1<2*(c:Int))) (fun Q q=>⟨_,rfl,_,_,rfl,rfl,_,rfl,q⟩) fun _=>(fun Q q=>⟨_,rfl,_,_,rfl,rfl,_,rfl,q⟩)) (fun hp=>?_) (fun _=>?_)
     ·
      have hp1:1<2*(c:Int):=by
       simp only [Bool.and_eq_true,decide_eq_true_eq] at hp
       exact hp.1
      have hcr:0<cr:=by
       simp only [Bool.and_eq_true,decide_eq_true_eq] at hp
       exact hp.2
      refine ⟨_,rfl,.inl ⟨rfl,_,Zu.of hl4⟩,_,rfl,_,rfl,_,_,rfl,rfl,b,_,rfl,bg4,by lia,by lia,fun d H5 hd0 hd1 bg5 f5=>⟨(by show 2<=sizeLine;decide),fun t ht=>?_⟩⟩
      obtain ⟨a1,a2,a3,a4,a5⟩:=WW "cross" d fr4 bg4 hl4 hL4 hlb hl f5 bg5 ht
      refine ⟨l,_,_,rfl,rfl,a1,hxl,_,rfl,_,_,rfl,rfl,?_⟩
      exact ⟨xs ++ [.ref t],ls ++ [((("cross" : Str),d):Str×Int)],c,_,_,_,_,rfl,hc,a2,a3,a4,a5,Wk.cross hW hd0 (by lia),by rw [List.length_append,List.length_singleton];lia,by rw [ZaZ];lia,by lia⟩
     ·exact ⟨xs,ls,c,_,_,_,_,rfl,hc,bg4,fr4,hl4,hL4,hW,by lia,hx,hx0⟩
  ·
   rintro σ H3 ⟨xs,ls,c,lf,cr,tv,wv,rfl,hc,bg3,fr3,hl3,hL,hW,hlen,hx,hx0⟩
   refine ZkT (fun σ H'=>∃(xs:List V) (ls:List (Str×Int)) (c:Nat),σ = [some (.ref b),some (.int m),some (.int n),some (.ref l),some (.int (2*(c:Int))),some (.int lf),some (.int cr),tv,wv]/\c<=4/\Bag H' b/\Jn b H H'/\H' l=some (.lst xs)/\ZI H' xs ls/\Wk ls (2*(c:Int))/\ls.length+c<=34/\(nX ls:Int)<=n)
    (fun (σ:L2.St) _=>match σ[4]? with | some (some (V.int m))=>m.toNat | _=>0) ⟨xs,ls,c,rfl,hc,bg3,fr3,hl3,hL,hW,by lia,by lia⟩ ?_ ?_
   ·rintro σ H4 ⟨xs,ls,c,rfl,hc,bg4,fr4,hl4,hL4,hW,hlen,hx⟩
    have hxl:xs.length<sizeLine:=by
     rw [hL4.len]
     exact ZC (by lia)
    refine ⟨_,rfl,_,_,rfl,rfl,_,rfl,?_⟩
    refine Z0 (fun hp=>?_) (fun hp=>?_)
    ·have hp1:0<2*(c:Int):=of_decide_eq_true hp
     refine ⟨_,rfl,.inl ⟨rfl,_,Zu.of hl4⟩,_,rfl,_,rfl,_,_,rfl,rfl,b,_,rfl,bg4,by lia,by lia,fun d H5 hd0 hd1 bg5 f5=>⟨(by show 2<=sizeLine;decide),fun t ht=>?_⟩⟩
     obtain ⟨a1,a2,a3,a4,a5⟩:=WW "end" d fr4 bg4 hl4 hL4 hlb hl f5 bg5 ht
     refine ⟨l,_,_,rfl,rfl,a1,hxl,_,rfl,_,_,rfl,rfl,?_⟩
     have e:2*((c-1:Nat):Int)=2*(c:Int)-2:=by lia
     refine ⟨⟨xs ++ [.ref t],ls ++ [((("end" : Str),d):Str×Int)],c-1,?_,by lia,a2,a3,a4,a5,?_,by rw [List.length_append,List.length_singleton];lia,by rw [ZkN];exact hx⟩,?_⟩
     ·rw [e]
      rfl
     ·rw [e]
      exact Wk.fin hW hd0 (by lia)
     ·show (2*(c:Int)-2).toNat<(2*(c:Int)).toNat
      lia
    ·have hp1:¬ 0<2*(c:Int):=fun z=>hp (decide_eq_true z)
     have hc0:c=0:=by lia
     subst hc0
     refine ⟨_,rfl,k l H4 ls hl bg4 fr4 ⟨xs,hl4,hL4,by simpa using hW,by lia⟩ hx⟩
   ·rintro σ H Q Q' f ⟨v,e,i,j,e1,e2,kk,e3,q⟩
    exact ⟨v,e,i,j,e1,e2,kk,e3,f _ _ q⟩
abbrev W2:Stmt:=top 50
theorem JH:Zz ["_law_bag_here", "_law_most", "_law_births", "_law_letters", "_law_turn", "_law_k"] ["_law_bag_here", "_law_most"] (Zh W2):={}
theorem ZlO {f:Addr}{fd:FuncData} (F:Yp K "_law_plat" "_law_plat" W2 f fd) (Zw:Yk P w K mg base 1 "_law_take" ["_law_bag_here", "_law_many"] Zaz) (ZT:mg "range" = none):
  Yc P w K mg base J9 2 f fd ["_law_bag_here", "_law_most"] Zev:=by
 refine F.ok JH (fun vs H Q E h=>?_) (fun cdv A outer s H vs Q E hr h=>?_)
 ·obtain ⟨b,n,rfl,_⟩:=h
  rfl
 ·obtain ⟨b,n,rfl,hbag,n1,n2,k⟩:=h
  refine ⟨_,(Zc (Zp (i:=2) JH.nd rfl (Or.inl rfl) (Zm ZE Ze (Zr Zw hr (Za (pv 0) (Za Ze Zb)))))
   (Zc (ZdD (i:=3) JH.nd rfl (Or.inl rfl) (Ls:=["_law_k"]) (Fs:=[]) (fi:=[]) (ZY.of (show Yv ["_law_bag_here", "_law_most", "_law_births", "_law_letters", "_law_turn", "_law_k"] (Zh W2) _ [] []=true by decide +kernel)) rfl (YK (by rfl) ZT (Za (pv 2) Zb)) (fun cl C s3 H3 ex=>⟨(Zl (i:=0) (show ((["_law_k"]:List Str)++([]:List Str)).Nodup by decide +kernel) rfl (Or.inl rfl)),YS,(ZQ (Za ZJ (Za (Zm Wn Ze (pv 0)) Zb)))⟩))
   (Zc (Yq PassesOwn.never rfl (YK (by rfl) ZT (Za (Zr Zw hr (Za (pv 0) (Za (Zm ZE (pv 1) Ze) Zb))) Zb)) (Zl (i:=4) JH.nd rfl (Or.inl rfl)) (Zc (Zp (i:=5) JH.nd rfl (Or.inl rfl) (Zr Zw hr (Za (pv 0) (Za (Zm YU (Zm Wn Ze (pv 2)) Ze) Zb))))
   (Zc (ZR (PW.pt (WE (Zt ZbS (pv 2) Ze (Zs _)) (Gi (Zt Yi (Zr Zw hr (Za (pv 0) (Za Ze Zb))) Ze (Zs _))))) (Zg (Zp (i:=5) JH.nd rfl (Or.inl rfl) (Zm ZE (Zm Wn Ze (Zm GL (Zm Zck (pv 5) Ze) (Zm YU (pv 2) Ze))) Ze))) ZG)
   (Zg (ZZ (Yb (K:=K) rfl (Yx PySem.F.plainAttrs_list PySem.F.slot_list_append PySem.F.type_list_append ZO (pv 3) (Za (ZQ (Za ZJ (Za (pv 5) Zb))) Zb))))))))
   (Zg (Zv (Zm Ws (pv 3) (GF (Ls:=["_law_k"]) (Fs:=[]) (fi:=[]) (ZY.of (show Yv ["_law_bag_here", "_law_most", "_law_births", "_law_letters", "_law_turn", "_law_k"] (Zh W2) _ [] []=true by decide +kernel)) rfl (YK (by rfl) ZT (Za (pv 2) Zb)) (fun cl C s3 H3 ex=>⟨(Zl (i:=0) (show ((["_law_k"]:List Str)++([]:List Str)).Nodup by decide +kernel) rfl (Or.inl rfl)),YS,(ZQ (Za ZJ (Za Ze Zb)))⟩)))))))),?_⟩
  refine ⟨_,rfl,b,3,rfl,hbag,by decide,by decide,fun d H1 hd0 hd1 bg1 f1=>?_⟩
  refine ⟨_,_,rfl,rfl,?_⟩
  have hc1:1<=(1+d).toNat:=by lia
  have hc2:(1+d).toNat<=3:=by lia
  refine ⟨_,rfl,_,rfl,by lia,by lia,Zgi (n:=(1+d).toNat) (Nat.le_of_lt (ZC (by lia))) (fun i ys H'=>Zi H1 H'/\ZI H' ys ((List.range i).map fun (j:Nat)=>(("born", 2*(j:Int)):Str×Int))) ⟨Zi.refl _,.nil⟩
   (fun i ys H' p=>by rw [p.2.len];simp) (fun i ys H' hi p=>?_) (fun ys H2 p l hl=>?_)⟩
  ·refine lcG ?_
   refine ⟨_,rfl,_,_,rfl,rfl,.inl ⟨by decide,by decide⟩,(by show 2<=sizeLine;decide),fun t ht=>⟨p.1.step ht,?_⟩⟩
   rw [List.range_succ,List.map_append]
   have e:(2*(0+(i:Int)))=2*(i:Int):=by lia
   refine ZI.snoc (p.2.same (Zi.laid ht)) ?_
   rw [<- e]
   exact Zd
  ·
   obtain ⟨sm,hL0⟩:=p
   obtain ⟨g0,r0,hg0,hb0⟩:=id bg1
   have hb2:H2 b=some (.lst [.int g0,.int r0]):=sm b _ hb0
   have hlb:l≠b:=(Zf hb2 hl).symm
   have bg2:Bag (upd H2 l (.lst ys)) b:=⟨g0,r0,hg0,by rw [Zj (Ne.symm hlb)];exact hb2⟩
   have hlH:H l=none:=f1.free bg1 (sm.free hl)
   have fr2:Jn b H (upd H2 l (.lst ys)):=(f1.trans sm.frm).new hl
   have hL2:ZI (upd H2 l (.lst ys)) ys ((List.range (1+d).toNat).map fun (j:Nat)=>(("born", 2*(j:Int)):Str×Int)):=hL0.same (Zi.laid hl)
   refine ⟨_,rfl,_,rfl,_,_,rfl,rfl,b,_,rfl,bg2,by lia,by lia,fun d2 H3 he0 he1 bg3 f3=>?_⟩
   refine ⟨_,rfl,by lia,by lia,J6 (n:=d2.toNat) (fun i σ H'=>∃(xs:List V) (ls:List (Str×Int)) (tv kv:Option V),σ = [some (.ref b),some (.int n),some (.int (1+d)),some (.ref l),tv,kv]/\Bag H' b/\Jn b H H'/\H' l=some (.lst xs)/\ZI H' xs ls/\Wk ls (2*((1+d).toNat:Int))/\ls.length<=3+i/\nX ls<=i)
    ⟨ys,_,none,none,rfl,bg3,fr2.trans f3,f3 l _ Zd hlb,hL2.frm f3 bg2,Zfc _,by rw [List.length_map,List.length_range];lia,by unfold nX;rw [List.countP_map];refine Nat.le_of_eq (List.countP_eq_zero.mpr fun _ _=>by simp;decide)⟩ ?_ ?_⟩
   ·rintro i σ H4 hi ⟨xs,ls,tv,kv,rfl,bg4,fr4,hl4,hL4,hW,hlen,hx⟩
    have hxl:xs.length<sizeLine:=by
     rw [hL4.len]
     exact ZC (by lia)
    refine ⟨_,rfl,_,rfl,_,_,rfl,rfl,.inl ⟨by decide,by decide⟩,_,_,rfl,rfl,b,_,rfl,bg4,by lia,by lia,fun k1 H5 hk0 hk1 bg5 f5=>?_⟩
    have hl5:H5 l=some (.lst xs):=f5 l _ hl4 hlb
    have fr5:Jn b H H5:=fr4.trans f5
    have hL5:ZI H5 xs ls:=hL4.frm f5 bg4
    refine ⟨_,rfl,_,_,rfl,rfl,_,rfl,?_⟩
    refine Z0 (fun hp=>?_) (fun hp=>?_)
    ·have hp1:1<1+d:=of_decide_eq_true hp
     refine ⟨_,rfl,b,2,rfl,bg5,by decide,by decide,fun d3 H6 _ _ bg6 f6=>⟨rfl,_,rfl,?_⟩⟩
     have hl6:H6 l=some (.lst xs):=f6 l _ hl5 hlb
     have fr6:Jn b H H6:=fr5.trans f6
     have hL6:ZI H6 xs ls:=hL5.frm f6 bg5
     refine Z0 (fun hq=>?_) (fun hq=>?_)
     ·refine ⟨_,rfl,_,_,rfl,rfl,⟨by decide,by decide⟩,_,rfl,_,_,rfl,rfl,_,_,rfl,rfl,(show (0:Int)<1+d-1 by lia),_,_,rfl,rfl,.inl ⟨by decide,by decide⟩,_,_,rfl,rfl,?_⟩
      have z0:0<=k1 / 2 % (1+d-1):=Int.emod_nonneg _ (by lia)
      have z1:k1 / 2 % (1+d-1)<1+d-1:=Int.emod_lt_of_pos _ (by lia)
      refine ⟨_,rfl,.inl ⟨rfl,_,Zu.of hl6⟩,_,rfl,(by show 2<=sizeLine;decide),fun t ht=>?_⟩
      obtain ⟨a1,a2,a3,a4,a5⟩:=WW "cross" (2*(k1 / 2 % (1+d-1))+1) fr6 bg6 hl6 hL6 hlb hlH (Jn.refl b H6) bg6 ht
      refine ⟨l,_,_,rfl,rfl,a1,hxl,?_⟩
      exact ⟨xs ++ [.ref t],_,_,_,rfl,a2,a3,a4,a5,Wk.cross hW (by lia) (by lia),by rw [List.length_append,List.length_singleton];lia,by rw [ZaZ];lia⟩
     ·refine ⟨_,rfl,.inl ⟨rfl,_,Zu.of hl6⟩,_,rfl,(by show 2<=sizeLine;decide),fun t ht=>?_⟩
      obtain ⟨a1,a2,a3,a4,a5⟩:=WW "cross" k1 fr6 bg6 hl6 hL6 hlb hlH (Jn.refl b H6) bg6 ht
      refine ⟨l,_,_,rfl,rfl,a1,hxl,?_⟩
      exact ⟨xs ++ [.ref t],_,_,_,rfl,a2,a3,a4,a5,Wk.cross hW (by lia) (by lia),by rw [List.length_append,List.length_singleton];lia,by rw [ZaZ];lia⟩
    ·refine ⟨_,rfl,.inl ⟨rfl,_,Zu.of hl5⟩,_,rfl,(by show 2<=sizeLine;decide),fun t ht=>?_⟩
     obtain ⟨a1,a2,a3,a4,a5⟩:=WW "cross" k1 fr5 bg5 hl5 hL5 hlb hlH (Jn.refl b H5) bg5 ht
     refine ⟨l,_,_,rfl,rfl,a1,hxl,?_⟩
     exact ⟨xs ++ [.ref t],_,_,_,rfl,a2,a3,a4,a5,Wk.cross hW (by lia) (by lia),by rw [List.length_append,List.length_singleton];lia,by rw [ZaZ];lia⟩
   ·rintro σ H4 ⟨xs,ls,tv,kv,rfl,bg4,fr4,hl4,hL4,hW,hlen,hx⟩
    refine ⟨_,rfl,_,rfl,_,rfl,by lia,by lia,Zgi (n:=(1+d).toNat) (Nat.le_of_lt (ZC (by lia))) (fun i ys H'=>Zi H4 H'/\ZI H' ys (List.replicate i ((("end" : Str),0):Str×Int))) ⟨Zi.refl _,.nil⟩
     (fun i ys H' p=>by rw [p.2.len];simp) (fun i ys H' hi p=>?_) (fun zs H5 p D hD=>?_)⟩
    ·refine lcG ?_
     refine ⟨(by show 2<=sizeLine;decide),fun t ht=>⟨p.1.step ht,?_⟩⟩
     rw [List.replicate_succ']
     exact ZI.snoc (p.2.same (Zi.laid ht)) Zd
    ·obtain ⟨sm5,hZ⟩:=p
     have hl5:H5 l=some (.lst xs):=sm5 l _ hl4
     have hZl:=hZ.len
     rw [List.length_replicate] at hZl
     have hXl:=hL4.len
     refine ⟨l,D,xs,zs,rfl,rfl,(by rw [Zj (Zf hl5 hD)];exact hl5),Zd,Nat.le_of_lt (ZC (by lia)),fun p hp=>?_⟩
     have sm6:Zi H4 (upd (upd H5 D (.lst zs)) p (.lst (xs++zs))):=(sm5.step hD).step hp
     have hpH:H p=none:=fr4.free bg4 ((sm5.step hD).free hp)
     obtain ⟨g4,r4,hg4,hb4⟩:=id bg4
     refine k p _ (ls++List.replicate (1+d).toNat ((("end" : Str),0):Str×Int)) hpH ⟨g4,r4,hg4,sm6 b _ hb4⟩ (fr4.trans sm6.frm) ⟨xs++zs,Zd,?_,?_,?_⟩ (by
      rw [Uc]
      have:nX (List.replicate (1+d).toNat ((("end" : Str),0):Str×Int))=0:=List.countP_eq_zero.mpr fun a ha=>by rw [(List.mem_replicate.mp ha).2];decide
      lia)
     ·exact (hL4.same sm6).append (hZ.same ((Zi.laid hD).step hp))
     ·have:=Zdq _ hW (1+d).toNat (Nat.le_refl _)
      simpa using this
     ·rw [List.length_append,List.length_replicate]
      lia
abbrev Zby:Stmt:=top 51
theorem ZgY:Zz ["_law_bag_here", "_law_most"] ["_law_bag_here", "_law_most"] (Zh Zby):={}
theorem Znu {f:Addr}{fd:FuncData} (F:Yp K "_law_any" "_law_any" Zby f fd) (Zw:Yk P w K mg base 1 "_law_take" ["_law_bag_here", "_law_many"] Zaz) (J5:Yk P w K mg base 2 "_law_plat" ["_law_bag_here", "_law_most"] Zev)
  (Gy:Yk P w K mg base 2 "_law_drawing" ["_law_bag_here", "_law_births", "_law_most"] (Zhm 0)):Yc P w K mg base J9 3 f fd ["_law_bag_here", "_law_most"] Zev:=by
 refine F.ok ZgY (fun vs H Q E h=>?_) (fun cdv A outer s H vs Q E hr h=>?_)
 ·obtain ⟨b,n,rfl,_⟩:=h
  rfl
 ·obtain ⟨b,n,rfl,hbag,n1,n2,k⟩:=h
  refine ⟨_,(Zc (ZR (Zt Yi (Zr Zw hr (Za (pv 0) (Za Ze Zb))) Ze (Zs _)) (Zg (Zv (Zr J5 hr (Za (pv 0) (Za (pv 1) Zb))))) ZG)
   (Zg (Zv (Zr Gy hr (Za (pv 0) (Za Ze (Za (pv 1) Zb))))))),?_⟩
  refine ⟨_,rfl,b,3,rfl,hbag,by decide,by decide,fun d H1 _ _ bg1 f1=>⟨rfl,_,rfl,?_⟩⟩
  refine Z0 (fun _=>?_) (fun _=>?_)
  ·exact ⟨_,rfl,_,rfl,b,n,rfl,bg1,n1,n2,fun l H2 ls hl bg2 f2 dr nx=>k l H2 ls (f1.free bg1 hl) bg2 (f1.trans f2) dr nx⟩
  ·exact ⟨_,rfl,_,rfl,b,4,n,rfl,bg1,by decide,by decide,n1,by lia,fun l H2 ls hl bg2 f2 dr nx=>k l H2 ls (f1.free bg1 hl) bg2 (f1.trans f2) dr nx⟩
def Zgk:Sp:=fun vs H Q _=>∃i:Int,vs = [.int i]/\Q (.bl true) H
abbrev U5:Stmt:=top 56
theorem ZeN:Zz ["_law_thing"] ["_law_thing"] (Zh U5):={}
theorem ZjT {f:Addr}{fd:FuncData} (F:Yp K "_law_whole" "_law_whole" U5 f fd) (ZF:mg "isinstance" = none) (Zaj:mg "int" = none) (Zcl:mg "bool" = none):Yc P w K mg base J9 1 f fd ["_law_thing"] Zgk:=by
 refine F.ok ZeN (fun vs H Q E h=>?_) (fun cdv A outer s H vs Q E hr h=>?_)
 ·obtain ⟨i,rfl,_⟩:=h
  rfl
 ·obtain ⟨i,rfl,k⟩:=h
  refine ⟨_,(Zg (Zv (ZaF (Zx (JC (K:=K) rfl) (by rfl) ZF boot_isinstance (Za (pv 0) (Za (UW (v:=.ty "int") (by rfl) Zaj boot_int rfl) Zb))) (GJ (ZjO (Zx (JC (K:=K) rfl) (by rfl) ZF boot_isinstance (Za (pv 0) (Za (UW (v:=.ty "bool") (by rfl) Zcl boot_bool rfl) Zb)))))))),?_⟩
  refine ⟨_,rfl,_, "int", _,true,rfl,.int i,by rfl,true,rfl,JN ?_⟩
  exact ⟨_,rfl,_, "bool", _,false,rfl,.int i,by rfl,false,rfl,k⟩
def ZcM:Sp:=fun vs H Q _=>∃(l:Addr) (ns:List Int),vs = [.ref l]/\H l=some (.lst (ns.map V.int))/\ns.length<=900 /\ ∀H',Zi H H'->Q (.bl true) H'
abbrev Wf:Stmt:=top 57
theorem Zdj:Zz ["_law_thing"] ["_law_thing"] (Zh Wf):={}
theorem Zhs {f:Addr}{fd:FuncData} (F:Yp K "_law_numbers" "_law_numbers" Wf f fd) (UO:Yk P w K mg base 1 "_law_whole" ["_law_thing"] Zgk) (ZF:mg "isinstance" = none) (Yj:mg "list" = none) (Zee:mg "all" = none):
  Yc P w K mg base J9 2 f fd ["_law_thing"] ZcM:=by
 refine F.ok Zdj (fun vs H Q E h=>?_) (fun cdv A outer s H vs Q E hr h=>?_)
 ·obtain ⟨l,ns,rfl,_⟩:=h
  rfl
 ·obtain ⟨l,ns,rfl,hl,hlen,k⟩:=h
  refine ⟨_,(Zg (Zv (ZaF (Zx (JC (K:=K) rfl) (by rfl) ZF boot_isinstance (Za (pv 0) (Za (UW (v:=.ty "list") (by rfl) Yj boot_list rfl) Zb))) (GJ (Zx (ZcH (K:=K) rfl rfl) (by rfl) Zee boot_all (Za (GF (Ls:=["_law_one"]) (Fs:=[]) (fi:=[]) (ZY.of (show Yv ["_law_thing"] (Zh Wf) _ [] []=true by decide +kernel)) rfl (Z8 (K:=K) rfl (pv 0)) (fun cl C s3 H3 ex=>⟨(Zl (i:=0) (show ((["_law_one"]:List Str)++([]:List Str)).Nodup by decide +kernel) rfl (Or.inl rfl)),YS,(Zr UO hr (Za (pv 0) Zb))⟩)) Zb)))))),?_⟩
  refine ⟨_,rfl,_, "list", _,true,rfl,.lst hl,by rfl,true,rfl,JN ?_⟩
  refine ⟨_,rfl,l,rfl,⟨_,Zu.of hl⟩,JG (xs:=ns.map V.int) (by rw [List.length_map];exact Nat.le_of_lt (ZC (by lia))) (fun i ys H'=>Zi H H'/\ys=(List.replicate i true).map V.bl) ⟨Zi.refl _,rfl⟩
   (fun i ys H' p=>by rw [p.2];simp) (fun i ys H' p=>Zu.of (p.1 l _ hl)) (fun i x ys H' hx p=>?_) (fun ys H' p D hD=>?_)⟩
  ·obtain ⟨sm,rfl⟩:=p
   obtain ⟨z,rfl⟩:∃z,x=V.int z:=by
    rw [List.getElem?_map] at hx
    cases e:ns[i]? with
    | none=>rw [e] at hx;cases hx
    | some z=>rw [e] at hx;exact ⟨z,(Option.some.inj hx).symm⟩
   refine lcG ?_
   refine ⟨_,rfl,z,rfl,sm,?_⟩
   rw [List.replicate_succ',List.map_append]
   rfl
  ·obtain ⟨sm,rfl⟩:=p
   refine ⟨D,_,rfl,Zu.of Zd,?_⟩
   have e:(List.replicate (ns.map V.int).length true).all id=true:=by simp
   rw [e]
   exact k _ (sm.step hD)
abbrev Zco:Stmt:=top 19
theorem JW:Zz ["drawing", "rows", "born", "kind", "k", "row"] ["drawing"] (Zh Zco):={}
theorem ZhG {f:Addr}{fd:FuncData} (F:Yp K "threads" "threads" Zco f fd) (Yj:mg "list" = none):Yc P w K mg base J9 1 f fd ["drawing"] ZaR:=by
 refine F.ok JW (fun vs H Q E h=>?_) (fun cdv A outer s H vs Q E hr h=>?_)
 ·obtain ⟨l,xs,ls,rfl,_⟩:=h
  rfl
 ·obtain ⟨l,xs,ls,rfl,hl,hL,hlen,hW,k⟩:=h
  refine ⟨_,(Zc (Zp (i:=1) JW.nd rfl (Or.inl rfl) (ZD (Za (ZD Zb) Zb)))
   (Zc (Zp (i:=2) JW.nd rfl (Or.inl rfl) Ze)
   (Zc (Yq PassesOwn.never rfl (Z8 (K:=K) rfl (pv 0)) (Z6 (K:=K) (n:=2) rfl rfl (Zq (Zl (i:=3) JW.nd rfl (Or.inl rfl)) (Zq (Zl (i:=4) JW.nd rfl (Or.inl rfl)) ZU))) (Zc (Zp (i:=5) JW.nd rfl (Or.inl rfl) (Yl (YZ (K:=K) rfl) (by rfl) Yj boot_list (Za (Zy (Zn (K:=K) rfl) (pv 1) (Zbn Ud Ze) (fun _ _=>rfl)) Zb)))
   (Zc (ZR (Zt Yi (pv 3) ZJ (Zs _)) (Zc (Yr (ZD (Za (pv 2) (Za (Zm ZE (pv 2) Ze) Zb))) (Zm9 (pv 5) (Ym (pv 4)) (Ym (pv 4))))
   (Zg (Zka (i:=2) JW.nd rfl (Or.inl rfl) Ze Zn1))) (Zg (ZR (Zt Yi (pv 3) ZJ (Zs _)) (Zg (Yr (ZQ (Za (Zy (Zn (K:=K) rfl) (pv 5) (Zm ZE (pv 4) Ze) (fun _ _=>rfl)) (Za (Zy (Zn (K:=K) rfl) (pv 5) (pv 4) (fun _ _=>rfl)) Zb))) (Z6 (K:=K) (n:=2) rfl rfl (Zq (YH (pv 5) (pv 4) set_list) (Zq (YH (pv 5) (Zm ZE (pv 4) Ze) set_list) ZU))))) (Zg (Zkv (pv 5) (Ym (pv 4)) (Ym (Zm ZE (pv 4) Ze)))))))
   (Zg (ZZ (Yb (K:=K) rfl (Yx PySem.F.plainAttrs_list PySem.F.slot_list_append PySem.F.type_list_append ZO (pv 1) (Za (pv 5) Zb))))))))
   (Zg (Zv (pv 1)))))),?_⟩
  have hxl:=hL.len
  refine ⟨(by show 0<=sizeLine;decide),fun e0 he0=>⟨(by show 1<=sizeLine;decide),fun R hR=>?_⟩⟩
  have hRH:H R=none:=(Zi.laid he0).free hR
  have hRe:e0≠R:=Zf (Zd (H:=H) (a:=e0) (o:=.lst [])) hR
  have sm0:Zi H (upd (upd H e0 (.lst [])) R (.lst [.ref e0])):=(Zi.laid he0).step hR
  refine ⟨_,rfl,l,rfl,⟨_,Zu.of (sm0 l _ hl)⟩,JL (K:=K) (a:=l) (xs:=xs) (fun i σ H'=>∃(ys:List V) (v3 v4 v5:Option V),σ = [some (.ref l),some (.ref R),some (.int (rb (ls.take i)).2),v3,v4,v5]/\Zi H H'/\H' R=some (.lst ys)/\YQ H' ys (rowsOf ls (i+1))/\(∀t,V.ref t∈ys->H t=none/\t≠R)/\ys.Nodup)
   ⟨[.ref e0],none,none,none,rfl,sm0,Zd,?_,?_,by simp⟩ (fun i σ H' _ ⟨_,_,_,_,_,sm,_⟩=>Zu.of (sm l _ hl)) ?_ ?_⟩
  ·refine Paired.cons ⟨e0,rfl,?_⟩ .nil
   rw [Zj hRe,Zd]
   rfl
  ·intro t ht
   have:t=e0:=V.ref.inj (List.mem_singleton.mp ht)
   subst this
   exact ⟨he0,hRe⟩
  ·rintro i x σ H' hx ⟨ys,v3,v4,v5,rfl,sm,hR',rv,ap,nd⟩
   obtain ⟨⟨qx,qk⟩,tl,hq,rfl,htl⟩:=hL.get hx
   have htl':=sm tl _ htl
   have hi:i<ls.length:=(List.getElem?_eq_some_iff.mp hq).1
   obtain ⟨ztk,cases3⟩:=ZeP hW hq
   have rv':=rv
   rw [ZaI] at rv'
   obtain ⟨ys0,t,rfl,ht⟩:=rv'.last
   have hyl:(ys0 ++ [V.ref t]).length<sizeLine:=by
    rw [rv.len]
    unfold rowsOf
    rw [List.length_map,List.length_range]
    exact ZC (by lia)
   have rl:((rb (ls.take i)).1.map V.int).length=(rb (ls.take i)).1.length:=List.length_map _
   obtain ⟨m,hm⟩:=Zbc hW i
   have r8:(rb (ls.take i)).1.length<=900:=by
    have z1:=ZaD hm
    have z2:=U9 hm
    rw [List.length_take] at z2
    lia
   refine ⟨tl,_,rfl,YT.of htl',rfl,_,_,rfl,_,_,rfl,rfl,?_⟩
   refine ⟨_,rfl,1,rfl,R,_,_,_,rfl,rfl,Zu.of hR',UB _ _,t,_,rfl,.inl (Zu.of ht),fun w hw=>?_⟩
   have hwR:w≠R:=(Zf hR' hw).symm
   refine ⟨_,rfl,rfl,_,rfl,?_⟩
   rcases cases3 with ⟨e,b0,b1⟩ | ⟨e,b0,b1⟩ | ⟨e,b0,b1⟩
   ·have e:qx = "born" := e
    subst e
    refine Z0 (fun _=>?_) (fun hn=>absurd (by simp) hn)
    refine ⟨_,rfl,_,rfl,_,_,rfl,rfl,(by show 2<=sizeLine;decide),fun nl hnl=>?_⟩
    have hwn:w≠nl:=Zf (Zd (H:=H') (a:=w)) hnl
    refine ⟨_,rfl,_,rfl,_,rfl,_,rfl,_,rfl,w,nl,_,_,qk,qk,rfl,rfl,rfl,rfl,(by rw [Zj hwn];exact Zd),Zd,hwn,b0,Int.le_refl _,(by rw [rl];exact b1),(by rw [rl];exact Nat.le_of_lt (ZC (by show _+2<=1000;lia))),?_⟩
    refine ⟨_,rfl,_,_,rfl,rfl,?_⟩
    have hR2:(upd (upd (upd H' w (.lst ((rb (ls.take i)).1.map V.int))) nl (.lst [.int (rb (ls.take i)).2,.int ((rb (ls.take i)).2+1)])) w (.lst (((rb (ls.take i)).1.map V.int).take qk.toNat ++ [.int (rb (ls.take i)).2,.int ((rb (ls.take i)).2+1)]++((rb (ls.take i)).1.map V.int).drop qk.toNat))) R=some (.lst (ys0 ++ [.ref t])):=by
     rw [Zj (Ne.symm hwR)]
     exact (Zi.laid hnl) R _ ((Zi.laid hw) R _ hR')
    refine ⟨_,rfl,.inl ⟨rfl,_,Zu.of hR2⟩,_,rfl,R,_,_,rfl,rfl,hR2,hyl,?_⟩
    obtain ⟨z1,z2,z3,z4⟩:=Gr (G:=upd (upd (upd (upd H' w (.lst ((rb (ls.take i)).1.map V.int))) nl (.lst [.int (rb (ls.take i)).2,.int ((rb (ls.take i)).2+1)])) w (.lst (((rb (ls.take i)).1.map V.int).take qk.toNat ++ [.int (rb (ls.take i)).2,.int ((rb (ls.take i)).2+1)]++((rb (ls.take i)).1.map V.int).drop qk.toNat))) R (.lst ((ys0 ++ [.ref t]) ++ [.ref w]))) hRH sm rv ap nd hw hwR (fun c o e n=>by
      rw [Zj n,Zj (Zf e hw)]
      exact (Zi.laid hnl) c _ ((Zi.laid hw) c _ e)) (by
      rw [Zj hwR,Zd,ztk,YI,W0]
      simp [List.map_append,List.map_take,List.map_drop])
    refine ⟨ys0 ++ [.ref t] ++ [.ref w],some (.str "born"),some (.int qk),some (.ref w),?_,z1,Zd,z2,z3,z4⟩
    rw [ztk,YI,W0]
    rfl
   ·have e:qx = "cross" := e
    subst e
    refine Z0 (fun hn=>absurd (V.str.inj (of_decide_eq_true hn)) nb1) (fun _=>?_)
    refine ⟨_,rfl,rfl,_,rfl,?_⟩
    refine Z0 (fun _=>?_) (fun hn=>absurd (by simp) hn)
    obtain ⟨kk,rfl⟩:=Int.eq_ofNat_of_zero_le b0
    have k1:kk+1<(rb (ls.take i)).1.length:=by have b1:(kk:Int)+1<_:=b1;lia
    have ec:((kk:Int)+1)=((kk+1:Nat):Int):=by lia
    have a1:atI ((rb (ls.take i)).1.map V.int) ((kk:Int)+1)=some (V.int ((rb (ls.take i)).1.getD (kk+1) 0)):=by rw [ec];exact Zo (map_getD _ k1)
    have a0:atI ((rb (ls.take i)).1.map V.int) (kk:Int)=some (V.int ((rb (ls.take i)).1.getD kk 0)):=Zo (map_getD _ (by lia))
    refine ⟨_,rfl,_,rfl,_,_,rfl,rfl,w,_,_,_,rfl,rfl,Zu.of Zd,a1,_,rfl,_,rfl,w,_,_,_,rfl,rfl,Zu.of Zd,a0,(by show 2<=sizeLine;decide),fun tt htt=>?_⟩
    have hwt:w≠tt:=Zf (Zd (H:=H') (a:=w)) htt
    refine ⟨tt,_,rfl,YT.of Zd,rfl,_,_,rfl,_,rfl,_,rfl,w,_,_,kk,rfl,rfl,(by rw [Zj hwt];exact Zd),(by rw [rl];exact Y0 (by lia)),?_⟩
    refine ⟨_,_,rfl,_,rfl,_,rfl,_,_,rfl,rfl,w,_,_,kk+1,rfl,rfl,Zd,(by rw [List.length_set,rl,ec];exact Y0 k1),rfl,?_⟩
    rw [Jy,ZiE]
    have hR2:(upd (upd (upd H' w (.lst ((rb (ls.take i)).1.map V.int))) tt (.tup [.int ((rb (ls.take i)).1.getD (kk+1) 0),.int ((rb (ls.take i)).1.getD kk 0)])) w (.lst ((Uh (rb (ls.take i)).1 kk).map V.int))) R=some (.lst (ys0 ++ [.ref t])):=by
     rw [Zj (Ne.symm hwR)]
     exact (Zi.laid htt) R _ ((Zi.laid hw) R _ hR')
    refine ⟨_,rfl,.inl ⟨rfl,_,Zu.of hR2⟩,_,rfl,R,_,_,rfl,rfl,hR2,hyl,?_⟩
    obtain ⟨z1,z2,z3,z4⟩:=Gr (G:=upd (upd (upd (upd H' w (.lst ((rb (ls.take i)).1.map V.int))) tt (.tup [.int ((rb (ls.take i)).1.getD (kk+1) 0),.int ((rb (ls.take i)).1.getD kk 0)])) w (.lst ((Uh (rb (ls.take i)).1 kk).map V.int))) R (.lst ((ys0 ++ [.ref t]) ++ [.ref w]))) hRH sm rv ap nd hw hwR (fun c o e n=>by
      rw [Zj n,Zj (Zf e hw)]
      exact (Zi.laid htt) c _ ((Zi.laid hw) c _ e)) (by
      rw [Zj hwR,Zd,ztk,YI,J1]
      rfl)
    refine ⟨ys0 ++ [.ref t] ++ [.ref w],some (.str "cross"),some (.int kk),some (.ref w),?_,z1,Zd,z2,z3,z4⟩
    rw [ztk,YI,J1]
    rfl
   ·have e:qx = "end" := e
    subst e
    refine Z0 (fun hn=>absurd (V.str.inj (of_decide_eq_true hn)) nb2) (fun _=>?_)
    refine ⟨_,rfl,rfl,_,rfl,?_⟩
    refine Z0 (fun hn=>absurd (V.str.inj (of_decide_eq_true hn)) nb3) (fun _=>?_)
    have b1':qk+1<((rb (ls.take i)).1.length:Int):=b1
    refine ⟨_,rfl,_,rfl,_,rfl,_,rfl,_,_,rfl,rfl,_,rfl,w,_,qk,qk+2,rfl,rfl,rfl,Zd,b0,by lia,(by rw [rl];lia),?_⟩
    rw [Jy]
    have hR2:(upd H' w (.lst (((rb (ls.take i)).1.map V.int).take qk.toNat++((rb (ls.take i)).1.map V.int).drop (qk+2).toNat))) R=some (.lst (ys0 ++ [.ref t])):=(Zi.laid hw) R _ hR'
    refine ⟨_,rfl,.inl ⟨rfl,_,Zu.of hR2⟩,_,rfl,R,_,_,rfl,rfl,hR2,hyl,?_⟩
    have e2:(qk+2).toNat=qk.toNat+2:=by have b0':0<=qk:=b0;lia
    obtain ⟨z1,z2,z3,z4⟩:=Gr (G:=upd (upd H' w (.lst (((rb (ls.take i)).1.map V.int).take qk.toNat++((rb (ls.take i)).1.map V.int).drop (qk+2).toNat))) R (.lst ((ys0 ++ [.ref t]) ++ [.ref w]))) hRH sm rv ap nd hw hwR (fun c o e n=>by
      rw [Zj n]
      exact (Zi.laid hw) c _ e) (by
      rw [Zj hwR,Zd,ztk,YI,GX,e2,List.map_append,List.map_take,List.map_drop])
    refine ⟨ys0 ++ [.ref t] ++ [.ref w],some (.str "end"),some (.int qk),some (.ref w),?_,z1,Zd,z2,z3,z4⟩
    rw [ztk,YI,GX]
    rfl
  ·rintro σ H' ⟨ys,v3,v4,v5,rfl,sm,hR',rv,ap,nd⟩
   rw [hxl] at rv
   exact ⟨_,rfl,k R H' ys hRH sm hR' rv ap nd⟩
abbrev ZaW:Stmt:=top 52
theorem Y6:Zz ["_law_drawing_here", "_law_rows_here", "_law_born", "_law_word", "_law_k", "_law_row"] ["_law_drawing_here"] (Zh ZaW):={}
theorem Zl0 {f:Addr}{fd:FuncData} (F:Yp K "_law_rows" "_law_rows" ZaW f fd) (Yj:mg "list" = none):Yc P w K mg base J9 1 f fd ["_law_drawing_here"] ZaR:=by
 refine F.ok Y6 (fun vs H Q E h=>?_) (fun cdv A outer s H vs Q E hr h=>?_)
 ·obtain ⟨l,xs,ls,rfl,_⟩:=h
  rfl
 ·obtain ⟨l,xs,ls,rfl,hl,hL,hlen,hW,k⟩:=h
  refine ⟨_,(Zc (Zp (i:=1) Y6.nd rfl (Or.inl rfl) (ZD (Za (ZD Zb) Zb)))
   (Zc (Zp (i:=2) Y6.nd rfl (Or.inl rfl) Ze)
   (Zc (Yq PassesOwn.never rfl (Z8 (K:=K) rfl (pv 0)) (Z6 (K:=K) (n:=2) rfl rfl (Zq (Zl (i:=3) Y6.nd rfl (Or.inl rfl)) (Zq (Zl (i:=4) Y6.nd rfl (Or.inl rfl)) ZU))) (Zc (Zp (i:=5) Y6.nd rfl (Or.inl rfl) (Yl (YZ (K:=K) rfl) (by rfl) Yj boot_list (Za (Zy (Zn (K:=K) rfl) (pv 1) (Zbn Ud Ze) (fun _ _=>rfl)) Zb)))
   (Zc (ZR (Zt Yi (pv 3) ZJ (Zs _)) (Zc (ZZ (Yb (K:=K) rfl (Yx PySem.F.plainAttrs_list PySem.F.slot_list_insert PySem.F.type_list_insert ZeQ (pv 5) (Za (pv 4) (Za (Zm ZE (pv 2) Ze) Zb)))))
   (Zc (ZZ (Yb (K:=K) rfl (Yx PySem.F.plainAttrs_list PySem.F.slot_list_insert PySem.F.type_list_insert ZeQ (pv 5) (Za (pv 4) (Za (pv 2) Zb)))))
   (Zg (Zp (i:=2) Y6.nd rfl (Or.inl rfl) (Zm ZE (pv 2) Ze))))) (Zg (ZR (Zt Yi (pv 3) ZJ (Zs _)) (Zg (Yr (ZQ (Za (Zy (Zn (K:=K) rfl) (pv 5) (Zm ZE (pv 4) Ze) (fun _ _=>rfl)) (Za (Zy (Zn (K:=K) rfl) (pv 5) (pv 4) (fun _ _=>rfl)) Zb))) (Z6 (K:=K) (n:=2) rfl rfl (Zq (YH (pv 5) (pv 4) set_list) (Zq (YH (pv 5) (Zm ZE (pv 4) Ze) set_list) ZU))))) (Zc (ZZ (Yb (K:=K) rfl (Yx PySem.F.plainAttrs_list PySem.F.slot_list_pop PySem.F.type_list_pop Zd3 (pv 5) (Za (pv 4) Zb))))
   (Zg (ZZ (Yb (K:=K) rfl (Yx PySem.F.plainAttrs_list PySem.F.slot_list_pop PySem.F.type_list_pop Zd3 (pv 5) (Za (pv 4) Zb)))))))))
   (Zg (ZZ (Yb (K:=K) rfl (Yx PySem.F.plainAttrs_list PySem.F.slot_list_append PySem.F.type_list_append ZO (pv 1) (Za (pv 5) Zb))))))))
   (Zg (Zv (pv 1)))))),?_⟩
  have hxl:=hL.len
  refine ⟨(by show 0<=sizeLine;decide),fun e0 he0=>⟨(by show 1<=sizeLine;decide),fun R hR=>?_⟩⟩
  have hRH:H R=none:=(Zi.laid he0).free hR
  have hRe:e0≠R:=Zf (Zd (H:=H) (a:=e0) (o:=.lst [])) hR
  have sm0:Zi H (upd (upd H e0 (.lst [])) R (.lst [.ref e0])):=(Zi.laid he0).step hR
  refine ⟨_,rfl,l,rfl,⟨_,Zu.of (sm0 l _ hl)⟩,JL (K:=K) (a:=l) (xs:=xs) (fun i σ H'=>∃(ys:List V) (v3 v4 v5:Option V),σ = [some (.ref l),some (.ref R),some (.int (rb (ls.take i)).2),v3,v4,v5]/\Zi H H'/\H' R=some (.lst ys)/\YQ H' ys (rowsOf ls (i+1))/\(∀t,V.ref t∈ys->H t=none/\t≠R)/\ys.Nodup)
   ⟨[.ref e0],none,none,none,rfl,sm0,Zd,?_,?_,by simp⟩ (fun i σ H' _ ⟨_,_,_,_,_,sm,_⟩=>Zu.of (sm l _ hl)) ?_ ?_⟩
  ·refine Paired.cons ⟨e0,rfl,?_⟩ .nil
   rw [Zj hRe,Zd]
   rfl
  ·intro t ht
   have:t=e0:=V.ref.inj (List.mem_singleton.mp ht)
   subst this
   exact ⟨he0,hRe⟩
  ·rintro i x σ H' hx ⟨ys,v3,v4,v5,rfl,sm,hR',rv,ap,nd⟩
   obtain ⟨⟨qx,qk⟩,tl,hq,rfl,htl⟩:=hL.get hx
   have htl':=sm tl _ htl
   have hi:i<ls.length:=(List.getElem?_eq_some_iff.mp hq).1
   obtain ⟨ztk,cases3⟩:=ZeP hW hq
   have rv':=rv
   rw [ZaI] at rv'
   obtain ⟨ys0,t,rfl,ht⟩:=rv'.last
   have hyl:(ys0 ++ [V.ref t]).length<sizeLine:=by
    rw [rv.len]
    unfold rowsOf
    rw [List.length_map,List.length_range]
    exact ZC (by lia)
   have rl:((rb (ls.take i)).1.map V.int).length=(rb (ls.take i)).1.length:=List.length_map _
   obtain ⟨m,hm⟩:=Zbc hW i
   have r8:(rb (ls.take i)).1.length<=900:=by
    have z1:=ZaD hm
    have z2:=U9 hm
    rw [List.length_take] at z2
    lia
   refine ⟨tl,_,rfl,YT.of htl',rfl,_,_,rfl,_,_,rfl,rfl,?_⟩
   refine ⟨_,rfl,1,rfl,R,_,_,_,rfl,rfl,Zu.of hR',UB _ _,t,_,rfl,.inl (Zu.of ht),fun w hw=>?_⟩
   have hwR:w≠R:=(Zf hR' hw).symm
   refine ⟨_,rfl,rfl,_,rfl,?_⟩
   rcases cases3 with ⟨e,b0,b1⟩ | ⟨e,b0,b1⟩ | ⟨e,b0,b1⟩
   ·have e:qx = "born" := e
    subst e
    refine Z0 (fun _=>?_) (fun hn=>absurd (by simp) hn)
    have b0':0<=qk:=b0
    have b1':qk<=((rb (ls.take i)).1.length:Int):=b1
    refine ⟨_,rfl,.inl ⟨rfl,_,Zu.of Zd⟩,_,rfl,_,rfl,_,_,rfl,rfl,w,_,qk,_,rfl,rfl,Zd,b0',(by rw [rl];exact b1'),(by rw [rl];exact ZC (by lia)),(by rw [rl];lia),?_⟩
    have rl2:(((rb (ls.take i)).1.map V.int).take qk.toNat++V.int ((rb (ls.take i)).2+1)::((rb (ls.take i)).1.map V.int).drop qk.toNat).length=(rb (ls.take i)).1.length+1:=by
     rw [List.length_append,List.length_cons,List.length_take,List.length_drop,rl]
     lia
    refine ⟨_,rfl,.inl ⟨rfl,_,Zu.of Zd⟩,_,rfl,_,rfl,w,_,qk,_,rfl,rfl,Zd,b0',(by rw [rl2];lia),(by rw [rl2];exact ZC (by lia)),(by rw [rl2];lia),?_⟩
    refine ⟨_,rfl,_,_,rfl,rfl,?_⟩
    rw [Jy,Jy,Zlp _ _ _ _ (by rw [rl];lia)]
    have hR2:(upd H' w (.lst (((rb (ls.take i)).1.map V.int).take qk.toNat ++ [.int (rb (ls.take i)).2,.int ((rb (ls.take i)).2+1)]++((rb (ls.take i)).1.map V.int).drop qk.toNat))) R=some (.lst (ys0 ++ [.ref t])):=(Zi.laid hw) R _ hR'
    refine ⟨_,rfl,.inl ⟨rfl,_,Zu.of hR2⟩,_,rfl,R,_,_,rfl,rfl,hR2,hyl,?_⟩
    obtain ⟨z1,z2,z3,z4⟩:=Gr (G:=upd (upd H' w (.lst (((rb (ls.take i)).1.map V.int).take qk.toNat ++ [.int (rb (ls.take i)).2,.int ((rb (ls.take i)).2+1)]++((rb (ls.take i)).1.map V.int).drop qk.toNat))) R (.lst ((ys0 ++ [.ref t]) ++ [.ref w]))) hRH sm rv ap nd hw hwR (fun c o e n=>by
      rw [Zj n]
      exact (Zi.laid hw) c _ e) (by
      rw [Zj hwR,Zd,ztk,YI,W0]
      simp [List.map_append,List.map_take,List.map_drop])
    refine ⟨ys0 ++ [.ref t] ++ [.ref w],some (.str "born"),some (.int qk),some (.ref w),?_,z1,Zd,z2,z3,z4⟩
    rw [ztk,YI,W0]
    rfl
   ·have e:qx = "cross" := e
    subst e
    refine Z0 (fun hn=>absurd (V.str.inj (of_decide_eq_true hn)) nb1) (fun _=>?_)
    refine ⟨_,rfl,rfl,_,rfl,?_⟩
    refine Z0 (fun _=>?_) (fun hn=>absurd (by simp) hn)
    obtain ⟨kk,rfl⟩:=Int.eq_ofNat_of_zero_le b0
    have k1:kk+1<(rb (ls.take i)).1.length:=by have b1:(kk:Int)+1<_:=b1;lia
    have ec:((kk:Int)+1)=((kk+1:Nat):Int):=by lia
    have a1:atI ((rb (ls.take i)).1.map V.int) ((kk:Int)+1)=some (V.int ((rb (ls.take i)).1.getD (kk+1) 0)):=by rw [ec];exact Zo (map_getD _ k1)
    have a0:atI ((rb (ls.take i)).1.map V.int) (kk:Int)=some (V.int ((rb (ls.take i)).1.getD kk 0)):=Zo (map_getD _ (by lia))
    refine ⟨_,rfl,_,rfl,_,_,rfl,rfl,w,_,_,_,rfl,rfl,Zu.of Zd,a1,_,rfl,_,rfl,w,_,_,_,rfl,rfl,Zu.of Zd,a0,(by show 2<=sizeLine;decide),fun tt htt=>?_⟩
    have hwt:w≠tt:=Zf (Zd (H:=H') (a:=w)) htt
    refine ⟨tt,_,rfl,YT.of Zd,rfl,_,_,rfl,_,rfl,_,rfl,w,_,_,kk,rfl,rfl,(by rw [Zj hwt];exact Zd),(by rw [rl];exact Y0 (by lia)),?_⟩
    refine ⟨_,_,rfl,_,rfl,_,rfl,_,_,rfl,rfl,w,_,_,kk+1,rfl,rfl,Zd,(by rw [List.length_set,rl,ec];exact Y0 k1),rfl,?_⟩
    rw [Jy,ZiE]
    have hR2:(upd (upd (upd H' w (.lst ((rb (ls.take i)).1.map V.int))) tt (.tup [.int ((rb (ls.take i)).1.getD (kk+1) 0),.int ((rb (ls.take i)).1.getD kk 0)])) w (.lst ((Uh (rb (ls.take i)).1 kk).map V.int))) R=some (.lst (ys0 ++ [.ref t])):=by
     rw [Zj (Ne.symm hwR)]
     exact (Zi.laid htt) R _ ((Zi.laid hw) R _ hR')
    refine ⟨_,rfl,.inl ⟨rfl,_,Zu.of hR2⟩,_,rfl,R,_,_,rfl,rfl,hR2,hyl,?_⟩
    obtain ⟨z1,z2,z3,z4⟩:=Gr (G:=upd (upd (upd (upd H' w (.lst ((rb (ls.take i)).1.map V.int))) tt (.tup [.int ((rb (ls.take i)).1.getD (kk+1) 0),.int ((rb (ls.take i)).1.getD kk 0)])) w (.lst ((Uh (rb (ls.take i)).1 kk).map V.int))) R (.lst ((ys0 ++ [.ref t]) ++ [.ref w]))) hRH sm rv ap nd hw hwR (fun c o e n=>by
      rw [Zj n,Zj (Zf e hw)]
      exact (Zi.laid htt) c _ ((Zi.laid hw) c _ e)) (by
      rw [Zj hwR,Zd,ztk,YI,J1]
      rfl)
    refine ⟨ys0 ++ [.ref t] ++ [.ref w],some (.str "cross"),some (.int kk),some (.ref w),?_,z1,Zd,z2,z3,z4⟩
    rw [ztk,YI,J1]
    rfl
   ·have e:qx = "end" := e
    subst e
    refine Z0 (fun hn=>absurd (V.str.inj (of_decide_eq_true hn)) nb2) (fun _=>?_)
    refine ⟨_,rfl,rfl,_,rfl,?_⟩
    refine Z0 (fun hn=>absurd (V.str.inj (of_decide_eq_true hn)) nb3) (fun _=>?_)
    have b1':qk+1<((rb (ls.take i)).1.length:Int):=b1
    obtain ⟨kk,rfl⟩:=Int.eq_ofNat_of_zero_le b0
    have k1:kk+1<(rb (ls.take i)).1.length:=by lia
    have l1:(((rb (ls.take i)).1.map V.int).eraseIdx kk).length=(rb (ls.take i)).1.length-1:=by rw [List.length_eraseIdx_of_lt (by rw [rl];lia),rl]
    refine ⟨_,rfl,.inl ⟨rfl,_,Zu.of Zd⟩,_,rfl,w,_,_,kk,_,rfl,rfl,Zd,by lia,by lia,(by rw [rl];exact Zfh (by lia)),map_getD _ (by lia),?_⟩
    obtain ⟨y2,hy2⟩:∃y2,(((rb (ls.take i)).1.map V.int).eraseIdx kk)[kk]? = some y2:=⟨_,List.getElem?_eq_getElem (by rw [l1];lia)⟩
    refine ⟨_,rfl,.inl ⟨rfl,_,Zu.of Zd⟩,_,rfl,w,_,_,kk,_,rfl,rfl,Zd,by lia,by lia,(by rw [l1];exact Zfh (by lia)),hy2,?_⟩
    rw [Jy,Jy,Zmr]
    have hR2:(upd H' w (.lst (((rb (ls.take i)).1.map V.int).take kk++((rb (ls.take i)).1.map V.int).drop (kk+2)))) R=some (.lst (ys0 ++ [.ref t])):=(Zi.laid hw) R _ hR'
    refine ⟨_,rfl,.inl ⟨rfl,_,Zu.of hR2⟩,_,rfl,R,_,_,rfl,rfl,hR2,hyl,?_⟩
    obtain ⟨z1,z2,z3,z4⟩:=Gr (G:=upd (upd H' w (.lst (((rb (ls.take i)).1.map V.int).take kk++((rb (ls.take i)).1.map V.int).drop (kk+2)))) R (.lst ((ys0 ++ [.ref t]) ++ [.ref w]))) hRH sm rv ap nd hw hwR (fun c o e n=>by
      rw [Zj n]
      exact (Zi.laid hw) c _ e) (by
      rw [Zj hwR,Zd,ztk,YI,GX,Int.toNat_natCast,List.map_append,List.map_take,List.map_drop])
    refine ⟨ys0 ++ [.ref t] ++ [.ref w],some (.str "end"),some (.int kk),some (.ref w),?_,z1,Zd,z2,z3,z4⟩
    rw [ztk,YI,GX]
    rfl
  ·rintro σ H' ⟨ys,v3,v4,v5,rfl,sm,hR',rv,ap,nd⟩
   rw [hxl] at rv
   exact ⟨_,rfl,k R H' ys hRH sm hR' rv ap nd⟩
def Ur (pr:Str->Bool):Sp:=fun vs H Q _=>∃(l:Addr) (xs:List V) (ls:List (Str×Int)),vs = [.ref l]/\H l=some (.lst xs)/\ZI H xs ls/\ls.length<=60/\(∀p∈ls,Kd p.1) /\ ∀(p:Addr) (H':Hp),H p=none->Zi H H'->H' p=some (.lst ((Z9 ls pr ls.length).map V.int))->Q (.ref p) H'
def Za4:Sp:=fun vs H Q _=>∃(l:Addr) (kd:Str) (xs:List V) (ls:List (Str×Int)),vs = [.ref l,.str kd]/\H l=some (.lst xs)/\ZI H xs ls/\ls.length<=60 /\ ∀(p:Addr) (H':Hp),H p=none->Zi H H'->H' p=some (.lst ((Z9 ls (fun x=>decide (x=kd)) ls.length).map V.int))->Q (.ref p) H'
abbrev Gj:Stmt:=top 2
theorem ZeL:Zz ["drawing", "kind"] ["drawing", "kind"] (Zh Gj):={}
theorem Zht {f:Addr}{fd:FuncData} (F:Yp K "letters_of" "letters_of" Gj f fd) (ZA:mg "enumerate" = none):Yc P w K mg base J9 1 f fd ["drawing", "kind"] Za4:=by
 refine F.ok ZeL (fun vs H Q E h=>?_) (fun cdv A outer s H vs Q E hr h=>?_)
 ·obtain ⟨l,kd,xs,ls,rfl,_⟩:=h
  rfl
 ·obtain ⟨l,kd,xs,ls,rfl,hl,hL,hlen,k⟩:=h
  refine ⟨_,(Zg (Zv (GF (Ls:=["t", "letter"]) (Fs:=["kind"]) (fi:=[1]) (ZY.of (show Yv ["drawing", "kind"] (Zh Gj) _ ["kind"] [1]=true by decide +kernel)) rfl (JT (K:=K) rfl (by rfl) ZA (Za (pv 0) Zb)) (fun cl C s3 H3 ex=>⟨(Z6 (K:=K) (n:=2) rfl rfl (Zq (Zl (i:=0) (show ((["t", "letter"]:List Str)++(["kind"]:List Str)).Nodup by decide +kernel) rfl (Or.inl rfl)) (Zq (Zl (i:=1) (show ((["t", "letter"]:List Str)++(["kind"]:List Str)).Nodup by decide +kernel) rfl (Or.inl rfl)) ZU))),(Zbd (Zt Yi (Zy (Yh (K:=K) rfl) (pv 1) Ze (fun _ _=>rfl)) (pv 2) (Zs _))),(pv 0)⟩)))),?_⟩
  have hxl:=hL.len
  refine ⟨_,rfl,l,rfl,⟨_,Zu.of hl⟩,ZkO (xs:=xs) (Nat.le_of_lt (ZC (by lia))) (fun i ys H'=>Zi H H'/\ys=(Z9 ls (fun x=>decide (x=kd)) i).map V.int) ⟨Zi.refl _,rfl⟩
   (fun i ys H' p=>by rw [p.2,List.length_map];exact Jf _ _ _) (fun i ys H' p=>Zu.of (p.1 l _ hl)) (fun i x p ys H' hx pv hp=>?_) (fun ys H' pv D hD=>?_)⟩
  ·obtain ⟨sm,rfl⟩:=pv
   obtain ⟨q,t,hq,rfl,ht⟩:=hL.get hx
   have ht':(upd H' p (.tup [.int i,.ref t])) t=some (.tup [.str q.1,.int q.2]):=by rw [Zj (Zf (sm t _ ht) hp)];exact sm t _ ht
   refine ⟨p,_,rfl,YT.of Zd,rfl,_,_,rfl,_,_,rfl,rfl,?_⟩
   refine ⟨_,rfl,t,_,_,_,rfl,rfl,YT.of ht',Zo (j:=0) rfl,_,rfl,rfl,_,rfl,?_⟩
   refine Z0 (fun hc=>?_) (fun hc=>?_)
   ·have e:q.1=kd:=V.str.inj (of_decide_eq_true hc)
    exact ⟨_,rfl,sm.step hp,Zhg hq (by simpa using e)⟩
   ·have e:¬q.1=kd:=fun z=>hc (decide_eq_true (congrArg V.str z))
    exact ⟨sm.step hp,Zik hq (by simpa using e)⟩
  ·obtain ⟨sm,rfl⟩:=pv
   rw [hxl]
   exact k D _ (sm.free hD) (sm.step hD) Zd
abbrev Zcy:Stmt:=top 4
theorem Zhx:Zz ["drawing"] ["drawing"] (Zh Zcy):={}
theorem ZlJ {f:Addr}{fd:FuncData} (F:Yp K "ends_of" "ends_of" Zcy f fd) (JF:Yk P w K mg base 1 "letters_of" ["drawing", "kind"] Za4):Yc P w K mg base J9 2 f fd ["drawing"] (Ur fun x=>decide (x = "end")):=by
 refine F.ok Zhx (fun vs H Q E h=>?_) (fun cdv A outer s H vs Q E hr h=>?_)
 ·obtain ⟨l,xs,ls,rfl,_⟩:=h
  rfl
 ·obtain ⟨l,xs,ls,rfl,hl,hL,hlen,_,k⟩:=h
  refine ⟨_,(Zg (Zv (Zr JF hr (Za (pv 0) (Za ZJ Zb))))),?_⟩
  exact ⟨_,rfl,l,_,xs,ls,rfl,hl,hL,hlen,k⟩
abbrev U6:Stmt:=top 5
theorem Zgs:Zz ["drawing"] ["drawing"] (Zh U6):={}
theorem Zj3 {f:Addr}{fd:FuncData} (F:Yp K "names_of" "names_of" U6 f fd) (ZA:mg "enumerate" = none):Yc P w K mg base J9 1 f fd ["drawing"] (Ur fun x=>!decide (x = "born")):=by
 refine F.ok Zgs (fun vs H Q E h=>?_) (fun cdv A outer s H vs Q E hr h=>?_)
 ·obtain ⟨l,xs,ls,rfl,_⟩:=h
  rfl
 ·obtain ⟨l,xs,ls,rfl,hl,hL,hlen,_,k⟩:=h
  refine ⟨_,(Zg (Zv (GF (Ls:=["t", "letter"]) (Fs:=[]) (fi:=[]) (ZY.of (show Yv ["drawing"] (Zh U6) _ [] []=true by decide +kernel)) rfl (JT (K:=K) rfl (by rfl) ZA (Za (pv 0) Zb)) (fun cl C s3 H3 ex=>⟨(Z6 (K:=K) (n:=2) rfl rfl (Zq (Zl (i:=0) (show ((["t", "letter"]:List Str)++([]:List Str)).Nodup by decide +kernel) rfl (Or.inl rfl)) (Zq (Zl (i:=1) (show ((["t", "letter"]:List Str)++([]:List Str)).Nodup by decide +kernel) rfl (Or.inl rfl)) ZU))),(Zbd (Zt Zc8 (Zy (Yh (K:=K) rfl) (pv 1) Ze (fun _ _=>rfl)) ZJ (Zs _))),(pv 0)⟩)))),?_⟩
  have hxl:=hL.len
  refine ⟨_,rfl,l,rfl,⟨_,Zu.of hl⟩,ZkO (xs:=xs) (Nat.le_of_lt (ZC (by lia))) (fun i ys H'=>Zi H H'/\ys=(Z9 ls (fun x=>!decide (x = "born")) i).map V.int) ⟨Zi.refl _,rfl⟩
   (fun i ys H' p=>by rw [p.2,List.length_map];exact Jf _ _ _) (fun i ys H' p=>Zu.of (p.1 l _ hl)) (fun i x p ys H' hx pv hp=>?_) (fun ys H' pv D hD=>?_)⟩
  ·obtain ⟨sm,rfl⟩:=pv
   obtain ⟨q,t,hq,rfl,ht⟩:=hL.get hx
   have ht':(upd H' p (.tup [.int i,.ref t])) t=some (.tup [.str q.1,.int q.2]):=by rw [Zj (Zf (sm t _ ht) hp)];exact sm t _ ht
   refine ⟨p,_,rfl,YT.of Zd,rfl,_,_,rfl,_,_,rfl,rfl,?_⟩
   refine ⟨_,rfl,t,_,_,_,rfl,rfl,YT.of ht',Zo (j:=0) rfl,rfl,_,rfl,?_⟩
   refine Z0 (fun hc=>?_) (fun hc=>?_)
   ·have e:¬q.1 = "born" := fun z=>by
     have:(!decide (V.str q.1=V.str "born"))=true:=hc
     rw [decide_eq_true (congrArg V.str z)] at this
     cases this
    exact ⟨_,rfl,sm.step hp,Zhg hq (by simpa using e)⟩
   ·have e:q.1 = "born" := by
     by_cases z:q.1 = "born"
     ·exact z
     ·exact absurd (show (!decide (V.str q.1=V.str "born"))=true by rw [decide_eq_false (fun y=>z (V.str.inj y))];rfl) hc
    exact ⟨sm.step hp,Zik hq (by simpa using e)⟩
  ·obtain ⟨sm,rfl⟩:=pv
   rw [hxl]
   exact k D _ (sm.free hD) (sm.step hD) Zd
theorem ZiD {H:Hp}:∀{xs:List V}{ls:List (Str×Int)}{i:Nat}{q:Str×Int},ZI H xs ls->ls[i]? = some q -> ∃t,xs[i]? = some (.ref t)/\H t=some (.tup [.str q.1,.int q.2])
 | _,_,_,_,.nil,e=>by simp at e
 | _,_,0,_,.cons ⟨t,e1,q⟩ _,e=>by simp at e;subst e;exact ⟨t,by simp [e1],q⟩
 | _,_,i+1,q,.cons _ r,e=>by
  obtain ⟨t,h1,h2⟩:=ZiD (i:=i) (q:=q) r (by simpa using e)
  exact ⟨t,by simpa using h1,h2⟩
def Zdz:Sp:=fun vs H Q _=>∃(l n:Addr) (xs:List V) (ls:List (Str×Int)) (ns:List Int),vs = [.ref l,.ref n]/\H l=some (.lst xs)/\ZI H xs ls/\ls.length<=60/\Wk ls 0/\H n=some (.lst (ns.map V.int))/\ns.length<=60/\(∀t∈ns,0<=t /\ ∃q,ls[t.toNat]? = some q/\q.1 ≠ "born") /\
 ∀(p:Addr) (H':Hp) (ys:List V),H p=none->Zi H H'->H' p=some (.lst ys)->JJ H' ys (ns.map fun t=>YV ls t.toNat)->Q (.ref p) H'
abbrev GY:Stmt:=top 20
theorem Jt:Zz ["drawing", "numbers", "rows", "found", "t", "k"] ["drawing", "numbers"] (Zh GY):={}
theorem Zkt {f:Addr}{fd:FuncData} (F:Yp K "pairs_ahead" "pairs_ahead" GY f fd) (Zcq:Yk P w K mg base 1 "threads" ["drawing"] ZaR):Yc P w K mg base J9 2 f fd ["drawing", "numbers"] Zdz:=by
 refine F.ok Jt (fun vs H Q E h=>?_) (fun cdv A outer s H vs Q E hr h=>?_)
 ·obtain ⟨l,n,xs,ls,ns,rfl,_⟩:=h
  rfl
 ·obtain ⟨l,n,xs,ls,ns,rfl,hl,hL,hlen,hW,hn,hnl,hns,k⟩:=h
  refine ⟨_,(Zc (Zp (i:=2) Jt.nd rfl (Or.inl rfl) (Zr Zcq hr (Za (pv 0) Zb)))
   (Zc (Zp (i:=3) Jt.nd rfl (Or.inl rfl) (ZD Zb))
   (Zc (Yq PassesOwn.never rfl (Z8 (K:=K) rfl (pv 1)) (Zl (i:=4) Jt.nd rfl (Or.inl rfl)) (Zc (Zp (i:=5) Jt.nd rfl (Or.inl rfl) (Zy (Yh (K:=K) rfl) (Zy (Zn (K:=K) rfl) (pv 0) (pv 4) (fun _ _=>rfl)) Ze (fun _ _=>rfl)))
   (Zg (ZZ (Yb (K:=K) rfl (Yx PySem.F.plainAttrs_list PySem.F.slot_list_append PySem.F.type_list_append ZO (pv 3) (Za (ZQ (Za (Zy (Zn (K:=K) rfl) (Zy (Zn (K:=K) rfl) (pv 2) (pv 4) (fun _ _=>rfl)) (pv 5) (fun _ _=>rfl)) (Za (Zy (Zn (K:=K) rfl) (Zy (Zn (K:=K) rfl) (pv 2) (pv 4) (fun _ _=>rfl)) (Zm ZE (pv 5) Ze) (fun _ _=>rfl)) Zb))) Zb)))))))
   (Zg (Zv (pv 3)))))),?_⟩
  refine ⟨_,rfl,l,xs,ls,rfl,hl,hL,hlen,hW,fun R H1 ys fR s1 eR rv ap nd=>?_⟩
  refine ⟨(by show 0<=sizeLine;decide),fun fA hfA=>?_⟩
  have hl1:=s1 l _ hl
  have hL1:=hL.same s1
  have hn1:=s1 n _ hn
  refine ⟨_,rfl,n,rfl,⟨_,Zu.of ((Zi.laid hfA) n _ hn1)⟩,JL (K:=K) (a:=n) (xs:=ns.map V.int) (fun i σ H'=>∃(zs:List V) (v4 v5:Option V),σ = [some (.ref l),some (.ref n),some (.ref R),some (.ref fA),v4,v5]/\Zi H1 H'/\H' fA=some (.lst zs)/\JJ H' zs ((ns.take i).map fun t=>YV ls t.toNat))
   ⟨[],none,none,rfl,Zi.laid hfA,Zd,.nil⟩ (fun i σ H' _ ⟨_,_,_,_,sm,_⟩=>Zu.of (sm n _ hn1)) ?_ ?_⟩
  ·rintro i x σ H' hx ⟨zs,v4,v5,rfl,sm,hf,pv⟩
   obtain ⟨t,ht,rfl⟩:=Wv hx
   obtain ⟨t0,⟨qx,qk⟩,hq,hb⟩:=hns t (List.mem_of_getElem? ht)
   obtain ⟨tn,rfl⟩:=Int.eq_ofNat_of_zero_le t0
   rw [Int.toNat_natCast] at hq
   have htl:tn<ls.length:=(List.getElem?_eq_some_iff.mp hq).1
   obtain ⟨k0,k1,pe⟩:=ZgB hW hq hb
   obtain ⟨kn,rfl⟩:=Int.eq_ofNat_of_zero_le (show 0<=qk from k0)
   simp only [Int.toNat_natCast] at k1 pe
   obtain ⟨ta,hxt,hta⟩:=ZiD hL1 hq
   obtain ⟨ra,hra,hrr⟩:=rv.at (Za8 ls (i:=tn) (n:=ls.length+1) (by lia))
   have e1:((kn:Int)+1)=((kn+1:Nat):Int):=by lia
   refine ⟨_,rfl,_,rfl,l,_,_,_,rfl,rfl,Zu.of (sm l _ hl1),Zo hxt,ta,_,_,_,rfl,rfl,YT.of (sm ta _ hta),Zo (j:=1) rfl,?_⟩
   refine ⟨_,rfl,.inl ⟨rfl,_,Zu.of hf⟩,_,rfl,_,rfl,R,_,_,_,rfl,rfl,Zu.of (sm R _ eR),Zo hra,_,rfl,ra,_,_,_,rfl,rfl,Zu.of (sm ra _ hrr),Zo (map_getD _ (by lia)),?_⟩
   refine ⟨_,rfl,_,rfl,R,_,_,_,rfl,rfl,Zu.of (sm R _ eR),Zo hra,_,rfl,_,_,rfl,rfl,ra,_,_,_,rfl,rfl,Zu.of (sm ra _ hrr),(by rw [e1];exact Zo (map_getD _ k1)),(by show 2<=sizeLine;decide),fun tt htt=>?_⟩
   have hft:fA≠tt:=Zf hf htt
   have zl:zs.length<sizeLine:=by
    rw [pv.len,List.length_map,List.length_take]
    exact ZC (by lia)
   refine ⟨fA,_,_,rfl,rfl,(by rw [Zj hft];exact hf),zl,?_⟩
   refine ⟨zs ++ [.ref tt],some (.int tn),some (.int kn),rfl,(sm.step htt).put hfA,Zd,?_⟩
   rw [Jg _ ht]
   refine JJ.snoc (pv.mono fun a p e=>?_) ?_
   ·rw [Zj (Zd1 e hf (by intro z;cases z)),Zj (Zf e htt)]
    exact e
   ·rw [Zj (Ne.symm hft),Zd,Int.toNat_natCast,pe]
  ·rintro σ H' ⟨zs,v4,v5,rfl,sm,hf,pv⟩
   refine ⟨_,rfl,k fA H' zs (s1.free hfA) (s1.trans sm) hf ?_⟩
   rw [List.length_map,List.take_of_length_le (Nat.le_refl _)] at pv
   exact pv
def Zgh:Sp:=fun vs H Q _=>∃(l:Addr) (xs:List V) (ls:List (Str×Int)),vs = [.ref l]/\H l=some (.lst xs)/\ZI H xs ls/\ls.length<=60/\Wk ls 0 /\
 ∀(p:Addr) (H':Hp) (ys:List V),H p=none->Zi H H'->H' p=some (.lst ys)->JJ H' ys (Y9 ls)->Q (.ref p) H'
abbrev ZaL:Stmt:=top 21
theorem Zf0:Zz ["drawing"] ["drawing"] (Zh ZaL):={}
theorem ZfI {f:Addr}{fd:FuncData} (F:Yp K "end_pairs" "end_pairs" ZaL f fd) (Ji:Yk P w K mg base 2 "pairs_ahead" ["drawing", "numbers"] Zdz) (JD:Yk P w K mg base 2 "ends_of" ["drawing"] (Ur fun x=>decide (x = "end"))):Yc P w K mg base J9 3 f fd ["drawing"] Zgh:=by
 refine F.ok Zf0 (fun vs H Q E h=>?_) (fun cdv A outer s H vs Q E hr h=>?_)
 ·obtain ⟨l,xs,ls,rfl,_⟩:=h
  rfl
 ·obtain ⟨l,xs,ls,rfl,hl,hL,hlen,hW,k⟩:=h
  refine ⟨_,(Zg (Zv (Zr Ji hr (Za (pv 0) (Za (Zr JD hr (Za (pv 0) Zb)) Zb))))),?_⟩
  refine ⟨_,rfl,_,rfl,l,xs,ls,rfl,hl,hL,hlen,hW.kd,fun n H1 hn s1 e1=>?_⟩
  refine ⟨l,n,xs,ls,Z9 ls Uz ls.length,rfl,s1 l _ hl,hL.same s1,hlen,hW,e1,Nat.le_trans (Jf _ _ _) hlen,fun t ht=>?_,fun p H2 ys hp s2 e2 pv=>k p H2 ys (s1.free hp) (s1.trans s2) e2 pv⟩
  obtain ⟨a,_,q,hq,z⟩:=ZgW ht
  refine ⟨a,q,hq,fun z2=>?_⟩
  have z:q.1 = "end" := of_decide_eq_true z
  rw [z2] at z
  exact nb2 z.symm
def Zmc:Sp:=fun vs H Q _=>∃x:Int,vs = [.int x]/\0<=x/\Q (.int (bw x)) H
abbrev ZaT:Stmt:=top 22
theorem ZfU:Zz ["thread"] ["thread"] (Zh ZaT):={}
theorem ZoZ {f:Addr}{fd:FuncData} (F:Yp K "born_with" "born_with" ZaT f fd):Yc P w K mg base J9 1 f fd ["thread"] Zmc:=by
 refine F.ok ZfU (fun vs H Q E h=>?_) (fun cdv A outer s H vs Q E hr h=>?_)
 ·obtain ⟨x,rfl,_⟩:=h
  rfl
 ·obtain ⟨x,rfl,h0,k⟩:=h
  refine ⟨_,(Zg (Zv (Zm ZnX (pv 0) Ze))),?_⟩
  refine ⟨_,rfl,_,_,rfl,rfl,?_⟩
  show Q (.int (Builtin.bitXor x 1)) H
  rw [Zm3 h0]
  exact k
def tab {α:Type} (N:Nat) (g:Int -> α):List α:=(List.range N).map fun (x:Nat)=>g (x:Int)
theorem Gg {α:Type} (N:Nat) (g:Int -> α):(tab N g).length=N:=by simp [tab]
theorem ZfJ {α:Type}{N:Nat} (g:Int -> α) {j:Nat} (h:j<N):(tab N g)[j]? = some (g (j:Int)):=by
 unfold tab
 rw [List.getElem?_map]
 simp [h]
theorem Jj {α:Type}{N:Nat}{g g':Int -> α} (h:∀x:Int,0<=x->x<(N:Int)->g x=g' x):tab N g=tab N g':=by
 unfold tab
 refine List.map_congr_left fun x hx=>?_
 have:=List.mem_range.mp hx
 exact h x (by lia) (by lia)
theorem ZbY {α:Type}{N:Nat} (g:Int -> α) (j:Nat) (v:α):(tab N g).set j v=tab N (fun x=>if x=(j:Int) then v else g x):=by
 apply List.ext_getElem?
 intro i
 rw [List.getElem?_set,Gg]
 by_cases hi:i<N
 ·rw [ZfJ _ hi,ZfJ _ hi]
  by_cases e:j=i
  ·subst e;simp [hi]
  ·rw [if_neg e,if_neg (by lia)]
 ·rw [show (tab N g)[i]? = none from List.getElem?_eq_none_iff.mpr (by rw [Gg];lia),show (tab N (fun x=>if x=(j:Int) then v else g x))[i]? = none from List.getElem?_eq_none_iff.mpr (by rw [Gg];lia)]
  by_cases e:j=i
  ·subst e;rw [if_pos rfl,if_neg hi]
  ·rw [if_neg e]
theorem Zb8 {α β:Type} (N:Nat) (g:Int -> α) (f:α -> β):(tab N g).map f=tab N (fun x=>f (g x)):=by
 unfold tab
 rw [List.map_map]
 rfl
theorem Za7 {α:Type} (N:Nat) (v:α):(List.replicate N [v]).flatten=tab N (fun _=>v):=by
 unfold tab
 induction N with
 | zero=>rfl
 | succ n ih=>rw [List.replicate_succ',List.flatten_append,ih,List.range_succ,List.map_append];simp
theorem ZdL:∀{ps:List (Int×Int)}{u l x:Int},u∉ZM ps->l∉ZM ps->u≠l->Js (ps ++ [(u,l)]) x=if x=l then u else if x=u then l else Js ps x
 | [],u,l,x,_,_,ne=>by
  simp only [List.nil_append,Js]
  by_cases h1:x=u
  ·subst h1;simp [ne]
  ·simp [h1]
 | p::r,u,l,x,hu,hl,ne=>by
  have e:ZM (p::r)=p.1::p.2::ZM r:=by simp [ZM]
  rw [e] at hu hl
  simp only [List.mem_cons,not_or] at hu hl
  have ih:=ZdL (x:=x) hu.2.2 hl.2.2 ne
  simp only [List.cons_append,Js,ih]
  by_cases h1:x=p.1
  ·subst h1;simp [Ne.symm hu.1,Ne.symm hl.1]
  ·by_cases h2:x=p.2
   ·subst h2;simp [h1,Ne.symm hu.2.1,Ne.symm hl.2.1]
   ·simp [h1,h2]
theorem Zhz {ps:List (Int×Int)}{i:Nat}{p:Int×Int} (h:ps[i]? = some p):ZM (ps.take (i+1))=ZM (ps.take i) ++ [p.1,p.2]:=by
 rw [List.take_add_one,h,Ja]
 simp [ZM]
theorem Zko {ps:List (Int×Int)} (nd:(ZM ps).Nodup) {i:Nat}{p:Int×Int} (h:ps[i]? = some p):p.1∉ZM (ps.take i)/\p.2∉ZM (ps.take i)/\p.1≠p.2:=by
 have e:ps=ps.take (i+1)++ps.drop (i+1):=(List.take_append_drop _ _).symm
 rw [e,Ja,Zhz h] at nd
 have nd:=(List.nodup_append.mp nd).1
 obtain ⟨_,n2,n3⟩:=List.nodup_append.mp nd
 refine ⟨fun z=>n3 _ z _ (by simp) rfl,fun z=>n3 _ z _ (by simp) rfl,?_⟩
 have:=List.nodup_cons.mp n2
 simpa using this.1
theorem Zia {ls:List (Str×Int)} (hW:Wk ls 0) {p:Int×Int} (h:p∈Y9 ls):(0<=p.1/\p.1<(Jk ls:Int))/\(0<=p.2/\p.2<(Jk ls:Int)):=
 ⟨YO.mp ((WM hW).mem_iff.mp (List.mem_flatMap.mpr ⟨p,h,by simp⟩)),YO.mp ((WM hW).mem_iff.mp (List.mem_flatMap.mpr ⟨p,h,by simp⟩))⟩
theorem ZeT {ls:List (Str×Int)} (hW:Wk ls 0):(ZM (Y9 ls)).Nodup:=(WM hW).nodup_iff.mpr (Gx _)
def ZfW:Sp:=fun vs H Q _=>∃(l:Addr) (xs:List V) (ls:List (Str×Int)),vs = [.ref l]/\H l=some (.lst xs)/\ZI H xs ls/\ls.length<=60/\Wk ls 0 /\
 ∀(p:Addr) (H':Hp),H p=none->Zi H H'->H' p=some (.lst ((tab (Jk ls) (Js (Y9 ls))).map V.int))->Q (.ref p) H'
abbrev Zar:Stmt:=top 23
theorem Wh:Zz ["drawing", "pairs", "mates", "upper", "lower"] ["drawing"] (Zh Zar):={}
theorem Zke {f:Addr}{fd:FuncData} (F:Yp K "end_mates" "end_mates" Zar f fd) (J2:Yk P w K mg base 3 "end_pairs" ["drawing"] Zgh) (Yw:mg "len" = none):Yc P w K mg base J9 4 f fd ["drawing"] ZfW:=by
 refine F.ok Wh (fun vs H Q E h=>?_) (fun cdv A outer s H vs Q E hr h=>?_)
 ·obtain ⟨l,xs,ls,rfl,_⟩:=h
  rfl
 ·obtain ⟨l,xs,ls,rfl,hl,hL,hlen,hW,k⟩:=h
  refine ⟨_,(Zc (Zp (i:=1) Wh.nd rfl (Or.inl rfl) (Zr J2 hr (Za (pv 0) Zb)))
   (Zc (Zp (i:=2) Wh.nd rfl (Or.inl rfl) (Zm ZbA (ZD (Za Ze Zb)) (Zm Wn Ze (Zx (YE (K:=K) rfl) (by rfl) Yw PySem.boot_len (Za (pv 1) Zb)))))
   (Zc (Yq PassesOwn.never rfl (Z8 (K:=K) rfl (pv 1)) (Z6 (K:=K) (n:=2) rfl rfl (Zq (Zl (i:=3) Wh.nd rfl (Or.inl rfl)) (Zq (Zl (i:=4) Wh.nd rfl (Or.inl rfl)) ZU))) (Zc (Yr (pv 4) (YH (pv 2) (pv 3) set_list))
   (Zg (Yr (pv 3) (YH (pv 2) (pv 4) set_list)))))
   (Zg (Zv (pv 2)))))),?_⟩
  refine ⟨_,rfl,l,xs,ls,rfl,hl,hL,hlen,hW,fun pA H1 ys fp s1 ep pv=>?_⟩
  have n120:=WD hlen
  have yl:2*ys.length=Jk ls:=by rw [pv.len];rfl
  refine ⟨(by show 1<=sizeLine;decide),fun l0 hl0=>?_⟩
  have ep0:=(Zi.laid (o:=.lst [.int 0]) hl0) pA _ ep
  refine ⟨_,rfl,pA,_,rfl,.inl (Zu.of ep0),_,_,rfl,rfl,.inl ⟨by decide,by decide⟩,?_⟩
  have e2:((2:Int)*(ys.length:Int))=((Jk ls:Nat):Int):=by lia
  refine ⟨l0,_,_,rfl,rfl,Zd,by lia,by lia,?_,fun mA hmA=>?_⟩
  ·rw [e2]
   show 1*_<=sizeLine
   exact Nat.le_of_lt (ZC (by lia))
  have hm1:H1 mA=none:=(Zi.laid hl0).free hmA
  have sm1:Zi H1 (upd (upd H1 l0 (.lst [.int 0])) mA (.lst (List.replicate ((2:Int)*(ys.length:Int)).toNat [V.int 0]).flatten)):=(Zi.laid hl0).step hmA
  refine ⟨_,rfl,pA,rfl,⟨_,Zu.of (sm1 pA _ ep)⟩,JL (K:=K) (a:=pA) (xs:=ys) (fun i σ H'=>∃(v3 v4:Option V),σ = [some (.ref l),some (.ref pA),some (.ref mA),v3,v4]/\Zi H1 H'/\H' mA=some (.lst ((tab (Jk ls) (Js ((Y9 ls).take i))).map V.int)))
   ⟨none,none,rfl,sm1,?_⟩ (fun i σ H' _ ⟨_,_,_,sm,_⟩=>Zu.of (sm pA _ ep)) ?_ ?_⟩
  ·rw [Zd,e2,Int.toNat_natCast,Za7,Zb8]
   rfl
  ·rintro i x σ H' hx ⟨v3,v4,rfl,sm,hm⟩
   obtain ⟨p,t,hp,rfl,ht⟩:=pv.get hx
   obtain ⟨u,lw⟩:=p
   obtain ⟨⟨d1,d2⟩,d3,d4⟩:=Zia hW (List.mem_of_getElem? hp)
   obtain ⟨n1,n2,n3⟩:=Zko (ZeT hW) hp
   obtain ⟨un,rfl⟩:=Int.eq_ofNat_of_zero_le (show 0<=u from d1)
   obtain ⟨wn,rfl⟩:=Int.eq_ofNat_of_zero_le (show 0<=lw from d3)
   have d2:(un:Int)<_:=d2
   have d4:(wn:Int)<_:=d4
   refine ⟨t,_,rfl,YT.of (sm t _ ht),rfl,_,_,rfl,_,_,rfl,rfl,?_⟩
   refine ⟨_,rfl,_,rfl,_,rfl,mA,_,_,un,rfl,rfl,hm,(by rw [List.length_map,Gg];exact Y0 (by lia)),?_⟩
   refine ⟨_,rfl,_,rfl,_,rfl,mA,_,_,wn,rfl,rfl,Zd,(by rw [List.length_set,List.length_map,Gg];exact Y0 (by lia)),?_⟩
   refine ⟨some (.int un),some (.int wn),rfl,(sm.put hm1).put hm1,?_⟩
   rw [Zd,<- List.map_set,<- List.map_set,ZbY,ZbY,List.take_add_one,hp]
   congr 2
   refine congrArg (List.map V.int) (Jj fun x _ _=>?_)
   rw [show (some ((un:Int),(wn:Int))).toList = [((un:Int),(wn:Int))] from rfl,ZdL n1 n2 n3]
  ·rintro σ H' ⟨v3,v4,rfl,sm,hm⟩
   refine ⟨_,rfl,k mA H' (s1.free hm1) (s1.trans sm) ?_⟩
   rw [pv.len,List.take_of_length_le (Nat.le_refl _)] at hm
   exact hm
theorem Za6 {N:Nat} (m:Int->Int) {x:Int} (h0:0<=x) (h1:x<(N:Int)):atI ((tab N m).map V.int) x=some (V.int (m x)):=by
 obtain ⟨n,rfl⟩:=Int.eq_ofNat_of_zero_le h0
 refine Zo ?_
 rw [List.getElem?_map,ZfJ _ (by lia)]
 rfl
def ZhV:Sp:=fun vs H Q _=>∃(f:Int) (mA:Addr) (m:Int->Int) (N:Nat),vs = [.int f,.ref mA]/\H mA=some (.lst ((tab N m).map V.int))/\J8 m N/\N<=200/\0<=f/\f<(N:Int) /\
 ∀(p:Addr) (H':Hp) (T:List Int),H p=none->Zi H H'->H' p=some (.lst (T.map V.int))->Jl m f T->Q (.ref p) H'
abbrev ZaK:Stmt:=top 24
theorem U3:Zz ["first", "mates", "tour", "onward"] ["first", "mates"] (Zh ZaK):={}
theorem Zls {f:Addr}{fd:FuncData} (F:Yp K "tour_from" "tour_from" ZaK f fd) (Ju:Yk P w K mg base 1 "born_with" ["thread"] Zmc):Yc P w K mg base J9 2 f fd ["first", "mates"] ZhV:=by
 refine F.ok U3 (fun vs H Q E h=>?_) (fun cdv A outer s H vs Q E hr h=>?_)
 ·obtain ⟨f,mA,m,N,rfl,_⟩:=h
  rfl
 ·obtain ⟨f,mA,m,N,rfl,hm,M,hN,h0,h1,k⟩:=h
  refine ⟨_,(Zc (Zp (i:=2) U3.nd rfl (Or.inl rfl) (ZD (Za (pv 0) (Za (Zy (Zn (K:=K) rfl) (pv 1) (pv 0) (fun _ _=>rfl)) Zb))))
   (Zc (ZbL PassesOwn.never (Zt Zc8 (Zr Ju hr (Za (Zy (Zn (K:=K) rfl) (pv 2) (Zbn Ud Ze) (fun _ _=>rfl)) Zb)) (pv 0) (Zs _)) (Zc (Zp (i:=3) U3.nd rfl (Or.inl rfl) (Zr Ju hr (Za (Zy (Zn (K:=K) rfl) (pv 2) (Zbn Ud Ze) (fun _ _=>rfl)) Zb)))
   (Zc (ZZ (Yb (K:=K) rfl (Yx PySem.F.plainAttrs_list PySem.F.slot_list_append PySem.F.type_list_append ZO (pv 2) (Za (pv 3) Zb))))
   (Zg (ZZ (Yb (K:=K) rfl (Yx PySem.F.plainAttrs_list PySem.F.slot_list_append PySem.F.type_list_append ZO (pv 2) (Za (Zy (Zn (K:=K) rfl) (pv 1) (pv 3) (fun _ _=>rfl)) Zb))))))))
   (Zg (Zv (pv 2))))),?_⟩
  have dom:=YJ M h0 h1
  have mdom:∀i,0<=m (gt m f i)/\m (gt m f i)<N:=fun i=>⟨M.lo _ (dom i).1 (dom i).2,M.hi _ (dom i).1 (dom i).2⟩
  have ol:∀i,(W6 m f (i+1)).map V.int=((W6 m f i).map V.int ++ [V.int (gt m f i)]) ++ [V.int (m (gt m f i))]:=fun i=>by simp [W6]
  refine ⟨_,rfl,_,rfl,_,rfl,mA,_,_,_,rfl,rfl,Zu.of hm,Za6 m h0 h1,(by show 2<=sizeLine;decide),fun tA htA=>?_⟩
  refine ⟨fun mm σ H'=>∃(i:Nat) (v3:Option V),mm+i=N /\ σ = [some (.int f),some (.ref mA),some (.ref tA),v3]/\Zi H H'/\H' tA=some (.lst ((W6 m f (i+1)).map V.int))/\(∀j,1<=j->j<i+1->gt m f j≠f),
   ⟨N,0,none,rfl,rfl,Zi.laid htA,Zd,fun j a b=>by lia⟩,?_⟩
  rintro mm σ H' ⟨i,v3,hi,rfl,sm,ht,nf⟩
  have short:=Um M h0 h1 nf
  refine ⟨_,rfl,1,rfl,tA,_,_,V.int (m (gt m f i)),rfl,rfl,Zu.of ht,(by rw [ol];exact UB _ _),_,rfl,(mdom i).1,_,rfl,rfl,_,rfl,?_⟩
  refine Z0 (fun hc=>?_) (fun hc=>?_)
  ·have ne:gt m f (i+1)≠f:=fun z=>by
    have hc:(!decide (V.int (bw (m (gt m f i)))=V.int f))=true:=hc
    rw [decide_eq_true (show V.int (bw (m (gt m f i)))=V.int f from congrArg V.int z)] at hc
    cases hc
   have nf':∀j,1<=j->j<i+2->gt m f j≠f:=fun j a b=>by
    by_cases e:j=i+1
    ·rw [e];exact ne
    ·exact nf j a (by lia)
   have short2:=Um M h0 h1 nf'
   refine ⟨fun σ' H''=>∃v3:Option V,σ' = [some (.int f),some (.ref mA),some (.ref tA),v3]/\Zi H H''/\H'' tA=some (.lst ((W6 m f (i+2)).map V.int)),fun σ' H'' ⟨v,e,a,b⟩=>⟨mm-1,by lia,i+1,v,by lia,e,a,b,nf'⟩,?_⟩
   refine ⟨_,rfl,1,rfl,tA,_,_,V.int (m (gt m f i)),rfl,rfl,Zu.of ht,(by rw [ol];exact UB _ _),_,rfl,(mdom i).1,?_⟩
   refine ⟨_,rfl,.inl ⟨rfl,_,Zu.of ht⟩,_,rfl,tA,_,_,rfl,rfl,ht,(by rw [List.length_map,WH];exact ZC (by lia)),?_⟩
   have hma:tA≠mA:=fun z=>by rw [z,hm] at htA;cases htA
   refine ⟨_,rfl,.inl ⟨rfl,_,Zu.of Zd⟩,_,rfl,_,rfl,mA,_,_,_,rfl,rfl,Zu.of (by rw [Zj (Ne.symm hma)];exact sm mA _ hm),Za6 m (dom (i+1)).1 (dom (i+1)).2,tA,_,_,rfl,rfl,Zd,(by rw [List.length_append,List.length_map,WH];exact ZC (by show _+1<=1000;lia)),?_⟩
   refine ⟨_,rfl,(sm.put htA).put htA,?_⟩
   rw [Zd,ol (i+1)]
   rfl
  ·have e:gt m f (i+1)=f:=by
    by_cases z:gt m f (i+1)=f
    ·exact z
    ·exact absurd (show (!decide (V.int (gt m f (i+1))=V.int f))=true by rw [decide_eq_false (fun y=>z (V.int.inj y))];rfl) hc
   exact ⟨_,rfl,k tA H' (W6 m f (i+1)) htA sm ht ⟨i+1,by lia,e,nf,rfl⟩⟩
def Zdx:Sp:=fun vs H Q _=>∃(l:Addr) (xs:List V) (ls:List (Str×Int)),vs = [.ref l]/\H l=some (.lst xs)/\ZI H xs ls/\ls.length<=60/\Wk ls 0 /\
 ∀(p:Addr) (H':Hp) (ys:List V) (ts:List (List Int)),H p=none->Zi H H'->H' p=some (.lst ys)->YQ H' ys ts->(∀t,V.ref t∈ys->H t=none)->Uj (Js (Y9 ls)) (Jk ls) ts->Q (.ref p) H'
theorem Zgt {N:Nat} (g:Int->V) {x:Int} (h0:0<=x) (h1:x<(N:Int)):atI (tab N g) x=some (g x):=by
 obtain ⟨n,rfl⟩:=Int.eq_ofNat_of_zero_le h0
 exact Zo (ZfJ _ (by lia))
abbrev Zga:Stmt:=top 25
theorem GH:Zz ["drawing", "mates", "gone", "found", "first", "tour", "thread"] ["drawing"] (Zh Zga):={}
theorem ZjS {f:Addr}{fd:FuncData} (F:Yp K "tours" "tours" Zga f fd) (ZaO:Yk P w K mg base 4 "end_mates" ["drawing"] ZfW) (ZaY:Yk P w K mg base 2 "tour_from" ["first", "mates"] ZhV) (Yw:mg "len" = none) (ZT:mg "range" = none):Yc P w K mg base J9 5 f fd ["drawing"] Zdx:=by
 refine F.ok GH (fun vs H Q E h=>?_) (fun cdv A outer s H vs Q E hr h=>?_)
 ·obtain ⟨l,xs,ls,rfl,_⟩:=h
  rfl
 ·obtain ⟨l,xs,ls,rfl,hl,hL,hlen,hW,k⟩:=h
  have n120:=WD hlen
  have M:=Wy hW
  generalize hm':Js (Y9 ls)=m at *
  generalize hn':Jk ls=N at *
  refine ⟨_,(Zc (Zp (i:=1) GH.nd rfl (Or.inl rfl) (Zr ZaO hr (Za (pv 0) Zb)))
   (Zc (Zp (i:=2) GH.nd rfl (Or.inl rfl) (Zm ZbA (ZD (Za Gv Zb)) (Zx (YE (K:=K) rfl) (by rfl) Yw PySem.boot_len (Za (pv 1) Zb))))
   (Zc (Zp (i:=3) GH.nd rfl (Or.inl rfl) (ZD Zb))
   (Zc (Yq PassesOwn.never rfl (YK (by rfl) ZT (Za (Zx (YE (K:=K) rfl) (by rfl) Yw PySem.boot_len (Za (pv 1) Zb)) Zb)) (Zl (i:=4) GH.nd rfl (Or.inl rfl)) (Zg (ZR (WB (JX (Zy (Zn (K:=K) rfl) (pv 2) (pv 4) (fun _ _=>rfl)))) (Zc (Zp (i:=5) GH.nd rfl (Or.inl rfl) (Zr ZaY hr (Za (pv 4) (Za (pv 1) Zb))))
   (Zc (Yq PassesOwn.never rfl (Z8 (K:=K) rfl (pv 5)) (Zl (i:=6) GH.nd rfl (Or.inl rfl)) (Zg (Yr Gv (YH (pv 2) (pv 6) set_list))))
   (Zg (ZZ (Yb (K:=K) rfl (Yx PySem.F.plainAttrs_list PySem.F.slot_list_append PySem.F.type_list_append ZO (pv 3) (Za (pv 5) Zb))))))) ZG)))
   (Zg (Zv (pv 3))))))),?_⟩
  refine ⟨_,rfl,l,xs,ls,rfl,hl,hL,hlen,hW,fun mA H1 fm s1 em=>?_⟩
  rw [hm',hn'] at em
  refine ⟨(by show 1<=sizeLine;decide),fun l0 hl0=>?_⟩
  refine ⟨_,rfl,mA,_,rfl,.inl (Zu.of ((Zi.laid hl0) mA _ em)),?_⟩
  have el:((((tab N m).map V.int).length:Nat):Int)=((N:Nat):Int):=by rw [List.length_map,Gg]
  rw [el]
  refine ⟨l0,_,_,rfl,rfl,Zd,by lia,by lia,(by show 1*_<=sizeLine;exact Nat.le_of_lt (ZC (by lia))),fun gA hgA=>?_⟩
  obtain ⟨H2,hH2⟩:∃H2,H2=upd (upd H1 l0 (.lst [.bl false])) gA (.lst (List.replicate ((N:Nat):Int).toNat [V.bl false]).flatten):=⟨_,rfl⟩
  rw [<- hH2]
  have s12:Zi H1 H2:=by rw [hH2];exact (Zi.laid hl0).step hgA
  have hg1:H1 gA=none:=(Zi.laid hl0).free hgA
  have hg2:H2 gA=some (.lst (tab N fun _=>V.bl false)):=by rw [hH2,Zd,Int.toNat_natCast,Za7]
  refine ⟨(by show 0<=sizeLine;decide),fun fA hfA=>?_⟩
  have hf1:H1 fA=none:=s12.free hfA
  have hgf:gA≠fA:=Zf hg2 hfA
  refine ⟨_,rfl,mA,_,rfl,.inl (Zu.of ((s12.step hfA) mA _ em)),_,rfl,?_⟩
  rw [el]
  refine ⟨by lia,by lia,J6 (n:=((N:Nat):Int).toNat) (fun i σ H'=>∃(ys:List V) (ts:List (List Int)) (v4 v5 v6:Option V),σ = [some (.ref l),some (.ref mA),some (.ref gA),some (.ref fA),v4,v5,v6]/\Zi H1 H'/\H' gA=some (.lst (tab N fun x=>V.bl (decide (x∈ts.flatten))))/\H' fA=some (.lst ys)/\YQ H' ys ts/\Uj m i ts/\(∀t,V.ref t∈ys->t≠gA/\t≠fA/\H1 t=none))
   ⟨[],[],none,none,none,rfl,s12.step hfA,?_,Zd,.nil,.nil,fun t ht=>by cases ht⟩ ?_ ?_⟩
  ·rw [Zj hgf,hg2]
   exact congrArg (fun z=>some (HO.lst z)) (Jj fun x _ _=>by simp)
  ·rintro i σ H' hi ⟨ys,ts,v4,v5,v6,rfl,sm,hg,hf,rv,tr,ap⟩
   rw [Int.toNat_natCast] at hi
   have e0:(0:Int)+(i:Int)=(i:Int):=Int.zero_add _
   have good:=tr.good M (by lia)
   refine ⟨_,rfl,_,rfl,gA,_,_,_,rfl,rfl,Zu.of hg,Zgt _ (by lia) (by lia),_,rfl,?_⟩
   rw [e0]
   by_cases hin:(i:Int)∈ts.flatten
   ·rw [decide_eq_true hin]
    refine Y5 ?_
    exact ⟨ys,ts,_,v5,v6,rfl,sm,hg,hf,rv,tr.skip hin,ap⟩
   ·rw [decide_eq_false hin]
    refine JN ?_
    refine ⟨_,rfl,_,rfl,_,mA,m,N,rfl,sm mA _ em,M,by lia,by lia,by lia,fun tA H3 T htA s3 eT isT=>?_⟩
    have tdom:=isT.dom M (by lia) (by lia)
    have tlen:=isT.len M (by lia) (by lia)
    have htg:tA≠gA:=(Zf hg htA).symm
    have htf:tA≠fA:=(Zf hf htA).symm
    refine ⟨_,rfl,tA,rfl,⟨_,Zu.of eT⟩,JL (K:=K) (a:=tA) (xs:=T.map V.int) (fun j σ H''=>∃v6:Option V,σ = [some (.ref l),some (.ref mA),some (.ref gA),some (.ref fA),some (.int (i:Int)),some (.ref tA),v6]/\Jn gA H3 H''/\H'' gA=some (.lst (tab N fun x=>V.bl (decide (x∈ts.flatten∨x∈T.take j)))))
     ⟨_,rfl,Jn.refl _ _,?_⟩ (fun j σ H'' _ ⟨_,_,fr,_⟩=>Zu.of (fr tA _ eT htg)) ?_ ?_⟩
    ·rw [s3 gA _ hg]
     exact congrArg (fun z=>some (HO.lst z)) (Jj fun x _ _=>by simp)
    ·rintro j x σ H'' hx ⟨v6,rfl,fr,hg''⟩
     obtain ⟨t,ht,rfl⟩:=Wv hx
     obtain ⟨d0,d1⟩:=tdom t (List.mem_of_getElem? ht)
     obtain ⟨tn,rfl⟩:=Int.eq_ofNat_of_zero_le d0
     refine ⟨_,rfl,_,rfl,gA,_,_,tn,rfl,rfl,hg'',(by rw [Gg];exact Y0 (by lia)),?_⟩
     refine ⟨_,rfl,fr.trans Jn.upd,?_⟩
     rw [Zd,ZbY]
     refine congrArg (fun z=>some (HO.lst z)) (Jj fun x _ _=>?_)
     rw [List.take_add_one,ht]
     by_cases e:x=(tn:Int)
     ·rw [if_pos e]
      congr 1
      exact (decide_eq_true (.inr (by rw [e];simp))).symm
     ·rw [if_neg e]
      congr 1
      exact decide_eq_decide.mpr (by simp [e])
    ·rintro σ H'' ⟨v6,rfl,fr,hg''⟩
     have hf'':=fr fA _ (s3 fA _ hf) (Ne.symm hgf)
     refine ⟨_,rfl,.inl ⟨rfl,_,Zu.of hf''⟩,_,rfl,fA,_,_,rfl,rfl,hf'',(by rw [rv.len];have:=tr.len M (by lia);exact ZC (by lia)),?_⟩
     have keep:∀c o,H' c=some o->c≠gA->c≠fA->(upd H'' fA (.lst (ys ++ [.ref tA]))) c=some o:=fun c o e n1 n2=>by
      rw [Zj n2]
      exact fr c o (s3 c o e) n1
     refine ⟨ys ++ [.ref tA],ts ++ [T],_,_,_,rfl,fun c o e=>keep c o (sm c o e) (Zf e hg1) (Zf e hf1),?_,Zd,?_,tr.add hin isT,fun t ht=>?_⟩
     ·rw [Zj hgf,hg'',List.length_map,List.take_of_length_le (Nat.le_refl _)]
      refine congrArg (fun z=>some (HO.lst z)) (Jj fun x _ _=>?_)
      congr 1
      exact decide_eq_decide.mpr (by rw [List.flatten_append];simp)
     ·refine YQ.snoc (rv.mono fun t o ht e=>keep t o e (ap t ht).1 (ap t ht).2.1) ?_
      rw [Zj htf]
      exact fr tA _ eT htg
     ·rcases List.mem_append.mp ht with z | z
      ·exact ap t z
      ·have:t=tA:=V.ref.inj (List.mem_singleton.mp z)
       subst this
       exact ⟨htg,htf,sm.free htA⟩
  ·rintro σ H' ⟨ys,ts,v4,v5,v6,rfl,sm,hg,hf,rv,tr,ap⟩
   rw [Int.toNat_natCast] at tr
   exact ⟨_,rfl,k fA H' ys ts (s1.free hf1) (s1.trans sm) hf rv (fun t ht=>s1.free (ap t ht).2.2) tr⟩
def Ya (ps:List (Int×Int)) (x:Int):Int:=if x∈ps.map (·.1) then 1 else -1
inductive DV (H:Hp):List (Key×V)->List (Int×Int)->Prop
 | nil:DV H [] []
 | snoc {kvs:List (Key×V)}{ps:List (Int×Int)}{u l:Int}{a b:Addr}:DV H kvs ps->H a=some (.tup [.int l,.int 1])->H b=some (.tup [.int u,.int (-1)])->DV H (kvs ++ [(Sum.inl u,.ref a),(Sum.inl l,.ref b)]) (ps ++ [(u,l)])
theorem DV.mono {H H':Hp} (h:∀t p,H t=some (.tup p)->H' t=some (.tup p)) {kvs:List (Key×V)}{ps:List (Int×Int)} (d:DV H kvs ps):DV H' kvs ps:=by
 induction d with
 | nil=>exact .nil
 | snoc _ ea eb ih=>exact .snoc ih (h _ _ ea) (h _ _ eb)
theorem DV.keys {H:Hp}{kvs:List (Key×V)}{ps:List (Int×Int)} (d:DV H kvs ps):kvs.map (·.1)=(ZM ps).map Sum.inl:=by
 induction d with
 | nil=>rfl
 | snoc _ _ _ ih=>rw [List.map_append,ih,Ja,List.map_append];rfl
theorem DV.len {H:Hp}{kvs:List (Key×V)}{ps:List (Int×Int)} (d:DV H kvs ps):kvs.length=2*ps.length:=by
 have:=congrArg List.length d.keys
 simpa [Uy] using this
theorem Zd6 {kvs:List (Key×V)}{k:Key}{v:V} (h:k∉kvs.map (·.1)):putK kvs k v=kvs ++ [(k,v)]:=by
 unfold putK
 rw [if_neg]
 intro z
 rw [List.any_eq_true] at z
 obtain ⟨p,hp,e⟩:=z
 exact h (List.mem_map.mpr ⟨p,hp,of_decide_eq_true e⟩)
theorem Zhd {kvs:List (Key×V)}{k:Key} (h:k∉kvs.map (·.1)):(kvs.find? fun kv=>decide (kv.1=k))=none:=by
 rw [List.find?_eq_none]
 intro p hp z
 exact h (List.mem_map.mpr ⟨p,hp,of_decide_eq_true z⟩)
theorem Zdr {ps:List (Int×Int)}{H:Hp}{kvs:List (Key×V)} (d:DV H kvs ps) {x:Int} (h:x∉ZM ps):(Sum.inl x:Key)∉kvs.map (·.1):=by
 rw [d.keys]
 intro z
 obtain ⟨y,hy,e⟩:=List.mem_map.mp z
 cases e
 exact h hy
theorem DV.look {H:Hp}{kvs:List (Key×V)}{ps:List (Int×Int)} (d:DV H kvs ps):(ZM ps).Nodup -> ∀x∈ZM ps,∃a,JI kvs (Sum.inl x)=some (.ref a)/\H a=some (.tup [.int (Js ps x),.int (Ya ps x)]):=by
 induction d with
 | nil=>intro _ x hx;cases hx
 | @snoc kvs ps u l a b d ea eb ih=>
  intro nd x hx
  rw [Ja] at nd hx
  have ef:ZM [(u,l)] = [u,l]:=by simp [ZM]
  rw [ef] at nd hx
  obtain ⟨n1,n2,n3⟩:=List.nodup_append.mp nd
  have hu:u∉ZM ps:=fun z=>n3 u z u (by simp) rfl
  have hl:l∉ZM ps:=fun z=>n3 l z l (by simp) rfl
  have ne:u≠l:=by
   have:=(List.nodup_cons.mp n2).1
   simpa using this
  rw [ZdL hu hl ne]
  have dn:Ya (ps ++ [(u,l)]) x=if x=u then 1 else Ya ps x:=by
   unfold Ya
   rw [List.map_append]
   by_cases e:x=u
   ·simp [e]
   ·rw [if_neg e]
    by_cases q:x∈ps.map (·.1)
    ·rw [if_pos q,if_pos (List.mem_append_left _ q)]
    ·rw [if_neg q,if_neg (fun z=>(List.mem_append.mp z).elim q (fun z=>e (by simpa using z)))]
  rw [dn]
  rcases List.mem_append.mp hx with z | z
  ·obtain ⟨c,hv,hc⟩:=ih n1 x z
   have e1:x≠u:=fun e=>hu (e ▸ z)
   have e2:x≠l:=fun e=>hl (e ▸ z)
   refine ⟨c,?_,?_⟩
   ·unfold JI at hv ⊢
    rw [List.find?_append]
    cases q:(kvs.find? fun kv=>decide (kv.1=Sum.inl x)) with
    | none=>rw [q] at hv;cases hv
    | some y=>rw [q] at hv;exact hv
   ·rw [if_neg e2,if_neg e1,if_neg e1];exact hc
  ·have z:x=u∨x=l:=by simpa using z
   rcases z with e | e
   ·subst e
    refine ⟨a,?_,?_⟩
    ·unfold JI
     rw [List.find?_append,Zhd (Zdr d hu)]
     simp
    ·rw [if_neg ne,if_pos rfl,if_pos rfl];exact ea
   ·subst e
    refine ⟨b,?_,?_⟩
    ·unfold JI
     rw [List.find?_append,Zhd (Zdr d hl)]
     have:¬((Sum.inl u:Key)=Sum.inl x):=fun z=>ne (by cases z;rfl)
     simp [this]
    ·have:Ya ps x = -1:=by
      unfold Ya
      rw [if_neg]
      intro z
      obtain ⟨p,hp,e⟩:=List.mem_map.mp z
      exact hl (List.mem_flatMap.mpr ⟨p,hp,by simp [e]⟩)
     rw [if_pos rfl,if_neg (Ne.symm ne),this];exact eb
theorem few {ls:List (Str×Int)} (hW:Wk ls 0):∀i,i<=ls.length->(rb (ls.take i)).2+2*((Jr ls i).length:Int)<=2*(i:Int)
 | 0,_=>by simp [Jr,Z9,rb]
 | i+1,hi=>by
  have ih:=few hW i (by lia)
  have hq:ls[i]? = some ls[i]:=by simp [show i<ls.length by lia]
  obtain ⟨tk,c⟩:=ZeP hW hq
  rw [Gp,tk,YI]
  have kk:∀pr:Str->Bool,UJ ls pr i=pr ls[i].1:=fun pr=>by
   unfold UJ
   rw [hq]
   cases h:pr ls[i].1<;>simp [h]
  rw [kk]
  generalize ls[i]=p at c
  obtain ⟨px,pk⟩:=p
  rcases c with ⟨e,_⟩ | ⟨e,_⟩ | ⟨e,_⟩
  ·have e:px = "born" := e
   subst e
   have hf:Uz "born" = false:=by unfold Uz;decide +kernel
   rw [W0,hf]
   simp only [Bool.false_eq_true,if_false,List.append_nil]
   lia
  ·have e:px = "cross" := e
   subst e
   have hf:Uz "cross" = false:=by unfold Uz;decide +kernel
   rw [J1,hf]
   simp only [Bool.false_eq_true,if_false,List.append_nil]
   lia
  ·have e:px = "end" := e
   subst e
   have hf:Uz "end" = true:=by unfold Uz;simp
   rw [GX,hf]
   simp only [if_true,List.length_append,List.length_singleton]
   lia
theorem Zid {ls:List (Str×Int)} (hW:Wk ls 0):Jk ls<=ls.length:=by
 have h:=few hW ls.length (Nat.le_refl _)
 obtain ⟨g0,g1,g2⟩:=Zb5 hW ls.length (Nat.le_refl _)
 have e:rowAt ls ls.length = []:=by
  unfold rowAt
  rw [List.take_of_length_le (Nat.le_refl _)]
  have:=ZaD hW
  exact List.length_eq_zero_iff.mp (by lia)
 rw [e,List.nil_append] at g2
 have hl:=g2.length_eq
 rw [Uk,Uy] at hl
 show 2*(Jr ls ls.length).length<=_
 lia
theorem ZaX:∀n,(Zam n).Pairwise (· < ·)
 | 0=>by simp [Zam]
 | n+1=>by
  unfold Zam
  rw [List.range_succ,List.map_append,List.pairwise_append]
  refine ⟨ZaX n,by simp,fun a ha b hb=>?_⟩
  have h1:=(YO (n:=n)).mp ha
  have:b=(n:Int):=by simpa using hb
  lia
def GO (N:Nat) (ts:List (List Int)):List Int:=(Zam N).filter fun x=>decide (x∉ts.flatten)
theorem ZhW {N:Nat}{ts:List (List Int)}{x:Int}:x∈GO N ts ↔ (0<=x/\x<(N:Int))/\x∉ts.flatten:=by
 unfold GO
 rw [List.mem_filter,YO]
 simp
theorem Zif {N:Nat}{ts:List (List Int)}{f:Int}{r:List Int} (e:GO N ts=f::r):(0<=f/\f<(N:Int))/\f∉ts.flatten /\ ∀j:Nat,(j:Int)<f->(j:Int)∈ts.flatten:=by
 have hf:f∈GO N ts:=by rw [e];exact List.mem_cons_self
 obtain ⟨d,n⟩:=ZhW.mp hf
 refine ⟨d,n,fun j hj=>?_⟩
 by_cases z:(j:Int)∈ts.flatten
 ·exact z
 ·have hm:(j:Int)∈GO N ts:=ZhW.mpr ⟨⟨by lia,by lia⟩,z⟩
  have pw:(GO N ts).Pairwise (· < ·):=(ZaX N).filter _
  rw [e] at hm pw
  rcases List.mem_cons.mp hm with y | y
  ·lia
  ·have:=(List.pairwise_cons.mp pw).1 _ y
   lia
theorem Zii {N:Nat}{ts:List (List Int)}{T:List Int}:GO N (ts ++ [T])=(GO N ts).filter fun x=>decide (x∉T):=by
 unfold GO
 rw [List.filter_filter]
 refine List.filter_congr fun x _=>?_
 rw [List.flatten_append]
 by_cases h1:x∈T<;>by_cases h2:x∈ts.flatten<;>simp [h1,h2]
theorem ZlT {N:Nat}{ts:List (List Int)}{T:List Int}{f:Int}{r:List Int} (e:GO N ts=f::r) (h:f∈T):(GO N (ts ++ [T])).length<(GO N ts).length:=by
 rw [Zii,e,List.filter_cons,if_neg (by simpa using h)]
 have:=List.length_filter_le (fun x=>decide (x∉T)) r
 simp only [List.length_cons]
 lia
theorem Znz {m:Int->Int}{N i:Nat}{ts:List (List Int)} (e:GO N ts = []) (tr:Uj m i ts) (hi:i<=N):Uj m N ts:=by
 have:=tr.jump (N-i) fun j a b=>by
  by_cases z:(j:Int)∈ts.flatten
  ·exact z
  ·have:(j:Int)∈GO N ts:=ZhW.mpr ⟨⟨by lia,by lia⟩,z⟩
   rw [e] at this
   cases this
 rwa [show i+(N-i)=N by lia] at this
theorem Zms {m:Int->Int}{N i:Nat}{ts:List (List Int)}{f:Int}{r T:List Int} (e:GO N ts=f::r) (tr:Uj m i ts) (hi:i<=N) (isT:Jl m f T):∃j:Nat,j<=N/\Uj m j (ts ++ [T]):=by
 obtain ⟨⟨d0,d1⟩,n,lo⟩:=Zif e
 obtain ⟨fn,rfl⟩:=Int.eq_ofNat_of_zero_le d0
 have hif:i<=fn:=by
  refine Nat.le_of_not_lt fun z=>n (tr.mem fn z)
 have:=tr.jump (fn-i) fun j a b=>lo j (by lia)
 rw [show i+(fn-i)=fn by lia] at this
 exact ⟨fn+1,by lia,this.add n isT⟩
def ev2 (y:Int):Int:=if y % 2=0 then 1 else -1
theorem ZmS (y:Int):y+ev2 y=bw y:=by unfold ev2 bw;split<;>lia
def fl (dn:Int->Int):List Int->Int
 | x::y::r=>dn x+ev2 y+fl dn r
 | _=>0
theorem ZfM (dn:Int->Int) (x y:Int):∀(n:Nat) (A:List Int),A.length=2*n->fl dn (A ++ [x,y])=fl dn A+dn x+ev2 y
 | 0,A,h=>by
  have:A = []:=List.length_eq_zero_iff.mp (by lia)
  subst this
  simp [fl]
 | n+1,[],h=>by simp at h
 | n+1,[a],h=>by simp at h;lia
 | n+1,a::b::r,h=>by
  have ih:=ZfM dn x y n r (by simp at h;lia)
  simp only [List.cons_append,fl,ih]
  lia
theorem ZnE (dn m:Int->Int) (f:Int) (i:Nat):fl dn (W6 m f (i+1))=fl dn (W6 m f i)+dn (gt m f i)+ev2 (m (gt m f i)):=ZfM dn _ _ i _ (WH m f i)
def Zg4 (i:Int):Int:=if i<0 then -i else i
def WV (z:Addr) (dn:Int->Int) (H:Hp) (ys:List V) (ts:List (List Int)):Prop:=Paired (fun v (T:List Int)=>∃a g,v=V.ref a/\H a=some (.tup [.ref g,.int (Zg4 (fl dn T) / 2)])/\H g=some (.lst (T.map V.int))/\g≠z) ys ts
theorem WV.mono {z:Addr}{dn:Int->Int}{H H':Hp} (h:∀c o,c≠z->H c=some o->H' c=some o) (hz:∃xs,H z=some (.lst xs)):∀{ys:List V}{ts:List (List Int)},WV z dn H ys ts->WV z dn H' ys ts
 | _,_,.nil=>.nil
 | _,_,.cons ⟨a,g,e,ha,hg,n⟩ r=>.cons ⟨a,g,e,h a _ (fun y=>by obtain ⟨xs,hz⟩:=hz;rw [y,hz] at ha;cases ha) ha,h g _ n hg,n⟩ (WV.mono h hz r)
theorem WV.same {z:Addr}{dn:Int->Int}{H H':Hp} (s:Zi H H'):∀{ys:List V}{ts:List (List Int)},WV z dn H ys ts->WV z dn H' ys ts
 | _,_,.nil=>.nil
 | _,_,.cons ⟨a,g,e,ha,hg,n⟩ r=>.cons ⟨a,g,e,s a _ ha,s g _ hg,n⟩ (WV.same s r)
theorem WV.len {z:Addr}{dn:Int->Int}{H:Hp}{ys:List V}{ts:List (List Int)} (h:WV z dn H ys ts):ys.length=ts.length:=Paired.length h
theorem ZfD {r:List Int}{k:Nat} (h:k+1<r.length):GN (r.map V.int) (some (k:Int)) (some ((k:Int)+2)) = [V.int (r.getD k 0),V.int (r.getD (k+1) 0)]:=by
 have e1:HT.JE (r.map V.int).length 0 (some (k:Int))=k:=by
  rw [HT.Zcc,List.length_map]
  lia
 have e2:HT.JE (r.map V.int).length (r.map V.int).length (some ((k:Int)+2))=k+2:=by
  rw [show (k:Int)+2=((k+2:Nat):Int) by lia,HT.Zcc,List.length_map]
  lia
 unfold GN
 rw [e1,e2,show k+2-k=2 by lia,<- List.map_drop,<- List.map_take]
 have c:=Zlo r k h
 have hl:(r.take k).length=k:=by rw [List.length_take];lia
 have e3:r.drop k = [r.getD k 0,r.getD (k+1) 0]++r.drop (k+2):=by
  conv=>lhs;rw [c]
  rw [List.append_assoc,List.drop_append_of_le_length (by lia),List.drop_eq_nil_of_le (by lia),List.nil_append]
 rw [e3]
 simp
theorem ZmM (y:Int):atI [V.int 1,V.int (-1)] (y % 2)=some (V.int (ev2 y)):=by
 unfold ev2
 rcases Int.emod_two_eq y with e | e<;>rw [e]
 ·exact Zo (j:=0) rfl
 ·exact Zo (j:=1) rfl
def Zfn:Sp:=fun vs H Q _=>∃(l:Addr) (xs:List V) (ls:List (Str×Int)),vs = [.ref l]/\H l=some (.lst xs)/\ZI H xs ls/\ls.length<=60/\Wk ls 0 /\
 ∀(p:Addr) (H':Hp) (ys:List V) (ts:List (List Int)),H p=none->Zi H H'->H' p=some (.lst ys)->WV p (Ya (Y9 ls)) H' ys ts->Uj (Js (Y9 ls)) (Jk ls) ts->Q (.ref p) H'
abbrev Gn:Stmt:=top 53
theorem ZK:Zz ["_law_drawing_here", "_law_rows_here", "_law_mates", "_law_t", "_law_letter", "_law_upper", "_law_lower", "_law_found", "_law_left", "_law_gone", "_law_fall", "_law_here", "_law_there", "_law_down"] ["_law_drawing_here"] (Zh Gn):={}
theorem ZkK {f:Addr}{fd:FuncData} (F:Yp K "_law_walks" "_law_walks" Gn f fd) (YN:Yk P w K mg base 1 "_law_rows" ["_law_drawing_here"] ZaR) (ZA:mg "enumerate" = none) (W4:mg "sorted" = none) (Zbo:mg "abs" = none):Yc P w K mg base J9 2 f fd ["_law_drawing_here"] Zfn:=by
 refine F.ok ZK (fun vs H Q E h=>?_) (fun cdv A outer s H vs Q E hr h=>?_)
 ·obtain ⟨l,xs,ls,rfl,_⟩:=h
  rfl
 ·obtain ⟨l,xs,ls,rfl,hl,hL,hlen,hW,k⟩:=h
  have hxl:=hL.len
  have n60:=Zid hW
  have M:=Wy hW
  have nd:=ZeT hW
  have pm:=WM hW
  refine ⟨_,(Zc (Zp (i:=1) ZK.nd rfl (Or.inl rfl) (Zr YN hr (Za (pv 0) Zb)))
   (Zc (Zp (i:=2) ZK.nd rfl (Or.inl rfl) Zki)
   (Zc (Yq PassesOwn.never rfl (JT (K:=K) rfl (by rfl) ZA (Za (pv 0) Zb)) (Z6 (K:=K) (n:=2) rfl rfl (Zq (Zl (i:=3) ZK.nd rfl (Or.inl rfl)) (Zq (Zl (i:=4) ZK.nd rfl (Or.inl rfl)) ZU))) (Zg (ZR (Zt Yi (Zy (Yh (K:=K) rfl) (pv 4) Ze (fun _ _=>rfl)) ZJ (Zs _)) (Zc (Yr (Yy (Jc (K:=K) rfl) (Zy (Zn (K:=K) rfl) (pv 1) (pv 3) (fun _ _=>rfl)) (Ym (Zy (Yh (K:=K) rfl) (pv 4) Ze (fun _ _=>rfl))) (Ym (Zm ZE (Zy (Yh (K:=K) rfl) (pv 4) Ze (fun _ _=>rfl)) Ze))) (Zdu (K:=K) (n:=2) rfl rfl (Zq (Zl (i:=5) ZK.nd rfl (Or.inl rfl)) (Zq (Zl (i:=6) ZK.nd rfl (Or.inl rfl)) ZU))))
   (Zg (Yr (ZQ (Za (ZQ (Za (pv 6) (Za Ze Zb))) (Za (ZQ (Za (pv 5) (Za (Zbn Ud Ze) Zb))) Zb))) (Z6 (K:=K) (n:=2) rfl rfl (Zq (YH (pv 2) (pv 5) (set_dict (Wl hr))) (Zq (YH (pv 2) (pv 6) (set_dict (Wl hr))) ZU)))))) ZG)))
   (Zc (Zp (i:=7) ZK.nd rfl (Or.inl rfl) (ZD Zb))
   (Zc (Zp (i:=8) ZK.nd rfl (Or.inl rfl) (Zx (ZfP rfl) (by rfl) W4 boot_sorted (Za (pv 2) Zb)))
   (Zc (ZbL PassesOwn.never (Zt (ZiV (K:=K) rfl hr.units) (pv 8) (ZD Zb) (Zs _)) (Zc (Zp (i:=9) ZK.nd rfl (Or.inr rfl) (ZD Zb))
   (Zc (Zp (i:=10) ZK.nd rfl (Or.inl rfl) Ze)
   (Zc (Zp (i:=11) ZK.nd rfl (Or.inl rfl) (Zy (Zn (K:=K) rfl) (pv 8) Ze (fun _ _=>rfl)))
   (Zc (ZbL PassesOwn.never (Zt (Zbq (K:=K) rfl) (pv 11) (pv 9) rfl) (Zc (Yr (Zy (U0 (Wl hr)) (pv 2) (pv 11) (fun _ _=>rfl)) (Z6 (K:=K) (n:=2) rfl rfl (Zq (Zl (i:=12) ZK.nd rfl (Or.inl rfl)) (Zq (Zl (i:=13) ZK.nd rfl (Or.inl rfl)) ZU))))
   (Zc (Zp (i:=9) ZK.nd rfl (Or.inr rfl) (Zm Ws (pv 9) (ZD (Za (pv 11) (Za (pv 12) Zb)))))
   (Zc (Zp (i:=10) ZK.nd rfl (Or.inl rfl) (Zm ZE (Zm ZE (pv 10) (pv 13)) (Zy (Zn (K:=K) rfl) (ZD (Za Ze (Za (Zbn Ud Ze) Zb))) (Zm GL (pv 12) Ze) (fun _ _=>rfl))))
   (Zg (Zp (i:=11) ZK.nd rfl (Or.inl rfl) (Zm ZE (pv 12) (Zy (Zn (K:=K) rfl) (ZD (Za Ze (Za (Zbn Ud Ze) Zb))) (Zm GL (pv 12) Ze) (fun _ _=>rfl)))))))))
   (Zc (ZZ (Yb (K:=K) rfl (Yx PySem.F.plainAttrs_list PySem.F.slot_list_append PySem.F.type_list_append ZO (pv 7) (Za (ZQ (Za (pv 9) (Za (Zm Zck (Zx ZbP (by rfl) Zbo boot_abs (Za (pv 10) Zb)) Ze) Zb))) Zb))))
   (Zg (ZdD (i:=8) ZK.nd rfl (Or.inl rfl) (Ls:=["_law_thread"]) (Fs:=["_law_gone"]) (fi:=[9]) (ZY.of (show Yv ["_law_drawing_here", "_law_rows_here", "_law_mates", "_law_t", "_law_letter", "_law_upper", "_law_lower", "_law_found", "_law_left", "_law_gone", "_law_fall", "_law_here", "_law_there", "_law_down"] (Zh Gn) _ ["_law_gone"] [9]=true by decide +kernel)) rfl (Z8 (K:=K) rfl (pv 8)) (fun cl C s3 H3 ex=>⟨(Zl (i:=0) (show ((["_law_thread"]:List Str)++(["_law_gone"]:List Str)).Nodup by decide +kernel) rfl (Or.inl rfl)),(Zbd (Zt (Zbq (K:=K) rfl) (pv 0) (pv 1) rfl)),(pv 0)⟩)))))))))
   (Zg (Zv (pv 7))))))))),?_⟩
  refine ⟨_,rfl,l,xs,ls,rfl,hl,hL,hlen,hW,fun R H1 ys fR s1 eR rv ap ndr=>?_⟩
  refine fun dA hdA=>?_
  have hdH:H dA=none:=s1.free hdA
  have hl1:=s1 l _ hl
  have hL1:=hL.same s1
  refine ⟨_,rfl,l,rfl,⟨_,Zu.of ((Zi.laid hdA) l _ hl1)⟩,GV (K:=K) (a:=l) (xs:=xs) (fun i σ H'=>∃(kvs:List (Key×V)) (v3 v4 v5 v6:Option V),σ = [some (.ref l),some (.ref R),some (.ref dA),v3,v4,v5,v6,none,none,none,none,none,none,none]/\Zi H1 H'/\H' dA=some (.dK kvs)/\DV H' kvs (Jr ls i))
   ⟨[],none,none,none,none,rfl,Zi.laid hdA,Zd,.nil⟩ (fun i σ H' _ ⟨_,_,_,_,_,_,sm,_⟩=>Zu.of (sm l _ hl1)) ?_ ?_⟩
  ·rintro i x p σ H' hx ⟨kvs,v3,v4,v5,v6,rfl,sm,hd,dv⟩ hp
   obtain ⟨⟨qx,qk⟩,ta,hq,rfl,hta⟩:=hL1.get hx
   have hta':=(sm.step (o:=.tup [.int i,.ref ta]) hp) ta _ hta
   obtain ⟨G0,hG0⟩:∃G0,G0=upd H' p (.tup [.int i,.ref ta]):=⟨_,rfl⟩
   have sp:Zi H' G0:=by rw [hG0];exact Zi.laid hp
   have sg0:Zi H1 G0:=sm.trans sp
   have hd0:=sp dA _ hd
   have kk:UJ ls Uz i=Uz qx:=by
    unfold UJ
    rw [hq]
    cases h:Uz qx<;>simp [h]
   refine ⟨p,_,rfl,YT.of Zd,rfl,_,_,rfl,_,_,rfl,rfl,?_⟩
   rw [<- hG0] at hta' ⊢
   refine ⟨_,rfl,ta,_,_,_,rfl,rfl,YT.of hta',Zo (j:=0) rfl,rfl,_,rfl,?_⟩
   refine Z0 (fun hc=>?_) (fun hc=>?_)
   ·have e:qx = "end" := V.str.inj (of_decide_eq_true hc)
    subst e
    obtain ⟨k0,k1,pe⟩:=ZgB hW hq (fun z=>nb2 z)
    obtain ⟨kn,rfl⟩:=Int.eq_ofNat_of_zero_le (show 0<=qk from k0)
    simp only [Int.toNat_natCast] at k1 pe
    have hi:i<ls.length:=(List.getElem?_eq_some_iff.mp hq).1
    obtain ⟨ra,hra,hrr⟩:=rv.at (Za8 ls (i:=i) (n:=ls.length+1) (by lia))
    have ei:UJ ls Uz i=true:=by rw [kk];unfold Uz;simp
    have pin:YV ls i∈Y9 ls:=List.mem_map.mpr ⟨(i:Int),by
     unfold Z9
     exact List.mem_filterMap.mpr ⟨i,List.mem_range.mpr hi,by rw [if_pos ei]⟩,by simp⟩
    have es:Jr ls (i+1)=Jr ls i ++ [YV ls i]:=by rw [Gp,if_pos ei]
    obtain ⟨u,hu⟩:∃u,u=(rowAt ls i).getD kn 0:=⟨_,rfl⟩
    obtain ⟨w,hw⟩:∃w,w=(rowAt ls i).getD (kn+1) 0:=⟨_,rfl⟩
    rw [<- hu,<- hw] at pe
    have nde:(ZM (Jr ls (i+1))).Nodup:=by
     have e:Z9 ls Uz (i+1) <+: Z9 ls Uz ls.length:=by
      have:∀d,Z9 ls Uz (i+1) <+: Z9 ls Uz (i+1+d):=by
       intro d
       induction d with
       | zero=>exact List.prefix_refl _
       | succ d ih=>
        refine ih.trans ?_
        show _ <+: Z9 ls Uz (i+1+d+1)
        rw [JB]
        exact List.prefix_append _ _
      have:=this (ls.length-(i+1))
      rwa [show i+1+(ls.length-(i+1))=ls.length by lia] at this
     obtain ⟨r,e⟩:=e
     have:Y9 ls=Jr ls (i+1)++r.map (fun t=>YV ls t.toNat):=by
      unfold Y9 Jr
      rw [<- e,List.map_append]
     rw [this,Ja] at nd
     exact (List.nodup_append.mp nd).1
    rw [es,Ja,pe] at nde
    have ef:ZM [(u,w)] = [u,w]:=by simp [ZM]
    rw [ef] at nde
    obtain ⟨n1,n2,n3⟩:=List.nodup_append.mp nde
    have nu:u∉ZM (Jr ls i):=fun z=>n3 u z u (by simp) rfl
    have nw:w∉ZM (Jr ls i):=fun z=>n3 w z w (by simp) rfl
    have nuw:u≠w:=by
     have:=(List.nodup_cons.mp n2).1
     simpa using this
    have e2:((Jr ls i).length)<=60:=by
     unfold Jr
     rw [List.length_map]
     exact Nat.le_trans (Jf _ _ _) (by lia)
    refine ⟨_,rfl,_,rfl,R,_,_,_,rfl,rfl,Zu.of (sg0 R _ eR),Zo hra,_,rfl,ta,_,_,_,rfl,rfl,YT.of hta',Zo (j:=1) rfl,_,rfl,_,rfl,ta,_,_,_,rfl,rfl,YT.of hta',Zo (j:=1) rfl,_,_,rfl,rfl,_,rfl,ra,_,rfl,Zu.of (sg0 ra _ hrr),fun cA hcA=>?_⟩
    rw [ZfD k1,<- hu,<- hw]
    refine ⟨cA,_,rfl,Zu.of Zd,rfl,_,_,rfl,_,_,rfl,rfl,?_⟩
    obtain ⟨G1,hG1⟩:∃G1,G1=upd G0 cA (.lst [.int u,.int w]):=⟨_,rfl⟩
    have sg1:Zi G0 G1:=by rw [hG1];exact Zi.laid hcA
    rw [<- hG1]
    refine ⟨_,rfl,(by show 2<=sizeLine;decide),fun t1 ht1=>?_⟩
    obtain ⟨G2,hG2⟩:∃G2,G2=upd G1 t1 (.tup [.int w,.int 1]):=⟨_,rfl⟩
    have sg2:Zi G1 G2:=by rw [hG2];exact Zi.laid ht1
    have e21:G2 t1=some (.tup [.int w,.int 1]):=by rw [hG2];exact Zd
    rw [<- hG2]
    refine ⟨_,rfl,1,rfl,(by show 2<=sizeLine;decide),fun t2 ht2=>?_⟩
    obtain ⟨G3,hG3⟩:∃G3,G3=upd G2 t2 (.tup [.int u,.int (-1)]):=⟨_,rfl⟩
    have sg3:Zi G2 G3:=by rw [hG3];exact Zi.laid ht2
    have e32:G3 t2=some (.tup [.int u,.int (-1)]):=by rw [hG3];exact Zd
    rw [<- hG3]
    refine ⟨(by show 2<=sizeLine;decide),fun t3 ht3=>?_⟩
    obtain ⟨G4,hG4⟩:∃G4,G4=upd G3 t3 (.tup [.ref t1,.ref t2]):=⟨_,rfl⟩
    have sg4:Zi G3 G4:=by rw [hG4];exact Zi.laid ht3
    have e43:G4 t3=some (.tup [.ref t1,.ref t2]):=by rw [hG4];exact Zd
    rw [<- hG4]
    have sAll:Zi G0 G4:=((sg1.trans sg2).trans sg3).trans sg4
    have hd4:=sAll dA _ hd0
    have kl:kvs.length<sizeLine:=by rw [dv.len];exact ZC (by lia)
    have o1:(Sum.inl u:Key)∉kvs.map (·.1):=Zdr dv nu
    have p1:putK kvs (Sum.inl u) (.ref t1)=kvs ++ [(Sum.inl u,.ref t1)]:=Zd6 o1
    have o2:(Sum.inl w:Key)∉(kvs ++ [((Sum.inl u:Key),V.ref t1)]).map (·.1):=by
     rw [List.map_append]
     intro z
     rcases List.mem_append.mp z with z | z
     ·exact Zdr dv nw z
     ·have:(Sum.inl w:Key)=Sum.inl u:=by simpa using z
      cases this
      exact nuw rfl
    have p2:putK (kvs ++ [((Sum.inl u:Key),V.ref t1)]) (Sum.inl w) (.ref t2)=kvs ++ [((Sum.inl u:Key),V.ref t1),(Sum.inl w,.ref t2)]:=by
     rw [Zd6 o2]
     simp
    refine ⟨t3,_,rfl,YT.of e43,rfl,_,_,rfl,_,rfl,_,rfl,dA,_,rfl,ZgG.k (k:=Sum.inl u) hd4 kl,?_⟩
    rw [p1]
    refine ⟨_,_,rfl,_,rfl,_,rfl,dA,_,rfl,ZgG.k (k:=Sum.inl w) Zd (by rw [List.length_append,dv.len];exact ZC (by show _+1<=1000;lia)),rfl,?_⟩
    rw [p2,Jy]
    refine ⟨_,_,_,_,_,rfl,fun c o e=>?_,Zd,?_⟩
    ·rw [Zj (Zf e hdA)]
     exact sAll c o (sg0 c o e)
    ·rw [es,pe]
     have tk:∀t q,G4 t=some (.tup q)->(upd G4 dA (.dK (kvs ++ [((Sum.inl u:Key),V.ref t1),(Sum.inl w,.ref t2)]))) t=some (.tup q):=fun t q e=>by
      rw [Zj (Zd1 e hd4 (by intro z;cases z))]
      exact e
     exact DV.snoc (dv.mono fun t q e=>tk t q (sAll t _ (sp t _ e))) (tk _ _ (sg4 t1 _ (sg3 t1 _ e21))) (tk _ _ (sg4 t2 _ e32))
   ·have e:¬qx = "end" := fun z=>hc (decide_eq_true (congrArg V.str z))
    have ei:UJ ls Uz i=false:=by rw [kk];unfold Uz;simp [e]
    have es:Jr ls (i+1)=Jr ls i:=by rw [Gp,ei];simp
    refine ⟨kvs,_,_,_,_,rfl,sg0,hd0,?_⟩
    rw [es]
    exact dv.mono fun t q e=>sp t _ e
  ·rintro σ H2 ⟨kvs,v3,v4,v5,v6,rfl,sm2,hd2,dv2⟩
   rw [hxl] at dv2
   have s02:Zi H H2:=s1.trans sm2
   refine ⟨(by show 0<=sizeLine;decide),fun fA hfA=>?_⟩
   have hfd:dA≠fA:=Zf hd2 hfA
   refine ⟨_,rfl,dA,kvs,ZM (Y9 ls),rfl,(Zi.laid hfA) dA _ hd2,dv2.keys,(by rw [Uy];show Jk ls<64;lia),fun lA ns hlA hperm hsort=>?_⟩
   have ens:ns=Zam (Jk ls):=Zbw (hperm.trans pm) hsort ((ZaX _).imp fun h=>Int.le_of_lt h)
   subst ens
   have hlf:lA≠fA:=(Zf (Zd (H:=H2) (a:=fA) (o:=.lst [])) hlA).symm
   generalize hmm:Js (Y9 ls)=m at *
   generalize hdn:Ya (Y9 ls)=dn at *
   generalize hnn:Jk ls=N at *
   have dget:∀(G:Hp),Zi H2 G -> ∀x:Int,0<=x->x<(N:Int) -> ∃a,Zbi G dA (.int x) (some (.ref a))/\G a=some (.tup [.int (m x),.int (dn x)]):=fun G sG x x0 x1=>by
    obtain ⟨a,hv,ha⟩:=dv2.look nd x (pm.mem_iff.mpr (YO.mpr ⟨x0,x1⟩))
    have:=Zbi.k (k:=Sum.inl x) (sG dA _ hd2)
    rw [hv] at this
    have e1:Js (Jr ls ls.length)=m:=hmm
    have e2:Ya (Jr ls ls.length)=dn:=hdn
    rw [e1,e2] at ha
    exact ⟨a,this,sG a _ ha⟩
   refine ⟨fun mm σ H'=>∃(ts:List (List Int)) (ys:List V) (i:Nat) (lf:Addr) (v9 v10 v11 v12 v13:Option V),mm=(GO N ts).length /\ σ = [some (.ref l),some (.ref R),some (.ref dA),v3,v4,v5,v6,some (.ref fA),some (.ref lf),v9,v10,v11,v12,v13]/\Zi H2 H'/\H' fA=some (.lst ys)/\H' lf=some (.lst ((GO N ts).map V.int))/\lf≠fA/\WV fA dn H' ys ts/\Uj m i ts/\i<=N,
    ⟨_,[],[],0,lA,none,none,none,none,none,rfl,rfl,(Zi.laid hfA).step hlA,?_,?_,hlf,.nil,.nil,Nat.zero_le _⟩,?_⟩
   ·rw [Zj (Ne.symm hlf),Zd]
   ·rw [Zd]
    congr 3
    unfold GO
    rw [List.filter_eq_self.mpr]
    intro x _
    simp
   rintro mm σ H' ⟨ts,ys,i,lf,v9,v10,v11,v12,v13,rfl,rfl,sm,hf,hlf',nlf,wv,tr,hi⟩
   refine ⟨_,rfl,(by show 0<=sizeLine;decide),fun nA hnA=>?_⟩
   obtain ⟨G0,hG0⟩:∃G0,G0=upd H' nA (.lst []):=⟨_,rfl⟩
   have s0:Zi H' G0:=by rw [hG0];exact Zi.laid hnA
   rw [<- hG0]
   refine ⟨lf,nA,_,rfl,rfl,Zu.of (s0 lf _ hlf'),Zu.of (by rw [hG0];exact Zd),_,rfl,?_⟩
   cases elf:GO N ts with
   | nil=>
    refine Y5 ?_
    refine ⟨_,rfl,k fA G0 ys ts (s02.free hfA) (s02.trans (sm.trans s0)) (s0 fA _ hf) (wv.same s0) (Znz elf tr hi)⟩
   | cons f0 rest=>
    refine JN ?_
    obtain ⟨⟨f0lo,f0hi⟩,f0n,f0l⟩:=Zif elf
    have dom:=YJ M f0lo f0hi
    refine ⟨fun σ' H''=>∃(ts':List (List Int)) (ys:List V) (i:Nat) (lf:Addr) (v9 v10 v11 v12 v13:Option V),(GO N ts').length<(f0::rest).length /\ σ' = [some (.ref l),some (.ref R),some (.ref dA),v3,v4,v5,v6,some (.ref fA),some (.ref lf),v9,v10,v11,v12,v13]/\Zi H2 H''/\H'' fA=some (.lst ys)/\H'' lf=some (.lst ((GO N ts').map V.int))/\lf≠fA/\WV fA dn H'' ys ts'/\Uj m i ts'/\i<=N,
     fun σ' H'' ⟨ts',ys,i,lf,v9,v10,v11,v12,v13,a,b⟩=>⟨_,a,ts',ys,i,lf,v9,v10,v11,v12,v13,rfl,b⟩,?_⟩
    refine ⟨(by show 0<=sizeLine;decide),fun gA hgA=>?_⟩
    have s1':Zi H' (upd G0 gA (.lst [])):=s0.step hgA
    have hgf:gA≠fA:=(Zf (s0 fA _ hf) hgA).symm
    refine ⟨_,rfl,lf,_,_,V.int f0,rfl,rfl,Zu.of (s1' lf _ hlf'),Zo (j:=0) (by rw [elf];rfl),?_⟩
    refine ⟨fun m2 σ H''=>∃(j:Nat) (g:Addr) (v12 v13:Option V),m2+j=N+1 /\ σ = [some (.ref l),some (.ref R),some (.ref dA),v3,v4,v5,v6,some (.ref fA),some (.ref lf),some (.ref g),some (.int (fl dn (W6 m f0 j))),some (.int (gt m f0 j)),v12,v13]/\Zi H' H''/\H'' g=some (.lst ((W6 m f0 j).map V.int))/\g≠fA/\(∀q,1<=q->q<j->gt m f0 q≠f0),
     ⟨N+1,0,gA,v12,v13,rfl,rfl,s1',Zd,hgf,fun q a b=>by lia⟩,?_⟩
    rintro m2 σ H'' ⟨j,g,w12,w13,hj,rfl,sm2',hg,ngf,nf⟩
    have short:=Um M f0lo f0hi nf
    have s22:Zi H2 H'':=sm.trans sm2'
    refine ⟨_,rfl,_,rfl,g,_,rfl,.inl (Zu.of hg),rfl,Zcx _,_,rfl,?_⟩
    show if (!inV (V.int (gt m f0 j)) ((W6 m f0 j).map V.int))=true then _ else _
    rw [ZaG]
    by_cases hin:gt m f0 j∈W6 m f0 j
    ·rw [decide_eq_true hin]
     refine Y5 ?_
     obtain ⟨j1,ej⟩:=(Zj2 M f0lo f0hi nf).mp hin
     have isT:Jl m f0 (W6 m f0 j):=⟨j,j1,ej,nf,rfl⟩
     have hf'':=sm2' fA _ hf
     refine ⟨_,rfl,.inl ⟨rfl,_,Zu.of hf''⟩,_,rfl,_,rfl,_,rfl,_,_,rfl,rfl,⟨by decide,by decide⟩,(by show 2<=sizeLine;decide),fun tt htt=>?_⟩
     have hft:fA≠tt:=Zf hf'' htt
     have yl:ys.length<sizeLine:=by rw [wv.len];have:=tr.len M (by lia);exact ZC (by lia)
     refine ⟨fA,_,_,rfl,rfl,(by rw [Zj hft];exact hf''),yl,?_⟩
     have K5:∀(o1 o2:HO) c o,H'' c=some o->c≠fA->(upd (upd H'' tt o1) fA o2) c=some o:=fun o1 o2 c o e n=>by
      rw [Zj n,Zj (Zf e htt)]
      exact e
     have hlf2:H'' lf=some (.lst ((f0::rest).map V.int)):=by
      have:=sm2' lf _ hlf'
      rw [elf] at this
      exact this
     obtain ⟨j2,hj2,tr2⟩:=Zms elf tr hi isT
     have f0T:f0∈W6 m f0 j:=isT.self
     have less:=ZlT elf f0T
     rw [elf] at less
     have llen:(f0::rest).length<=120:=by
      rw [<- elf]
      unfold GO
      refine Nat.le_trans (List.length_filter_le _ _) ?_
      rw [Uk]
      lia
     refine ⟨_,rfl,lf,rfl,⟨_,Zu.of (K5 _ _ lf _ hlf2 nlf)⟩,JG (K:=K) (a:=lf) (xs:=(f0::rest).map V.int) (by rw [List.length_map];exact Nat.le_of_lt (ZC (by lia))) (fun i zs G=>((∀c o,H'' c=some o->c≠fA->G c=some o)/\G fA=some (.lst (ys ++ [.ref tt]))/\G tt=some (.tup [.ref g,.int (Zg4 (fl dn (W6 m f0 j)) / 2)]))/\zs=(((f0::rest).take i).filter fun x=>decide (x∉W6 m f0 j)).map V.int)
      ⟨⟨fun c o e n=>K5 _ _ c o e n,Zd,by rw [Zj (Ne.symm hft),Zd];rfl⟩,by simp⟩ (fun i zs G p=>?_) (fun i zs G p=>Zu.of (p.1.1 lf _ hlf2 nlf)) (fun i x zs G hx p=>?_) (fun zs G p D hD=>?_)⟩
     ·rw [p.2,List.length_map]
      exact Nat.le_trans (List.length_filter_le _ _) (by rw [List.length_take];lia)
     ·obtain ⟨kp,rfl⟩:=p
      obtain ⟨t,ht,rfl⟩:=Wv hx
      have tk:((f0::rest).take (i+1)).filter (fun x=>decide (x∉W6 m f0 j))=((f0::rest).take i).filter (fun x=>decide (x∉W6 m f0 j))++(if t∈W6 m f0 j then [] else [t]):=by
       rw [List.take_add_one,ht,List.filter_append]
       by_cases z:t∈W6 m f0 j<;>simp [z]
      refine ⟨_,rfl,_,rfl,g,_,rfl,.inl (Zu.of (kp.1 g _ hg ngf)),rfl,Zcx _,_,rfl,?_⟩
      show if (!inV (V.int t) ((W6 m f0 j).map V.int))=true then _ else _
      rw [ZaG]
      by_cases z:t∈W6 m f0 j
      ·rw [decide_eq_true z]
       refine Y5 ⟨kp,?_⟩
       rw [tk,if_pos z,List.append_nil]
      ·rw [decide_eq_false z]
       refine JN ⟨_,rfl,kp,?_⟩
       rw [tk,if_neg z,List.map_append]
       rfl
     ·obtain ⟨kp,rfl⟩:=p
      have hDf:D≠fA:=(Zf kp.2.1 hD).symm
      have kD:∀c o,H'' c=some o->c≠fA->(upd G D (.lst ((((f0::rest).take ((f0::rest).map V.int).length).filter fun x=>decide (x∉W6 m f0 j)).map V.int))) c=some o:=fun c o e n=>by
       have e2:=kp.1 c o e n
       rw [Zj (Zf e2 hD)]
       exact e2
      refine ⟨ts ++ [W6 m f0 j],ys ++ [.ref tt],j2,D,_,_,_,_,_,less,rfl,fun c o e=>kD c o (s22 c o e) (Zf e hfA),?_,?_,hDf,?_,tr2,hj2⟩
      ·rw [Zj (Ne.symm hDf)]
       exact kp.2.1
      ·rw [Zd,Zii,elf,List.length_map,List.take_of_length_le (Nat.le_refl _)]
      ·refine Paired.snoc (wv.mono (fun c o n e=>kD c o (sm2' c o e) n) ⟨_,hf⟩) ⟨tt,g,rfl,?_,kD g _ hg ngf,ngf⟩
       rw [Zj (Zf kp.2.2 hD)]
       exact kp.2.2
    ·rw [decide_eq_false hin]
     refine JN ?_
     have nf':∀q,1<=q->q<j+1->gt m f0 q≠f0:=fun q a b e=>by
      by_cases z:q=j
      ·subst z;exact hin ((Zj2 M f0lo f0hi nf).mpr ⟨a,e⟩)
      ·exact nf q a (by lia) e
     have short2:=Um M f0lo f0hi nf'
     refine ⟨fun σ' H3=>∃(g:Addr) (v12 v13:Option V),σ' = [some (.ref l),some (.ref R),some (.ref dA),v3,v4,v5,v6,some (.ref fA),some (.ref lf),some (.ref g),some (.int (fl dn (W6 m f0 (j+1)))),some (.int (gt m f0 (j+1))),v12,v13]/\Zi H' H3/\H3 g=some (.lst ((W6 m f0 (j+1)).map V.int))/\g≠fA,
      fun σ' H3 ⟨g,a,b,e,h1,h2,h3⟩=>⟨m2-1,by lia,j+1,g,a,b,by lia,e,h1,h2,h3,nf'⟩,?_⟩
     obtain ⟨a,dg,ha⟩:=dget H'' s22 (gt m f0 j) (dom j).1 (dom j).2
     refine ⟨_,rfl,_,rfl,dA,_,rfl,dg,?_⟩
     refine ⟨a,_,rfl,YT.of ha,rfl,_,_,rfl,_,_,rfl,rfl,?_⟩
     refine ⟨_,rfl,_,rfl,_,rfl,(by show 2<=sizeLine;decide),fun b hb=>?_⟩
     refine ⟨g,b,_,_,rfl,rfl,(Zi.laid hb) g _ hg,Zd,(by rw [List.length_map,WH];exact Nat.le_of_lt (ZC (by show _+2<=1000;lia))),fun g' hg'=>?_⟩
     have s3:Zi H'' (upd (upd H'' b (.lst [.int (gt m f0 j),.int (m (gt m f0 j))])) g' (.lst ((W6 m f0 j).map V.int ++ [.int (gt m f0 j),.int (m (gt m f0 j))]))):=(Zi.laid hb).step hg'
     have ng':g'≠fA:=(Zf ((Zi.laid (o:=.lst [.int (gt m f0 j),.int (m (gt m f0 j))]) hb) fA _ (sm2' fA _ hf)) hg').symm
     refine ⟨_,rfl,_,rfl,_,_,rfl,rfl,1,rfl,(by show 2<=sizeLine;decide),fun c hc=>?_⟩
     refine ⟨_,rfl,_,_,rfl,rfl,(by show (0:Int)<2;decide),c,_,_,_,rfl,rfl,Zu.of Zd,ZmM _,_,_,rfl,rfl,?_⟩
     refine ⟨_,rfl,1,rfl,(by show 2<=sizeLine;decide),fun c2 hc2=>?_⟩
     refine ⟨_,rfl,_,_,rfl,rfl,(by show (0:Int)<2;decide),c2,_,_,_,rfl,rfl,Zu.of Zd,ZmM _,_,_,rfl,rfl,?_⟩
     refine ⟨g',some (.int (m (gt m f0 j))),some (.int (dn (gt m f0 j))),?_,((sm2'.trans s3).step hc).step hc2,?_,ng'⟩
     ·rw [ZnE,show gt m f0 (j+1)=m (gt m f0 j)+ev2 (m (gt m f0 j)) from (ZmS _).symm]
      rfl
     ·have e1:=(Zi.laid (o:=.lst [.int 1,.int (-1)]) hc) g' _ Zd
      have e2:=(Zi.laid (o:=.lst [.int 1,.int (-1)]) hc2) g' _ e1
      refine e2.trans ?_
      simp [W6]
def ZbM:Sp:=fun vs H Q _=>∃(l:Addr) (xs:List V) (ls:List (Str×Int)),vs = [.ref l]/\H l=some (.lst xs)/\ZI H xs ls/\ls.length<=60/\Wk ls 0 /\
 ∀(p:Addr) (H':Hp),H p=none->Zi H H'->H' p=some (.lst (tab (Jk ls) fun x=>V.bl (decide (x∈(Y9 ls).map (·.1)))))->Q (.ref p) H'
abbrev Wr:Stmt:=top 26
theorem Jo:Zz ["drawing", "uppers", "upper", "lower"] ["drawing"] (Zh Wr):={}
theorem Zjf {f:Addr}{fd:FuncData} (F:Yp K "uppers_at_ends" "uppers_at_ends" Wr f fd) (JD:Yk P w K mg base 2 "ends_of" ["drawing"] (Ur fun x=>decide (x = "end"))) (J2:Yk P w K mg base 3 "end_pairs" ["drawing"] Zgh) (Yw:mg "len" = none):Yc P w K mg base J9 4 f fd ["drawing"] ZbM:=by
 refine F.ok Jo (fun vs H Q E h=>?_) (fun cdv A outer s H vs Q E hr h=>?_)
 ·obtain ⟨l,xs,ls,rfl,_⟩:=h
  rfl
 ·obtain ⟨l,xs,ls,rfl,hl,hL,hlen,hW,k⟩:=h
  have n120:=WD hlen
  have nt:2*(Z9 ls Uz ls.length).length=Jk ls:=by unfold Jk Y9 Jr;rw [List.length_map]
  refine ⟨_,(Zc (Zp (i:=1) Jo.nd rfl (Or.inl rfl) (Zm ZbA (ZD (Za Gv Zb)) (Zm Wn Ze (Zx (YE (K:=K) rfl) (by rfl) Yw PySem.boot_len (Za (Zr JD hr (Za (pv 0) Zb)) Zb)))))
   (Zc (Yq PassesOwn.never rfl (Z8 (K:=K) rfl (Zr J2 hr (Za (pv 0) Zb))) (Z6 (K:=K) (n:=2) rfl rfl (Zq (Zl (i:=2) Jo.nd rfl (Or.inl rfl)) (Zq (Zl (i:=3) Jo.nd rfl (Or.inl rfl)) ZU))) (Zg (Yr Gv (YH (pv 1) (pv 2) set_list))))
   (Zg (Zv (pv 1))))),?_⟩
  refine ⟨(by show 1<=sizeLine;decide),fun l0 hl0=>?_⟩
  have s0:Zi H (upd H l0 (.lst [.bl false])):=Zi.laid hl0
  refine ⟨_,rfl,l,xs,ls,rfl,s0 l _ hl,hL.same s0,hlen,hW.kd,fun eA H1 fe s1 ee=>?_⟩
  refine ⟨eA,_,rfl,.inl (Zu.of ee),_,_,rfl,rfl,.inl ⟨by decide,by decide⟩,?_⟩
  have el:((2:Int)*((((Z9 ls (fun x=>decide (x = "end")) ls.length).map V.int).length:Nat):Int))=((Jk ls:Nat):Int):=by
   rw [List.length_map]
   have:(Z9 ls (fun x=>decide (x = "end")) ls.length).length=(Z9 ls Uz ls.length).length:=rfl
   lia
  show ZmZ (V.ref l0) (V.int ((2:Int)*((((Z9 ls (fun x=>decide (x = "end")) ls.length).map V.int).length:Nat):Int))) H1 _
  rw [el]
  refine ⟨l0,_,_,rfl,rfl,s1 l0 _ Zd,by lia,by lia,(by show 1*_<=sizeLine;exact Nat.le_of_lt (ZC (by lia))),fun rA hrA=>?_⟩
  obtain ⟨H2,hH2⟩:∃H2,H2=upd H1 rA (.lst (List.replicate ((Jk ls:Nat):Int).toNat [V.bl false]).flatten):=⟨_,rfl⟩
  rw [<- hH2]
  have s02:Zi H H2:=by rw [hH2];exact (s0.trans s1).step hrA
  have hrH:H rA=none:=(s0.trans s1).free hrA
  have hr2:H2 rA=some (.lst (tab (Jk ls) fun _=>V.bl false)):=by rw [hH2,Zd,Int.toNat_natCast,Za7]
  refine ⟨_,rfl,l,xs,ls,rfl,s02 l _ hl,hL.same s02,hlen,hW,fun pA H3 ys fp s3 ep pv=>?_⟩
  have hpr:pA≠rA:=(Zf hr2 fp).symm
  refine ⟨pA,rfl,⟨_,Zu.of ep⟩,JL (K:=K) (a:=pA) (xs:=ys) (fun i σ H'=>∃(v2 v3:Option V),σ = [some (.ref l),some (.ref rA),v2,v3]/\Jn rA H3 H'/\H' rA=some (.lst (tab (Jk ls) fun x=>V.bl (decide (x∈((Y9 ls).take i).map (·.1))))))
   ⟨none,none,rfl,Jn.refl _ _,?_⟩ (fun i σ H' _ ⟨_,_,_,fr,_⟩=>Zu.of (fr pA _ ep hpr)) ?_ ?_⟩
  ·rw [s3 rA _ hr2]
   exact congrArg (fun z=>some (HO.lst z)) (Jj fun x _ _=>by simp)
  ·rintro i x σ H' hx ⟨v2,v3,rfl,fr,hr'⟩
   obtain ⟨p,t,hp,rfl,ht⟩:=pv.get hx
   obtain ⟨u,lw⟩:=p
   obtain ⟨⟨d1,d2⟩,d3,d4⟩:=Zia hW (List.mem_of_getElem? hp)
   obtain ⟨un,rfl⟩:=Int.eq_ofNat_of_zero_le (show 0<=u from d1)
   have d2:(un:Int)<_:=d2
   have htr:t≠rA:=Zd1 ht (s3 rA _ hr2) (by intro z;cases z)
   refine ⟨t,_,rfl,YT.of (fr t _ ht htr),rfl,_,_,rfl,_,_,rfl,rfl,?_⟩
   refine ⟨_,rfl,_,rfl,rA,_,_,un,rfl,rfl,hr',(by rw [Gg];exact Y0 (by lia)),?_⟩
   refine ⟨_,_,rfl,fr.trans Jn.upd,?_⟩
   rw [Zd,ZbY,Jg (ns:=Y9 ls) _ hp]
   refine congrArg (fun z=>some (HO.lst z)) (Jj fun x _ _=>?_)
   by_cases e:x=(un:Int)
   ·rw [if_pos e]
    congr 1
    exact (decide_eq_true (by rw [e];simp)).symm
   ·rw [if_neg e]
    congr 1
    exact decide_eq_decide.mpr (by simp [e])
  ·rintro σ H' ⟨v2,v3,rfl,fr,hr'⟩
   refine ⟨_,rfl,k rA H' hrH (fun c o e=>fr c o (s3 c o (s02 c o e)) (Zf e hrH)) ?_⟩
   rw [pv.len,List.take_of_length_le (Nat.le_refl _)] at hr'
   exact hr'
def stA (dn:Int->Int) (T:List Int) (i:Nat):Int:=if i % 2=0 then dn (T.getD i 0) else ev2 (T.getD i 0)
theorem Zh0 (dn:Int->Int) (T:List Int):∀n,2*n<=T.length->((List.range (2*n)).map (stA dn T)).sum=fl dn (T.take (2*n))
 | 0,_=>by simp [fl]
 | n+1,h=>by
  have ih:=Zh0 dn T n (by lia)
  have e:2*(n+1)=2*n+1+1:=by lia
  have h1:T[2*n]? = some (T.getD (2*n) 0):=by simp [show 2*n<T.length by lia]
  have h2:T[2*n+1]? = some (T.getD (2*n+1) 0):=by simp [show 2*n+1<T.length by lia]
  rw [e,List.range_succ,List.range_succ,List.take_add_one,List.take_add_one,h1,h2]
  have e2:T.take (2*n)++(some (T.getD (2*n) 0)).toList++(some (T.getD (2*n+1) 0)).toList=T.take (2*n) ++ [T.getD (2*n) 0,T.getD (2*n+1) 0]:=by simp
  rw [e2,ZfM dn _ _ n _ (by rw [List.length_take];lia),<- ih]
  have a1:stA dn T (2*n)=dn (T.getD (2*n) 0):=if_pos (by lia)
  have a2:stA dn T (2*n+1)=ev2 (T.getD (2*n+1) 0):=if_neg (by lia)
  rw [List.map_append,List.map_append,List.sum_append,List.sum_append]
  simp only [List.map_cons,List.map_nil,List.sum_cons,List.sum_nil,a1,a2]
  lia
def Zds:Sp:=fun vs H Q _=>∃(tA uA:Addr) (T:List Int) (N:Nat) (ps:List Int) (n:Nat),vs = [.ref tA,.ref uA]/\H tA=some (.lst (T.map V.int))/\H uA=some (.lst (tab N fun x=>V.bl (decide (x∈ps))))/\T.length=2*n/\T.length<=200/\(∀x∈T,0<=x/\x<(N:Int)) /\
 ∀(p:Addr) (H':Hp) (ss:List Int),H p=none->Zi H H'->H' p=some (.lst (ss.map V.int))->ss.sum=fl (fun x=>if x∈ps then 1 else -1) T->ss=(List.range T.length).map (stA (fun x=>if x∈ps then 1 else -1) T)->Q (.ref p) H'
abbrev UP:Stmt:=top 27
theorem JO:Zz ["tour", "uppers", "steps", "at", "thread", "upper"] ["tour", "uppers"] (Zh UP):={}
theorem Zkb {f:Addr}{fd:FuncData} (F:Yp K "steps_down" "steps_down" UP f fd) (Ju:Yk P w K mg base 1 "born_with" ["thread"] Zmc) (ZA:mg "enumerate" = none):Yc P w K mg base J9 2 f fd ["tour", "uppers"] Zds:=by
 refine F.ok JO (fun vs H Q E h=>?_) (fun cdv A outer s H vs Q E hr h=>?_)
 ·obtain ⟨tA,uA,T,N,ps,n,rfl,_⟩:=h
  rfl
 ·obtain ⟨tA,uA,T,N,ps,n,rfl,hT,hU,hn,hlen,dom,k⟩:=h
  obtain ⟨dn,hdn⟩:∃dn:Int->Int,dn=fun x=>if x∈ps then 1 else -1:=⟨_,rfl⟩
  rw [<- hdn] at k
  refine ⟨_,(Zc (Zp (i:=2) JO.nd rfl (Or.inl rfl) (ZD Zb))
   (Zc (Yq PassesOwn.never rfl (JT (K:=K) rfl (by rfl) ZA (Za (pv 0) Zb)) (Z6 (K:=K) (n:=2) rfl rfl (Zq (Zl (i:=3) JO.nd rfl (Or.inl rfl)) (Zq (Zl (i:=4) JO.nd rfl (Or.inl rfl)) ZU))) (Zc (Zp (i:=5) JO.nd rfl (Or.inl rfl) (Zcf (Zgr (Zm Zny (pv 3) Ze) (fun _=>rfl)) (Yg Gf (pv 4) (Zr Ju hr (Za (pv 4) Zb)) (Zs _)) (Zy (Zn (K:=K) rfl) (pv 1) (pv 4) (fun _ _=>rfl))))
   (Zg (ZZ (Yb (K:=K) rfl (Yx PySem.F.plainAttrs_list PySem.F.slot_list_append PySem.F.type_list_append ZO (pv 2) (Za (Zcf (JX (pv 5)) Ze (Zbn Ud Ze)) Zb)))))))
   (Zg (Zv (pv 2))))),?_⟩
  refine ⟨(by show 0<=sizeLine;decide),fun sA hsA=>?_⟩
  refine ⟨_,rfl,tA,rfl,⟨_,Zu.of ((Zi.laid hsA) tA _ hT)⟩,GV (K:=K) (a:=tA) (xs:=T.map V.int) (fun i σ H'=>∃(v3 v4 v5:Option V),σ = [some (.ref tA),some (.ref uA),some (.ref sA),v3,v4,v5]/\Zi H H'/\H' sA=some (.lst (((List.range i).map (stA dn T)).map V.int)))
   ⟨none,none,none,rfl,Zi.laid hsA,Zd⟩ (fun i σ H' _ ⟨_,_,_,_,sm,_⟩=>Zu.of (sm tA _ hT)) ?_ ?_⟩
  ·rintro i x p σ H' hx ⟨v3,v4,v5,rfl,sm,hs⟩ hp
   obtain ⟨t,ht,rfl⟩:=Wv hx
   have hi:i<T.length:=(List.getElem?_eq_some_iff.mp ht).1
   obtain ⟨d0,d1⟩:=dom t (List.mem_of_getElem? ht)
   have td:T.getD i 0=t:=by simp [ht]
   obtain ⟨G0,hG0⟩:∃G0,G0=upd H' p (.tup [.int i,.int t]):=⟨_,rfl⟩
   have sp:Zi H' G0:=by rw [hG0];exact Zi.laid hp
   have ep:G0 p=some (.tup [.int i,.int t]):=by rw [hG0];exact Zd
   rw [<- hG0]
   have sg0:Zi H G0:=sm.trans sp
   have l2:(((List.range i).map (stA dn T)).map V.int).length<sizeLine:=by
    rw [List.length_map,List.length_map,List.length_range]
    exact ZC (by lia)
   have tail:∀v:Int,v=stA dn T i->(upd G0 sA (.lst (((List.range i).map (stA dn T)).map V.int ++ [V.int v]))) sA=some (.lst (((List.range (i+1)).map (stA dn T)).map V.int)):=fun v e=>by
    rw [Zd,List.range_succ,List.map_append,List.map_append,e]
    rfl
   have hbit:Builtin.bitAnd (i:Int) 1=(i:Int) % 2:=ZlX (by lia)
   refine ⟨p,_,rfl,YT.of ep,rfl,_,_,rfl,_,_,rfl,rfl,?_⟩
   refine ⟨_,rfl,_,_,rfl,rfl,_,rfl,?_⟩
   show if (Builtin.bitAnd (i:Int) 1 != 0)=true then _ else _
   rw [hbit]
   refine Z0 (fun hc=>?_) (fun hc=>?_)
   ·have odd:¬i % 2=0:=fun z=>by
     rw [bne_iff_ne] at hc
     lia
    have se:stA dn T i=ev2 t:=by unfold stA;rw [if_neg odd,td]
    refine ⟨_,rfl,_,rfl,_,rfl,d0,_,_,rfl,rfl,?_⟩
    refine ⟨_,rfl,.inl ⟨rfl,_,Zu.of (sp sA _ hs)⟩,_,rfl,_,rfl,?_⟩
    refine Z0 (fun hd=>?_) (fun hd=>?_)
    ·have e:(1:Int)=stA dn T i:=by
      have hd:t<bw t:=of_decide_eq_true hd
      rw [se]
      unfold ev2
      unfold bw at hd
      split at hd
      ·rw [if_pos (by assumption)]
      ·lia
     exact ⟨sA,_,_,rfl,rfl,sp sA _ hs,l2,_,_,_,rfl,sg0.put hsA,tail _ e⟩
    ·have e:(-1:Int)=stA dn T i:=by
      have hd:¬t<bw t:=fun z=>hd (decide_eq_true z)
      rw [se]
      unfold ev2
      unfold bw at hd
      split at hd
      ·lia
      ·rw [if_neg (by assumption)]
     exact ⟨1,rfl,sA,_,_,rfl,rfl,sp sA _ hs,l2,_,_,_,rfl,sg0.put hsA,tail _ e⟩
   ·have evn0:i % 2=0:=by
     by_cases z:i % 2=0
     ·exact z
     ·exact absurd (by rw [bne_iff_ne];lia) hc
    have se:stA dn T i=dn t:=by unfold stA;rw [if_pos evn0,td]
    rw [hdn] at se
    refine ⟨_,rfl,_,rfl,uA,_,_,_,rfl,rfl,Zu.of (sg0 uA _ hU),Zgt _ d0 d1,?_⟩
    refine ⟨_,rfl,.inl ⟨rfl,_,Zu.of (sp sA _ hs)⟩,_,rfl,_,rfl,?_⟩
    refine Z0 (fun hd=>?_) (fun hd=>?_)
    ·have e:(1:Int)=stA dn T i:=by
      rw [hdn,se]
      exact (if_pos (of_decide_eq_true hd)).symm
     exact ⟨sA,_,_,rfl,rfl,sp sA _ hs,l2,_,_,_,rfl,sg0.put hsA,tail _ e⟩
    ·have e:(-1:Int)=stA dn T i:=by
      rw [hdn,se]
      exact (if_neg (fun z=>hd (decide_eq_true z))).symm
     exact ⟨1,rfl,sA,_,_,rfl,rfl,sp sA _ hs,l2,_,_,_,rfl,sg0.put hsA,tail _ e⟩
  ·rintro σ H' ⟨v3,v4,v5,rfl,sm,hs⟩
   rw [List.length_map] at hs
   refine ⟨_,rfl,k sA H' _ hsA sm hs ?_ (by rw [hdn])⟩
   rw [hn,Zh0 dn T n (by lia),List.take_of_length_le (by lia)]
def ZaQ (dn:Int->Int) (T:List Int):Int:=Zg4 (fl dn T) / 2
def ZfF:Sp:=fun vs H Q _=>∃(l:Addr) (xs:List V) (ls:List (Str×Int)),vs = [.ref l]/\H l=some (.lst xs)/\ZI H xs ls/\ls.length<=60/\Wk ls 0 /\
 ∀(p:Addr) (H':Hp) (ts:List (List Int)),H p=none->Zi H H'->Uj (Js (Y9 ls)) (Jk ls) ts->H' p=some (.lst ((ts.map (ZaQ (Ya (Y9 ls)))).map V.int))->Q (.ref p) H'
theorem Zi9 {m:Int->Int}{i:Nat}{ts:List (List Int)} (a:Uj m i ts):∀T∈ts,∃n,T.length=2*n:=by
 induction a with
 | nil=>intro T h;cases h
 | add a h t ih=>
  intro T hT
  rcases List.mem_append.mp hT with z | z
  ·exact ih T z
  ·rw [List.mem_singleton.mp z]
   obtain ⟨L,_,_,_,rfl⟩:=t
   exact ⟨L,WH _ _ _⟩
 | skip a h ih=>exact ih
abbrev Zdv:Stmt:=top 28
theorem Zgp:Zz ["drawing", "uppers"] ["drawing"] (Zh Zdv):={}
theorem Zk6 {f:Addr}{fd:FuncData} (F:Yp K "turns" "turns" Zdv f fd) (YF:Yk P w K mg base 4 "uppers_at_ends" ["drawing"] ZbM) (Jw:Yk P w K mg base 2 "steps_down" ["tour", "uppers"] Zds) (Zbb:Yk P w K mg base 5 "tours" ["drawing"] Zdx) (Zbo:mg "abs" = none) (ZeO:mg "sum" = none):Yc P w K mg base J9 6 f fd ["drawing"] ZfF:=by
 refine F.ok Zgp (fun vs H Q E h=>?_) (fun cdv A outer s H vs Q E hr h=>?_)
 ·obtain ⟨l,xs,ls,rfl,_⟩:=h
  rfl
 ·obtain ⟨l,xs,ls,rfl,hl,hL,hlen,hW,k⟩:=h
  have n60:=Zid hW
  have M:=Wy hW
  refine ⟨_,(Zc (Zp (i:=1) Zgp.nd rfl (Or.inr rfl) (Zr YF hr (Za (pv 0) Zb)))
   (Zg (Zv (GF (Ls:=["tour"]) (Fs:=["uppers"]) (fi:=[1]) (ZY.of (show Yv ["drawing", "uppers"] (Zh Zdv) _ ["uppers"] [1]=true by decide +kernel)) rfl (Z8 (K:=K) rfl (Zr Zbb hr (Za (pv 0) Zb))) (fun cl C s3 H3 ex=>⟨(Zl (i:=0) (show ((["tour"]:List Str)++(["uppers"]:List Str)).Nodup by decide +kernel) rfl (Or.inl rfl)),YS,(Zm Zck (Zx ZbP (by rfl) Zbo boot_abs (Za (Zx (Zfe (K:=K) rfl rfl) (by rfl) ZeO boot_sum (Za (Zr Jw hr (Za (pv 0) (Za (pv 1) Zb))) Zb)) Zb)) Ze)⟩))))),?_⟩
  refine ⟨_,rfl,l,xs,ls,rfl,hl,hL,hlen,hW,fun uA H1 fu s1 eu=>?_⟩
  refine ⟨_,rfl,l,xs,ls,rfl,s1 l _ hl,hL.same s1,hlen,hW,fun tsA H2 ys ts ft s2 et rv ap tr=>?_⟩
  have good:=tr.good M (Int.le_refl _)
  have tl:=tr.len M (Int.le_refl _)
  refine ⟨tsA,rfl,⟨_,Zu.of et⟩,JG (K:=K) (a:=tsA) (xs:=ys) (by rw [rv.len];exact Nat.le_of_lt (ZC (by lia))) (fun i zs G=>Zi H2 G/\zs=((ts.take i).map (ZaQ (Ya (Y9 ls)))).map V.int) ⟨Zi.refl _,rfl⟩ (fun i zs G p=>by rw [p.2,List.length_map,List.length_map,List.length_take];lia) (fun i zs G p=>Zu.of (p.1 tsA _ et)) (fun i x zs G hx p=>?_) (fun zs G p D hD=>?_)⟩
  ·obtain ⟨sG,rfl⟩:=p
   obtain ⟨q,T,hT,rfl,hq⟩:=rv.atX hx
   obtain ⟨n,hn⟩:=Zi9 tr T (List.mem_of_getElem? hT)
   have inT:∀x∈T,x∈ts.flatten:=fun x hx=>List.mem_flatten.mpr ⟨T,List.mem_of_getElem? hT,hx⟩
   have sub:T.length<=ts.flatten.length:=by
    obtain ⟨a,b,e⟩:=List.append_of_mem (List.mem_of_getElem? hT)
    rw [e,List.flatten_append,List.flatten_cons,List.length_append,List.length_append]
    lia
   have fs:=WT (Jk ls) ts.flatten good.1 good.2.1
   refine lcG ?_
   refine ⟨_,rfl,_,rfl,q,uA,T,Jk ls,(Y9 ls).map (·.1),n,rfl,sG q _ hq,sG uA _ (s2 uA _ eu),hn,by lia,fun x hx=>good.2.1 x (inT x hx),fun pA G1 ss fp sp ep es _=>?_⟩
   refine ⟨pA,_,rfl,Zu.of ep,_,rfl,_,_,rfl,rfl,⟨by decide,by decide⟩,sG.trans sp,?_⟩
   rw [Jg (ns:=ts) _ hT,List.map_append]
   refine congrArg (fun z=>_ ++ [V.int z]) ?_
   show (if ss.sum<0 then -ss.sum else ss.sum) / 2=_
   rw [es]
   rfl
  ·obtain ⟨sG,rfl⟩:=p
   refine k D _ ts (s1.free (s2.free (sG.free hD))) ((s1.trans (s2.trans sG)).step hD) tr ?_
   rw [Zd,rv.len,List.take_of_length_le (Nat.le_refl _)]
def hAt (dn:Int->Int) (T:List Int):Nat->Int
 | 0=>1
 | i+1=>hAt dn T i-stA dn T i
def plc (T:List Int) (x:Int):Nat:=T.idxOf x
def hgt (dn:Int->Int) (T:List Int) (x:Int):Int:=hAt dn T (plc T x)
theorem ZkC {T:List Int} (nd:T.Nodup) {i:Nat} (hi:i<T.length):plc T T[i]=i:=by
 unfold plc
 exact List.Nodup.idxOf_getElem nd i hi
theorem ZmU {dn:Int->Int}{T:List Int} (nd:T.Nodup) {i:Nat} (hi:i<T.length):hgt dn T T[i]=hAt dn T i:=by
 unfold hgt
 rw [ZkC nd hi]
theorem ZiG (dn:Int->Int) (T:List Int):∀i,hAt dn T i=1-((List.range i).map (stA dn T)).sum
 | 0=>by simp [hAt]
 | i+1=>by
  rw [List.range_succ,List.map_append,List.sum_append]
  show hAt dn T i-stA dn T i=_
  rw [ZiG dn T i]
  simp
  lia
theorem Zhr (m:Int->Int) (f:Int):∀(L j:Nat),j<L->(W6 m f L)[2*j]? = some (gt m f j)/\(W6 m f L)[2*j+1]? = some (m (gt m f j))
 | 0,j,h=>by lia
 | L+1,j,h=>by
  have hl:=WH m f L
  by_cases e:j=L
  ·subst e
   constructor
   ·show (W6 m f j ++ [gt m f j,m (gt m f j)])[2*j]? = _
    rw [List.getElem?_append_right (by lia),hl]
    simp
   ·show (W6 m f j ++ [gt m f j,m (gt m f j)])[2*j+1]? = _
    rw [List.getElem?_append_right (by lia),hl]
    simp [show 2*j+1-2*j=1 by lia]
  ·obtain ⟨a,b⟩:=Zhr m f L j (by lia)
   constructor
   ·show (W6 m f L++_)[2*j]? = _
    rw [List.getElem?_append_left (by lia)];exact a
   ·show (W6 m f L++_)[2*j+1]? = _
    rw [List.getElem?_append_left (by lia)];exact b
structure One (ps:List (Int×Int)) (N:Nat) (T:List Int) (L:Nat):Prop where
 M:J8 (Js ps) N
 fl0:(ZM ps).Nodup
 T_is:T=W6 (Js ps) 0 L
 L1:1<=L
 back:gt (Js ps) 0 L=0
 nd:T.Nodup
 all:∀x:Int,0<=x->x<N->x∈T
 dom:∀x∈T,0<=x/\x<(N:Int)
 zero:fl (Ya ps) T=0
theorem ZlS {ps:List (Int×Int)}{u l b:Int} (nd:(ZM ps).Nodup) (h:(u,l)∈ps) (h2:(l,b)∈ps):False:=by
 induction ps with
 | nil=>cases h
 | cons p r ih=>
  have e:ZM (p::r)=p.1::p.2::ZM r:=by simp [ZM]
  have fr:=nd
  rw [e] at nd
  obtain ⟨n1,nd2⟩:=List.nodup_cons.mp nd
  obtain ⟨n2,nd3⟩:=List.nodup_cons.mp nd2
  have inr:∀{a c:Int},(a,c)∈r->a∈ZM r/\c∈ZM r:=fun {a c} z=>⟨List.mem_flatMap.mpr ⟨(a,c),z,by simp⟩,List.mem_flatMap.mpr ⟨(a,c),z,by simp⟩⟩
  rcases List.mem_cons.mp h with z | z
  ·rcases List.mem_cons.mp h2 with y | y
   ·subst z
    have:(u,l)=(l,b):=y.symm
    have e1:u=l:=congrArg Prod.fst this
    exact Zbx fr (List.mem_cons_self) e1
   ·subst z
    exact n2 (inr y).1
  ·rcases List.mem_cons.mp h2 with y | y
   ·subst y
    exact n1 (List.mem_cons_of_mem _ (inr z).2)
   ·exact ih nd3 z y
namespace One
variable {ps:List (Int×Int)}{N:Nat}{T:List Int}{L:Nat}
theorem len (o:One ps N T L):T.length=2*L:=by rw [o.T_is];exact WH _ _ _
theorem at0 (o:One ps N T L) {j:Nat} (h:j<L):T[2*j]? = some (gt (Js ps) 0 j):=by rw [o.T_is];exact (Zhr _ _ L j h).1
theorem at1 (o:One ps N T L) {j:Nat} (h:j<L):T[2*j+1]? = some (Js ps (gt (Js ps) 0 j)):=by rw [o.T_is];exact (Zhr _ _ L j h).2
theorem hg (o:One ps N T L) {i:Nat}{x:Int} (h:T[i]? = some x):hgt (Ya ps) T x=hAt (Ya ps) T i:=by
 obtain ⟨hi,e⟩:=List.getElem?_eq_some_iff.mp h
 rw [<- e]
 exact ZmU o.nd hi
theorem stE (o:One ps N T L) {j:Nat} (h:j<L):hAt (Ya ps) T (2*j+1)=hAt (Ya ps) T (2*j)-Ya ps (gt (Js ps) 0 j):=by
 show hAt (Ya ps) T (2*j)-stA (Ya ps) T (2*j)=_
 unfold stA
 rw [if_pos (by lia)]
 have:=o.at0 h
 simp [this]
theorem stO (o:One ps N T L) {j:Nat} (h:j<L):hAt (Ya ps) T (2*j+2)=hAt (Ya ps) T (2*j+1)-ev2 (Js ps (gt (Js ps) 0 j)):=by
 show hAt (Ya ps) T (2*j+1)-stA (Ya ps) T (2*j+1)=_
 unfold stA
 rw [if_neg (by lia)]
 have:=o.at1 h
 simp [this]
theorem ZpA (o:One ps N T L):hAt (Ya ps) T (2*L)=1:=by
 rw [ZiG]
 have:=Zh0 (Ya ps) T L (by rw [o.len];exact Nat.le_refl _)
 rw [this,List.take_of_length_le (by rw [o.len];exact Nat.le_refl _),o.zero]
 rfl
theorem on (o:One ps N T L) {x:Int} (h0:0<=x) (h1:x<N):∃j,j<L/\(x=gt (Js ps) 0 j∨x=Js ps (gt (Js ps) 0 j)):=by
 have:=o.all x h0 h1
 rw [o.T_is] at this
 exact Y8.mp this
theorem pos (o:One ps N T L):(0:Int)<N:=by
 have:=o.at0 (j:=0) o.L1
 have h:=o.dom _ (List.mem_of_getElem? this)
 have e:gt (Js ps) 0 0=0:=rfl
 rw [e] at h
 exact h.2
theorem Zmw (o:One ps N T L) (j:Nat):0<=gt (Js ps) 0 j/\gt (Js ps) 0 j<(N:Int):=YJ o.M (by decide) o.pos j
theorem ends (o:One ps N T L) {u l:Int} (h:(u,l)∈ps) (hu:0<=u/\u<(N:Int)):hgt (Ya ps) T u=hgt (Ya ps) T l+1:=by
 obtain ⟨m1,m2⟩:=Zd9 o.fl0 h
 have ne:=Zbx o.fl0 h
 have du:Ya ps u=1:=if_pos (List.mem_map.mpr ⟨(u,l),h,rfl⟩)
 have dl:Ya ps l = -1:=by
  unfold Ya
  rw [if_neg]
  intro z
  obtain ⟨⟨a,b⟩,hab,e⟩:=List.mem_map.mp z
  have e:a=l:=e
  subst e
  have q:=(Zd9 o.fl0 hab).1
  rw [m2] at q
  subst q
  exact ZlS o.fl0 h hab
 obtain ⟨j,hj,c⟩:=o.on hu.1 hu.2
 rcases c with c | c
 ·have a0:=o.at0 hj
  have a1:=o.at1 hj
  rw [<- c] at a0 a1
  rw [m1] at a1
  rw [o.hg a0,o.hg a1,o.stE hj,<- c,du]
  lia
 ·have a0:=o.at0 hj
  have a1:=o.at1 hj
  have e:gt (Js ps) 0 j=l:=by
   have:=o.M.inv _ (o.Zmw j).1 (o.Zmw j).2
   rw [<- c,m1] at this
   exact this.symm
  rw [e] at a0
  rw [<- c] at a1
  rw [o.hg a0,o.hg a1,o.stE hj,e,dl]
  lia
theorem ZjB (o:One ps N T L) {x:Int} (h0:0<=x) (h1:x<N) (hx:x % 2=0):hgt (Ya ps) T x=hgt (Ya ps) T (x+1)+1:=by
 have key:∀y:Int,(∃j,j<L/\y=Js ps (gt (Js ps) 0 j))->0<=y->hgt (Ya ps) T (bw y)=hgt (Ya ps) T y-ev2 y:=by
  rintro y ⟨j,hj,e⟩ _
  have a1:=o.at1 hj
  rw [<- e] at a1
  rw [o.hg a1]
  have nx:gt (Js ps) 0 (j+1)=bw y:=by rw [e];rfl
  have st:=o.stO hj
  rw [<- e] at st
  by_cases lt:j+1<L
  ·have a2:=o.at0 lt
   rw [nx] at a2
   rw [o.hg a2,<- st]
   rfl
  ·have eL:j+1=L:=by lia
   have z0:bw y=0:=by rw [<- nx,eL];exact o.back
   have a0:=o.at0 (j:=0) o.L1
   have e0:gt (Js ps) 0 0=0:=rfl
   rw [e0] at a0
   rw [z0,o.hg a0,<- st]
   have:=o.ZpA
   rw [show 2*L=2*j+2 by lia] at this
   rw [this]
   rfl
 have hb:bw x=x+1:=if_pos hx
 have hb1:bw (x+1)=x:=by rw [<- hb];exact Zc3 x
 have h2:=Zk9 o.M.ev h0 h1
 rw [hb] at h2
 obtain ⟨j,hj,c⟩:=o.on h2.1 h2.2
 rcases c with c | c
 ·
  have hx':∃i,i<L/\x=Js ps (gt (Js ps) 0 i):=by
   cases j with
   | zero=>
    have e0:gt (Js ps) 0 0=0:=rfl
    rw [e0] at c
    lia
   | succ i=>
    refine ⟨i,by lia,?_⟩
    have:gt (Js ps) 0 (i+1)=bw (Js ps (gt (Js ps) 0 i)):=rfl
    rw [this] at c
    rw [<- Zc3 (Js ps (gt (Js ps) 0 i)),<- c,hb1]
  have q:=key x hx' h0
  rw [hb] at q
  have:ev2 x=1:=if_pos hx
  lia
 ·have q:=key (x+1) ⟨j,hj,c⟩ h2.1
  rw [hb1] at q
  have:ev2 (x+1) = -1:=if_neg (by lia)
  lia
theorem h0 (o:One ps N T L):hgt (Ya ps) T 0=1:=by
 have a0:=o.at0 (j:=0) o.L1
 have e0:gt (Js ps) 0 0=0:=rfl
 rw [e0] at a0
 rw [o.hg a0]
 rfl
theorem h1 (o:One ps N T L):hgt (Ya ps) T 1=0:=by
 have:=o.ZjB (x:=0) (by decide) o.pos (by decide)
 rw [o.h0] at this
 have e:(0:Int)+1=1:=rfl
 rw [e] at this
 lia
end One
theorem Zet {m:Int->Int}{ts:List (List Int)} (h:Uj m 0 ts):ts = []:=by cases h;rfl
theorem Zcr {m:Int->Int}:∀{n:Nat}{ts:List (List Int)},Uj m (n+1) ts -> ∃T r,ts=T::r/\Jl m 0 T
 | 0,ts,h=>by
  cases h with
  | add a b c=>rw [Zet a];exact ⟨_,[],rfl,c⟩
  | skip a b=>rw [Zet a] at b;simp at b
 | n+1,ts,h=>by
  cases h with
  | add a b c=>
   obtain ⟨T,r,e,t⟩:=Zcr a
   rw [e]
   exact ⟨T,_,rfl,t⟩
  | skip a b=>exact Zcr a
theorem ZnO (ps:List (Int×Int)) (x:Int):Ya ps x % 2=1:=by unfold Ya;split<;>decide
theorem Zll (x:Int):ev2 x % 2=1:=by unfold ev2;split<;>decide
theorem Zic (ps:List (Int×Int)):∀T:List Int,fl (Ya ps) T % 2=0
 | []=>rfl
 | [_]=>rfl
 | x::y::r=>by
  have h:=Zic ps r
  have a:=ZnO ps x
  have b:=Zll y
  show (Ya ps x+ev2 y+fl (Ya ps) r) % 2=0
  lia
theorem sub_len:∀{l l':List Int},l.Nodup->(∀x∈l,x∈l')->l.length<=l'.length
 | [],_,_,_=>Nat.zero_le _
 | a::r,l',nd,h=>by
  obtain ⟨na,nr⟩:=List.nodup_cons.mp nd
  have ih:=sub_len (l':=l'.erase a) nr fun x hx=>(List.mem_erase_of_ne (fun z:x=a=>na (by rw [<- z];exact hx))).mpr (h x (List.mem_cons_of_mem _ hx))
  have ha:=h a List.mem_cons_self
  rw [List.length_erase_of_mem ha] at ih
  have:0<l'.length:=List.length_pos_of_mem ha
  rw [List.length_cons]
  lia
theorem ZjL {ls:List (Str×Int)}{T:List Int} (hW:Wk ls 0) (tr:Uj (Js (Y9 ls)) (Jk ls) [T]) (h0:ZaQ (Ya (Y9 ls)) T=0):∃L,One (Y9 ls) (Jk ls) T L/\T.length=Jk ls:=by
 have M:=Wy hW
 have nd0:(ZM (Y9 ls)).Nodup:=(WM hW).symm.nodup (Gx _)
 cases e:Jk ls with
 | zero=>rw [e] at tr;exact absurd (Zet tr) (by simp)
 | succ n=>
  rw [e] at tr M
  obtain ⟨T',r,q,t⟩:=Zcr tr
  cases q
  have p0:(0:Int)<((n+1:Nat):Int):=by lia
  obtain ⟨L,L1,bk,no,rfl⟩:=id t
  have nd:=t.nodup M (by decide) p0
  have all:∀x:Int,0<=x->x<((n+1:Nat):Int)->x∈W6 (Js (Y9 ls)) 0 L:=fun x x0 x1=>by
   obtain ⟨k,rfl⟩:=Int.eq_ofNat_of_zero_le x0
   simpa using tr.mem k (by lia)
  refine ⟨L,⟨M,nd0,rfl,L1,bk,nd,all,t.dom M (by decide) p0,?_⟩,?_⟩
  ·have:=Zic (Y9 ls) (W6 (Js (Y9 ls)) 0 L)
   unfold ZaQ Zg4 at h0
   split at h0<;>lia
  ·have a:=t.len M (by decide) p0
   have b:n+1<=(W6 (Js (Y9 ls)) 0 L).length:=by
    have sub:∀x∈Zam (n+1),x∈W6 (Js (Y9 ls)) 0 L:=fun x hx=>all x (YO.mp hx).1 (YO.mp hx).2
    have:=sub_len (Gx (n+1)) sub
    rwa [Uk] at this
   lia
def Zn8:Sp:=fun vs H Q _=>∃(tA uA:Addr) (T:List Int) (ps:List (Int×Int)) (N L:Nat),vs = [.ref tA,.ref uA]/\H tA=some (.lst (T.map V.int))/\H uA=some (.lst (tab N fun x=>V.bl (decide (x∈ps.map (·.1)))))/\One ps N T L/\T.length=N/\N<=120 /\
 ∀(p:Addr) (H':Hp),H p=none->Zi H H'->H' p=some (.lst (tab N fun x=>V.int (hgt (Ya ps) T x)))->Q (.ref p) H'
abbrev Ga:Stmt:=top 30
theorem YG:Zz ["tour", "uppers", "heights", "height", "thread", "step"] ["tour", "uppers"] (Zh Ga):={}
theorem Zot {f:Addr}{fd:FuncData} (F:Yp K "heights_along" "heights_along" Ga f fd) (Jw:Yk P w K mg base 2 "steps_down" ["tour", "uppers"] Zds) (Yw:mg "len" = none) (Zcb:mg "zip" = none):Yc P w K mg base J9 3 f fd ["tour", "uppers"] Zn8:=by
 refine F.ok YG (fun vs H Q E h=>?_) (fun cdv A outer s H vs Q E hr h=>?_)
 ·obtain ⟨tA,uA,T,ps,N,L,rfl,_⟩:=h
  rfl
 ·obtain ⟨tA,uA,T,ps,N,L,rfl,hT,hU,o,hTl,n120,k⟩:=h
  refine ⟨_,(Zc (Zp (i:=2) YG.nd rfl (Or.inl rfl) (Zm ZbA (ZD (Za Ze Zb)) (Zx (YE (K:=K) rfl) (by rfl) Yw PySem.boot_len (Za (pv 0) Zb))))
   (Zc (Zp (i:=3) YG.nd rfl (Or.inl rfl) Ze)
   (Zc (Yq PassesOwn.never rfl (Zil (K:=K) rfl (by rfl) Zcb (Za (pv 0) (Za (Zr Jw hr (Za (pv 0) (Za (pv 1) Zb))) Zb))) (Z6 (K:=K) (n:=2) rfl rfl (Zq (Zl (i:=4) YG.nd rfl (Or.inl rfl)) (Zq (Zl (i:=5) YG.nd rfl (Or.inl rfl)) ZU))) (Zc (Yr (pv 3) (YH (pv 2) (pv 4) set_list))
   (Zg (Zka (i:=3) YG.nd rfl (Or.inl rfl) (pv 5) Znf))))
   (Zg (Zv (pv 2)))))),?_⟩
  refine ⟨(by show 1<=sizeLine;decide),fun l0 hl0=>?_⟩
  have s0:Zi H (upd H l0 (.lst [.int 0])):=Zi.laid hl0
  refine ⟨_,rfl,tA,_,rfl,.inl (Zu.of (s0 _ _ hT)),?_⟩
  rw [List.length_map,hTl]
  refine ⟨l0,_,_,rfl,rfl,Zd,by lia,by lia,(by show 1*_<=sizeLine;exact Nat.le_of_lt (ZC (by lia))),fun hA hhA=>?_⟩
  obtain ⟨H1,e1⟩:∃G,G=upd (upd H l0 (.lst [.int 0])) hA (.lst (List.replicate ((N:Nat):Int).toNat [V.int 0]).flatten):=⟨_,rfl⟩
  rw [<- e1]
  have s1:Zi H H1:=by rw [e1];exact s0.step hhA
  have h1:H1 hA=some (.lst (tab N fun _=>V.int 0)):=by rw [e1,Zd,Int.toNat_natCast,Za7]
  have fh:H hA=none:=s0.free hhA
  refine ⟨_,rfl,_,rfl,_,rfl,tA,uA,T,N,ps.map (·.1),L,rfl,s1 _ _ hT,s1 _ _ hU,o.len,by lia,o.dom,fun sA H2 ss fs s2 es _ ess=>?_⟩
  have dn:(fun x=>if x∈ps.map (·.1) then (1:Int) else -1)=Ya ps:=rfl
  rw [dn] at ess
  have sl:ss.length=T.length:=by rw [ess,List.length_map,List.length_range]
  have s02:=s1.trans s2
  have h2:=s2 _ _ h1
  have nta:tA≠hA:=Zf hT fh
  have nsa:sA≠hA:=(Zf h1 fs).symm
  refine ⟨tA,sA,rfl,⟨_,Zu.of (s02 _ _ hT)⟩,⟨_,Zu.of es⟩,Zml (K:=K) (a:=tA) (b:=sA) (xs:=T.map V.int) (ys:=ss.map V.int) (by rw [List.length_map,List.length_map,sl]) (fun i σ G=>∃(v4 v5:Option V),σ = [some (.ref tA),some (.ref uA),some (.ref hA),some (.int (hAt (Ya ps) T i)),v4,v5]/\Jn hA H2 G /\
   G hA=some (.lst (tab N fun x=>V.int (if plc T x<i then hgt (Ya ps) T x else 0)))) ⟨none,none,rfl,Jn.refl _ _,?_⟩ (fun i σ G ⟨_,_,_,fr,_⟩=>⟨Zu.of (fr _ _ (s02 _ _ hT) nta),Zu.of (fr _ _ es nsa)⟩) ?_ ?_⟩
  ·rw [h2]
   exact congrArg (fun z=>some (HO.lst z)) (Jj fun x _ _=>by simp)
  ·rintro i x y p σ G hx hy ⟨v4,v5,rfl,fr,hG⟩ hp
   obtain ⟨t,ht,rfl⟩:=Wv hx
   obtain ⟨d,hd,rfl⟩:=Wv hy
   have hi:i<T.length:=(List.getElem?_eq_some_iff.mp ht).1
   obtain ⟨d0,d1⟩:=o.dom t (List.mem_of_getElem? ht)
   obtain ⟨tn,rfl⟩:=Int.eq_ofNat_of_zero_le d0
   have hds:d=stA (Ya ps) T i:=by
    rw [ess] at hd
    simp [hi] at hd
    exact hd.symm
   refine ⟨p,_,rfl,YT.of Zd,rfl,_,_,rfl,_,_,rfl,rfl,?_⟩
   have np:hA≠p:=Zf hG hp
   have hG1:(upd G p (.tup [.int (tn:Int),.int d])) hA=some (.lst (tab N fun x=>V.int (if plc T x<i then hgt (Ya ps) T x else 0))):=by rw [Zj np];exact hG
   refine ⟨_,rfl,_,rfl,_,rfl,hA,_,_,tn,rfl,rfl,hG1,(by rw [Gg];exact Y0 (by lia)),?_⟩
   refine ⟨_,rfl,_,rfl,_,_,rfl,rfl,?_⟩
   refine ⟨some (.int (tn:Int)),some (.int d),?_,(fr.new hp).trans Jn.upd,?_⟩
   ·rw [hds];rfl
   ·rw [Zd,ZbY]
    refine congrArg (fun z=>some (HO.lst z)) (Jj fun x x0 x1=>?_)
    have pt:plc T ((tn:Nat):Int)=i:=by
     obtain ⟨_,e⟩:=List.getElem?_eq_some_iff.mp ht
     rw [<- e];exact ZkC o.nd hi
    by_cases e:x=(tn:Int)
    ·rw [if_pos e,e,pt,if_pos (Nat.lt_succ_self i)]
     unfold hgt
     rw [pt]
    ·rw [if_neg e]
     have nx:plc T x≠i:=fun z=>e (by
      have hx:=o.all x x0 x1
      have lt:plc T x<T.length:=List.idxOf_lt_length_of_mem hx
      have gx:T[plc T x]=x:=List.getElem_idxOf lt
      obtain ⟨_,e2⟩:=List.getElem?_eq_some_iff.mp ht
      rw [<- gx,<- e2]
      simp [z])
     by_cases c:plc T x<i
     ·rw [if_pos c,if_pos (by lia)]
     ·rw [if_neg c,if_neg (by lia)]
  ·rintro σ G ⟨v4,v5,rfl,fr,hG⟩
   refine ⟨_,rfl,k hA G fh ?_ ?_⟩
   ·exact fun c u e=>fr c u (s02 c u e) (Zf e fh)
   ·rw [hG]
    refine congrArg (fun z=>some (HO.lst z)) (Jj fun x x0 x1=>?_)
    rw [if_pos]
    rw [List.length_map]
    unfold plc
    exact List.idxOf_lt_length_of_mem (o.all x x0 x1)
def hsB (sc:Int) (ls:List (Str×Int)) (b:Bool):Prop:=(sc=1->b=true)/\(sc≠1 -> ∃ts,Uj (Js (Y9 ls)) (Jk ls) ts/\b=decide (ts.map (ZaQ (Ya (Y9 ls))) = [0]))
def Zm6:Sp:=fun vs H Q _=>∃(l:Addr) (sc:Int) (xs:List V) (ls:List (Str×Int)),vs = [.ref l,.int sc]/\H l=some (.lst xs)/\ZI H xs ls/\ls.length<=60/\Wk ls 0 /\
 ∀(H':Hp) (b:Bool),Zi H H'->hsB sc ls b->Q (.bl b) H'
abbrev Zay:Stmt:=top 31
theorem ZfR:Zz ["drawing", "scale"] ["drawing", "scale"] (Zh Zay):={}
theorem Zow {f:Addr}{fd:FuncData} (F:Yp K "has_scale" "has_scale" Zay f fd) (ZfH:Yk P w K mg base 6 "turns" ["drawing"] ZfF):Yc P w K mg base J9 7 f fd ["drawing", "scale"] Zm6:=by
 refine F.ok ZfR (fun vs H Q E h=>?_) (fun cdv A outer s H vs Q E hr h=>?_)
 ·obtain ⟨l,sc,xs,ls,rfl,_⟩:=h
  rfl
 ·obtain ⟨l,sc,xs,ls,rfl,hl,hL,hlen,hW,k⟩:=h
  refine ⟨_,(Zg (Zv (ZgI (Yg Yi (pv 1) Ze (Zs _)) (GJ (Yg (Zl4 (K:=K) rfl hr.units) (Zr ZfH hr (Za (pv 0) Zb)) (ZD (Za Ze Zb)) (Zs _)))))),?_⟩
  refine ⟨_,rfl,rfl,_,rfl,?_⟩
  refine Z0 (fun c=>?_) (fun c=>?_)
  ·have e:sc=1:=V.int.inj (of_decide_eq_true c)
   exact k H true (Zi.refl _) ⟨fun _=>rfl,fun z=>absurd e z⟩
  ·have e:sc≠1:=fun z=>c (decide_eq_true (congrArg V.int z))
   refine ⟨_,rfl,l,xs,ls,rfl,hl,hL,hlen,hW,fun p H1 ts fp s1 tr ep=>?_⟩
   refine ⟨(by show 1<=sizeLine;decide),fun q hq=>?_⟩
   refine ⟨p,q,ts.map (ZaQ (Ya (Y9 ls))),[0],rfl,rfl,Zu.of ((Zi.laid hq) _ _ ep),Zu.of Zd,?_⟩
   exact k _ _ (s1.step hq) ⟨fun z=>absurd z e,fun _=>⟨ts,tr,rfl⟩⟩
def thV (sc:Int) (ls:List (Str×Int)) (zs:List V):Prop:=(sc=1/\zs=tab (Jk ls) fun _=>V.int 0)∨(sc≠1 /\ ∃T L,Uj (Js (Y9 ls)) (Jk ls) [T]/\ZaQ (Ya (Y9 ls)) T=0/\One (Y9 ls) (Jk ls) T L/\zs=tab (Jk ls) fun x=>V.int (hgt (Ya (Y9 ls)) T x))
def ZmY (C:Addr):Sp:=fun vs H Q E=>∃(l:Addr) (sc:Int) (xs:List V) (ls:List (Str×Int)),vs = [.ref l,.int sc]/\H l=some (.lst xs)/\ZI H xs ls/\ls.length<=60/\Wk ls 0 /\
 (∀(p:Addr) (H':Hp) (zs:List V),H p=none->Zi H H'->H' p=some (.lst zs)->thV sc ls zs->Q (.ref p) H') /\
 (∀(H':Hp) (ts:List (List Int)),Zi H H'->sc≠1->Uj (Js (Y9 ls)) (Jk ls) ts->ts.map (ZaQ (Ya (Y9 ls))) ≠ [0]->E (.ref C) none H')
theorem ZmQ {dn:Int->Int}{ts:List (List Int)} (h:ts.map (ZaQ dn) = [0]):∃T,ts = [T]/\ZaQ dn T=0:=by
 cases ts with
 | nil=>cases h
 | cons T r=>
  cases r with
  | nil=>exact ⟨T,rfl,by simpa using h⟩
  | cons a b=>simp at h
abbrev WC:Stmt:=top 32
theorem ZbO:Zz ["drawing", "scale"] ["drawing", "scale"] (Zh WC):={}
theorem Zov {f ZW:Addr}{fd:FuncData} (F:Yp K "thread_heights" "thread_heights" WC f fd) (J7:mg "NoHeights" = some (.ref ZW)) (W3:PySem.W.excIn K ZW bmV "ValueError.__new__" = true)
  (ZaH:Yk P w K mg base 7 "has_scale" ["drawing", "scale"] Zm6) (JD:Yk P w K mg base 2 "ends_of" ["drawing"] (Ur fun x=>decide (x = "end"))) (Zbb:Yk P w K mg base 5 "tours" ["drawing"] Zdx) (YF:Yk P w K mg base 4 "uppers_at_ends" ["drawing"] ZbM)
  (W9:Yk P w K mg base 3 "heights_along" ["tour", "uppers"] Zn8) (Yw:mg "len" = none):Yc P w K mg base (CX1 P w) 8 f fd ["drawing", "scale"] (ZmY ZW):=by
 refine F.okX ZbO (fun vs H Q E h=>?_) (fun cdv A outer s H vs Q E hr h=>?_)
 ·obtain ⟨l,sc,xs,ls,rfl,_⟩:=h
  rfl
 ·obtain ⟨l,sc,xs,ls,rfl,hl,hL,hlen,hW,k,kx⟩:=h
  have n120:=WD hlen
  have nt:2*(Z9 ls Uz ls.length).length=Jk ls:=by unfold Jk Y9 Jr;rw [List.length_map]
  refine ⟨_,(Zc (ZR (WB (JX (Zr ZaH hr (Za (pv 0) (Za (pv 1) Zb))))) (Zg (ZgZ (by rfl) J7 W3 (Za ZJ Zb))) ZG)
   (Zc (ZR (Zt Yi (pv 1) Ze (Zs _)) (Zg (Zv (Zm ZbA (ZD (Za Ze Zb)) (Zm Wn Ze (Zx (YE (K:=K) rfl) (by rfl) Yw PySem.boot_len (Za (Zr JD hr (Za (pv 0) Zb)) Zb)))))) ZG)
   (Zg (Zv (Zr W9 hr (Za (Zy (Zn (K:=K) rfl) (Zr Zbb hr (Za (pv 0) Zb)) Ze (fun _ _=>rfl)) (Za (Zr YF hr (Za (pv 0) Zb)) Zb))))))),?_⟩
  refine ⟨_,rfl,_,rfl,l,sc,xs,ls,rfl,hl,hL,hlen,hW,fun H1 b s1 hb=>?_⟩
  refine ⟨b,rfl,?_⟩
  cases b with
  | false=>
   refine JN ?_
   refine ⟨(by show 1<=sizeLine;decide),?_⟩
   have ne:sc≠1:=fun z=>by cases hb.1 z
   obtain ⟨ts,tr,e⟩:=hb.2 ne
   exact kx H1 ts s1 ne tr (fun z=>by rw [decide_eq_true z] at e;cases e)
  | true=>
   refine Y5 ?_
   refine ⟨_,rfl,rfl,_,rfl,?_⟩
   refine Z0 (fun c=>?_) (fun c=>?_)
   ·have e:sc=1:=V.int.inj (of_decide_eq_true c)
    refine ⟨(by show 1<=sizeLine;decide),fun l0 hl0=>?_⟩
    have s0:=s1.step (o:=.lst [.int 0]) hl0
    refine ⟨_,rfl,l,xs,ls,rfl,s0 l _ hl,hL.same s0,hlen,hW.kd,fun eA H2 fe s2 ee=>?_⟩
    refine ⟨eA,_,rfl,.inl (Zu.of ee),_,_,rfl,rfl,.inl ⟨by decide,by decide⟩,?_⟩
    have el:((2:Int)*((((Z9 ls (fun x=>decide (x = "end")) ls.length).map V.int).length:Nat):Int))=((Jk ls:Nat):Int):=by
     rw [List.length_map]
     have:(Z9 ls (fun x=>decide (x = "end")) ls.length).length=(Z9 ls Uz ls.length).length:=rfl
     lia
    show ZmZ (V.ref l0) (V.int ((2:Int)*((((Z9 ls (fun x=>decide (x = "end")) ls.length).map V.int).length:Nat):Int))) H2 _
    rw [el]
    refine ⟨l0,_,_,rfl,rfl,s2 l0 _ Zd,by lia,by lia,(by show 1*_<=sizeLine;exact Nat.le_of_lt (ZC (by lia))),fun rA hrA=>?_⟩
    refine k rA _ _ ((s0.trans s2).free hrA) ((s0.trans s2).step hrA) Zd (.inl ⟨e,?_⟩)
    rw [Int.toNat_natCast,Za7]
   ·have e:sc≠1:=fun z=>c (decide_eq_true (congrArg V.int z))
    obtain ⟨ts0,tr0,e0⟩:=hb.2 e
    obtain ⟨T,rfl,t0⟩:=ZmQ (of_decide_eq_true e0.symm)
    obtain ⟨L,o,hTl⟩:=ZjL hW tr0 t0
    refine ⟨_,rfl,l,xs,ls,rfl,s1 l _ hl,hL.same s1,hlen,hW,fun tsA H2 ys ts ft s2 et rv ap tr=>?_⟩
    have ets:ts = [T]:=(tr.uniq tr0)
    subst ets
    obtain ⟨tA,rfl,eT⟩:∃tA,ys = [V.ref tA]/\H2 tA=some (.lst (T.map V.int)):=by
     cases rv with
     | cons a r=>
      cases r
      obtain ⟨q,rfl,hq⟩:=a
      exact ⟨q,rfl,hq⟩
    refine ⟨tsA,_,_,_,rfl,rfl,Zu.of et,Zo (j:=0) rfl,?_⟩
    have s12:=s1.trans s2
    refine ⟨_,rfl,l,xs,ls,rfl,s12 l _ hl,hL.same s12,hlen,hW,fun uA H3 fu s3 eu=>?_⟩
    refine ⟨tA,uA,T,Y9 ls,Jk ls,L,rfl,s3 _ _ eT,eu,o,hTl,n120,fun p H4 fp s4 ep=>?_⟩
    have s04:=(s12.trans s3).trans s4
    exact k p H4 _ ((s12.trans s3).free fp) s04 ep (.inr ⟨e,T,L,tr0,t0,o,rfl⟩)
def kn (kvs:List (Key×V)) (x:Int):Prop:=(JI kvs (Sum.inl x)).isSome=true
structure Dc (g:Int->Int) (H:Hp) (d:Addr) (n:Nat) (kvs:List (Key×V)):Prop where
 at_:H d=some (.dK kvs)
 le:kvs.length<=n
 ok:∀x v,JI kvs (Sum.inl x)=some v->v = .int (g x)
theorem ZcQ {kvs:List (Key×V)}{x y:Int}{v:V}:kn (putK kvs (Sum.inl y) v) x ↔ (x=y∨kn kvs x):=by
 unfold kn
 rw [Zef]
 by_cases e:x=y
 ·rw [if_pos (congrArg Sum.inl e)]
  simp [e]
 ·rw [if_neg (fun z=>e (Sum.inl.inj z))]
  simp [e]
theorem Dc.put {g:Int->Int}{H:Hp}{d:Addr}{n:Nat}{kvs:List (Key×V)}{y:Int} (h:Dc g H d n kvs):Dc g (upd H d (.dK (putK kvs (Sum.inl y) (.int (g y))))) d (n+1) (putK kvs (Sum.inl y) (.int (g y))):=by
 refine ⟨Zd,?_,fun x v e=>?_⟩
 ·have:=WO kvs (Sum.inl y) (.int (g y))
  have:=h.le
  lia
 ·rw [Zef] at e
  split at e
  ·rename_i z
   cases e
   rw [Sum.inl.inj z]
  ·exact h.ok x v e
theorem Dc.val {g:Int->Int}{H:Hp}{d:Addr}{n:Nat}{kvs:List (Key×V)}{x:Int} (h:Dc g H d n kvs) (k:kn kvs x):JI kvs (Sum.inl x)=some (.int (g x)):=by
 unfold kn at k
 cases e:JI kvs (Sum.inl x) with
 | none=>rw [e] at k;cases k
 | some v=>rw [h.ok x v e]
theorem ZeU {g:Int->Int}{tu tl td:TE} {σ:L2.St}{H:Hp}{d:Addr}{n:Nat}{kvs:List (Key×V)}{u l:Int}{D:Ends} (hu:∀(H:Hp) (Q:VK),Q (.int u) H->tu σ H Q) (hl:∀(H:Hp) (Q:VK),Q (.int l) H->tl σ H Q) (hd:∀(H:Hp) (Q:VK),Q (.ref d) H->td σ H Q)
  (dc:Dc g H d n kvs) (hn:n<1000000) (hg:g u=g l+1)
  (k:∀(H':Hp) (kvs':List (Key×V)),Jn d H H'->Dc g H' d (n+1) kvs'->(∀x,kn kvs x->kn kvs' x)->((kn kvs u∨kn kvs l)->kn kvs' u/\kn kvs' l)->D.nx σ H'):
  ZiR (tB (Zkm tu td)) (Zla (tOp (rI0 fun i j=>V.int (i-j)) (tOp Znb td tu) (tC (V.int 1))) (Zna td tl ZjE))
   (ZiR (tB (Zkm tl td)) (Zla (tOp (rI0 fun i j=>V.int (i+j)) (tOp Znb td tl) (tC (V.int 1))) (Zna td tu ZjE)) ZmP) D σ H:=by
 have sz:kvs.length<sizeLine:=by have:=dc.le;rw [sizeLine_eq];lia
 refine hu _ _ (hd _ _ ⟨d,_,rfl,Zbi.k (k:=Sum.inl u) dc.at_,_,rfl,?_⟩)
 refine Z0 (fun c=>?_) (fun c=>?_)
 ·have ku:kn kvs u:=c
  refine hd _ _ (hu _ _ ⟨d,.int (g u),rfl,?_,_,_,rfl,rfl,hd _ _ (hl _ _ ⟨d,_,rfl,ZgG.k (k:=Sum.inl l) dc.at_ sz,?_⟩)⟩)
  ·have:=Zbi.k (k:=Sum.inl u) dc.at_
   rw [dc.val ku] at this
   exact this
  ·have e:g u-1=g l:=by lia
   show D.nx σ (upd H d (.dK (putK kvs (Sum.inl l) (.int (g u-1)))))
   rw [e]
   exact k _ _ Jn.upd dc.put (fun x h=>ZcQ.mpr (.inr h)) (fun _=>⟨ZcQ.mpr (.inr ku),ZcQ.mpr (.inl rfl)⟩)
 ·have nu:¬kn kvs u:=c
  refine hl _ _ (hd _ _ ⟨d,_,rfl,Zbi.k (k:=Sum.inl l) dc.at_,_,rfl,?_⟩)
  refine Z0 (fun c2=>?_) (fun c2=>?_)
  ·have kl:kn kvs l:=c2
   refine hd _ _ (hl _ _ ⟨d,.int (g l),rfl,?_,_,_,rfl,rfl,hd _ _ (hu _ _ ⟨d,_,rfl,ZgG.k (k:=Sum.inl u) dc.at_ sz,?_⟩)⟩)
   ·have:=Zbi.k (k:=Sum.inl l) dc.at_
    rw [dc.val kl] at this
    exact this
   ·have e:g l+1=g u:=hg.symm
    show D.nx σ (upd H d (.dK (putK kvs (Sum.inl u) (.int (g l+1)))))
    rw [e]
    exact k _ _ Jn.upd dc.put (fun x h=>ZcQ.mpr (.inr h)) (fun _=>⟨ZcQ.mpr (.inl rfl),ZcQ.mpr (.inr kl)⟩)
  ·have nl:¬kn kvs l:=c2
   exact k H kvs (Jn.refl _ _) ⟨dc.at_,by have:=dc.le;lia,dc.ok⟩ (fun x h=>h) (fun z=>z.elim (fun y=>absurd y nu) (fun y=>absurd y nl))
theorem One.pair {ps:List (Int×Int)}{N:Nat}{T:List Int}{L:Nat} (o:One ps N T L) (pf:∀x:Int,0<=x->x<N->x∈ZM ps) {x:Int} (h0:0<=x) (h1:x<N):∃u l,(u,l)∈ps/\((x=u/\Js ps x=l)∨(x=l/\Js ps x=u)):=by
 obtain ⟨⟨u,l⟩,hp,hx⟩:=List.mem_flatMap.mp (pf x h0 h1)
 obtain ⟨a,b⟩:=Zd9 o.fl0 hp
 refine ⟨u,l,hp,?_⟩
 rcases List.mem_cons.mp hx with z | z
 ·have z:x=u:=z
  exact .inl ⟨z,by rw [z];exact a⟩
 ·have z:x=l:=List.mem_singleton.mp z
  exact .inr ⟨z,by rw [z];exact b⟩
theorem One.grow {ps:List (Int×Int)}{N:Nat}{T:List Int}{L:Nat} (o:One ps N T L) (pf:∀x:Int,0<=x->x<N->x∈ZM ps) {A B C:List (Key×V)}
  (ab:∀x,kn A x->kn B x) (bc:∀x,kn B x->kn C x) (pe:∀u l,(u,l)∈ps->(kn A u∨kn A l)->kn B u/\kn B l) (pb:∀j:Nat,2*j<N->(kn B (2*j)∨kn B (2*j+1))->kn C (2*j)/\kn C (2*j+1)) {r:Nat}
  (h:∀i x,i<=r->T[i]? = some x->kn A x):∀i x,i<=r+1->T[i]? = some x->kn C x:=by
 intro i x hi hx
 by_cases c:i<=r
 ·exact bc _ (ab _ (h i x c hx))
 ·have e:i=r+1:=by lia
  subst e
  have hlt:r+1<T.length:=(List.getElem?_eq_some_iff.mp hx).1
  have hL:=o.len
  by_cases ev:r % 2=0
  ·obtain ⟨j,rfl⟩:∃j,r=2*j:=⟨r / 2,by lia⟩
   have a0:=o.at0 (j:=j) (by lia)
   have a1:=o.at1 (j:=j) (by lia)
   rw [hx] at a1
   have ex:x=Js ps (gt (Js ps) 0 j):=Option.some.inj a1
   have kA:=h (2*j) _ (Nat.le_refl _) a0
   obtain ⟨u,l,hp,c⟩:=o.pair pf (o.Zmw j).1 (o.Zmw j).2
   rw [ex]
   rcases c with ⟨z1,z2⟩ | ⟨z1,z2⟩
   ·rw [z2];exact bc _ (pe u l hp (.inl (z1 ▸ kA))).2
   ·rw [z2];exact bc _ (pe u l hp (.inr (z1 ▸ kA))).1
  ·obtain ⟨j,rfl⟩:∃j,r=2*j+1:=⟨r / 2,by lia⟩
   have a1:=o.at1 (j:=j) (by lia)
   have a2:=o.at0 (j:=j+1) (by lia)
   have e2:2*(j+1)=2*j+1+1:=by lia
   rw [e2,hx] at a2
   have ex:x=bw (Js ps (gt (Js ps) 0 j)):=Option.some.inj a2
   have kB:=ab _ (h (2*j+1) _ (Nat.le_refl _) a1)
   obtain ⟨y,hy⟩:∃y,y=Js ps (gt (Js ps) 0 j):=⟨_,rfl⟩
   rw [<- hy] at ex kB
   have yd:0<=y/\y<(N:Int):=by rw [hy];exact o.dom _ (List.mem_of_getElem? a1)
   have ne:=o.M.ev
   rw [ex]
   unfold bw
   split
   ·rename_i z
    obtain ⟨q,hq⟩:∃q:Nat,y=2*(q:Int):=⟨(y / 2).toNat,by lia⟩
    rw [hq] at kB yd ⊢
    exact (pb q (by lia) (.inl kB)).2
   ·rename_i z
    obtain ⟨q,hq⟩:∃q:Nat,y=2*(q:Int)+1:=⟨(y / 2).toNat,by lia⟩
    rw [hq] at kB yd ⊢
    have:=(pb q (by lia) (.inr kB)).1
    rwa [show 2*(q:Int)+1-1=2*(q:Int) by lia]
def lhV (sc:Int) (ls:List (Str×Int)) (H H':Hp) (v:V):Prop:=(sc=1 /\ ∃p,v = .ref p/\H p=none/\H' p=some (.lst (tab (Jk ls) fun _=>V.int 0))) ∨
 (sc≠1 /\ ∃ts,Uj (Js (Y9 ls)) (Jk ls) ts/\((ts.map (ZaQ (Ya (Y9 ls))) ≠ [0]/\v = .non)∨(∃p T L,ts = [T]/\ZaQ (Ya (Y9 ls)) T=0/\One (Y9 ls) (Jk ls) T L/\v = .ref p/\H p=none/\H' p=some (.lst (tab (Jk ls) fun x=>V.int (hgt (Ya (Y9 ls)) T x))))))
def ZnY:Sp:=fun vs H Q _=>∃(l:Addr) (sc:Int) (xs:List V) (ls:List (Str×Int)),vs = [.ref l,.int sc]/\H l=some (.lst xs)/\ZI H xs ls/\ls.length<=60/\Wk ls 0 /\
 ∀(v:V) (H':Hp),Zi H H'->lhV sc ls H H' v->Q v H'
theorem ZlC {ls:List (Str×Int)}{ts:List (List Int)} (hW:Wk ls 0) (tr:Uj (Js (Y9 ls)) (Jk ls) ts):(ts.map fun T=>(T.length:Int)).sum=(Jk ls:Int):=by
 have good:=tr.good (Wy hW) (Int.le_refl _)
 have e:∀us:List (List Int),(us.map fun T=>(T.length:Int)).sum=(us.flatten.length:Int):=by
  intro us
  induction us with
  | nil=>rfl
  | cons a r ih=>simp only [List.map_cons,List.sum_cons,ih,List.flatten_cons,List.length_append];lia
 rw [e]
 have a:=WT (Jk ls) ts.flatten good.1 (fun x hx=>good.2.1 x hx)
 have b:Jk ls<=ts.flatten.length:=by
  have:=sub_len (Gx (Jk ls)) (l':=ts.flatten) (fun x hx=>by
   obtain ⟨x0,x1⟩:=YO.mp hx
   obtain ⟨k,rfl⟩:=Int.eq_ofNat_of_zero_le x0
   exact tr.mem k (by lia))
  rwa [Uk] at this
 lia
theorem WV.at' {z:Addr}{dn:Int->Int}{H:Hp}:∀{ys:List V}{ts:List (List Int)}{i:Nat}{x:V},WV z dn H ys ts->ys[i]? = some x -> ∃T,ts[i]? = some T /\ ∃a g,x=V.ref a/\H a=some (.tup [.ref g,.int (Zg4 (fl dn T) / 2)])/\H g=some (.lst (T.map V.int))
 | _,_,_,_,.nil,e=>by simp at e
 | _,_,0,_,.cons ⟨a,g,q,ha,hg,_⟩ _,e=>by simp at e;subst e;exact ⟨_,rfl,a,g,q,ha,hg⟩
 | _,_,i+1,x,.cons _ r,e=>by
  obtain ⟨T,h1,h2⟩:=WV.at' (i:=i) (x:=x) r (by simpa using e)
  exact ⟨T,by simpa using h1,h2⟩
abbrev Jp:Stmt:=top 54
theorem ZX:Zz ["_law_drawing_here", "_law_scale", "_law_walks_here", "_law_many", "_law_rows_here", "_law_found", "_law_turn", "_law_t", "_law_letter", "_law_upper", "_law_lower", "_law_thread"] ["_law_drawing_here", "_law_scale"] (Zh Jp):={}
theorem ZoJ {f:Addr}{fd:FuncData} (F:Yp K "_law_heights" "_law_heights" Jp f fd) (UY:Yk P w K mg base 2 "_law_walks" ["_law_drawing_here"] Zfn) (YN:Yk P w K mg base 1 "_law_rows" ["_law_drawing_here"] ZaR)
  (ZA:mg "enumerate" = none) (ZeO:mg "sum" = none) (Yw:mg "len" = none) (ZT:mg "range" = none):Yc P w K mg base J9 3 f fd ["_law_drawing_here", "_law_scale"] ZnY:=by
 refine F.ok ZX (fun vs H Q E h=>?_) (fun cdv A outer s H vs Q E hr h=>?_)
 ·obtain ⟨l,sc,xs,ls,rfl,_⟩:=h
  rfl
 ·obtain ⟨l,sc,xs,ls,rfl,hl,hL,hlen,hW,k⟩:=h
  have n120:=WD hlen
  have hxl:=hL.len
  refine ⟨_,(Zc (Zp (i:=2) ZX.nd rfl (Or.inl rfl) (Zr UY hr (Za (pv 0) Zb)))
   (Zc (Zp (i:=3) ZX.nd rfl (Or.inl rfl) (Zx (Zfe (K:=K) rfl rfl) (by rfl) ZeO boot_sum (Za (GF (Ls:=["_law_gone", "_law_turn"]) (Fs:=[]) (fi:=[]) (ZY.of (show Yv ["_law_drawing_here", "_law_scale", "_law_walks_here", "_law_many", "_law_rows_here", "_law_found", "_law_turn", "_law_t", "_law_letter", "_law_upper", "_law_lower", "_law_thread"] (Zh Jp) _ [] []=true by decide +kernel)) rfl (Z8 (K:=K) rfl (pv 2)) (fun cl C s3 H3 ex=>⟨(Z6 (K:=K) (n:=2) rfl rfl (Zq (Zl (i:=0) (show ((["_law_gone", "_law_turn"]:List Str)++([]:List Str)).Nodup by decide +kernel) rfl (Or.inl rfl)) (Zq (Zl (i:=1) (show ((["_law_gone", "_law_turn"]:List Str)++([]:List Str)).Nodup by decide +kernel) rfl (Or.inl rfl)) ZU))),YS,(Zx (YE (K:=K) rfl) (by rfl) Yw PySem.boot_len (Za (pv 0) Zb))⟩)) Zb)))
   (Zc (ZR (Zt Yi (pv 1) Ze (Zs _)) (Zg (Zv (Zm ZbA (ZD (Za Ze Zb)) (pv 3)))) ZG)
   (Zc (ZR (PW.pt (ZdB (Zt Zc8 (Zx (YE (K:=K) rfl) (by rfl) Yw PySem.boot_len (Za (pv 2) Zb)) Ze (Zs _)) (ZdE (Zt Zc8 (Zy (Yh (K:=K) rfl) (Zy (Zn (K:=K) rfl) (pv 2) Ze (fun _ _=>rfl)) Ze (fun _ _=>rfl)) Ze (Zs _))))) (Zg (Zv JZ)) ZG)
   (Zc (Zp (i:=4) ZX.nd rfl (Or.inl rfl) (Zr YN hr (Za (pv 0) Zb)))
   (Zc (Zp (i:=5) ZX.nd rfl (Or.inr rfl) (Zl7 (ZgJ Ze Ze (ZgJ Ze Ze ZlQ)) rfl rfl (by intro z;cases z) (by decide)))
   (Zc (Yq PassesOwn.never rfl (YK (by rfl) ZT (Za (pv 3) Zb)) (Zl (i:=6) ZX.nd rfl (Or.inl rfl)) (Zc (Yq PassesOwn.never rfl (JT (K:=K) rfl (by rfl) ZA (Za (pv 0) Zb)) (Z6 (K:=K) (n:=2) rfl rfl (Zq (Zl (i:=7) ZX.nd rfl (Or.inl rfl)) (Zq (Zl (i:=8) ZX.nd rfl (Or.inl rfl)) ZU))) (Zg (ZR (Zt Yi (Zy (Yh (K:=K) rfl) (pv 8) Ze (fun _ _=>rfl)) ZJ (Zs _)) (Zc (Yr (Yy (Jc (K:=K) rfl) (Zy (Zn (K:=K) rfl) (pv 4) (pv 7) (fun _ _=>rfl)) (Ym (Zy (Yh (K:=K) rfl) (pv 8) Ze (fun _ _=>rfl))) (Ym (Zm ZE (Zy (Yh (K:=K) rfl) (pv 8) Ze (fun _ _=>rfl)) Ze))) (Zdu (K:=K) (n:=2) rfl rfl (Zq (Zl (i:=9) ZX.nd rfl (Or.inl rfl)) (Zq (Zl (i:=10) ZX.nd rfl (Or.inl rfl)) ZU))))
   (Zg (ZR (ZfQ (Zf6 (Wl hr) (pv 9) (pv 5))) (Zg (Yr (Zm YU (Zy (U0 (Wl hr)) (pv 5) (pv 9) (fun _ _=>rfl)) Ze) (YH (pv 5) (pv 10) (set_dict (Wl hr))))) (Zg (ZR (ZfQ (Zf6 (Wl hr) (pv 10) (pv 5))) (Zg (Yr (Zm ZE (Zy (U0 (Wl hr)) (pv 5) (pv 10) (fun _ _=>rfl)) Ze) (YH (pv 5) (pv 9) (set_dict (Wl hr))))) ZG))))) ZG)))
   (Zg (Yq PassesOwn.never rfl (Zjh (by rfl) ZT (Za Ze (Za (pv 3) (Za Ze Zb)))) (Zl (i:=11) ZX.nd rfl (Or.inl rfl)) (Zg (ZR (ZfQ (Zf6 (Wl hr) (pv 11) (pv 5))) (Zg (Yr (Zm YU (Zy (U0 (Wl hr)) (pv 5) (pv 11) (fun _ _=>rfl)) Ze) (YH (pv 5) (Zm ZE (pv 11) Ze) (set_dict (Wl hr))))) (Zg (ZR (ZfQ (Zf6 (Wl hr) (Zm ZE (pv 11) Ze) (pv 5))) (Zg (Yr (Zm ZE (Zy (U0 (Wl hr)) (pv 5) (Zm ZE (pv 11) Ze) (fun _ _=>rfl)) Ze) (YH (pv 5) (pv 11) (set_dict (Wl hr))))) ZG))))))))
   (Zg (Zv (GF (Ls:=["_law_thread"]) (Fs:=["_law_found"]) (fi:=[5]) (ZY.of (show Yv ["_law_drawing_here", "_law_scale", "_law_walks_here", "_law_many", "_law_rows_here", "_law_found", "_law_turn", "_law_t", "_law_letter", "_law_upper", "_law_lower", "_law_thread"] (Zh Jp) _ ["_law_found"] [5]=true by decide +kernel)) rfl (YK (by rfl) ZT (Za (pv 3) Zb)) (fun cl C s3 H3 ex=>⟨(Zl (i:=0) (show ((["_law_thread"]:List Str)++(["_law_found"]:List Str)).Nodup by decide +kernel) rfl (Or.inl rfl)),YS,(Zy (U0 (Wl hr)) (pv 1) (pv 0) (fun _ _=>rfl))⟩))))))))))),?_⟩
  refine ⟨_,rfl,l,xs,ls,rfl,hl,hL,hlen,hW,fun wA H1 ys ts fw s1 ew wv tr=>?_⟩
  have good:=tr.good (Wy hW) (Int.le_refl _)
  have tl:=tr.len (Wy hW) (Int.le_refl _)
  have yl:=wv.len
  refine ⟨_,rfl,wA,rfl,⟨_,Zu.of ew⟩,JG (K:=K) (a:=wA) (xs:=ys) (Nat.le_of_lt (ZC (by lia))) (fun i zs G=>Zi H1 G/\zs=((ts.take i).map fun T=>(T.length:Int)).map V.int) ⟨Zi.refl _,rfl⟩
   (fun i zs G q=>by rw [q.2,List.length_map,List.length_map,List.length_take];lia) (fun i zs G q=>Zu.of (q.1 wA _ ew)) (fun i x zs G hx q=>?_) (fun zs G q D hD=>?_)⟩
  ·obtain ⟨sq,rfl⟩:=q
   obtain ⟨T,hT,a,g,rfl,ha,hg⟩:=wv.at' hx
   refine ⟨a,_,rfl,YT.of (sq _ _ ha),rfl,_,_,rfl,_,_,rfl,rfl,?_⟩
   dsimp only [Zg8]
   rw [if_pos rfl]
   refine ⟨_,rfl,g,_,rfl,.inl (Zu.of (sq _ _ hg)),sq,?_⟩
   rw [List.length_map,Jg (ns:=ts) _ hT,List.map_append]
   rfl
  obtain ⟨sq,rfl⟩:=q
  rw [yl,List.take_of_length_le (Nat.le_refl _)]
  refine ⟨D,_,rfl,Zu.of Zd,?_⟩
  rw [ZlC hW tr]
  have s2:=(s1.trans sq).step (o:=.lst ((ts.map fun T=>(T.length:Int)).map V.int)) hD
  have s12:=sq.step (o:=.lst ((ts.map fun T=>(T.length:Int)).map V.int)) hD
  generalize upd G D (.lst ((ts.map fun T=>(T.length:Int)).map V.int))=H2 at *
  have ew2:=s12 _ _ ew
  refine ⟨_,rfl,rfl,_,rfl,?_⟩
  refine Z0 (fun c=>?_) (fun c=>?_)
  ·have e:sc=1:=V.int.inj (of_decide_eq_true c)
   refine ⟨(by show 1<=sizeLine;decide),fun l0 hl0=>⟨_,rfl,?_⟩⟩
   refine ⟨l0,_,_,rfl,rfl,Zd,by lia,by lia,(by show 1*_<=sizeLine;exact Nat.le_of_lt (ZC (by lia))),fun rA hrA=>?_⟩
   refine k _ _ ((s2.step hl0).step hrA) (.inl ⟨e,rA,rfl,(s2.step hl0).free hrA,?_⟩)
   rw [Zd,Int.toNat_natCast,Za7]
  ·have e:sc≠1:=fun z=>c (decide_eq_true (congrArg V.int z))
   refine ⟨_,rfl,wA,_,rfl,.inl (Zu.of ew2),rfl,_,rfl,?_⟩
   by_cases len1:ts.length=1
   ·obtain ⟨T,rfl⟩:∃T,ts = [T]:=by
     cases ts with
     | nil=>simp at len1
     | cons T r=>
      cases r with
      | nil=>exact ⟨T,rfl⟩
      | cons _ _=>simp at len1
    have ly:((ys.length:Nat):Int)=1:=by rw [yl];rfl
    rw [ly]
    refine Zmy rfl ?_
    obtain ⟨T',hT',a,g,e1,ha,hg⟩:=wv.at' (i:=0) (x:=ys[0]'(by rw [yl];exact Nat.zero_lt_one)) (by simp [yl])
    have eT:T'=T:=by simpa using hT'.symm
    subst eT
    refine ⟨_,rfl,wA,_,_,_,rfl,rfl,Zu.of ew2,Zo (j:=0) (by simp [yl];rfl),?_⟩
    rw [e1]
    refine ⟨a,_,_,_,rfl,rfl,YT.of (s12 _ _ ha),Zo (j:=1) rfl,rfl,_,rfl,?_⟩
    by_cases t0:ZaQ (Ya (Y9 ls)) T'=0
    ·have t0':Zg4 (fl (Ya (Y9 ls)) T') / 2=0:=t0
     rw [t0']
     refine Zmy rfl ?_
     obtain ⟨L,o,hTl⟩:=ZjL hW tr t0
     have pf:∀x:Int,0<=x->x<(Jk ls:Int)->x∈ZM (Y9 ls):=fun x x0 x1=>(WM hW).mem_iff.mpr (YO.mpr ⟨x0,x1⟩)
     obtain ⟨gg,hgg⟩:∃gg,gg=hgt (Ya (Y9 ls)) T':=⟨_,rfl⟩
     refine ⟨_,rfl,l,xs,ls,rfl,s2 l _ hl,hL.same s2,hlen,hW,fun R H3 rys fR s3 eR rv ap ndr=>?_⟩
     have s03:=s2.trans s3
     refine fun dA hdA=>⟨Zd,[(Sum.inl 0,.int 1),(Sum.inl 1,.int 0)],rfl,by decide,?_⟩
     have hdH:H dA=none:=s03.free hdA
     have mk:ZcC [] [((Sum.inl 0:Key),V.int 1),(Sum.inl 1,.int 0)] = [((Sum.inl 0:Key),V.int 1),(Sum.inl 1,.int 0)]:=by decide +kernel
     rw [mk,Jy]
     obtain ⟨Hd,hHd⟩:∃Hd,Hd=upd H3 dA (.dK [((Sum.inl 0:Key),V.int 1),(Sum.inl 1,.int 0)]):=⟨_,rfl⟩
     rw [<- hHd]
     have sd:Zi H3 Hd:=by rw [hHd];exact Zi.laid hdA
     have dc0:Dc gg Hd dA 2 [((Sum.inl 0:Key),V.int 1),(Sum.inl 1,.int 0)]:=by
      refine ⟨by rw [hHd];exact Zd,by decide,fun x v e=>?_⟩
      by_cases x0:x=0
      ·subst x0
       rw [YX rfl] at e
       cases e
       rw [hgg,o.h0]
      ·rw [YY (fun z=>x0 (Sum.inl.inj z).symm)] at e
       by_cases x1:x=1
       ·subst x1
        rw [YX rfl] at e
        cases e
        rw [hgg,o.h1]
       ·rw [YY (fun z=>x1 (Sum.inl.inj z).symm)] at e
        cases e
     have hlH3:=s03 l _ hl
     have hL3:=hL.same s03
     have nld:l≠dA:=Zf hlH3 hdA
     have nRd:R≠dA:=Zf eR hdA
     have keepT:∀{G:Hp},Jn dA Hd G -> ∀c o,H3 c=some o->G c=some o:=fun fr c o e=>fr c o (sd c o e) (Zf e hdA)
     refine ⟨_,rfl,_,rfl,by lia,by lia,J6 (n:=((Jk ls:Nat):Int).toNat) (fun r σ G=>∃(kvs:List (Key×V)) (v6 v7 v8 v9 v10 v11:Option V),σ = [some (.ref l),some (.int sc),some (.ref wA),some (.int (Jk ls)),some (.ref R),some (.ref dA),v6,v7,v8,v9,v10,v11]/\Jn dA Hd G/\Dc gg G dA (2+r*200) kvs /\ ∀i x,i<=r->T'[i]? = some x->kn kvs x)
      ⟨_,none,none,none,none,none,none,rfl,Jn.refl _ _,dc0,fun i x hi hx=>?_⟩ ?_ ?_⟩
     ·have:i=0:=by lia
      subst this
      have:=o.at0 (j:=0) o.L1
      rw [show 2*0=0 from rfl,hx] at this
      have e0:x=0:=Option.some.inj this
      rw [e0]
      rfl
     ·rintro r σ G hr' ⟨kvs,v6,v7,v8,v9,v10,v11,rfl,fr,dc,kw⟩
      rw [Int.toNat_natCast] at hr'
      refine ⟨_,rfl,l,rfl,⟨_,Zu.of (keepT fr _ _ hlH3)⟩,GV (K:=K) (a:=l) (xs:=xs) (fun i σ G'=>∃(kv2:List (Key×V)) (v7 v8 v9 v10 v11:Option V),σ = [some (.ref l),some (.int sc),some (.ref wA),some (.int (Jk ls)),some (.ref R),some (.ref dA),some (.int (0+(r:Int))),v7,v8,v9,v10,v11]/\Jn dA Hd G'/\Dc gg G' dA (2+r*200+i) kv2/\(∀x,kn kvs x->kn kv2 x) /\ ∀u w,(u,w)∈Jr ls i->(kn kvs u∨kn kvs w)->kn kv2 u/\kn kv2 w)
       ⟨kvs,_,_,_,_,_,rfl,fr,dc,fun _ h=>h,fun u w h=>by unfold Jr Z9 at h;simp at h⟩ (fun i σ G' _ ⟨_,_,_,_,_,_,_,fr',_⟩=>Zu.of (keepT fr' _ _ hlH3)) ?_ ?_⟩
      ·rintro i x p σ G1 hx ⟨kv2,v7,v8,v9,v10,v11,rfl,fr1,dc1,mono1,pe1⟩ hp
       obtain ⟨⟨qx,qk⟩,ta,hq,rfl,hta⟩:=hL3.get hx
       have hi:i<ls.length:=(List.getElem?_eq_some_iff.mp hq).1
       obtain ⟨G0,hG0⟩:∃G0,G0=upd G1 p (.tup [.int i,.ref ta]):=⟨_,rfl⟩
       have npd:dA≠p:=Zf dc1.at_ hp
       have fr0:Jn dA Hd G0:=by rw [hG0];exact fr1.new hp
       have dc0':Dc gg G0 dA (2+r*200+i) kv2:=⟨by rw [hG0,Zj npd];exact dc1.at_,dc1.le,dc1.ok⟩
       have hta':=keepT fr0 _ _ hta
       have kk:UJ ls Uz i=Uz qx:=by
        unfold UJ
        rw [hq]
        cases h:Uz qx<;>simp [h]
       refine ⟨p,_,rfl,YT.of Zd,rfl,_,_,rfl,_,_,rfl,rfl,?_⟩
       rw [<- hG0]
       refine ⟨_,rfl,ta,_,_,_,rfl,rfl,YT.of hta',Zo (j:=0) rfl,rfl,_,rfl,?_⟩
       refine Z0 (fun hc=>?_) (fun hc=>?_)
       ·have e:qx = "end" := V.str.inj (of_decide_eq_true hc)
        subst e
        obtain ⟨k0,k1,pe⟩:=ZgB hW hq (fun z=>nb2 z)
        obtain ⟨kn',rfl⟩:=Int.eq_ofNat_of_zero_le (show 0<=qk from k0)
        simp only [Int.toNat_natCast] at k1 pe
        obtain ⟨ra,hra,hrr⟩:=rv.at (Za8 ls (i:=i) (n:=ls.length+1) (by lia))
        have ei:UJ ls Uz i=true:=by rw [kk];unfold Uz;simp
        have pin:YV ls i∈Y9 ls:=List.mem_map.mpr ⟨(i:Int),by
         unfold Z9
         exact List.mem_filterMap.mpr ⟨i,List.mem_range.mpr hi,by rw [if_pos ei]⟩,by simp⟩
        have es:Jr ls (i+1)=Jr ls i ++ [YV ls i]:=by rw [Gp,if_pos ei]
        obtain ⟨u,hu⟩:∃u,u=(rowAt ls i).getD kn' 0:=⟨_,rfl⟩
        obtain ⟨w',hw⟩:∃w',w'=(rowAt ls i).getD (kn'+1) 0:=⟨_,rfl⟩
        rw [<- hu,<- hw] at pe
        rw [pe] at pin es
        refine ⟨_,rfl,_,rfl,R,_,_,_,rfl,rfl,Zu.of (keepT fr0 R _ eR),Zo hra,_,rfl,ta,_,_,_,rfl,rfl,YT.of hta',Zo (j:=1) rfl,_,rfl,_,rfl,ta,_,_,_,rfl,rfl,YT.of hta',Zo (j:=1) rfl,_,_,rfl,rfl,_,rfl,ra,_,rfl,Zu.of (keepT fr0 ra _ hrr),fun cA hcA=>?_⟩
        rw [ZfD k1,<- hu,<- hw]
        refine ⟨cA,_,rfl,Zu.of Zd,rfl,_,_,rfl,_,_,rfl,rfl,?_⟩
        have ncd:dA≠cA:=Zf dc0'.at_ hcA
        have fr2:Jn dA Hd (upd G0 cA (.lst [.int u,.int w'])):=fr0.new hcA
        have dc2:Dc gg (upd G0 cA (.lst [.int u,.int w'])) dA (2+r*200+i) kv2:=⟨by rw [Zj ncd];exact dc0'.at_,dc0'.le,dc0'.ok⟩
        have ud:0<=u/\u<(Jk ls:Int):=YO.mp ((WM hW).mem_iff.mp (List.mem_flatMap.mpr ⟨(u,w'),pin,by simp⟩))
        show ZiR (tB (Zkm (Zju 9) (Zju 5))) _ _ _ _ _
        refine ZeU (g:=gg) (u:=u) (l:=w') (d:=dA) (fun H Q q=>⟨_,rfl,q⟩) (fun H Q q=>⟨_,rfl,q⟩) (fun H Q q=>⟨_,rfl,q⟩) dc2 (by lia) (by rw [hgg];exact o.ends pin ud) fun H' kv3 frx dcx mx px=>?_
        refine ⟨kv3,_,_,_,_,_,rfl,fr2.trans frx,dcx,fun x h=>mx x (mono1 x h),fun u2 w2 h h2=>?_⟩
        rw [es] at h
        rcases List.mem_append.mp h with h | h
        ·obtain ⟨a1,a2⟩:=pe1 u2 w2 h h2
         exact ⟨mx _ a1,mx _ a2⟩
        ·have:=List.mem_singleton.mp h
         cases this
         exact px (h2.elim (fun z=>.inl (mono1 _ z)) (fun z=>.inr (mono1 _ z)))
       ·have e:¬qx = "end" := fun z=>hc (decide_eq_true (congrArg V.str z))
        have ei:UJ ls Uz i=false:=by rw [kk];unfold Uz;simp [e]
        have es:Jr ls (i+1)=Jr ls i:=by rw [Gp,ei];simp
        refine ⟨kv2,_,_,_,_,_,rfl,fr0,⟨dc0'.at_,by have:=dc0'.le;lia,dc0'.ok⟩,mono1,?_⟩
        rw [es]
        exact pe1
      ·rintro σ G1 ⟨kv2,v7,v8,v9,v10,v11,rfl,fr1,dc1,mono1,pe1⟩
       have ev2':∃hN:Nat,Jk ls=2*hN:=⟨(Y9 ls).length,rfl⟩
       obtain ⟨hN,hN2⟩:=ev2'
       refine ⟨_,rfl,hN,?_,by lia,ZhE (lo:=0) (n:=hN) (fun j σ G'=>∃(kv3:List (Key×V)) (v11:Option V),σ = [some (.ref l),some (.int sc),some (.ref wA),some (.int (Jk ls)),some (.ref R),some (.ref dA),some (.int (0+(r:Int))),v7,v8,v9,v10,v11]/\Jn dA Hd G'/\Dc gg G' dA (2+r*200+60+j) kv3/\(∀x,kn kv2 x->kn kv3 x) /\ ∀q:Nat,q<j->(kn kv2 (2*q)∨kn kv2 (2*q+1))->kn kv3 (2*q)/\kn kv3 (2*q+1))
        ⟨kv2,_,rfl,fr1,⟨dc1.at_,by have:=dc1.le;lia,dc1.ok⟩,fun _ h=>h,fun q h=>by lia⟩ ?_ ?_⟩
       ·rw [hN2];simp
       ·rintro j σ G2 hj ⟨kv3,v11',rfl,fr2,dc2,mono2,pb2⟩
        have ej:(0:Int)+(j:Int)*2=2*(j:Int):=by lia
        rw [ej]
        show ZiR (tB (Zkm (Zju 11) (Zju 5))) _ _ _ _ _
        refine ZeU (g:=gg) (u:=2*(j:Int)) (l:=2*(j:Int)+1) (d:=dA) (fun H Q q=>⟨_,rfl,q⟩) (fun H Q q=>⟨_,rfl,_,_,rfl,rfl,q⟩) (fun H Q q=>⟨_,rfl,q⟩) dc2 (by lia) (by rw [hgg];exact o.ZjB (by lia) (by lia) (by lia)) fun H' kv4 frx dcx mx px=>?_
        refine ⟨kv4,_,rfl,fr2.trans frx,dcx,fun x h=>mx x (mono2 x h),fun q hq h=>?_⟩
        by_cases c:q<j
        ·obtain ⟨a1,a2⟩:=pb2 q c h
         exact ⟨mx _ a1,mx _ a2⟩
        ·have:q=j:=by lia
         subst this
         exact px (h.elim (fun z=>.inl (mono2 _ z)) (fun z=>.inr (mono2 _ z)))
       ·rintro σ G2 ⟨kv3,v11',rfl,fr2,dc2,mono2,pb2⟩
        refine ⟨kv3,_,_,_,_,_,_,rfl,fr2,⟨dc2.at_,by have:=dc2.le;lia,dc2.ok⟩,?_⟩
        refine o.grow pf mono1 mono2 (fun u w' h h2=>?_) (fun j hj h=>pb2 j (by lia) h) kw
        refine pe1 u w' ?_ h2
        rw [hxl]
        exact h
     ·rintro σ G ⟨kvs,v6,v7,v8,v9,v10,v11,rfl,fr,dc,kw⟩
      rw [Int.toNat_natCast] at kw
      have all:∀x:Int,0<=x->x<(Jk ls:Int)->kn kvs x:=fun x x0 x1=>by
       obtain ⟨i,hi,e⟩:=List.mem_iff_getElem.mp (o.all x x0 x1)
       exact kw i x (by lia) (by simp [hi,e])
      refine ⟨_,rfl,_,rfl,by lia,by lia,Zgi (lo:=0) (n:=((Jk ls:Nat):Int).toNat) (Nat.le_of_lt (ZC (by lia))) (fun i zs G'=>Zi G G'/\zs=(List.range i).map fun (x:Nat)=>V.int (gg (x:Int))) ⟨Zi.refl _,rfl⟩
       (fun i zs G' q=>by rw [q.2];simp) (fun i zs G' hi q=>?_) (fun zs G' q D hD=>?_)⟩
      ·obtain ⟨sq',rfl⟩:=q
       refine lcG ?_
       have kx:=all (i:Int) (by lia) (by lia)
       have dg:=Zbi.k (k:=Sum.inl (0+(i:Int))) (sq' _ _ dc.at_)
       rw [show (0:Int)+(i:Int)=(i:Int) by lia,dc.val kx] at dg
       refine ⟨_,rfl,_,rfl,dA,.int (gg (i:Int)),rfl,?_,sq',?_⟩
       ·rw [show (0:Int)+(i:Int)=(i:Int) by lia];exact dg
       ·rw [List.range_succ,List.map_append];rfl
      ·obtain ⟨sq',rfl⟩:=q
       have sf:Zi H (upd G' D (.lst ((List.range ((Jk ls:Nat):Int).toNat).map fun (x:Nat)=>V.int (gg (x:Int))))):=fun c u e=>(sq'.step hD) c u (keepT fr c u (s03 c u e))
       refine k _ _ sf (.inr ⟨e,_,tr,.inr ⟨D,T',L,rfl,t0,o,rfl,?_,?_⟩⟩)
       ·cases z:H D with
        | none=>rfl
        | some u=>
         have:=(sq' _ _ (keepT fr _ _ (s03 _ _ z)))
         rw [hD] at this
         cases this
       ·rw [Zd,Int.toNat_natCast,hgg]
        rfl
    ·have t1:¬Zg4 (fl (Ya (Y9 ls)) T') / 2=0:=t0
     refine Z0 (fun _=>?_) (fun hc=>absurd ?_ hc)
     ·exact k .non H2 s2 (.inr ⟨e,_,tr,.inl ⟨by simpa using t0,rfl⟩⟩)
     ·show (!decide (V.int (Zg4 (fl (Ya (Y9 ls)) T') / 2)=V.int 0))=true
      rw [decide_eq_false (fun z=>t1 (V.int.inj z))]
      rfl
   ·refine Z0 (fun _=>?_) (fun hc=>absurd ?_ hc)
    ·refine JN (k .non H2 s2 (.inr ⟨e,_,tr,.inl ⟨fun z=>len1 ?_,rfl⟩⟩))
     have:=congrArg List.length z
     simpa using this
    ·show (!decide (V.int (ys.length:Int)=V.int 1))=true
     rw [decide_eq_false (fun z=>len1 (by have:=V.int.inj z;lia))]
     rfl
theorem gK:ZiW "born" = 2/\ZiW "cross" = 0/\ZiW "end" = -2:=⟨by decide +kernel,by decide +kernel,by decide +kernel⟩
theorem wkS {ls:List (Str×Int)}{n:Int} (h:Wk ls n):ZdZ ls=n:=by
 induction h with
 | nil=>rfl
 | born _ _ _ ih=>rw [ZcG,ih,gK.1]
 | cross _ _ _ ih=>rw [ZcG,ih,gK.2.1];lia
 | fin _ _ _ ih=>rw [ZcG,ih,gK.2.2];lia
theorem Zle {A A':List (Str×Int)}{n:Int} (ha:Wk A n) (ha':Wk A' n) {X:List (Str×Int)}{m:Int} (h:Wk X m):∀B,X=A++B->Wk (A'++B) m:=by
 have base:∀{X:List (Str×Int)}{m:Int},Wk X m->X=A->Wk (A' ++ []) m:=fun {X m} hx e=>by
  subst e
  have e1:=wkS hx
  have e2:=wkS ha
  rw [List.append_nil]
  rw [show m=n by lia]
  exact ha'
 have spl:∀{ls B:List (Str×Int)}{p:Str×Int},ls ++ [p]=A++B->(B = []/\ls ++ [p]=A) ∨ ∃B',B=B' ++ [p]/\ls=A++B':=fun {ls B p} e=>by
  rcases List.eq_nil_or_concat B with z | ⟨B',q,z⟩
  rotate_left
  rw [List.concat_eq_append] at z
  rotate_left
  ·subst z
   exact .inl ⟨rfl,by simpa using e⟩
  ·subst z
   rw [<- List.append_assoc] at e
   obtain ⟨e1,e2⟩:=List.append_inj' e rfl
   have e2:p=q:=by simpa using e2
   subst e2
   exact .inr ⟨B',rfl,e1⟩
 induction h with
 | nil=>
  intro B e
  obtain ⟨e1,e2⟩:=List.append_eq_nil_iff.mp e.symm
  subst e2
  exact base .nil e1.symm
 | @born ls n' k h h0 h1 ih=>
  intro B e
  rcases spl e with ⟨z,y⟩ | ⟨B',z,y⟩
  ·subst z;exact base (.born h h0 h1) y
  ·rw [z,<- List.append_assoc];exact .born (ih B' y) h0 h1
 | @cross ls n' k h h0 h1 ih=>
  intro B e
  rcases spl e with ⟨z,y⟩ | ⟨B',z,y⟩
  ·subst z;exact base (.cross h h0 h1) y
  ·rw [z,<- List.append_assoc];exact .cross (ih B' y) h0 h1
 | @fin ls n' k h h0 h1 ih=>
  intro B e
  rcases spl e with ⟨z,y⟩ | ⟨B',z,y⟩
  ·subst z;exact base (.fin h h0 h1) y
  ·rw [z,<- List.append_assoc];exact .fin (ih B' y) h0 h1
def crl (b c:Int):List (Str×Int):=[("born", b),("cross", c),("end", b)]
theorem ZnD {ls:List (Str×Int)}{t:Nat}{b c:Int} (hW:Wk ls 0) (hb0:0<=b) (hb1:b<=ZdZ (ls.take t)) (hc0:0<=c) (hc1:c<=ZdZ (ls.take t)):Wk (ls.take t++crl b c++ls.drop t) 0:=by
 obtain ⟨n,hn⟩:=Zbc hW t
 have en:=wkS hn
 rw [en] at hb1 hc1
 have w1:=Wk.born (k:=b) hn hb0 hb1
 have w2:=Wk.cross (k:=c) w1 hc0 (by lia)
 have w3:=Wk.fin (k:=b) w2 hb0 (by lia)
 have e:ls.take t ++ [(("born" : Str),b)] ++ [(("cross" : Str),c)] ++ [(("end" : Str),b)]=ls.take t++crl b c:=by simp [crl]
 rw [e,show n+2-2=n by lia] at w3
 exact Zle hn w3 hW (ls.drop t) (List.take_append_drop t ls).symm
theorem Zim:∀ls:List (Str×Int),(∀p∈ls,Kd p.1)->2*(((ls.map fun p=>V.str p.1).countP fun z=>eqV z (.str "born"):Nat):Int)-2*(((ls.map fun p=>V.str p.1).countP fun z=>eqV z (.str "end"):Nat):Int)=ZdZ ls
 | [],_=>rfl
 | p::r,h=>by
  have ih:=Zim r fun q hq=>h q (List.mem_cons_of_mem _ hq)
  have gk:=gK
  have e:ZdZ (p::r)=ZiW p.1+ZdZ r:=by unfold ZdZ;simp
  have eqs:∀x y:Str,eqV (V.str x) (V.str y)=decide (x=y):=fun x y=>by
   unfold eqV
   by_cases z:x=y<;>simp [z]
  rw [List.map_cons,List.countP_cons,List.countP_cons,e,<- ih,eqs,eqs]
  rcases h p List.mem_cons_self with z | z | z
  ·rw [z,gk.1]
   simp [show ¬(("born" : Str) = "end") by decide +kernel]
   lia
  ·rw [z,gk.2.1]
   simp [show ¬(("cross" : Str) = "end") by decide +kernel,show ¬(("cross" : Str) = "born") by decide +kernel]
  ·rw [z,gk.2.2]
   simp [show ¬(("end" : Str) = "born") by decide +kernel]
   lia
theorem Zjc {H:Hp}{xs:List V}{ls:List (Str×Int)} (h:ZI H xs ls):∀t,ZI H (xs.take t) (ls.take t):=by
 induction h with
 | nil=>intro t;rw [List.take_nil,List.take_nil];exact .nil
 | cons a _ ih=>
  intro t
  cases t with
  | zero=>exact .nil
  | succ n=>exact .cons a (ih n)
theorem Zi7 {H:Hp}{xs:List V}{ls:List (Str×Int)} (h:ZI H xs ls):∀t,ZI H (xs.drop t) (ls.drop t):=by
 induction h with
 | nil=>intro t;rw [List.drop_nil,List.drop_nil];exact .nil
 | cons a b ih=>
  intro t
  cases t with
  | zero=>exact .cons a b
  | succ n=>exact ih n
theorem Ys {H H':Hp}{b:Addr} (s:Zi H H') (x:Bag H b):Bag H' b:=let ⟨g,r,h,e⟩:=x;⟨g,r,h,s _ _ e⟩
theorem lay {G:Hp}{c:Addr}{o:HO} (fc:G c=none):∃G',upd G c o=G'/\Zi G G'/\G' c=some o:=⟨_,rfl,Zi.laid fc,Zd⟩
theorem ZjV (xs:List V) (k:Nat):GN xs (some (k:Int)) none=xs.drop k:=by
 unfold GN
 rw [HT.Zei,HT.Zcc]
 by_cases h:k<=xs.length
 ·rw [Nat.min_eq_left h,List.take_of_length_le (by rw [List.length_drop];lia)]
 ·rw [Nat.min_eq_right (by lia),Nat.sub_self,List.take_zero,List.drop_of_length_le (by lia)]
def Zf9:Sp:=fun vs H Q _=>∃(b l0:Addr) (m:Int) (ls0:List (Str×Int)),vs = [.ref b,.ref l0,.int m]/\Bag H b/\Drw H l0 ls0/\l0≠b/\ls0.length<=40/\nX ls0<=13/\0<=m/\m<=3 /\ ∀(l:Addr) (H':Hp) (ls:List (Str×Int)),H l=none->Bag H' b->Jn b H H'->Drw H' l ls->nX ls<=13->Q (.ref l) H'
theorem ZiP (ls:List (Str×Int)):((ls.map fun p=>V.str p.1).countP fun z=>eqV z (.str "cross"))=nX ls:=by
 unfold nX
 rw [List.countP_map]
 refine List.countP_congr fun p _=>?_
 simp [eqV]
abbrev WJ:Stmt:=top 58
theorem Yd:Zz ["_law_bag_here", "_law_letters", "_law_most", "_law_found", "_law_turn", "_law_t", "_law_words", "_law_many", "_law_k", "_law_three"] ["_law_bag_here", "_law_letters", "_law_most"] (Zh WJ):={}
theorem Zi0 {f:Addr}{fd:FuncData} (F:Yp K "_law_curled" "_law_curled" WJ f fd) (Zw:Yk P w K mg base 1 "_law_take" ["_law_bag_here", "_law_many"] Zaz) (Yj:mg "list" = none) (ZT:mg "range" = none) (Yw:mg "len" = none) (GS:mg "max" = none):
  Yc P w K mg base J9 2 f fd ["_law_bag_here", "_law_letters", "_law_most"] Zf9:=by
 refine F.ok Yd (fun vs H Q E h=>?_) (fun cdv A outer s H vs Q E hr h=>?_)
 ·obtain ⟨b,l0,m,ls0,rfl,_⟩:=h
  rfl
 ·obtain ⟨b,l0,m,ls0,rfl,hbag,dr,l0b,len0,nx0,m0,m3,k⟩:=h
  refine ⟨_,(Zc (Zp (i:=3) Yd.nd rfl (Or.inl rfl) (Yl (YZ (K:=K) rfl) (by rfl) Yj boot_list (Za (pv 1) Zb)))
   (Zc (Yq PassesOwn.never rfl (YK (by rfl) ZT (Za (Zr Zw hr (Za (pv 0) (Za (Zm ZE (pv 2) Ze) Zb))) Zb)) (Zl (i:=4) Yd.nd rfl (Or.inl rfl)) (Zc (Zp (i:=5) Yd.nd rfl (Or.inl rfl) (Zr Zw hr (Za (pv 0) (Za (Zm ZE (Zx (YE (K:=K) rfl) (by rfl) Yw PySem.boot_len (Za (pv 3) Zb)) Ze) Zb))))
   (Zc (ZdD (i:=6) Yd.nd rfl (Or.inl rfl) (Ls:=["_law_letter"]) (Fs:=[]) (fi:=[]) (ZY.of (show Yv ["_law_bag_here", "_law_letters", "_law_most", "_law_found", "_law_turn", "_law_t", "_law_words", "_law_many", "_law_k", "_law_three"] (Zh WJ) _ [] []=true by decide +kernel)) rfl (Z8 (K:=K) rfl (pv 3)) (fun cl C s3 H3 ex=>⟨(Zl (i:=0) (show ((["_law_letter"]:List Str)++([]:List Str)).Nodup by decide +kernel) rfl (Or.inl rfl)),YS,(Zy (Yh (K:=K) rfl) (pv 0) Ze (fun _ _=>rfl))⟩))
   (Zc (Zp (i:=7) Yd.nd rfl (Or.inl rfl) (Zm YU (Zm Wn Ze (Yb (K:=K) rfl (Yx PySem.F.plainAttrs_list PySem.F.slot_list_count PySem.F.type_list_count (Za5 (K:=K) rfl) (Yy (Jc (K:=K) rfl) (pv 6) Jv (Ym (pv 5))) (Za ZJ Zb)))) (Zm Wn Ze (Yb (K:=K) rfl (Yx PySem.F.plainAttrs_list PySem.F.slot_list_count PySem.F.type_list_count (Za5 (K:=K) rfl) (Yy (Jc (K:=K) rfl) (pv 6) Jv (Ym (pv 5))) (Za ZJ Zb))))))
   (Zc (Zp (i:=8) Yd.nd rfl (Or.inl rfl) (Zr Zw hr (Za (pv 0) (Za (Zx (Gq rfl) (by rfl) GS boot_max (Za Ze (Za (pv 7) Zb))) Zb))))
   (Zc (Zp (i:=9) Yd.nd rfl (Or.inl rfl) (ZD (Za (ZQ (Za ZJ (Za (pv 8) Zb))) (Za (ZQ (Za ZJ (Za (Zm ZE (pv 8) Ze) Zb))) (Za (ZQ (Za ZJ (Za (pv 8) Zb))) Zb)))))
   (Zlf (ZR (Zt Yi (Zr Zw hr (Za (pv 0) (Za Ze Zb))) Ze (Zs _)) (Zg (Zp (i:=9) Yd.nd rfl (Or.inl rfl) (ZD (Za (ZQ (Za ZJ (Za (Zm ZE (pv 8) Ze) Zb))) (Za (ZQ (Za ZJ (Za (pv 8) Zb))) (Za (ZQ (Za ZJ (Za (Zm ZE (pv 8) Ze) Zb))) Zb)))))) ZG)
   (Zg (ZR (PW.pt (WE (Zkx Gf Gf Ze (pv 7) Ze) (WE (Zt Gf (Yb (K:=K) rfl (Yx PySem.F.plainAttrs_list PySem.F.slot_list_count PySem.F.type_list_count (Za5 (K:=K) rfl) (pv 6) (Za ZJ Zb))) Ze (Zs _)) (Gi (Zt Gf (Yb (K:=K) rfl (Yx PySem.F.plainAttrs_list PySem.F.slot_list_count PySem.F.type_list_count (Za5 (K:=K) rfl) (pv 6) (Za ZJ Zb))) Ze (Zs _)))))) (Zg (Zp (i:=3) Yd.nd rfl (Or.inl rfl) (Zm Ws (Zm Ws (Yy (Jc (K:=K) rfl) (pv 3) Jv (Ym (pv 5))) (pv 9)) (Yy (Jc (K:=K) rfl) (pv 3) (Ym (pv 5)) Jv)))) ZG)))))))))
   (Zg (Zv (pv 3))))),?_⟩
  obtain ⟨xs0,hl0,hL0,hW0,hlen0⟩:=dr
  refine ⟨_,rfl,l0,xs0,rfl,.inl (Zu.of hl0),fun l hl=>?_⟩
  have s1:=Zi.laid (o:=.lst xs0) hl
  have el1:upd H l (.lst xs0) l=some (.lst xs0):=Zd
  generalize upd H l (.lst xs0)=H1 at *
  have bg1:=Ys s1 hbag
  have nb:∀{c:Addr},H c=none->c≠b:=fun {c} h z=>by
   obtain ⟨_,_,_,e⟩:=hbag
   rw [z,e] at h
   cases h
  refine ⟨_,rfl,_,rfl,_,_,rfl,rfl,b,_,rfl,bg1,by lia,by lia,fun d H2 d0 d1 bg2 f2=>?_⟩
  refine ⟨_,rfl,by lia,by lia,J6 (n:=d.toNat) (fun i σ G=>∃(lA:Addr) (xs:List V) (ls:List (Str×Int)) (v4 v5 v6 v7 v8 v9:Option V),σ = [some (.ref b),some (.ref l0),some (.int m),some (.ref lA),v4,v5,v6,v7,v8,v9]/\Bag G b/\Jn b H G/\H lA=none/\G lA=some (.lst xs)/\ZI G xs ls/\Wk ls 0/\ls.length<=40+3*i/\nX ls<=13)
   ⟨l,xs0,ls0,none,none,none,none,none,none,rfl,bg2,s1.frm.trans f2,hl,f2 _ _ el1 (nb hl),(hL0.same s1).frm f2 bg1,hW0,by lia,nx0⟩ ?_ ?_⟩
  ·rintro i σ G hi ⟨lA,xs,ls,v4,v5,v6,v7,v8,v9,rfl,bg,fr,flA,hG,hL,hW,hlen,hnx⟩
   have hxl:=hL.len
   have i3:i<4:=by lia
   have nlb:=nb flA
   refine ⟨_,rfl,_,rfl,lA,_,rfl,.inl (Zu.of hG),_,_,rfl,rfl,b,_,rfl,bg,by lia,by lia,fun t' G1 e0 e1 bg1' f1=>?_⟩
   obtain ⟨t,rfl⟩:=Int.eq_ofNat_of_zero_le e0
   have hG1:=f1 _ _ hG nlb
   have hL1:=hL.frm f1 bg
   have tl:t<=ls.length:=by lia
   refine ⟨_,rfl,lA,rfl,⟨_,Zu.of hG1⟩,JG (K:=K) (a:=lA) (xs:=xs) (Nat.le_of_lt (ZC (by lia))) (fun j zs G'=>Zi G1 G'/\zs=(ls.take j).map fun p=>V.str p.1) ⟨Zi.refl _,rfl⟩
    (fun j zs G' q=>by rw [q.2,List.length_map,List.length_take];exact Nat.min_le_left _ _) (fun j zs G' q=>Zu.of (q.1 _ _ hG1)) (fun j x zs G' hx q=>?_) (fun zs G' q wA hwA=>?_)⟩
   ·obtain ⟨sq,rfl⟩:=q
    obtain ⟨p,ta,hp,rfl,hta⟩:=hL1.get hx
    refine lcG ⟨_,rfl,ta,_,_,_,rfl,rfl,YT.of (sq _ _ hta),Zo (j:=0) rfl,sq,?_⟩
    rw [Jg (ns:=ls) _ hp]
   obtain ⟨sq,rfl⟩:=q
   rw [hxl,List.take_of_length_le (Nat.le_refl _)]
   have s2:Zi G1 (upd G' wA (.lst (ls.map fun p=>V.str p.1))):=sq.step hwA
   have ew:(upd G' wA (.lst (ls.map fun p=>V.str p.1))) wA=some (.lst (ls.map fun p=>V.str p.1)):=Zd
   generalize upd G' wA (.lst (ls.map fun p=>V.str p.1))=G2 at *
   have fs:∀r:List (Str×Int),(r.map fun p=>V.str p.1).all WU=true:=fun r=>by
    rw [List.all_eq_true]
    intro x hx
    obtain ⟨p,_,rfl⟩:=List.mem_map.mp hx
    rfl
   have ect:GN (ls.map fun p=>V.str p.1) none (some (t:Int))=(ls.take t).map fun p=>V.str p.1:=by
    rw [ZjU (xs:=ls.map fun p=>V.str p.1) (t:=t) (by rw [List.length_map];exact tl),List.map_take]
   refine ⟨_,rfl,_,rfl,_,rfl,wA,_,rfl,Zu.of ew,fun c1 hc1=>?_⟩
   rw [ect]
   obtain ⟨G3,z,s3,e3⟩:=lay (o:=.lst ((ls.take t).map fun p=>V.str p.1)) hc1
   rw [z];clear z
   refine ⟨.inl ⟨rfl,_,Zu.of e3⟩,c1,_,_,rfl,rfl,Zu.of e3,rfl,fs _,_,_,rfl,rfl,.inl ⟨by decide,by decide⟩,?_⟩
   refine ⟨_,rfl,_,rfl,_,rfl,wA,_,rfl,Zu.of (s3 _ _ ew),fun c2 hc2=>?_⟩
   rw [ect]
   obtain ⟨G4,z,s4,e4⟩:=lay (o:=.lst ((ls.take t).map fun p=>V.str p.1)) hc2
   rw [z];clear z
   refine ⟨.inl ⟨rfl,_,Zu.of e4⟩,c2,_,_,rfl,rfl,Zu.of e4,rfl,fs _,_,_,rfl,rfl,.inl ⟨by decide,by decide⟩,_,_,rfl,rfl,?_⟩
   have cs:=Zim (ls.take t) fun p hp=>hW.kd p (List.mem_of_mem_take hp)
   obtain ⟨mm,hm⟩:∃mm,mm=ZdZ (ls.take t):=⟨_,rfl⟩
   dsimp only
   rw [cs,<- hm]
   have m120:mm<=1000:=by
    rw [hm]
    obtain ⟨n,hn⟩:=Zbc hW t
    have:=U9 hn
    rw [wkS hn]
    rw [List.length_take] at this
    lia
   have s14:Zi G1 G4:=(s2.trans s3).trans s4
   have bg4:=Ys s14 bg1'
   refine ⟨_,rfl,_,rfl,_,_,rfl,b,_,rfl,bg4,(by split<;>lia),(by split<;>lia),fun kk G5 k0 k1 bg5 f5=>?_⟩
   have hG5:=f5 _ _ (s14 _ _ hG1) nlb
   have hL5:ZI G5 xs ls:=(hL1.same s14).frm f5 bg4
   have fr5:Jn b H G5:=((fr.trans f1).trans s14.frm).trans f5
   have nwb:wA≠b:=fun z=>by
    obtain ⟨_,_,_,e⟩:=Ys sq bg1'
    rw [z,e] at hwA
    cases hwA
   have ew5:=f5 _ _ (s4 _ _ (s3 _ _ ew)) nwb
   have three:∀{X X1 X2 X3 X4:Hp}{u1 u2 u3 cA:Addr}{p q:Int},Zi X X1->X1 u1=some (.tup [.str "born", .int p])->Zi X1 X2->X2 u2=some (.tup [.str "cross", .int q])->Zi X2 X3->X3 u3=some (.tup [.str "end", .int p])->Zi X3 X4->X4 cA=some (.lst [.ref u1,.ref u2,.ref u3])->ZI X4 [.ref u1,.ref u2,.ref u3] (crl p q):=fun a1 b1 a2 b2 a3 b3 a4 b4=>
    .cons ⟨_,rfl,a4 _ _ (a3 _ _ (a2 _ _ b1))⟩ (.cons ⟨_,rfl,a4 _ _ (a3 _ _ b2)⟩ (.cons ⟨_,rfl,a4 _ _ b3⟩ .nil))
   refine ⟨_,rfl,(by show 2<=sizeLine;decide),fun u1 hu1=>?_⟩
   obtain ⟨X1,z,a1,b1⟩:=lay (o:=.tup [.str "born", .int kk]) hu1
   rw [z];clear z
   refine ⟨_,rfl,_,_,rfl,rfl,(by show 2<=sizeLine;decide),fun u2 hu2=>?_⟩
   obtain ⟨X2,z,a2,b2⟩:=lay (o:=.tup [.str "cross", .int (kk+1)]) hu2
   rw [z];clear z
   refine ⟨_,rfl,(by show 2<=sizeLine;decide),fun u3 hu3=>?_⟩
   obtain ⟨X3,z,a3,b3⟩:=lay (o:=.tup [.str "end", .int kk]) hu3
   rw [z];clear z
   refine ⟨(by show 3<=sizeLine;decide),fun cA hcA=>?_⟩
   obtain ⟨X4,z,a4,b4⟩:=lay (o:=.lst [.ref u1,.ref u2,.ref u3]) hcA
   rw [z];clear z
   have L4:=three a1 b1 a2 b2 a3 b3 a4 b4
   have s54:=((a1.trans a2).trans a3).trans a4
   refine ⟨fun σ G=>∃(cA:Addr) (ts:List V) (p q:Int),σ = [some (.ref b),some (.ref l0),some (.int m),some (.ref lA),some (.int (0+(i:Int))),some (.int (t:Nat)),some (.ref wA),some (.int mm),some (.int kk),some (.ref cA)]/\Bag G b/\Jn b H G/\G lA=some (.lst xs)/\ZI G xs ls/\G wA=some (.lst (ls.map fun p=>V.str p.1))/\G cA=some (.lst ts)/\ZI G ts (crl p q)/\0<=p/\p<=kk+1/\0<=q/\q<=kk+1,?_,?_⟩
   ·refine ⟨_,rfl,b,2,rfl,Ys s54 bg5,by decide,by decide,fun sd Y sd0 sd1 bgY fY=>⟨rfl,_,rfl,?_⟩⟩
    have ncb:cA≠b:=fun z=>by
     obtain ⟨_,_,_,e⟩:=Ys ((a1.trans a2).trans a3) bg5
     rw [z,e] at hcA
     cases hcA
    have frY:Jn b H Y:=(fr5.trans s54.frm).trans fY
    have hLY:ZI Y xs ls:=(hL5.same s54).frm fY (Ys s54 bg5)
    have hGY:=fY _ _ (s54 _ _ hG5) nlb
    have ewY:=fY _ _ (s54 _ _ ew5) nwb
    refine Z0 (fun _=>?_) (fun _=>?_)
    ·refine ⟨_,rfl,_,_,rfl,rfl,(by show 2<=sizeLine;decide),fun w1 hw1=>?_⟩
     obtain ⟨Y1,z,c1',d1'⟩:=lay (o:=.tup [.str "born", .int (kk+1)]) hw1
     rw [z];clear z
     refine ⟨_,rfl,(by show 2<=sizeLine;decide),fun w2 hw2=>?_⟩
     obtain ⟨Y2,z,c2',d2'⟩:=lay (o:=.tup [.str "cross", .int kk]) hw2
     rw [z];clear z
     refine ⟨_,rfl,_,_,rfl,rfl,(by show 2<=sizeLine;decide),fun w3 hw3=>?_⟩
     obtain ⟨Y3,z,c3',d3'⟩:=lay (o:=.tup [.str "end", .int (kk+1)]) hw3
     rw [z];clear z
     refine ⟨(by show 3<=sizeLine;decide),fun cB hcB=>?_⟩
     obtain ⟨Y4,z,c4',d4'⟩:=lay (o:=.lst [.ref w1,.ref w2,.ref w3]) hcB
     rw [z];clear z
     have sY:=((c1'.trans c2').trans c3').trans c4'
     exact ⟨cB,_,_,_,rfl,Ys sY bgY,frY.trans sY.frm,sY _ _ hGY,hLY.same sY,sY _ _ ewY,d4',three c1' d1' c2' d2' c3' d3' c4' d4',by lia,by lia,by lia,by lia⟩
    ·exact ⟨cA,_,_,_,rfl,bgY,frY,hGY,hLY,ewY,fY _ _ b4 ncb,L4.frm fY (Ys s54 bg5),by lia,by lia,by lia,by lia⟩
   ·rintro σ Y ⟨cA,ts,p,q,rfl,bgY,frY,hGY,hLY,ewY,ecY,lcY,p0,p1,q0,q1⟩
    refine ⟨_,rfl,_,_,rfl,rfl,_,rfl,Z0 (fun h1=>?_) (fun h1=>?_)⟩
    rotate_left
    ·refine ⟨_,rfl,Y5 (Y5 ?_)⟩
     exact ⟨lA,xs,ls,_,_,_,_,_,_,rfl,bgY,frY,flA,hGY,hLY,hW,by lia,hnx⟩
    have m1:0<mm:=of_decide_eq_true h1
    refine ⟨_,_,rfl,rfl,_,rfl,Z0 (fun h2=>?_) (fun h2=>?_)⟩
    rotate_left
    ·refine Y5 ?_
     exact ⟨lA,xs,ls,_,_,_,_,_,_,rfl,bgY,frY,flA,hGY,hLY,hW,by lia,hnx⟩
    refine ⟨_,rfl,.inl ⟨rfl,_,Zu.of ewY⟩,wA,_,_,rfl,rfl,Zu.of ewY,rfl,fs _,_,_,rfl,rfl,_,rfl,Z0 (fun h3=>?_) (fun h3=>?_)⟩
    rotate_left
    ·refine Y5 ?_
     exact ⟨lA,xs,ls,_,_,_,_,_,_,rfl,bgY,frY,flA,hGY,hLY,hW,by lia,hnx⟩
    refine ⟨_,rfl,.inl ⟨rfl,_,Zu.of ewY⟩,wA,_,_,rfl,rfl,Zu.of ewY,rfl,fs _,_,_,rfl,rfl,_,rfl,Z0 (fun h4=>?_) (fun h4=>?_)⟩
    rotate_left
    ·exact ⟨lA,xs,ls,_,_,_,_,_,_,rfl,bgY,frY,flA,hGY,hLY,hW,by lia,hnx⟩
    have h4:(((ls.map fun p=>V.str p.1).countP fun z=>eqV z (.str "cross"):Nat):Int)<12:=of_decide_eq_true h4
    rw [ZiP] at h4
    have k1':kk<mm:=by revert k1;split<;>lia
    refine ⟨_,rfl,_,rfl,_,rfl,lA,_,rfl,Zu.of hGY,fun f1 hf1=>?_⟩
    rw [ZjU (xs:=xs) (t:=t) (by lia)]
    obtain ⟨Z1,z,g1,j1⟩:=lay (o:=.lst (xs.take t)) hf1
    rw [z];clear z
    have lct:=lcY.len
    refine ⟨_,rfl,f1,cA,_,_,rfl,rfl,j1,g1 _ _ ecY,(by rw [List.length_take,lct,sizeLine_eq];show min t xs.length+3<=_;lia),fun f2 hf2=>?_⟩
    obtain ⟨Z2,z,g2,j2⟩:=lay (o:=.lst (xs.take t++ts)) hf2
    rw [z];clear z
    have g12:=g1.trans g2
    refine ⟨_,rfl,_,rfl,_,rfl,lA,_,rfl,Zu.of (g12 _ _ hGY),fun f3 hf3=>?_⟩
    rw [ZjV]
    obtain ⟨Z3,z,g3,j3⟩:=lay (o:=.lst (xs.drop t)) hf3
    rw [z];clear z
    refine ⟨f2,f3,_,_,rfl,rfl,g3 _ _ j2,j3,(by rw [List.length_append,List.length_take,List.length_drop,lct,sizeLine_eq];show min t xs.length+3+(xs.length-t)<=_;lia),fun f4 hf4=>?_⟩
    obtain ⟨Z4,z,g4,j4⟩:=lay (o:=.lst (xs.take t++ts++xs.drop t)) hf4
    rw [z];clear z
    have g14:=(g12.trans g3).trans g4
    have bgZ:=Ys g14 bgY
    refine ⟨f4,_,ls.take t++crl p q++ls.drop t,_,_,_,_,_,_,rfl,bgZ,frY.trans g14.frm,?_,j4,?_,ZnD hW p0 (by rw [<- hm];lia) q0 (by rw [<- hm];lia),?_,?_⟩
    ·exact frY.free bgY ((g12.trans g3).free hf4)
    ·exact (((Zjc hLY t).append lcY).append (Zi7 hLY t)).same g14
    ·rw [List.length_append,List.length_append,List.length_take,List.length_drop];show min t ls.length+3+_<=_;lia
    ·have e:nX (ls.take t)+nX (ls.drop t)=nX ls:=by rw [<- Uc,List.take_append_drop]
     have ec:nX (crl p q)=1:=rfl
     rw [Uc,Uc,ec]
     lia
  ·rintro σ G ⟨lA,xs,ls,v4,v5,v6,v7,v8,v9,rfl,bg,fr,flA,hG,hL,hW,hlen,hnx⟩
   exact ⟨_,rfl,k lA G ls flA bg fr ⟨xs,hG,hL,hW,by lia⟩ hnx⟩
theorem ZmF {ls:List (Str×Int)} (hW:Wk ls 0):∀d i,i+d<=ls.length->(rb (ls.take i)).2<=(rb (ls.take (i+d))).2
 | 0,i,_=>Int.le_refl _
 | d+1,i,h=>by
  refine Int.le_trans (ZmF hW d i (by lia)) ?_
  have hq:ls[i+d]? = some ls[i+d]:=by simp [show i+d<ls.length by lia]
  obtain ⟨tk,c⟩:=ZeP hW hq
  show _<=(rb (ls.take (i+d+1))).2
  rw [tk,YI]
  generalize hp:ls[i+d]=p at c
  obtain ⟨px,pk⟩:=p
  rcases c with ⟨e,_⟩ | ⟨e,_⟩ | ⟨e,_⟩
  ·have e:px = "born" := e
   subst e
   rw [W0]
   show _<=(rb (ls.take (i+d))).2+2
   lia
  ·have e:px = "cross" := e
   subst e
   rw [J1]
   exact Int.le_refl _
  ·have e:px = "end" := e
   subst e
   rw [GX]
   exact Int.le_refl _
theorem Zis {ls:List (Str×Int)} (hW:Wk ls 0) {t:Nat} (ht:t<=ls.length) {x:Int} (hx:x∈rowAt ls t):0<=x/\x<(Jk ls:Int):=by
 obtain ⟨h0,h1,h2⟩:=Zb5 hW t ht
 have a:=YO.mp (h2.mem_iff.mp (List.mem_append_left _ hx))
 obtain ⟨g0,g1,g2⟩:=Zb5 hW ls.length (Nat.le_refl _)
 have e:rowAt ls ls.length = []:=by
  unfold rowAt
  rw [List.take_of_length_le (Nat.le_refl _)]
  have:=ZaD hW
  exact List.length_eq_zero_iff.mp (by lia)
 rw [e,List.nil_append] at g2
 have hl:=g2.length_eq
 rw [Uk,Uy] at hl
 have le:=ZmF hW (ls.length-t) t (by lia)
 rw [show t+(ls.length-t)=ls.length by lia] at le
 have hn:Jk ls=(rb (ls.take ls.length)).2.toNat:=hl
 rw [hn]
 lia
theorem Zh6 {ls:List (Str×Int)} (hW:Wk ls 0) {t:Nat}{q:Str×Int} (hq:ls[t]? = some q) (hb:q.1 ≠ "born"):(0<=(YV ls t).1/\(YV ls t).1<(Jk ls:Int))/\(0<=(YV ls t).2/\(YV ls t).2<(Jk ls:Int)):=by
 obtain ⟨k0,k1,pe⟩:=ZgB hW hq hb
 have ht:t<ls.length:=(List.getElem?_eq_some_iff.mp hq).1
 rw [pe]
 refine ⟨Zis hW (Nat.le_of_lt ht) ?_,Zis hW (Nat.le_of_lt ht) ?_⟩
 ·show (rowAt ls t).getD q.2.toNat 0∈_
  rw [show (rowAt ls t).getD q.2.toNat 0=(rowAt ls t)[q.2.toNat]'(by lia) by simp [show q.2.toNat<(rowAt ls t).length by lia]]
  exact List.getElem_mem _
 ·show (rowAt ls t).getD (q.2.toNat+1) 0∈_
  rw [show (rowAt ls t).getD (q.2.toNat+1) 0=(rowAt ls t)[q.2.toNat+1]'k1 by simp [k1]]
  exact List.getElem_mem _
theorem WK {ls:List (Str×Int)}{i:Nat}{q:Str×Int} (hq:ls[i]? = some q) {pr:Str->Bool}:UJ ls pr i=pr q.1:=by
 unfold UJ
 rw [hq]
 cases h:pr q.1<;>simp [h]
abbrev UG:Str->Bool:=fun x=>!decide (x = "born")
def HG (sc:Int) (ls:List (Str×Int)) (g:Int->Int):Prop:=(sc=1/\g=fun _=>0)∨(sc≠1 /\ ∃T L,Uj (Js (Y9 ls)) (Jk ls) [T]/\ZaQ (Ya (Y9 ls)) T=0/\One (Y9 ls) (Jk ls) T L/\g=hgt (Ya (Y9 ls)) T)
theorem thV.hg {sc:Int}{ls:List (Str×Int)}{zs:List V} (h:thV sc ls zs):∃g,HG sc ls g/\zs=(tab (Jk ls) g).map V.int:=by
 rcases h with ⟨a,e⟩ | ⟨a,T,L,b,c,d,e⟩
 ·exact ⟨fun _=>0,.inl ⟨a,rfl⟩,by rw [e,Zb8]⟩
 ·exact ⟨hgt (Ya (Y9 ls)) T,.inr ⟨a,T,L,b,c,d,rfl⟩,by rw [e,Zb8]⟩
theorem HG.uniq {sc:Int}{ls:List (Str×Int)}{g g':Int->Int} (a:HG sc ls g) (b:HG sc ls g'):g=g':=by
 rcases a with ⟨e,rfl⟩ | ⟨ne,T,L,tr,_,_,rfl⟩
 ·rcases b with ⟨_,rfl⟩ | ⟨ne,_⟩
  ·rfl
  ·exact absurd e ne
 ·rcases b with ⟨e,_⟩ | ⟨_,T',L',tr',_,_,rfl⟩
  ·exact absurd e ne
  ·have:=tr.uniq tr'
   cases this
   rfl
def dfs (g:Int->Int) (ls:List (Str×Int)) (ns:List Int):List Int:=ns.map fun t=>g (YV ls t.toNat).1-g (YV ls t.toNat).2
def Znn (C:Addr):Sp:=fun vs H Q E=>∃(l:Addr) (sc:Int) (xs:List V) (ls:List (Str×Int)),vs = [.ref l,.int sc]/\H l=some (.lst xs)/\ZI H xs ls/\ls.length<=60/\Wk ls 0 /\
 (∀(p:Addr) (H':Hp) (g:Int->Int),H p=none->Zi H H'->HG sc ls g->H' p=some (.lst ((dfs g ls (Z9 ls UG ls.length)).map V.int))->Q (.ref p) H') /\
 (∀(H':Hp) (ts:List (List Int)),Zi H H'->sc≠1->Uj (Js (Y9 ls)) (Jk ls) ts->ts.map (ZaQ (Ya (Y9 ls))) ≠ [0]->E (.ref C) none H')
abbrev Wb:Stmt:=top 33
theorem Zai:Zz ["drawing", "scale", "heights"] ["drawing", "scale"] (Zh Wb):={}
theorem ZoV {f ZW:Addr}{fd:FuncData} (F:Yp K "name_heights" "name_heights" Wb f fd) (Wu:Zdb P w K mg base 8 "thread_heights" ["drawing", "scale"] (ZmY ZW)) (Ji:Yk P w K mg base 2 "pairs_ahead" ["drawing", "numbers"] Zdz)
  (Wt:Yk P w K mg base 1 "names_of" ["drawing"] (Ur UG)):Yc P w K mg base (CX1 P w) 9 f fd ["drawing", "scale"] (Znn ZW):=by
 refine F.okX Zai (fun vs H Q E h=>?_) (fun cdv A outer s H vs Q E hr h=>?_)
 ·obtain ⟨l,sc,xs,ls,rfl,_⟩:=h
  rfl
 ·obtain ⟨l,sc,xs,ls,rfl,hl,hL,hlen,hW,k,kx⟩:=h
  have n120:=WD hlen
  refine ⟨_,(Zc (Zp (i:=2) Zai.nd rfl (Or.inr rfl) (Zbe Wu (hr.mono (by decide)) ZmB (Za (pv 0) (Za (pv 1) Zb))))
   (Zg (Zv (GF (Ls:=["upper", "lower"]) (Fs:=["heights"]) (fi:=[2]) (ZY.of (show Yv ["drawing", "scale", "heights"] (Zh Wb) _ ["heights"] [2]=true by decide +kernel)) rfl (Z8 (K:=K) rfl (Zr Ji hr (Za (pv 0) (Za (Zr Wt hr (Za (pv 0) Zb)) Zb)))) (fun cl C s3 H3 ex=>⟨(Z6 (K:=K) (n:=2) rfl rfl (Zq (Zl (i:=0) (show ((["upper", "lower"]:List Str)++(["heights"]:List Str)).Nodup by decide +kernel) rfl (Or.inl rfl)) (Zq (Zl (i:=1) (show ((["upper", "lower"]:List Str)++(["heights"]:List Str)).Nodup by decide +kernel) rfl (Or.inl rfl)) ZU))),YS,(Zm YU (Zy (Zn (K:=K) rfl) (pv 2) (pv 0) (fun _ _=>rfl)) (Zy (Zn (K:=K) rfl) (pv 2) (pv 1) (fun _ _=>rfl)))⟩))))),?_⟩
  refine ⟨_,rfl,_,rfl,l,sc,xs,ls,rfl,hl,hL,hlen,hW,fun p H1 zs fp s1 ep tv=>?_,kx⟩
  obtain ⟨g,hg,rfl⟩:=tv.hg
  refine ⟨_,rfl,_,rfl,l,xs,ls,rfl,s1 l _ hl,hL.same s1,hlen,hW.kd,fun nA H2 fn s2 en=>?_⟩
  have s12:=s1.trans s2
  have mem:∀t∈Z9 ls UG ls.length,0<=t /\ ∃q,ls[t.toNat]? = some q/\q.1 ≠ "born" := fun t ht=>by
   obtain ⟨a,_,q,hq,z⟩:=ZgW ht
   exact ⟨a,q,hq,by simpa using z⟩
  refine ⟨l,nA,xs,ls,Z9 ls UG ls.length,rfl,s12 l _ hl,hL.same s12,hlen,hW,en,Nat.le_trans (Jf _ _ _) hlen,mem,fun pA H3 ys fp' s3 ep' pv=>?_⟩
  have yl:=pv.len
  have s13:=s12.trans s3
  have ll:=Jf ls UG ls.length
  rw [List.length_map] at yl
  have ep3:=s3 _ _ (s2 _ _ ep)
  refine ⟨pA,rfl,⟨_,Zu.of ep'⟩,JG (K:=K) (a:=pA) (xs:=ys) (Nat.le_of_lt (ZC (by lia))) (fun i zs G=>Zi H3 G/\zs=(dfs g ls ((Z9 ls UG ls.length).take i)).map V.int) ⟨Zi.refl _,rfl⟩
   (fun i zs G q=>by rw [q.2,List.length_map];unfold dfs;rw [List.length_map,List.length_take];lia) (fun i zs G q=>Zu.of (q.1 pA _ ep')) (fun i x zs G hx q=>?_) (fun zs G q D hD=>?_)⟩
  ·obtain ⟨sG,rfl⟩:=q
   obtain ⟨⟨u,lw⟩,t,hp,rfl,ht⟩:=pv.get hx
   rw [List.getElem?_map] at hp
   obtain ⟨tt,ht1,ht2⟩:=Option.map_eq_some_iff.mp hp
   obtain ⟨t0,q,hq,hb⟩:=mem tt (List.mem_of_getElem? ht1)
   have dm:=Zh6 hW hq hb
   rw [ht2] at dm
   refine ⟨t,_,rfl,YT.of (sG _ _ ht),rfl,_,_,rfl,_,_,rfl,rfl,?_⟩
   refine lcT ?_
   refine ⟨_,rfl,_,rfl,p,_,_,_,rfl,rfl,Zu.of (sG _ _ ep3),Za6 g dm.1.1 dm.1.2,_,rfl,_,rfl,p,_,_,_,rfl,rfl,Zu.of (sG _ _ ep3),Za6 g dm.2.1 dm.2.2,_,_,rfl,rfl,sG,?_⟩
   unfold dfs
   rw [Jg (ns:=Z9 ls UG ls.length) _ ht1,List.map_append,ht2]
   rfl
  obtain ⟨sG,rfl⟩:=q
  rw [yl,List.take_of_length_le (Nat.le_refl _)]
  exact k D _ g ((s13.trans sG).free hD) ((s13.trans sG).step hD) hg Zd
def lnV (sc:Int) (ls:List (Str×Int)) (H H':Hp) (v:V):Prop:=(∃p g,HG sc ls g/\v = .ref p/\H p=none/\H' p=some (.lst ((dfs g ls (Z9 ls UG ls.length)).map V.int)))∨(v = .non/\sc≠1 /\ ∃ts,Uj (Js (Y9 ls)) (Jk ls) ts/\ts.map (ZaQ (Ya (Y9 ls))) ≠ [0])
def ZiA:Sp:=fun vs H Q _=>∃(l:Addr) (sc:Int) (xs:List V) (ls:List (Str×Int)),vs = [.ref l,.int sc]/\(sc=0∨sc=1)/\H l=some (.lst xs)/\ZI H xs ls/\ls.length<=60/\Wk ls 0 /\
 ∀(v:V) (H':Hp),Zi H H'->lnV sc ls H H' v->Q v H'
theorem ZkS {sc:Int}{ls:List (Str×Int)}{H H':Hp}{v:V} (h:lhV sc ls H H' v):(∃p g,HG sc ls g/\v = .ref p/\H p=none/\H' p=some (.lst ((tab (Jk ls) g).map V.int)))∨(v = .non/\sc≠1 /\ ∃ts,Uj (Js (Y9 ls)) (Jk ls) ts/\ts.map (ZaQ (Ya (Y9 ls))) ≠ [0]):=by
 rcases h with ⟨e,p,rfl,fp,ep⟩ | ⟨ne,ts,tr,⟨z,rfl⟩ | ⟨p,T,L,rfl,t0,o,rfl,fp,ep⟩⟩
 ·exact .inl ⟨p,fun _=>0,.inl ⟨e,rfl⟩,rfl,fp,by rw [ep,Zb8]⟩
 ·exact .inr ⟨rfl,ne,ts,tr,z⟩
 ·exact .inl ⟨p,hgt (Ya (Y9 ls)) T,.inr ⟨ne,T,L,tr,t0,o,rfl⟩,rfl,fp,by rw [ep,Zb8]⟩
theorem HG.atEnd {sc:Int}{ls:List (Str×Int)}{g:Int->Int} (h:HG sc ls g) (hsc:sc=0∨sc=1) (hW:Wk ls 0) {i:Nat}{q:Str×Int} (hq:ls[i]? = some q) (he:q.1 = "end"):g (YV ls i).1-g (YV ls i).2=1-sc:=by
 rcases h with ⟨e,rfl⟩ | ⟨ne,T,L,_,_,o,rfl⟩
 ·rw [e];rfl
 ·have s0:sc=0:=hsc.elim id fun z=>absurd z ne
  have hi:i<ls.length:=(List.getElem?_eq_some_iff.mp hq).1
  have mem:YV ls i∈Y9 ls:=by
   unfold Y9 Jr
   refine List.mem_map.mpr ⟨(i:Int),?_,by simp⟩
   unfold Z9
   refine List.mem_filterMap.mpr ⟨i,List.mem_range.mpr hi,?_⟩
   rw [WK hq,if_pos]
   rw [he]
   unfold Uz
   simp
  have dm:=Zh6 hW hq (fun z=>by rw [z] at he;exact absurd he (by decide +kernel))
  have:=o.ends (u:=(YV ls i).1) (l:=(YV ls i).2) mem dm.1
  rw [s0,this]
  lia
theorem ZgN {g:Int->Int}{ls:List (Str×Int)}{i:Nat}{q:Str×Int} (hq:ls[i]? = some q) (hb:q.1 ≠ "born"):(dfs g ls (Z9 ls UG i)).map V.int ++ [V.int (g (YV ls i).1-g (YV ls i).2)]=(dfs g ls (Z9 ls UG (i+1))).map V.int:=by
 have kk:=WK hq (pr:=UG)
 rw [JB,kk,if_pos (by simpa using hb)]
 unfold dfs
 simp
theorem ZkJ {g:Int->Int}{ls:List (Str×Int)}{i:Nat}{q:Str×Int} (hq:ls[i]? = some q) (hb:q.1 = "born"):dfs g ls (Z9 ls UG i)=dfs g ls (Z9 ls UG (i+1)):=by
 have kk:=WK hq (pr:=UG)
 rw [JB,kk,if_neg (by simp [hb]),List.append_nil]
abbrev JK:Stmt:=top 55
theorem ZV:Zz ["_law_drawing_here", "_law_scale", "_law_known", "_law_rows_here", "_law_found", "_law_t", "_law_letter", "_law_one", "_law_other"] ["_law_drawing_here", "_law_scale"] (Zh JK):={}
theorem Znc {f:Addr}{fd:FuncData} (F:Yp K "_law_name_heights" "_law_name_heights" JK f fd) (GI:Yk P w K mg base 3 "_law_heights" ["_law_drawing_here", "_law_scale"] ZnY) (YN:Yk P w K mg base 1 "_law_rows" ["_law_drawing_here"] ZaR)
  (ZA:mg "enumerate" = none):Yc P w K mg base J9 4 f fd ["_law_drawing_here", "_law_scale"] ZiA:=by
 refine F.ok ZV (fun vs H Q E h=>?_) (fun cdv A outer s H vs Q E hr h=>?_)
 ·obtain ⟨l,sc,xs,ls,rfl,_⟩:=h
  rfl
 ·obtain ⟨l,sc,xs,ls,rfl,hsc,hl,hL,hlen,hW,k⟩:=h
  have n120:=WD hlen
  have hxl:=hL.len
  refine ⟨_,(Zc (Zp (i:=2) ZV.nd rfl (Or.inl rfl) (Zr GI hr (Za (pv 0) (Za (pv 1) Zb))))
   (Zc (ZR (Zt Zgb (pv 2) JZ (Zs _)) (Zg (Zv JZ)) ZG)
   (Zc (Zp (i:=3) ZV.nd rfl (Or.inl rfl) (Zr YN hr (Za (pv 0) Zb)))
   (Zc (Zp (i:=4) ZV.nd rfl (Or.inl rfl) (ZD Zb))
   (Zc (Yq PassesOwn.never rfl (JT (K:=K) rfl (by rfl) ZA (Za (pv 0) Zb)) (Z6 (K:=K) (n:=2) rfl rfl (Zq (Zl (i:=5) ZV.nd rfl (Or.inl rfl)) (Zq (Zl (i:=6) ZV.nd rfl (Or.inl rfl)) ZU))) (Zg (ZR (Zt Yi (Zy (Yh (K:=K) rfl) (pv 6) Ze (fun _ _=>rfl)) ZJ (Zs _)) (Zc (Yr (Yy (Jc (K:=K) rfl) (Zy (Zn (K:=K) rfl) (pv 3) (pv 5) (fun _ _=>rfl)) (Ym (Zy (Yh (K:=K) rfl) (pv 6) Ze (fun _ _=>rfl))) (Ym (Zm ZE (Zy (Yh (K:=K) rfl) (pv 6) Ze (fun _ _=>rfl)) Ze))) (Zdu (K:=K) (n:=2) rfl rfl (Zq (Zl (i:=7) ZV.nd rfl (Or.inl rfl)) (Zq (Zl (i:=8) ZV.nd rfl (Or.inl rfl)) ZU))))
   (Zg (ZZ (Yb (K:=K) rfl (Yx PySem.F.plainAttrs_list PySem.F.slot_list_append PySem.F.type_list_append ZO (pv 4) (Za (Zm YU (Zy (Zn (K:=K) rfl) (pv 2) (pv 7) (fun _ _=>rfl)) (Zy (Zn (K:=K) rfl) (pv 2) (pv 8) (fun _ _=>rfl))) Zb)))))) (Zg (ZR (Zt Yi (Zy (Yh (K:=K) rfl) (pv 6) Ze (fun _ _=>rfl)) ZJ (Zs _)) (Zg (ZZ (Yb (K:=K) rfl (Yx PySem.F.plainAttrs_list PySem.F.slot_list_append PySem.F.type_list_append ZO (pv 4) (Za (Zm YU Ze (pv 1)) Zb))))) ZG)))))
   (Zg (Zv (pv 4)))))))),?_⟩
  refine ⟨_,rfl,_,rfl,l,sc,xs,ls,rfl,hl,hL,hlen,hW,fun v H1 s1 lv=>?_⟩
  rcases ZkS lv with ⟨p,g,hg,rfl,fp,ep⟩ | ⟨rfl,ne,hts⟩
  rotate_left
  ·refine ⟨_,rfl,rfl,_,rfl,JN ?_⟩
   exact k _ H1 s1 (.inr ⟨rfl,ne,hts⟩)
  refine ⟨_,rfl,rfl,_,rfl,Y5 ?_⟩
  refine ⟨_,rfl,l,xs,ls,rfl,s1 l _ hl,hL.same s1,hlen,hW,fun R H2 ys fR s2 eR rv ap ndr=>?_⟩
  refine ⟨(by show 0<=sizeLine;decide),fun fA hfA=>?_⟩
  have s12:=s1.trans s2
  have s3:Zi H2 (upd H2 fA (.lst [])):=Zi.laid hfA
  have e3:(upd H2 fA (.lst [])) fA=some (.lst []):=Zd
  have fH:H fA=none:=s12.free hfA
  generalize upd H2 fA (.lst [])=H3 at *
  have hl2:=s12 _ _ hl
  have hL2:=hL.same s12
  refine ⟨_,rfl,l,rfl,⟨_,Zu.of (s3 _ _ hl2)⟩,GV (K:=K) (a:=l) (xs:=xs) (fun i σ G=>∃(v5 v6 v7 v8:Option V),σ = [some (.ref l),some (.int sc),some (.ref p),some (.ref R),some (.ref fA),v5,v6,v7,v8]/\Zi H2 G/\G fA=some (.lst ((dfs g ls (Z9 ls UG i)).map V.int)))
   ⟨none,none,none,none,rfl,s3,e3⟩ (fun i σ G _ ⟨_,_,_,_,_,sm,_⟩=>Zu.of (sm l _ hl2)) ?_ ?_⟩
  ·rintro i x pa σ G hx ⟨v5,v6,v7,v8,rfl,sm,eF⟩ hp
   obtain ⟨⟨qx,qk⟩,ta,hq,rfl,hta⟩:=hL2.get hx
   have hi:i<ls.length:=(List.getElem?_eq_some_iff.mp hq).1
   have sp:Zi G (upd G pa (.tup [.int i,.ref ta])):=Zi.laid hp
   have epa:(upd G pa (.tup [.int i,.ref ta])) pa=some (.tup [.int i,.ref ta]):=Zd
   generalize upd G pa (.tup [.int i,.ref ta])=G0 at *
   have sg0:=sm.trans sp
   have eF0:=sp _ _ eF
   have hta':=sg0 ta _ hta
   have short:((dfs g ls (Z9 ls UG i)).map V.int).length<sizeLine:=by
    rw [List.length_map]
    unfold dfs
    rw [List.length_map]
    have:=Jf ls UG i
    exact ZC (by lia)
   refine ⟨pa,_,rfl,YT.of epa,rfl,_,_,rfl,_,_,rfl,rfl,?_⟩
   refine ⟨_,rfl,ta,_,_,_,rfl,rfl,YT.of hta',Zo (j:=0) rfl,rfl,_,rfl,?_⟩
   refine Z0 (fun hc=>?_) (fun hc=>?_)
   ·have e:qx = "cross" := V.str.inj (of_decide_eq_true hc)
    subst e
    have nb:(("cross" : Str),qk).1 ≠ "born" := show ("cross" : Str) ≠ "born" by decide +kernel
    obtain ⟨k0,k1,pe⟩:=ZgB hW hq nb
    have dm:=Zh6 hW hq nb
    have sn:=ZgN (g:=g) hq nb
    obtain ⟨kn,rfl⟩:=Int.eq_ofNat_of_zero_le (show 0<=qk from k0)
    simp only [Int.toNat_natCast] at k1 pe
    obtain ⟨ra,hra,hrr⟩:=rv.at (Za8 ls (i:=i) (n:=ls.length+1) (by lia))
    obtain ⟨u,hu⟩:∃u,u=(rowAt ls i).getD kn 0:=⟨_,rfl⟩
    obtain ⟨w',hw⟩:∃w',w'=(rowAt ls i).getD (kn+1) 0:=⟨_,rfl⟩
    rw [<- hu,<- hw] at pe
    rw [pe] at dm sn
    refine ⟨_,rfl,_,rfl,R,_,_,_,rfl,rfl,Zu.of (sg0 R _ eR),Zo hra,_,rfl,ta,_,_,_,rfl,rfl,YT.of hta',Zo (j:=1) rfl,_,rfl,_,rfl,ta,_,_,_,rfl,rfl,YT.of hta',Zo (j:=1) rfl,_,_,rfl,rfl,_,rfl,ra,_,rfl,Zu.of (sg0 ra _ hrr),fun cA hcA=>?_⟩
    rw [ZfD k1,<- hu,<- hw]
    have s4:Zi G0 (upd G0 cA (.lst [.int u,.int w'])):=Zi.laid hcA
    have e4:(upd G0 cA (.lst [.int u,.int w'])) cA=some (.lst [.int u,.int w']):=Zd
    generalize upd G0 cA (.lst [.int u,.int w'])=G1 at *
    refine ⟨cA,_,rfl,Zu.of e4,rfl,_,_,rfl,_,_,rfl,rfl,?_⟩
    have ep1:=s4 _ _ (sg0 _ _ (s2 _ _ ep))
    have eF1:=s4 _ _ eF0
    refine ⟨_,rfl,.inl ⟨rfl,_,Zu.of eF1⟩,_,rfl,_,rfl,p,_,_,_,rfl,rfl,Zu.of ep1,Za6 g dm.1.1 dm.1.2,_,rfl,_,rfl,p,_,_,_,rfl,rfl,Zu.of ep1,Za6 g dm.2.1 dm.2.2,_,_,rfl,rfl,fA,_,_,rfl,rfl,eF1,short,?_⟩
    refine ⟨_,_,_,_,rfl,(sg0.trans s4).put hfA,?_⟩
    rw [Zd,sn]
   ·have nc:¬qx = "cross" := fun z=>hc (decide_eq_true (congrArg V.str z))
    refine ⟨_,rfl,ta,_,_,_,rfl,rfl,YT.of hta',Zo (j:=0) rfl,rfl,_,rfl,?_⟩
    refine Z0 (fun hc2=>?_) (fun hc2=>?_)
    ·have e:qx = "end" := V.str.inj (of_decide_eq_true hc2)
     subst e
     have nb:(("end" : Str),qk).1 ≠ "born" := show ("end" : Str) ≠ "born" by decide +kernel
     have sn:=ZgN (g:=g) hq nb
     rw [hg.atEnd hsc hW hq rfl] at sn
     refine ⟨_,rfl,.inl ⟨rfl,_,Zu.of eF0⟩,_,rfl,_,_,rfl,rfl,fA,_,_,rfl,rfl,eF0,short,?_⟩
     refine ⟨_,_,_,_,rfl,sg0.put hfA,?_⟩
     rw [Zd,sn]
    ·have ne2:¬qx = "end" := fun z=>hc2 (decide_eq_true (congrArg V.str z))
     have b:qx = "born" := by
      rcases hW.kd _ (List.mem_of_getElem? hq) with z | z | z
      ·exact z
      ·exact absurd z nc
      ·exact absurd z ne2
     refine ⟨_,_,_,_,rfl,sg0,?_⟩
     rw [eF0,ZkJ hq b]
  ·rintro σ G ⟨v5,v6,v7,v8,rfl,sm,eF⟩
   rw [hxl] at eF
   exact ⟨_,rfl,k _ G (s12.trans sm) (.inl ⟨fA,g,hg,rfl,fH,eF⟩)⟩
def ZfN:Sp:=fun vs H Q _=>∃(b:Addr) (n:Int),vs = [.ref b,.int n]/\Bag H b/\2<=n/\n<=12 /\ ∀(l:Addr) (H':Hp) (ls:List (Str×Int)),H l=none->Bag H' b->Jn b H H'->Drw H' l ls->nX ls<=13->Q (.ref l) H'
theorem Zhc {H:Hp}{t:Addr}{q:Str×Int} (h:H t=some (.tup [.str q.1,.int q.2])):∀n:Nat,ZI H (List.replicate n (V.ref t)) (List.replicate n q)
 | 0=>.nil
 | n+1=>.cons ⟨t,rfl,h⟩ (Zhc h n)
theorem ZnC (n:Nat) (k:Int):nX (List.replicate n ((("cross" : Str),k):Str×Int))=n:=by
 unfold nX
 rw [List.countP_replicate,if_pos (by show decide (("cross" : Str)=("cross" : Str))=true;decide)]
abbrev UN:Stmt:=top 59
theorem JS:Zz ["_law_bag_here", "_law_most", "_law_way", "_law_letters", "_law_turn"] ["_law_bag_here", "_law_most"] (Zh UN):={}
theorem Zkg {f:Addr}{fd:FuncData} (F:Yp K "_law_front" "_law_front" UN f fd) (Zw:Yk P w K mg base 1 "_law_take" ["_law_bag_here", "_law_many"] Zaz) (ZbB:Yk P w K mg base 3 "_law_any" ["_law_bag_here", "_law_most"] Zev) (J5:Yk P w K mg base 2 "_law_plat" ["_law_bag_here", "_law_most"] Zev)
  (Ug:Yk P w K mg base 2 "_law_curled" ["_law_bag_here", "_law_letters", "_law_most"] Zf9) (ZT:mg "range" = none) (Yw:mg "len" = none) (GS:mg "max" = none) (Zbr:mg "min" = none):
  Yc P w K mg base J9 4 f fd ["_law_bag_here", "_law_most"] ZfN:=by
 refine F.ok JS (fun vs H Q E h=>?_) (fun cdv A outer s H vs Q E hr h=>?_)
 ·obtain ⟨b,n,rfl,_⟩:=h
  rfl
 ·obtain ⟨b,n,rfl,hbag,n2,n12,k⟩:=h
  refine ⟨_,(Zc (Zp (i:=2) JS.nd rfl (Or.inl rfl) (Zr Zw hr (Za (pv 0) (Za Ze Zb))))
   (Zc (ZR (Zt Yi (pv 2) Ze (Zs _)) (Zg (Zv (Zr ZbB hr (Za (pv 0) (Za (pv 1) Zb))))) ZG)
   (Zc (ZR (Zt Yi (pv 2) Ze (Zs _)) (Zg (Zv (Zr J5 hr (Za (pv 0) (Za (pv 1) Zb))))) ZG)
   (Zc (Zp (i:=3) JS.nd rfl (Or.inl rfl) (Zm Ws (ZD (Za (ZQ (Za ZJ (Za Ze Zb))) (Za (ZQ (Za ZJ (Za Ze Zb))) Zb))) (Zm ZbA (ZD (Za (ZQ (Za ZJ (Za Ze Zb))) Zb)) (Zm ZE Ze (Zr Zw hr (Za (pv 0) (Za (pv 1) Zb)))))))
   (Zc (ZR (Zt Yi (pv 2) Ze (Zs _)) (Zc (Zp (i:=3) JS.nd rfl (Or.inl rfl) (ZD (Za (ZQ (Za ZJ (Za Ze Zb))) (Za (ZQ (Za ZJ (Za Ze Zb))) (Za (ZQ (Za ZJ (Za Ze Zb))) Zb)))))
   (Zc (Yq PassesOwn.never rfl (YK (by rfl) ZT (Za (Zm ZE Ze (Zr Zw hr (Za (pv 0) (Za (Zx (Gq rfl) (by rfl) GS boot_max (Za Ze (Za (Zm YU (pv 1) Ze) Zb))) Zb)))) Zb)) (Zl (i:=4) JS.nd rfl (Or.inl rfl)) (Zg (ZZ (Yb (K:=K) rfl (Yx PySem.F.plainAttrs_list PySem.F.slot_list_append PySem.F.type_list_append ZO (pv 3) (Za (ZQ (Za ZJ (Za (Zy (Zn (K:=K) rfl) (ZD (Za Ze (Za Ze (Za Ze Zb)))) (Zm GL (Zr Zw hr (Za (pv 0) (Za Ze Zb))) Ze) (fun _ _=>rfl)) Zb))) Zb))))))
   (Zg (Zv (Zm Ws (pv 3) (ZD (Za (ZQ (Za ZJ (Za Ze Zb))) (Za (ZQ (Za ZJ (Za Ze Zb))) (Za (ZQ (Za ZJ (Za Ze Zb))) Zb))))))))) ZG)
   (Zg (Zv (Zr Ug hr (Za (pv 0) (Za (Zm Ws (pv 3) (ZD (Za (ZQ (Za ZJ (Za Ze Zb))) (Za (ZQ (Za ZJ (Za Ze Zb))) Zb)))) (Za (Zx (Gq rfl) (by rfl) GS boot_max (Za Ze (Za (Zx (Za2 rfl) (by rfl) Zbr boot_min (Za Ze (Za (Zm YU Ze (Zx (YE (K:=K) rfl) (by rfl) Yw PySem.boot_len (Za (pv 3) Zb))) Zb))) Zb))) Zb))))))))))),?_⟩
  have nb:∀{c:Addr},H c=none->c≠b:=fun {c} h z=>by
   obtain ⟨_,_,_,e⟩:=hbag
   rw [z,e] at h
   cases h
  refine ⟨_,rfl,b,5,rfl,hbag,by decide,by decide,fun wy H1 w0 w1 bg1 f1=>?_⟩
  refine ⟨_,rfl,rfl,_,rfl,Z0 (fun _=>?_) (fun _=>?_)⟩
  ·exact ⟨_,rfl,_,rfl,b,n,rfl,bg1,by lia,by lia,fun l H2 ls hl bg2 f2 dr nx=>k l H2 ls (f1.free bg1 hl) bg2 (f1.trans f2) dr (by lia)⟩
  refine ⟨_,rfl,rfl,_,rfl,Z0 (fun _=>?_) (fun _=>?_)⟩
  ·exact ⟨_,rfl,_,rfl,b,n,rfl,bg1,by lia,by lia,fun l H2 ls hl bg2 f2 dr nx=>k l H2 ls (f1.free bg1 hl) bg2 (f1.trans f2) dr (by lia)⟩
  refine ⟨(by show 2<=sizeLine;decide),fun t1 h1=>?_⟩
  obtain ⟨X1,z,a1,b1⟩:=lay (o:=.tup [.str "born", .int 0]) h1
  rw [z];clear z
  refine ⟨(by show 2<=sizeLine;decide),fun t2 h2=>?_⟩
  obtain ⟨X2,z,a2,b2⟩:=lay (o:=.tup [.str "born", .int 2]) h2
  rw [z];clear z
  refine ⟨(by show 2<=sizeLine;decide),fun c1 h3=>?_⟩
  obtain ⟨X3,z,a3,b3⟩:=lay (o:=.lst [.ref t1,.ref t2]) h3
  rw [z];clear z
  refine ⟨(by show 2<=sizeLine;decide),fun t3 h4=>?_⟩
  obtain ⟨X4,z,a4,b4⟩:=lay (o:=.tup [.str "cross", .int 1]) h4
  rw [z];clear z
  refine ⟨(by show 1<=sizeLine;decide),fun c2 h5=>?_⟩
  obtain ⟨X5,z,a5,b5⟩:=lay (o:=.lst [.ref t3]) h5
  rw [z];clear z
  have s15:=(((a1.trans a2).trans a3).trans a4).trans a5
  have bg5:=Ys s15 bg1
  have nb5:∀{c:Addr}{G:Hp},Bag G b->G c=none->c≠b:=fun {c G} h e z=>by
   obtain ⟨_,_,_,q⟩:=h
   rw [z,q] at e
   cases e
  have n1:c1≠b:=nb5 (Ys (a1.trans a2) bg1) h3
  have n2':c2≠b:=nb5 (Ys (((a1.trans a2).trans a3).trans a4) bg1) h5
  have L3:ZI X5 [.ref t1,.ref t2] [("born", 0),("born", 2)]:=.cons ⟨t1,rfl,a5 _ _ (a4 _ _ (a3 _ _ (a2 _ _ b1)))⟩ (.cons ⟨t2,rfl,a5 _ _ (a4 _ _ (a3 _ _ b2))⟩ .nil)
  have L4:∀m:Nat,ZI X5 (List.replicate m (V.ref t3)) (List.replicate m ((("cross" : Str),1):Str×Int)):=fun m=>Zhc (a5 _ _ b4) m
  refine ⟨_,rfl,_,rfl,b,n,rfl,bg5,by lia,by lia,fun d H2 d0 d1 bg2 f2=>⟨_,_,rfl,rfl,?_⟩⟩
  obtain ⟨mm,hmm⟩:∃mm:Nat,mm=(1+d).toNat:=⟨_,rfl⟩
  refine ⟨c2,_,_,rfl,rfl,f2 _ _ b5 n2',by lia,by lia,(by rw [<- hmm,sizeLine_eq];simp;lia),fun c3 h6=>?_⟩
  rw [<- hmm,List.flatten_replicate_singleton]
  obtain ⟨X6,z,a6,b6⟩:=lay (o:=.lst (List.replicate mm (V.ref t3))) h6
  rw [z];clear z
  refine ⟨c1,c3,_,_,rfl,rfl,a6 _ _ (f2 _ _ (a5 _ _ (a4 _ _ b3)) n1),b6,(by rw [List.length_replicate,sizeLine_eq];show 2+mm<=_;lia),fun c4 h7=>?_⟩
  obtain ⟨X7,z,a7,b7⟩:=lay (o:=.lst ([.ref t1,.ref t2]++List.replicate mm (V.ref t3))) h7
  rw [z];clear z
  have s27:=a6.trans a7
  have bg7:=Ys s27 bg2
  have f17:Jn b H X7:=((f1.trans s15.frm).trans f2).trans s27.frm
  have L7:ZI X7 ([.ref t1,.ref t2]++List.replicate mm (V.ref t3)) (([("born", 0),("born", 2)]:List (Str×Int))++List.replicate mm ((("cross" : Str),1):Str×Int)):=((L3.frm f2 bg5).append ((L4 mm).frm f2 bg5)).same s27
  refine ⟨_,rfl,rfl,_,rfl,Z0 (fun _=>?_) (fun _=>?_)⟩
  ·refine ⟨(by show 2<=sizeLine;decide),fun u1 e1=>?_⟩
   obtain ⟨Y1,z,g1,j1⟩:=lay (o:=.tup [.str "born", .int 0]) e1
   rw [z];clear z
   refine ⟨(by show 2<=sizeLine;decide),fun u2 e2=>?_⟩
   obtain ⟨Y2,z,g2,j2⟩:=lay (o:=.tup [.str "born", .int 2]) e2
   rw [z];clear z
   refine ⟨(by show 2<=sizeLine;decide),fun u3 e3=>?_⟩
   obtain ⟨Y3,z,g3,j3⟩:=lay (o:=.tup [.str "born", .int 4]) e3
   rw [z];clear z
   refine ⟨(by show 3<=sizeLine;decide),fun l e4=>?_⟩
   obtain ⟨Y4,z,g4,j4⟩:=lay (o:=.lst [.ref u1,.ref u2,.ref u3]) e4
   rw [z];clear z
   have sY:=((g1.trans g2).trans g3).trans g4
   have bgY:=Ys sY bg7
   have fl:H l=none:=f17.free bg7 (((g1.trans g2).trans g3).free e4)
   have hlb:=nb fl
   have LY:ZI Y4 [.ref u1,.ref u2,.ref u3] [("born", 0),("born", 2),("born", 4)]:=.cons ⟨u1,rfl,g4 _ _ (g3 _ _ (g2 _ _ j1))⟩ (.cons ⟨u2,rfl,g4 _ _ (g3 _ _ j2)⟩ (.cons ⟨u3,rfl,g4 _ _ j3⟩ .nil))
   have WY:Wk [("born", 0),("born", 2),("born", 4)] 6:=Wk.born (k:=4) (Wk.born (k:=2) (Wk.born (k:=0) .nil (by decide) (by decide)) (by decide) (by decide)) (by decide) (by decide)
   refine ⟨_,rfl,_,rfl,_,_,rfl,rfl,_,_,rfl,b,_,rfl,bgY,(by split<;>lia),(by split<;>lia),fun d2 H3 d20 d21 bg3 f3=>⟨_,_,rfl,rfl,?_⟩⟩
   have d2n:d2<=11:=by revert d21;split<;>lia
   refine ⟨_,rfl,by lia,by lia,J6 (n:=(2+d2).toNat) (fun i σ G=>∃(xs:List V) (ls:List (Str×Int)) (v4:Option V),σ = [some (.ref b),some (.int n),some (.int wy),some (.ref l),v4]/\Bag G b/\Jn b H G/\G l=some (.lst xs)/\ZI G xs ls/\Wk ls 6/\ls.length<=3+i/\nX ls<=i)
    ⟨_,_,_,rfl,bg3,(f17.trans sY.frm).trans f3,f3 _ _ j4 hlb,LY.frm f3 bgY,WY,Nat.le_refl _,Nat.le_refl _⟩ ?_ ?_⟩
   ·rintro i σ G hi ⟨xs,ls,v4,rfl,bg,fr4,hG,hL,hW,hlen,hx⟩
    have hxl:=hL.len
    refine ⟨_,rfl,.inl ⟨rfl,_,Zu.of hG⟩,(by show 3<=sizeLine;decide),fun q1 hq1=>?_⟩
    obtain ⟨Z1,z,r1,o1⟩:=lay (o:=.lst [.int 1,.int 3,.int 2]) hq1
    rw [z];clear z
    have bgZ:=Ys r1 bg
    refine ⟨_,rfl,b,7,rfl,bgZ,by decide,by decide,fun e Z2 e0 e1' bgZ2 fZ=>⟨_,_,rfl,rfl,(by show (0:Int)<3;decide),?_⟩⟩
    have nq:q1≠b:=nb5 bg hq1
    obtain ⟨jj,hjj⟩:∃jj:Nat,e % 3=(jj:Int):=⟨(e % 3).toNat,by lia⟩
    have jj3:jj<3:=by lia
    dsimp only
    rw [hjj]
    obtain ⟨kk,hkk,k0,k4⟩:∃kk:Int,([V.int 1,.int 3,.int 2]:List V)[jj]? = some (.int kk)/\0<=kk/\kk<=4:=by
     match jj,jj3 with
     | 0,_=>exact ⟨_,rfl,by decide,by decide⟩
     | 1,_=>exact ⟨_,rfl,by decide,by decide⟩
     | 2,_=>exact ⟨_,rfl,by decide,by decide⟩
    refine ⟨q1,_,_,_,rfl,rfl,Zu.of (fZ _ _ o1 nq),Zo hkk,(by show 2<=sizeLine;decide),fun t ht=>?_⟩
    obtain ⟨c1',c2',c3',c4',c5'⟩:=WW "cross" kk (fr4.trans r1.frm) bgZ (r1 _ _ hG) (hL.same r1) hlb fl fZ bgZ2 ht
    refine ⟨l,_,_,rfl,rfl,c1',ZC (by lia),?_⟩
    exact ⟨xs ++ [.ref t],ls ++ [((("cross" : Str),kk):Str×Int)],_,rfl,c2',c3',c4',c5',Wk.cross hW k0 (by lia),by rw [List.length_append,List.length_singleton];lia,by rw [ZaZ];lia⟩
   ·rintro σ G ⟨xs,ls,v4,rfl,bg,fr4,hG,hL,hW,hlen,hx⟩
    have hxl:=hL.len
    refine ⟨_,rfl,(by show 2<=sizeLine;decide),fun w1' e1'=>?_⟩
    obtain ⟨Z1,z,r1,o1⟩:=lay (o:=.tup [.str "end", .int 0]) e1'
    rw [z];clear z
    refine ⟨(by show 2<=sizeLine;decide),fun w2' e2'=>?_⟩
    obtain ⟨Z2,z,r2,o2⟩:=lay (o:=.tup [.str "end", .int 0]) e2'
    rw [z];clear z
    refine ⟨(by show 2<=sizeLine;decide),fun w3' e3'=>?_⟩
    obtain ⟨Z3,z,r3,o3⟩:=lay (o:=.tup [.str "end", .int 0]) e3'
    rw [z];clear z
    refine ⟨(by show 3<=sizeLine;decide),fun w4' e4'=>?_⟩
    obtain ⟨Z4,z,r4,o4⟩:=lay (o:=.lst [.ref w1',.ref w2',.ref w3']) e4'
    rw [z];clear z
    have sZ:=((r1.trans r2).trans r3).trans r4
    refine ⟨l,w4',_,_,rfl,rfl,sZ _ _ hG,o4,(by rw [hxl,sizeLine_eq];show ls.length+3<=_;lia),fun w5 e5=>?_⟩
    obtain ⟨Z5,z,r5,o5⟩:=lay (o:=.lst (xs ++ [.ref w1',.ref w2',.ref w3'])) e5
    rw [z];clear z
    have sZ5:=sZ.trans r5
    have LE:ZI Z5 [.ref w1',.ref w2',.ref w3'] (List.replicate 3 ((("end" : Str),0):Str×Int)):=.cons ⟨w1',rfl,r5 _ _ (r4 _ _ (r3 _ _ (r2 _ _ o1)))⟩ (.cons ⟨w2',rfl,r5 _ _ (r4 _ _ (r3 _ _ o2))⟩ (.cons ⟨w3',rfl,r5 _ _ (r4 _ _ o3)⟩ .nil))
    refine k w5 Z5 (ls++List.replicate 3 ((("end" : Str),0):Str×Int)) (fr4.free bg (sZ.free e5)) (Ys sZ5 bg) (fr4.trans sZ5.frm) ⟨_,o5,(hL.same sZ5).append LE,?_,?_⟩ ?_
    ·have:=Zdq 3 hW 3 (Nat.le_refl _)
     simpa using this
    ·rw [List.length_append,List.length_replicate];lia
    ·rw [Uc]
     have:nX (List.replicate 3 ((("end" : Str),0):Str×Int))=0:=rfl
     lia
  ·refine ⟨_,rfl,_,rfl,(by show 2<=sizeLine;decide),fun w1' e1'=>?_⟩
   obtain ⟨Z1,z,r1,o1⟩:=lay (o:=.tup [.str "end", .int 0]) e1'
   rw [z];clear z
   refine ⟨(by show 2<=sizeLine;decide),fun w2' e2'=>?_⟩
   obtain ⟨Z2,z,r2,o2⟩:=lay (o:=.tup [.str "end", .int 0]) e2'
   rw [z];clear z
   refine ⟨(by show 2<=sizeLine;decide),fun w4' e4'=>?_⟩
   obtain ⟨Z4,z,r4,o4⟩:=lay (o:=.lst [.ref w1',.ref w2']) e4'
   rw [z];clear z
   have sZ:=(r1.trans r2).trans r4
   have l7:([V.ref t1,.ref t2]++List.replicate mm (V.ref t3)).length=2+mm:=by rw [List.length_append,List.length_replicate];rfl
   refine ⟨c4,w4',_,_,rfl,rfl,sZ _ _ b7,o4,(by rw [l7,sizeLine_eq];show 2+mm+2<=_;lia),fun w5 e5=>?_⟩
   obtain ⟨Z5,z,r5,o5⟩:=lay (o:=.lst ([.ref t1,.ref t2]++List.replicate mm (V.ref t3) ++ [.ref w1',.ref w2'])) e5
   rw [z];clear z
   have sZ5:=sZ.trans r5
   have LE:ZI Z5 [.ref w1',.ref w2'] (List.replicate 2 ((("end" : Str),0):Str×Int)):=.cons ⟨w1',rfl,r5 _ _ (r4 _ _ (r2 _ _ o1))⟩ (.cons ⟨w2',rfl,r5 _ _ (r4 _ _ o2)⟩ .nil)
   have bgZ:=Ys sZ5 bg7
   have f0:H w5=none:=f17.free bg7 (sZ.free e5)
   have WX:∀m:Nat,Wk (([("born", 0),("born", 2)]:List (Str×Int))++List.replicate m ((("cross" : Str),1):Str×Int)) 4:=fun m=>by
    induction m with
    | zero=>exact Wk.born (k:=2) (Wk.born (k:=0) .nil (by decide) (by decide)) (by decide) (by decide)
    | succ m ih=>rw [List.replicate_succ',<- List.append_assoc];exact Wk.cross ih (by decide) (by decide)
   refine ⟨_,rfl,c4,_,rfl,.inl (Zu.of (sZ5 _ _ b7)),_,_,rfl,rfl,_,_,rfl,_,_,rfl,?_⟩
   rw [l7]
   refine ⟨b,w5,_,([("born", 0),("born", 2)]:List (Str×Int))++List.replicate mm ((("cross" : Str),1):Str×Int)++List.replicate 2 ((("end" : Str),0):Str×Int),rfl,bgZ,⟨_,o5,(L7.same sZ5).append LE,?_,?_⟩,nb f0,?_,?_,?_,?_,fun l G ls hl bg fr dr nx=>k l G ls ((f17.trans sZ5.frm).free bgZ hl) bg ((f17.trans sZ5.frm).trans fr) dr nx⟩
   ·have:=Zdq 2 (WX mm) 2 (Nat.le_refl _)
    simpa using this
   ·rw [List.length_append,List.length_append,List.length_replicate,List.length_replicate];show 2+mm+2<=60;lia
   ·rw [List.length_append,List.length_append,List.length_replicate,List.length_replicate];show 2+mm+2<=40;lia
   ·rw [Uc,Uc,ZnC]
    have e1:nX (List.replicate 2 ((("end" : Str),0):Str×Int))=0:=rfl
    have e2:nX ([("born", 0),("born", 2)]:List (Str×Int))=0:=rfl
    lia
   ·split<;>(try split)<;>lia
   ·split<;>(try split)<;>lia
def Zel:Sp:=fun vs H Q _=>∃(l:Addr) (ls:List (Str×Int)),vs = [.ref l]/\Drw H l ls /\ ∀(p:Addr) (H':Hp) (scs:List Int),Zi H H'->H p=none->H' p=some (.lst (scs.map V.int))->scs.length<=2->(∀sc∈scs,(sc=0∨sc=1) /\ ∃g,HG sc ls g)->Q (.ref p) H'
abbrev WI:Stmt:=top 60
theorem Zd8:Zz ["_law_drawing_here"] ["_law_drawing_here"] (Zh WI):={}
theorem ZiS {f:Addr}{fd:FuncData} (F:Yp K "_law_scales" "_law_scales" WI f fd) (Yo:Yk P w K mg base 4 "_law_name_heights" ["_law_drawing_here", "_law_scale"] ZiA):Yc P w K mg base J9 5 f fd ["_law_drawing_here"] Zel:=by
 refine F.ok Zd8 (fun vs H Q E h=>?_) (fun cdv A outer s H vs Q E hr h=>?_)
 ·obtain ⟨l,ls,rfl,_⟩:=h
  rfl
 ·obtain ⟨l,ls,rfl,⟨xs,hl,hL,hW,hlen⟩,k⟩:=h
  refine ⟨_,(Zg (Zv (GF (Ls:=["_law_scale"]) (Fs:=["_law_drawing_here"]) (fi:=[0]) (ZY.of (show Yv ["_law_drawing_here"] (Zh WI) _ ["_law_drawing_here"] [0]=true by decide +kernel)) rfl (Z8 (K:=K) rfl (ZD (Za Ze (Za Ze Zb)))) (fun cl C s3 H3 ex=>⟨(Zl (i:=0) (show ((["_law_scale"]:List Str)++(["_law_drawing_here"]:List Str)).Nodup by decide +kernel) rfl (Or.inl rfl)),(Zbd (Zt ZfE (Zr Yo hr (Za (pv 1) (Za (pv 0) Zb))) JZ (Zs _))),(pv 0)⟩)))),?_⟩
  refine ⟨(by show 2<=sizeLine;decide),fun D hD=>?_⟩
  obtain ⟨G0,z,s0,e0⟩:=lay (o:=.lst [.int 0,.int 1]) hD
  rw [z];clear z
  refine ⟨D,rfl,⟨_,Zu.of e0⟩,JG (K:=K) (a:=D) (xs:=[.int 0,.int 1]) (by show 2<=sizeLine;decide) (fun i zs G=>Zi G0 G /\ ∃scs:List Int,zs=scs.map V.int/\scs.length<=i /\ ∀sc∈scs,(sc=0∨sc=1) /\ ∃g,HG sc ls g) ⟨Zi.refl _,[],rfl,Nat.le_refl _,fun _ h=>(nomatch h)⟩
   (fun i zs G ⟨_,scs,e,l,_⟩=>by rw [e,List.length_map];exact l) (fun i zs G x=>Zu.of (x.1 _ _ e0)) (fun i y zs G hy x=>?_) (fun zs G x p hp=>?_)⟩
  ·obtain ⟨sG,scs,rfl,ln,al⟩:=x
   obtain ⟨sc,rfl,hsc⟩:∃sc:Int,y = .int sc/\(sc=0∨sc=1):=by
    match i,hy with
    | 0,h=>exact ⟨0,(Option.some.inj h).symm,.inl rfl⟩
    | 1,h=>exact ⟨1,(Option.some.inj h).symm,.inr rfl⟩
   have s2:=s0.trans sG
   refine ⟨_,rfl,_,rfl,l,sc,xs,ls,rfl,hsc,s2 _ _ hl,hL.same s2,hlen,hW,fun v G' s' lv=>⟨rfl,_,rfl,?_⟩⟩
   rcases lv with ⟨p,g,hg,rfl,_,_⟩ | ⟨rfl,_,_⟩
   ·refine JN ⟨_,rfl,sG.trans s',scs ++ [sc],by simp,by rw [List.length_append];show _+1<=_;lia,fun x hx=>?_⟩
    rcases List.mem_append.mp hx with h | h
    ·exact al x h
    ·rw [List.mem_singleton.mp h];exact ⟨hsc,g,hg⟩
   ·exact Y5 ⟨sG.trans s',scs,rfl,by lia,al⟩
  ·obtain ⟨sG,scs,rfl,ln,al⟩:=x
   exact k p _ scs (s0.trans (sG.step hp)) (s0.free (sG.free hp)) Zd ln al
theorem HG.told {sc:Int}{ls:List (Str×Int)}{g:Int->Int}{H H':Hp}{v:V} (h:HG sc ls g) (lv:lnV sc ls H H' v):∃p,v = .ref p/\H p=none/\H' p=some (.lst ((dfs g ls (Z9 ls UG ls.length)).map V.int)):=by
 rcases lv with ⟨p,g',hg,rfl,fp,e⟩ | ⟨_,ne,ts,tr,z⟩
 ·have:=h.uniq hg
  subst this
  exact ⟨p,rfl,fp,e⟩
 ·exfalso
  rcases h with ⟨e,_⟩ | ⟨_,T,L,tr',t0,_⟩
  ·exact ne e
  ·have:=tr.uniq tr'
   rw [this] at z
   exact z (by rw [List.map_singleton,t0])
def ZeJ (ls:List (Str×Int)) (i m:Nat):List Int:=(List.range' i m).filterMap fun i=>if UJ ls UG i=true then some (i:Int) else none
theorem Zff (ls:List (Str×Int)) (i m:Nat):ZeJ ls i (m+1)=(if UJ ls UG i=true then [(i:Int)] else [])++ZeJ ls (i+1) m:=by
 unfold ZeJ
 rw [List.range'_succ,List.filterMap_cons]
 split
 ·rename_i h
  split at h
  ·cases h
  ·rename_i q;rw [if_neg q];rfl
 ·rename_i h
  split at h
  ·rename_i q;cases h;rw [if_pos q];rfl
  ·cases h
def hgA (g:Int->Int) (ls:List (Str×Int)) (i:Nat):Option Int:=if UJ ls UG i=true then some (g (YV ls i).1-g (YV ls i).2) else none
def oI:Option Int->V
 | some i=>.int i
 | none=>.non
def lhL (g:Int->Int) (ls:List (Str×Int)) (n:Nat):List V:=(List.range n).map fun i=>oI (hgA g ls i)
def ZdN:Sp:=fun vs H Q _=>∃(l:Addr) (sc:Int) (ls:List (Str×Int)) (g:Int->Int),vs = [.ref l,.int sc]/\(sc=0∨sc=1)/\Drw H l ls/\HG sc ls g /\ ∀(p:Addr) (H':Hp),Zi H H'->H p=none->H' p=some (.lst (lhL g ls ls.length))->Q (.ref p) H'
abbrev Jm:Stmt:=top 61
theorem Yz:Zz ["_law_drawing_here", "_law_scale", "_law_known", "_law_found", "_law_letter"] ["_law_drawing_here", "_law_scale"] (Zh Jm):={}
theorem Zl6 {f:Addr}{fd:FuncData} (F:Yp K "_law_letter_heights" "_law_letter_heights" Jm f fd) (Yo:Yk P w K mg base 4 "_law_name_heights" ["_law_drawing_here", "_law_scale"] ZiA) (Yj:mg "list" = none):Yc P w K mg base J9 5 f fd ["_law_drawing_here", "_law_scale"] ZdN:=by
 refine F.ok Yz (fun vs H Q E h=>?_) (fun cdv A outer s H vs Q E hr h=>?_)
 ·obtain ⟨l,sc,ls,g,rfl,_⟩:=h
  rfl
 ·obtain ⟨l,sc,ls,g,rfl,hsc,⟨xs,hl,hL,hW,hlen⟩,hg,k⟩:=h
  refine ⟨_,(Zc (Zp (i:=2) Yz.nd rfl (Or.inl rfl) (Yl (YZ (K:=K) rfl) (by rfl) Yj boot_list (Za (Zr Yo hr (Za (pv 0) (Za (pv 1) Zb))) Zb)))
   (Zc (Zp (i:=3) Yz.nd rfl (Or.inl rfl) (ZD Zb))
   (Zc (Yq PassesOwn.never rfl (Z8 (K:=K) rfl (pv 0)) (Zl (i:=4) Yz.nd rfl (Or.inl rfl)) (Zg (ZR (Zt Yi (Zy (Yh (K:=K) rfl) (pv 4) Ze (fun _ _=>rfl)) ZJ (Zs _)) (Zg (ZZ (Yb (K:=K) rfl (Yx PySem.F.plainAttrs_list PySem.F.slot_list_append PySem.F.type_list_append ZO (pv 3) (Za JZ Zb))))) (Zg (ZZ (Yb (K:=K) rfl (Yx PySem.F.plainAttrs_list PySem.F.slot_list_append PySem.F.type_list_append ZO (pv 3) (Za (Yb (K:=K) rfl (Yx PySem.F.plainAttrs_list PySem.F.slot_list_pop PySem.F.type_list_pop Zd3 (pv 2) (Za Ze Zb))) Zb))))))))
   (Zg (Zv (pv 3)))))),?_⟩
  refine ⟨_,rfl,_,rfl,l,sc,xs,ls,rfl,hsc,hl,hL,hlen,hW,fun v H1 s1 lv=>?_⟩
  obtain ⟨p,rfl,fp,ep⟩:=hg.told lv
  refine ⟨p,_,rfl,.inl (Zu.of ep),fun kn hkn=>?_⟩
  obtain ⟨H2,z,s2,e2⟩:=lay (o:=.lst ((dfs g ls (Z9 ls UG ls.length)).map V.int)) hkn
  rw [z];clear z
  refine ⟨(by show 0<=sizeLine;exact Nat.zero_le _),fun q hq=>?_⟩
  obtain ⟨H3,z,s3,e3⟩:=lay (o:=.lst []) hq
  rw [z];clear z
  have s03:=(s1.trans s2).trans s3
  have fk:H kn=none:=s1.free hkn
  have fq:H q=none:=(s1.trans s2).free hq
  have kq:kn≠q:=Zf e2 hq
  have hxl:=hL.len
  have e0:(dfs g ls (Z9 ls UG ls.length))=dfs g ls (ZeJ ls 0 (ls.length-0)):=by
   unfold Z9 ZeJ
   rw [List.range_eq_range',Nat.sub_zero]
  rw [e0] at e2
  refine ⟨_,rfl,l,rfl,⟨_,Zu.of (s03 _ _ hl)⟩,JL (K:=K) (a:=l) (xs:=xs) (fun i σ G=>∃v4:Option V,σ = [some (.ref l),some (.int sc),some (.ref kn),some (.ref q),v4]/\Zi H G/\G kn=some (.lst ((dfs g ls (ZeJ ls i (ls.length-i))).map V.int))/\G q=some (.lst (lhL g ls i))) ⟨_,rfl,s03,s3 _ _ e2,e3⟩ (fun i σ G _ ⟨_,_,s,_⟩=>Zu.of (s _ _ hl)) ?_ ?_⟩
  ·rintro i x σ G hx ⟨v4,rfl,sG,ek,eq⟩
   obtain ⟨pq,ta,hp,rfl,hta⟩:=(hL.same sG).get hx
   have hi:i<ls.length:=(List.getElem?_eq_some_iff.mp hp).1
   have kk:=WK hp (pr:=UG)
   have lq:(lhL g ls i).length=i:=by simp [lhL]
   have em:ls.length-i=(ls.length-(i+1))+1:=by lia
   have putq:∀{G':Hp}{o:HO},Zi H G'->Zi H (upd G' q o):=fun s c o e=>by rw [Zj (Zf e fq)];exact s c o e
   have putk:∀{G':Hp}{o:HO},Zi H G'->Zi H (upd G' kn o):=fun s c o e=>by rw [Zj (Zf e fk)];exact s c o e
   refine ⟨_,rfl,ta,_,_,_,rfl,rfl,YT.of hta,Zo (j:=0) rfl,rfl,_,rfl,Z0 (fun hb=>?_) (fun hb=>?_)⟩
   ·have eb:pq.1 = "born" := by
     have:=of_decide_eq_true hb
     injection this
    have kf:UJ ls UG i=false:=by rw [kk,eb];decide
    refine ⟨_,rfl,.inl ⟨rfl,_,Zu.of eq⟩,q,_,_,rfl,rfl,eq,(by rw [lq,sizeLine_eq];lia),?_⟩
    refine ⟨_,rfl,putq sG,?_,?_⟩
    ·rw [Zj kq,ek,em,Zff,kf]
     rfl
    ·rw [Zd]
     unfold lhL
     rw [List.range_succ,List.map_append]
     show some (HO.lst (_ ++ [V.non]))=some (HO.lst (_ ++ [oI (hgA g ls i)]))
     have:hgA g ls i=none:=by unfold hgA;rw [kf];rfl
     rw [this]
     rfl
   ·have kt:UJ ls UG i=true:=by
     rw [kk]
     unfold UG
     simp
     intro z
     rw [z] at hb
     exact hb (decide_eq_true rfl)
    have el:ZeJ ls i (ls.length-i)=(i:Int)::ZeJ ls (i+1) (ls.length-(i+1)):=by rw [em,Zff,kt];rfl
    rw [el] at ek
    have ek':G kn=some (.lst (V.int (g (YV ls i).1-g (YV ls i).2)::(dfs g ls (ZeJ ls (i+1) (ls.length-(i+1)))).map V.int)):=by
     rw [ek]
     unfold dfs
     rw [List.map_cons,List.map_cons]
     simp
    refine ⟨_,rfl,.inl ⟨rfl,_,Zu.of eq⟩,_,rfl,.inl ⟨rfl,_,Zu.of ek'⟩,kn,_,0,0,_,rfl,rfl,ek',by decide,by decide,seqIndex_of (by decide) (by simp),rfl,?_⟩
    have eq2:(upd G kn (.lst (((V.int (g (YV ls i).1-g (YV ls i).2))::(dfs g ls (ZeJ ls (i+1) (ls.length-(i+1)))).map V.int).eraseIdx 0))) q=some (.lst (lhL g ls i)):=by rw [Zj (Ne.symm kq)];exact eq
    refine ⟨q,_,_,rfl,rfl,eq2,(by rw [lq,sizeLine_eq];lia),?_⟩
    refine ⟨_,rfl,putq (putk sG),?_,?_⟩
    ·rw [Zj kq,Zd]
     rfl
    ·rw [Zd]
     unfold lhL
     rw [List.range_succ,List.map_append]
     show some (HO.lst (_ ++ [V.int _]))=some (HO.lst (_ ++ [oI (hgA g ls i)]))
     have:hgA g ls i=some (g (YV ls i).1-g (YV ls i).2):=by unfold hgA;rw [kt];rfl
     rw [this]
     rfl
  ·rintro σ G ⟨v4,rfl,sG,ek,eq⟩
   rw [hxl] at eq
   exact ⟨_,rfl,k q G sG fq eq⟩
def PtL (ps:List Int):Prop:=∀(i:Nat) (x:Int),ps[i]? = some x -> ∃j:Nat,x=(j:Int)/\ps[j]? = some (i:Int)/\j≠i
def upB (k:Nat) (x:Int):Int:=if x>=(k:Int) then x+2 else x
def dnE (k:Nat) (x:Int):Int:=if x>(k:Int) then x-2 else x
def Uh (k:Nat) (x:Int):Int:=if x=(k:Int) then (k:Int)+1 else if x=(k:Int)+1 then (k:Int) else x
def Zav (ps:List Int) (k:Nat):List Int:=(ps.map (upB k)).take k ++ [(k:Int)+1,(k:Int)]++(ps.map (upB k)).drop k
def ZcK (ps:List Int) (k:Nat):List Int:=(ps.take k++ps.drop (k+2)).map (dnE k)
theorem Zku (ps:List Int) (k:Nat):(Zav ps k).length=ps.length+2:=by
 unfold Zav;simp;lia
theorem ZlF {ps:List Int}{k:Nat} (h:k+1<ps.length):(ZcK ps k).length+2=ps.length:=by
 unfold ZcK;simp;lia
theorem Zci {ps:List Int}{k:Nat} (hk:k<=ps.length) (i:Nat):(Zav ps k)[i]? = if i<k then ps[i]?.map (upB k) else if i=k then some ((k:Int)+1) else if i=k+1 then some (k:Int) else ps[i-2]?.map (upB k):=by
 unfold Zav
 have l1:((ps.map (upB k)).take k).length=k:=by simp;lia
 by_cases h1:i<k
 ·rw [if_pos h1,List.append_assoc,List.getElem?_append_left (by lia),List.getElem?_take,if_pos h1,List.getElem?_map]
 ·rw [if_neg h1,List.append_assoc,List.getElem?_append_right (by lia),l1]
  by_cases h2:i=k
  ·rw [if_pos h2,h2,Nat.sub_self];rfl
  ·rw [if_neg h2]
   by_cases h3:i=k+1
   ·rw [if_pos h3,h3,show k+1-k=1 by lia];rfl
   ·rw [if_neg h3,List.getElem?_append_right (by show 2<=_;lia),List.getElem?_drop,List.getElem?_map]
    congr 2
    show k+(i-k-2)=i-2
    lia
theorem PtL.born {ps:List Int}{k:Nat} (h:PtL ps) (hk:k<=ps.length):PtL (Zav ps k):=by
 intro i x e
 rw [Zci hk] at e
 have old:∀(i':Nat) (y:Int),ps[i']? = some y -> ∃j:Nat,upB k y=(j:Int)/\(Zav ps k)[j]? = some (upB k (i':Int))/\(j:Int)≠upB k (i':Int):=fun i' y e'=>by
  obtain ⟨j,rfl,e2,ne⟩:=h i' y e'
  unfold upB
  by_cases hj:k<=j
  ·refine ⟨j+2,by rw [if_pos (by lia)];rfl,?_,?_⟩
   ·rw [Zci hk,if_neg (by lia),if_neg (by lia),if_neg (by lia),Nat.add_sub_cancel,e2]
    rfl
   ·split<;>lia
  ·refine ⟨j,by rw [if_neg (by lia)],?_,?_⟩
   ·rw [Zci hk,if_pos (by lia),e2]
    rfl
   ·split<;>lia
 by_cases h1:i<k
 ·rw [if_pos h1] at e
  obtain ⟨y,e',rfl⟩:=Option.map_eq_some_iff.mp e
  obtain ⟨j,a,b,c⟩:=old i y e'
  have:upB k (i:Int)=(i:Int):=by unfold upB;rw [if_neg (by lia)]
  rw [this] at b c
  exact ⟨j,a,b,by lia⟩
 rw [if_neg h1] at e
 by_cases h2:i=k
 ·rw [if_pos h2] at e
  injection e with e
  refine ⟨k+1,by lia,?_,by lia⟩
  rw [Zci hk,if_neg (by lia),if_neg (by lia),if_pos rfl,h2]
 rw [if_neg h2] at e
 by_cases h3:i=k+1
 ·rw [if_pos h3] at e
  injection e with e
  refine ⟨k,by lia,?_,by lia⟩
  rw [Zci hk,if_neg (by lia),if_pos rfl,h3]
  rfl
 rw [if_neg h3] at e
 obtain ⟨y,e',rfl⟩:=Option.map_eq_some_iff.mp e
 obtain ⟨j,a,b,c⟩:=old (i-2) y e'
 have:upB k ((i-2:Nat):Int)=(i:Int):=by unfold upB;rw [if_pos (by lia)];lia
 rw [this] at b c
 exact ⟨j,a,b,by lia⟩
theorem ZhC {ps:List Int}{k:Nat} (hk:k+1<ps.length) (i:Nat):(ZcK ps k)[i]? = (if i<k then ps[i]? else ps[i+2]?).map (dnE k):=by
 unfold ZcK
 rw [List.getElem?_map]
 congr 1
 by_cases h1:i<k
 ·rw [if_pos h1,List.getElem?_append_left (by simp;lia),List.getElem?_take,if_pos h1]
 ·rw [if_neg h1,List.getElem?_append_right (by simp;lia),List.getElem?_drop]
  congr 1
  simp
  lia
theorem PtL.ended {ps:List Int}{k:Nat} (h:PtL ps) (e0:ps[k]? = some ((k:Int)+1)):PtL (ZcK ps k):=by
 obtain ⟨j0,j1,e1,_⟩:=h k _ e0
 have:j0=k+1:=by lia
 subst this
 have hk:k+1<ps.length:=(List.getElem?_eq_some_iff.mp e1).1
 have old:∀(i':Nat) (y:Int),i'≠k->i'≠k+1->ps[i']? = some y -> ∃j:Nat,dnE k y=(j:Int)/\(ZcK ps k)[j]? = some (dnE k (i':Int))/\(j:Int)≠dnE k (i':Int):=fun i' y n1 n2 e'=>by
  obtain ⟨j,rfl,e2,ne⟩:=h i' y e'
  have m1:j≠k:=fun z=>by subst z;rw [e0] at e2;injection e2;lia
  have m2:j≠k+1:=fun z=>by subst z;rw [e1] at e2;injection e2;lia
  unfold dnE
  by_cases hj:k<j
  ·refine ⟨j-2,by rw [if_pos (by lia)];lia,?_,?_⟩
   ·rw [ZhC hk,if_neg (by lia),show j-2+2=j by lia,e2]
    rfl
   ·split<;>lia
  ·refine ⟨j,by rw [if_neg (by lia)],?_,?_⟩
   ·rw [ZhC hk,if_pos (by lia),e2]
    rfl
   ·split<;>lia
 intro i x e
 rw [ZhC hk] at e
 obtain ⟨y,e',rfl⟩:=Option.map_eq_some_iff.mp e
 by_cases h1:i<k
 ·rw [if_pos h1] at e'
  obtain ⟨j,a,b,c⟩:=old i y (by lia) (by lia) e'
  have:dnE k (i:Int)=(i:Int):=by unfold dnE;rw [if_neg (by lia)]
  rw [this] at b c
  exact ⟨j,a,b,by lia⟩
 ·rw [if_neg h1] at e'
  obtain ⟨j,a,b,c⟩:=old (i+2) y (by lia) (by lia) e'
  have:dnE k ((i+2:Nat):Int)=(i:Int):=by unfold dnE;rw [if_pos (by lia)];lia
  rw [this] at b c
  exact ⟨j,a,b,by lia⟩
def ZfZ:Sp:=fun vs H Q _=>∃(v:V) (k:Nat) (ps:List Int),vs = [v,.int k]/\Je H v ps/\ps.length<=200 /\ ∀(v':V) (H':Hp),Zi H H'->Je H' v' (Zav ps k)->Q v' H'
abbrev JV:Stmt:=top 36
theorem UE:Zz ["partners", "k", "moved"] ["partners", "k"] (Zh JV):={}
theorem Zkj {f:Addr}{fd:FuncData} (F:Yp K "partners_born" "partners_born" JV f fd) (JU:mg "tuple" = none):Yc P w K mg base J9 1 f fd ["partners", "k"] ZfZ:=by
 refine F.ok UE (fun vs H Q E h=>?_) (fun cdv A outer s H vs Q E hr h=>?_)
 ·obtain ⟨v,k,ps,rfl,_⟩:=h
  rfl
 ·obtain ⟨v,k,ps,rfl,⟨a,rfl,ha⟩,hlen,q⟩:=h
  refine ⟨_,(Zc (Zp (i:=2) UE.nd rfl (Or.inl rfl) (Yl GQ (by rfl) JU boot_tuple (Za (GF (Ls:=["one"]) (Fs:=["k"]) (fi:=[1]) (ZY.of (show Yv ["partners", "k", "moved"] (Zh JV) _ ["k"] [1]=true by decide +kernel)) rfl (ZiB (K:=K) rfl (pv 0)) (fun cl C s3 H3 ex=>⟨(Zl (i:=0) (show ((["one"]:List Str)++(["k"]:List Str)).Nodup by decide +kernel) rfl (Or.inl rfl)),YS,(Zcf (Zt ZkU (pv 0) (pv 1) (Zs _)) (Zm ZE (pv 0) Ze) (pv 0))⟩)) Zb)))
   (Zg (Zv (Zm ZfT (Zm ZfT (Yy (ZbU (K:=K) rfl) (pv 2) Jv (Ym (pv 1))) (ZQ (Za (Zm ZE (pv 1) Ze) (Za (pv 1) Zb)))) (Yy (ZbU (K:=K) rfl) (pv 2) (Ym (pv 1)) Jv))))),?_⟩
  refine ⟨_,rfl,a,rfl,⟨_,YT.of ha⟩,Zk7 (K:=K) (a:=a) (xs:=ps.map V.int) (by rw [List.length_map,sizeLine_eq];lia) (fun i zs G=>G=H/\zs=((ps.map (upB k)).take i).map V.int) ⟨rfl,rfl⟩ (fun i zs G x=>by rw [x.2,List.length_map,List.length_take];lia) (fun i zs G x=>by rw [x.1];exact YT.of ha) (fun i y zs G hy x=>?_) (fun zs G x p hp=>?_)⟩
  ·obtain ⟨rfl,rfl⟩:=x
   obtain ⟨n,hn,rfl⟩:∃n,ps[i]? = some n/\y=V.int n:=by
    rw [List.getElem?_map] at hy
    obtain ⟨n,h1,h2⟩:=Option.map_eq_some_iff.mp hy
    exact ⟨n,h1,h2.symm⟩
   have hi:i<ps.length:=(List.getElem?_eq_some_iff.mp hn).1
   have st:((ps.map (upB k)).take (i+1)).map V.int=((ps.map (upB k)).take i).map V.int ++ [V.int (upB k n)]:=by
    rw [List.take_add_one,List.getElem?_map,hn,List.map_append]
    rfl
   refine ⟨_,rfl,_,rfl,_,_,rfl,rfl,_,rfl,Z0 (fun c=>?_) (fun c=>?_)⟩
   ·refine ⟨_,rfl,_,_,rfl,rfl,rfl,?_⟩
    rw [st]
    unfold upB
    rw [if_pos (of_decide_eq_true c)]
   ·refine ⟨_,rfl,rfl,?_⟩
    rw [st]
    unfold upB
    rw [if_neg (fun z=>c (decide_eq_true z))]
  ·obtain ⟨rfl,rfl⟩:=x
   rw [List.length_map,List.take_of_length_le (by rw [List.length_map];exact Nat.le_refl _)]
   obtain ⟨G1,z,s1,e1⟩:=lay (o:=.lst ((ps.map (upB k)).map V.int)) hp
   rw [z];clear z
   refine ⟨p,_,rfl,e1,fun m hm=>?_⟩
   obtain ⟨G2,z,s2,e2⟩:=lay (o:=.tup ((ps.map (upB k)).map V.int)) hm
   rw [z];clear z
   refine ⟨_,rfl,_,rfl,_,rfl,ZjA ⟨m,rfl,e2⟩ fun v1 G3 s3 w1=>?_⟩
   refine ⟨_,rfl,_,_,rfl,rfl,_,rfl,(by show 2<=sizeLine;decide),fun t ht=>?_⟩
   obtain ⟨G4,z,s4,e4⟩:=lay (o:=.tup [.int ((k:Int)+1),.int k]) ht
   rw [z];clear z
   have wl:∀{G G':Hp}{v:V}{x:List Int},Zi G G'->Je G v x->Je G' v x:=fun s ⟨b,e,h⟩=>⟨b,e,s _ _ h⟩
   refine ZdO (b:=[(k:Int)+1,(k:Int)]) (wl s4 w1) ⟨t,rfl,e4⟩ (by rw [sizeLine_eq];simp;lia) fun v2 G5 s5 w2=>?_
   refine ⟨_,rfl,_,rfl,_,rfl,?_⟩
   dsimp only [Zba]
   refine ZjY rfl ⟨m,rfl,s5 _ _ (s4 _ _ (s3 _ _ e2))⟩ fun v3 G6 s6 w3=>?_
   refine ZdO (wl s6 w2) w3 (by rw [sizeLine_eq];simp;lia) fun v4 G7 s7 w4=>?_
   exact q v4 G7 ((((((s1.trans s2).trans s3).trans s4).trans s5).trans s6).trans s7) w4
def Zh1:Sp:=fun vs H Q _=>∃(v:V) (k:Nat) (ps:List Int),vs = [v,.int k]/\Je H v ps/\ps.length<=200 /\ ∀(v':V) (H':Hp),Zi H H'->Je H' v' (ZcK ps k)->Q v' H'
abbrev Jx:Stmt:=top 37
theorem GP:Zz ["partners", "k", "left"] ["partners", "k"] (Zh Jx):={}
theorem Zlq {f:Addr}{fd:FuncData} (F:Yp K "partners_ended" "partners_ended" Jx f fd) (JU:mg "tuple" = none):Yc P w K mg base J9 1 f fd ["partners", "k"] Zh1:=by
 refine F.ok GP (fun vs H Q E h=>?_) (fun cdv A outer s H vs Q E hr h=>?_)
 ·obtain ⟨v,k,ps,rfl,_⟩:=h
  rfl
 ·obtain ⟨v,k,ps,rfl,wv,hlen,q⟩:=h
  refine ⟨_,(Zc (Zp (i:=2) GP.nd rfl (Or.inl rfl) (Zm ZfT (Yy (ZbU (K:=K) rfl) (pv 0) Jv (Ym (pv 1))) (Yy (ZbU (K:=K) rfl) (pv 0) (Ym (Zm ZE (pv 1) Ze)) Jv)))
   (Zg (Zv (Yl GQ (by rfl) JU boot_tuple (Za (GF (Ls:=["one"]) (Fs:=["k"]) (fi:=[1]) (ZY.of (show Yv ["partners", "k", "left"] (Zh Jx) _ ["k"] [1]=true by decide +kernel)) rfl (ZiB (K:=K) rfl (pv 2)) (fun cl C s3 H3 ex=>⟨(Zl (i:=0) (show ((["one"]:List Str)++(["k"]:List Str)).Nodup by decide +kernel) rfl (Or.inl rfl)),YS,(Zcf (Zt ZbS (pv 0) (pv 1) (Zs _)) (Zm YU (pv 0) Ze) (pv 0))⟩)) Zb))))),?_⟩
  have wl:∀{G G':Hp}{v:V}{x:List Int},Zi G G'->Je G v x->Je G' v x:=fun s ⟨b,e,h⟩=>⟨b,e,s _ _ h⟩
  refine ⟨_,rfl,_,rfl,_,rfl,?_⟩
  dsimp only [Zba]
  refine ZjA wv fun v1 G1 s1 w1=>?_
  refine ⟨_,rfl,_,rfl,_,_,rfl,rfl,_,rfl,?_⟩
  dsimp only [Zba]
  refine ZjY (k:=k+2) (by push_cast;rfl) (wl s1 wv) fun v2 G2 s2 w2=>?_
  refine ZdO (wl s2 w1) w2 (by rw [sizeLine_eq];simp;lia) fun v3 G3 s3 ⟨a,ev3,ha⟩=>?_
  subst ev3
  obtain ⟨L,eL⟩:∃L,ps.take k++ps.drop (k+2)=L:=⟨_,rfl⟩
  have lL:L.length<=200:=by rw [<- eL];simp;lia
  rw [eL] at ha
  refine ⟨_,rfl,a,rfl,⟨_,YT.of ha⟩,Zk7 (K:=K) (a:=a) (xs:=L.map V.int) (by rw [List.length_map,sizeLine_eq];lia) (fun i zs G=>G=G3/\zs=((L.map (dnE k)).take i).map V.int) ⟨rfl,rfl⟩ (fun i zs G x=>by rw [x.2,List.length_map,List.length_take];lia) (fun i zs G x=>by rw [x.1];exact YT.of ha) (fun i y zs G hy x=>?_) (fun zs G x p hp=>?_)⟩
  ·obtain ⟨rfl,rfl⟩:=x
   obtain ⟨n,hn,rfl⟩:∃n,L[i]? = some n/\y=V.int n:=by
    rw [List.getElem?_map] at hy
    obtain ⟨n,h1,h2⟩:=Option.map_eq_some_iff.mp hy
    exact ⟨n,h1,h2.symm⟩
   have st:((L.map (dnE k)).take (i+1)).map V.int=((L.map (dnE k)).take i).map V.int ++ [V.int (dnE k n)]:=by
    rw [List.take_add_one,List.getElem?_map,hn,List.map_append]
    rfl
   refine ⟨_,rfl,_,rfl,_,_,rfl,rfl,_,rfl,Z0 (fun c=>?_) (fun c=>?_)⟩
   ·refine ⟨_,rfl,_,_,rfl,rfl,rfl,?_⟩
    rw [st]
    unfold dnE
    rw [if_pos (of_decide_eq_true c)]
   ·refine ⟨_,rfl,rfl,?_⟩
    rw [st]
    unfold dnE
    rw [if_neg (fun z=>c (decide_eq_true z))]
  ·obtain ⟨rfl,rfl⟩:=x
   rw [List.length_map,List.take_of_length_le (by rw [List.length_map];exact Nat.le_refl _)]
   obtain ⟨G4,z,s4,e4⟩:=lay (o:=.lst ((L.map (dnE k)).map V.int)) hp
   rw [z];clear z
   refine ⟨p,_,rfl,e4,fun m hm=>?_⟩
   obtain ⟨G5,z,s5,e5⟩:=lay (o:=.tup ((L.map (dnE k)).map V.int)) hm
   rw [z];clear z
   refine q (.ref m) G5 ((((s1.trans s2).trans s3).trans s4).trans s5) ⟨m,rfl,?_⟩
   rw [e5]
   unfold ZcK
   rw [eL]
def Uw (ps:List Int) (k:Nat):List Int:=((ps.map (Uh k)).set k ((ps.map (Uh k)).getD (k+1) 0)).set (k+1) ((ps.map (Uh k)).getD k 0)
structure ZcD (ps:List Int) (k a b:Nat):Prop where
 pt:PtL ps
 ea:ps[k]? = some (a:Int)
 eb:ps[k+1]? = some (b:Int)
 ne:a≠k+1
theorem ZcD.facts {ps:List Int}{k a b:Nat} (h:ZcD ps k a b):ps[a]? = some (k:Int)/\ps[b]? = some ((k:Int)+1)/\a≠k/\b≠k+1/\b≠k/\a≠b/\a<ps.length/\b<ps.length/\k+1<ps.length:=by
 obtain ⟨j,e1,e2,n1⟩:=h.pt k _ h.ea
 obtain ⟨j',e3,e4,n2⟩:=h.pt (k+1) _ h.eb
 have:j=a:=by lia
 subst this
 have:j'=b:=by lia
 subst this
 have nb:j'≠k:=fun z=>by
  subst z
  rw [e2.symm.trans (by rfl)] at e2
  have:=h.ea.symm.trans e4
  injection this with this
  exact h.ne (by lia)
 have nab:j≠j':=fun z=>by
  subst z
  have:=e2.symm.trans e4
  injection this with this
  lia
 exact ⟨e2,by rw [e4];rfl,n1,n2,nb,nab,(List.getElem?_eq_some_iff.mp e2).1,(List.getElem?_eq_some_iff.mp e4).1,(List.getElem?_eq_some_iff.mp h.eb).1⟩
theorem ZkZ (ps:List Int) (k:Nat):(Uw ps k).length=ps.length:=by unfold Uw;simp
theorem UX {ps:List Int}{k a b:Nat} (h:ZcD ps k a b) (i:Nat):(Uw ps k)[i]? = if i=k+1 then some (a:Int) else if i=k then some (b:Int) else ps[i]?.map (Uh k):=by
 obtain ⟨fa,fb,n1,n2,n3,n4,l1,l2,l3⟩:=h.facts
 have ma:(ps.map (Uh k)).getD k 0=(a:Int):=by
  rw [List.getD_eq_getElem?_getD,List.getElem?_map,h.ea]
  show Uh k a=_
  unfold Uh
  have:=h.ne
  rw [if_neg (by lia),if_neg (by lia)]
 have mb:(ps.map (Uh k)).getD (k+1) 0=(b:Int):=by
  rw [List.getD_eq_getElem?_getD,List.getElem?_map,h.eb]
  show Uh k b=_
  unfold Uh
  rw [if_neg (by lia),if_neg (by lia)]
 unfold Uw
 rw [ma,mb,List.getElem?_set,List.length_set,List.length_map,List.getElem?_set,List.length_map,List.getElem?_map]
 by_cases h1:i=k+1
 ·rw [if_pos h1,if_pos h1.symm,if_pos (by lia)]
 ·rw [if_neg h1,if_neg (Ne.symm h1)]
  by_cases h2:i=k
  ·rw [if_pos h2,if_pos h2.symm,if_pos (by lia)]
  ·rw [if_neg h2,if_neg (Ne.symm h2)]
theorem ZcD.kept {ps:List Int}{k a b:Nat} (h:ZcD ps k a b):PtL (Uw ps k):=by
 obtain ⟨fa,fb,n1,n2,n3,n4,l1,l2,l3⟩:=h.facts
 have nn:=h.ne
 intro i x e
 rw [UX h] at e
 by_cases h1:i=k+1
 ·rw [if_pos h1] at e
  injection e with e
  refine ⟨a,e.symm,?_,by lia⟩
  rw [UX h,if_neg (by lia),if_neg (by lia),fa,h1]
  show some (Uh k k)=_
  unfold Uh
  rw [if_pos rfl]
  rfl
 rw [if_neg h1] at e
 by_cases h2:i=k
 ·rw [if_pos h2] at e
  injection e with e
  refine ⟨b,e.symm,?_,by lia⟩
  rw [UX h,if_neg (by lia),if_neg (by lia),fb,h2]
  show some (Uh k ((k:Int)+1))=_
  unfold Uh
  rw [if_neg (by lia),if_pos rfl]
 rw [if_neg h2] at e
 obtain ⟨y,e',rfl⟩:=Option.map_eq_some_iff.mp e
 obtain ⟨j,rfl,e2,n⟩:=h.pt i y e'
 unfold Uh
 by_cases c1:j=k
 ·subst c1
  rw [if_pos rfl]
  refine ⟨j+1,by rfl,?_,by lia⟩
  rw [UX h,if_pos rfl,<- h.ea,e2]
 by_cases c2:j=k+1
 ·subst c2
  rw [if_neg (by lia),if_pos (by rfl)]
  refine ⟨k,by rfl,?_,by lia⟩
  rw [UX h,if_neg (by lia),if_pos rfl,<- h.eb,e2]
 rw [if_neg (by lia),if_neg (by lia)]
 refine ⟨j,rfl,?_,n⟩
 rw [UX h,if_neg c2,if_neg c1,e2]
 show some (Uh k i)=_
 unfold Uh
 rw [if_neg (by lia),if_neg (by lia)]
theorem ZlR {ps:List Int}{k a b:Nat} (h:ZcD ps k a b):(((ps.set k (b:Int)).set (k+1) (a:Int)).set b (k:Int)).set a ((k:Int)+1)=Uw ps k:=by
 obtain ⟨fa,fb,n1,n2,n3,n4,l1,l2,l3⟩:=h.facts
 have nn:=h.ne
 refine List.ext_getElem? fun i=>?_
 rw [UX h,List.getElem?_set,List.length_set,List.length_set,List.length_set,List.getElem?_set,List.length_set,List.length_set,List.getElem?_set,List.length_set,List.getElem?_set]
 by_cases c1:a=i
 ·subst c1
  rw [if_pos rfl,if_pos l1,if_neg (by lia),if_neg (by lia),fa]
  show _=some (Uh k k)
  unfold Uh
  rw [if_pos rfl]
 rw [if_neg c1]
 by_cases c2:b=i
 ·subst c2
  rw [if_pos rfl,if_pos l2,if_neg (by lia),if_neg (by lia),fb]
  show _=some (Uh k ((k:Int)+1))
  unfold Uh
  rw [if_neg (by lia),if_pos rfl]
 rw [if_neg c2]
 by_cases c3:i=k+1
 ·rw [if_pos c3,if_pos c3.symm,if_pos l3]
 rw [if_neg c3,if_neg (Ne.symm c3)]
 by_cases c4:i=k
 ·rw [if_pos c4,if_pos c4.symm,if_pos (by lia)]
 rw [if_neg c4,if_neg (Ne.symm c4)]
 cases e:ps[i]? with
 | none=>rfl
 | some y=>
  show _=some (Uh k y)
  obtain ⟨j,rfl,e2,n⟩:=h.pt i y e
  unfold Uh
  rw [if_neg (fun z=>?_),if_neg (fun z=>?_)]
  ·have:j=k+1:=by lia
   subst this
   have:=e2.symm.trans h.eb
   injection this with this
   lia
  ·have:j=k:=by lia
   subst this
   have:=e2.symm.trans h.ea
   injection this with this
   lia
abbrev W7:Stmt:=top 38
theorem UD:Zz ["partners", "k", "row"] ["partners", "k"] (Zh W7):={}
def Zfv:Sp:=fun vs H Q _=>∃(v:V) (k a b:Nat) (ps:List Int),vs = [v,.int k]/\Je H v ps/\ps.length<=200/\ZcD ps k a b /\ ∀(v':V) (H':Hp),Zi H H'->Je H' v' (Uw ps k)->Q v' H'
theorem ZkL {f:Addr}{fd:FuncData} (F:Yp K "partners_kept" "partners_kept" W7 f fd) (JU:mg "tuple" = none) (Yj:mg "list" = none):Yc P w K mg base J9 1 f fd ["partners", "k"] Zfv:=by
 refine F.ok UD (fun vs H Q E h=>?_) (fun cdv A outer s H vs Q E hr h=>?_)
 ·obtain ⟨v,k,a,b,ps,rfl,_⟩:=h
  rfl
 ·obtain ⟨v,k,a,b,ps,rfl,⟨pa,rfl,hpa⟩,hlen,tb,q⟩:=h
  refine ⟨_,(Zc (Zp (i:=2) UD.nd rfl (Or.inl rfl) (Yl (YZ (K:=K) rfl) (by rfl) Yj boot_list (Za (pv 0) Zb)))
   (Zc (Yr (ZQ (Za (Zy (Zn (K:=K) rfl) (pv 2) (Zm ZE (pv 1) Ze) (fun _ _=>rfl)) (Za (Zy (Zn (K:=K) rfl) (pv 2) (pv 1) (fun _ _=>rfl)) Zb))) (Z6 (K:=K) (n:=2) rfl rfl (Zq (YH (pv 2) (pv 1) set_list) (Zq (YH (pv 2) (Zm ZE (pv 1) Ze) set_list) ZU))))
   (Zc (Yr (pv 1) (YH (pv 2) (Zy (Zn (K:=K) rfl) (pv 2) (pv 1) (fun _ _=>rfl)) set_list))
   (Zc (Yr (Zm ZE (pv 1) Ze) (YH (pv 2) (Zy (Zn (K:=K) rfl) (pv 2) (Zm ZE (pv 1) Ze) (fun _ _=>rfl)) set_list))
   (Zg (Zv (Yl GQ (by rfl) JU boot_tuple (Za (pv 2) Zb)))))))),?_⟩
  obtain ⟨fa,fb,n1,n2,n3,n4,l1,l2,l3⟩:=tb.facts
  have nn:=tb.ne
  refine ⟨_,rfl,pa,_,rfl,.inr (YT.of hpa),fun l hl=>?_⟩
  obtain ⟨G1,z,s1,e1⟩:=lay (o:=.lst (ps.map V.int)) hl
  rw [z];clear z
  have g1:(ps.map V.int)[k+1]? = some (V.int b):=by rw [List.getElem?_map,tb.eb];rfl
  have g0:(ps.map V.int)[k]? = some (V.int a):=by rw [List.getElem?_map,tb.ea];rfl
  have kc:(k:Int)+1=((k+1:Nat):Int):=by push_cast;rfl
  refine ⟨_,rfl,_,rfl,_,_,rfl,rfl,l,_,_,_,rfl,rfl,Zu.of e1,(by rw [kc];exact Zo g1),_,rfl,_,rfl,l,_,_,_,rfl,rfl,Zu.of e1,Zo g0,(by show 2<=sizeLine;decide),fun t ht=>?_⟩
  obtain ⟨G2,z,s2,e2⟩:=lay (o:=.tup [.int b,.int a]) ht
  rw [z];clear z
  have ntl:t≠l:=Zf e1 ht |>.symm
  have sl2:=s2 _ _ e1
  have put:∀{G:Hp}{o:HO},Zi H G->Zi H (upd G l o):=fun s c o e=>by rw [Zj (Zf e hl)];exact s c o e
  have sH2:=s1.trans s2
  generalize eX1:(ps.map V.int).set k (V.int b)=X1
  generalize eX2:X1.set (k+1) (V.int a)=X2
  generalize eX3:X2.set b (V.int k)=X3
  generalize eX4:X3.set a (V.int ((k:Int)+1))=X4
  have m0:(ps.map V.int).length=ps.length:=List.length_map ..
  have m1:X1.length=ps.length:=by rw [<- eX1,List.length_set,m0]
  have m2:X2.length=ps.length:=by rw [<- eX2,List.length_set,m1]
  have m3:X3.length=ps.length:=by rw [<- eX3,List.length_set,m2]
  have i2:X2[k]? = some (V.int b):=by
   rw [<- eX2,List.getElem?_set,if_neg (by lia),<- eX1,List.getElem?_set,if_pos rfl,if_pos (by lia)]
  have i3:X3[k+1]? = some (V.int a):=by
   rw [<- eX3,List.getElem?_set,if_neg (by lia),<- eX2,List.getElem?_set,if_pos rfl,if_pos (by lia)]
  have x4:X4=(Uw ps k).map V.int:=by
   rw [<- ZlR tb,<- eX4,<- eX3,<- eX2,<- eX1,List.map_set,List.map_set,List.map_set,List.map_set]
  refine ⟨t,_,rfl,YT.of e2,rfl,_,_,rfl,_,rfl,_,rfl,l,_,_,k,rfl,rfl,sl2,Y0 (by lia),?_⟩
  rw [eX1]
  refine ⟨_,_,rfl,_,rfl,_,rfl,_,_,rfl,rfl,l,_,_,k+1,rfl,rfl,Zd,(by rw [kc];exact Y0 (by lia)),?_⟩
  rw [eX2,Jy]
  refine ⟨rfl,_,rfl,_,rfl,_,rfl,_,rfl,l,_,_,_,rfl,rfl,Zu.of Zd,Zo i2,l,_,_,b,rfl,rfl,Zd,Y0 (by lia),?_⟩
  rw [eX3,Jy]
  refine ⟨_,rfl,_,_,rfl,rfl,_,rfl,_,rfl,_,rfl,_,_,rfl,rfl,l,_,_,_,rfl,rfl,Zu.of Zd,(by rw [kc];exact Zo i3),l,_,_,a,rfl,rfl,Zd,Y0 (by lia),?_⟩
  rw [eX4,Jy]
  refine ⟨_,rfl,l,_,rfl,Zd,fun m hm=>?_⟩
  exact q (.ref m) _ ((put sH2).trans (Zi.laid hm)) ⟨m,rfl,by rw [Zd,x4]⟩
theorem ZmO {x y:Nat}{l:List Int} (p:l.Perm [(x:Int),(y:Int)]) (s:l.Pairwise (· <= ·)):l = [((min x y:Nat):Int),((max x y:Nat):Int)]:=by
 refine Zbw (p.trans ?_) s (by simp;lia)
 rcases Nat.le_total x y with h | h
 ·rw [Nat.min_eq_left h,Nat.max_eq_right h]
 ·rw [Nat.min_eq_right h,Nat.max_eq_left h]
  exact List.Perm.swap ..
theorem Ziy {α:Type}{a b x y:α} (h:[a,b].Perm [x,y]):(a=x/\b=y)∨(a=y/\b=x):=by
 have h1:a ∈ [x,y]:=h.mem_iff.mp List.mem_cons_self
 rcases List.mem_cons.mp h1 with e | e
 ·subst e
  have:=List.Perm.cons_inv h
  exact .inl ⟨rfl,List.singleton_perm_singleton.mp this⟩
 ·have e:=List.mem_singleton.mp e
  subst e
  have:=List.Perm.cons_inv (h.trans (List.Perm.swap ..))
  exact .inr ⟨rfl,List.singleton_perm_singleton.mp this⟩
def W5 (k a b:Nat):Bool:=(decide (min k a<min (k+1) b)&&decide (min (k+1) b<max k a)&&decide (max k a<max (k+1) b))||(decide (min (k+1) b<min k a)&&decide (min k a<max (k+1) b)&&decide (max (k+1) b<max k a))
def Zfw:Sp:=fun vs H Q _=>∃(v:V) (k a b:Nat) (ps:List Int),vs = [v,.int k]/\Je H v ps/\ps.length<=200/\ZcD ps k a b /\ ∀(H':Hp),Zi H H'->Q (.bl (W5 k a b)) H'
abbrev Zaa:Stmt:=top 39
theorem G9:Zz ["partners", "k", "first", "second"] ["partners", "k"] (Zh Zaa):={}
theorem ZlY {f:Addr}{fd:FuncData} (F:Yp K "is_tangled" "is_tangled" Zaa f fd) (W4:mg "sorted" = none):Yc P w K mg base J9 1 f fd ["partners", "k"] Zfw:=by
 refine F.ok G9 (fun vs H Q E h=>?_) (fun cdv A outer s H vs Q E hr h=>?_)
 ·obtain ⟨v,k,a,b,ps,rfl,_⟩:=h
  rfl
 ·obtain ⟨v,k,a,b,ps,rfl,⟨pa,rfl,hpa⟩,hlen,tb,q⟩:=h
  refine ⟨_,(Zc (Yr (Zx (ZeB (K:=K) rfl hr.units) (by rfl) W4 boot_sorted (Za (ZD (Za (Zx (ZbN (K:=K) rfl) (by rfl) W4 boot_sorted (Za (ZD (Za (pv 1) (Za (Zy (Yh (K:=K) rfl) (pv 0) (pv 1) (fun _ _=>rfl)) Zb))) Zb)) (Za (Zx (ZbN (K:=K) rfl) (by rfl) W4 boot_sorted (Za (ZD (Za (Zm ZE (pv 1) Ze) (Za (Zy (Yh (K:=K) rfl) (pv 0) (Zm ZE (pv 1) Ze) (fun _ _=>rfl)) Zb))) Zb)) Zb))) Zb)) (Zdu (K:=K) (n:=2) rfl rfl (Zq (Zl (i:=2) G9.nd rfl (Or.inl rfl)) (Zq (Zl (i:=3) G9.nd rfl (Or.inl rfl)) ZU))))
   (Zg (Zv (ZkW Gf Gf (Zy (Zn (K:=K) rfl) (pv 3) Ze (fun _ _=>rfl)) (Zy (Zn (K:=K) rfl) (pv 2) Ze (fun _ _=>rfl)) (Zy (Zn (K:=K) rfl) (pv 3) Ze (fun _ _=>rfl)))))),?_⟩
  obtain ⟨fa,fb,n1,n2,n3,n4,l1,l2,l3⟩:=tb.facts
  have nn:=tb.ne
  have g1:(ps.map V.int)[k+1]? = some (V.int b):=by rw [List.getElem?_map,tb.eb];rfl
  have g0:(ps.map V.int)[k]? = some (V.int a):=by rw [List.getElem?_map,tb.ea];rfl
  have kc:(k:Int)+1=((k+1:Nat):Int):=by push_cast;rfl
  refine ⟨_,rfl,_,rfl,_,rfl,pa,_,_,_,rfl,rfl,YT.of hpa,Zo g0,(by show 2<=sizeLine;decide),fun d1 hd1=>?_⟩
  obtain ⟨G1,z,s1,e1⟩:=lay (o:=.lst [.int k,.int a]) hd1
  rw [z];clear z
  refine ⟨d1,[(k:Int),(a:Int)],rfl,Zu.of e1,(by show 2<64;decide),fun r1 ns1 hr1 p1 o1=>?_⟩
  have:=ZmO p1 o1
  subst this
  obtain ⟨G2,z,s2,e2⟩:=lay (o:=.lst ([((min k a:Nat):Int),((max k a:Nat):Int)].map V.int)) hr1
  rw [z];clear z
  refine ⟨_,rfl,_,_,rfl,rfl,_,rfl,_,rfl,_,_,rfl,rfl,pa,_,_,_,rfl,rfl,YT.of (s2 _ _ (s1 _ _ hpa)),(by rw [kc];exact Zo g1),(by show 2<=sizeLine;decide),fun d2 hd2=>?_⟩
  obtain ⟨G3,z,s3,e3⟩:=lay (o:=.lst [.int ((k:Int)+1),.int b]) hd2
  rw [z];clear z
  refine ⟨d2,[((k+1:Nat):Int),(b:Int)],rfl,Zu.of (by rw [e3,kc];rfl),(by show 2<64;decide),fun r2 ns2 hr2 p2 o2=>?_⟩
  have:=ZmO p2 o2
  subst this
  obtain ⟨G4,z,s4,e4⟩:=lay (o:=.lst ([((min (k+1) b:Nat):Int),((max (k+1) b:Nat):Int)].map V.int)) hr2
  rw [z];clear z
  refine ⟨(by show 2<=sizeLine;decide),fun d3 hd3=>?_⟩
  obtain ⟨G5,z,s5,e5⟩:=lay (o:=.lst [.ref r1,.ref r2]) hd3
  rw [z];clear z
  refine ⟨d3,_,[_,_],rfl,Zu.of e5,.cons ⟨r1,rfl,s5 _ _ (s4 _ _ (s3 _ _ e2))⟩ (.cons ⟨r2,rfl,s5 _ _ e4⟩ .nil),rfl,fun l zs vs fl pz pv lr rise=>?_⟩
  have lz:=pz.length_eq
  have lv:=pv.length_eq
  match zs,vs,lz,lv,pv,lr,rise with
  | [z1,z2],[v1,v2],_,_,pv,.cons ⟨c1,ez1,hc1⟩ (.cons ⟨c2,ez2,hc2⟩ .nil),rise=>
  subst ez1 ez2
  obtain ⟨G6,z,s6,e6⟩:=lay (o:=.lst [.ref c1,.ref c2]) fl
  rw [z];clear z
  have hc1:=s6 _ _ hc1
  have hc2:=s6 _ _ hc2
  have sH:=((((s1.trans s2).trans s3).trans s4).trans s5).trans s6
  have lx:lexLt v2 v1=false:=by
   have:=List.pairwise_cons.mp rise
   exact this.1 _ List.mem_cons_self
  refine ⟨l,_,rfl,Zu.of e6,rfl,_,_,rfl,_,_,rfl,rfl,?_⟩
  rcases Ziy pv with ⟨e,e'⟩ | ⟨e,e'⟩<;>subst e e'
  ·have dn:(min k a)≠(min (k+1) b):=by lia
   have lo:min k a<min (k+1) b:=by
    rw [L2.lexLt,if_neg (by lia)] at lx
    have:=of_decide_eq_false lx
    lia
   refine ⟨_,rfl,c2,_,_,_,rfl,rfl,Zu.of hc2,Zo (j:=0) rfl,_,rfl,c1,_,_,_,rfl,rfl,Zu.of hc1,Zo (j:=1) rfl,_,_,rfl,rfl,_,rfl,Z0 (fun c=>?_) (fun c=>?_)⟩
   ·refine ⟨_,rfl,c2,_,_,_,rfl,rfl,Zu.of hc2,Zo (j:=1) rfl,_,_,rfl,rfl,?_⟩
    have e:W5 k a b=decide (((max k a:Nat):Int)<((max (k+1) b:Nat):Int)):=by
     have c:=of_decide_eq_true c
     rw [Bool.eq_iff_iff,decide_eq_true_eq]
     unfold W5
     simp only [Bool.or_eq_true,Bool.and_eq_true,decide_eq_true_eq]
     lia
    have q':=q _ sH
    rw [e] at q'
    exact q'
   ·have e:W5 k a b=false:=by
     have c:¬_:=fun z=>c (decide_eq_true z)
     rw [Bool.eq_false_iff]
     unfold W5
     simp only [Bool.or_eq_true,Bool.and_eq_true,decide_eq_true_eq,ne_eq]
     lia
    rw [e] at q
    exact q _ sH
  ·have dn:(min k a)≠(min (k+1) b):=by lia
   have lo:min (k+1) b<min k a:=by
    rw [L2.lexLt,if_neg (by lia)] at lx
    have:=of_decide_eq_false lx
    lia
   refine ⟨_,rfl,c2,_,_,_,rfl,rfl,Zu.of hc2,Zo (j:=0) rfl,_,rfl,c1,_,_,_,rfl,rfl,Zu.of hc1,Zo (j:=1) rfl,_,_,rfl,rfl,_,rfl,Z0 (fun c=>?_) (fun c=>?_)⟩
   ·refine ⟨_,rfl,c2,_,_,_,rfl,rfl,Zu.of hc2,Zo (j:=1) rfl,_,_,rfl,rfl,?_⟩
    have e:W5 k a b=decide (((max (k+1) b:Nat):Int)<((max k a:Nat):Int)):=by
     have c:=of_decide_eq_true c
     rw [Bool.eq_iff_iff,decide_eq_true_eq]
     unfold W5
     simp only [Bool.or_eq_true,Bool.and_eq_true,decide_eq_true_eq]
     lia
    have q':=q _ sH
    rw [e] at q'
    exact q'
   ·have e:W5 k a b=false:=by
     have c:¬_:=fun z=>c (decide_eq_true z)
     rw [Bool.eq_false_iff]
     unfold W5
     simp only [Bool.or_eq_true,Bool.and_eq_true,decide_eq_true_eq,ne_eq]
     lia
    rw [e] at q
    exact q _ sH
def ZpJ (H:Hp) (v:V) (r:List Int×Bool):Prop:=∃(t:Addr) (x:V),v = .ref t/\H t=some (.tup [x,.bl r.2])/\Je H x r.1
def Uo (ps:List Int) (q:Str×Int) (h:Option Int):List (List Int×Bool):=
 if q.1 = "born" then [(Zav ps q.2.toNat,false)]
 else if decide (ps.getD q.2.toNat 0=q.2+1) != decide (q.1 = "end") then []
 else if q.1 = "end" then [(ZcK ps q.2.toNat,false)]
 else (Uw ps q.2.toNat,false)::(if h=some 0/\W5 q.2.toNat (ps.getD q.2.toNat 0).toNat (ps.getD (q.2.toNat+1) 0).toNat=false then [(ps,true)] else [])
def ZhX:Sp:=fun vs H Q _=>∃(v:V) (t:Addr) (q:Str×Int) (h:Option Int) (ps:List Int),vs = [v,.ref t,oI h]/\Je H v ps/\H t=some (.tup [.str q.1,.int q.2])/\ps.length<=200/\PtL ps/\0<=q.2 /\
 (q.1 ≠ "born" -> q.2+1<ps.length)/\((q.1 = "cross")->h≠none)/\(q.1 = "born" ∨ q.1 = "end" ∨ q.1 = "cross") /\ ∀(p:Addr) (xs:List V) (H':Hp),Zi H H'->H' p=some (.lst xs)->Paired (ZpJ H') xs (Uo ps q h)->Q (.ref p) H'
abbrev Zct:Stmt:=top 40
theorem UM:Zz ["partners", "letter", "height", "kind", "k", "found"] ["partners", "letter", "height"] (Zh Zct):={}
theorem Zl1 {f:Addr}{fd:FuncData} (F:Yp K "ways_on" "ways_on" Zct f fd) (Gb:Yk P w K mg base 1 "partners_born" ["partners", "k"] ZfZ) (Wx:Yk P w K mg base 1 "partners_ended" ["partners", "k"] Zh1) (Gd:Yk P w K mg base 1 "partners_kept" ["partners", "k"] Zfv) (Jz:Yk P w K mg base 1 "is_tangled" ["partners", "k"] Zfw):Yc P w K mg base J9 2 f fd ["partners", "letter", "height"] ZhX:=by
 refine F.ok UM (fun vs H Q E h=>?_) (fun cdv A outer s H vs Q E hr h=>?_)
 ·obtain ⟨v,t,q,h,ps,rfl,_⟩:=h
  rfl
 ·obtain ⟨v,t,q,h,ps,rfl,wv,ht,hlen,pt,k0,hk,hh,hq,k⟩:=h
  refine ⟨_,(Zc (Yr (pv 1) (Z6 (K:=K) (n:=2) rfl rfl (Zq (Zl (i:=3) UM.nd rfl (Or.inl rfl)) (Zq (Zl (i:=4) UM.nd rfl (Or.inl rfl)) ZU))))
   (Zc (ZR (Zt Yi (pv 3) ZJ (Zs _)) (Zg (Zv (ZD (Za (ZQ (Za (Zr Gb hr (Za (pv 0) (Za (pv 4) Zb))) (Za Gv Zb))) Zb)))) ZG)
   (Zc (ZR (Zt Zc8 (Yg Yi (Zy (Yh (K:=K) rfl) (pv 0) (pv 4) (fun _ _=>rfl)) (Zm ZE (pv 4) Ze) (Zs _)) (Yg Yi (pv 3) ZJ (Zs _)) (Zs _)) (Zg (Zv (ZD Zb))) ZG)
   (Zc (ZR (Zt Yi (pv 3) ZJ (Zs _)) (Zg (Zv (ZD (Za (ZQ (Za (Zr Wx hr (Za (pv 0) (Za (pv 4) Zb))) (Za Gv Zb))) Zb)))) ZG)
   (Zc (Zp (i:=5) UM.nd rfl (Or.inl rfl) (ZD (Za (ZQ (Za (Zr Gd hr (Za (pv 0) (Za (pv 4) Zb))) (Za Gv Zb))) Zb)))
   (Zc (ZR (PW.pt (WE (Zt Yi (pv 2) Ze (Zs _)) (Gi (WB (JX (Zr Jz hr (Za (pv 0) (Za (pv 4) Zb)))))))) (Zg (ZZ (Yb (K:=K) rfl (Yx PySem.F.plainAttrs_list PySem.F.slot_list_append PySem.F.type_list_append ZO (pv 5) (Za (ZQ (Za (pv 0) (Za Gv Zb))) Zb))))) ZG)
   (Zg (Zv (pv 5))))))))),?_⟩
  obtain ⟨kd,kk⟩:=q
  obtain ⟨pa,rfl,hpa⟩:=wv
  dsimp only at ht k0 hk hh hq k
  obtain ⟨n,rfl⟩:=Int.eq_ofNat_of_zero_le k0
  have wv:Je H (.ref pa) ps:=⟨pa,rfl,hpa⟩
  refine ⟨_,rfl,t,_,rfl,YT.of ht,rfl,_,_,rfl,_,_,rfl,rfl,?_⟩
  refine ⟨_,rfl,rfl,_,rfl,Z0 (fun hb=>?_) (fun hb=>?_)⟩
  ·have eb:kd = "born" := by
    have:=of_decide_eq_true hb
    injection this
   refine ⟨_,rfl,_,rfl,_,n,ps,rfl,wv,hlen,fun v1 H1 s1 w1=>⟨(by show 2<=sizeLine;decide),fun t1 f1=>?_⟩⟩
   obtain ⟨H2,z,s2,e2⟩:=lay (o:=.tup [v1,.bl false]) f1
   rw [z];clear z
   refine ⟨(by show 1<=sizeLine;decide),fun p fp=>?_⟩
   obtain ⟨H3,z,s3,e3⟩:=lay (o:=.lst [.ref t1]) fp
   rw [z];clear z
   refine k p _ H3 ((s1.trans s2).trans s3) e3 ?_
   obtain ⟨c,rfl,hc⟩:=w1
   unfold Uo
   rw [if_pos eb]
   exact .cons ⟨t1,_,rfl,s3 _ _ e2,c,rfl,s3 _ _ (s2 _ _ hc)⟩ .nil
  have nb:kd ≠ "born" := fun z=>hb (by rw [z];exact decide_eq_true rfl)
  have hk:=hk nb
  obtain ⟨x,hx⟩:∃x,ps[n]? = some x:=⟨_,List.getElem?_eq_getElem (by lia)⟩
  obtain ⟨a,rfl,ea,na⟩:=pt n x hx
  obtain ⟨y,hy⟩:∃y,ps[n+1]? = some y:=⟨_,List.getElem?_eq_getElem (by lia)⟩
  obtain ⟨b,rfl,eb,nb'⟩:=pt (n+1) y hy
  have g0:(ps.map V.int)[n]? = some (V.int a):=by rw [List.getElem?_map,hx];rfl
  have gd:ps.getD n 0=(a:Int):=by rw [List.getD_eq_getElem?_getD,hx];rfl
  have gd1:ps.getD (n+1) 0=(b:Int):=by rw [List.getD_eq_getElem?_getD,hy];rfl
  have hq:kd = "end" ∨ kd = "cross" := hq.resolve_left nb
  have key:((!decide (V.bl (decide (V.int a=V.int ((n:Int)+1)))=V.bl (decide (V.str kd=V.str "end"))))=true) ↔ ((decide ((a:Int)=(n:Int)+1) != decide (kd = "end"))=true):=by
   simp only [V.int.injEq,V.str.injEq,V.bl.injEq]
   by_cases A:(a:Int)=(n:Int)+1<;>by_cases B:kd = "end" <;> simp [A,B]
  refine ⟨_,rfl,_,rfl,pa,_,_,_,rfl,rfl,YT.of hpa,Zo g0,_,rfl,_,_,rfl,rfl,rfl,_,rfl,rfl,rfl,_,rfl,Z0 (fun c=>?_) (fun c=>?_)⟩
  ·refine ⟨(by show 0<=sizeLine;exact Nat.zero_le _),fun p fp=>?_⟩
   refine k p _ _ (Zi.laid fp) Zd ?_
   have:Uo ps (kd,(n:Int)) h = []:=by
    unfold Uo
    dsimp only
    rw [if_neg nb,Int.toNat_natCast,gd,if_pos (key.mp c)]
   rw [this]
   exact .nil
  have c:¬((decide ((a:Int)=(n:Int)+1) != decide (kd = "end"))=true):=fun z=>c (key.mpr z)
  have c':(a=n+1 ↔ kd = "end"):=by
   by_cases A:(a:Int)=(n:Int)+1<;>by_cases B:kd = "end" <;> simp [A,B] at c ⊢<;>lia
  refine ⟨_,rfl,rfl,_,rfl,Z0 (fun he=>?_) (fun he=>?_)⟩
  ·have ee:kd = "end" := by
    have:=of_decide_eq_true he
    injection this
   refine ⟨_,rfl,_,rfl,_,n,ps,rfl,wv,hlen,fun v1 H1 s1 w1=>⟨(by show 2<=sizeLine;decide),fun t1 f1=>?_⟩⟩
   obtain ⟨H2,z,s2,e2⟩:=lay (o:=.tup [v1,.bl false]) f1
   rw [z];clear z
   refine ⟨(by show 1<=sizeLine;decide),fun p fp=>?_⟩
   obtain ⟨H3,z,s3,e3⟩:=lay (o:=.lst [.ref t1]) fp
   rw [z];clear z
   refine k p _ H3 ((s1.trans s2).trans s3) e3 ?_
   obtain ⟨c1,rfl,hc⟩:=w1
   have:Uo ps (kd,(n:Int)) h = [(ZcK ps n,false)]:=by
    unfold Uo
    dsimp only
    rw [if_neg nb,Int.toNat_natCast,gd,if_neg c,if_pos ee]
   rw [this]
   exact .cons ⟨t1,_,rfl,s3 _ _ e2,c1,rfl,s3 _ _ (s2 _ _ hc)⟩ .nil
  have ne:kd ≠ "end" := fun z=>he (by rw [z];exact decide_eq_true rfl)
  have ec:kd = "cross" := hq.resolve_left ne
  have tb:ZcD ps n a b:=⟨pt,hx,hy,fun z=>ne (c'.mp z)⟩
  obtain ⟨hh0,rfl⟩:∃i,h=some i:=by
   cases h with
   | none=>exact absurd rfl (hh ec)
   | some i=>exact ⟨i,rfl⟩
  have wy:Uo ps (kd,(n:Int)) (some hh0)=(Uw ps n,false)::(if hh0=0/\W5 n a b=false then [(ps,true)] else []):=by
   unfold Uo
   dsimp only
   rw [if_neg nb,Int.toNat_natCast,gd,gd1,Int.toNat_natCast,Int.toNat_natCast,if_neg c,if_neg ne]
   simp
  rw [wy] at k
  refine ⟨_,rfl,_,rfl,_,n,a,b,ps,rfl,wv,hlen,tb,fun v1 H1 s1 ⟨c1,ev1,hc⟩=>⟨(by show 2<=sizeLine;decide),fun t1 f1=>?_⟩⟩
  subst ev1
  obtain ⟨H2,z,s2,e2⟩:=lay (o:=.tup [.ref c1,.bl false]) f1
  rw [z];clear z
  refine ⟨(by show 1<=sizeLine;decide),fun p fp=>?_⟩
  obtain ⟨H3,z,s3,e3⟩:=lay (o:=.lst [.ref t1]) fp
  rw [z];clear z
  have s03:=(s1.trans s2).trans s3
  have fpH:H p=none:=(s1.trans s2).free fp
  have hc3:=s3 _ _ (s2 _ _ hc)
  have e23:=s3 _ _ e2
  have one:∀{G:Hp},Zi H3 G->(¬(hh0=0/\W5 n a b=false))->Q (.ref p) G:=fun sG no=>by
   refine k p _ _ (s03.trans sG) (sG _ _ e3) ?_
   rw [if_neg no]
   exact .cons ⟨t1,_,rfl,sG _ _ e23,c1,rfl,sG _ _ hc3⟩ .nil
  refine ⟨_,rfl,rfl,_,rfl,Z0 (fun h0=>?_) (fun h0=>?_)⟩
  ·have h0:hh0=0:=by
    have:=of_decide_eq_true h0
    injection this
   refine ⟨_,rfl,_,rfl,_,n,a,b,ps,rfl,⟨pa,rfl,s03 _ _ hpa⟩,hlen,tb,fun H4 s4=>⟨_,rfl,Z0 (fun tt=>?_) (fun tt=>?_)⟩⟩
   ·have tf:W5 n a b=false:=by simpa using tt
    have e34:=s4 _ _ e3
    refine ⟨_,rfl,.inl ⟨rfl,_,Zu.of e34⟩,_,rfl,(by show 2<=sizeLine;decide),fun t2 f2=>?_⟩
    obtain ⟨H5,z,s5,e5⟩:=lay (o:=.tup [.ref pa,.bl true]) f2
    rw [z];clear z
    refine ⟨p,_,_,rfl,rfl,s5 _ _ e34,(by show 1<sizeLine;decide),?_⟩
    have sH5:Zi H H5:=(s03.trans s4).trans s5
    have put:Zi H (upd H5 p (.lst ([.ref t1] ++ [.ref t2]))):=fun c o e=>by rw [Zj (Zf e fpH)];exact sH5 c o e
    have n1:t1≠p:=fun z=>by rw [z] at e2;rw [e2] at fp;cases fp
    have n2:t2≠p:=fun z=>by rw [z,e34] at f2;cases f2
    have n3:c1≠p:=fun z=>by rw [z] at hc;rw [s2 _ _ hc] at fp;cases fp
    have n4:pa≠p:=fun z=>by rw [z,fpH] at hpa;cases hpa
    refine ⟨_,rfl,k p _ _ put Zd ?_⟩
    rw [if_pos ⟨h0,tf⟩]
    refine .cons ⟨t1,_,rfl,?_,c1,rfl,?_⟩ (.cons ⟨t2,_,rfl,?_,pa,rfl,?_⟩ .nil)
    ·rw [Zj n1];exact s5 _ _ (s4 _ _ e23)
    ·rw [Zj n3];exact s5 _ _ (s4 _ _ hc3)
    ·rw [Zj n2];exact e5
    ·rw [Zj n4];exact sH5 _ _ hpa
   ·exact ⟨_,rfl,one s4 fun z=>tt (by rw [z.2];rfl)⟩
  ·exact Y5 ⟨_,rfl,one (Zi.refl _) fun z=>h0 (by rw [z.1];rfl)⟩
def Ut (ps:List Int) (q:Str×Int):Option (List Int):=
 if q.1 = "born" then some (Zav ps q.2.toNat)
 else if decide (ps.getD q.2.toNat 0=q.2+1) != decide (q.1 = "end") then none
 else if q.1 = "end" then some (ZcK ps q.2.toNat)
 else some (Uw ps q.2.toNat)
def Zca:Sp:=fun vs H Q _=>∃(l:Addr) (k a b:Nat) (ps:List Int),vs = [.ref l,.int k]/\H l=some (.lst (ps.map V.int))/\ps.length<=200/\ZcD ps k a b/\Q (.bl (!W5 k a b)) H
abbrev W8:Stmt:=top 62
theorem WA:Zz ["_law_partners", "_law_k", "_law_low", "_law_high", "_law_there", "_law_far"] ["_law_partners", "_law_k"] (Zh W8):={}
theorem Zkz {f:Addr}{fd:FuncData} (F:Yp K "_law_is_apart" "_law_is_apart" W8 f fd) (Zbr:mg "min" = none) (GS:mg "max" = none):Yc P w K mg base J9 1 f fd ["_law_partners", "_law_k"] Zca:=by
 refine F.ok WA (fun vs H Q E h=>?_) (fun cdv A outer s H vs Q E hr h=>?_)
 ·obtain ⟨l,k,a,b,ps,rfl,_⟩:=h
  rfl
 ·obtain ⟨l,k,a,b,ps,rfl,hl,hlen,tb,q⟩:=h
  refine ⟨_,(Zc (ZkA (i:=2) (j:=3) rfl WA.nd rfl rfl (by decide) (by rfl) (by rfl) (Za (Zx (Za2 rfl) (by rfl) Zbr boot_min (Za (pv 1) (Za (Zy (Zn (K:=K) rfl) (pv 0) (pv 1) (fun _ _=>rfl)) Zb))) (Za (Zx (Gq rfl) (by rfl) GS boot_max (Za (pv 1) (Za (Zy (Zn (K:=K) rfl) (pv 0) (pv 1) (fun _ _=>rfl)) Zb))) Zb)) (by rfl))
   (Zc (ZkA (i:=4) (j:=5) rfl WA.nd rfl rfl (by decide) (by rfl) (by rfl) (Za (Zx (Za2 rfl) (by rfl) Zbr boot_min (Za (Zm ZE (pv 1) Ze) (Za (Zy (Zn (K:=K) rfl) (pv 0) (Zm ZE (pv 1) Ze) (fun _ _=>rfl)) Zb))) (Za (Zx (Gq rfl) (by rfl) GS boot_max (Za (Zm ZE (pv 1) Ze) (Za (Zy (Zn (K:=K) rfl) (pv 0) (Zm ZE (pv 1) Ze) (fun _ _=>rfl)) Zb))) Zb)) (by rfl))
   (Zg (Zv (ZgI (Yg Gf (pv 3) (pv 4) (Zs _)) (ZgI (Yg Gf (pv 5) (pv 2) (Zs _)) (ZgI (ZaF (Yg Gf (pv 2) (pv 4) (Zs _)) (GJ (Yg Gf (pv 5) (pv 3) (Zs _)))) (GJ (ZaF (Yg Gf (pv 4) (pv 2) (Zs _)) (GJ (Yg Gf (pv 3) (pv 5) (Zs _)))))))))))),?_⟩
  obtain ⟨fa,fb,n1,n2,n3,n4,l1,l2,l3⟩:=tb.facts
  have nn:=tb.ne
  have g1:(ps.map V.int)[k+1]? = some (V.int b):=by rw [List.getElem?_map,tb.eb];rfl
  have g0:(ps.map V.int)[k]? = some (V.int a):=by rw [List.getElem?_map,tb.ea];rfl
  have kc:(k:Int)+1=((k+1:Nat):Int):=by push_cast;rfl
  refine ⟨_,rfl,_,rfl,_,rfl,l,_,_,_,rfl,rfl,Zu.of hl,Zo g0,_,_,rfl,_,rfl,_,rfl,_,rfl,l,_,_,_,rfl,rfl,Zu.of hl,Zo g0,_,_,rfl,_,_,rfl,?_⟩
  refine ⟨_,rfl,_,_,rfl,rfl,_,rfl,_,rfl,_,_,rfl,rfl,l,_,_,_,rfl,rfl,Zu.of hl,(by rw [kc];exact Zo g1),_,_,rfl,_,rfl,_,_,rfl,rfl,_,rfl,_,rfl,_,_,rfl,rfl,l,_,_,_,rfl,rfl,Zu.of hl,(by rw [kc];exact Zo g1),_,_,rfl,_,_,rfl,?_⟩
  obtain ⟨lo,elo⟩:∃lo:Int,(if (a:Int)<(k:Int) then (a:Int) else k)=lo:=⟨_,rfl⟩
  obtain ⟨hi,ehi⟩:∃hi:Int,(if (a:Int)>(k:Int) then (a:Int) else k)=hi:=⟨_,rfl⟩
  obtain ⟨th,eth⟩:∃th:Int,(if (b:Int)<(k:Int)+1 then (b:Int) else (k:Int)+1)=th:=⟨_,rfl⟩
  obtain ⟨fr,efr⟩:∃fr:Int,(if (b:Int)>(k:Int)+1 then (b:Int) else (k:Int)+1)=fr:=⟨_,rfl⟩
  rw [elo,ehi,eth,efr]
  have f1:lo=((min k a:Nat):Int):=by rw [<- elo];split<;>lia
  have f2:hi=((max k a:Nat):Int):=by rw [<- ehi];split<;>lia
  have f3:th=((min (k+1) b:Nat):Int):=by rw [<- eth];split<;>lia
  have f4:fr=((max (k+1) b:Nat):Int):=by rw [<- efr];split<;>lia
  have res:∀x:Bool,(x=true ↔ ¬W5 k a b=true)->Q (.bl x) H:=fun x hx=>by
   have:x = !W5 k a b:=by
    cases x<;>cases h:W5 k a b<;>simp [h] at hx ⊢
   rw [this];exact q
  have tg:W5 k a b=true ↔ (lo<th/\th<hi/\hi<fr)∨(th<lo/\lo<fr/\fr<hi):=by
   unfold W5
   simp only [Bool.or_eq_true,Bool.and_eq_true,decide_eq_true_eq]
   lia
  refine ⟨_,rfl,_,rfl,_,_,rfl,rfl,_,rfl,Z0 (fun c1=>?_) (fun c1=>?_)⟩
  ·have c1:=of_decide_eq_true c1
   exact res true (by rw [tg];simp;lia)
  have c1:¬hi<th:=fun z=>c1 (decide_eq_true z)
  refine ⟨_,rfl,_,rfl,_,_,rfl,rfl,_,rfl,Z0 (fun c2=>?_) (fun c2=>?_)⟩
  ·have c2:=of_decide_eq_true c2
   exact res true (by rw [tg];simp;lia)
  have c2:¬fr<lo:=fun z=>c2 (decide_eq_true z)
  refine ⟨_,rfl,_,rfl,_,_,rfl,rfl,_,rfl,Z0 (fun c3=>?_) (fun c3=>?_)⟩
  ·have c3:=of_decide_eq_true c3
   refine ⟨_,rfl,_,rfl,_,_,rfl,rfl,_,rfl,Z0 (fun c4=>?_) (fun c4=>?_)⟩
   ·have c4:=of_decide_eq_true c4
    exact res true (by rw [tg];simp;lia)
   have c4:¬fr<hi:=fun z=>c4 (decide_eq_true z)
   refine ⟨_,rfl,_,rfl,_,_,rfl,rfl,_,rfl,Z0 (fun c5=>?_) (fun c5=>?_)⟩
   ·have c5:=of_decide_eq_true c5
    lia
   ·exact res false (by rw [tg];simp;lia)
  have c3:¬lo<th:=fun z=>c3 (decide_eq_true z)
  refine ⟨_,rfl,Y5 ?_⟩
  refine ⟨_,rfl,_,rfl,_,_,rfl,rfl,_,rfl,Z0 (fun c5=>?_) (fun c5=>?_)⟩
  ·have c5:=of_decide_eq_true c5
   refine ⟨_,rfl,_,rfl,_,_,rfl,rfl,?_⟩
   refine res _ (by rw [tg,decide_eq_true_eq];lia)
  ·exact res false (by rw [tg];have c5:¬th<lo:=fun z=>c5 (decide_eq_true z);simp;lia)
def Zdw:Sp:=fun vs H Q _=>∃(l t:Addr) (q:Str×Int) (ps:List Int),vs = [.ref l,.ref t]/\H l=some (.lst (ps.map V.int))/\H t=some (.tup [.str q.1,.int q.2])/\ps.length<=200/\PtL ps/\0<=q.2 /\
 (q.1 ≠ "born" -> q.2+1<ps.length)/\(q.1 = "born" ∨ q.1 = "end" ∨ q.1 = "cross")/\(Ut ps q=none -> ∀H',Zi H H'->Q .non H') /\ ∀(r:List Int) (p:Addr) (H':Hp),Ut ps q=some r->Zi H H'->H p=none->H' p=some (.lst (r.map V.int))->Q (.ref p) H'
abbrev YL:Stmt:=top 63
theorem YD:Zz ["_law_partners", "_law_letter", "_law_word", "_law_k", "_law_found"] ["_law_partners", "_law_letter"] (Zh YL):={}
theorem ZjZ {f:Addr}{fd:FuncData} (F:Yp K "_law_moved_on" "_law_moved_on" YL f fd) (Zaj:mg "int" = none):Yc P w K mg base J9 1 f fd ["_law_partners", "_law_letter"] Zdw:=by
 refine F.ok YD (fun vs H Q E h=>?_) (fun cdv A outer s H vs Q E hr h=>?_)
 ·obtain ⟨l,t,q,ps,rfl,_⟩:=h
  rfl
 ·obtain ⟨l,t,q,ps,rfl,hl,ht,hlen,pt,k0,hk,hq,kN,k⟩:=h
  refine ⟨_,(Zc (Yr (pv 1) (Z6 (K:=K) (n:=2) rfl rfl (Zq (Zl (i:=2) YD.nd rfl (Or.inl rfl)) (Zq (Zl (i:=3) YD.nd rfl (Or.inr rfl)) ZU))))
   (Zc (ZR (Zt Yi (pv 2) ZJ (Zs _)) (Zc (ZdD (i:=4) YD.nd rfl (Or.inl rfl) (Ls:=["_law_one"]) (Fs:=["_law_k"]) (fi:=[3]) (ZY.of (show Yv ["_law_partners", "_law_letter", "_law_word", "_law_k", "_law_found"] (Zh YL) _ ["_law_k"] [3]=true by decide +kernel)) rfl (Z8 (K:=K) rfl (pv 0)) (fun cl C s3 H3 ex=>⟨(Zl (i:=0) (show ((["_law_one"]:List Str)++(["_law_k"]:List Str)).Nodup by decide +kernel) rfl (Or.inl rfl)),YS,(Zm ZE (pv 0) (Zm Wn Ze (Yl Zbf (by rfl) Zaj boot_int (Za (Yg ZkU (pv 0) (pv 1) (Zs _)) Zb))))⟩))
   (Zg (Zv (Zm Ws (Zm Ws (Yy (Jc (K:=K) rfl) (pv 4) Jv (Ym (pv 3))) (ZD (Za (Zm ZE (pv 3) Ze) (Za (pv 3) Zb)))) (Yy (Jc (K:=K) rfl) (pv 4) (Ym (pv 3)) Jv))))) ZG)
   (Zc (ZR (Zt Zc8 (Yg Yi (Zy (Zn (K:=K) rfl) (pv 0) (pv 3) (fun _ _=>rfl)) (Zm ZE (pv 3) Ze) (Zs _)) (Yg Yi (pv 2) ZJ (Zs _)) (Zs _)) (Zg (Zv JZ)) ZG)
   (Zc (ZR (Zt Yi (pv 2) ZJ (Zs _)) (Zc (ZdD (i:=4) YD.nd rfl (Or.inl rfl) (Ls:=["_law_one"]) (Fs:=["_law_k"]) (fi:=[3]) (ZY.of (show Yv ["_law_partners", "_law_letter", "_law_word", "_law_k", "_law_found"] (Zh YL) _ ["_law_k"] [3]=true by decide +kernel)) rfl (Z8 (K:=K) rfl (pv 0)) (fun cl C s3 H3 ex=>⟨(Zl (i:=0) (show ((["_law_one"]:List Str)++(["_law_k"]:List Str)).Nodup by decide +kernel) rfl (Or.inl rfl)),YS,(Zm YU (pv 0) (Zm Wn Ze (Yl Zbf (by rfl) Zaj boot_int (Za (Yg ZbS (pv 0) (pv 1) (Zs _)) Zb))))⟩))
   (Zg (Zv (Zm Ws (Yy (Jc (K:=K) rfl) (pv 4) Jv (Ym (pv 3))) (Yy (Jc (K:=K) rfl) (pv 4) (Ym (Zm ZE (pv 3) Ze)) Jv))))) ZG)
   (Zc (ZdD (i:=4) YD.nd rfl (Or.inl rfl) (Ls:=["_law_one"]) (Fs:=["_law_k"]) (fi:=[3]) (ZY.of (show Yv ["_law_partners", "_law_letter", "_law_word", "_law_k", "_law_found"] (Zh YL) _ ["_law_k"] [3]=true by decide +kernel)) rfl (Z8 (K:=K) rfl (pv 0)) (fun cl C s3 H3 ex=>⟨(Zl (i:=0) (show ((["_law_one"]:List Str)++(["_law_k"]:List Str)).Nodup by decide +kernel) rfl (Or.inl rfl)),YS,(Zm YU (Zm ZE (pv 0) (Yl Zbf (by rfl) Zaj boot_int (Za (Yg Yi (pv 0) (pv 1) (Zs _)) Zb))) (Yl Zbf (by rfl) Zaj boot_int (Za (Yg Yi (pv 0) (Zm ZE (pv 1) Ze) (Zs _)) Zb)))⟩))
   (Zc (Yr (ZQ (Za (Zy (Zn (K:=K) rfl) (pv 4) (Zm ZE (pv 3) Ze) (fun _ _=>rfl)) (Za (Zy (Zn (K:=K) rfl) (pv 4) (pv 3) (fun _ _=>rfl)) Zb))) (Z6 (K:=K) (n:=2) rfl rfl (Zq (YH (pv 4) (pv 3) set_list) (Zq (YH (pv 4) (Zm ZE (pv 3) Ze) set_list) ZU))))
   (Zg (Zv (pv 4))))))))),?_⟩
  obtain ⟨kd,kk⟩:=q
  dsimp only at ht k0 hk hq
  obtain ⟨n,rfl⟩:=Int.eq_ofNat_of_zero_le k0
  refine ⟨_,rfl,t,_,rfl,YT.of ht,rfl,_,_,rfl,_,_,rfl,rfl,?_⟩
  refine ⟨_,rfl,rfl,_,rfl,Z0 (fun hb=>?_) (fun hb=>?_)⟩
  ·have eb:kd = "born" := by
    have:=of_decide_eq_true hb
    injection this
   have mv:Ut ps (kd,(n:Int))=some (Zav ps n):=by unfold Ut;rw [if_pos eb];rfl
   refine ⟨_,rfl,l,rfl,⟨_,Zu.of hl⟩,JG (K:=K) (a:=l) (xs:=ps.map V.int) (by rw [List.length_map,sizeLine_eq];lia) (fun i zs G=>G=H/\zs=((ps.map (upB n)).take i).map V.int) ⟨rfl,rfl⟩ (fun i zs G x=>by rw [x.2,List.length_map,List.length_take];lia) (fun i zs G x=>by rw [x.1];exact Zu.of hl) (fun i y zs G hy x=>?_) (fun zs G x p hp=>?_)⟩
   ·obtain ⟨rfl,rfl⟩:=x
    obtain ⟨m,hm,rfl⟩:∃m,ps[i]? = some m/\y=V.int m:=by
     rw [List.getElem?_map] at hy
     obtain ⟨m,h1,h2⟩:=Option.map_eq_some_iff.mp hy
     exact ⟨m,h1,h2.symm⟩
    have st:((ps.map (upB n)).take (i+1)).map V.int=((ps.map (upB n)).take i).map V.int ++ [V.int (upB n m)]:=by
     rw [List.take_add_one,List.getElem?_map,hm,List.map_append]
     rfl
    refine ⟨_,rfl,_,rfl,_,rfl,_,_,rfl,rfl,.inr ⟨_,rfl,_,_,rfl,rfl,.inl ⟨by decide,by decide⟩,_,_,rfl,rfl,rfl,?_⟩⟩
    have val:m+2*(if decide ((n:Int)<=m)=true then 1 else 0)=upB n m:=by
     unfold upB
     by_cases c:(n:Int)<=m
     ·rw [decide_eq_true c,if_pos rfl,if_pos c];rfl
     ·rw [decide_eq_false c,if_neg (by decide),if_neg (by lia)];lia
    rw [st,<- val]
   ·obtain ⟨rfl,rfl⟩:=x
    rw [List.length_map,List.take_of_length_le (by rw [List.length_map];exact Nat.le_refl _)]
    obtain ⟨G1,z,s1,e1⟩:=lay (o:=.lst ((ps.map (upB n)).map V.int)) hp
    rw [z];clear z
    refine ⟨_,rfl,_,rfl,_,rfl,p,_,rfl,Zu.of e1,fun d1 h1=>?_⟩
    rw [Zdp]
    obtain ⟨G2,z,s2,e2⟩:=lay (o:=.lst (((ps.map (upB n)).map V.int).take n)) h1
    rw [z];clear z
    refine ⟨_,rfl,_,_,rfl,rfl,_,rfl,(by show 2<=sizeLine;decide),fun d2 h2=>?_⟩
    obtain ⟨G3,z,s3,e3⟩:=lay (o:=.lst [.int ((n:Int)+1),.int n]) h2
    rw [z];clear z
    refine ⟨d1,d2,_,_,rfl,rfl,s3 _ _ e2,e3,(by rw [sizeLine_eq];simp;lia),fun d3 h3=>?_⟩
    obtain ⟨G4,z,s4,e4⟩:=lay (o:=.lst (((ps.map (upB n)).map V.int).take n ++ [.int ((n:Int)+1),.int n])) h3
    rw [z];clear z
    refine ⟨_,rfl,_,rfl,_,rfl,?_⟩
    dsimp only [Zba]
    refine ⟨p,_,rfl,Zu.of (s4 _ _ (s3 _ _ (s2 _ _ e1))),fun d4 h4=>?_⟩
    rw [Zdl]
    obtain ⟨G5,z,s5,e5⟩:=lay (o:=.lst (((ps.map (upB n)).map V.int).drop n)) h4
    rw [z];clear z
    refine ⟨d3,d4,_,_,rfl,rfl,s5 _ _ e4,e5,(by rw [sizeLine_eq];simp;lia),fun d5 h5=>?_⟩
    have sA:=(((s1.trans s2).trans s3).trans s4).trans s5
    refine k _ d5 _ mv (sA.trans (Zi.laid h5)) (sA.free h5) ?_
    rw [Zd]
    unfold Zav
    simp
  have nb:kd ≠ "born" := fun z=>hb (by rw [z];exact decide_eq_true rfl)
  have hk:=hk nb
  obtain ⟨x,hx⟩:∃x,ps[n]? = some x:=⟨_,List.getElem?_eq_getElem (by lia)⟩
  obtain ⟨a,rfl,ea,na⟩:=pt n x hx
  have g0:(ps.map V.int)[n]? = some (V.int a):=by rw [List.getElem?_map,hx];rfl
  have gd:ps.getD n 0=(a:Int):=by rw [List.getD_eq_getElem?_getD,hx];rfl
  have hq:kd = "end" ∨ kd = "cross" := hq.resolve_left nb
  have key:((!decide (V.bl (decide (V.int a=V.int ((n:Int)+1)))=V.bl (decide (V.str kd=V.str "end"))))=true) ↔ ((decide ((a:Int)=(n:Int)+1) != decide (kd = "end"))=true):=by
   simp only [V.int.injEq,V.str.injEq,V.bl.injEq]
   by_cases A:(a:Int)=(n:Int)+1<;>by_cases B:kd = "end" <;> simp [A,B]
  refine ⟨_,rfl,_,rfl,l,_,_,_,rfl,rfl,Zu.of hl,Zo g0,_,rfl,_,_,rfl,rfl,rfl,_,rfl,rfl,rfl,_,rfl,Z0 (fun c=>?_) (fun c=>?_)⟩
  ·refine kN ?_ H (Zi.refl _)
   unfold Ut
   dsimp only
   rw [if_neg nb,Int.toNat_natCast,gd,if_pos (key.mp c)]
  have c:¬((decide ((a:Int)=(n:Int)+1) != decide (kd = "end"))=true):=fun z=>c (key.mpr z)
  refine ⟨_,rfl,rfl,_,rfl,Z0 (fun he=>?_) (fun he=>?_)⟩
  ·have ee:kd = "end" := by
    have:=of_decide_eq_true he
    injection this
   have mv:Ut ps (kd,(n:Int))=some (ZcK ps n):=by
    unfold Ut
    dsimp only
    rw [if_neg nb,Int.toNat_natCast,gd,if_neg c,if_pos ee]
   refine ⟨_,rfl,l,rfl,⟨_,Zu.of hl⟩,JG (K:=K) (a:=l) (xs:=ps.map V.int) (by rw [List.length_map,sizeLine_eq];lia) (fun i zs G=>G=H/\zs=((ps.map (dnE n)).take i).map V.int) ⟨rfl,rfl⟩ (fun i zs G x=>by rw [x.2,List.length_map,List.length_take];lia) (fun i zs G x=>by rw [x.1];exact Zu.of hl) (fun i y zs G hy x=>?_) (fun zs G x p hp=>?_)⟩
   ·obtain ⟨rfl,rfl⟩:=x
    obtain ⟨m,hm,rfl⟩:∃m,ps[i]? = some m/\y=V.int m:=by
     rw [List.getElem?_map] at hy
     obtain ⟨m,h1,h2⟩:=Option.map_eq_some_iff.mp hy
     exact ⟨m,h1,h2.symm⟩
    have st:((ps.map (dnE n)).take (i+1)).map V.int=((ps.map (dnE n)).take i).map V.int ++ [V.int (dnE n m)]:=by
     rw [List.take_add_one,List.getElem?_map,hm,List.map_append]
     rfl
    refine ⟨_,rfl,_,rfl,_,rfl,_,_,rfl,rfl,.inr ⟨_,rfl,_,_,rfl,rfl,.inl ⟨by decide,by decide⟩,_,_,rfl,rfl,rfl,?_⟩⟩
    have val:m-2*(if decide ((n:Int)<m)=true then 1 else 0)=dnE n m:=by
     unfold dnE
     by_cases c:(n:Int)<m
     ·rw [decide_eq_true c,if_pos rfl,if_pos c];rfl
     ·rw [decide_eq_false c,if_neg (by decide),if_neg (by lia)];lia
    rw [st,<- val]
   ·obtain ⟨rfl,rfl⟩:=x
    rw [List.length_map,List.take_of_length_le (by rw [List.length_map];exact Nat.le_refl _)]
    obtain ⟨G1,z,s1,e1⟩:=lay (o:=.lst ((ps.map (dnE n)).map V.int)) hp
    rw [z];clear z
    refine ⟨_,rfl,_,rfl,_,rfl,p,_,rfl,Zu.of e1,fun d1 h1=>?_⟩
    rw [Zdp]
    obtain ⟨G2,z,s2,e2⟩:=lay (o:=.lst (((ps.map (dnE n)).map V.int).take n)) h1
    rw [z];clear z
    refine ⟨_,rfl,_,rfl,_,_,rfl,rfl,_,rfl,?_⟩
    dsimp only [Zba]
    refine ⟨p,_,rfl,Zu.of (s2 _ _ e1),fun d4 h4=>?_⟩
    rw [show (n:Int)+2=((n+2:Nat):Int) by push_cast;rfl,Zdl]
    obtain ⟨G5,z,s5,e5⟩:=lay (o:=.lst (((ps.map (dnE n)).map V.int).drop (n+2))) h4
    rw [z];clear z
    refine ⟨d1,d4,_,_,rfl,rfl,s5 _ _ e2,e5,(by rw [sizeLine_eq];simp;lia),fun d5 h5=>?_⟩
    have sA:=(s1.trans s2).trans s5
    refine k _ d5 _ mv (sA.trans (Zi.laid h5)) (sA.free h5) ?_
    rw [Zd]
    unfold ZcK
    simp
  have ne:kd ≠ "end" := fun z=>he (by rw [z];exact decide_eq_true rfl)
  have mv:Ut ps (kd,(n:Int))=some (Uw ps n):=by
   unfold Ut
   dsimp only
   rw [if_neg nb,Int.toNat_natCast,gd,if_neg c,if_neg ne]
  refine ⟨_,rfl,l,rfl,⟨_,Zu.of hl⟩,JG (K:=K) (a:=l) (xs:=ps.map V.int) (by rw [List.length_map,sizeLine_eq];lia) (fun i zs G=>G=H/\zs=((ps.map (Uh n)).take i).map V.int) ⟨rfl,rfl⟩ (fun i zs G x=>by rw [x.2,List.length_map,List.length_take];lia) (fun i zs G x=>by rw [x.1];exact Zu.of hl) (fun i y zs G hy x=>?_) (fun zs G x p hp=>?_)⟩
  ·obtain ⟨rfl,rfl⟩:=x
   obtain ⟨m,hm,rfl⟩:∃m,ps[i]? = some m/\y=V.int m:=by
    rw [List.getElem?_map] at hy
    obtain ⟨m,h1,h2⟩:=Option.map_eq_some_iff.mp hy
    exact ⟨m,h1,h2.symm⟩
   have st:((ps.map (Uh n)).take (i+1)).map V.int=((ps.map (Uh n)).take i).map V.int ++ [V.int (Uh n m)]:=by
    rw [List.take_add_one,List.getElem?_map,hm,List.map_append]
    rfl
   refine ⟨_,rfl,_,rfl,_,rfl,rfl,.inr ⟨_,rfl,_,_,rfl,rfl,_,rfl,_,rfl,_,_,rfl,rfl,rfl,.inr ⟨_,rfl,_,_,rfl,rfl,rfl,?_⟩⟩⟩
   have val:m+(if decide (V.int m=V.int n)=true then 1 else 0)-(if decide (V.int m=V.int ((n:Int)+1))=true then 1 else 0)=Uh n m:=by
    unfold Uh
    simp only [V.int.injEq,decide_eq_true_eq]
    by_cases c1:m=(n:Int)
    ·rw [if_pos c1,if_pos c1,if_neg (by lia)];lia
    ·rw [if_neg c1,if_neg c1]
     by_cases c2:m=(n:Int)+1
     ·rw [if_pos c2,if_pos c2];lia
     ·rw [if_neg c2,if_neg c2];lia
   rw [st,<- val]
  ·obtain ⟨rfl,rfl⟩:=x
   rw [List.length_map,List.take_of_length_le (by rw [List.length_map];exact Nat.le_refl _)]
   obtain ⟨G1,z,s1,e1⟩:=lay (o:=.lst ((ps.map (Uh n)).map V.int)) hp
   rw [z];clear z
   generalize eM:ps.map (Uh n)=M at *
   have lM:M.length=ps.length:=by rw [<- eM,List.length_map]
   have kc:(n:Int)+1=((n+1:Nat):Int):=by push_cast;rfl
   have g1:(M.map V.int)[n+1]? = some (V.int (M.getD (n+1) 0)):=by
    rw [List.getElem?_map,List.getD_eq_getElem?_getD,List.getElem?_eq_getElem (by lia)];rfl
   have g0:(M.map V.int)[n]? = some (V.int (M.getD n 0)):=by
    rw [List.getElem?_map,List.getD_eq_getElem?_getD,List.getElem?_eq_getElem (by lia)];rfl
   refine ⟨_,rfl,_,rfl,_,_,rfl,rfl,p,_,_,_,rfl,rfl,Zu.of e1,(by rw [kc];exact Zo g1),_,rfl,_,rfl,p,_,_,_,rfl,rfl,Zu.of e1,Zo g0,(by show 2<=sizeLine;decide),fun t2 h2=>?_⟩
   obtain ⟨G2,z,s2,e2⟩:=lay (o:=.tup [.int (M.getD (n+1) 0),.int (M.getD n 0)]) h2
   rw [z];clear z
   have put:∀{G':Hp}{o:HO},Zi G G'->Zi G (upd G' p o):=fun s c o e=>by rw [Zj (Zf e hp)];exact s c o e
   refine ⟨t2,_,rfl,YT.of e2,rfl,_,_,rfl,_,rfl,_,rfl,p,_,_,n,rfl,rfl,s2 _ _ e1,Y0 (by rw [List.length_map];lia),?_⟩
   refine ⟨_,_,rfl,_,rfl,_,rfl,_,_,rfl,rfl,p,_,_,n+1,rfl,rfl,Zd,(by rw [kc];exact Y0 (by rw [List.length_set,List.length_map];lia)),?_⟩
   rw [Jy]
   refine ⟨rfl,_,rfl,k _ p _ mv (put (s1.trans s2)) hp ?_⟩
   rw [Zd]
   unfold Uw
   rw [eM,List.map_set,List.map_set]
def ZbC (ps:List Int) (k:Nat):Bool:=W5 k (ps.getD k 0).toNat (ps.getD (k+1) 0).toNat
def Zk5 (q:Str×Int) (n m:Int):Prop:=0<=q.2/\((q.1 = "born" /\ q.2<=n/\m=n+2)∨(q.1 = "cross" /\ q.2+1<n/\m=n)∨(q.1 = "end" /\ q.2+1<n/\m=n-2))
theorem ZlK {l:List (Str×Int)}{p:Str×Int}{m:Int} (h:Wk (l ++ [p]) m):∃n,Wk l n/\Zk5 p n m:=by
 generalize hq:l ++ [p]=q at h
 cases h with
 | nil=>exact absurd hq (by simp)
 | born h h0 h1=>obtain ⟨rfl,rfl⟩:=UC hq;exact ⟨_,h,h0,.inl ⟨rfl,h1,rfl⟩⟩
 | cross h h0 h1=>obtain ⟨rfl,rfl⟩:=UC hq;exact ⟨_,h,h0,.inr (.inl ⟨rfl,h1,rfl⟩)⟩
 | fin h h0 h1=>obtain ⟨rfl,rfl⟩:=UC hq;exact ⟨_,h,h0,.inr (.inr ⟨rfl,h1,rfl⟩)⟩
theorem Znl {l:List (Str×Int)}{n m:Int} (a:Wk l n) (b:Wk l m):n=m:=(ZaD a).symm.trans (ZaD b)
theorem Zgf {ps:List Int}{n:Nat} (pt:PtL ps) (hn:n+1<ps.length) (ne:ps.getD n 0≠(n:Int)+1):ZcD ps n (ps.getD n 0).toNat (ps.getD (n+1) 0).toNat:=by
 obtain ⟨x,hx⟩:∃x,ps[n]? = some x:=⟨_,List.getElem?_eq_getElem (by lia)⟩
 obtain ⟨a,rfl,ea,na⟩:=pt n x hx
 obtain ⟨y,hy⟩:∃y,ps[n+1]? = some y:=⟨_,List.getElem?_eq_getElem (by lia)⟩
 obtain ⟨b,rfl,eb,nb⟩:=pt (n+1) y hy
 have gd:ps.getD n 0=(a:Int):=by rw [List.getD_eq_getElem?_getD,hx];rfl
 have gd1:ps.getD (n+1) 0=(b:Int):=by rw [List.getD_eq_getElem?_getD,hy];rfl
 rw [gd] at ne
 rw [gd,gd1,Int.toNat_natCast,Int.toNat_natCast]
 exact ⟨pt,hx,hy,fun z=>ne (by lia)⟩
theorem Zkk {ps r:List Int}{q:Str×Int}{n m:Int} (pt:PtL ps) (hl:(ps.length:Int)=n) (ft:Zk5 q n m) (h:Ut ps q=some r):PtL r/\(r.length:Int)=m:=by
 obtain ⟨kd,k⟩:=q
 obtain ⟨k0,ft⟩:=ft
 dsimp only at k0 ft
 obtain ⟨k,rfl⟩:=Int.eq_ofNat_of_zero_le k0
 unfold Ut at h
 dsimp only at h
 rw [Int.toNat_natCast] at h
 rcases ft with ⟨rfl,f1,rfl⟩ | ⟨rfl,f1,rfl⟩ | ⟨rfl,f1,rfl⟩
 ·rw [if_pos rfl] at h
  injection h with h
  subst h
  exact ⟨pt.born (by lia),by rw [Zku];lia⟩
 ·rw [if_neg (by decide)] at h
  split at h
  ·cases h
  ·rename_i c
   rw [if_neg (by decide)] at h
   injection h with h
   subst h
   have ne:ps.getD k 0≠(k:Int)+1:=fun z=>c (by rw [decide_eq_true z];rfl)
   exact ⟨(Zgf pt (by lia) ne).kept,by rw [ZkZ];lia⟩
 ·rw [if_neg (by decide)] at h
  split at h
  ·cases h
  ·rename_i c
   rw [if_pos rfl] at h
   injection h with h
   subst h
   have e:ps.getD k 0=(k:Int)+1:=by
    by_cases z:ps.getD k 0=(k:Int)+1
    ·exact z
    ·exact absurd (by rw [decide_eq_false z];rfl) c
   have hx:ps[k]? = some ((k:Int)+1):=by
    rw [<- e,List.getD_eq_getElem?_getD,List.getElem?_eq_getElem (by lia)];rfl
   have:=ZlF (ps:=ps) (k:=k) (by lia)
   exact ⟨pt.ended hx,by lia⟩
theorem Zio (ps:List Int) (q:Str×Int) (h:Option Int) (hq:q.1 = "born" ∨ q.1 = "end" ∨ q.1 = "cross"):Uo ps q h=match Ut ps q with
  | none=>[]
  | some r=>(r,false)::(if q.1 = "cross" /\ h=some 0/\ZbC ps q.2.toNat=false then [(ps,true)] else []):=by
 unfold Uo Ut
 by_cases c1:q.1 = "born"
 ·rw [if_pos c1,if_pos c1]
  dsimp only
  rw [if_neg (fun z=>absurd (c1.symm.trans z.1) (by decide))]
 ·rw [if_neg c1,if_neg c1]
  by_cases c2:(decide (ps.getD q.2.toNat 0=q.2+1) != decide (q.1 = "end"))=true
  ·rw [if_pos c2,if_pos c2]
  ·rw [if_neg c2,if_neg c2]
   by_cases c3:q.1 = "end"
   ·rw [if_pos c3,if_pos c3]
    dsimp only
    rw [if_neg (fun z=>absurd (c3.symm.trans z.1) (by decide))]
   ·rw [if_neg c3,if_neg c3]
    have c4:q.1 = "cross" := (hq.resolve_left c1).resolve_left c3
    dsimp only
    unfold ZbC
    congr 1
    by_cases c5:h=some 0/\W5 q.2.toNat (ps.getD q.2.toNat 0).toNat (ps.getD (q.2.toNat+1) 0).toNat=false
    ·rw [if_pos c5,if_pos ⟨c4,c5⟩]
    ·rw [if_neg c5,if_neg (fun z=>c5 z.2)]
def nxt (ps:List Int) (q:Str×Int) (z c:Bool):Option (List Int):=
 match Ut ps q with
 | none=>none
 | some r=>if c=true then (if q.1 = "cross" /\ z=true/\ZbC ps q.2.toNat=false then some ps else none) else some r
def Wa (ls:List (Str×Int)) (z ch:Nat->Bool):Nat->Option (List Int)
 | 0=>some []
 | t+1=>match Wa ls z ch t with
  | none=>none
  | some ps=>match ls[t]? with
   | none=>none
   | some q=>nxt ps q (z t) (ch t)
theorem Zdt {ls:List (Str×Int)}{z ch:Nat->Bool}{t:Nat}{ps:List Int}{q:Str×Int} (h:Wa ls z ch t=some ps) (hq:ls[t]? = some q):Wa ls z ch (t+1)=nxt ps q (z t) (ch t):=by rw [Wa,h,hq]
theorem Zcw {ls:List (Str×Int)}{z ch:Nat->Bool}{t:Nat} (h:Wa ls z ch t=none):∀d,Wa ls z ch (t+d)=none
 | 0=>h
 | d+1=>by rw [show t+(d+1)=(t+d)+1 from rfl,Wa,Zcw h d]
theorem kinds {q:Str×Int}{n m:Int} (ft:Zk5 q n m):q.1 = "born" ∨ q.1 = "end" ∨ q.1 = "cross" := by
 rcases ft.2 with ⟨e,_⟩ | ⟨e,_⟩ | ⟨e,_⟩
 ·exact .inl e
 ·exact .inr (.inr e)
 ·exact .inr (.inl e)
theorem Zm2 {ps r:List Int}{q:Str×Int}{z c:Bool}{n m:Int} (pt:PtL ps) (hl:(ps.length:Int)=n) (ft:Zk5 q n m) (h:nxt ps q z c=some r):PtL r/\(r.length:Int)=m:=by
 unfold nxt at h
 cases hm:Ut ps q with
 | none=>rw [hm] at h;cases h
 | some r'=>
  rw [hm] at h
  dsimp only at h
  split at h
  ·split at h
   ·rename_i e
    cases h
    refine ⟨pt,?_⟩
    rcases ft.2 with ⟨e',_⟩ | ⟨_,_,e'⟩ | ⟨e',_⟩
    ·exact absurd (e'.symm.trans e.1) (by decide)
    ·rw [e'];exact hl
    ·exact absurd (e'.symm.trans e.1) (by decide)
   ·cases h
  ·cases h
   exact Zkk pt hl ft hm
theorem Zd4 {ls:List (Str×Int)}{n0:Int} (hW:Wk ls n0) {t:Nat}{n:Int}{q:Str×Int} (wn:Wk (ls.take t) n) (hq:ls[t]? = some q):∃m,Wk (ls.take (t+1)) m/\Zk5 q n m:=by
 obtain ⟨m,wm⟩:=Zbc hW (t+1)
 refine ⟨m,wm,?_⟩
 rw [List.take_add_one,hq] at wm
 obtain ⟨n',wn',ft⟩:=ZlK (show Wk (ls.take t ++ [q]) m from wm)
 rw [Znl wn wn']
 exact ft
theorem Zdy {ls:List (Str×Int)}{z ch:Nat->Bool}{n0:Int} (hW:Wk ls n0):∀t,t<=ls.length -> ∃n,Wk (ls.take t) n /\ ∀ps,Wa ls z ch t=some ps->PtL ps/\(ps.length:Int)=n
 | 0,_=>⟨0,by simpa using Wk.nil,fun ps e=>by
   cases e
   exact ⟨fun i x e=>by simp at e,rfl⟩⟩
 | t+1,h=>by
  obtain ⟨n,wn,al⟩:=Zdy (z:=z) (ch:=ch) hW t (by lia)
  obtain ⟨q,hq⟩:∃q,ls[t]? = some q:=⟨_,List.getElem?_eq_getElem (by lia)⟩
  obtain ⟨m,wm,ft⟩:=Zd4 hW wn hq
  refine ⟨m,wm,fun r hr=>?_⟩
  cases hp:Wa ls z ch t with
  | none=>rw [Wa,hp] at hr;cases hr
  | some ps=>
   rw [Zdt hp hq] at hr
   exact Zm2 (al ps hp).1 (al ps hp).2 ft hr
theorem Zlr (ps:List Int) (q:Str×Int) (h:Option Int) (hq:q.1 = "born" ∨ q.1 = "end" ∨ q.1 = "cross") (c:Bool):(Uo ps q h).filter (fun w=>w.2==c)=match nxt ps q (decide (h=some 0)) c with
  | none=>[]
  | some r=>[(r,c)]:=by
 rw [Zio ps q h hq]
 unfold nxt
 cases Ut ps q with
 | none=>rfl
 | some r=>
  dsimp only
  by_cases e:q.1 = "cross" /\ h=some 0/\ZbC ps q.2.toNat=false
  ·rw [if_pos e]
   have e':q.1 = "cross" /\ decide (h=some 0)=true/\ZbC ps q.2.toNat=false:=⟨e.1,decide_eq_true e.2.1,e.2.2⟩
   rw [if_pos e']
   cases c<;>rfl
  ·rw [if_neg e]
   have e':¬(q.1 = "cross" /\ decide (h=some 0)=true/\ZbC ps q.2.toNat=false):=fun z=>e ⟨z.1,of_decide_eq_true z.2.1,z.2.2⟩
   rw [if_neg e']
   cases c<;>rfl
def ZdK:Sp:=fun vs H Q _=>∃i:Int,vs = [.int i]/\Q (.bl true) H
abbrev ZbJ:Stmt:=top 1
theorem ZgU:Zz ["thing"] ["thing"] (Zh ZbJ):={}
theorem ZhS {f:Addr}{fd:FuncData} (F:Yp K "is_whole" "is_whole" ZbJ f fd) (ZF:mg "isinstance" = none) (Zaj:mg "int" = none) (Zcl:mg "bool" = none):Yc P w K mg base J9 1 f fd ["thing"] ZdK:=by
 refine F.ok ZgU (fun vs H Q E h=>?_) (fun cdv A outer s H vs Q E hr h=>?_)
 ·obtain ⟨i,rfl,_⟩:=h
  rfl
 ·obtain ⟨i,rfl,k⟩:=h
  refine ⟨_,(Zg (Zv (ZaF (Zx (JC (K:=K) rfl) (by rfl) ZF boot_isinstance (Za (pv 0) (Za (UW (v:=.ty "int") (by rfl) Zaj boot_int rfl) Zb))) (GJ (ZjO (Zx (JC (K:=K) rfl) (by rfl) ZF boot_isinstance (Za (pv 0) (Za (UW (v:=.ty "bool") (by rfl) Zcl boot_bool rfl) Zb)))))))),?_⟩
  refine ⟨_,rfl,_, "int", _,true,rfl,.int i,by rfl,true,rfl,JN ?_⟩
  exact ⟨_,rfl,_, "bool", _,false,rfl,.int i,by rfl,false,rfl,k⟩
abbrev GK:Stmt:=top 3
theorem Zdh:Zz ["drawing"] ["drawing"] (Zh GK):={}
theorem Zfu {f:Addr}{fd:FuncData} (F:Yp K "crossings_of" "crossings_of" GK f fd) (JF:Yk P w K mg base 1 "letters_of" ["drawing", "kind"] Za4):Yc P w K mg base J9 2 f fd ["drawing"] (Ur fun x=>decide (x = "cross")):=by
 refine F.ok Zdh (fun vs H Q E h=>?_) (fun cdv A outer s H vs Q E hr h=>?_)
 ·obtain ⟨l,xs,ls,rfl,_⟩:=h
  rfl
 ·obtain ⟨l,xs,ls,rfl,hl,hL,hlen,_,k⟩:=h
  refine ⟨_,(Zg (Zv (Zr JF hr (Za (pv 0) (Za ZJ Zb))))),?_⟩
  exact ⟨_,rfl,l,_,xs,ls,rfl,hl,hL,hlen,k⟩
def Zh4:Sp:=fun vs H Q _=>∃(v:V) (t:Addr) (k a b:Nat) (ps:List Int) (h:Int),vs = [v,.ref t,.int h]/\Je H v ps/\H t=some (.tup [.str "cross", .int k])/\ps.length<=200/\ZcD ps k a b /\ ∀H',Zi H H'->Q (.bl (decide (h=0)&&W5 k a b)) H'
abbrev Zcp:Stmt:=top 41
theorem Zbt:Zz ["partners", "letter", "height", "kind", "k"] ["partners", "letter", "height"] (Zh Zcp):={}
theorem Zl8 {f:Addr}{fd:FuncData} (F:Yp K "is_free" "is_free" Zcp f fd) (Jz:Yk P w K mg base 1 "is_tangled" ["partners", "k"] Zfw):Yc P w K mg base J9 2 f fd ["partners", "letter", "height"] Zh4:=by
 refine F.ok Zbt (fun vs H Q E h=>?_) (fun cdv A outer s H vs Q E hr h=>?_)
 ·obtain ⟨v,t,k,a,b,ps,h,rfl,_⟩:=h
  rfl
 ·obtain ⟨v,t,k,a,b,ps,h,rfl,hv,ht,hl,tw,kk⟩:=h
  refine ⟨_,(Zc (Yr (pv 1) (Z6 (K:=K) (n:=2) rfl rfl (Zq (Zl (i:=3) Zbt.nd rfl (Or.inl rfl)) (Zq (Zl (i:=4) Zbt.nd rfl (Or.inl rfl)) ZU))))
   (Zg (Zv (ZaF (Yg Yi (pv 2) Ze (Zs _)) (GJ (ZgI (Yg Yi (pv 3) ZJ (Zs _)) (GJ (Zr Jz hr (Za (pv 0) (Za (pv 4) Zb)))))))))),?_⟩
  refine ⟨_,rfl,t,_,rfl,YT.of ht,rfl,_,_,rfl,_,_,rfl,rfl,?_⟩
  refine ⟨_,rfl,rfl,_,rfl,?_⟩
  by_cases e:h=0
  ·subst e
   refine JN ⟨_,rfl,rfl,_,rfl,Y5 ?_⟩
   exact ⟨_,rfl,_,rfl,v,k,a,b,ps,rfl,hv,hl,tw,fun H' s'=>kk H' s'⟩
  ·have ne:decide (V.int h=V.int 0)=false:=decide_eq_false fun z=>e (by injection z)
   have:=kk H (Zi.refl _)
   rw [decide_eq_false e,Bool.false_and] at this
   rw [ne]
   exact Y5 this
def Wj (al cs:List Int):Bool:=(cs.map fun c=>decide (c∈al)).all id&&((cs.zip (cs.drop 1)).map fun p=>decide (p.1<p.2)).all id
theorem ZiI {α:Type} (f:α -> Bool) {l:List α}{i:Nat}{x:α} (h:l[i]? = some x):((l.map f).take i).map V.bl ++ [V.bl (f x)]=((l.map f).take (i+1)).map V.bl:=by
 rw [List.take_add_one,List.getElem?_map,h,List.map_append]
 rfl
def Zeg:Sp:=fun vs H Q _=>∃(v:V) (l p:Addr) (al:List Int),vs = [v,.ref l]/\v = .ref p/\H l=some (.lst (al.map V.int))/\al.length<=60 /\
 ((∃xs,H p=some (.tup xs) /\ ∀H',Zi H H'->Q (.bl false) H') ∨ ∃cs:List Int,H p=some (.lst (cs.map V.int))/\cs.length<=100 /\ ∀H',Zi H H'->Q (.bl (Wj al cs)) H')
abbrev WN:Stmt:=top 42
theorem Zf1:Zz ["thing", "allowed"] ["thing", "allowed"] (Zh WN):={}
theorem Zjm {f:Addr}{fd:FuncData} (F:Yp K "is_rising" "is_rising" WN f fd) (Zbz:Yk P w K mg base 1 "is_whole" ["thing"] ZdK) (ZF:mg "isinstance" = none) (Yj:mg "list" = none) (Zee:mg "all" = none) (Zcb:mg "zip" = none):Yc P w K mg base J9 2 f fd ["thing", "allowed"] Zeg:=by
 refine F.ok Zf1 (fun vs H Q E h=>?_) (fun cdv A outer s H vs Q E hr h=>?_)
 ·obtain ⟨v,l,p,al,rfl,_⟩:=h
  rfl
 ·obtain ⟨v,l,p,al,rfl,rfl,hl,nal,h⟩:=h
  refine ⟨_,(Zc (ZR (PW.pt (ZdB (WB (JX (Zx (JC (K:=K) rfl) (by rfl) ZF boot_isinstance (Za (pv 0) (Za (UW (v:=.ty "list") (by rfl) Yj boot_list rfl) Zb))))) (ZdE (WB (JX (Zx (ZcH (K:=K) rfl rfl) (by rfl) Zee boot_all (Za (GF (Ls:=["one"]) (Fs:=["allowed"]) (fi:=[1]) (ZY.of (show Yv ["thing", "allowed"] (Zh WN) _ ["allowed"] [1]=true by decide +kernel)) rfl (Z8 (K:=K) rfl (pv 0)) (fun cl C s3 H3 ex=>⟨(Zl (i:=0) (show ((["one"]:List Str)++(["allowed"]:List Str)).Nodup by decide +kernel) rfl (Or.inl rfl)),YS,(ZaF (Zr Zbz hr (Za (pv 0) Zb)) (GJ (Yg (ZbE (K:=K) rfl) (pv 0) (pv 1) rfl)))⟩)) Zb))))))) (Zg (Zv Gv)) ZG)
   (Zg (Zv (Zx (ZcH (K:=K) rfl rfl) (by rfl) Zee boot_all (Za (GF (Ls:=["one", "onward"]) (Fs:=[]) (fi:=[]) (ZY.of (show Yv ["thing", "allowed"] (Zh WN) _ [] []=true by decide +kernel)) rfl (Zil (K:=K) rfl (by rfl) Zcb (Za (pv 0) (Za (Yy (Jc (K:=K) rfl) (pv 0) (Ym Ze) Jv) Zb))) (fun cl C s3 H3 ex=>⟨(Z6 (K:=K) (n:=2) rfl rfl (Zq (Zl (i:=0) (show ((["one", "onward"]:List Str)++([]:List Str)).Nodup by decide +kernel) rfl (Or.inl rfl)) (Zq (Zl (i:=1) (show ((["one", "onward"]:List Str)++([]:List Str)).Nodup by decide +kernel) rfl (Or.inl rfl)) ZU))),YS,(Yg Gf (pv 0) (pv 1) (Zs _))⟩)) Zb))))),?_⟩
  rcases h with ⟨xs,hp,k⟩ | ⟨cs,hp,nc,k⟩
  ·exact ⟨_,rfl,_, "list", _,false,rfl,.tup hp,by rfl,false,rfl,JN (JN (k H (Zi.refl _)))⟩
  refine ⟨_,rfl,_, "list", _,true,rfl,.lst hp,by rfl,true,rfl,Y5 ?_⟩
  refine ⟨_,rfl,p,rfl,⟨_,Zu.of hp⟩,JG (K:=K) (xs:=cs.map V.int) (by rw [List.length_map,sizeLine_eq];lia) (fun i zs G=>Zi H G/\zs=((cs.map fun c=>decide (c∈al)).take i).map V.bl) ⟨Zi.refl _,rfl⟩
   (fun i zs G ⟨_,z⟩=>by rw [z,List.length_map,List.length_take];lia) (fun i zs G ⟨s',_⟩=>Zu.of (s' _ _ hp)) (fun i x zs G hx q=>?_) (fun zs G q D hD=>?_)⟩
  ·obtain ⟨s',rfl⟩:=q
   rw [List.getElem?_map] at hx
   obtain ⟨c,hc,rfl⟩:=Option.map_eq_some_iff.mp hx
   refine lcG ⟨_,rfl,c,rfl,_,rfl,JN ?_⟩
   refine ⟨_,rfl,_,rfl,l,_,rfl,.inl (Zu.of (s' _ _ hl)),rfl,?_,s',?_⟩
   ·rw [List.all_eq_true]
    intro v hv
    obtain ⟨z,_,rfl⟩:=List.mem_map.mp hv
    rfl
   ·rw [if_neg Bool.false_ne_true,ZaG]
    exact ZiI (fun c=>decide (c∈al)) hc
  obtain ⟨s1,rfl⟩:=q
  rw [List.take_of_length_le (by rw [List.length_map,List.length_map];exact Nat.le_refl _)]
  obtain ⟨G1,z,t1,e1⟩:=lay (o:=.lst ((cs.map fun c=>decide (c∈al)).map V.bl)) hD
  rw [z];clear z
  refine ⟨D,_,rfl,Zu.of e1,_,rfl,?_⟩
  unfold Wj at k
  cases ha:((cs.map fun c=>decide (c∈al)).all id) with
  | false=>
   rw [ha,Bool.false_and] at k
   exact JN (k G1 (s1.trans t1))
  | true=>
   rw [ha,Bool.true_and] at k
   refine Y5 ?_
   have hp1:=(s1.trans t1) _ _ hp
   refine ⟨_,rfl,_,rfl,_,rfl,p,_,rfl,Zu.of hp1,fun c hc=>?_⟩
   have ec:GN (cs.map V.int) (some 1) none=(cs.drop 1).map V.int:=by
    have:=ZjV (cs.map V.int) 1
    rw [<- List.map_drop] at this
    exact this
   rw [ec]
   obtain ⟨G2,z,t2,e2⟩:=lay (o:=.lst ((cs.drop 1).map V.int)) hc
   rw [z];clear z
   refine ⟨p,c,rfl,⟨_,Zu.of (t2 _ _ hp1)⟩,⟨_,Zu.of e2⟩,ZlE (K:=K) (a:=p) (b:=c) (xs:=cs.map V.int) (ys:=(cs.drop 1).map V.int) (by rw [List.length_map,List.length_drop,sizeLine_eq];lia) (by rw [List.length_map,List.length_map,List.length_drop];lia) (fun i zs G=>Zi G2 G/\zs=(((cs.zip (cs.drop 1)).map fun p=>decide (p.1<p.2)).take i).map V.bl) ⟨Zi.refl _,rfl⟩
    (fun i zs G ⟨_,z⟩=>by rw [z,List.length_map,List.length_take];lia) (fun i zs G ⟨s',_⟩=>⟨Zu.of (s' _ _ (t2 _ _ hp1)),Zu.of (s' _ _ e2)⟩) (fun i x y q zs G hx hy w fq=>?_) (fun zs G w D' hD'=>?_)⟩
   ·obtain ⟨s',rfl⟩:=w
    rw [List.getElem?_map] at hx hy
    obtain ⟨c1,hc1,rfl⟩:=Option.map_eq_some_iff.mp hx
    obtain ⟨c2,hc2,rfl⟩:=Option.map_eq_some_iff.mp hy
    have hz:(cs.zip (cs.drop 1))[i]? = some (c1,c2):=by rw [List.getElem?_zip_eq_some];exact ⟨hc1,hc2⟩
    refine ⟨q,_,rfl,YT.of Zd,rfl,_,_,rfl,_,_,rfl,rfl,?_⟩
    dsimp only [Zg8]
    rw [if_pos rfl]
    exact ⟨_,rfl,_,rfl,_,_,rfl,rfl,s'.step fq,ZiI (fun p:Int×Int=>decide (p.1<p.2)) hz⟩
   ·obtain ⟨s',rfl⟩:=w
    rw [List.take_of_length_le (by rw [List.length_map,List.length_zip,List.length_map,List.length_drop];lia)]
    exact ⟨D',_,rfl,Zu.of Zd,k _ (((s1.trans t1).trans t2).trans (s'.step hD'))⟩
def Zmn:Sp:=fun vs H Q _=>∃(l:Addr) (sc:Int) (ls:List (Str×Int)) (g:Int->Int),vs = [.ref l,.int sc]/\(sc=0∨sc=1)/\Drw H l ls/\HG sc ls g /\ ∀(p:Addr) (H':Hp) (kvs:List (Key×V)),Zi H H'->H p=none->H' p=some (.dK kvs)->(∀t:Nat,t<ls.length->JI kvs (Sum.inl (t:Int))=(hgA g ls t).map V.int)->Q (.ref p) H'
theorem Zkp {X:L2.Cx}:Passes (CX1 P w) X (fun _ _ _=>False):=fun _ _ _ _ _ _ _ c=>by
 obtain ⟨_,_,_,_,_,_,_,_,_,_,_,_,_,_,h⟩:=c
 exact h.elim
theorem ZkR (F:Int->V) (t:Int):∀(ns:List Int) (acc:List (Key×V)),JI (Zaq acc (ns.zip (ns.map F))) (Sum.inl t)=if t∈ns then some (F t) else JI acc (Sum.inl t)
 | [],acc=>by simp [Zaq]
 | n::ns,acc=>by
  show JI (Zaq (putK acc (Sum.inl n) (F n)) (ns.zip (ns.map F))) (Sum.inl t)=_
  rw [ZkR F t ns,Zef]
  by_cases h1:t∈ns
  ·rw [if_pos h1,if_pos (List.mem_cons_of_mem _ h1)]
  ·rw [if_neg h1]
   by_cases h2:t=n
   ·subst h2
    rw [if_pos rfl,if_pos List.mem_cons_self]
   ·rw [if_neg (fun z=>h2 (by injection z)),if_neg (fun z=>by rcases List.mem_cons.mp z with z | z;exact h2 z;exact h1 z)]
abbrev Wc:Stmt:=top 35
theorem Zbs:Zz ["drawing", "scale"] ["drawing", "scale"] (Zh Wc):={}
theorem ZoE {f C:Addr}{fd:FuncData} (F:Yp K "heights_by_name" "heights_by_name" Wc f fd) (Wt:Yk P w K mg base 1 "names_of" ["drawing"] (Ur UG)) (GG:Zdb P w K mg base 9 "name_heights" ["drawing", "scale"] (Znn C)) (ZhO:mg "dict" = none) (Zcb:mg "zip" = none):Yc P w K mg base J9 10 f fd ["drawing", "scale"] Zmn:=by
 refine F.ok Zbs (fun vs H Q E h=>?_) (fun cdv A outer s H vs Q E hr h=>?_)
 ·obtain ⟨l,sc,ls,g,rfl,_⟩:=h
  rfl
 ·obtain ⟨l,sc,ls,g,rfl,hsc,⟨xs,hl,hL,hW,hlen⟩,hg,k⟩:=h
  refine ⟨_,(Zg (Zv (ZhP (K:=K) rfl rfl (by rfl) ZhO (by rfl) Zcb (Za (Zr Wt hr (Za (pv 0) Zb)) (Za (Zbe GG (hr.mono (by decide)) Zkp (Za (pv 0) (Za (pv 1) Zb))) Zb))))),?_⟩
  refine ⟨_,rfl,l,xs,ls,rfl,hl,hL,hlen,hW.kd,fun pn H1 fn s1 en=>?_⟩
  refine ⟨_,rfl,_,rfl,l,sc,xs,ls,rfl,s1 _ _ hl,hL.same s1,hlen,hW,fun ph H2 g' fh s2 hg' eh=>?_,fun H2 ts s2 n1 tr z=>?_⟩
  ·have:=hg.uniq hg'
   subst this
   have ll:(Z9 ls UG ls.length).length<=60:=by
    unfold Z9
    refine Nat.le_trans (List.length_filterMap_le _ _) ?_
    rw [List.length_range];exact hlen
   have ed:(dfs g ls (Z9 ls UG ls.length)).map V.int=(Z9 ls UG ls.length).map fun t=>V.int (g (YV ls t.toNat).1-g (YV ls t.toNat).2):=by
    unfold dfs;rw [List.map_map];rfl
   rw [ed] at eh
   refine ⟨pn,ph,_,_,rfl,Zu.of (s2 _ _ en),Zu.of eh,by rw [List.length_map],by lia,fun D hD=>?_⟩
   refine k D _ _ ((s1.trans s2).trans (Zi.laid hD)) ((s1.trans s2).free hD) Zd fun t ht=>?_
   rw [ZkR]
   have mm:((t:Int)∈Z9 ls UG ls.length) ↔ UJ ls UG t=true:=by
    unfold Z9
    rw [List.mem_filterMap]
    constructor
    ·rintro ⟨a,_,h⟩
     split at h
     ·rename_i c
      have:a=t:=by injection h with h;lia
      rw [<- this];exact c
     ·cases h
    ·exact fun c=>⟨t,List.mem_range.mpr ht,by rw [if_pos c]⟩
   unfold hgA
   by_cases c:UJ ls UG t=true
   ·rw [if_pos (mm.mpr c),if_pos c,Int.toNat_natCast];rfl
   ·rw [if_neg (fun z=>c (mm.mp z)),if_neg c];rfl
  ·rcases hg with ⟨e,_⟩ | ⟨_,T,L,tr',t0,_⟩
   ·exact n1 e
   ·have:=tr.uniq tr'
    rw [this] at z
    exact z (by rw [List.map_singleton,t0])
theorem Zmf {α β:Type}{F:α -> β -> Prop}:∀{l:List α}{m:List β}{i:Nat}{x:α},Paired F l m->l[i]? = some x -> ∃y,m[i]? = some y/\F x y
 | _,_,_,_,.nil,e=>by simp at e
 | _,_,0,_,.cons r _,e=>by simp at e;subst e;exact ⟨_,rfl,r⟩
 | _,_,i+1,_,.cons _ t,e=>by
  obtain ⟨y,h1,h2⟩:=Zmf (i:=i) t (by simpa using e)
  exact ⟨y,by simpa using h1,h2⟩
theorem Zl2 {α β:Type}{F:α -> β -> Prop}:∀{l:List α}{m:List β},Paired F l m->l.length=m.length
 | _,_,.nil=>rfl
 | _,_,.cons _ t=>congrArg (· + 1) (Zl2 t)
abbrev crI (ls:List (Str×Int)):List Int:=Z9 ls (fun x=>decide (x = "cross")) ls.length
abbrev Ui (g:Int->Int) (ls:List (Str×Int)):Nat->Bool:=fun i=>decide (hgA g ls i=some 0)
abbrev chA (cs:List Int):Nat->Bool:=fun t=>decide ((t:Int)∈cs)
def ZhA:Sp:=fun vs H Q _=>∃(l p:Addr) (sc:Int) (ls:List (Str×Int)) (g:Int->Int),vs = [.ref l,.int sc,.ref p]/\(sc=0∨sc=1)/\Drw H l ls/\HG sc ls g /\
 ((∃xs,H p=some (.tup xs) /\ ∀H',Zi H H'->Q .non H') ∨ ∃cs:List Int,H p=some (.lst (cs.map V.int))/\cs.length<=100 /\
  ((Wj (crI ls) cs=false∨Wa ls (Ui g ls) (chA cs) ls.length=none) -> ∀H',Zi H H'->Q .non H') /\
  (Wj (crI ls) cs=true -> ∀(r:Addr) (ws:List V) (rows:List (List Int)) (H':Hp),Zi H H'->H r=none->H' r=some (.lst ws)->Words H' ws rows->rows.length=ls.length+1->(∀t,t<=ls.length->Wa ls (Ui g ls) (chA cs) t=rows[t]?)->Q (.ref r) H'))
theorem Zjq {G:Hp}{r:Addr}{us:List V}{o:HO} (h:G r=some (.lst us)) {ws:List V}{L:List (List Int)} (x:Words G ws L):Words (upd G r o) ws L:=Words.mono (fun t p e=>by rw [Zj (Zd1 e h (fun z=>nomatch z))];exact e) x
theorem Zbg {α:Type} (f:α -> Bool) {l:List α}{j:Nat}{x:α} (h:l[j]? = some x):(l.take (j+1)).filter f=(l.take j).filter f++if f x=true then [x] else []:=by
 rw [List.take_add_one,h,List.filter_append]
 show (l.take j).filter f ++ [x].filter f=_
 congr 1
 by_cases e:f x=true
 ·rw [if_pos e,List.filter_cons_of_pos e];rfl
 ·rw [if_neg e,List.filter_cons_of_neg e];rfl
abbrev Y7:Stmt:=top 43
theorem Yn:Zz ["drawing", "scale", "thing", "heights", "rows", "t", "letter", "found"] ["drawing", "scale", "thing"] (Zh Y7):={}
theorem Zl9 {f:Addr}{fd:FuncData} (F:Yp K "partners_through" "partners_through" Y7 f fd) (Yu:Yk P w K mg base 10 "heights_by_name" ["drawing", "scale"] Zmn) (ZaU:Yk P w K mg base 2 "is_rising" ["thing", "allowed"] Zeg) (YW:Yk P w K mg base 2 "crossings_of" ["drawing"] (Ur fun x=>decide (x = "cross"))) (ZcL:Yk P w K mg base 2 "ways_on" ["partners", "letter", "height"] ZhX) (ZA:mg "enumerate" = none):
  Yc P w K mg base J9 11 f fd ["drawing", "scale", "thing"] ZhA:=by
 refine F.ok Yn (fun vs H Q E h=>?_) (fun cdv A outer s H vs Q E hr h=>?_)
 ·obtain ⟨l,p,sc,ls,g,rfl,_⟩:=h
  rfl
 ·obtain ⟨l,p,sc,ls,g,rfl,hsc,dr,hg,h⟩:=h
  refine ⟨_,(Zc (Zp (i:=3) Yn.nd rfl (Or.inl rfl) (Zr Yu hr (Za (pv 0) (Za (pv 1) Zb))))
   (Zc (ZR (WB (JX (Zr ZaU hr (Za (pv 2) (Za (Zr YW hr (Za (pv 0) Zb)) Zb))))) (Zg (Zv JZ)) ZG)
   (Zc (Zp (i:=4) Yn.nd rfl (Or.inl rfl) (ZD (Za (ZQ Zb) Zb)))
   (Zc (Yq PassesOwn.never rfl (JT (K:=K) rfl (by rfl) ZA (Za (pv 0) Zb)) (Z6 (K:=K) (n:=2) rfl rfl (Zq (Zl (i:=5) Yn.nd rfl (Or.inr rfl)) (Zq (Zl (i:=6) Yn.nd rfl (Or.inl rfl)) ZU))) (Zc (ZdD (i:=7) Yn.nd rfl (Or.inl rfl) (Ls:=["then", "changed"]) (Fs:=["t", "thing"]) (fi:=[5,2]) (ZY.of (show Yv ["drawing", "scale", "thing", "heights", "rows", "t", "letter", "found"] (Zh Y7) _ ["t", "thing"] [5,2]=true by decide +kernel)) rfl (Z8 (K:=K) rfl (Zr ZcL hr (Za (Zy (Zn (K:=K) rfl) (pv 4) (Zbn Ud Ze) (fun _ _=>rfl)) (Za (pv 6) (Za (ZkG (Wl hr) (pv 3) (pv 5) ⟨rfl,rfl,rfl,rfl⟩) Zb))))) (fun cl C s3 H3 ex=>⟨(Z6 (K:=K) (n:=2) rfl rfl (Zq (Zl (i:=0) (show ((["then", "changed"]:List Str)++(["t", "thing"]:List Str)).Nodup by decide +kernel) rfl (Or.inl rfl)) (Zq (Zl (i:=1) (show ((["then", "changed"]:List Str)++(["t", "thing"]:List Str)).Nodup by decide +kernel) rfl (Or.inl rfl)) ZU))),(Zbd (Zt Yi (pv 1) (Yg (ZbE (K:=K) rfl) (pv 2) (pv 3) rfl) (Zs _))),(pv 0)⟩))
   (Zc (ZR (WB (Zji (K:=K) rfl (Zgr (pv 7) (fun _=>rfl)))) (Zg (Zv JZ)) ZG)
   (Zg (ZZ (Yb (K:=K) rfl (Yx PySem.F.plainAttrs_list PySem.F.slot_list_append PySem.F.type_list_append ZO (pv 4) (Za (Zy (Zn (K:=K) rfl) (pv 7) Ze (fun _ _=>rfl)) Zb))))))))
   (Zg (Zv (pv 4))))))),?_⟩
  obtain ⟨xs,hl,hL,hW,hlen⟩:=id dr
  refine ⟨_,rfl,_,rfl,l,sc,ls,g,rfl,hsc,dr,hg,fun hp H1 kvh s1 fh eh vh=>?_⟩
  refine ⟨_,rfl,_,rfl,l,xs,ls,rfl,s1 _ _ hl,hL.same s1,hlen,hW.kd,fun cp H2 fcp s2 ecp=>?_⟩
  have s02:=s1.trans s2
  have ncr:(crI ls).length<=60:=Nat.le_trans (Jf ls _ _) hlen
  refine ⟨.ref p,cp,p,crI ls,rfl,rfl,ecp,ncr,?_⟩
  rcases h with ⟨us,ep,k⟩ | ⟨cs,ep,nc,k0,k1⟩
  ·exact .inl ⟨us,s02 _ _ ep,fun H3 s3=>⟨_,rfl,JN (k H3 (s02.trans s3))⟩⟩
  refine .inr ⟨cs,s02 _ _ ep,nc,fun H3 s3=>⟨_,rfl,?_⟩⟩
  have s03:=s02.trans s3
  cases hrb:Wj (crI ls) cs with
  | false=>exact JN (k0 (.inl hrb) H3 s03)
  | true=>
  refine Y5 ?_
  have k1:=k1 hrb
  refine ⟨(by show 0<=sizeLine;exact Nat.zero_le _),fun e0 fe0=>?_⟩
  obtain ⟨H4,z,t4,g4⟩:=lay (o:=.tup []) fe0
  rw [z];clear z
  refine ⟨(by show 1<=sizeLine;decide),fun r fr=>?_⟩
  obtain ⟨H5,z,t5,g5⟩:=lay (o:=.lst [.ref e0]) fr
  rw [z];clear z
  have s05:=(s03.trans t4).trans t5
  have fr0:H r=none:=(s03.trans t4).free fr
  have hxl:=hL.len
  refine ⟨_,rfl,l,rfl,⟨_,Zu.of (s05 _ _ hl)⟩,GV (K:=K) (a:=l) (xs:=xs) (fun i σ G=>∃(ws:List V) (rows:List (List Int)) (v5 v6 v7:Option V),σ = [some (.ref l),some (.int sc),some (.ref p),some (.ref hp),some (.ref r),v5,v6,v7]/\Zi H G/\G hp=some (.dK kvh)/\G r=some (.lst ws)/\Words G ws rows/\rows.length=i+1 /\ ∀t,t<=i->Wa ls (Ui g ls) (chA cs) t=rows[t]?)
   ⟨[.ref e0],[[]],none,none,none,rfl,s05,((s2.trans s3).trans (t4.trans t5)) _ _ eh,g5,.cons ⟨e0,rfl,t5 _ _ g4⟩ .nil,rfl,fun t ht=>by rw [Nat.le_zero.mp ht];rfl⟩ (fun i σ G _ ⟨_,_,_,_,_,_,sG,_⟩=>Zu.of (sG _ _ hl)) ?_ ?_⟩
  ·rintro i x pe σ G hx ⟨ws,rows,v5,v6,v7,rfl,sG,ehG,er,hws,lr,hrow⟩ fpe
   obtain ⟨q,ta,hq,rfl,hta⟩:=hL.get hx
   have hi:i<ls.length:=(List.getElem?_eq_some_iff.mp hq).1
   refine ⟨pe,_,rfl,YT.of Zd,rfl,_,_,rfl,_,_,rfl,rfl,?_⟩
   obtain ⟨G1,z,sg1,eg1⟩:=lay (o:=.tup [.int (i:Int),.ref ta]) fpe
   rw [z];clear z
   have sG1:=sG.trans sg1
   have er1:=sg1 _ _ er
   have hws1:=hws.same sg1
   have eh1:=sg1 _ _ ehG
   obtain ⟨ps,hps⟩:∃ps,rows[i]? = some ps:=⟨_,List.getElem?_eq_getElem (by lia)⟩
   have hrw:Wa ls (Ui g ls) (chA cs) i=some ps:=(hrow i (Nat.le_refl _)).trans hps
   obtain ⟨n,wn,al⟩:=Zdy (z:=Ui g ls) (ch:=chA cs) hW i (by lia)
   obtain ⟨ptr,lps⟩:=al ps hrw
   obtain ⟨m,wm,ft⟩:=Zd4 hW wn hq
   have kq:=kinds ft
   have n2:=U9 wn
   have tl:(ls.take i).length=i:=by rw [List.length_take];lia
   have lw:ws.length=i+1:=hws.len.trans lr
   obtain ⟨u0,x0,rfl⟩:∃u0 x0,ws=u0 ++ [x0]:=⟨ws.dropLast,_,(List.dropLast_concat_getLast (fun z=>by rw [z] at lw;cases lw)).symm⟩
   have lu0:u0.length=i:=by rw [List.length_append,List.length_singleton] at lw;lia
   have wx:Je G1 x0 ps:=by
    obtain ⟨w',hw',e'⟩:=hws1.get (i:=i) (x:=x0) (by rw [List.getElem?_append_right (by lia),lu0];simp)
    rw [hps] at hw'
    cases hw'
    exact e'
   refine ⟨_,rfl,1,rfl,r,_,-1,x0,rfl,rfl,Zu.of er1,UB _ _,_,rfl,_,rfl,hp,rfl,.inl ⟨_,.inl eh1⟩,_,rfl,_,.inl ⟨kvh,.inl (i:Int),.inl eh1,rfl,rfl⟩,?_⟩
   rw [vh i hi]
   refine ⟨x0,ta,q,hgA g ls i,ps,(by cases hgA g ls i<;>rfl),wx,sG1 _ _ hta,by lia,ptr,ft.1,?_,?_,kq,fun w ys G2 sg2 ew pw=>?_⟩
   ·intro nb
    rcases ft.2 with ⟨e,_⟩ | ⟨_,e,_⟩ | ⟨_,e,_⟩
    ·exact absurd e nb
    ·lia
    ·lia
   ·intro ec z
    have kt:UJ ls UG i=true:=by rw [WK hq (pr:=UG),ec];decide
    unfold hgA at z
    rw [kt] at z
    cases z
   have sG2:=sG1.trans sg2
   have ep2:=sG2 _ _ ep
   have wl:=Zl2 pw
   have w2:(Uo ps q (hgA g ls i)).length<=2:=by
    rw [Zio ps q _ kq]
    cases Ut ps q with
    | none=>simp
    | some r'=>dsimp only;split<;>simp
   refine ⟨w,rfl,⟨_,Zu.of ew⟩,JG (K:=K) (a:=w) (xs:=ys) (by rw [wl,sizeLine_eq];lia) (fun j zs G'=>Zi G2 G'/\Words G' zs ((((Uo ps q (hgA g ls i)).take j).filter fun v=>v.2==chA cs i).map (·.1))) ⟨Zi.refl _,.nil⟩
    (fun j zs G' ⟨_,z⟩=>by rw [z.len,List.length_map];exact Nat.le_trans (List.length_filter_le _ _) (by rw [List.length_take];lia)) (fun j zs G' ⟨s',_⟩=>Zu.of (s' _ _ ew)) (fun j y zs G' hy z=>?_) (fun zs G' z D hD=>?_)⟩
   ·obtain ⟨s',hz⟩:=z
    obtain ⟨⟨th,c⟩,hw',t',x',rfl,ht',hx'⟩:=Zmf pw hy
    dsimp only at ht' hx'
    refine ⟨t',_,rfl,YT.of (s' _ _ ht'),rfl,_,_,rfl,_,_,rfl,rfl,?_⟩
    refine ⟨_,rfl,_,rfl,_,rfl,p,_,rfl,.inl (Zu.of (s' _ _ ep2)),rfl,?_,rfl,_,rfl,?_⟩
    ·rw [List.all_eq_true]
     intro v hv
     obtain ⟨z,_,rfl⟩:=List.mem_map.mp hv
     rfl
    ·have ed:decide (V.bl c=V.bl (decide ((i:Int)∈cs)))=(c==chA cs i):=by
      show _=(c==decide ((i:Int)∈cs))
      cases c<;>cases decide ((i:Int)∈cs)<;>rfl
     rw [if_neg Bool.false_ne_true,ZaG,ed]
     cases e:(c==chA cs i) with
     | true=>
      refine JN ⟨_,rfl,s',?_⟩
      rw [Zbg (fun v:List Int×Bool=>v.2==chA cs i) hw',if_pos e,List.map_append]
      exact hz.snoc (hx'.same s')
     | false=>
      refine Y5 ⟨s',?_⟩
      rw [Zbg (fun v:List Int×Bool=>v.2==chA cs i) hw',if_neg (by rw [e];exact Bool.false_ne_true),List.append_nil]
      exact hz
   ·obtain ⟨s',hz⟩:=z
    rw [List.take_of_length_le (by rw [wl];exact Nat.le_refl _),Zlr ps q _ kq] at hz
    have rw1:=Zdt (z:=Ui g ls) (ch:=chA cs) hrw hq
    obtain ⟨G3,z,t3,e3⟩:=lay (o:=.lst zs) hD
    rw [z];clear z
    have sg3:=(sg2.trans s').trans t3
    have s3':Zi H G3:=sG1.trans sg3
    refine ⟨_,rfl,!zs.isEmpty,.inl ⟨zs,Zu.of e3,rfl⟩,?_⟩
    cases hn:nxt ps q (Ui g ls i) (chA cs i) with
    | none=>
     rw [hn] at rw1
     have hn':nxt ps q (decide (hgA g ls i=some 0)) (chA cs i)=none:=hn
     rw [hn'] at hz
     cases hz
     refine JN (k0 (.inr ?_) G3 s3')
     have:=Zcw rw1 (ls.length-(i+1))
     rw [show i+1+(ls.length-(i+1))=ls.length by lia] at this
     exact this
    | some r'=>
     rw [hn] at rw1
     have hn':nxt ps q (decide (hgA g ls i=some 0)) (chA cs i)=some r':=hn
     rw [hn'] at hz
     obtain ⟨x1,rfl,hx1⟩:∃x1,zs = [x1]/\Je G' x1 r':=by
      cases hz with
      | cons a b=>cases b;exact ⟨_,rfl,a⟩
     refine Y5 ?_
     have er3:=sg3 _ _ er1
     refine ⟨_,rfl,.inl ⟨rfl,_,Zu.of er3⟩,_,rfl,D,[x1],0,x1,rfl,rfl,Zu.of e3,rfl,r,_,_,rfl,rfl,er3,(by rw [lw,sizeLine_eq];lia),?_⟩
     have hw3:Words G3 (u0 ++ [x0] ++ [x1]) (rows ++ [r']):=(hws1.same sg3).snoc (hx1.same t3)
     refine ⟨_,rows ++ [r'],_,_,_,rfl,fun c o e=>by rw [Zj (Zf e fr0)];exact s3' c o e,?_,Zd,Zjq er3 hw3,by rw [List.length_append,lr];rfl,fun t ht=>?_⟩
     ·rw [Zj (Zd1 (sg3 _ _ eh1) er3 (fun z=>nomatch z))]
      exact sg3 _ _ eh1
     ·by_cases e:t=i+1
      ·subst e
       rw [rw1,List.getElem?_append_right (by lia),lr]
       simp
      ·rw [hrow t (by lia),List.getElem?_append_left (by lia)]
  ·rintro σ G ⟨ws,rows,v5,v6,v7,rfl,sG,ehG,er,hws,lr,hrow⟩
   rw [hxl] at lr hrow
   exact ⟨_,rfl,k1 r ws rows G sG fr0 er hws lr hrow⟩
theorem ZjG {ls:List (Str×Int)}{z ch:Nat->Bool}{n0:Int} (hW:Wk ls n0) (hlen:ls.length<=60) {t:Nat}{ps:List Int}{q:Str×Int} (h:Wa ls z ch t=some ps) (h1:Wa ls z ch (t+1)≠none) (hq:ls[t]? = some q) (ec:q.1 = "cross"):
  ZcD ps q.2.toNat (ps.getD q.2.toNat 0).toNat (ps.getD (q.2.toNat+1) 0).toNat/\ps.length<=200/\0<=q.2:=by
 have ht:t<ls.length:=(List.getElem?_eq_some_iff.mp hq).1
 obtain ⟨n,wn,al⟩:=Zdy (z:=z) (ch:=ch) hW t (by lia)
 obtain ⟨pt,lps⟩:=al ps h
 obtain ⟨m,wm,ft⟩:=Zd4 hW wn hq
 have n2:=U9 wn
 have tl:(ls.take t).length=t:=by rw [List.length_take];lia
 have f2:q.2+1<n:=by
  rcases ft.2 with ⟨e,_⟩ | ⟨_,e,_⟩ | ⟨e,_⟩
  ·exact absurd (e.symm.trans ec) (by decide)
  ·exact e
  ·exact absurd (e.symm.trans ec) (by decide)
 have q0:=ft.1
 refine ⟨Zgf pt (by lia) fun e=>?_,by lia,q0⟩
 rw [Zdt h hq] at h1
 unfold nxt Ut at h1
 rw [ec,if_neg (by decide),if_pos (by rw [decide_eq_true (show ps.getD q.2.toNat 0=q.2+1 by rw [e];lia)];rfl)] at h1
 exact h1 rfl
theorem Znm {ls:List (Str×Int)}{n:Nat}{t:Int} (h:t∈Z9 ls (fun x=>decide (x = "cross")) n):∃(i:Nat) (q:Str×Int),t=(i:Int)/\i<n/\ls[i]? = some q/\q.1 = "cross" := by
 unfold Z9 at h
 obtain ⟨i,hi,e⟩:=List.mem_filterMap.mp h
 split at e
 ·rename_i c
  cases e
  cases hq:ls[i]? with
  | none=>unfold UJ at c;rw [hq] at c;cases c
  | some q=>
   rw [WK hq] at c
   exact ⟨i,q,rfl,List.mem_range.mp hi,hq,of_decide_eq_true c⟩
 ·cases e
theorem Zem {g:Int->Int}{ls:List (Str×Int)}{i:Nat}{q:Str×Int} (hq:ls[i]? = some q) (ec:q.1 = "cross"):∃h,hgA g ls i=some h:=by
 have kt:UJ ls UG i=true:=by rw [WK hq (pr:=UG),ec];decide
 unfold hgA
 rw [kt]
 exact ⟨_,rfl⟩
def ZfA (C:Addr):Sp:=fun vs H Q E=>∃(l p:Addr) (sc:Int) (ls:List (Str×Int)) (g:Int->Int),vs = [.ref l,.int sc,.ref p]/\(sc=0∨sc=1)/\Drw H l ls/\HG sc ls g /\
 ((∃xs,H p=some (.tup xs) /\ ∀H',Zi H H'->E (.ref C) none H') ∨ ∃cs:List Int,H p=some (.lst (cs.map V.int))/\cs.length<=100 /\
  ((Wj (crI ls) cs=false∨Wa ls (Ui g ls) (chA cs) ls.length=none) -> ∀H',Zi H H'->E (.ref C) none H') /\
  (Wj (crI ls) cs=true -> ∀(r:Addr) (ws:List V) (rows:List (List Int)) (H':Hp),Zi H H'->H r=none->H' r=some (.lst ws)->Words H' ws rows->rows.length=ls.length+1->(∀t,t<=ls.length->Wa ls (Ui g ls) (chA cs) t=rows[t]?)->Q (.ref r) H'))
abbrev Gu:Stmt:=top 44
theorem Zak:Zz ["drawing", "scale", "thing", "rows"] ["drawing", "scale", "thing"] (Zh Gu):={}
theorem Zj6 {C:Addr}{f:Addr}{fd:FuncData} (F:Yp K "banding_rows" "banding_rows" Gu f fd) (J0:mg "NoBanding" = some (.ref C)) (WQ:PySem.W.excIn K C bmV "ValueError.__new__" = true) (JY:Yk P w K mg base 11 "partners_through" ["drawing", "scale", "thing"] ZhA):
  Yc P w K mg base (CX1 P w) 12 f fd ["drawing", "scale", "thing"] (ZfA C):=by
 refine F.okX Zak (fun vs H Q E h=>?_) (fun cdv A outer s H vs Q E hr h=>?_)
 ·obtain ⟨l,p,sc,ls,g,rfl,_⟩:=h
  rfl
 ·obtain ⟨l,p,sc,ls,g,rfl,hsc,dr,hg,h⟩:=h
  refine ⟨_,(Zc (Zp (i:=3) Zak.nd rfl (Or.inl rfl) (Zr JY hr (Za (pv 0) (Za (pv 1) (Za (pv 2) Zb)))))
   (Zc (ZR (Zt Zgb (pv 3) JZ (Zs _)) (Zg (ZgZ (by rfl) J0 WQ (Za ZJ Zb))) ZG)
   (Zg (Zv (pv 3))))),?_⟩
  refine ⟨_,rfl,_,rfl,_,rfl,l,p,sc,ls,g,rfl,hsc,dr,hg,?_⟩
  rcases h with ⟨us,ep,k⟩ | ⟨cs,ep,nc,k0,k1⟩
  ·exact .inl ⟨us,ep,fun H' s'=>⟨_,rfl,rfl,_,rfl,JN ⟨(by show 1<=sizeLine;decide),k H' s'⟩⟩⟩
  ·exact .inr ⟨cs,ep,nc,fun z H' s'=>⟨_,rfl,rfl,_,rfl,JN ⟨(by show 1<=sizeLine;decide),k0 z H' s'⟩⟩,fun z r ws rows H' s' fr er hw lr hr'=>⟨_,rfl,rfl,_,rfl,Y5 ⟨_,rfl,k1 z r ws rows H' s' fr er hw lr hr'⟩⟩⟩
abbrev Zb0 (ls:List (Str×Int)) (z:Nat->Bool) (rows:List (List Int)):Int->Bool:=fun t=>z t.toNat&&ZbC (rows.getD t.toNat []) (((ls[t.toNat]?).map (·.2.toNat)).getD 0)
def Zch (C:Addr):Sp:=fun vs H Q E=>∃(l p:Addr) (sc:Int) (ls:List (Str×Int)) (g:Int->Int),vs = [.ref l,.int sc,.ref p]/\(sc=0∨sc=1)/\Drw H l ls/\HG sc ls g /\
 ((∃xs,H p=some (.tup xs) /\ ∀H',Zi H H'->E (.ref C) none H') ∨ ∃cs:List Int,H p=some (.lst (cs.map V.int))/\cs.length<=100 /\
  ((Wj (crI ls) cs=false∨Wa ls (Ui g ls) (chA cs) ls.length=none) -> ∀H',Zi H H'->E (.ref C) none H') /\
  (Wj (crI ls) cs=true -> ∀(rows:List (List Int)),rows.length=ls.length+1->(∀t,t<=ls.length->Wa ls (Ui g ls) (chA cs) t=rows[t]?) -> ∀(d:Addr) (H':Hp),Zi H H'->H d=none->H' d=some (.lst (((crI ls).filter (Zb0 ls (Ui g ls) rows)).map V.int))->Q (.ref d) H'))
abbrev Zdm:Stmt:=top 45
theorem Zer:Zz ["drawing", "scale", "banding", "rows", "heights"] ["drawing", "scale", "banding"] (Zh Zdm):={}
theorem ZjW {C:Addr}{f:Addr}{fd:FuncData} (F:Yp K "loose" "loose" Zdm f fd) (GB:Zdb P w K mg base 12 "banding_rows" ["drawing", "scale", "thing"] (ZfA C)) (Yu:Yk P w K mg base 10 "heights_by_name" ["drawing", "scale"] Zmn) (YW:Yk P w K mg base 2 "crossings_of" ["drawing"] (Ur fun x=>decide (x = "cross"))) (ZcE:Yk P w K mg base 2 "is_free" ["partners", "letter", "height"] Zh4):
  Yc P w K mg base (CX1 P w) 13 f fd ["drawing", "scale", "banding"] (Zch C):=by
 refine F.okX Zer (fun vs H Q E h=>?_) (fun cdv A outer s H vs Q E hr h=>?_)
 ·obtain ⟨l,p,sc,ls,g,rfl,_⟩:=h
  rfl
 ·obtain ⟨l,p,sc,ls,g,rfl,hsc,dr,hg,h⟩:=h
  refine ⟨_,(Zc (Zp (i:=3) Zer.nd rfl (Or.inr rfl) (Zbe GB (hr.mono (by decide)) ZmB (Za (pv 0) (Za (pv 1) (Za (pv 2) Zb)))))
   (Zc (Zp (i:=4) Zer.nd rfl (Or.inr rfl) (Zr Yu hr (Za (pv 0) (Za (pv 1) Zb))))
   (Zg (Zv (GF (Ls:=["t"]) (Fs:=["rows", "drawing", "heights"]) (fi:=[3,0,4]) (ZY.of (show Yv ["drawing", "scale", "banding", "rows", "heights"] (Zh Zdm) _ ["rows", "drawing", "heights"] [3,0,4]=true by decide +kernel)) rfl (Z8 (K:=K) rfl (Zr YW hr (Za (pv 0) Zb))) (fun cl C s3 H3 ex=>⟨(Zl (i:=0) (show ((["t"]:List Str)++(["rows", "drawing", "heights"]:List Str)).Nodup by decide +kernel) rfl (Or.inl rfl)),(Zbd (JX (Zr ZcE hr (Za (Zy (Zn (K:=K) rfl) (pv 1) (pv 0) (fun _ _=>rfl)) (Za (Zy (Zn (K:=K) rfl) (pv 2) (pv 0) (fun _ _=>rfl)) (Za (Zy (U0 (Wl hr)) (pv 3) (pv 0) (fun _ _=>rfl)) Zb)))))),(pv 0)⟩)))))),?_⟩
  refine ⟨_,rfl,_,rfl,_,rfl,l,p,sc,ls,g,rfl,hsc,dr,hg,?_⟩
  rcases h with ⟨us,ep,k⟩ | ⟨cs,ep,nc,k0,k1⟩
  ·exact .inl ⟨us,ep,k⟩
  refine .inr ⟨cs,ep,nc,k0,fun z r ws rows H1 s1 fr er hw lr hrow=>?_⟩
  have k1:=k1 z rows lr hrow
  obtain ⟨xs,hl,hL,hW,hlen⟩:=id dr
  refine ⟨_,rfl,_,rfl,l,sc,ls,g,rfl,hsc,⟨xs,s1 _ _ hl,hL.same s1,hW,hlen⟩,hg,fun hp H2 kvh s2 fh eh vh=>?_⟩
  refine ⟨_,rfl,l,xs,ls,rfl,(s1.trans s2) _ _ hl,hL.same (s1.trans s2),hlen,hW.kd,fun cp H3 fcp s3 ecp=>?_⟩
  have s03:=(s1.trans s2).trans s3
  refine ⟨cp,rfl,⟨_,Zu.of ecp⟩,JG (K:=K) (a:=cp) (xs:=(crI ls).map V.int) (by rw [List.length_map,sizeLine_eq];exact Nat.le_trans (Jf ls _ _) (by lia)) (fun j zs G=>Zi H3 G/\zs=(((crI ls).take j).filter (Zb0 ls (Ui g ls) rows)).map V.int) ⟨Zi.refl _,rfl⟩
   (fun j zs G ⟨_,z⟩=>by rw [z,List.length_map];exact Nat.le_trans (List.length_filter_le _ _) (by rw [List.length_take];lia)) (fun j zs G ⟨s',_⟩=>Zu.of (s' _ _ ecp)) (fun j x zs G hx q=>?_) (fun zs G q D hD=>?_)⟩
  ·obtain ⟨s',rfl⟩:=q
   rw [List.getElem?_map] at hx
   obtain ⟨t,ht,rfl⟩:=Option.map_eq_some_iff.mp hx
   obtain ⟨i,q,rfl,hi,hq,ec⟩:=Znm (List.mem_of_getElem? ht)
   obtain ⟨ps,hps⟩:∃ps,rows[i]? = some ps:=⟨_,List.getElem?_eq_getElem (by lia)⟩
   have hrw:=(hrow i (by lia)).trans hps
   have hnx:Wa ls (Ui g ls) (chA cs) (i+1)≠none:=by
    rw [hrow (i+1) (by lia),List.getElem?_eq_getElem (by lia)]
    exact fun z=>nomatch z
   obtain ⟨tw,l200,q0⟩:=ZjG hW hlen hrw hnx hq ec
   obtain ⟨h0,eh0⟩:=Zem (g:=g) hq ec
   have lw:ws.length=ls.length+1:=hw.len.trans lr
   obtain ⟨x0,hx0⟩:∃x0,ws[i]? = some x0:=⟨_,List.getElem?_eq_getElem (by lia)⟩
   have wG:Je G x0 ps:=by
    obtain ⟨w',hw',e'⟩:=(hw.same ((s2.trans s3).trans s')).get hx0
    rw [hps] at hw'
    cases hw'
    exact e'
   obtain ⟨x1,hx1⟩:∃x1,xs[i]? = some x1:=⟨_,List.getElem?_eq_getElem (by rw [hL.len];exact hi)⟩
   obtain ⟨q',ta,hq',rfl,hta⟩:=hL.get hx1
   rw [hq] at hq'
   cases hq'
   have sG:=s03.trans s'
   obtain ⟨k,hk⟩:=Int.eq_ofNat_of_zero_le q0
   have ht':G ta=some (.tup [.str "cross", .int (q.2.toNat:Nat)]):=by
    have:=sG _ _ hta
    rw [ec] at this
    rw [this,hk];rfl
   have eh3:G hp=some (.dK kvh):=(s3.trans s') _ _ eh
   have at0:∀{us:List V}{y:V},us[i]? = some y->atI us (i:Int)=some y:=fun {us y} e=>by
    have hlt:=(List.getElem?_eq_some_iff.mp e).1
    unfold atI ixN
    rw [if_pos (by lia),if_pos (by lia)]
    simpa using e
   refine ⟨_,rfl,_,rfl,r,ws,i,x0,rfl,rfl,Zu.of ((s2.trans s3).trans s' _ _ er),at0 hx0,_,rfl,_,rfl,l,xs,i,.ref ta,rfl,rfl,Zu.of (sG _ _ hl),at0 hx1,_,rfl,_,rfl,?_⟩
   refine ⟨hp,.int h0,rfl,.inl ⟨kvh,.inl (i:Int),.inl eh3,rfl,(by rw [vh i hi,eh0];rfl)⟩,x0,ta,q.2.toNat,_,_,ps,h0,rfl,wG,ht',l200,tw,fun G' s''=>⟨_,rfl,?_⟩⟩
   have ef:Zb0 ls (Ui g ls) rows (i:Int)=(decide (h0=0)&&W5 q.2.toNat (ps.getD q.2.toNat 0).toNat (ps.getD (q.2.toNat+1) 0).toNat):=by
    show (decide (hgA g ls (i:Int).toNat=some 0)&&ZbC (rows.getD (i:Int).toNat []) (((ls[(i:Int).toNat]?).map (·.2.toNat)).getD 0))=_
    rw [Int.toNat_natCast,eh0,List.getD_eq_getElem?_getD,hps,hq]
    show (decide (some h0=some 0)&&ZbC ps q.2.toNat)=_
    congr 1
    exact decide_eq_decide.mpr ⟨fun z=>Option.some.inj z,fun z=>congrArg some z⟩
   rw [<- ef]
   cases hb:Zb0 ls (Ui g ls) rows (i:Int) with
   | true=>
    refine JN ⟨_,rfl,s'.trans s'',?_⟩
    rw [Zbg (Zb0 ls (Ui g ls) rows) ht,if_pos hb,List.map_append]
    rfl
   | false=>
    refine Y5 ⟨s'.trans s'',?_⟩
    rw [Zbg (Zb0 ls (Ui g ls) rows) ht,if_neg (by rw [hb];exact Bool.false_ne_true),List.append_nil]
  ·obtain ⟨s',rfl⟩:=q
   rw [List.take_of_length_le (by rw [List.length_map];exact Nat.le_refl _)]
   exact k1 D _ ((s03.trans s').step hD) ((s03.trans s').free hD) Zd
theorem ZmJ {α β:Type}{F:α -> β -> Prop}{x:α}{y:β} (h:F x y):∀{l:List α}{m:List β},Paired F l m->Paired F (l ++ [x]) (m ++ [y])
 | _,_,.nil=>.cons h .nil
 | _,_,.cons r t=>.cons r (ZmJ h t)
def Zfr:Sp:=fun vs H Q _=>∃(l p:Addr) (sc:Int) (ls:List (Str×Int)) (g:Int->Int) (cs:List Int),vs = [.ref l,.int sc,.ref p]/\(sc=0∨sc=1)/\Drw H l ls/\HG sc ls g/\H p=some (.lst (cs.map V.int))/\cs.length<=100 /\
 (Wa ls (Ui g ls) (chA cs) ls.length=none -> ∀H',Zi H H'->Q .non H') /\
 ∀(r:Addr) (ws:List V) (rows:List (List Int)) (H':Hp),Zi H H'->H r=none->H' r=some (.lst ws)->Zcd H' ws rows->(∀v∈ws,∃a,v = .ref a/\H a=none)->rows.length=ls.length+1->(∀t,t<=ls.length->Wa ls (Ui g ls) (chA cs) t=rows[t]?)->Q (.ref r) H'
abbrev ZaJ:Stmt:=top 64
theorem Jb:Zz ["_law_drawing_here", "_law_scale", "_law_changed", "_law_found", "_law_t", "_law_height", "_law_here", "_law_there"] ["_law_drawing_here", "_law_scale", "_law_changed"] (Zh ZaJ):={}
theorem Zln {f:Addr}{fd:FuncData} (F:Yp K "_law_walk" "_law_walk" ZaJ f fd) (ZN:Yk P w K mg base 5 "_law_letter_heights" ["_law_drawing_here", "_law_scale"] ZdN) (YM:Yk P w K mg base 1 "_law_moved_on" ["_law_partners", "_law_letter"] Zdw) (Yf:Yk P w K mg base 1 "_law_is_apart" ["_law_partners", "_law_k"] Zca) (ZA:mg "enumerate" = none) (Yj:mg "list" = none):
  Yc P w K mg base J9 6 f fd ["_law_drawing_here", "_law_scale", "_law_changed"] Zfr:=by
 refine F.ok Jb (fun vs H Q E h=>?_) (fun cdv A outer s H vs Q E hr h=>?_)
 ·obtain ⟨l,p,sc,ls,g,cs,rfl,_⟩:=h
  rfl
 ·obtain ⟨l,p,sc,ls,g,cs,rfl,hsc,dr,hg,ep,nc,k0,k1⟩:=h
  refine ⟨_,(Zc (Zp (i:=3) Jb.nd rfl (Or.inl rfl) (ZD (Za (ZD Zb) Zb)))
   (Zc (Yq PassesOwn.never rfl (JT (K:=K) rfl (by rfl) ZA (Za (Zr ZN hr (Za (pv 0) (Za (pv 1) Zb))) Zb)) (Z6 (K:=K) (n:=2) rfl rfl (Zq (Zl (i:=4) Jb.nd rfl (Or.inl rfl)) (Zq (Zl (i:=5) Jb.nd rfl (Or.inl rfl)) ZU))) (Zc (Zp (i:=6) Jb.nd rfl (Or.inl rfl) (Zy (Zn (K:=K) rfl) (pv 3) (Zbn Ud Ze) (fun _ _=>rfl)))
   (Zc (Zp (i:=7) Jb.nd rfl (Or.inl rfl) (Zr YM hr (Za (pv 6) (Za (Zy (Zn (K:=K) rfl) (pv 0) (pv 4) (fun _ _=>rfl)) Zb))))
   (Zc (ZR (Zt Zgb (pv 7) JZ (Zs _)) (Zg (Zv JZ)) ZG)
   (Zc (ZR (Zt (ZbE (K:=K) rfl) (pv 4) (pv 2) rfl) (Zc (ZR (PW.pt (ZdB (Zt Zc8 (Zy (Yh (K:=K) rfl) (Zy (Zn (K:=K) rfl) (pv 0) (pv 4) (fun _ _=>rfl)) Ze (fun _ _=>rfl)) ZJ (Zs _)) (ZdB (Zt Zc8 (pv 5) Ze (Zs _)) (ZdE (WB (JX (Zr Yf hr (Za (pv 6) (Za (Zy (Yh (K:=K) rfl) (Zy (Zn (K:=K) rfl) (pv 0) (pv 4) (fun _ _=>rfl)) Ze (fun _ _=>rfl)) Zb))))))))) (Zg (Zv JZ)) ZG)
   (Zg (Zp (i:=7) Jb.nd rfl (Or.inl rfl) (Yl (YZ (K:=K) rfl) (by rfl) Yj boot_list (Za (pv 6) Zb))))) ZG)
   (Zg (ZZ (Yb (K:=K) rfl (Yx PySem.F.plainAttrs_list PySem.F.slot_list_append PySem.F.type_list_append ZO (pv 3) (Za (pv 7) Zb))))))))))
   (Zg (Zv (pv 3))))),?_⟩
  obtain ⟨xs,hl,hL,hW,hlen⟩:=id dr
  refine ⟨(by show 0<=sizeLine;exact Nat.zero_le _),fun e0 fe0=>?_⟩
  obtain ⟨H4,z,t4,g4⟩:=lay (o:=.lst []) fe0
  rw [z];clear z
  refine ⟨(by show 1<=sizeLine;decide),fun r fr=>?_⟩
  obtain ⟨H5,z,t5,g5⟩:=lay (o:=.lst [.ref e0]) fr
  rw [z];clear z
  have s05:=t4.trans t5
  have fr0:H r=none:=t4.free fr
  have e0r:e0≠r:=Zf g4 fr
  refine ⟨_,rfl,_,rfl,l,sc,ls,g,rfl,hsc,⟨xs,s05 _ _ hl,hL.same s05,hW,hlen⟩,hg,fun hp H6 s6 fhp ehp=>?_⟩
  have s06:=s05.trans s6
  have lh:(lhL g ls ls.length).length=ls.length:=by simp [lhL]
  have rhp:r≠hp:=Zf g5 fhp
  have hxl:=hL.len
  refine ⟨hp,rfl,⟨_,Zu.of ehp⟩,GV (K:=K) (a:=hp) (xs:=lhL g ls ls.length) (fun i σ G=>∃(ws:List V) (rows:List (List Int)) (v4 v5 v6 v7:Option V),σ = [some (.ref l),some (.int sc),some (.ref p),some (.ref r),v4,v5,v6,v7]/\Zi H G/\G hp=some (.lst (lhL g ls ls.length))/\G r=some (.lst ws)/\Zcd G ws rows/\(∀v∈ws,v ≠ .ref r)/\(∀v∈ws,∃a,v = .ref a/\H a=none)/\rows.length=i+1 /\ ∀t,t<=i->Wa ls (Ui g ls) (chA cs) t=rows[t]?)
   ⟨[.ref e0],[[]],none,none,none,none,rfl,s06,ehp,s6 _ _ g5,.cons ⟨e0,rfl,s6 _ _ (t5 _ _ g4)⟩ .nil,fun v hv=>?_,fun v hv=>⟨e0,List.mem_singleton.mp hv,fe0⟩,rfl,fun t ht=>by rw [Nat.le_zero.mp ht];rfl⟩ (fun i σ G _ ⟨_,_,_,_,_,_,_,sG,e,_⟩=>Zu.of e) ?_ ?_⟩
  ·rw [List.mem_singleton.mp hv]
   exact fun z=>e0r (by injection z)
  ·rintro i x pe σ G hx ⟨ws,rows,v4,v5,v6,v7,rfl,sG,ehG,er,hws,hwr,hwn,lr,hrow⟩ fpe
   have hi:i<ls.length:=by
    have:=(List.getElem?_eq_some_iff.mp hx).1
    lia
   obtain ⟨q,hq⟩:∃q,ls[i]? = some q:=⟨_,List.getElem?_eq_getElem hi⟩
   obtain rfl:x=oI (hgA g ls i):=by
    unfold lhL at hx
    rw [List.getElem?_map,List.getElem?_range hi] at hx
    exact (Option.some.inj hx).symm
   refine ⟨pe,_,rfl,YT.of Zd,rfl,_,_,rfl,_,_,rfl,rfl,?_⟩
   obtain ⟨G1,z,sg1,eg1⟩:=lay (o:=.tup [.int (i:Int),oI (hgA g ls i)]) fpe
   rw [z];clear z
   have sG1:=sG.trans sg1
   have er1:=sg1 _ _ er
   have hws1:Zcd G1 ws rows:=L2.Paired.imp' (fun _ _ ⟨a,h1,h2⟩=>⟨a,h1,sg1 _ _ h2⟩) hws
   have eh1:=sg1 _ _ ehG
   obtain ⟨ps,hps⟩:∃ps,rows[i]? = some ps:=⟨_,List.getElem?_eq_getElem (by lia)⟩
   have hrw:Wa ls (Ui g ls) (chA cs) i=some ps:=(hrow i (Nat.le_refl _)).trans hps
   obtain ⟨n,wn,al⟩:=Zdy (z:=Ui g ls) (ch:=chA cs) hW i (by lia)
   obtain ⟨ptr,lps⟩:=al ps hrw
   obtain ⟨m,wm,ft⟩:=Zd4 hW wn hq
   have kq:=kinds ft
   have n2:=U9 wn
   have tl:(ls.take i).length=i:=by rw [List.length_take];lia
   have lw:ws.length=i+1:=(Zl2 hws).trans lr
   obtain ⟨u0,x0,rfl⟩:∃u0 x0,ws=u0 ++ [x0]:=⟨ws.dropLast,_,(List.dropLast_concat_getLast (fun z=>by rw [z] at lw;cases lw)).symm⟩
   have lu0:u0.length=i:=by rw [List.length_append,List.length_singleton] at lw;lia
   obtain ⟨a0,rfl,ea0⟩:Zn4 G1 x0 ps:=by
    obtain ⟨w',hw',e'⟩:=Zmf hws1 (i:=i) (x:=x0) (by rw [List.getElem?_append_right (by lia),lu0];simp)
    rw [hps] at hw'
    cases hw'
    exact e'
   obtain ⟨xv,hxt⟩:∃xv,xs[i]? = some xv:=⟨_,List.getElem?_eq_getElem (by lia)⟩
   obtain ⟨q',ta,hq',rfl,hta⟩:=hL.get hxt
   obtain rfl:q=q':=Option.some.inj (hq.symm.trans hq')
   have qb:q.1 ≠ "born" -> q.2+1<ps.length:=fun nb=>by
    rcases ft.2 with ⟨e,_⟩ | ⟨_,e,_⟩ | ⟨_,e,_⟩
    ·exact absurd e nb
    ·lia
    ·lia
   have rw1:=Zdt (z:=Ui g ls) (ch:=chA cs) hrw hq
   have none':nxt ps q (Ui g ls i) (chA cs i)=none -> ∀G',Zi G1 G'->Q .non G':=fun e G' s'=>by
    rw [e] at rw1
    have:=Zcw rw1 (ls.length-(i+1))
    rw [show i+1+(ls.length-(i+1))=ls.length by lia] at this
    exact k0 this G' (sG1.trans s')
   have put:∀(G':Hp) (pp:Addr) (r':List Int),Zi G1 G'->nxt ps q (Ui g ls i) (chA cs i)=some r'->G1 pp=none->G' pp=some (.lst (r'.map V.int)) -> ∀v4 v5 v6 v7:Option V,
     ∃(ws':List V) (rows:List (List Int)) (w4 w5 w6 w7:Option V),[some (.ref l),some (.int sc),some (.ref p),some (.ref r),v4,v5,v6,v7] = [some (.ref l),some (.int sc),some (.ref p),some (.ref r),w4,w5,w6,w7]/\Zi H (upd G' r (.lst (u0 ++ [.ref a0] ++ [.ref pp])))/\(upd G' r (.lst (u0 ++ [.ref a0] ++ [.ref pp]))) hp=some (.lst (lhL g ls ls.length)) /\
      (upd G' r (.lst (u0 ++ [.ref a0] ++ [.ref pp]))) r=some (.lst ws')/\Zcd (upd G' r (.lst (u0 ++ [.ref a0] ++ [.ref pp]))) ws' rows/\(∀v∈ws',v ≠ .ref r)/\(∀v∈ws',∃a,v = .ref a/\H a=none)/\rows.length=i+1+1 /\ ∀t,t<=i+1->Wa ls (Ui g ls) (chA cs) t=rows[t]?:=fun G' pp r' s' en fpp epp v4 v5 v6 v7=>by
    have ppr:pp≠r:=fun z=>by rw [z,er1] at fpp;cases fpp
    rw [en] at rw1
    have hw':∀v∈u0 ++ [.ref a0] ++ [.ref pp],v ≠ .ref r:=fun v hv=>by
     rcases List.mem_append.mp hv with z | z
     ·exact hwr v z
     ·rw [List.mem_singleton.mp z]
      exact fun z=>ppr (by injection z)
    refine ⟨_,rows ++ [r'],_,_,_,_,rfl,fun c o e=>by rw [Zj (Zf e fr0)];exact s' c o (sG1 c o e),by rw [Zj (Ne.symm rhp)];exact s' _ _ eh1,Zd,?_,hw',fun v hv=>?_,by rw [List.length_append,lr];rfl,fun t ht=>?_⟩
    ·have all:Zcd G' (u0 ++ [.ref a0] ++ [.ref pp]) (rows ++ [r']):=ZmJ ⟨pp,rfl,epp⟩ (L2.Paired.imp' (fun _ _ ⟨a,h1,h2⟩=>⟨a,h1,s' _ _ h2⟩) hws1)
     have:∀{vs:List V}{L:List (List Int)},Zcd G' vs L->(∀v∈vs,v ≠ .ref r)->Zcd (upd G' r (.lst (u0 ++ [.ref a0] ++ [.ref pp]))) vs L:=fun x=>by
      induction x with
      | nil=>exact fun _=>.nil
      | cons h _ ih=>
       intro hv
       obtain ⟨a,rfl,e⟩:=h
       exact .cons ⟨a,rfl,by rw [Zj fun z=>hv _ (.head _) (by rw [z])];exact e⟩ (ih fun v hv'=>hv v (.tail _ hv'))
     exact this all hw'
    ·rcases List.mem_append.mp hv with z | z
     ·exact hwn v z
     ·exact ⟨pp,List.mem_singleton.mp z,sG1.free fpp⟩
    ·by_cases e:t=i+1
     ·subst e
      rw [rw1,List.getElem?_append_right (by lia),lr]
      simp
     ·rw [hrow t (by lia),List.getElem?_append_left (by lia)]
   refine ⟨_,rfl,1,rfl,r,_,-1,.ref a0,rfl,rfl,Zu.of er1,UB _ _,?_⟩
   refine ⟨_,rfl,_,rfl,_,rfl,l,_,_,_,rfl,rfl,Zu.of (sG1 _ _ hl),Zo hxt,a0,ta,q,ps,rfl,ea0,sG1 _ _ hta,by lia,ptr,ft.1,qb,kq,fun en G2 s2=>?_,fun r' pp G2 er' s2 fpp epp=>?_⟩
   ·exact ⟨_,rfl,rfl,_,rfl,JN (none' (by unfold nxt;rw [en]) G2 s2)⟩
   refine ⟨_,rfl,rfl,_,rfl,Y5 ?_⟩
   have er2:=s2 _ _ er1
   have sG2:=sG1.trans s2
   have fl:∀v∈cs.map V.int,WU v=true:=fun v hv=>by
    obtain ⟨z,_,rfl⟩:=List.mem_map.mp hv
    rfl
   refine ⟨_,rfl,_,rfl,p,_,rfl,.inl (Zu.of (sG2 _ _ ep)),rfl,List.all_eq_true.mpr fl,_,rfl,?_⟩
   rw [if_neg Bool.false_ne_true,ZaG]
   refine Z0 (fun cc=>?_) (fun cc=>?_)
   case refine_2=>
    have c0:chA cs i=false:=by simpa using cc
    have en:nxt ps q (Ui g ls i) (chA cs i)=some r':=by unfold nxt;rw [er',c0];rfl
    refine ⟨_,rfl,.inl ⟨rfl,_,Zu.of er2⟩,_,rfl,r,_,_,rfl,rfl,er2,(by rw [lw,sizeLine_eq];lia),?_⟩
    exact put G2 pp r' s2 en fpp epp _ _ _ _
   have c1:chA cs i=true:=by simpa using cc
   have en:nxt ps q (Ui g ls i) (chA cs i)=if q.1 = "cross" /\ Ui g ls i=true/\ZbC ps q.2.toNat=false then some ps else none:=by unfold nxt;rw [er',c1];rfl
   have hl2:=sG2 _ _ hl
   have hta2:=sG2 _ _ hta
   refine ⟨_,rfl,_,rfl,l,_,_,_,rfl,rfl,Zu.of hl2,Zo hxt,ta,_,_,_,rfl,rfl,YT.of hta2,Zo (j:=0) rfl,rfl,_,rfl,Z0 (fun c2=>?_) (fun c2=>?_)⟩
   ·refine JN (none' ?_ G2 s2)
    rw [en,if_neg]
    rintro ⟨e,_⟩
    rw [e] at c2
    exact absurd c2 (by decide)
   have ec:q.1 = "cross" := Decidable.byContradiction fun z=>c2 (by
    rw [decide_eq_false (fun e=>z (by injection e))]
    rfl)
   have kt:UJ ls UG i=true:=by rw [WK hq (pr:=UG),ec];decide
   have hgs:hgA g ls i=some (g (YV ls i).1-g (YV ls i).2):=by unfold hgA;rw [kt];rfl
   obtain ⟨hh,ehh⟩:∃hh,g (YV ls i).1-g (YV ls i).2=hh:=⟨_,rfl⟩
   rw [ehh] at hgs
   have zi:Ui g ls i=decide (hh=0):=by show decide (hgA g ls i=some 0)=_;simp [hgs]
   rw [hgs]
   refine ⟨_,rfl,rfl,_,rfl,Z0 (fun c3=>?_) (fun c3=>?_)⟩
   ·refine JN (none' ?_ G2 s2)
    rw [en,if_neg]
    rintro ⟨_,e,_⟩
    rw [zi] at e
    rw [of_decide_eq_true e] at c3
    exact absurd c3 (by decide)
   have h0:hh=0:=Decidable.byContradiction fun z=>c3 (by
    rw [decide_eq_false (fun e=>z (by injection e))]
    rfl)
   have k0':=ft.1
   obtain ⟨kn,ekn⟩:=Int.eq_ofNat_of_zero_le k0'
   have knl:kn+1<ps.length:=by
    have:=qb (by rw [ec];decide)
    lia
   have ne:ps.getD kn 0≠(kn:Int)+1:=fun z=>by
    unfold Ut at er'
    rw [ekn,Int.toNat_natCast,z,ec,if_neg (by decide),if_pos (by rw [decide_eq_true rfl];rfl)] at er'
    cases er'
   have tb:=Zgf ptr knl ne
   have ea2:=s2 _ _ ea0
   have hta3:G2 ta=some (.tup [.str q.1,.int (kn:Int)]):=by rw [<- ekn];exact hta2
   refine ⟨_,rfl,_,rfl,_,rfl,l,_,_,_,rfl,rfl,Zu.of hl2,Zo hxt,ta,_,_,_,rfl,rfl,YT.of hta3,Zo (j:=1) rfl,a0,kn,_,_,ps,rfl,ea2,by lia,tb,_,rfl,Z0 (fun c4=>?_) (fun c4=>?_)⟩
   ·refine none' ?_ G2 s2
    rw [en,if_neg]
    rintro ⟨_,_,e⟩
    rw [ekn,Int.toNat_natCast] at e
    unfold ZbC at e
    rw [e] at c4
    exact absurd c4 (by decide)
   have tq:ZbC ps q.2.toNat=false:=by
    rw [ekn,Int.toNat_natCast]
    unfold ZbC
    cases z:W5 kn (ps.getD kn 0).toNat (ps.getD (kn+1) 0).toNat with
    | false=>rfl
    | true=>rw [z] at c4;exact absurd rfl c4
   rw [if_pos ⟨ec,by rw [zi,h0];rfl,tq⟩] at en
   refine ⟨_,rfl,a0,_,rfl,.inl (Zu.of ea2),fun c fc=>?_⟩
   obtain ⟨G3,z,s3,e3⟩:=lay (o:=.lst (ps.map V.int)) fc
   rw [z];clear z
   have er3:=s3 _ _ er2
   refine ⟨_,rfl,.inl ⟨rfl,_,Zu.of er3⟩,_,rfl,r,_,_,rfl,rfl,er3,(by rw [lw,sizeLine_eq];lia),?_⟩
   exact put G3 c ps (s2.trans s3) en (s2.free fc) e3 _ _ _ _
  ·rintro σ G ⟨ws,rows,v4,v5,v6,v7,rfl,sG,ehG,er,hws,hwr,hwn,lr,hrow⟩
   rw [lh] at lr hrow
   exact ⟨_,rfl,k1 r ws rows G sG fr0 er hws hwn lr hrow⟩
def Zhq:Sp:=fun vs H Q _=>∃(l p:Addr) (sc:Int) (ls:List (Str×Int)) (g:Int->Int) (cs:List Int) (rows:List (List Int)),vs = [.ref l,.int sc,.ref p]/\(sc=0∨sc=1)/\Drw H l ls/\HG sc ls g/\H p=some (.lst (cs.map V.int))/\cs.length<=100 /\
 rows.length=ls.length+1/\(∀t,t<=ls.length->Wa ls (Ui g ls) (chA cs) t=rows[t]?) /\
 ∀(d:Addr) (H':Hp),Zi H H'->H d=none->H' d=some (.lst (((crI ls).filter (Zb0 ls (Ui g ls) rows)).map V.int))->Q (.ref d) H'
abbrev UR:Stmt:=top 65
theorem JP:Zz ["_law_drawing_here", "_law_scale", "_law_changed", "_law_found", "_law_rows_here", "_law_t", "_law_height"] ["_law_drawing_here", "_law_scale", "_law_changed"] (Zh UR):={}
theorem Zmm {f:Addr}{fd:FuncData} (F:Yp K "_law_loose" "_law_loose" UR f fd) (ZN:Yk P w K mg base 5 "_law_letter_heights" ["_law_drawing_here", "_law_scale"] ZdN) (J3:Yk P w K mg base 6 "_law_walk" ["_law_drawing_here", "_law_scale", "_law_changed"] Zfr) (Yf:Yk P w K mg base 1 "_law_is_apart" ["_law_partners", "_law_k"] Zca) (ZA:mg "enumerate" = none):
  Yc P w K mg base J9 7 f fd ["_law_drawing_here", "_law_scale", "_law_changed"] Zhq:=by
 refine F.ok JP (fun vs H Q E h=>?_) (fun cdv A outer s H vs Q E hr h=>?_)
 ·obtain ⟨l,p,sc,ls,g,cs,rows,rfl,_⟩:=h
  rfl
 ·obtain ⟨l,p,sc,ls,g,cs,rows,rfl,hsc,dr,hg,ep,nc,lr,hrow,k1⟩:=h
  refine ⟨_,(Zc (Zp (i:=3) JP.nd rfl (Or.inl rfl) (ZD Zb))
   (Zc (Zp (i:=4) JP.nd rfl (Or.inl rfl) (Zr J3 hr (Za (pv 0) (Za (pv 1) (Za (pv 2) Zb)))))
   (Zc (Yq PassesOwn.never rfl (JT (K:=K) rfl (by rfl) ZA (Za (Zr ZN hr (Za (pv 0) (Za (pv 1) Zb))) Zb)) (Z6 (K:=K) (n:=2) rfl rfl (Zq (Zl (i:=5) JP.nd rfl (Or.inl rfl)) (Zq (Zl (i:=6) JP.nd rfl (Or.inl rfl)) ZU))) (Zg (ZR (PW.pt (WE (Zt Yi (Zy (Yh (K:=K) rfl) (Zy (Zn (K:=K) rfl) (pv 0) (pv 5) (fun _ _=>rfl)) Ze (fun _ _=>rfl)) ZJ (Zs _)) (WE (Zt Yi (pv 6) Ze (Zs _)) (Gi (WB (JX (Zr Yf hr (Za (Zy (Zn (K:=K) rfl) (pv 4) (pv 5) (fun _ _=>rfl)) (Za (Zy (Yh (K:=K) rfl) (Zy (Zn (K:=K) rfl) (pv 0) (pv 5) (fun _ _=>rfl)) Ze (fun _ _=>rfl)) Zb))))))))) (Zg (ZZ (Yb (K:=K) rfl (Yx PySem.F.plainAttrs_list PySem.F.slot_list_append PySem.F.type_list_append ZO (pv 3) (Za (pv 5) Zb))))) ZG)))
   (Zg (Zv (pv 3)))))),?_⟩
  obtain ⟨xs,hl,hL,hW,hlen⟩:=id dr
  refine ⟨(by show 0<=sizeLine;exact Nat.zero_le _),fun d fd0=>?_⟩
  obtain ⟨H4,z,t4,g4⟩:=lay (o:=.lst []) fd0
  rw [z];clear z
  refine ⟨_,rfl,_,rfl,_,rfl,l,p,sc,ls,g,cs,rfl,hsc,⟨xs,t4 _ _ hl,hL.same t4,hW,hlen⟩,hg,t4 _ _ ep,nc,fun z=>?_,fun r ws rows' H5 s5 fr er hw hwn lr' hrow'=>?_⟩
  ·rw [hrow _ (Nat.le_refl _),List.getElem?_eq_getElem (by lia)] at z
   cases z
  obtain rfl:rows'=rows:=List.ext_getElem? fun t=>by
   by_cases c:t<=ls.length
   ·exact (hrow' t c).symm.trans (hrow t c)
   ·rw [List.getElem?_eq_none (by lia),List.getElem?_eq_none (by lia)]
  have s05:=t4.trans s5
  refine ⟨_,rfl,_,rfl,l,sc,ls,g,rfl,hsc,⟨xs,s05 _ _ hl,hL.same s05,hW,hlen⟩,hg,fun hp H6 s6 fhp ehp=>?_⟩
  have s06:=s05.trans s6
  have lh:(lhL g ls ls.length).length=ls.length:=by simp [lhL]
  have hxl:=hL.len
  have dhp:d≠hp:=Zf (s5 _ _ g4) fhp
  have dr':d≠r:=Zf g4 fr
  have lw:ws.length=ls.length+1:=(Zl2 hw).trans lr
  refine ⟨hp,rfl,⟨_,Zu.of ehp⟩,GV (K:=K) (a:=hp) (xs:=lhL g ls ls.length) (fun i σ G=>∃(v5 v6:Option V),σ = [some (.ref l),some (.int sc),some (.ref p),some (.ref d),some (.ref r),v5,v6]/\Zi H G/\(∀c o,c≠d->H6 c=some o->G c=some o)/\G d=some (.lst (((Z9 ls (fun x=>decide (x = "cross")) i).filter (Zb0 ls (Ui g ls) rows')).map V.int)))
   ⟨none,none,rfl,s06,fun c o _ e=>e,(s5.trans s6) _ _ g4⟩ (fun i σ G _ ⟨_,_,_,_,e,_⟩=>Zu.of (e hp _ (Ne.symm dhp) ehp)) ?_ ?_⟩
  ·rintro i x pe σ G hx ⟨v5,v6,rfl,sG,kG,ed⟩ fpe
   have hi:i<ls.length:=by
    have:=(List.getElem?_eq_some_iff.mp hx).1
    lia
   obtain ⟨q,hq⟩:∃q,ls[i]? = some q:=⟨_,List.getElem?_eq_getElem hi⟩
   obtain rfl:x=oI (hgA g ls i):=by
    unfold lhL at hx
    rw [List.getElem?_map,List.getElem?_range hi] at hx
    exact (Option.some.inj hx).symm
   refine ⟨pe,_,rfl,YT.of Zd,rfl,_,_,rfl,_,_,rfl,rfl,?_⟩
   obtain ⟨G1,z,sg1,eg1⟩:=lay (o:=.tup [.int (i:Int),oI (hgA g ls i)]) fpe
   rw [z];clear z
   have sG1:=sG.trans sg1
   have ed1:=sg1 _ _ ed
   have kG1:∀c o,c≠d->H6 c=some o->G1 c=some o:=fun c o hc e=>sg1 _ _ (kG c o hc e)
   obtain ⟨xv,hxt⟩:∃xv,xs[i]? = some xv:=⟨_,List.getElem?_eq_getElem (by lia)⟩
   obtain ⟨q',ta,hq',rfl,hta⟩:=hL.get hxt
   obtain rfl:q=q':=Option.some.inj (hq.symm.trans hq')
   have hl1:=sG1 _ _ hl
   have hta1:=sG1 _ _ hta
   have lsu:=JB ls (fun x=>decide (x = "cross")) i
   rw [WK hq] at lsu
   have no:(¬(q.1 = "cross" /\ Zb0 ls (Ui g ls) rows' (i:Int)=true)) -> ∀v5 v6:Option V,∃(w5 w6:Option V),[some (.ref l),some (.int sc),some (.ref p),some (.ref d),some (.ref r),v5,v6] = [some (.ref l),some (.int sc),some (.ref p),some (.ref d),some (.ref r),w5,w6]/\Zi H G1/\(∀c o,c≠d->H6 c=some o->G1 c=some o)/\G1 d=some (.lst (((Z9 ls (fun x=>decide (x = "cross")) (i+1)).filter (Zb0 ls (Ui g ls) rows')).map V.int)):=fun h v5 v6=>by
    refine ⟨_,_,rfl,sG1,kG1,?_⟩
    rw [ed1,lsu]
    by_cases c:q.1 = "cross"
    ·rw [if_pos (decide_eq_true c),List.filter_append,List.filter_cons_of_neg (fun z=>h ⟨c,z⟩),List.filter_nil,List.append_nil]
    ·rw [if_neg (fun z=>c (of_decide_eq_true z)),List.append_nil]
   refine ⟨_,rfl,_,rfl,l,_,_,_,rfl,rfl,Zu.of hl1,Zo hxt,ta,_,_,_,rfl,rfl,YT.of hta1,Zo (j:=0) rfl,rfl,_,rfl,Z0 (fun c2=>?_) (fun c2=>?_)⟩
   case refine_2=>
    refine Y5 (no ?_ _ _)
    rintro ⟨e,_⟩
    rw [e] at c2
    exact absurd (by decide) c2
   have ec:q.1 = "cross" := by
    have:=of_decide_eq_true c2
    injection this
   obtain ⟨h0,eh0⟩:=Zem (g:=g) hq ec
   obtain ⟨ps,hps⟩:∃ps,rows'[i]? = some ps:=⟨_,List.getElem?_eq_getElem (by lia)⟩
   have hrw:=(hrow i (by lia)).trans hps
   have hnx:Wa ls (Ui g ls) (chA cs) (i+1)≠none:=by
    rw [hrow (i+1) (by lia),List.getElem?_eq_getElem (by lia)]
    exact fun z=>nomatch z
   obtain ⟨tw,l200,q0⟩:=ZjG hW hlen hrw hnx hq ec
   have ef:Zb0 ls (Ui g ls) rows' (i:Int)=(decide (h0=0)&&W5 q.2.toNat (ps.getD q.2.toNat 0).toNat (ps.getD (q.2.toNat+1) 0).toNat):=by
    show (decide (hgA g ls (i:Int).toNat=some 0)&&ZbC (rows'.getD (i:Int).toNat []) (((ls[(i:Int).toNat]?).map (·.2.toNat)).getD 0))=_
    rw [Int.toNat_natCast,eh0,List.getD_eq_getElem?_getD,hps,hq]
    show (decide (some h0=some 0)&&ZbC ps q.2.toNat)=_
    congr 1
    exact decide_eq_decide.mpr ⟨fun z=>Option.some.inj z,fun z=>congrArg some z⟩
   rw [eh0]
   refine ⟨_,rfl,rfl,_,rfl,Z0 (fun c3=>?_) (fun c3=>?_)⟩
   case refine_2=>
    refine Y5 (no ?_ _ _)
    rintro ⟨_,e⟩
    rw [ef,Bool.and_eq_true] at e
    rw [of_decide_eq_true e.1] at c3
    exact absurd (by decide) c3
   have hz:h0=0:=by
    have:=of_decide_eq_true c3
    injection this
   obtain ⟨kn,ekn⟩:=Int.eq_ofNat_of_zero_le q0
   rw [ekn,Int.toNat_natCast] at tw ef
   have hta3:G1 ta=some (.tup [.str q.1,.int (kn:Int)]):=by rw [<- ekn];exact hta1
   obtain ⟨x0,hx0⟩:∃x0,ws[i]? = some x0:=⟨_,List.getElem?_eq_getElem (by lia)⟩
   obtain ⟨ps',hps',a0,rfl,ea0⟩:=Zmf hw hx0
   obtain rfl:ps=ps':=Option.some.inj (hps.symm.trans hps')
   have nad:a0≠d:=fun z=>by
    obtain ⟨a,e,ha⟩:=hwn _ (List.mem_of_getElem? hx0)
    cases e
    rw [z,g4] at ha
    cases ha
   have ea1:=kG1 _ _ nad (s6 _ _ ea0)
   have er1:=kG1 _ _ (Ne.symm dr') (s6 _ _ er)
   refine ⟨_,rfl,_,rfl,r,_,_,_,rfl,rfl,Zu.of er1,Zo hx0,_,rfl,_,rfl,l,_,_,_,rfl,rfl,Zu.of hl1,Zo hxt,ta,_,_,_,rfl,rfl,YT.of hta3,Zo (j:=1) rfl,a0,kn,_,_,ps,rfl,ea1,by lia,tw,_,rfl,Z0 (fun c4=>?_) (fun c4=>?_)⟩
   ·have ce:Zb0 ls (Ui g ls) rows' (i:Int)=true:=by
     rw [ef,hz]
     cases z:W5 kn (ps.getD kn 0).toNat (ps.getD (kn+1) 0).toNat with
     | true=>rfl
     | false=>rw [z] at c4;exact absurd c4 (by decide)
    have small:((Z9 ls (fun x=>decide (x = "cross")) i).filter (Zb0 ls (Ui g ls) rows')).length<=60:=Nat.le_trans (List.length_filter_le _ _) (Nat.le_trans (Jf ls _ _) (by lia))
    refine ⟨_,rfl,.inl ⟨rfl,_,Zu.of ed1⟩,_,rfl,d,_,_,rfl,rfl,ed1,(by rw [List.length_map,sizeLine_eq];lia),?_⟩
    refine ⟨_,_,rfl,fun c o e=>by rw [Zj (Zf e fd0)];exact sG1 c o e,fun c o hc e=>by rw [Zj hc];exact kG1 c o hc e,?_⟩
    rw [Zd,lsu,if_pos (decide_eq_true ec),List.filter_append,List.filter_cons_of_pos ce,List.map_append]
    rfl
   ·refine no ?_ _ _
    rintro ⟨_,e⟩
    rw [ef,Bool.and_eq_true] at e
    rw [e.2] at c4
    exact c4 rfl
  ·rintro σ G ⟨v5,v6,rfl,sG,kG,ed⟩
   rw [lh] at ed
   exact ⟨_,rfl,k1 d G sG fd0 ed⟩
def GrB (ls:List (Str×Int)) (i:Nat) (cs:List Int):Prop:=(∀c∈cs,c∈Z9 ls (fun x=>decide (x = "cross")) i)/\cs.Pairwise (· < ·)
theorem ZfB {ls:List (Str×Int)}{pr:Str->Bool}{n:Nat}{c:Int} (h:c∈Z9 ls pr n):c<n:=by
 unfold Z9 at h
 obtain ⟨i,hi,e⟩:=List.mem_filterMap.mp h
 have:=List.mem_range.mp hi
 split at e
 ·cases e;lia
 ·cases e
theorem GrB.mono {ls:List (Str×Int)}{i:Nat}{cs:List Int} (h:GrB ls i cs):GrB ls (i+1) cs:=⟨fun c hc=>by rw [JB];exact List.mem_append_left _ (h.1 c hc),h.2⟩
theorem GrB.snoc {ls:List (Str×Int)}{i:Nat}{cs:List Int} (h:GrB ls i cs) (k:UJ ls (fun x=>decide (x = "cross")) i=true):GrB ls (i+1) (cs ++ [(i:Int)]):=by
 refine ⟨fun c hc=>?_,List.pairwise_append.mpr ⟨h.2,List.pairwise_singleton _ _,fun x hx y hy=>?_⟩⟩
 ·rw [JB,if_pos k]
  rcases List.mem_append.mp hc with z | z
  ·exact List.mem_append_left _ (h.1 c z)
  ·exact List.mem_append_right _ z
 ·rw [List.mem_singleton.mp hy]
  exact ZfB (h.1 x hx)
theorem GrB.rise {ls:List (Str×Int)}{cs:List Int} (h:GrB ls ls.length cs):Wj (crI ls) cs=true:=by
 unfold Wj
 rw [Bool.and_eq_true,List.all_eq_true,List.all_eq_true]
 constructor
 ·intro b hb
  obtain ⟨c,hc,rfl⟩:=List.mem_map.mp hb
  exact decide_eq_true (h.1 c hc)
 ·intro b hb
  obtain ⟨⟨x,y⟩,hc,rfl⟩:=List.mem_map.mp hb
  obtain ⟨i,hi⟩:=List.mem_iff_getElem?.mp hc
  rw [List.getElem?_zip_eq_some,List.getElem?_drop] at hi
  obtain ⟨h1,e1⟩:=List.getElem?_eq_some_iff.mp hi.1
  obtain ⟨h2,e2⟩:=List.getElem?_eq_some_iff.mp hi.2
  refine decide_eq_true ?_
  dsimp only at e1 e2 ⊢
  rw [<- e1,<- e2]
  exact List.pairwise_iff_getElem.mp h.2 _ _ h1 h2 (by lia)
def Zf8:Sp:=fun vs H Q _=>∃(l b:Addr) (sc:Int) (ls:List (Str×Int)) (g:Int->Int),vs = [.ref l,.int sc,.ref b]/\(sc=0∨sc=1)/\Drw H l ls/\HG sc ls g/\Bag H b/\l≠b /\
 ∀(d:Addr) (cs:List Int) (H':Hp),Jn b H H'->Bag H' b->H d=none->H' d=some (.lst (cs.map V.int))->cs.length<=60->Wj (crI ls) cs=true->Q (.ref d) H'
abbrev UI:Stmt:=top 67
theorem YC:Zz ["_law_drawing_here", "_law_scale", "_law_bag_here", "_law_here", "_law_found", "_law_t", "_law_height", "_law_there"] ["_law_drawing_here", "_law_scale", "_law_bag_here"] (Zh UI):={}
theorem Zj0 {f:Addr}{fd:FuncData} (F:Yp K "_law_grown" "_law_grown" UI f fd) (ZN:Yk P w K mg base 5 "_law_letter_heights" ["_law_drawing_here", "_law_scale"] ZdN) (YM:Yk P w K mg base 1 "_law_moved_on" ["_law_partners", "_law_letter"] Zdw) (Yf:Yk P w K mg base 1 "_law_is_apart" ["_law_partners", "_law_k"] Zca) (Zw:Yk P w K mg base 1 "_law_take" ["_law_bag_here", "_law_many"] Zaz) (ZA:mg "enumerate" = none):
  Yc P w K mg base J9 6 f fd ["_law_drawing_here", "_law_scale", "_law_bag_here"] Zf8:=by
 refine F.ok YC (fun vs H Q E h=>?_) (fun cdv A outer s H vs Q E hr h=>?_)
 ·obtain ⟨l,b,sc,ls,g,rfl,_⟩:=h
  rfl
 ·obtain ⟨l,b,sc,ls,g,rfl,hsc,dr,hg,bg,lb,k1⟩:=h
  refine ⟨_,(Zc (Zp (i:=3) YC.nd rfl (Or.inl rfl) (ZD Zb))
   (Zc (Zp (i:=4) YC.nd rfl (Or.inl rfl) (ZD Zb))
   (Zc (Yq PassesOwn.never rfl (JT (K:=K) rfl (by rfl) ZA (Za (Zr ZN hr (Za (pv 0) (Za (pv 1) Zb))) Zb)) (Z6 (K:=K) (n:=2) rfl rfl (Zq (Zl (i:=5) YC.nd rfl (Or.inl rfl)) (Zq (Zl (i:=6) YC.nd rfl (Or.inl rfl)) ZU))) (Zg (ZR (Zt ZfE (pv 3) JZ (Zs _)) (Zc (Zp (i:=7) YC.nd rfl (Or.inl rfl) (Zr YM hr (Za (pv 3) (Za (Zy (Zn (K:=K) rfl) (pv 0) (pv 5) (fun _ _=>rfl)) Zb))))
   (Zc (ZR (PW.pt (WE (Zt ZfE (pv 7) JZ (Zs _)) (WE (Zt Yi (Zy (Yh (K:=K) rfl) (Zy (Zn (K:=K) rfl) (pv 0) (pv 5) (fun _ _=>rfl)) Ze (fun _ _=>rfl)) ZJ (Zs _)) (Gi (Zt Yi (pv 6) Ze (Zs _)))))) (Zg (ZR (PW.pt (WE (JX (Zr Yf hr (Za (pv 3) (Za (Zy (Yh (K:=K) rfl) (Zy (Zn (K:=K) rfl) (pv 0) (pv 5) (fun _ _=>rfl)) Ze (fun _ _=>rfl)) Zb)))) (Gi (Zt Yi (Zr Zw hr (Za (pv 2) (Za Ze Zb))) Ze (Zs _))))) (Zc (Zp (i:=7) YC.nd rfl (Or.inl rfl) (pv 3))
   (Zg (ZZ (Yb (K:=K) rfl (Yx PySem.F.plainAttrs_list PySem.F.slot_list_append PySem.F.type_list_append ZO (pv 4) (Za (pv 5) Zb)))))) ZG)) ZG)
   (Zg (Zp (i:=3) YC.nd rfl (Or.inl rfl) (pv 7))))) ZG)))
   (Zg (Zv (pv 4)))))),?_⟩
  obtain ⟨xs,hl,hL,hW,hlen⟩:=id dr
  obtain ⟨b1,b2,b3,eb⟩:=id bg
  refine ⟨(by show 0<=sizeLine;exact Nat.zero_le _),fun e0 fe0=>?_⟩
  obtain ⟨H4,z,t4,g4⟩:=lay (o:=.lst []) fe0
  rw [z];clear z
  refine ⟨(by show 0<=sizeLine;exact Nat.zero_le _),fun d fd4=>?_⟩
  obtain ⟨H5,z,t5,g5⟩:=lay (o:=.lst []) fd4
  rw [z];clear z
  have s05:=t4.trans t5
  have fd0:H d=none:=t4.free fd4
  refine ⟨_,rfl,_,rfl,l,sc,ls,g,rfl,hsc,⟨xs,s05 _ _ hl,hL.same s05,hW,hlen⟩,hg,fun hp H6 s6 fhp ehp=>?_⟩
  have s06:=s05.trans s6
  have lh:(lhL g ls ls.length).length=ls.length:=by simp [lhL]
  have hxl:=hL.len
  have db:d≠b:=Ne.symm (Zf eb fd0)
  have e0b:e0≠b:=Ne.symm (Zf eb fe0)
  have e0d:e0≠d:=Zf g4 fd4
  have hpb:hp≠b:=Ne.symm (Zf (s05 _ _ eb) fhp)
  have hpd:hp≠d:=Ne.symm (Zf g5 fhp)
  refine ⟨hp,rfl,⟨_,Zu.of ehp⟩,GV (K:=K) (a:=hp) (xs:=lhL g ls ls.length) (fun i σ G=>∃(vh:V) (cs:List Int) (v5 v6 v7:Option V),σ = [some (.ref l),some (.int sc),some (.ref b),some vh,some (.ref d),v5,v6,v7]/\Jn b H G/\Bag G b/\G hp=some (.lst (lhL g ls ls.length))/\G d=some (.lst (cs.map V.int))/\cs.length<=i/\GrB ls i cs /\
    (vh = .non ∨ ∃(a:Addr) (ps:List Int) (n:Int),vh = .ref a/\a≠b/\a≠d/\G a=some (.lst (ps.map V.int))/\PtL ps/\Wk (ls.take i) n/\(ps.length:Int)=n))
   ⟨.ref e0,[],none,none,none,rfl,s06.frm,⟨b1,b2,b3,s06 _ _ eb⟩,ehp,s6 _ _ g5,Nat.le_refl _,⟨fun c hc=>(nomatch hc),.nil⟩,.inr ⟨e0,[],0,rfl,e0b,e0d,(t5.trans s6) _ _ g4,fun i x h=>by simp at h,.nil,rfl⟩⟩ (fun i σ G _ ⟨_,_,_,_,_,_,_,_,e,_⟩=>Zu.of e) ?_ ?_⟩
  ·rintro i x pe σ G hx ⟨vh,cs,v5,v6,v7,rfl,fG,bG,ehG,ed,lc,gr,hv⟩ fpe
   have hi:i<ls.length:=by
    have:=(List.getElem?_eq_some_iff.mp hx).1
    lia
   obtain ⟨q,hq⟩:∃q,ls[i]? = some q:=⟨_,List.getElem?_eq_getElem hi⟩
   obtain rfl:x=oI (hgA g ls i):=by
    unfold lhL at hx
    rw [List.getElem?_map,List.getElem?_range hi] at hx
    exact (Option.some.inj hx).symm
   refine ⟨pe,_,rfl,YT.of Zd,rfl,_,_,rfl,_,_,rfl,rfl,?_⟩
   obtain ⟨G1,z,sg1,eg1⟩:=lay (o:=.tup [.int (i:Int),oI (hgA g ls i)]) fpe
   rw [z];clear z
   have bag_of:∀{G':Hp},Zi G G'->Bag G' b:=fun s=>let ⟨x,y,h,e⟩:=bG;⟨x,y,h,s _ _ e⟩
   have on:∀(G':Hp) (vh:V) (cs':List Int) (v5 v6 v7:Option V),Jn b H G'->G' hp=some (.lst (lhL g ls ls.length))->Bag G' b->G' d=some (.lst (cs'.map V.int))->cs'.length<=i+1->GrB ls (i+1) cs'->(vh = .non ∨ ∃(a:Addr) (ps:List Int) (n:Int),vh = .ref a/\a≠b/\a≠d/\G' a=some (.lst (ps.map V.int))/\PtL ps/\Wk (ls.take (i+1)) n/\(ps.length:Int)=n) ->
     ∃(vh':V) (cs:List Int) (w5 w6 w7:Option V),[some (.ref l),some (.int sc),some (.ref b),some vh,some (.ref d),v5,v6,v7] = [some (.ref l),some (.int sc),some (.ref b),some vh',some (.ref d),w5,w6,w7]/\Jn b H G'/\Bag G' b/\G' hp=some (.lst (lhL g ls ls.length))/\G' d=some (.lst (cs.map V.int))/\cs.length<=i+1/\GrB ls (i+1) cs /\
      (vh' = .non ∨ ∃(a:Addr) (ps:List Int) (n:Int),vh' = .ref a/\a≠b/\a≠d/\G' a=some (.lst (ps.map V.int))/\PtL ps/\Wk (ls.take (i+1)) n/\(ps.length:Int)=n):=fun G' vh cs' v5 v6 v7 f' eh' bg' ed' l' gr' hv'=>
    ⟨vh,cs',v5,v6,v7,rfl,f',bg',eh',ed',l',gr',hv'⟩
   have f1:=fG.trans (sg1.frm (b:=b))
   have eh1:=sg1 _ _ ehG
   rcases hv with rfl | ⟨a,ps,n,rfl,ab,ad,ea,ptr,wn,lps⟩
   ·refine ⟨_,rfl,rfl,_,rfl,Y5 ?_⟩
    exact on G1 .non cs _ _ _ f1 eh1 (bag_of sg1) (sg1 _ _ ed) (by lia) gr.mono (.inl rfl)
   refine ⟨_,rfl,rfl,_,rfl,JN ?_⟩
   obtain ⟨m,wm,ft⟩:=Zd4 hW wn hq
   have kq:=kinds ft
   have n2:=U9 wn
   have tl:(ls.take i).length=i:=by rw [List.length_take];lia
   obtain ⟨xv,hxt⟩:∃xv,xs[i]? = some xv:=⟨_,List.getElem?_eq_getElem (by lia)⟩
   obtain ⟨q',ta,hq',rfl,hta⟩:=hL.get hxt
   obtain rfl:q=q':=Option.some.inj (hq.symm.trans hq')
   have tab:ta≠b:=fun z=>by rw [z,eb] at hta;cases hta
   have qb:q.1 ≠ "born" -> q.2+1<ps.length:=fun nb=>by
    rcases ft.2 with ⟨e,_⟩ | ⟨_,e,_⟩ | ⟨_,e,_⟩
    ·exact absurd e nb
    ·lia
    ·lia
   have hl1:=sg1 _ _ (fG _ _ hl lb)
   have hta1:=sg1 _ _ (fG _ _ hta tab)
   have ea1:=sg1 _ _ ea
   have ed1:=sg1 _ _ ed
   refine ⟨_,rfl,_,rfl,_,rfl,l,_,_,_,rfl,rfl,Zu.of hl1,Zo hxt,a,ta,q,ps,rfl,ea1,hta1,by lia,ptr,ft.1,qb,kq,fun en G2 s2=>?_,fun r' pp G2 er' s2 fpp epp=>?_⟩
   ·refine ⟨_,rfl,rfl,_,rfl,Y5 (Y5 ?_)⟩
    exact ⟨_,rfl,on G2 .non cs _ _ _ (f1.trans s2.frm) (s2 _ _ eh1) (bag_of (sg1.trans s2)) (s2 _ _ ed1) (by lia) gr.mono (.inl rfl)⟩
   obtain ⟨ptr',lr'⟩:=Zkk ptr lps ft er'
   have ed2:=s2 _ _ ed1
   have ppb:pp≠b:=fun z=>by
    obtain ⟨_,_,_,e⟩:=bag_of sg1
    rw [z,e] at fpp
    cases fpp
   have ppd:pp≠d:=Ne.symm (Zf ed1 fpp)
   have keepG:∀(G':Hp) (v5 v6 v7:Option V),Jn b G2 G'->Bag G' b->_:=fun G' v5 v6 v7 f' bg'=>on G' (.ref pp) cs v5 v6 v7 ((f1.trans s2.frm).trans f') (f' _ _ (s2 _ _ eh1) hpb) bg' (f' _ _ ed2 db) (by lia) gr.mono (.inr ⟨pp,r',m,rfl,ppb,ppd,f' _ _ epp ppb,ptr',wm,lr'⟩)
   have bg2:=bag_of (sg1.trans s2)
   have hl2:=s2 _ _ hl1
   have hta2:=s2 _ _ hta1
   refine ⟨_,rfl,rfl,_,rfl,JN ⟨_,rfl,_,rfl,l,_,_,_,rfl,rfl,Zu.of hl2,Zo hxt,ta,_,_,_,rfl,rfl,YT.of hta2,Zo (j:=0) rfl,rfl,_,rfl,Z0 (fun c2=>?_) (fun c2=>?_)⟩⟩
   case refine_2=>exact Y5 ⟨_,rfl,keepG G2 _ _ _ (Jn.refl _ _) bg2⟩
   have ec:q.1 = "cross" := by
    have:=of_decide_eq_true c2
    injection this
   obtain ⟨h0,eh0⟩:=Zem (g:=g) hq ec
   rw [eh0]
   refine ⟨_,rfl,rfl,_,rfl,Z0 (fun c3=>?_) (fun c3=>?_)⟩
   case refine_2=>exact ⟨_,rfl,keepG G2 _ _ _ (Jn.refl _ _) bg2⟩
   obtain ⟨kn,ekn⟩:=Int.eq_ofNat_of_zero_le ft.1
   have knl:kn+1<ps.length:=by
    have:=qb (by rw [ec];decide)
    lia
   have ne:ps.getD kn 0≠(kn:Int)+1:=fun z=>by
    unfold Ut at er'
    rw [ekn,Int.toNat_natCast,z,ec,if_neg (by decide),if_pos (by rw [decide_eq_true rfl];rfl)] at er'
    cases er'
   have tb:=Zgf ptr knl ne
   have ea2:=s2 _ _ ea1
   have hta3:G2 ta=some (.tup [.str q.1,.int (kn:Int)]):=by rw [<- ekn];exact hta2
   refine ⟨_,rfl,_,rfl,_,rfl,l,_,_,_,rfl,rfl,Zu.of hl2,Zo hxt,ta,_,_,_,rfl,rfl,YT.of hta3,Zo (j:=1) rfl,a,kn,_,_,ps,rfl,ea2,by lia,tb,_,rfl,Z0 (fun c4=>?_) (fun c4=>?_)⟩
   case refine_2=>exact Y5 ⟨_,rfl,keepG G2 _ _ _ (Jn.refl _ _) bg2⟩
   refine ⟨_,rfl,b,2,rfl,bg2,by decide,by decide,fun dd G3 d0 d1 bg3 f3=>⟨rfl,_,rfl,Z0 (fun c5=>?_) (fun c5=>?_)⟩⟩
   case refine_2=>exact ⟨_,rfl,keepG G3 _ _ _ f3 bg3⟩
   have ed3:=f3 _ _ ed2 db
   have kx:UJ ls (fun x=>decide (x = "cross")) i=true:=by rw [WK hq];exact decide_eq_true ec
   refine ⟨_,rfl,_,rfl,.inl ⟨rfl,_,Zu.of ed3⟩,_,rfl,d,_,_,rfl,rfl,ed3,(by rw [List.length_map,sizeLine_eq];lia),?_⟩
   have f03:=(f1.trans (s2.frm (b:=b))).trans f3
   have wk':Wk (ls.take (i+1)) n:=by
    have:m=n:=by
     rcases ft.2 with ⟨e,_⟩ | ⟨_,_,e⟩ | ⟨e,_⟩
     ·exact absurd (e.symm.trans ec) (by decide)
     ·exact e
     ·exact absurd (e.symm.trans ec) (by decide)
    rw [<- this]
    exact wm
   refine ⟨_,rfl,on _ (.ref a) (cs ++ [(i:Int)]) _ _ _ (fun c o e n=>by rw [Zj (Zf e fd0)];exact f03 c o e n) (by rw [Zj hpd];exact f3 _ _ (s2 _ _ eh1) hpb) ?_ (by rw [Zd,List.map_append];rfl) (by rw [List.length_append];simpa using lc) (gr.snoc kx) (.inr ⟨a,ps,n,rfl,ab,ad,by rw [Zj ad];exact f3 _ _ ea2 ab,ptr,wk',lps⟩)⟩
   obtain ⟨x1,x2,x3,x4⟩:=bg3
   exact ⟨x1,x2,x3,by rw [Zj (Ne.symm db)];exact x4⟩
  ·rintro σ G ⟨vh,cs,v5,v6,v7,rfl,fG,bG,ehG,ed,lc,gr,_⟩
   rw [lh] at lc gr
   exact ⟨_,rfl,k1 d cs G fG bG fd0 ed (by lia) gr.rise⟩
theorem Zd7 {l b:Addr}{xs zs:List V}{H:Hp}{Q:VK} (hl:H l=some (.lst xs)) (hb:H b=some (.lst zs)) (hz:xs.length+zs.length<=sizeLine) (h:∀p H',H p=none->Zi H H'->H' p=some (.lst (xs++zs))->Q (.ref p) H'):Zos (.ref l) (.ref b) H Q:=
 ⟨l,b,xs,zs,rfl,rfl,hl,hb,hz,fun p hp=>h p _ hp (Zi.laid hp) Zd⟩
def Zhl (C:Addr):Sp:=fun vs H Q _=>∃(a:Addr),vs = [.ref a,.int 4]/\H a=some (.ext (isX a C)) /\ ∀H',Zi H H'->Q (.bl true) H'
abbrev GU:Stmt:=top 66
theorem Zab:Zz ["_law_e", "_law_due", "_law_kinds"] ["_law_e", "_law_due"] (Zh GU):={}
theorem Zlm {f ZW Wz Wq Jq Zk JM JR Jh WL JQ:Addr}{fd:FuncData} (F:Yp K "_law_only" "_law_only" GU f fd) (J7:mg "NoHeights" = some (.ref ZW)) (Zcn:mg "TooMany" = some (.ref Wz)) (ZcN:mg "NoTable" = some (.ref Wq)) (Zau:mg "NoSetting" = some (.ref Jq)) (J0:mg "NoBanding" = some (.ref Zk)) (Zek:mg "NoMove" = some (.ref JM)) (Zeu:mg "NoName" = some (.ref JR)) (Zcu:mg "NoPaper" = some (.ref Jh)) (Zfs:mg "NoRow" = some (.ref WL)) (ZdX:mg "NoText" = some (.ref JQ)) (xc:Zl5 K Zk) (q0:PySem.W.kitOne K (.ref Zk) (.ref ZW)=some false) (q1:PySem.W.kitOne K (.ref Zk) (.ref Wz)=some false) (q2:PySem.W.kitOne K (.ref Zk) (.ref Wq)=some false) (q3:PySem.W.kitOne K (.ref Zk) (.ref Jq)=some false) (q4:PySem.W.kitOne K (.ref Zk) (.ref Zk)=some true) (q5:PySem.W.kitOne K (.ref Zk) (.ref JM)=some false) (q6:PySem.W.kitOne K (.ref Zk) (.ref JR)=some false) (q7:PySem.W.kitOne K (.ref Zk) (.ref Jh)=some false) (q8:PySem.W.kitOne K (.ref Zk) (.ref WL)=some false) (q9:PySem.W.kitOne K (.ref Zk) (.ref JQ)=some false) (qv:PySem.W.kitOne K (.ref Zk) (.type "ValueError")=some true) (ZF:mg "isinstance" = none) (UK:mg "ValueError" = none) (ZT:mg "range" = none):
  Zh7 P w K mg base 1 f fd ["_law_e", "_law_due"] (Zhl Zk):=by
 refine F.okQ Zab (fun vs H Q E h=>?_) (fun cdv A outer s H vs Q hr hq h=>?_)
 ·obtain ⟨a,rfl,_⟩:=h
  rfl
 ·obtain ⟨a,rfl,ha,k⟩:=h
  have qa:PySem.W.kitAny K (.ref Zk) [.ref JM,.ref JR,.ref Jh,.ref WL,.ref JQ]=some false:=by simp only [PySem.W.kitAny,q5,q6,q7,q8,q9]
  refine ⟨_,(Zc (Zp (i:=2) Zab.nd rfl (Or.inl rfl) (ZD (Za (Zx (Ww (K:=K) rfl) (by rfl) ZF boot_isinstance (Za (pv 0) (Za (WG (v:=.ref ZW) (by rfl) J7 rfl) Zb))) (Za (Zx (Ww (K:=K) rfl) (by rfl) ZF boot_isinstance (Za (pv 0) (Za (WG (v:=.ref Wz) (by rfl) Zcn rfl) Zb))) (Za (Zx (Ww (K:=K) rfl) (by rfl) ZF boot_isinstance (Za (pv 0) (Za (WG (v:=.ref Wq) (by rfl) ZcN rfl) Zb))) (Za (Zx (Ww (K:=K) rfl) (by rfl) ZF boot_isinstance (Za (pv 0) (Za (WG (v:=.ref Jq) (by rfl) Zau rfl) Zb))) Zb))))))
   (Zc (Zp (i:=2) Zab.nd rfl (Or.inl rfl) (Zm Ws (pv 2) (ZD (Za (Zx (Ww (K:=K) rfl) (by rfl) ZF boot_isinstance (Za (pv 0) (Za (WG (v:=.ref Zk) (by rfl) J0 rfl) Zb))) (Za (Zx (Ww (K:=K) rfl) (by rfl) ZF boot_isinstance (Za (pv 0) (Za (ZQ (Za (WG (v:=.ref JM) (by rfl) Zek rfl) (Za (WG (v:=.ref JR) (by rfl) Zeu rfl) (Za (WG (v:=.ref Jh) (by rfl) Zcu rfl) (Za (WG (v:=.ref WL) (by rfl) Zfs rfl) (Za (WG (v:=.ref JQ) (by rfl) ZdX rfl) Zb)))))) Zb))) Zb)))))
   (Zg (Zv (ZaF (Zx (Ww (K:=K) rfl) (by rfl) ZF boot_isinstance (Za (pv 0) (Za (UW (v:=.ty "ValueError") (by rfl) UK PyProof.Rows.Boot.«ValueError» rfl) Zb))) (GJ (Yg (Zli (K:=K) rfl hr.units) (pv 2) (Zn2 (Ls:=["_law_k"]) (Fs:=["_law_due"]) (fi:=[1]) (ZY.of (show Yv ["_law_e", "_law_due", "_law_kinds"] (Zh GU) _ ["_law_due"] [1]=true by decide +kernel)) (Zi4 rfl (by rfl) ZT (Za Ze Zb)) (fun cl C s3 H3 ex=>⟨(Zl (i:=0) (show ((["_law_k"]:List Str)++(["_law_due"]:List Str)).Nodup by decide +kernel) rfl (Or.inl rfl)),YS,(Yg Yi (pv 1) (pv 0) (Zs _))⟩)) (Zs _)))))))),?_⟩
  refine ⟨_,rfl,a,_,_,false,rfl,ha,xc,.inl ⟨_,rfl,q0⟩,_,rfl,a,_,_,false,rfl,ha,xc,.inl ⟨_,rfl,q1⟩,_,rfl,a,_,_,false,rfl,ha,xc,.inl ⟨_,rfl,q2⟩,_,rfl,a,_,_,false,rfl,ha,xc,.inl ⟨_,rfl,q3⟩,(by show 4<=sizeLine;decide),fun p1 hp1=>?_⟩
  obtain ⟨H1,z,s1,e1⟩:=lay (o:=.lst [.bl false,.bl false,.bl false,.bl false]) hp1
  rw [z];clear z
  have ha1:=s1 _ _ ha
  refine ⟨_,rfl,_,rfl,a,_,_,true,rfl,ha1,xc,.inl ⟨_,rfl,q4⟩,_,rfl,(by show 5<=sizeLine;decide),fun p2 hp2=>?_⟩
  obtain ⟨H2,z,s2,e2⟩:=lay (o:=.tup [.ref JM,.ref JR,.ref Jh,.ref WL,.ref JQ]) hp2
  rw [z];clear z
  have ha2:=s2 _ _ ha1
  refine ⟨a,_,_,false,rfl,ha2,xc,.inr (.inr ⟨p2,[JM,JR,Jh,WL,JQ],rfl,e2,qa⟩),(by show 2<=sizeLine;decide),fun p3 hp3=>?_⟩
  obtain ⟨H3,z,s3,e3⟩:=lay (o:=.lst [.bl true,.bl false]) hp3
  rw [z];clear z
  refine Zd7 (s3 _ _ (s2 _ _ e1)) e3 (by show 6<=sizeLine;decide) (fun p4 H4 hp4 s4 e4=>?_)
  have ha4:=s4 _ _ (s3 _ _ ha2)
  have s04:Zi H H4:=((s1.trans s2).trans s3).trans s4
  refine ⟨_,rfl,a,_,_,true,rfl,ha4,xc,.inr (.inl ⟨_,rfl,qv⟩),?_⟩
  refine ⟨true,rfl,JN ?_⟩
  refine ⟨_,rfl,6,rfl,by decide,by decide,ZlA (n:=6) (by rw [sizeLine_eq];decide) (fun i zs G=>Zi H4 G/\zs=(List.range i).map fun j=>V.bl (decide (j=4))) ⟨Zi.refl _,rfl⟩ (fun i zs G q=>by rw [q.2,List.length_map,List.length_range];exact Nat.le_refl _) (fun zs G q=>hq.same (s04.trans q.1)) (fun i zs G hi q=>?_) (fun zs G q D hD=>?_)⟩
  ·obtain ⟨sG,rfl⟩:=q
   refine lcG ⟨_,rfl,_,rfl,rfl,sG,?_⟩
   have:decide (V.int 4=V.int (0+(i:Int)))=decide (i=4):=decide_eq_decide.mpr ⟨fun z=>by injection z with z;lia,fun z=>by subst z;rfl⟩
   rw [this,List.range_succ,List.map_append]
   rfl
  ·obtain ⟨sG,rfl⟩:=q
   refine ⟨p4,D,_,_,rfl,rfl,Zu.of ((sG.step hD) _ _ e4),Zu.of Zd,rfl,fun i x y hx hy=>?_,k _ ((s04.trans sG).step hD)⟩
   have e:([V.bl false,V.bl false,V.bl false,V.bl false] ++ [V.bl true,V.bl false])=(List.range 6).map fun j=>V.bl (decide (j=4)):=rfl
   rw [e] at hx
   rw [hx] at hy
   cases hy
   obtain ⟨j,_,rfl⟩:=List.mem_map.mp (List.mem_of_getElem? hx)
   exact .flat rfl
def Zk3:Sp:=fun vs H Q _=>∃(l p:Addr) (sc:Int) (ls:List (Str×Int)) (g:Int->Int),vs = [.ref l,.int sc,.ref p]/\(sc=0∨sc=1)/\Drw H l ls/\HG sc ls g /\
 ((∃xs,H p=some (.tup xs)) ∨ ∃cs:List Int,H p=some (.lst (cs.map V.int))/\cs.length<=100/\(Wj (crI ls) cs=false∨Wa ls (Ui g ls) (chA cs) ls.length=none)) /\ ∀H',Zi H H'->Q (.bl true) H'
abbrev Gs:Stmt:=top 68
theorem Zag:Zz ["_law_drawing_here", "_law_scale", "_law_thing", "_law_e"] ["_law_drawing_here", "_law_scale", "_law_thing"] (Zh Gs):={}
theorem ZhY {f Zk YA:Addr}{fd:FuncData} (F:Yp K "_law_refused" "_law_refused" Gs f fd) (U1:mg "FrontError" = some (.ref YA)) (We:PySem.W.excIn K YA bmV "ValueError.__new__" = true) (WR:PySem.W.mroIn K Zk (.ref YA)=some true)
  (Gm:Zdb P w K mg base 13 "loose" ["drawing", "scale", "banding"] (Zch Zk)) (Zat:Zlv P w K mg base 1 "_law_only" ["_law_e", "_law_due"] (Zhl Zk)) (Yj:mg "list" = none):Yc P w K mg base J9 14 f fd ["_law_drawing_here", "_law_scale", "_law_thing"] Zk3:=by
 refine F.ok Zag (fun vs H Q E h=>?_) (fun cdv A outer s H vs Q E hr h=>?_)
 ·obtain ⟨l,p,sc,ls,g,rfl,_⟩:=h
  rfl
 ·obtain ⟨l,p,sc,ls,g,rfl,hsc,dr,hg,hp,k⟩:=h
  let R_try:Addr->Hp->Prop:=fun C H'=>C=Zk/\Zi H H'
  have hR_try:∀C H',R_try C H'->PySem.W.mroIn K C (.ref YA)=some true:=fun C H' z=>by rw [z.1];exact WR
  refine ⟨_,(Zc (Zn3 R_try (fun pins=>(Zg (ZZ (Zbe Gm (hr.mono (by decide)) (Zoz rfl) (Za (Yl (YZ (K:=K) rfl) (by rfl) Yj boot_list (Za (pv 0) Zb)) (Za (pv 1) (Za (pv 2) Zb))))))) (fun pins a_x=>(Zg (Zv (Zly Zat ((hr.mono (by decide)).suite _) rfl (Za (pv 3) (Za Ze Zb)))))) (by rfl) U1 We hR_try Zag.nd (i:=3) rfl rfl)
   (Zg (Zv Gv))),?_⟩
  refine ⟨?_,fun a C H1 hR ha=>?_⟩
  ·obtain ⟨xs,hl,hL,hW,hlen⟩:=id dr
   refine ⟨_,rfl,l,_,rfl,.inl (Zu.of hl),fun c fc=>?_⟩
   obtain ⟨H1,z,s1,e1⟩:=lay (o:=.lst xs) fc
   rw [z];clear z
   refine ⟨_,rfl,_,rfl,c,p,sc,ls,g,rfl,hsc,⟨xs,e1,hL.same s1,hW,hlen⟩,hg,?_⟩
   rcases hp with ⟨us,ep⟩ | ⟨cs,ep,nc,bad⟩
   ·exact .inl ⟨us,s1 _ _ ep,fun H' s'=>⟨Zk,rfl,rfl,s1.trans s'⟩⟩
   ·refine .inr ⟨cs,s1 _ _ ep,nc,fun _ H' s'=>⟨Zk,rfl,rfl,s1.trans s'⟩,fun rb rows lr hrow=>?_⟩
    rcases bad with z | z
    ·rw [rb] at z;cases z
    ·rw [hrow _ (Nat.le_refl _),List.getElem?_eq_getElem (by lia)] at z
     cases z
  ·obtain ⟨rfl,s1⟩:=hR
   have s2:Zi H1 (upd H1 a (.ext (isX a C))):=Zi.laid ha
   have e2:(upd H1 a (.ext (isX a C))) a=some (.ext (isX a C)):=Zd
   generalize upd H1 a (.ext (isX a C))=H2 at *
   exact ⟨_,rfl,fun x e=>by cases e;exact ⟨a,C,rfl,e2⟩,a,rfl,e2,fun H' s3=>k H' ((s1.trans s2).trans s3)⟩
def ZnB:Sp:=fun vs H Q _=>∃(l p:Addr) (sc:Int) (ls:List (Str×Int)) (g:Int->Int) (cs:List Int) (rows:List (List Int)),vs = [.ref l,.int sc,.ref p]/\(sc=0∨sc=1)/\Drw H l ls/\HG sc ls g/\H p=some (.lst (cs.map V.int))/\cs.length<=100/\Wj (crI ls) cs=true /\
 rows.length=ls.length+1/\(∀t,t<=ls.length->Wa ls (Ui g ls) (chA cs) t=rows[t]?) /\ ∀H',Zi H H'->Q (.bl true) H'
abbrev ZaN:Stmt:=top 69
theorem Wi:Zz ["_law_drawing_here", "_law_scale", "_law_one", "_law_handed", "_law_due", "_law_turn", "_law_told"] ["_law_drawing_here", "_law_scale", "_law_one"] (Zh ZaN):={}
theorem ZlG {f Zk:Addr}{fd:FuncData} (F:Yp K "_law_good" "_law_good" ZaN f fd) (Gm:Zdb P w K mg base 13 "loose" ["drawing", "scale", "banding"] (Zch Zk)) (UT:Yk P w K mg base 7 "_law_loose" ["_law_drawing_here", "_law_scale", "_law_changed"] Zhq) (Gz:Yk P w K mg base 2 "_law_numbers" ["_law_thing"] ZcM) (Yj:mg "list" = none) (ZT:mg "range" = none):Yc P w K mg base J9 14 f fd ["_law_drawing_here", "_law_scale", "_law_one"] ZnB:=by
 refine F.ok Wi (fun vs H Q E h=>?_) (fun cdv A outer s H vs Q E hr h=>?_)
 ·obtain ⟨l,p,sc,ls,g,cs,rows,rfl,_⟩:=h
  rfl
 ·obtain ⟨l,p,sc,ls,g,cs,rows,rfl,hsc,dr,hg,ep,nc,rb,lr,hrow,k⟩:=h
  refine ⟨_,(Zc (Zp (i:=3) Wi.nd rfl (Or.inl rfl) (ZD (Za (Yl (YZ (K:=K) rfl) (by rfl) Yj boot_list (Za (pv 0) Zb)) (Za (Yl (YZ (K:=K) rfl) (by rfl) Yj boot_list (Za (pv 2) Zb)) Zb))))
   (Zc (Zp (i:=4) Wi.nd rfl (Or.inl rfl) (Zr UT hr (Za (pv 0) (Za (pv 1) (Za (pv 2) Zb)))))
   (Zc (Yq PassesOwn.never rfl (YK (by rfl) ZT (Za Ze Zb)) (Zl (i:=5) Wi.nd rfl (Or.inl rfl)) (Zc (Zp (i:=6) Wi.nd rfl (Or.inl rfl) (Zbe Gm (hr.mono (by decide)) Zkp (Za (Zy (Zn (K:=K) rfl) (pv 3) Ze (fun _ _=>rfl)) (Za (pv 1) (Za (Zy (Zn (K:=K) rfl) (pv 3) Ze (fun _ _=>rfl)) Zb)))))
   (Zc (ZR (PW.pt (ZdB (WB (JX (Zr Gz hr (Za (pv 6) Zb)))) (ZdB (Zt (ZiF (K:=K) rfl hr.units) (pv 6) (pv 4) (Zs _)) (ZdE (Zt (ZiF (K:=K) rfl hr.units) (pv 3) (ZD (Za (pv 0) (Za (pv 2) Zb))) (Zs _)))))) (Zg (Zv Gv)) ZG)
   (Zg (ZZ (Yb (K:=K) rfl (Yx PySem.F.plainAttrs_list PySem.F.slot_list_append PySem.F.type_list_append ZO (pv 6) (Za Ze Zb))))))))
   (Zg (Zv Gv))))),?_⟩
  obtain ⟨xs,hl,hL,hW,hlen⟩:=id dr
  refine ⟨_,rfl,l,_,rfl,.inl (Zu.of hl),fun ha fha=>?_⟩
  obtain ⟨H1,z,s1,e1⟩:=lay (o:=.lst xs) fha
  rw [z];clear z
  refine ⟨_,rfl,p,_,rfl,.inl (Zu.of (s1 _ _ ep)),fun hb fhb=>?_⟩
  obtain ⟨H2,z,s2,e2⟩:=lay (o:=.lst (cs.map V.int)) fhb
  rw [z];clear z
  refine ⟨(by show 2<=sizeLine;decide),fun hd fhd=>?_⟩
  obtain ⟨H3,z,s3,e3⟩:=lay (o:=.lst [.ref ha,.ref hb]) fhd
  rw [z];clear z
  have s03:=(s1.trans s2).trans s3
  refine ⟨_,rfl,_,rfl,_,rfl,l,p,sc,ls,g,cs,rows,rfl,hsc,⟨xs,s03 _ _ hl,hL.same s03,hW,hlen⟩,hg,s03 _ _ ep,nc,lr,hrow,fun d H4 s4 fd4 ed=>?_⟩
  have s04:=s03.trans s4
  obtain ⟨ns,ens⟩:∃ns,(crI ls).filter (Zb0 ls (Ui g ls) rows)=ns:=⟨_,rfl⟩
  rw [ens] at ed
  have nns:ns.length<=60:=by
   rw [<- ens]
   exact Nat.le_trans (List.length_filter_le _ _) (Nat.le_trans (Jf ls _ _) hlen)
  have xl:xs.length=ls.length:=hL.len
  have same_xs:∀(n:Nat) (G:Hp) (i:Nat) (x y:V),xs[i]? = some x->xs[i]? = some y->Eqv K G n x y:=fun n G i x y a1 a2=>by
   obtain ⟨q,t,hq,rfl,ht⟩:=hL.get a1
   rw [a1] at a2
   cases a2
   exact .same
  have same_fl:∀(n:Nat) (G:Hp) (ns:List Int),∀(i:Nat) (x y:V),(ns.map V.int)[i]? = some x->(ns.map V.int)[i]? = some y->Eqv K G n x y:=fun n G ns i x y a1 a2=>by
   rw [a1] at a2
   cases a2
   exact .flat (List.all_eq_true.mp (Zcx ns) x (List.mem_of_getElem? a1))
  refine ⟨2,rfl,by decide,by decide,J6 (n:=2) (fun i σ G=>∃v5 v6:Option V,σ = [some (.ref l),some (.int sc),some (.ref p),some (.ref hd),some (.ref d),v5,v6]/\Zi H4 G) ⟨_,_,rfl,Zi.refl _⟩ ?_ ?_⟩
  ·rintro i σ G hi ⟨v5,v6,rfl,sG⟩
   have s0G:=s04.trans sG
   have ehd:G hd=some (.lst [.ref ha,.ref hb]):=(s4.trans sG) _ _ e3
   have eha:G ha=some (.lst xs):=((s2.trans s3).trans (s4.trans sG)) _ _ e1
   have ehb:G hb=some (.lst (cs.map V.int)):=(s3.trans (s4.trans sG)) _ _ e2
   refine ⟨_,rfl,hd,_,0,.ref ha,rfl,rfl,Zu.of ehd,rfl,_,rfl,_,rfl,hd,_,1,.ref hb,rfl,rfl,Zu.of ehd,rfl,ha,hb,sc,ls,g,rfl,hsc,⟨xs,eha,hL.same s0G,hW,hlen⟩,hg,.inr ⟨cs,ehb,nc,fun bad=>?_,fun _ rows2 lr2 hrow2=>?_⟩⟩
   ·rcases bad with z | z
    ·rw [rb] at z;cases z
    ·rw [hrow _ (Nat.le_refl _),List.getElem?_eq_getElem (by lia)] at z
     cases z
   obtain rfl:rows2=rows:=List.ext_getElem? fun t=>by
    by_cases c:t<=ls.length
    ·exact (hrow2 t c).symm.trans (hrow t c)
    ·rw [List.getElem?_eq_none (by lia),List.getElem?_eq_none (by lia)]
   rw [ens]
   intro tl G1 s1' ftl etl
   refine ⟨_,rfl,tl,ns,rfl,etl,by lia,fun G2 s2'=>⟨_,rfl,Y5 ?_⟩⟩
   have etl2:=s2' _ _ etl
   have ed2:=((sG.trans s1').trans s2') _ _ ed
   refine ⟨_,rfl,_,rfl,tl,d,_,_,rfl,rfl,Zu.of etl2,Zu.of ed2,rfl,same_fl 60 _ ns,_,rfl,Y5 ?_⟩
   refine ⟨_,rfl,_,rfl,_,rfl,(by show 2<=sizeLine;decide),fun pr fpr=>?_⟩
   obtain ⟨G3,z,s3',e3'⟩:=lay (o:=.lst [.ref l,.ref p]) fpr
   rw [z];clear z
   have sGG:=(s1'.trans s2').trans s3'
   refine ⟨hd,pr,_,_,rfl,rfl,Zu.of (sGG _ _ ehd),Zu.of e3',rfl,fun j x y ex ey=>?_,_,rfl,Y5 ?_⟩
   ·rcases j with _ | _ | j
    ·cases ex
     cases ey
     exact .lst (Zu.of (sGG _ _ eha)) (Zu.of (sGG _ _ (s0G _ _ hl))) rfl (same_xs 59 _)
    ·cases ex
     cases ey
     exact .lst (Zu.of (sGG _ _ ehb)) (Zu.of (sGG _ _ (s0G _ _ ep))) rfl (same_fl 59 _ cs)
    ·cases ex
   have etl3:=s3' _ _ etl2
   refine ⟨_,rfl,.inl ⟨rfl,_,Zu.of etl3⟩,tl,_,_,rfl,rfl,etl3,(by rw [List.length_map,sizeLine_eq];lia),?_⟩
   have ft4:H4 tl=none:=sG.free ftl
   exact ⟨_,_,rfl,fun c o e=>by rw [Zj (Zf e ft4)];exact (sG.trans sGG) c o e⟩
  ·rintro σ G ⟨v5,v6,rfl,sG⟩
   exact k G (s04.trans sG)
def Zig (K:PySem.W.Frag):Sp:=fun vs H Q _=>∃(a:Addr) (ns:List Int),vs = [.ref a]/\Zu K H a (ns.map V.int)/\ns.length<=63 /\ ∀H',Q (.bl true) H'
abbrev ZdW:Stmt:=top 70
theorem ZbD:Zz ["_law_script", "_law_k", "_law_drawing_here", "_law_scale", "_law_bag_here", "_law_one", "_law_thing"] ["_law_script"] (Zh ZdW):={}
theorem Znj {f Zk:Addr}{fd:FuncData} (F:Yp K "law" "law" ZdW f fd) (UU:Yk P w K mg base 1 "_law_bag" ["_law_script", "_law_at"] (ZjD K)) (UH:Yk P w K mg base 4 "_law_front" ["_law_bag_here", "_law_most"] ZfN) (Ub:Yk P w K mg base 5 "_law_scales" ["_law_drawing_here"] Zel) (U4:Yk P w K mg base 6 "_law_grown" ["_law_drawing_here", "_law_scale", "_law_bag_here"] Zf8) (J3:Yk P w K mg base 6 "_law_walk" ["_law_drawing_here", "_law_scale", "_law_changed"] Zfr) (Wg:Yk P w K mg base 14 "_law_refused" ["_law_drawing_here", "_law_scale", "_law_thing"] Zk3) (ZaP:Yk P w K mg base 14 "_law_good" ["_law_drawing_here", "_law_scale", "_law_one"] ZnB) (Gm:Zdb P w K mg base 13 "loose" ["drawing", "scale", "banding"] (Zch Zk))
  (ZT:mg "range" = none) (Yw:mg "len" = none) (GS:mg "max" = none) (Zbr:mg "min" = none) (JU:mg "tuple" = none):Yc P w K mg base J9 15 f fd ["_law_script"] (Zig K):=by
 refine F.ok ZbD (fun vs H Q E h=>?_) (fun cdv A outer s H vs Q E hr h=>?_)
 ·obtain ⟨a,ns,rfl,_⟩:=h
  rfl
 ·obtain ⟨a,ns,rfl,hS,hlen,k⟩:=h
  refine ⟨_,(Zc (Yq PassesOwn.never rfl (YK (by rfl) ZT (Za (Zx (Gq rfl) (by rfl) GS boot_max (Za Ze (Za (Zx (Za2 rfl) (by rfl) Zbr boot_min (Za Ze (Za (Zx (YE (K:=K) rfl) (by rfl) Yw PySem.boot_len (Za (pv 0) Zb)) Zb))) Zb))) Zb)) (Zl (i:=1) ZbD.nd rfl (Or.inl rfl)) (Zc (Zp (i:=2) ZbD.nd rfl (Or.inr rfl) (Zr UH hr (Za (Zr UU hr (Za (pv 0) (Za (pv 1) Zb))) (Za Ze Zb))))
   (Zg (Yq PassesOwn.never rfl (Z8 (K:=K) rfl (Zr Ub hr (Za (pv 2) Zb))) (Zl (i:=3) ZbD.nd rfl (Or.inr rfl)) (Zc (Zp (i:=4) ZbD.nd rfl (Or.inr rfl) (Zr UU hr (Za (pv 0) (Za (Zm ZE (Zm ZE (pv 1) Ze) (Zm Wn Ze (pv 3))) Zb))))
   (Zg (Yq PassesOwn.never rfl (Z8 (K:=K) rfl (Zm Ws (GF (Ls:=["_law_turn"]) (Fs:=["_law_drawing_here", "_law_scale", "_law_bag_here"]) (fi:=[2,3,4]) (ZY.of (show Yv ["_law_script", "_law_k", "_law_drawing_here", "_law_scale", "_law_bag_here", "_law_one", "_law_thing"] (Zh ZdW) _ ["_law_drawing_here", "_law_scale", "_law_bag_here"] [2,3,4]=true by decide +kernel)) rfl (YK (by rfl) ZT (Za Ze Zb)) (fun cl C s3 H3 ex=>⟨(Zl (i:=0) (show ((["_law_turn"]:List Str)++(["_law_drawing_here", "_law_scale", "_law_bag_here"]:List Str)).Nodup by decide +kernel) rfl (Or.inl rfl)),YS,(Zr U4 hr (Za (pv 1) (Za (pv 2) (Za (pv 3) Zb))))⟩)) (ZD (Za (ZD Zb) Zb)))) (Zl (i:=5) ZbD.nd rfl (Or.inl rfl)) (Zc (ZR (Zt Zgb (Zr J3 hr (Za (pv 2) (Za (pv 3) (Za (pv 5) Zb)))) JZ (Zs _)) (Zg (ZR (WB (JX (Zr Wg hr (Za (pv 2) (Za (pv 3) (Za (pv 5) Zb)))))) (Zg (Zv Gv)) ZG)) (Zg (ZR (WB (JX (Zr ZaP hr (Za (pv 2) (Za (pv 3) (Za (pv 5) Zb)))))) (Zg (Zv Gv)) ZG)))
   (Zg (Yq PassesOwn.never rfl (Z8 (K:=K) rfl (ZD (Za (Zm Ws (pv 5) (ZD (Za (Zx (YE (K:=K) rfl) (by rfl) Yw PySem.boot_len (Za (pv 2) Zb)) Zb))) (Za (Yl GQ (by rfl) JU boot_tuple (Za (pv 5) Zb)) Zb)))) (Zl (i:=6) ZbD.nd rfl (Or.inl rfl)) (Zg (ZR (WB (JX (Zr Wg hr (Za (pv 2) (Za (pv 3) (Za (pv 6) Zb)))))) (Zg (Zv Gv)) ZG))))))))))))
   (Zg (Zv (Yg (ZiY (K:=K) rfl hr.units) (Zbe Gm (hr.mono (by decide)) Zkp (Za (ZD Zb) (Za Ze (Za (ZD Zb) Zb)))) (ZD Zb) (Zs _))))),?_⟩
  refine ⟨_,rfl,a,_,rfl,.inl hS,_,_,rfl,_,_,rfl,_,rfl,?_,?_,J6 (fun i σ H'=>∃v1 v2 v3 v4 v5 v6:Option V,σ = [some (.ref a),v1,v2,v3,v4,v5,v6]/\Zi H H') ⟨none,none,none,none,none,none,rfl,Zi.refl _⟩ ?_ ?_⟩
  ·split<;>(try split)<;>lia
  ·rw [List.length_map]
   split<;>(try split)<;>lia
  ·rintro i σ H0 hi ⟨v1,v2,v3,v4,v5,v6,rfl,sm⟩
   have hi':i<900:=by
    rw [List.length_map] at hi
    revert hi
    split<;>(try split)<;>lia
   refine ⟨_,rfl,_,rfl,a,_,ns,rfl,sm.seq hS,by lia,by lia,fun b0 H1 hb0 s1 bg1=>?_⟩
   refine ⟨b0,10,rfl,bg1,by decide,by decide,fun l H2 ls hl bg2 f2 dr nx=>?_⟩
   refine ⟨_,rfl,l,ls,rfl,dr,fun p H3 scs s3 fp ep sl hsc=>?_⟩
   refine ⟨p,rfl,⟨_,Zu.of ep⟩,JL (K:=K) (a:=p) (xs:=scs.map V.int) (fun j σ G=>∃v3 v4 v5 v6:Option V,σ = [some (.ref a),some (.int (0+(i:Int))),some (.ref l),v3,v4,v5,v6]/\Zi H3 G) ⟨_,_,_,_,rfl,Zi.refl _⟩ (fun j σ G _ ⟨_,_,_,_,_,s'⟩=>Zu.of (s' _ _ ep)) ?_ ?_⟩
   ·rintro j y σ G hy ⟨v3,v4,v5,v6,rfl,sG⟩
    rw [List.getElem?_map] at hy
    obtain ⟨sc,e1,rfl⟩:=Option.map_eq_some_iff.mp hy
    obtain ⟨h01,g,hg⟩:=hsc sc (List.mem_of_getElem? e1)
    obtain ⟨xs,hxl,hL,hW,h60⟩:=id dr
    have s2G:=s3.trans sG
    have sHG:Zi H G:=fun c o e=>sG c o (s3 c o (f2 c o (s1 c o (sm c o e)) (Zf (sm c o e) hb0)))
    refine ⟨_,rfl,_,rfl,_,_,rfl,rfl,_,rfl,_,_,rfl,rfl,.inl ⟨by decide,by decide⟩,_,_,rfl,rfl,a,_,ns,rfl,sHG.seq hS,?_,?_,fun b G1 fb sb bgb=>?_⟩
    ·rcases h01 with rfl | rfl<;>lia
    ·rcases h01 with rfl | rfl<;>lia
    have lb:l≠b:=Zf (s2G _ _ hxl) fb
    have dr1:Drw G1 l ls:=⟨xs,sb _ _ (s2G _ _ hxl),hL.same (s2G.trans sb),hW,h60⟩
    have dF:∀{G':Hp},Jn b G1 G'->Drw G' l ls:=fun f=>⟨xs,f _ _ (sb _ _ (s2G _ _ hxl)) lb,(hL.same (s2G.trans sb)).mono fun t p e=>f t _ e (fun z=>by
     rw [z] at e
     obtain ⟨_,_,_,e'⟩:=bgb
     rw [e'] at e
     cases e),hW,h60⟩
    refine ⟨6,rfl,by decide,by decide,Zgi (n:=6) (by rw [sizeLine_eq];decide) (fun m zs G'=>Jn b G1 G'/\Bag G' b/\zs.length=m /\ ∀z∈zs,∃(d:Addr) (cs:List Int),z = .ref d/\d≠b/\G' d=some (.lst (cs.map V.int))/\cs.length<=60/\Wj (crI ls) cs=true) ⟨Jn.refl _ _,bgb,rfl,fun z hz=>nomatch hz⟩ (fun m zs G' q=>Nat.le_of_eq q.2.2.1) (fun m zs G' hm q=>?_) (fun zs G' q D hD=>?_)⟩
    ·obtain ⟨f',bg',lz,hz⟩:=q
     refine lcG ⟨_,rfl,_,rfl,_,rfl,l,b,sc,ls,g,rfl,h01,dF f',hg,bg',lb,fun d cs G2 fg bg2' fd ed lc rb=>⟨f'.trans fg,bg2',by rw [List.length_append,lz];rfl,fun z hz'=>?_⟩⟩
     rcases List.mem_append.mp hz' with q | q
     ·obtain ⟨d',cs',e,nb,ed',r⟩:=hz z q
      exact ⟨d',cs',e,nb,fg _ _ ed' nb,r⟩
     ·refine ⟨d,cs,List.mem_singleton.mp q,fun z=>?_,ed,lc,rb⟩
      rw [z] at fd
      obtain ⟨_,_,_,e'⟩:=bg'
      rw [e'] at fd
      cases fd
    obtain ⟨f',bg',lz,hz⟩:=q
    obtain ⟨G2,z,t2,eD⟩:=lay (o:=.lst zs) hD
    rw [z];clear z
    refine ⟨(by show 0<=sizeLine;exact Nat.zero_le _),fun e0 fe0=>?_⟩
    obtain ⟨G3,z,t3,ee0⟩:=lay (o:=.lst []) fe0
    rw [z];clear z
    refine ⟨(by show 1<=sizeLine;decide),fun e1' fe1=>?_⟩
    obtain ⟨G4,z,t4,ee1⟩:=lay (o:=.lst [.ref e0]) fe1
    rw [z];clear z
    refine Zd7 ((t3.trans t4) _ _ eD) ee1 (by rw [lz,sizeLine_eq];show 6+1<=16777216;decide) (fun q G5 fq t5 eq=>?_)
    have tt:=((t2.trans t3).trans t4).trans t5
    have fG5:Jn b G1 G5:=f'.trans tt.frm
    have s35:Zi H3 G5:=fun c o e=>fG5 c o (sb c o (sG c o e)) (Zf (sG c o e) fb)
    have all:∀z∈zs ++ [.ref e0],∃(d:Addr) (cs:List Int),z = .ref d/\G5 d=some (.lst (cs.map V.int))/\cs.length<=60/\Wj (crI ls) cs=true:=fun z hz'=>by
     rcases List.mem_append.mp hz' with w | w
     ·obtain ⟨d',cs',e,nb,ed',r⟩:=hz z w
      exact ⟨d',cs',e,tt _ _ ed',r⟩
     ·exact ⟨e0,[],List.mem_singleton.mp w,(t4.trans t5) _ _ ee0,Nat.zero_le _,rfl⟩
    have dr5:=dF fG5
    obtain ⟨xs5,hx5,hL5,_,_⟩:=id dr5
    refine ⟨q,rfl,⟨_,Zu.of eq⟩,JL (K:=K) (a:=q) (xs:=zs ++ [.ref e0]) (fun m σ G'=>∃v5 v6:Option V,σ = [some (.ref a),some (.int (0+(i:Int))),some (.ref l),some (.int sc),some (.ref b),v5,v6]/\Zi G5 G') ⟨_,_,rfl,Zi.refl _⟩ (fun m σ G' _ ⟨_,_,_,s'⟩=>Zu.of (s' _ _ eq)) ?_ ?_⟩
    ·rintro m x σ G6 hx ⟨v5,v6,rfl,s6⟩
     obtain ⟨d,cs,rfl,ed,lc,rb⟩:=all x (List.mem_of_getElem? hx)
     have drS:∀{G':Hp},Zi G5 G'->Drw G' l ls:=fun s=>⟨xs5,s _ _ hx5,hL5.same s,hW,h60⟩
     refine ⟨_,rfl,_,rfl,_,rfl,l,d,sc,ls,g,cs,rfl,h01,drS s6,hg,s6 _ _ ed,by lia,fun zn G7 s7=>⟨rfl,_,rfl,JN ⟨_,rfl,_,rfl,_,rfl,l,d,sc,ls,g,rfl,h01,drS (s6.trans s7),hg,.inr ⟨cs,(s6.trans s7) _ _ ed,by lia,.inr zn⟩,fun G8 s8=>⟨true,rfl,Y5 ?_⟩⟩⟩,fun r ws rows G7 s7 fr er hw hwn lr hrow=>⟨rfl,_,rfl,Y5 ⟨_,rfl,_,rfl,_,rfl,l,d,sc,ls,g,cs,rows,rfl,h01,drS (s6.trans s7),hg,(s6.trans s7) _ _ ed,by lia,rb,lr,hrow,fun G8 s8=>⟨true,rfl,Y5 ?_⟩⟩⟩⟩
     all_goals
      have s58:=(s6.trans s7).trans s8
      refine ⟨_,rfl,_,rfl,l,_,rfl,.inl (Zu.of (s58 _ _ hx5)),(by show 1<=sizeLine;decide),fun w1 fw1=>?_⟩
      obtain ⟨K1,z,k1,ew1⟩:=lay (o:=.lst [.int (xs5.length:Int)]) fw1
      rw [z];clear z
      refine Zd7 ((s58.trans k1) _ _ ed) ew1 (by rw [List.length_map,sizeLine_eq];show cs.length+1<=_;lia) (fun w2 K2 fw2 k2 ew2=>?_)
      refine ⟨_,rfl,d,_,rfl,((s58.trans k1).trans k2) _ _ ed,fun w3 fw3=>?_⟩
      obtain ⟨K3,z,k3,ew3⟩:=lay (o:=.tup (cs.map V.int)) fw3
      rw [z];clear z
      refine ⟨(by show 2<=sizeLine;decide),fun w4 fw4=>?_⟩
      obtain ⟨K4,z,k4,ew4⟩:=lay (o:=.lst [.ref w2,.ref w3]) fw4
      rw [z];clear z
      have sK:=(((s58.trans k1).trans k2).trans k3).trans k4
      refine ⟨w4,rfl,⟨_,Zu.of ew4⟩,JL (K:=K) (a:=w4) (xs:=[.ref w2,.ref w3]) (fun n σ G'=>∃v6:Option V,σ = [some (.ref a),some (.int (0+(i:Int))),some (.ref l),some (.int sc),some (.ref b),some (.ref d),v6]/\Zi K4 G') ⟨_,rfl,Zi.refl _⟩ (fun n σ G' _ ⟨_,_,s'⟩=>Zu.of (s' _ _ ew4)) ?_ ?_⟩
      ·rintro n x σ K5 hx' ⟨v6,rfl,k5⟩
       rcases n with _ | _ | n
       ·cases hx'
        refine ⟨_,rfl,_,rfl,_,rfl,l,w2,sc,ls,g,rfl,h01,drS (sK.trans k5),hg,.inr ⟨cs ++ [(xs5.length:Int)],?_,by rw [List.length_append];show cs.length+1<=100;lia,.inl ?_⟩,fun K6 k6=>⟨true,rfl,Y5 ⟨_,rfl,k5.trans k6⟩⟩⟩
        ·rw [((k3.trans k4).trans k5) _ _ ew2,List.map_append];rfl
        ·cases h:Wj (crI ls) (cs ++ [(xs5.length:Int)]) with
         | false=>rfl
         | true=>
          unfold Wj at h
          rw [Bool.and_eq_true,List.all_eq_true] at h
          have:=h.1 _ (List.mem_map.mpr ⟨(xs5.length:Int),List.mem_append_right _ (.head _),rfl⟩)
          have:=ZfB (of_decide_eq_true this)
          have:=hL5.len
          lia
       ·cases hx'
        exact ⟨_,rfl,_,rfl,_,rfl,l,w3,sc,ls,g,rfl,h01,drS (sK.trans k5),hg,.inl ⟨_,(k4.trans k5) _ _ ew3⟩,fun K6 k6=>⟨true,rfl,Y5 ⟨_,rfl,k5.trans k6⟩⟩⟩
       ·cases hx'
      ·rintro σ K5 ⟨v6,rfl,k5⟩
       exact ⟨_,_,rfl,sK.trans k5⟩
    ·rintro σ G6 ⟨v5,v6,rfl,s6⟩
     exact ⟨_,_,_,_,rfl,s35.trans s6⟩
   ·rintro σ G ⟨v3,v4,v5,v6,rfl,sG⟩
    refine ⟨_,_,_,_,_,_,rfl,fun c o e=>?_⟩
    have nb:=Zf (sm c o e) hb0
    exact sG c o (s3 c o (f2 c o (s1 c o (sm c o e)) nb))
  ·rintro σ H0 ⟨v1,v2,v3,v4,v5,v6,rfl,sm⟩
   refine ⟨(by show 0<=sizeLine;exact Nat.zero_le _),fun d0 f0=>?_⟩
   obtain ⟨X1,z,a1,b1⟩:=lay (o:=.lst []) f0
   rw [z];clear z
   refine ⟨(by show 0<=sizeLine;exact Nat.zero_le _),fun d1 f1=>?_⟩
   obtain ⟨X2,z,a2,b2⟩:=lay (o:=.lst []) f1
   rw [z];clear z
   refine ⟨d0,d1,1,[],fun _=>0,rfl,.inr rfl,⟨[],a2 _ _ b1,.nil,.nil,Nat.zero_le _⟩,.inl ⟨rfl,rfl⟩,.inr ⟨[],b2,Nat.zero_le _,fun bad=>?_,fun _ rows lr hrow d2 X3 a3 fd2 ed2=>?_⟩⟩
   ·rcases bad with z | z<;>cases z
   refine ⟨(by show 0<=sizeLine;exact Nat.zero_le _),fun d3 f3=>?_⟩
   obtain ⟨X4,z,a4,b4⟩:=lay (o:=.lst []) f3
   rw [z];clear z
   have ed3:X3 d2=some (.lst []):=ed2
   exact ⟨d2,d3,[],rfl,rfl,Zu.of (a4 _ _ ed3),Zu.of b4,k _⟩
end
theorem ZL {P:Program}{w:World}{K:PySem.W.Frag}{mg:Str->Option Value}{base:Heap}{k:Nat}{x:Str}{ps:List Str}{sp:Sp}{f:Addr}{fd:FuncData} (G:Yc P w K mg base J9 k f fd ps sp) (m:mg x=some (.ref f)) (kp:PySem.W.keepIn K (.ref f)=true) (b:Binds K fd ps []):Yk P w K mg base k x ps sp:=⟨f,fd,G,m,kp,b⟩
theorem Zdn {P:Program}{w:World}{K:PySem.W.Frag}{mg:Str->Option Value}{base:Heap}{k:Nat}{x:Str}{ps:List Str}{sp:Sp}{f:Addr}{fd:FuncData} (G:Yc P w K mg base (CX1 P w) k f fd ps sp) (m:mg x=some (.ref f)) (kp:PySem.W.keepIn K (.ref f)=true) (b:Binds K fd ps []):Zdb P w K mg base k x ps sp:=⟨f,fd,G,m,kp,b⟩
theorem ZlW {P:Program}{w:World}{K:PySem.W.Frag}{mg:Str->Option Value}{base:Heap}{k:Nat}{x:Str}{ps:List Str}{sp:Sp}{f:Addr}{fd:FuncData} (G:Zh7 P w K mg base k f fd ps sp) (m:mg x=some (.ref f)) (kp:PySem.W.keepIn K (.ref f)=true) (b:Binds K fd ps []):Zlv P w K mg base k x ps sp:=⟨f,fd,G,m,kp,b⟩
section
theorem us1 {α:Type}{P:List α -> Prop} (h:∀a,P [a]):∀us:List α,us.length=1->P us
 | [_],_=>h _
theorem us2 {α:Type}{P:List α -> Prop} (h:∀a b,P [a,b]):∀us:List α,us.length=2->P us
 | [_,_],_=>h _ _
theorem us3 {α:Type}{P:List α -> Prop} (h:∀a b c,P [a,b,c]):∀us:List α,us.length=3->P us
 | [_,_,_],_=>h _ _ _
theorem us4 {α:Type}{P:List α -> Prop} (h:∀a b c d,P [a,b,c,d]):∀us:List α,us.length=4->P us
 | [_,_,_,_],_=>h _ _ _ _
theorem all_mk {l:PySem.W.OpenLaw}{w:World}{K:PySem.W.Frag}{h:Heap}{mg:Str->Option Value}{fa:Addr} (X:K.In h) (G:h.Ns mainGlobals mg) (hfa:mg "law" = some (.ref fa))
  {f0 f1 f2 f3 f4 f5 f6 f7 f8 f9 f10 f11 f12 f13 f14 f15 f16 f17 f18 f19 f20 f21 f22 f23 f24 f25 f26 f27 f28 f29 f30 f31 f32 f33 f34 f35 f36 f37 f38 f39 f40 f41 f42 f43 f44 f45 f46 f47 f48 f49 f50 f51 f52 f53:Addr}{d0 d1 d2 d3 d4 d5 d6 d7 d8 d9 d10 d11 d12 d13 d14 d15 d16 d17 d18 d19 d20 d21 d22 d23 d24 d25 d26 d27 d28 d29 d30 d31 d32 d33 d34 d35 d36 d37 d38 d39 d40 d41 d42 d43 d44 d45 d46 d47 d48 d49 d50 d51 d52 d53:FuncData}
  {YA:Addr} (Ue:PySem.W.nsIn K mainGlobals "FrontError" = some (some (.ref YA)))
  {ZW:Addr} (U2:PySem.W.nsIn K mainGlobals "NoHeights" = some (some (.ref ZW)))
  {Wz:Addr} (Zbv:PySem.W.nsIn K mainGlobals "TooMany" = some (some (.ref Wz)))
  {Wq:Addr} (Zbu:PySem.W.nsIn K mainGlobals "NoTable" = some (some (.ref Wq)))
  {Jq:Addr} (U7:PySem.W.nsIn K mainGlobals "NoSetting" = some (some (.ref Jq)))
  {Zk:Addr} (US:PySem.W.nsIn K mainGlobals "NoBanding" = some (some (.ref Zk)))
  {JM:Addr} (Zcs:PySem.W.nsIn K mainGlobals "NoMove" = some (some (.ref JM)))
  {JR:Addr} (ZcO:PySem.W.nsIn K mainGlobals "NoName" = some (some (.ref JR)))
  {Jh:Addr} (ZbG:PySem.W.nsIn K mainGlobals "NoPaper" = some (some (.ref Jh)))
  {WL:Addr} (ZdR:PySem.W.nsIn K mainGlobals "NoRow" = some (some (.ref WL)))
  {JQ:Addr} (Zcm:PySem.W.nsIn K mainGlobals "NoText" = some (some (.ref JQ)))
  (We:PySem.W.excIn K YA [.type "ValueError", .type "Exception", .type "BaseException", .type "object"] "ValueError.__new__" = true)
  (W3:PySem.W.excIn K ZW [.type "ValueError", .type "Exception", .type "BaseException", .type "object"] "ValueError.__new__" = true)
  (WQ:PySem.W.excIn K Zk [.type "ValueError", .type "Exception", .type "BaseException", .type "object"] "ValueError.__new__" = true)
  (WR:PySem.W.mroIn K Zk (.ref YA)=some true)
  (xc:L2.Zl5 K Zk)
  (q0:PySem.W.kitOne K (.ref Zk) (.ref ZW)=some false)
  (q1:PySem.W.kitOne K (.ref Zk) (.ref Wz)=some false)
  (q2:PySem.W.kitOne K (.ref Zk) (.ref Wq)=some false)
  (q3:PySem.W.kitOne K (.ref Zk) (.ref Jq)=some false)
  (q4:PySem.W.kitOne K (.ref Zk) (.ref Zk)=some true)
  (q5:PySem.W.kitOne K (.ref Zk) (.ref JM)=some false)
  (q6:PySem.W.kitOne K (.ref Zk) (.ref JR)=some false)
  (q7:PySem.W.kitOne K (.ref Zk) (.ref Jh)=some false)
  (q8:PySem.W.kitOne K (.ref Zk) (.ref WL)=some false)
  (q9:PySem.W.kitOne K (.ref Zk) (.ref JQ)=some false)
  (qv:PySem.W.kitOne K (.ref Zk) (.type "ValueError")=some true)
  (a0:PySem.W.nsIn K mainGlobals "_law_take" = some (some (.ref f0))) (l0:Yp K "_law_take" "_law_take" ZaM f0 d0)
  (a1:PySem.W.nsIn K mainGlobals "_law_bag" = some (some (.ref f1))) (l1:Yp K "_law_bag" "_law_bag" ZbI f1 d1)
  (a2:PySem.W.nsIn K mainGlobals "_law_drawing" = some (some (.ref f2))) (l2:Yp K "_law_drawing" "_law_drawing" Gw f2 d2)
  (a3:PySem.W.nsIn K mainGlobals "_law_plat" = some (some (.ref f3))) (l3:Yp K "_law_plat" "_law_plat" W2 f3 d3)
  (a4:PySem.W.nsIn K mainGlobals "_law_any" = some (some (.ref f4))) (l4:Yp K "_law_any" "_law_any" Zby f4 d4)
  (a5:PySem.W.nsIn K mainGlobals "_law_whole" = some (some (.ref f5))) (l5:Yp K "_law_whole" "_law_whole" U5 f5 d5)
  (a6:PySem.W.nsIn K mainGlobals "_law_numbers" = some (some (.ref f6))) (l6:Yp K "_law_numbers" "_law_numbers" Wf f6 d6)
  (a7:PySem.W.nsIn K mainGlobals "threads" = some (some (.ref f7))) (l7:Yp K "threads" "threads" Zco f7 d7)
  (a8:PySem.W.nsIn K mainGlobals "_law_rows" = some (some (.ref f8))) (l8:Yp K "_law_rows" "_law_rows" ZaW f8 d8)
  (a9:PySem.W.nsIn K mainGlobals "letters_of" = some (some (.ref f9))) (l9:Yp K "letters_of" "letters_of" Gj f9 d9)
  (a10:PySem.W.nsIn K mainGlobals "ends_of" = some (some (.ref f10))) (l10:Yp K "ends_of" "ends_of" Zcy f10 d10)
  (a11:PySem.W.nsIn K mainGlobals "names_of" = some (some (.ref f11))) (l11:Yp K "names_of" "names_of" U6 f11 d11)
  (a12:PySem.W.nsIn K mainGlobals "pairs_ahead" = some (some (.ref f12))) (l12:Yp K "pairs_ahead" "pairs_ahead" GY f12 d12)
  (a13:PySem.W.nsIn K mainGlobals "end_pairs" = some (some (.ref f13))) (l13:Yp K "end_pairs" "end_pairs" ZaL f13 d13)
  (a14:PySem.W.nsIn K mainGlobals "born_with" = some (some (.ref f14))) (l14:Yp K "born_with" "born_with" ZaT f14 d14)
  (a15:PySem.W.nsIn K mainGlobals "end_mates" = some (some (.ref f15))) (l15:Yp K "end_mates" "end_mates" Zar f15 d15)
  (a16:PySem.W.nsIn K mainGlobals "tour_from" = some (some (.ref f16))) (l16:Yp K "tour_from" "tour_from" ZaK f16 d16)
  (a17:PySem.W.nsIn K mainGlobals "tours" = some (some (.ref f17))) (l17:Yp K "tours" "tours" Zga f17 d17)
  (a18:PySem.W.nsIn K mainGlobals "_law_walks" = some (some (.ref f18))) (l18:Yp K "_law_walks" "_law_walks" Gn f18 d18)
  (a19:PySem.W.nsIn K mainGlobals "uppers_at_ends" = some (some (.ref f19))) (l19:Yp K "uppers_at_ends" "uppers_at_ends" Wr f19 d19)
  (a20:PySem.W.nsIn K mainGlobals "steps_down" = some (some (.ref f20))) (l20:Yp K "steps_down" "steps_down" UP f20 d20)
  (a21:PySem.W.nsIn K mainGlobals "turns" = some (some (.ref f21))) (l21:Yp K "turns" "turns" Zdv f21 d21)
  (a22:PySem.W.nsIn K mainGlobals "heights_along" = some (some (.ref f22))) (l22:Yp K "heights_along" "heights_along" Ga f22 d22)
  (a23:PySem.W.nsIn K mainGlobals "has_scale" = some (some (.ref f23))) (l23:Yp K "has_scale" "has_scale" Zay f23 d23)
  (a24:PySem.W.nsIn K mainGlobals "thread_heights" = some (some (.ref f24))) (l24:Yp K "thread_heights" "thread_heights" WC f24 d24)
  (a25:PySem.W.nsIn K mainGlobals "_law_heights" = some (some (.ref f25))) (l25:Yp K "_law_heights" "_law_heights" Jp f25 d25)
  (a26:PySem.W.nsIn K mainGlobals "_law_curled" = some (some (.ref f26))) (l26:Yp K "_law_curled" "_law_curled" WJ f26 d26)
  (a27:PySem.W.nsIn K mainGlobals "name_heights" = some (some (.ref f27))) (l27:Yp K "name_heights" "name_heights" Wb f27 d27)
  (a28:PySem.W.nsIn K mainGlobals "_law_name_heights" = some (some (.ref f28))) (l28:Yp K "_law_name_heights" "_law_name_heights" JK f28 d28)
  (a29:PySem.W.nsIn K mainGlobals "_law_front" = some (some (.ref f29))) (l29:Yp K "_law_front" "_law_front" UN f29 d29)
  (a30:PySem.W.nsIn K mainGlobals "_law_scales" = some (some (.ref f30))) (l30:Yp K "_law_scales" "_law_scales" WI f30 d30)
  (a31:PySem.W.nsIn K mainGlobals "_law_letter_heights" = some (some (.ref f31))) (l31:Yp K "_law_letter_heights" "_law_letter_heights" Jm f31 d31)
  (a32:PySem.W.nsIn K mainGlobals "partners_born" = some (some (.ref f32))) (l32:Yp K "partners_born" "partners_born" JV f32 d32)
  (a33:PySem.W.nsIn K mainGlobals "partners_ended" = some (some (.ref f33))) (l33:Yp K "partners_ended" "partners_ended" Jx f33 d33)
  (a34:PySem.W.nsIn K mainGlobals "partners_kept" = some (some (.ref f34))) (l34:Yp K "partners_kept" "partners_kept" W7 f34 d34)
  (a35:PySem.W.nsIn K mainGlobals "is_tangled" = some (some (.ref f35))) (l35:Yp K "is_tangled" "is_tangled" Zaa f35 d35)
  (a36:PySem.W.nsIn K mainGlobals "ways_on" = some (some (.ref f36))) (l36:Yp K "ways_on" "ways_on" Zct f36 d36)
  (a37:PySem.W.nsIn K mainGlobals "_law_is_apart" = some (some (.ref f37))) (l37:Yp K "_law_is_apart" "_law_is_apart" W8 f37 d37)
  (a38:PySem.W.nsIn K mainGlobals "_law_moved_on" = some (some (.ref f38))) (l38:Yp K "_law_moved_on" "_law_moved_on" YL f38 d38)
  (a39:PySem.W.nsIn K mainGlobals "is_whole" = some (some (.ref f39))) (l39:Yp K "is_whole" "is_whole" ZbJ f39 d39)
  (a40:PySem.W.nsIn K mainGlobals "crossings_of" = some (some (.ref f40))) (l40:Yp K "crossings_of" "crossings_of" GK f40 d40)
  (a41:PySem.W.nsIn K mainGlobals "is_free" = some (some (.ref f41))) (l41:Yp K "is_free" "is_free" Zcp f41 d41)
  (a42:PySem.W.nsIn K mainGlobals "is_rising" = some (some (.ref f42))) (l42:Yp K "is_rising" "is_rising" WN f42 d42)
  (a43:PySem.W.nsIn K mainGlobals "heights_by_name" = some (some (.ref f43))) (l43:Yp K "heights_by_name" "heights_by_name" Wc f43 d43)
  (a44:PySem.W.nsIn K mainGlobals "partners_through" = some (some (.ref f44))) (l44:Yp K "partners_through" "partners_through" Y7 f44 d44)
  (a45:PySem.W.nsIn K mainGlobals "banding_rows" = some (some (.ref f45))) (l45:Yp K "banding_rows" "banding_rows" Gu f45 d45)
  (a46:PySem.W.nsIn K mainGlobals "loose" = some (some (.ref f46))) (l46:Yp K "loose" "loose" Zdm f46 d46)
  (a47:PySem.W.nsIn K mainGlobals "_law_walk" = some (some (.ref f47))) (l47:Yp K "_law_walk" "_law_walk" ZaJ f47 d47)
  (a48:PySem.W.nsIn K mainGlobals "_law_loose" = some (some (.ref f48))) (l48:Yp K "_law_loose" "_law_loose" UR f48 d48)
  (a49:PySem.W.nsIn K mainGlobals "_law_grown" = some (some (.ref f49))) (l49:Yp K "_law_grown" "_law_grown" UI f49 d49)
  (a50:PySem.W.nsIn K mainGlobals "_law_only" = some (some (.ref f50))) (l50:Yp K "_law_only" "_law_only" GU f50 d50)
  (a51:PySem.W.nsIn K mainGlobals "_law_refused" = some (some (.ref f51))) (l51:Yp K "_law_refused" "_law_refused" Gs f51 d51)
  (a52:PySem.W.nsIn K mainGlobals "_law_good" = some (some (.ref f52))) (l52:Yp K "_law_good" "_law_good" ZaN f52 d52)
  (a53:PySem.W.nsIn K mainGlobals "law" = some (some (.ref f53))) (l53:Yp K "law" "law" ZdW f53 d53)
  (Zk8:PySem.W.nsIn K mainGlobals "len" = some none)
  (ZfV:PySem.W.nsIn K mainGlobals "range" = some none)
  (Zlc:PySem.W.nsIn K mainGlobals "abs" = some none)
  (UQ:PySem.W.nsIn K mainGlobals "isinstance" = some none)
  (ZjM:PySem.W.nsIn K mainGlobals "int" = some none)
  (ZhR:PySem.W.nsIn K mainGlobals "bool" = some none)
  (Zj4:PySem.W.nsIn K mainGlobals "all" = some none)
  (Zkh:PySem.W.nsIn K mainGlobals "max" = some none)
  (ZkQ:PySem.W.nsIn K mainGlobals "min" = some none)
  (Zho:PySem.W.nsIn K mainGlobals "list" = some none)
  (Zk4:PySem.W.nsIn K mainGlobals "zip" = some none)
  (ZaB:PySem.W.nsIn K mainGlobals "enumerate" = some none)
  (Zk1:PySem.W.nsIn K mainGlobals "sum" = some none)
  (ZdH:PySem.W.nsIn K mainGlobals "sorted" = some none)
  (Zgj:PySem.W.nsIn K mainGlobals "tuple" = some none)
  (Zhk:PySem.W.nsIn K mainGlobals "dict" = some none)
  (U8:PySem.W.nsIn K mainGlobals "ValueError" = some none):
  ∃fd:FuncData,(∀(s:Shared) (v:Value),BindsTo s fd ⟨[v],[]⟩ [("_law_script", v)]) /\ ∀base:Heap,K.In base->base.Ns mainGlobals mg->Yc l.prog w K mg base J9 15 fa fd ["_law_script"] (Zig K):=by
 have e:=hfa.symm.trans (PySem.W.mg_of X G a53)
 cases e
 have Yw:mg "len" = none:=PySem.W.mg_none_of X G Zk8
 have ZT:mg "range" = none:=PySem.W.mg_none_of X G ZfV
 have Zbo:mg "abs" = none:=PySem.W.mg_none_of X G Zlc
 have ZF:mg "isinstance" = none:=PySem.W.mg_none_of X G UQ
 have Zaj:mg "int" = none:=PySem.W.mg_none_of X G ZjM
 have Zcl:mg "bool" = none:=PySem.W.mg_none_of X G ZhR
 have Zee:mg "all" = none:=PySem.W.mg_none_of X G Zj4
 have GS:mg "max" = none:=PySem.W.mg_none_of X G Zkh
 have Zbr:mg "min" = none:=PySem.W.mg_none_of X G ZkQ
 have Yj:mg "list" = none:=PySem.W.mg_none_of X G Zho
 have Zcb:mg "zip" = none:=PySem.W.mg_none_of X G Zk4
 have ZA:mg "enumerate" = none:=PySem.W.mg_none_of X G ZaB
 have ZeO:mg "sum" = none:=PySem.W.mg_none_of X G Zk1
 have W4:mg "sorted" = none:=PySem.W.mg_none_of X G ZdH
 have JU:mg "tuple" = none:=PySem.W.mg_none_of X G Zgj
 have ZhO:mg "dict" = none:=PySem.W.mg_none_of X G Zhk
 have UK:mg "ValueError" = none:=PySem.W.mg_none_of X G U8
 have U1:mg "FrontError" = some (.ref YA):=PySem.W.mg_of X G Ue
 have J7:mg "NoHeights" = some (.ref ZW):=PySem.W.mg_of X G U2
 have Zcn:mg "TooMany" = some (.ref Wz):=PySem.W.mg_of X G Zbv
 have ZcN:mg "NoTable" = some (.ref Wq):=PySem.W.mg_of X G Zbu
 have Zau:mg "NoSetting" = some (.ref Jq):=PySem.W.mg_of X G U7
 have J0:mg "NoBanding" = some (.ref Zk):=PySem.W.mg_of X G US
 have Zek:mg "NoMove" = some (.ref JM):=PySem.W.mg_of X G Zcs
 have Zeu:mg "NoName" = some (.ref JR):=PySem.W.mg_of X G ZcO
 have Zcu:mg "NoPaper" = some (.ref Jh):=PySem.W.mg_of X G ZbG
 have Zfs:mg "NoRow" = some (.ref WL):=PySem.W.mg_of X G ZdR
 have ZdX:mg "NoText" = some (.ref JQ):=PySem.W.mg_of X G Zcm
 have Zc0:=l0
 have Zhi:=Zc0.binds (ps:=["_law_bag_here", "_law_many"]) fun _ _ _ _ _ _=>us2 fun _ _=>rfl
 have Zd0:=l1
 have Zhy:=Zd0.binds (ps:=["_law_script", "_law_at"]) fun _ _ _ _ _ _=>us2 fun _ _=>rfl
 have ZaV:=l2
 have ZdJ:=ZaV.binds (ps:=["_law_bag_here", "_law_births", "_law_most"]) fun _ _ _ _ _ _=>us3 fun _ _ _=>rfl
 have Zc5:=l3
 have Zgn:=Zc5.binds (ps:=["_law_bag_here", "_law_most"]) fun _ _ _ _ _ _=>us2 fun _ _=>rfl
 have Zej:=l4
 have Zh3:=Zej.binds (ps:=["_law_bag_here", "_law_most"]) fun _ _ _ _ _ _=>us2 fun _ _=>rfl
 have Zb2:=l5
 have ZfO:=Zb2.binds (ps:=["_law_thing"]) fun _ _ _ _ _ _=>us1 fun _=>rfl
 have Zax:=l6
 have Zep:=Zax.binds (ps:=["_law_thing"]) fun _ _ _ _ _ _=>us1 fun _=>rfl
 have Zfi:=l7
 have ZiO:=Zfi.binds (ps:=["drawing"]) fun _ _ _ _ _ _=>us1 fun _=>rfl
 have Zc1:=l8
 have Zgw:=Zc1.binds (ps:=["_law_drawing_here"]) fun _ _ _ _ _ _=>us1 fun _=>rfl
 have ZbK:=l9
 have Zfq:=ZbK.binds (ps:=["drawing", "kind"]) fun _ _ _ _ _ _=>us2 fun _ _=>rfl
 have Ze1:=l10
 have Zjt:=Ze1.binds (ps:=["drawing"]) fun _ _ _ _ _ _=>us1 fun _=>rfl
 have Zeb:=l11
 have ZhK:=Zeb.binds (ps:=["drawing"]) fun _ _ _ _ _ _=>us1 fun _=>rfl
 have Zbk:=l12
 have ZeA:=Zbk.binds (ps:=["drawing", "numbers"]) fun _ _ _ _ _ _=>us2 fun _ _=>rfl
 have ZcS:=l13
 have Zgy:=ZcS.binds (ps:=["drawing"]) fun _ _ _ _ _ _=>us1 fun _=>rfl
 have ZcW:=l14
 have ZgO:=ZcW.binds (ps:=["thread"]) fun _ _ _ _ _ _=>us1 fun _=>rfl
 have Zc4:=l15
 have ZgT:=Zc4.binds (ps:=["drawing"]) fun _ _ _ _ _ _=>us1 fun _=>rfl
 have ZcZ:=l16
 have Zgq:=ZcZ.binds (ps:=["first", "mates"]) fun _ _ _ _ _ _=>us2 fun _ _=>rfl
 have Ziq:=l17
 have Zlu:=Ziq.binds (ps:=["drawing"]) fun _ _ _ _ _ _=>us1 fun _=>rfl
 have ZbQ:=l18
 have Zf7:=ZbQ.binds (ps:=["_law_drawing_here"]) fun _ _ _ _ _ _=>us1 fun _=>rfl
 have Ux:=l19
 have Zcv:=Ux.binds (ps:=["drawing"]) fun _ _ _ _ _ _=>us1 fun _=>rfl
 have Zce:=l20
 have Zfy:=Zce.binds (ps:=["tour", "uppers"]) fun _ _ _ _ _ _=>us2 fun _ _=>rfl
 have Zir:=l21
 have ZlP:=Zir.binds (ps:=["drawing"]) fun _ _ _ _ _ _=>us1 fun _=>rfl
 have Zaf:=l22
 have Zdf:=Zaf.binds (ps:=["tour", "uppers"]) fun _ _ _ _ _ _=>us2 fun _ _=>rfl
 have ZcT:=l23
 have Zgz:=ZcT.binds (ps:=["drawing", "scale"]) fun _ _ _ _ _ _=>us2 fun _ _=>rfl
 have Us:=l24
 have Zcz:=Us.binds (ps:=["drawing", "scale"]) fun _ _ _ _ _ _=>us2 fun _ _=>rfl
 have ZaC:=l25
 have ZdF:=ZaC.binds (ps:=["_law_drawing_here", "_law_scale"]) fun _ _ _ _ _ _=>us2 fun _ _=>rfl
 have Zbp:=l26
 have Zey:=Zbp.binds (ps:=["_law_bag_here", "_law_letters", "_law_most"]) fun _ _ _ _ _ _=>us3 fun _ _ _=>rfl
 have Za0:=l27
 have Zeo:=Za0.binds (ps:=["drawing", "scale"]) fun _ _ _ _ _ _=>us2 fun _ _=>rfl
 have Ge:=l28
 have Zbj:=Ge.binds (ps:=["_law_drawing_here", "_law_scale"]) fun _ _ _ _ _ _=>us2 fun _ _=>rfl
 have ZbV:=l29
 have Zfo:=ZbV.binds (ps:=["_law_bag_here", "_law_most"]) fun _ _ _ _ _ _=>us2 fun _ _=>rfl
 have Zbl:=l30
 have Zew:=Zbl.binds (ps:=["_law_drawing_here"]) fun _ _ _ _ _ _=>us1 fun _=>rfl
 have Wm:=l31
 have Zan:=Wm.binds (ps:=["_law_drawing_here", "_law_scale"]) fun _ _ _ _ _ _=>us2 fun _ _=>rfl
 have Zae:=l32
 have Zdk:=Zae.binds (ps:=["partners", "k"]) fun _ _ _ _ _ _=>us2 fun _ _=>rfl
 have Ul:=l33
 have ZcB:=Ul.binds (ps:=["partners", "k"]) fun _ _ _ _ _ _=>us2 fun _ _=>rfl
 have Zad:=l34
 have Zdi:=Zad.binds (ps:=["partners", "k"]) fun _ _ _ _ _ _=>us2 fun _ _=>rfl
 have Zb3:=l35
 have Zgg:=Zb3.binds (ps:=["partners", "k"]) fun _ _ _ _ _ _=>us2 fun _ _=>rfl
 have ZeZ:=l36
 have Zjv:=ZeZ.binds (ps:=["partners", "letter", "height"]) fun _ _ _ _ _ _=>us3 fun _ _ _=>rfl
 have Zah:=l37
 have Zde:=Zah.binds (ps:=["_law_partners", "_law_k"]) fun _ _ _ _ _ _=>us2 fun _ _=>rfl
 have Zal:=l38
 have Zda:=Zal.binds (ps:=["_law_partners", "_law_letter"]) fun _ _ _ _ _ _=>us2 fun _ _=>rfl
 have ZdM:=l39
 have ZhM:=ZdM.binds (ps:=["thing"]) fun _ _ _ _ _ _=>us1 fun _=>rfl
 have Za1:=l40
 have Zen:=Za1.binds (ps:=["drawing"]) fun _ _ _ _ _ _=>us1 fun _=>rfl
 have Zfl:=l41
 have ZiQ:=Zfl.binds (ps:=["partners", "letter", "height"]) fun _ _ _ _ _ _=>us3 fun _ _ _=>rfl
 have ZcV:=l42
 have ZgF:=ZcV.binds (ps:=["thing", "allowed"]) fun _ _ _ _ _ _=>us2 fun _ _=>rfl
 have GW:=l43
 have ZbT:=GW.binds (ps:=["drawing", "scale"]) fun _ _ _ _ _ _=>us2 fun _ _=>rfl
 have GA:=l44
 have ZbH:=GA.binds (ps:=["drawing", "scale", "thing"]) fun _ _ _ _ _ _=>us3 fun _ _ _=>rfl
 have ZaS:=l45
 have Zec:=ZaS.binds (ps:=["drawing", "scale", "thing"]) fun _ _ _ _ _ _=>us3 fun _ _ _=>rfl
 have Zin:=l46
 have ZlZ:=Zin.binds (ps:=["drawing", "scale", "banding"]) fun _ _ _ _ _ _=>us3 fun _ _ _=>rfl
 have ZcY:=l47
 have Zhf:=ZcY.binds (ps:=["_law_drawing_here", "_law_scale", "_law_changed"]) fun _ _ _ _ _ _=>us3 fun _ _ _=>rfl
 have Zb4:=l48
 have Zft:=Zb4.binds (ps:=["_law_drawing_here", "_law_scale", "_law_changed"]) fun _ _ _ _ _ _=>us3 fun _ _ _=>rfl
 have ZbW:=l49
 have ZfL:=ZbW.binds (ps:=["_law_drawing_here", "_law_scale", "_law_bag_here"]) fun _ _ _ _ _ _=>us3 fun _ _ _=>rfl
 have Zc2:=l50
 have Zgv:=Zc2.binds (ps:=["_law_e", "_law_due"]) fun _ _ _ _ _ _=>us2 fun _ _=>rfl
 have ZaA:=l51
 have Zeq:=ZaA.binds (ps:=["_law_drawing_here", "_law_scale", "_law_thing"]) fun _ _ _ _ _ _=>us3 fun _ _ _=>rfl
 have ZcX:=l52
 have Zgm:=ZcX.binds (ps:=["_law_drawing_here", "_law_scale", "_law_one"]) fun _ _ _ _ _ _=>us3 fun _ _ _=>rfl
 have ZmL:=l53
 have ZpZ:=ZmL.binds (ps:=["_law_script"]) fun _ _ _ _ _ _=>us1 fun _=>rfl
 obtain ⟨oc,od,kV,dc,pm,an,cd,ct,sl,rfl,_,_⟩:=l53.ex
 refine ⟨PySem.W.fnOf "law" "law" (Zb6 ZdW) (GR ZdW) (Zh ZdW) .none kV dc pm an cd ct,fun s v=>.of_eq rfl,fun base _ _=>?_⟩
 have Zw:Yk l.prog w K mg base 1 "_law_take" ["_law_bag_here", "_law_many"] Zaz:=ZL (Zlx Zc0) (PySem.W.mg_of X G a0) l0.kp Zhi
 have UU:Yk l.prog w K mg base 1 "_law_bag" ["_law_script", "_law_at"] (ZjD K):=ZL (Zno Zd0 Yw Zbo) (PySem.W.mg_of X G a1) l1.kp Zhy
 have Gy:Yk l.prog w K mg base 2 "_law_drawing" ["_law_bag_here", "_law_births", "_law_most"] (Zhm 0):=ZL (Zlt ZaV Zw ZT) (PySem.W.mg_of X G a2) l2.kp ZdJ
 have J5:Yk l.prog w K mg base 2 "_law_plat" ["_law_bag_here", "_law_most"] Zev:=ZL (ZlO Zc5 Zw ZT) (PySem.W.mg_of X G a3) l3.kp Zgn
 have ZbB:Yk l.prog w K mg base 3 "_law_any" ["_law_bag_here", "_law_most"] Zev:=ZL (Znu Zej Zw J5 Gy) (PySem.W.mg_of X G a4) l4.kp Zh3
 have UO:Yk l.prog w K mg base 1 "_law_whole" ["_law_thing"] Zgk:=ZL (ZjT Zb2 ZF Zaj Zcl) (PySem.W.mg_of X G a5) l5.kp ZfO
 have Gz:Yk l.prog w K mg base 2 "_law_numbers" ["_law_thing"] ZcM:=ZL (Zhs Zax UO ZF Yj Zee) (PySem.W.mg_of X G a6) l6.kp Zep
 have Zcq:Yk l.prog w K mg base 1 "threads" ["drawing"] ZaR:=ZL (ZhG Zfi Yj) (PySem.W.mg_of X G a7) l7.kp ZiO
 have YN:Yk l.prog w K mg base 1 "_law_rows" ["_law_drawing_here"] ZaR:=ZL (Zl0 Zc1 Yj) (PySem.W.mg_of X G a8) l8.kp Zgw
 have JF:Yk l.prog w K mg base 1 "letters_of" ["drawing", "kind"] Za4:=ZL (Zht ZbK ZA) (PySem.W.mg_of X G a9) l9.kp Zfq
 have JD:Yk l.prog w K mg base 2 "ends_of" ["drawing"] (Ur fun x=>decide (x = "end")):=ZL (ZlJ Ze1 JF) (PySem.W.mg_of X G a10) l10.kp Zjt
 have Wt:Yk l.prog w K mg base 1 "names_of" ["drawing"] (Ur fun x=>!decide (x = "born")):=ZL (Zj3 Zeb ZA) (PySem.W.mg_of X G a11) l11.kp ZhK
 have Ji:Yk l.prog w K mg base 2 "pairs_ahead" ["drawing", "numbers"] Zdz:=ZL (Zkt Zbk Zcq) (PySem.W.mg_of X G a12) l12.kp ZeA
 have J2:Yk l.prog w K mg base 3 "end_pairs" ["drawing"] Zgh:=ZL (ZfI ZcS Ji JD) (PySem.W.mg_of X G a13) l13.kp Zgy
 have Ju:Yk l.prog w K mg base 1 "born_with" ["thread"] Zmc:=ZL (ZoZ ZcW) (PySem.W.mg_of X G a14) l14.kp ZgO
 have ZaO:Yk l.prog w K mg base 4 "end_mates" ["drawing"] ZfW:=ZL (Zke Zc4 J2 Yw) (PySem.W.mg_of X G a15) l15.kp ZgT
 have ZaY:Yk l.prog w K mg base 2 "tour_from" ["first", "mates"] ZhV:=ZL (Zls ZcZ Ju) (PySem.W.mg_of X G a16) l16.kp Zgq
 have Zbb:Yk l.prog w K mg base 5 "tours" ["drawing"] Zdx:=ZL (ZjS Ziq ZaO ZaY Yw ZT) (PySem.W.mg_of X G a17) l17.kp Zlu
 have UY:Yk l.prog w K mg base 2 "_law_walks" ["_law_drawing_here"] Zfn:=ZL (ZkK ZbQ YN ZA W4 Zbo) (PySem.W.mg_of X G a18) l18.kp Zf7
 have YF:Yk l.prog w K mg base 4 "uppers_at_ends" ["drawing"] ZbM:=ZL (Zjf Ux JD J2 Yw) (PySem.W.mg_of X G a19) l19.kp Zcv
 have Jw:Yk l.prog w K mg base 2 "steps_down" ["tour", "uppers"] Zds:=ZL (Zkb Zce Ju ZA) (PySem.W.mg_of X G a20) l20.kp Zfy
 have ZfH:Yk l.prog w K mg base 6 "turns" ["drawing"] ZfF:=ZL (Zk6 Zir YF Jw Zbb Zbo ZeO) (PySem.W.mg_of X G a21) l21.kp ZlP
 have W9:Yk l.prog w K mg base 3 "heights_along" ["tour", "uppers"] Zn8:=ZL (Zot Zaf Jw Yw Zcb) (PySem.W.mg_of X G a22) l22.kp Zdf
 have ZaH:Yk l.prog w K mg base 7 "has_scale" ["drawing", "scale"] Zm6:=ZL (Zow ZcT ZfH) (PySem.W.mg_of X G a23) l23.kp Zgz
 have Wu:Zdb l.prog w K mg base 8 "thread_heights" ["drawing", "scale"] (ZmY ZW):=Zdn (Zov Us J7 W3 ZaH JD Zbb YF W9 Yw) (PySem.W.mg_of X G a24) l24.kp Zcz
 have GI:Yk l.prog w K mg base 3 "_law_heights" ["_law_drawing_here", "_law_scale"] ZnY:=ZL (ZoJ ZaC UY YN ZA ZeO Yw ZT) (PySem.W.mg_of X G a25) l25.kp ZdF
 have Ug:Yk l.prog w K mg base 2 "_law_curled" ["_law_bag_here", "_law_letters", "_law_most"] Zf9:=ZL (Zi0 Zbp Zw Yj ZT Yw GS) (PySem.W.mg_of X G a26) l26.kp Zey
 have GG:Zdb l.prog w K mg base 9 "name_heights" ["drawing", "scale"] (Znn ZW):=Zdn (ZoV Za0 Wu Ji Wt) (PySem.W.mg_of X G a27) l27.kp Zeo
 have Yo:Yk l.prog w K mg base 4 "_law_name_heights" ["_law_drawing_here", "_law_scale"] ZiA:=ZL (Znc Ge GI YN ZA) (PySem.W.mg_of X G a28) l28.kp Zbj
 have UH:Yk l.prog w K mg base 4 "_law_front" ["_law_bag_here", "_law_most"] ZfN:=ZL (Zkg ZbV Zw ZbB J5 Ug ZT Yw GS Zbr) (PySem.W.mg_of X G a29) l29.kp Zfo
 have Ub:Yk l.prog w K mg base 5 "_law_scales" ["_law_drawing_here"] Zel:=ZL (ZiS Zbl Yo) (PySem.W.mg_of X G a30) l30.kp Zew
 have ZN:Yk l.prog w K mg base 5 "_law_letter_heights" ["_law_drawing_here", "_law_scale"] ZdN:=ZL (Zl6 Wm Yo Yj) (PySem.W.mg_of X G a31) l31.kp Zan
 have Gb:Yk l.prog w K mg base 1 "partners_born" ["partners", "k"] ZfZ:=ZL (Zkj Zae JU) (PySem.W.mg_of X G a32) l32.kp Zdk
 have Wx:Yk l.prog w K mg base 1 "partners_ended" ["partners", "k"] Zh1:=ZL (Zlq Ul JU) (PySem.W.mg_of X G a33) l33.kp ZcB
 have Gd:Yk l.prog w K mg base 1 "partners_kept" ["partners", "k"] Zfv:=ZL (ZkL Zad JU Yj) (PySem.W.mg_of X G a34) l34.kp Zdi
 have Jz:Yk l.prog w K mg base 1 "is_tangled" ["partners", "k"] Zfw:=ZL (ZlY Zb3 W4) (PySem.W.mg_of X G a35) l35.kp Zgg
 have ZcL:Yk l.prog w K mg base 2 "ways_on" ["partners", "letter", "height"] ZhX:=ZL (Zl1 ZeZ Gb Wx Gd Jz) (PySem.W.mg_of X G a36) l36.kp Zjv
 have Yf:Yk l.prog w K mg base 1 "_law_is_apart" ["_law_partners", "_law_k"] Zca:=ZL (Zkz Zah Zbr GS) (PySem.W.mg_of X G a37) l37.kp Zde
 have YM:Yk l.prog w K mg base 1 "_law_moved_on" ["_law_partners", "_law_letter"] Zdw:=ZL (ZjZ Zal Zaj) (PySem.W.mg_of X G a38) l38.kp Zda
 have Zbz:Yk l.prog w K mg base 1 "is_whole" ["thing"] ZdK:=ZL (ZhS ZdM ZF Zaj Zcl) (PySem.W.mg_of X G a39) l39.kp ZhM
 have YW:Yk l.prog w K mg base 2 "crossings_of" ["drawing"] (Ur fun x=>decide (x = "cross")):=ZL (Zfu Za1 JF) (PySem.W.mg_of X G a40) l40.kp Zen
 have ZcE:Yk l.prog w K mg base 2 "is_free" ["partners", "letter", "height"] Zh4:=ZL (Zl8 Zfl Jz) (PySem.W.mg_of X G a41) l41.kp ZiQ
 have ZaU:Yk l.prog w K mg base 2 "is_rising" ["thing", "allowed"] Zeg:=ZL (Zjm ZcV Zbz ZF Yj Zee Zcb) (PySem.W.mg_of X G a42) l42.kp ZgF
 have Yu:Yk l.prog w K mg base 10 "heights_by_name" ["drawing", "scale"] Zmn:=ZL (ZoE GW Wt GG ZhO Zcb) (PySem.W.mg_of X G a43) l43.kp ZbT
 have JY:Yk l.prog w K mg base 11 "partners_through" ["drawing", "scale", "thing"] ZhA:=ZL (Zl9 GA Yu ZaU YW ZcL ZA) (PySem.W.mg_of X G a44) l44.kp ZbH
 have GB:Zdb l.prog w K mg base 12 "banding_rows" ["drawing", "scale", "thing"] (ZfA Zk):=Zdn (Zj6 ZaS J0 WQ JY) (PySem.W.mg_of X G a45) l45.kp Zec
 have Gm:Zdb l.prog w K mg base 13 "loose" ["drawing", "scale", "banding"] (Zch Zk):=Zdn (ZjW Zin GB Yu YW ZcE) (PySem.W.mg_of X G a46) l46.kp ZlZ
 have J3:Yk l.prog w K mg base 6 "_law_walk" ["_law_drawing_here", "_law_scale", "_law_changed"] Zfr:=ZL (Zln ZcY ZN YM Yf ZA Yj) (PySem.W.mg_of X G a47) l47.kp Zhf
 have UT:Yk l.prog w K mg base 7 "_law_loose" ["_law_drawing_here", "_law_scale", "_law_changed"] Zhq:=ZL (Zmm Zb4 ZN J3 Yf ZA) (PySem.W.mg_of X G a48) l48.kp Zft
 have U4:Yk l.prog w K mg base 6 "_law_grown" ["_law_drawing_here", "_law_scale", "_law_bag_here"] Zf8:=ZL (Zj0 ZbW ZN YM Yf Zw ZA) (PySem.W.mg_of X G a49) l49.kp ZfL
 have Zat:Zlv l.prog w K mg base 1 "_law_only" ["_law_e", "_law_due"] (Zhl Zk):=ZlW (Zlm Zc2 J7 Zcn ZcN Zau J0 Zek Zeu Zcu Zfs ZdX xc q0 q1 q2 q3 q4 q5 q6 q7 q8 q9 qv ZF UK ZT) (PySem.W.mg_of X G a50) l50.kp Zgv
 have Wg:Yk l.prog w K mg base 14 "_law_refused" ["_law_drawing_here", "_law_scale", "_law_thing"] Zk3:=ZL (ZhY ZaA U1 We WR Gm Zat Yj) (PySem.W.mg_of X G a51) l51.kp Zeq
 have ZaP:Yk l.prog w K mg base 14 "_law_good" ["_law_drawing_here", "_law_scale", "_law_one"] ZnB:=ZL (ZlG ZcX Gm UT Gz Yj ZT) (PySem.W.mg_of X G a52) l52.kp Zgm
 exact Znj ZmL UU UH Ub U4 J3 Wg ZaP Gm ZT Yw GS Zbr JU
theorem walk {l:PySem.W.OpenLaw}{q:Program}{loose:List Str}{XP:(Str->Option Value)->Heap->Prop}{YP:World->Heap->Prop}{d:DefRec}{K:Params->PySem.W.Frag} (hn:l.most=some 63) (hdf:d.params.defaults = [])
  (hY:∀(w:World) (h:Heap),YP w h->(K w.params).In h)
  (F:∀(w:World) (mg:Str->Option Value) (fa:Addr) (h:Heap),(K w.params).In h->h.Ns mainGlobals mg->mg d.name=some (.ref fa) ->
   ∃fd:FuncData,(∀(s:Shared) (u:Value),BindsTo s fd ⟨[u],[]⟩ [("_law_script", u)]) /\ ∀base:Heap,(K w.params).In base->base.Ns mainGlobals mg->Yc l.prog w (K w.params) mg base J9 15 fa fd ["_law_script"] (Zig (K w.params))):
  PySem.W.WalkO q loose XP YP l.row.toRowW d [] (fun f vs=>PySem.call f vs):=
 L2.ZlV (n:=63) (k:=15) (x := "_law_script") (CX:=fun _=>J9) (sp:=fun w=>Zig (K w.params)) hn (by decide) hdf ⟨rfl,by decide,by decide⟩ hY F (fun _ _ a ns hl _ hS=>⟨a,ns,rfl,hS,hl,fun _=>rfl⟩) fun _ _ _ _ _ z=>z
end
end Qk40
namespace PySem.W.Fast
def tw5927203119358704672:=0
def tw4958793429250930752:=0
def tw16037550918917116128:=0
def tw4536799299640077536:=0
def tw13873125050224314720:=0
def tw900024029261074848:=0
def tw8168622113850257984:=0
def tw12503544382064029248:=0
def tw9473976626621690432:=0
def tw6029958586874116896:=0
def tw5506932223088860992:=0
def tw5594181433799773024:=0
def tw7281844310681126880:=0
def tw17475556158211999712:=0
def tw14492180603969205216:=0
def tw17392472548834059297:=0
def tw8363143715016602721:=0
def tw1265157476582123681:=0
def tw11049632603741832353:=0
def tw13187220135272708289:=0
def tw4044780046485402849:=0
def tw14368642944508501281:=0
def tw4831584307444018465:=0
def tw11187986623240980897:=0
def tw820115217751676385:=0
def tw14051828002328467937:=0
def tw14284287927932956225:=0
def tw9684380838329446977:=0
def tw9799108634361051745:=0
def tw16906842956859119329:=0
def tw1730107779307113249:=0
def tw4226250592726257473:=0
def tw18010595915268627297:=0
def tw14831727986877963105:=0
def tw13142584394335646625:=0
def tw10811406560754046913:=0
def tw12605358332317208674:=0
def tw16533799104882648194:=0
def tw6431924486580436130:=0
def tw6350722448394090658:=0
def tw16416730794265919682:=0
def tw9404623891861773762:=0
def tw18299207461111225858:=0
def tw13552621388246014530:=0
def tw8045448619902863938:=0
def tw16948857837995908674:=0
def tw14278544867156051650:=0
def tw5313872550326141762:=0
def tw12065318788739860515:=0
def tw5976836762774233123:=0
def tw2027935211087427683:=0
def tw14943004158625826915:=0
def tw3397227904760641667:=0
def tw14605917879335293091:=0
def tw8684033977630097027:=0
def tw878120693214064323:=0
def tw17617911994608505571:=0
def tw18129202266965635811:=0
def tw2637949204606535587:=0
def tw12063005491947856900:=0
def tw12181231615577132100:=0
def tw15003305136794642500:=0
def tw14823790722771805444:=0
def tw8611665056805899556:=0
def tw2043849770895592932:=0
def tw12718888378161997284:=0
def tw10126264176408124900:=0
def tw7124943759172317828:=0
def tw15059998881886175012:=0
def tw14283304885592119076:=0
def tw9617609446714523460:=0
def tw6636876714191005604:=0
def tw5449213354685858788:=0
def tw18200836033335782405:=0
def tw3656146434658430981:=0
def tw161795977061642309:=0
def tw10920812038997612677:=0
def tw17551153570553473189:=0
def tw13092778756982557893:=0
def tw10704685143445569829:=0
def tw10394147092969296165:=0
def tw2963994608022111557:=0
def tw1777610571404505477:=0
def tw12559084653055993317:=0
def tw5756932592799189541:=0
def tw8741207319742463557:=0
def tw1046495227961115205:=0
def tw17209449359897421477:=0
def tw10519609822185692005:=0
def tw7030794080102948870:=0
def tw10584820450389269542:=0
def tw10534024489324255366:=0
def tw10240871806298765446:=0
def tw10512545470457206950:=0
def tw15672562442133234854:=0
def tw1946420818300801286:=0
def tw7114944805033616710:=0
def tw15779564591143566726:=0
def tw17510881081258339718:=0
def tw13153757683588671910:=0
def tw535662372874610246:=0
def tw2975746811790465670:=0
def tw360984402062983814:=0
def tw16835036115851685702:=0
def tw1013407213065038726:=0
def tw796828269059099558:=0
def tw2801248165997176903:=0
def tw15844384315545980007:=0
def tw15885912077465092231:=0
def tw15244702201811635335:=0
def tw9264062362977519943:=0
def tw16371616612071689639:=0
def tw16815582314680124903:=0
def tw5201368775716034055:=0
def tw8973207484721133063:=0
def tw7319527927149694503:=0
def tw4450509740094857767:=0
def tw3176030154852347431:=0
def tw13445987758448433767:=0
def tw18095588794488487559:=0
def tw2015347596475650823:=0
def tw17840984096012925703:=0
def tw9792402923828912967:=0
def tw12000681502210307911:=0
def tw719903534385880903:=0
def tw1707211288179752807:=0
def tw8304899218733353831:=0
def tw10409405274462484327:=0
def tw4259379512451938247:=0
def tw6262612084357757927:=0
def tw7708879141256116552:=0
def tw2938258163999339976:=0
def tw10134485667867367880:=0
def tw17769455103694705256:=0
def tw13214782135865882312:=0
def tw15401827532353056488:=0
def tw13830131499515970312:=0
def tw7400501564002067400:=0
def tw13007843505677228008:=0
def tw15438560838653518889:=0
def tw11210030198694137929:=0
def tw1263847744542052489:=0
def tw9294457854646307017:=0
def tw6716371559741333993:=0
def tw5360672963616170505:=0
def tw9333338664041790057:=0
def tw10222859847119484585:=0
def tw12164472046418997001:=0
def tw17759286222029882153:=0
def tw6650176935867838249:=0
def tw11259436389717958633:=0
def tw7793609863244497930:=0
def tw4022126524623650026:=0
def tw1536794945482917226:=0
def tw14496757207741862346:=0
def tw13247480887664769482:=0
def tw6905431302494090762:=0
def tw873814698234528298:=0
def tw9057480468662873674:=0
def tw17015220539804869258:=0
def tw14715787163215747914:=0
def tw5686862726069696362:=0
def tw10596132069424041930:=0
def tw9281249467870293962:=0
def tw16127104011090530282:=0
def tw5732117471507987434:=0
def tw14990872141864377355:=0
def tw6342369173992476875:=0
def tw12737201905750583563:=0
def tw9594630866819249419:=0
def tw2882964140345517387:=0
def tw9269038968037241259:=0
def tw10419084599990853387:=0
def tw5863527829913569035:=0
def tw4873208179774748523:=0
def tw15588179648640720747:=0
def tw14415873178869109868:=0
def tw16861932728123918476:=0
def tw18427959447336089740:=0
def tw13676430256727849132:=0
def tw10731428758690224332:=0
def tw17359751101703547148:=0
def tw1313504425936342444:=0
def tw12674145315373275564:=0
def tw14442257969760306636:=0
def tw18290148022335042156:=0
def tw11354473859002687116:=0
def tw4477016678062347020:=0
def tw1310946763286181772:=0
def tw16928378290969946028:=0
def tw3075038109810889773:=0
def tw5692887239610679373:=0
def tw4209851137895936077:=0
def tw445674474055877805:=0
def tw10794207088202957037:=0
def tw1690089608837545293:=0
def tw6057453933335212461:=0
def tw7508967551168364013:=0
def tw9150521504442739181:=0
def tw13955441913723162189:=0
def tw14289082993273202253:=0
def tw4408354777225081709:=0
def tw16502477576559189038:=0
def tw2942104882639685742:=0
def tw8223141163759439982:=0
def tw651730758253867150:=0
def tw2848022757647518926:=0
def tw7224930265466690030:=0
def tw1930916966482321902:=0
def tw1752653991183237710:=0
def tw13770642932492259918:=0
def tw2689698784440874606:=0
def tw13865186306607278830:=0
def tw17354661398392376078:=0
def tw18310677554331287310:=0
def tw9414565714524195662:=0
def tw12631339714401527662:=0
def tw18328314091393943438:=0
def tw1657544227990783982:=0
def tw3666480739503008750:=0
def tw11132462809548287982:=0
def tw6118748177748850703:=0
def tw8951166041549216847:=0
def tw18150402191941116047:=0
def tw11486683329144316047:=0
def tw4142797351000005871:=0
def tw5189047577104427279:=0
def tw6891307589766279439:=0
def tw188583484348556623:=0
def tw4734185839376010575:=0
def tw10507026459561560431:=0
def tw5727596723500403055:=0
def tw11471283974203531631:=0
def tw5394725688043916751:=0
def tw4412787537119195663:=0
def tw13843981757792619055:=0
def tw427244135459407503:=0
def tw5118812360653219503:=0
def tw827102880131988207:=0
def tw16238046147870872431:=0
def tw9224748033150445455:=0
def tw16237665690033777808:=0
def tw10003580384730503344:=0
def tw5478427675170892016:=0
def tw17050888751677635824:=0
def tw412522921452944752:=0
def tw4648133694839701936:=0
def tw16970793403989492208:=0
def tw12980604631810085360:=0
def tw11211903698501617264:=0
def tw10286956236562971344:=0
def tw18065786412484316912:=0
def tw8132476298146796272:=0
def tw15100673045960319888:=0
def tw2193690916948902832:=0
def tw15274549494082525201:=0
def tw10564185915205616849:=0
def tw9079380761346201841:=0
def tw912153960430729617:=0
def tw14507209351890818481:=0
def tw2636269014270893585:=0
def tw11479702050426151441:=0
def tw1184776332260537905:=0
def tw4261795475408007761:=0
def tw18063754492197458641:=0
def tw17843423590833524593:=0
def tw3123042497347705874:=0
def tw14663272398658647154:=0
def tw15803035224049342610:=0
def tw11476660580239627506:=0
def tw2527704776382997810:=0
def tw8120701891497912658:=0
def tw12000512627693414770:=0
def tw16978319561346152850:=0
def tw6214382385432520114:=0
def tw6229166610465183186:=0
def tw17641204951289206290:=0
def tw7991778848110272050:=0
def tw17707052754121305682:=0
def tw13048416638787995250:=0
def tw16633434876133314322:=0
def tw15452811596039142194:=0
def tw14442782844571112274:=0
def tw13055623310880604050:=0
def tw2538764015757405106:=0
def tw9901701043441061842:=0
def tw10009906399970275282:=0
def tw6382779972077535251:=0
def tw2193736706309577843:=0
def tw17674204394124429523:=0
def tw9885764539874522387:=0
def tw10359952712796163571:=0
def tw6271407894841231891:=0
def tw13994660716583425587:=0
def tw3450710292202576435:=0
def tw6954497384184784499:=0
def tw6105427724045530963:=0
def tw9369248462768351380:=0
def tw1879264950883973268:=0
def tw5169955292707835092:=0
def tw9199833562094795028:=0
def tw15195360108459581748:=0
def tw705278834308022612:=0
def tw5260503348014205300:=0
def tw11848178458971035028:=0
def tw6538100714085091156:=0
def tw17434502622605181812:=0
def tw2867797816245597172:=0
def tw8874952143448696820:=0
def tw8901829251113700373:=0
def tw11434853645942007925:=0
def tw6979196004438126805:=0
def tw4507902067652221205:=0
def tw5103180884933313845:=0
def tw10451106187669901717:=0
def tw68733858318420469:=0
def tw3415833813145804277:=0
def tw17365115911116053109:=0
def tw16613298503763793557:=0
def tw6857719628973652629:=0
def tw736192093333441173:=0
def tw7426091013788985109:=0
def tw11586624385154201397:=0
def tw2192922178484525078:=0
def tw16380807147895394486:=0
def tw6961650101276221686:=0
def tw8655817785337405814:=0
def tw12585699439348544950:=0
def tw9986903452897913302:=0
def tw12333030534023391702:=0
def tw14790633647180534358:=0
def tw1094629744619950710:=0
def tw12194153543455495830:=0
def tw13264446273566290678:=0
def tw1431393208609988438:=0
def tw1692899630460781526:=0
def tw10118049486181708790:=0
def tw8713627621578500086:=0
def tw13293981691044320343:=0
def tw18171620753562784855:=0
def tw4629403182477736023:=0
def tw11925290097633909879:=0
def tw7884757852527586583:=0
def tw15434583465174507895:=0
def tw17590650575362708919:=0
def tw14350991284994102807:=0
def tw713693554103641719:=0
def tw17850593305521559159:=0
def tw3064914243175056055:=0
def tw10947458198046878551:=0
def tw16428134461155228503:=0
def tw9775584968164330359:=0
def tw1901194813779165047:=0
def tw11402537351736977496:=0
def tw10785487608797630552:=0
def tw3760901986698254648:=0
def tw1117797877218848056:=0
def tw6538093052976521560:=0
def tw4156516341838594424:=0
def tw17829286845957432696:=0
def tw18284703754468927000:=0
def tw7255507150943778328:=0
def tw8447661885619368504:=0
def tw8339183101275146872:=0
def tw9330513166227201688:=0
def tw379280748569539512:=0
def tw2171698416776015864:=0
def tw11685800316549340249:=0
def tw6689756956578879609:=0
def tw9112515457016078553:=0
def tw5101420752855782713:=0
def tw6566632942348920121:=0
def tw16570541526629900697:=0
def tw5978706546112632249:=0
def tw10349283348428368473:=0
def tw17330295000911328889:=0
def tw15599556465133620985:=0
def tw13297883062117222169:=0
def tw15993006963011613497:=0
def tw4772896602627591001:=0
def tw2697352041995514809:=0
def tw13784476666524547033:=0
def tw6479021647945015289:=0
def tw7263907825213759546:=0
def tw742026116980654170:=0
def tw17102337507252991226:=0
def tw7545342167303934266:=0
def tw15611652034456687962:=0
def tw10951199574582818330:=0
def tw13404584011388886586:=0
def tw15572637216030043802:=0
def tw10847739456111031962:=0
def tw7029919143547287290:=0
def tw17031336770794790714:=0
def tw7867966045340231610:=0
def tw17093416241471097850:=0
def tw7298272837209739291:=0
def tw8309528540526373947:=0
def tw17816687741268799675:=0
def tw100872286614710459:=0
def tw8495262515717776635:=0
def tw2757733523240502555:=0
def tw3852868846395089243:=0
def tw7472509747156122971:=0
def tw10020253151246964123:=0
def tw11698562720447899067:=0
def tw16563762481565280763:=0
def tw10800574098440505851:=0
def tw6203520870610113083:=0
def tw17559115778809727611:=0
def tw8681812176915242619:=0
def tw16466068296595246715:=0
def tw2952594090354118427:=0
def tw11780911458471146331:=0
def tw2651088615414269947:=0
def tw13040364477937095675:=0
def tw7458904438033440763:=0
def tw130459829831527419:=0
def tw1084932716806460476:=0
def tw2526177347186877532:=0
def tw11483791847729837212:=0
def tw6013073659205555452:=0
def tw4912710046163203356:=0
def tw1435248394276858172:=0
def tw15635614877944977756:=0
def tw4626329138196734300:=0
def tw7378554984892123516:=0
def tw18366804374561054172:=0
def tw4402190936098658844:=0
def tw8359524599438457468:=0
def tw13276243504015108796:=0
def tw10611983771731900156:=0
def tw11516897804371734492:=0
def tw16434143414155451741:=0
def tw3184744684368477629:=0
def tw16217825486388973085:=0
def tw11287004287460679229:=0
def tw17373085225409117789:=0
def tw1915285970886629053:=0
def tw4116348893842538269:=0
def tw3024611035681256221:=0
def tw5781341266849527613:=0
def tw5725014045525641085:=0
def tw1315782263692703741:=0
def tw16483482342950033470:=0
def tw2307884476013086846:=0
def tw1457874647068562558:=0
def tw14240860649460452574:=0
def tw5497824576712740158:=0
def tw5354271662561639838:=0
def tw18035904962121716222:=0
def tw2702415938436440606:=0
def tw13291083110554995262:=0
def tw17686945837971669598:=0
def tw8059192319642502846:=0
def tw9017064324908648190:=0
def tw404764848993679134:=0
def tw258326187110050622:=0
def tw5745905409671475070:=0
def tw1887071366690269086:=0
def tw2299557894042234782:=0
def tw1381719721936826302:=0
def tw8830154675685764062:=0
def tw9115296164214425663:=0
def tw8457388658257050687:=0
def tw219726873441341535:=0
def tw9134672138204061855:=0
def tw7867564171955215583:=0
def tw16543560117848672511:=0
def tw13524947068148195615:=0
def tw46595490376717727:=0
def tw48559809865886111:=0
def tw2940603668978158015:=0
def tw378998802511662623:=0
def tw1945361288896088799:=0
def tw4431095026662863615:=0
def tw13315618762273669919:=0
def tw11393471492126853983:=0
def tw14229301863262013311:=0
def tw16199810909920057247:=0
end PySem.W.Fast
open PySem PySem.W PyProof.Rows
set_option maxRecDepth 100000 in
set_option maxHeartbeats 0 in
theorem PySem.Challenge.cw_bendfronts_k40_loose_crossings_holds : PySem.Challenge.rw_bendfronts_k40_loose_crossings.Holds := by
 w_on; o_law; k_head; (case hw => w_witness2)
 k_fill
 refine Qk40.walk (l := PySem.Challenge.rw_bendfronts_k40_loose_crossings) rfl rfl (fun w h Y => PySem.W.kIn_of Y) ?F
 case F =>
  intro w mg fa h KX G hmg
  refine' Qk40.all_mk KX G hmg ?Ue ?U2 ?Zbv ?Zbu ?U7 ?US ?Zcs ?ZcO ?ZbG ?ZdR ?Zcm ?We ?W3 ?WQ ?WR ?xc ?q0 ?q1 ?q2 ?q3 ?q4 ?q5 ?q6 ?q7 ?q8 ?q9 ?qv ?a0 ?l0 ?a1 ?l1 ?a2 ?l2 ?a3 ?l3 ?a4 ?l4 ?a5 ?l5 ?a6 ?l6 ?a7 ?l7 ?a8 ?l8 ?a9 ?l9 ?a10 ?l10 ?a11 ?l11 ?a12 ?l12 ?a13 ?l13 ?a14 ?l14 ?a15 ?l15 ?a16 ?l16 ?a17 ?l17 ?a18 ?l18 ?a19 ?l19 ?a20 ?l20 ?a21 ?l21 ?a22 ?l22 ?a23 ?l23 ?a24 ?l24 ?a25 ?l25 ?a26 ?l26 ?a27 ?l27 ?a28 ?l28 ?a29 ?l29 ?a30 ?l30 ?a31 ?l31 ?a32 ?l32 ?a33 ?l33 ?a34 ?l34 ?a35 ?l35 ?a36 ?l36 ?a37 ?l37 ?a38 ?l38 ?a39 ?l39 ?a40 ?l40 ?a41 ?l41 ?a42 ?l42 ?a43 ?l43 ?a44 ?l44 ?a45 ?l45 ?a46 ?l46 ?a47 ?l47 ?a48 ?l48 ?a49 ?l49 ?a50 ?l50 ?a51 ?l51 ?a52 ?l52 ?a53 ?l53 ?Zk8 ?ZfV ?Zlc ?UQ ?ZjM ?ZhR ?Zj4 ?Zkh ?ZkQ ?Zho ?Zk4 ?ZaB ?Zk1 ?ZdH ?Zgj ?Zhk ?U8
  (case Ue => k_is)
  (case U2 => k_is)
  (case Zbv => k_is)
  (case Zbu => k_is)
  (case U7 => k_is)
  (case US => k_is)
  (case Zcs => k_is)
  (case ZcO => k_is)
  (case ZbG => k_is)
  (case ZdR => k_is)
  (case Zcm => k_is)
  (case We => k_exc)
  (case W3 => k_exc)
  (case WQ => k_exc)
  (case WR => first | k_is | rfl | decide +kernel)
  (case xc => exact ⟨by first | k_is | rfl | decide +kernel, by first | k_is | rfl | decide +kernel, by first | k_is | rfl | decide +kernel, by first | k_is | rfl | decide +kernel, by first | k_is | rfl | decide +kernel, by first | k_is | rfl | decide +kernel⟩)
  (case q0 => first | k_is | rfl | decide +kernel)
  (case q1 => first | k_is | rfl | decide +kernel)
  (case q2 => first | k_is | rfl | decide +kernel)
  (case q3 => first | k_is | rfl | decide +kernel)
  (case q4 => first | k_is | rfl | decide +kernel)
  (case q5 => first | k_is | rfl | decide +kernel)
  (case q6 => first | k_is | rfl | decide +kernel)
  (case q7 => first | k_is | rfl | decide +kernel)
  (case q8 => first | k_is | rfl | decide +kernel)
  (case q9 => first | k_is | rfl | decide +kernel)
  (case qv => first | k_is | rfl | decide +kernel)
  (case a0 => k_is)
  (case l0 => exact L2.ZH (by k_is) (by k_is) (by k_is))
  (case a1 => k_is)
  (case l1 => exact L2.ZH (by k_is) (by k_is) (by k_is))
  (case a2 => k_is)
  (case l2 => exact L2.ZH (by k_is) (by k_is) (by k_is))
  (case a3 => k_is)
  (case l3 => exact L2.ZH (by k_is) (by k_is) (by k_is))
  (case a4 => k_is)
  (case l4 => exact L2.ZH (by k_is) (by k_is) (by k_is))
  (case a5 => k_is)
  (case l5 => exact L2.ZH (by k_is) (by k_is) (by k_is))
  (case a6 => k_is)
  (case l6 => exact L2.ZH (by k_is) (by k_is) (by k_is))
  (case a7 => k_is)
  (case l7 => exact L2.ZH (by k_is) (by k_is) (by k_is))
  (case a8 => k_is)
  (case l8 => exact L2.ZH (by k_is) (by k_is) (by k_is))
  (case a9 => k_is)
  (case l9 => exact L2.ZH (by k_is) (by k_is) (by k_is))
  (case a10 => k_is)
  (case l10 => exact L2.ZH (by k_is) (by k_is) (by k_is))
  (case a11 => k_is)
  (case l11 => exact L2.ZH (by k_is) (by k_is) (by k_is))
  (case a12 => k_is)
  (case l12 => exact L2.ZH (by k_is) (by k_is) (by k_is))
  (case a13 => k_is)
  (case l13 => exact L2.ZH (by k_is) (by k_is) (by k_is))
  (case a14 => k_is)
  (case l14 => exact L2.ZH (by k_is) (by k_is) (by k_is))
  (case a15 => k_is)
  (case l15 => exact L2.ZH (by k_is) (by k_is) (by k_is))
  (case a16 => k_is)
  (case l16 => exact L2.ZH (by k_is) (by k_is) (by k_is))
  (case a17 => k_is)
  (case l17 => exact L2.ZH (by k_is) (by k_is) (by k_is))
  (case a18 => k_is)
  (case l18 => exact L2.ZH (by k_is) (by k_is) (by k_is))
  (case a19 => k_is)
  (case l19 => exact L2.ZH (by k_is) (by k_is) (by k_is))
  (case a20 => k_is)
  (case l20 => exact L2.ZH (by k_is) (by k_is) (by k_is))
  (case a21 => k_is)
  (case l21 => exact L2.ZH (by k_is) (by k_is) (by k_is))
  (case a22 => k_is)
  (case l22 => exact L2.ZH (by k_is) (by k_is) (by k_is))
  (case a23 => k_is)
  (case l23 => exact L2.ZH (by k_is) (by k_is) (by k_is))
  (case a24 => k_is)
  (case l24 => exact L2.ZH (by k_is) (by k_is) (by k_is))
  (case a25 => k_is)
  (case l25 => exact L2.ZH (by k_is) (by k_is) (by k_is))
  (case a26 => k_is)
  (case l26 => exact L2.ZH (by k_is) (by k_is) (by k_is))
  (case a27 => k_is)
  (case l27 => exact L2.ZH (by k_is) (by k_is) (by k_is))
  (case a28 => k_is)
  (case l28 => exact L2.ZH (by k_is) (by k_is) (by k_is))
  (case a29 => k_is)
  (case l29 => exact L2.ZH (by k_is) (by k_is) (by k_is))
  (case a30 => k_is)
  (case l30 => exact L2.ZH (by k_is) (by k_is) (by k_is))
  (case a31 => k_is)
  (case l31 => exact L2.ZH (by k_is) (by k_is) (by k_is))
  (case a32 => k_is)
  (case l32 => exact L2.ZH (by k_is) (by k_is) (by k_is))
  (case a33 => k_is)
  (case l33 => exact L2.ZH (by k_is) (by k_is) (by k_is))
  (case a34 => k_is)
  (case l34 => exact L2.ZH (by k_is) (by k_is) (by k_is))
  (case a35 => k_is)
  (case l35 => exact L2.ZH (by k_is) (by k_is) (by k_is))
  (case a36 => k_is)
  (case l36 => exact L2.ZH (by k_is) (by k_is) (by k_is))
  (case a37 => k_is)
  (case l37 => exact L2.ZH (by k_is) (by k_is) (by k_is))
  (case a38 => k_is)
  (case l38 => exact L2.ZH (by k_is) (by k_is) (by k_is))
  (case a39 => k_is)
  (case l39 => exact L2.ZH (by k_is) (by k_is) (by k_is))
  (case a40 => k_is)
  (case l40 => exact L2.ZH (by k_is) (by k_is) (by k_is))
  (case a41 => k_is)
  (case l41 => exact L2.ZH (by k_is) (by k_is) (by k_is))
  (case a42 => k_is)
  (case l42 => exact L2.ZH (by k_is) (by k_is) (by k_is))
  (case a43 => k_is)
  (case l43 => exact L2.ZH (by k_is) (by k_is) (by k_is))
  (case a44 => k_is)
  (case l44 => exact L2.ZH (by k_is) (by k_is) (by k_is))
  (case a45 => k_is)
  (case l45 => exact L2.ZH (by k_is) (by k_is) (by k_is))
  (case a46 => k_is)
  (case l46 => exact L2.ZH (by k_is) (by k_is) (by k_is))
  (case a47 => k_is)
  (case l47 => exact L2.ZH (by k_is) (by k_is) (by k_is))
  (case a48 => k_is)
  (case l48 => exact L2.ZH (by k_is) (by k_is) (by k_is))
  (case a49 => k_is)
  (case l49 => exact L2.ZH (by k_is) (by k_is) (by k_is))
  (case a50 => k_is)
  (case l50 => exact L2.ZH (by k_is) (by k_is) (by k_is))
  (case a51 => k_is)
  (case l51 => exact L2.ZH (by k_is) (by k_is) (by k_is))
  (case a52 => k_is)
  (case l52 => exact L2.ZH (by k_is) (by k_is) (by k_is))
  (case a53 => k_is)
  (case l53 => exact L2.ZH (by k_is) (by k_is) (by k_is))
  (case Zk8 => k_is)
  (case ZfV => k_is)
  (case Zlc => k_is)
  (case UQ => k_is)
  (case ZjM => k_is)
  (case ZhR => k_is)
  (case Zj4 => k_is)
  (case Zkh => k_is)
  (case ZkQ => k_is)
  (case Zho => k_is)
  (case Zk4 => k_is)
  (case ZaB => k_is)
  (case Zk1 => k_is)
  (case ZdH => k_is)
  (case Zgj => k_is)
  (case Zhk => k_is)
  (case U8 => k_is)

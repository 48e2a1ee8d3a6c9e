import PyProof.Rows.All
import Wide.All
import OpenK.AllK
import Wide.FinOn
import Lean
import PyProof.EqAt
import PyProof.EqKinds
import PyProof.TupleCall
import PyProof.AttrMissHeap
import PyProof.FactsAll.zip_1
import KE.KDictOf
import PyProof.Draws
import PySem.Challenge.RW_bendfronts_k19_side_by_side
set_option Elab.async false
set_option linter.all false
set_option maxRecDepth 100000
namespace L2
open PySem PySem.Spec PyProof.Rows
abbrev Key:=Sum Int Str
def ZdZ:Key->Value->Bool
 | .inl k,v=>Value.isInt k v
 | .inr x,v=>Value.isStrOf x v
def Zpj (w:World):Key->Int
 | .inl k=>hashInt k
 | .inr x=>hashStr w x
theorem Yr:∀{k:Key}{v:Value},ZdZ k v=true->(∃i t,k=Sum.inl i/\v=Value.int i t)∨(∃x t,k=Sum.inr x/\v=Value.str x t)
 | .inl i,v,h=>by
  obtain ⟨t,e⟩:=Value.isInt_shape (k:=i) (v:=v) h
  exact .inl ⟨i,t,rfl,e⟩
 | .inr x,v,h=>by
  obtain ⟨t,e⟩:=Value.isStrOf_shape (x:=x) (v:=v) h
  exact .inr ⟨x,t,rfl,e⟩
theorem ZiR (i:Int) (t:Tok):ZdZ (.inl i) (.int i t)=true:=by simp [ZdZ,Value.isInt]
theorem Zh8 (x:Str) (t:Tok):ZdZ (.inr x) (.str x t)=true:=by simp [ZdZ,Value.isStrOf]
theorem ZmU (a b:Int):decide ((Sum.inl a:Key)=Sum.inl b)=(a==b):=by
 by_cases e:a=b
 ·subst e;simp
 ·have h:¬(Sum.inl a:Key)=Sum.inl b:=fun q=>e (Sum.inl.inj q)
  rw [decide_eq_false h]
  exact (beq_eq_false_iff_ne.mpr e).symm
theorem ZnC (a b:Str):decide ((Sum.inr a:Key)=Sum.inr b)=decide (a=b):=by
 by_cases e:a=b
 ·subst e;simp
 ·have h:¬(Sum.inr a:Key)=Sum.inr b:=fun q=>e (Sum.inr.inj q)
  rw [decide_eq_false h,decide_eq_false e]
theorem Zne (a:Int) (b:Str):decide ((Sum.inl a:Key)=Sum.inr b)=false:=decide_eq_false (fun q=>nomatch q)
theorem Znk (a:Str) (b:Int):decide ((Sum.inr a:Key)=Sum.inl b)=false:=decide_eq_false (fun q=>nomatch q)
def YD (prog:Program) (w:World):PySem.KeyKind prog w Key where
 is:=ZdZ
 hash:=Zpj w
 inj:=fun v a b ha hb=>by
  rcases Yr ha with ⟨i,t,rfl,rfl⟩ | ⟨x,t,rfl,rfl⟩
  ·rcases Yr hb with ⟨j,u,rfl,e⟩ | ⟨y,u,rfl,e⟩
   ·injection e with e1 _;rw [e1]
   ·exact nomatch e
  ·rcases Yr hb with ⟨j,u,rfl,e⟩ | ⟨y,u,rfl,e⟩
   ·exact nomatch e
   ·injection e with e1 _;rw [e1]
 byValue:=fun k v h=>by
  rcases Yr h with ⟨i,t,rfl,rfl⟩ | ⟨x,t,rfl,rfl⟩<;>rfl
 pyHash:=fun hv h=>by
  rcases Yr hv with ⟨i,t,rfl,rfl⟩ | ⟨x,t,rfl,rfl⟩
  ·exact wpAny_pyHash_int h
  ·exact wpAny_pyHash_str h
 eqBool:=fun hu hv h=>by
  rcases Yr hu with ⟨i,t,rfl,rfl⟩ | ⟨x,t,rfl,rfl⟩
  ·rcases Yr hv with ⟨j,u,rfl,rfl⟩ | ⟨y,u,rfl,rfl⟩
   ·rw [ZmU] at h;exact wpAny_eqBool_int h
   ·rw [Zne] at h;exact SeqAt.EqAt.int_str i t y u _ _ _ _ h
  ·rcases Yr hv with ⟨j,u,rfl,rfl⟩ | ⟨y,u,rfl,rfl⟩
   ·rw [Znk] at h;exact SeqAt.EqAt.str_int x t j u _ _ _ _ h
   ·rw [ZnC] at h;exact wpAny_eqBool_str h
 «strs»:=fun k x t v h=>by
  rcases Yr h with ⟨i,u,rfl,e⟩ | ⟨y,u,rfl,e⟩
  ·exact nomatch e
  ·injection e with e1 _
   subst e1
   cases v<;>rfl
theorem Ze6 (prog:Program) (w:World) (i:Int) (t:Tok):(YD prog w).is (.inl i) (.int i t)=true:=ZiR i t
theorem ZfJ (prog:Program) (w:World) (x:Str) (t:Tok):(YD prog w).is (.inr x) (.str x t)=true:=Zh8 x t
inductive V where
 | non | bl (b:Bool) | int (i:Int) | str (x:Str) | byt (b:Array UInt8) | flt (b:UInt64) | ref (a:Addr) | ty (n:String)
 deriving DecidableEq
def RelV:V->Value->Prop
 | .non,u=>u=Value.none
 | .bl b,u=>u=Value.bool b
 | .int i,u=>∃t,u=Value.int i t
 | .str x,u=>∃t,u=Value.str x t
 | .byt b,u=>∃t,u=Value.bytes b t
 | .flt b,u=>∃t,u=Value.float b t
 | .ref a,u=>u=Value.ref a
 | .ty n,u=>u=Value.type n
abbrev Vals:List V->List Value->Prop:=Paired RelV
theorem Vals.length {xs:List V}{us:List Value} (r:Vals xs us):xs.length=us.length:=Paired.length r
theorem Vals.get:∀{xs:List V}{us:List Value}{i:Nat}{x:V},Vals xs us->xs[i]? = some x -> ∃u,us[i]? = some u/\RelV x u
 | _,_,_,_,.nil,e=>by simp at e
 | _,_,0,_,.cons r _,e=>by simp at e;subst e;exact ⟨_,rfl,r⟩
 | _,_,i+1,x,.cons _ t,e=>by
  obtain ⟨u,h1,h2⟩:=Vals.get (i:=i) (x:=x) t (by simpa using e)
  exact ⟨u,by simpa using h1,h2⟩
theorem Vals.set {x:V}{u:Value} (r:RelV x u):∀{xs:List V}{us:List Value} (i:Nat),Vals xs us->Vals (xs.set i x) (us.set i u)
 | _,_,_,.nil=>.nil
 | _,_,0,.cons _ t=>.cons r t
 | _,_,i+1,.cons q t=>.cons q (Vals.set r i t)
theorem Vals.append:∀{xs ys:List V}{us ws:List Value},Vals xs us->Vals ys ws->Vals (xs++ys) (us++ws)
 | _,_,_,_,.nil,s=>s
 | _,_,_,_,.cons r t,s=>.cons r (Vals.append t s)
theorem Vals.take:∀{xs:List V}{us:List Value} (n:Nat),Vals xs us->Vals (xs.take n) (us.take n)
 | _,_,0,_=>.nil
 | _,_,_+1,.nil=>.nil
 | _,_,n+1,.cons r t=>.cons r (Vals.take n t)
theorem Vals.drop:∀{xs:List V}{us:List Value} (n:Nat),Vals xs us->Vals (xs.drop n) (us.drop n)
 | _,_,0,r=>r
 | _,_,_+1,.nil=>.nil
 | _,_,n+1,.cons _ t=>Vals.drop n t
def Zdr:Option V->Option Value->Prop
 | some v,some u=>RelV v u
 | none,none=>True
 | _,_=>False
def KV {κ:Type}:List (κ × V)->List (κ × Value)->Prop:=Paired fun (p:κ × V) (q:κ × Value)=>p.1=q.1/\RelV p.2 q.2
def kV:Key->V
 | .inl i=>.int i
 | .inr x=>.str x
inductive HO where
 | lst (xs:List V)
 | tup (xs:List V)
 | dK (kvs:List (Key×V)) | dT (kvs:List (List Key×V))
 | set (S:Int->Bool) (n:Nat)
 | ins (C dx:Addr) (fs:List (Str×V))
 | own (x:Addr)
 | xd (fs:List (Str×V))
 | met (f x:Addr)
 | rng (lo hi:Int)
 | frz (o:Obj) (u:HO)
 | tbl (ps:Array Value)
 | ext (φ:Heap->Prop)
abbrev Hp:=Addr->Option HO
def upd (H:Hp) (a:Addr) (o:HO):Hp:=fun b=>if b=a then some o else H b
theorem Zb {H:Hp}{a:Addr}{o:HO}:upd H a o a=some o:=by unfold upd;rw [if_pos rfl]
theorem Zj {H:Hp}{a b:Addr}{o:HO} (h:b≠a):upd H a o b=H b:=by unfold upd;rw [if_neg h]
theorem Zhf {H:Hp}{a:Addr}{o u:HO}:upd (upd H a o) a u=upd H a u:=by
 funext b;unfold upd;split<;>rfl
theorem ZfD {H:Hp}{a b:Addr}{o u:HO} (h:H a=some o) (h':H b=some u) (d:o≠u):a≠b:=by
 intro e;subst e;rw [h] at h';exact d (Option.some.inj h')
theorem Zf {H:Hp}{a b:Addr}{o:HO} (h:H a=some o) (h':H b=none):a≠b:=by
 intro e;subst e;rw [h] at h';cases h'
section
variable (P:Program) (w:World)
def Yw (H:Hp) (h:Heap) (a:Addr):HO->Prop
 | .lst xs=>xs.length<=sizeLine /\ ∃(its:List Value) (n:Nat),Vals xs its/\h.get? a=some { cls:=.type "list", data:=.seq its.toArray n }
 | .tup xs=>xs.length<=sizeLine /\ ∃its:List Value,Vals xs its/\IsTup h a its.toArray
 | .dK kvs=>kvs.length<=sizeLine/\(a==sysModules)=false /\ ∃vs,KV kvs vs/\h.DictOf (YD P w) a vs
 | .dT kvs=>kvs.length<=sizeLine/\(a==sysModules)=false /\ ∃xs:List (List Key×Addr×Value),
   Paired (fun (p:List Key×V) (q:List Key×Addr×Value)=>p.1=q.1/\H q.2.1=some (.tup (p.1.map kV))/\RelV p.2 q.2.2) kvs xs /\
   ∃o es ep,h.get? a=some o/\o.ExactDict/\o.data = .dict es ep/\es.toList=xs.map (entryOfKey (tupleKind (YD P w)))/\(xs.map (·.1)).Nodup
 | .set S n=>h.SetOf (intKind P w) a S n
 | .ins C dx fs=>H dx=some (.own a)/\fs.length<=1000/\dx≠a/\h.get? a=some (PySem.W.instObj C dx) /\
   ∃mA,h.Ns1 dx mA/\(∀f,Zdr (fs.lookup f) (mA f))/\PySem.Within mA (fs.map (·.1))
 | .own _=>∃o,h.get? a=some o
 | .xd fs=>∃mA,h.Ns1 a mA /\ ∀f,Zdr (fs.lookup f) (mA f)
 | .rng lo hi=>∃t u v,h.get? a=some { cls:=.type "range", data:=.fields #[.int lo t,.int hi u,.int 1 v] }
 | .frz o u=>h.get? a=some o/\Yw H h a u
 | .tbl ps=>h.get? a=some { cls:=.none,data:=.fields ps }
 | .met f x=>h.get? a=some (PySem.W.methodObj (.ref f) (.ref x))
 | .ext φ=>φ h/\(∃o,h.get? a=some o) /\ ∀h1 h2:Heap,φ h1->(∀o,h1.get? a=some o->h2.get? a=some o) -> φ h2
def GN (H:Hp) (h:Heap):Prop:=∀a o,H a=some o->Yw P w H h a o
end
section
variable {P:Program}{w:World}{H H':Hp}{h h':Heap}{a:Addr}{o:HO}
theorem Yw.lt (x:Yw P w H h a o):a<h.objs.size:=by
 cases o with
 | lst xs=>obtain ⟨_,_,_,_,e⟩:=x;exact Heap.lt_size e
 | tup xs=>obtain ⟨_,_,_,p⟩:=x;exact p.lt
 | dK kvs=>obtain ⟨_,_,_,_,o,_,_,e,_⟩:=x;exact Heap.lt_size e
 | dT kvs=>obtain ⟨_,_,_,_,o,_,_,e,_⟩:=x;exact Heap.lt_size e
 | set S n=>obtain ⟨o,_,_,_,e,_⟩:=x;exact Heap.lt_size e
 | ins C dx fs=>obtain ⟨_,_,_,e,_⟩:=x;exact Heap.lt_size e
 | own y=>obtain ⟨_,e⟩:=x;exact Heap.lt_size e
 | xd fs=>obtain ⟨_,⟨_,_,_,e,_⟩,_⟩:=x;exact Heap.lt_size e
 | rng lo hi=>obtain ⟨_,_,_,e⟩:=x;exact Heap.lt_size e
 | frz ob u=>obtain ⟨e,_⟩:=x;exact Heap.lt_size e
 | tbl ps=>exact Heap.lt_size (show h.get? a=some _ from x)
 | met f y=>exact Heap.lt_size (show h.get? a=some _ from x)
 | ext φ=>obtain ⟨_,⟨_,e⟩,_⟩:=x;exact Heap.lt_size e
theorem Paired.mapP {α β:Type}{F G:α -> β -> Prop}:∀{l₁:List α}{l₂:List β},Paired F l₁ l₂->(∀a b,F a b->G a b)->Paired G l₁ l₂
 | _,_,.nil,_=>.nil
 | _,_,.cons r t,f=>.cons (f _ _ r) (Paired.mapP t f)
theorem Yw.stay (x:Yw P w H h a o) (k:∀b u,(b=a∨H b=some (.own a))->h.get? b=some u->h'.get? b=some u)
  (ho:∀b,H b=some (.own a)->H' b=some (.own a)) (ht:∀b xs,H b=some (.tup xs)->H' b=some (.tup xs)):Yw P w H' h' a o:=by
 induction o with
 | lst xs=>obtain ⟨z,its,n,r,e⟩:=x;exact ⟨z,its,n,r,k _ _ (.inl rfl) e⟩
 | tup xs=>obtain ⟨z,its,r,ob,e,c⟩:=x;exact ⟨z,its,r,ob,k _ _ (.inl rfl) e,c⟩
 | dK kvs=>obtain ⟨z,y,vs,r,ob,es,ep,e,c⟩:=x;exact ⟨z,y,vs,r,ob,es,ep,k _ _ (.inl rfl) e,c⟩
 | dT kvs=>
  obtain ⟨z,y,xs,r,ob,es,ep,e,c⟩:=x
  exact ⟨z,y,xs,Paired.mapP r fun p q z=>⟨z.1,ht _ _ z.2.1,z.2.2⟩,ob,es,ep,k _ _ (.inl rfl) e,c⟩
 | set S n=>obtain ⟨ob,es,ep,t,e,c⟩:=x;exact ⟨ob,es,ep,t,k _ _ (.inl rfl) e,c⟩
 | ins C dx fs=>
  obtain ⟨d,z,ne,e,mA,⟨od,es,ep,e2,c⟩,r⟩:=x
  exact ⟨ho _ d,z,ne,k _ _ (.inl rfl) e,mA,⟨od,es,ep,k _ _ (.inr d) e2,c⟩,r⟩
 | own y=>obtain ⟨ob,e⟩:=x;exact ⟨ob,k _ _ (.inl rfl) e⟩
 | xd fs=>obtain ⟨mA,⟨od,es,ep,e,c⟩,r⟩:=x;exact ⟨mA,⟨od,es,ep,k _ _ (.inl rfl) e,c⟩,r⟩
 | rng lo hi=>obtain ⟨t,u,v,e⟩:=x;exact ⟨t,u,v,k _ _ (.inl rfl) e⟩
 | frz ob u ih=>obtain ⟨e,q⟩:=x;exact ⟨k _ _ (.inl rfl) e,ih q⟩
 | tbl ps=>
  have e:h.get? a=some { cls:=.none,data:=.fields ps }:=x
  show h'.get? a=some { cls:=.none,data:=.fields ps }
  exact k a _ (.inl rfl) e
 | met f y=>
  have e:h.get? a=some (PySem.W.methodObj (.ref f) (.ref y)):=x
  show h'.get? a=some (PySem.W.methodObj (.ref f) (.ref y))
  exact k a _ (.inl rfl) e
 | ext φ=>obtain ⟨p,⟨o,e⟩,st⟩:=x;exact ⟨st _ _ p fun o q=>k _ _ (.inl rfl) q,⟨o,k _ _ (.inl rfl) e⟩,st⟩
theorem GN.lt (x:GN P w H h) (e:H a=some o):a<h.objs.size:=(x a o e).lt
theorem GN.fresh (x:GN P w H h) (e:h.objs.size<=a):H a=none:=by
 cases q:H a with
 | none=>rfl
 | some u=>exact absurd (Nat.lt_of_lt_of_le (x.lt q) e) (Nat.lt_irrefl _)
theorem GN.kept (x:GN P w H h) (k:∀b u,h.get? b=some u->h'.get? b=some u):GN P w H h':=fun a o e=>
 (x a o e).stay (fun b u _ q=>k b u q) (fun _ q=>q) fun _ _ q=>q
theorem GN.laid (x:GN P w H h) (k:∀b u,h.get? b=some u->h'.get? b=some u) (hp:h.objs.size<=a) (new:Yw P w (upd H a o) h' a o):GN P w (upd H a o) h':=fun b u e=>by
 have hn:=x.fresh hp
 by_cases hb:b=a
 ·subst hb;rw [Zb] at e;cases e;exact new
 ·rw [Zj hb] at e
  exact (x b u e).stay (fun c v _ q=>k c v q) (fun c q=>by rw [Zj (Zf q hn)];exact q) fun c xs q=>by rw [Zj (Zf q hn)];exact q
end
def Rd (H:Hp) (a:Addr) (u:HO):Prop:=H a=some u ∨ ∃o,H a=some (.frz o u)
theorem Rd.ok {P:Program}{w:World}{H:Hp}{h:Heap}{a:Addr}{u:HO} (r:Rd H a u) (x:GN P w H h):Yw P w H h a u:=by
 rcases r with r | ⟨o,r⟩
 ·exact x a u r
 ·obtain ⟨_,q⟩:=x a _ r
  exact q
def Mut:Option HO->Prop
 | some (.lst _)=>True
 | some (.dK _)=>True
 | some (.dT _)=>True
 | some (.set _ _)=>True
 | some (.ins _ _ _)=>True
 | some (.ext _)=>True
 | _=>False
section
variable {P:Program}{w:World}{H:Hp}{h h':Heap}{x e:Addr}{o':HO}
theorem GN.write (ok:GN P w H h) (mu:Mut (H x)) (he:e=x∨H e=some (.own x)) (k:∀b u,b≠e->h.get? b=some u->h'.get? b=some u) (heo:∃u,h'.get? e=some u)
  (new:Yw P w (upd H x o') h' x o'):GN P w (upd H x o') h':=fun b u q=>by
 have nown:∀c y,H c=some (.own y)->c≠x:=fun c y r z=>by subst z;rw [r] at mu;exact mu
 have ntup:∀c xs,H c=some (.tup xs)->c≠x:=fun c xs r z=>by subst z;rw [r] at mu;exact mu
 by_cases hb:b=x
 ·subst hb;rw [Zb] at q;cases q;exact new
 ·rw [Zj hb] at q
  by_cases hbe:b=e
  ·have q':H b=some (.own x):=by
    rcases he with z | z
    ·exact absurd (hbe.trans z) hb
    ·rw [hbe];exact z
   rw [q] at q';cases q'
   obtain ⟨v,hv⟩:=heo
   exact ⟨v,by rw [hbe];exact hv⟩
  ·refine (ok b u q).stay (fun c v hc r=>k c v ?_ r) (fun c r=>by rw [Zj (nown c b r)];exact r) fun c xs r=>by rw [Zj (ntup c xs r)];exact r
   rcases hc with rfl | hc
   ·exact hbe
   ·rintro rfl
    rcases he with z | z
    ·exact nown c b hc z
    ·rw [hc] at z;cases z;exact hb rfl
end
structure Un (fs ex:List Addr) (H H':Hp) (h h':Heap):Prop where
 keep:∀b o,h.get? b=some o->H b=none->b∉fs->b∉ex->h'.get? b=some o
 slot:∀b o,h.get? b=some o->H b=none->b∈fs->b∉ex -> ∃sl,h'.get? b=some { o with slots:=sl }
 free:∀b o,h.get? b=some o->H b=none->b∉ex->H' b=none
 there:∀b o,h.get? b=some o->b∉ex -> ∃o',h'.get? b=some o'
 tups:∀b xs,H b=some (.tup xs)->H' b=some (.tup xs)
 frzs:∀b o u,H b=some (.frz o u)->H' b=some (.frz o u)
 tbls:∀b ps,H b=some (.tbl ps) -> ∃more,H' b=some (.tbl (ps++more))
section
variable {fs fs' ex ex':List Addr}{H H1 H2:Hp}{h h1 h2 h':Heap}{a x e:Addr}{o:HO}
theorem Un.any (u:Un fs ex H H1 h h1) {b:Addr}{ob:Obj} (q:h.get? b=some ob) (n:H b=none) (hx:b∉ex):∃sl,h1.get? b=some { ob with slots:=sl }:=by
 by_cases hb:b∈fs
 ·exact u.slot b ob q n hb hx
 ·exact ⟨ob.slots,u.keep b ob q n hb hx⟩
theorem Un.kept (k:∀b u,h.get? b=some u->h'.get? b=some u):Un fs ex H H h h':=
 ⟨fun b ob q _ _ _=>k b ob q,fun b ob q _ _ _=>⟨ob.slots,k b ob q⟩,fun _ _ _ n _=>n,fun b ob q _=>⟨ob,k b ob q⟩,fun _ _ q=>q,fun _ _ _ q=>q,fun _ ps q=>⟨#[],by rw [q];simp⟩⟩
theorem Un.refl:Un fs ex H H h h:=Un.kept fun _ _ q=>q
theorem Un.laid (k:∀b u,h.get? b=some u->h'.get? b=some u) (hp:h.objs.size<=a) (hn:H a=none):Un fs ex H (upd H a o) h h' where
 keep:=fun b u q _ _ _=>k b u q
 slot:=fun b u q _ _ _=>⟨u.slots,k b u q⟩
 free:=fun b u q n _=>by rw [Zj (Nat.ne_of_lt (Nat.lt_of_lt_of_le (Heap.lt_size q) hp))];exact n
 there:=fun b u q _=>⟨u,k b u q⟩
 tups:=fun b xs q=>by rw [Zj (Zf q hn)];exact q
 frzs:=fun b u xs q=>by rw [Zj (Zf q hn)];exact q
 tbls:=fun b ps q=>⟨#[],by rw [Zj (Zf q hn),q];simp⟩
theorem Un.write (mu:Mut (H x)) (he:e=x∨H e=some (.own x)) (k:∀b u,b≠e->h.get? b=some u->h'.get? b=some u) (heo:∃u,h'.get? e=some u):Un fs ex H (upd H x o) h h':=by
 have hx:∀b,H b=none->b≠x:=fun b n z=>by subst z;rw [n] at mu;exact mu
 have hb:∀b,H b=none->b≠e:=fun b n z=>by
  subst z
  rcases he with r | r
  ·exact hx b n r
  ·rw [n] at r;cases r
 have hm:∀b u,H b=some u -> ¬Mut (some u)->b≠x:=fun b u q nm z=>by subst z;rw [q] at mu;exact nm mu
 refine ⟨fun b u q n _ _=>k b u (hb b n) q,fun b u q n _ _=>⟨u.slots,k b u (hb b n) q⟩,fun b u q n _=>by rw [Zj (hx b n)];exact n,fun b u q _=>?_,
  fun b xs q=>by rw [Zj (hm b _ q fun z=>z)];exact q,fun b u xs q=>by rw [Zj (hm b _ q fun z=>z)];exact q,fun b ps q=>⟨#[],by rw [Zj (hm b _ q fun z=>z),q];simp⟩⟩
 by_cases hbe:b=e
 ·subst hbe;exact heo
 ·exact ⟨u,k b u hbe q⟩
end
def trk (h:Heap) (H:Hp):List Addr:=(List.range h.objs.size).filter fun a=>(H a).isSome
def Zeu (h:Heap) (H:Hp):Heap:=PySem.W.hideAll h (trk h H)
theorem ZiJ (h:Heap) (H:Hp):(Zeu h H).objs.size=h.objs.size:=PySem.W.hideAll_size _ _
theorem ZjZ {h:Heap}{H:Hp}{b:Addr}{o:Obj} (e:h.get? b=some o) (n:H b=none):(Zeu h H).get? b=some o:=
 PySem.W.hideAll_get _ e fun hm=>by
  have q:(H b).isSome=true:=(List.mem_filter.mp hm).2
  rw [n] at q;simp at q
theorem ZlC {h:Heap}{H:Hp}{b:Addr}{o:Obj} (e:(Zeu h H).get? b=some o):h.get? b=some o/\H b=none:=by
 have e':h.get? b=some o:=PySem.W.of_hideAll (trk h H) e
 refine ⟨e',?_⟩
 cases q:H b with
 | none=>rfl
 | some x=>
  have hm:b∈trk h H:=List.mem_filter.mpr ⟨List.mem_range.mpr (Heap.lt_size e'),by simp [q]⟩
  have z:(Zeu h H).get? b=none:=PySem.W.hideAll_none (trk h H) hm
  rw [z] at e;cases e
def Wc (g h:Heap) (L:Addr):List (Addr×Obj):=(List.range h.objs.size).filterMap fun a=>if a=L∨(g.get? a).isSome=true then none else (h.get? a).map fun o=>(a,o)
theorem W9 {g h:Heap}{L a:Addr}{o:Obj} (h1:a≠L) (h2:g.get? a=none) (h3:h.get? a=some o):(a,o)∈Wc g h L:=
 List.mem_filterMap.mpr ⟨a,List.mem_range.mpr (Heap.lt_size h3),by simp [h1,h2,h3]⟩
theorem ZcM {g h:Heap}{L:Addr}{p:Addr×Obj} (hp:p∈Wc g h L):p.1≠L/\g.get? p.1=none/\h.get? p.1=some p.2:=by
 obtain ⟨b,_,e⟩:=List.mem_filterMap.mp hp
 split at e
 ·cases e
 ·rename_i hn
  cases q:h.get? b with
  | none=>rw [q] at e;simp at e
  | some u=>
   rw [q] at e
   simp only [Option.map_some,Option.some.injEq] at e
   subst e
   refine ⟨fun z=>hn (.inl z),?_,q⟩
   show g.get? b=none
   cases r:g.get? b with
   | none=>rfl
   | some v=>exact (hn (.inr (by simp [r]))).elim
def rest (g h:Heap) (L d:Addr):List (Addr×Obj):=(Wc g h L).filter fun p=>decide (p.1≠d)
theorem Zcn {g h:Heap}{L:Addr}:News g L h (Wc g h L):=fun p hp=>let ⟨a,b,c⟩:=ZcM hp;⟨c,a,b⟩
structure Mod (K:PySem.W.Frag) (mg:Str->Option Value) (base:Heap):Prop where
 kin:K.In base
 glob:base.Ns mainGlobals mg
 blt:∃mb,base.Ns builtinsNs mb /\ ∀x:Str,x ≠ "__name__" -> mb x=bootBuiltins x
 nolimit:base.NoLimit
structure Cx where
 prog:Program
 w:World
 K:PySem.W.Frag
 mg:Str->Option Value
 base:Heap
 A:Around
 N:List Str
 s₀:Shared
 H₀:Hp
 env:Env
 outer:List Env
 stack:List Env
 ex:List Addr
 fn:Str->Bool
 calm:Bool
 pn:List (Addr×Obj)
 xe:Value->Shared->Prop
def J5 (l:List Env):List Addr:=l.filterMap (·.frame)
abbrev Cx.fs (X:Cx):List Addr:=J5 X.outer
def Vis (sc:Scope) (x:Str):Prop:=sc.names.lookup x=some .local∨sc.names.lookup x=some .cell∨sc.names.lookup x=some .free
def Loc (sc:Scope) (x:Str):Prop:=sc.names.lookup x=some .local∨sc.names.lookup x=some .cell
def Look (env:Env) (h:Heap) (m:Str->Option Value) (x:Str) (u:Value):Prop:=
 (env.kindOf x=some .local/\m x=some u)∨((env.kindOf x=some .cell∨env.kindOf x=some .free) /\ ∃c,env.cells.lookup x=some c/\h.IsCell c (some u))
structure Cx.Ok (X:Cx):Prop where
 mod:Mod X.K X.mg X.base
 kind:X.env.scope.kind = .function
 glob:X.env.globals=mainGlobals
 blt:X.env.builtins=builtinsNs
 above:X.s₀.heap.objs.size<=X.env.locals
 inj:∀x y c,X.env.cells.lookup x=some c->X.env.cells.lookup y=some c->x=y
 has:∀x,(X.env.kindOf x=some .cell∨X.env.kindOf x=some .free) -> ∃c,X.env.cells.lookup x=some c
 cab:∀x c,X.fn x=true->X.env.cells.lookup x=some c->X.s₀.heap.objs.size<=c
 hd:X.calm=true->X.A.handled=none
 frames:X.A.frames=some X.stack
 stk:X.stack=X.outer∨(X.stack=X.env::X.outer/\X.env.frame=some X.env.locals)
 exf:∀b∈X.ex,b≠X.env.locals /\ ∀x c,X.env.cells.lookup x=some c->c≠b
 bs:∀b o,X.base.get? b=some o->X.s₀.heap.get? b=some o/\X.H₀ b=none
 bsz:X.base.objs.size<=X.s₀.heap.objs.size
 noex:∀b o,X.base.get? b=some o->b∉X.ex
 exfs:∀b∈X.ex,b∉X.fs
 funs:X.s₀.heap.FunFrames X.base X.outer
 frf:∀b∈X.fs,X.H₀ b=none
structure Inv (X:Cx) (pins:List (Addr×Obj)) (σ:List (Option V)) (H:Hp) (s:Shared):Prop where
 ok:X.Ok
 os:s.os=X.s₀.os
 bare:AllBare s.gens
 base:Un X.fs X.ex X.H₀ H X.s₀.heap s.heap
 loc:∃m,s.heap.Ns X.env.locals m /\ ∀(i:Nat) (x:Str) (v:V),X.N[i]? = some x -> σ[i]? = some (some v)->Vis X.env.scope x -> ∃u,RelV v u/\Look X.env s.heap m x u
 cell:∀x c,X.env.cells.lookup x=some c -> ∃v,s.heap.IsCell c v
 free:H X.env.locals=none
 freeC:∀x c,X.env.cells.lookup x=some c->H c=none
 pin:∀p∈X.pn++pins,s.heap.get? p.1=some p.2/\H p.1=none/\p.1≠X.env.locals/\p.1∉X.fs /\ ∀v,p.2.data ≠ .cell v
 hok:GN X.prog X.w H s.heap
 len:σ.length=X.N.length
section
variable {X:Cx}{pins:List (Addr×Obj)} {σ:List (Option V)}{H H':Hp}{s:Shared}{h':Heap}
theorem Cx.Ok.nofr (ok:X.Ok) {b:Addr}{o:Obj} (e:X.base.get? b=some o):b∉X.fs:=fun hb=>by
 have:=(ok.funs.mem hb).1
 rw [e] at this;cases this
theorem Inv.bs (I:Inv X pins σ H s):∀b o,X.base.get? b=some o->s.heap.get? b=some o/\H b=none:=fun b o e=>
 ⟨I.base.keep b o (I.ok.bs b o e).1 (I.ok.bs b o e).2 (I.ok.nofr e) (I.ok.noex b o e),I.base.free b o (I.ok.bs b o e).1 (I.ok.bs b o e).2 (I.ok.noex b o e)⟩
theorem Inv.bk (I:Inv X pins σ H s):∀b o,X.base.get? b=some o->s.heap.get? b=some o:=fun b o e=>(I.bs b o e).1
theorem Inv.mod (I:Inv X pins σ H s):Mod X.K X.mg X.base:=I.ok.mod
theorem Inv.kIn (I:Inv X pins σ H s):X.K.In s.heap:=I.ok.mod.kin.keeps I.bk
theorem Inv.fr (I:Inv X pins σ H s):∃m,Fr X.base X.env.locals s.heap m:=
 let ⟨m,hn,_⟩:=I.loc
 ⟨m,hn,I.bk,Nat.le_trans I.ok.bsz I.ok.above⟩
theorem Inv.lt (I:Inv X pins σ H s):X.env.locals<s.heap.objs.size:=let ⟨_,hn,_⟩:=I.loc;hn.lt
theorem Inv.sz (I:Inv X pins σ H s):X.s₀.heap.objs.size<=s.heap.objs.size:=Nat.le_trans I.ok.above (Nat.le_of_lt I.lt)
theorem Inv.nofs (I:Inv X pins σ H s) {a:Addr} (h:s.heap.objs.size<=a):a∉X.fs:=fun hb=>by
 obtain ⟨_,o,ho,_⟩:=I.ok.funs.mem hb
 exact absurd (Nat.lt_of_lt_of_le (Heap.lt_size ho) (Nat.le_trans I.sz h)) (Nat.lt_irrefl _)
theorem Inv.cne (I:Inv X pins σ H s):∀x c,X.env.cells.lookup x=some c->c≠X.env.locals:=fun x c e z=>by
 obtain ⟨v,o,ho,hd⟩:=I.cell x c e
 obtain ⟨m,⟨o',es,ep,ho',hd',_⟩,_⟩:=I.loc
 rw [z,ho'] at ho;cases ho;rw [hd'] at hd;cases hd
theorem Inv.funs (I:Inv X pins σ H s):s.heap.FunFrames X.base X.outer:=by
 have all:∀(l:List Env),(∀b∈J5 l,b∈X.fs)->X.s₀.heap.FunFrames X.base l->s.heap.FunFrames X.base l:=by
  intro l
  induction l with
  | nil=>intro _ _;trivial
  | cons env r ih=>
   intro hs hl
   obtain ⟨hk,⟨L,o,hf,hn,ho,hd⟩,hr⟩:=hl
   have hL:L∈X.fs:=hs L (by unfold J5;rw [List.filterMap_cons,hf];exact List.mem_cons_self)
   obtain ⟨sl,e⟩:=I.base.slot L o ho (I.ok.frf L hL) hL fun z=>I.ok.exfs L z hL
   exact ⟨hk,⟨L,_,hf,hn,e,hd⟩,ih (fun b hb=>hs b (by unfold J5;rw [List.filterMap_cons,hf];exact List.mem_cons_of_mem _ hb)) hr⟩
 exact all X.outer (fun _ hb=>hb) I.ok.funs
theorem Inv.stack (I:Inv X pins σ H s):s.heap.FunFrames X.base X.stack:=by
 rcases I.ok.stk with e | ⟨e,hf⟩
 ·rw [e];exact I.funs
 ·rw [e]
  obtain ⟨m,hn,_⟩:=I.loc
  refine .cons (by rw [I.ok.kind];decide) hf hn ?_ I.funs
  exact Heap.get?_none_of_le (Nat.le_trans I.ok.bsz I.ok.above)
theorem Inv.stkSub (I:Inv X pins σ H s):∀b∈J5 X.stack,b∈X.env.locals::X.fs:=fun b hb=>by
 rcases I.ok.stk with e | ⟨e,hf⟩
 ·rw [e] at hb;exact List.mem_cons_of_mem _ hb
 ·rw [e] at hb
  unfold J5 at hb
  rw [List.filterMap_cons,hf] at hb
  exact hb
theorem Inv.stkFree (I:Inv X pins σ H s):∀b∈J5 X.stack,H b=none:=fun b hb=>by
 rcases List.mem_cons.mp (I.stkSub b hb) with e | hb
 ·rw [e];exact I.free
 ·obtain ⟨_,o,ho,_⟩:=I.ok.funs.mem hb
  exact I.base.free b o ho (I.ok.frf b hb) fun z=>I.ok.exfs b z hb
theorem Inv.step {g':Array GenState}{t':Nat}{d':Drawn}{ch:List Addr} (I:Inv X pins σ H s)
  (hch:∀b∈ch,(b∈X.ex∨X.s₀.heap.objs.size<=b)/\b≠X.env.locals/\(∀x c,X.env.cells.lookup x=some c->c≠b) /\ ∀p∈X.pn++pins,p.1≠b)
  (keep:∀b o,b≠X.env.locals->b∉X.fs->b∉ch->s.heap.get? b=some o->H b=none->h'.get? b=some o)
  (slot:∀b o,b≠X.env.locals->b∈X.fs->b∉ch->s.heap.get? b=some o->H b=none -> ∃sl,h'.get? b=some { o with slots:=sl }) (free:∀b o,b∉ch->s.heap.get? b=some o->H b=none->H' b=none)
  (there:∀b o,b∉ch->s.heap.get? b=some o -> ∃o',h'.get? b=some o')
  (tups:∀b xs,H b=some (.tup xs)->H' b=some (.tup xs)) (frzs:∀b o u,H b=some (.frz o u)->H' b=some (.frz o u)) (tbls:∀b ps,H b=some (.tbl ps) -> ∃more,H' b=some (.tbl (ps++more)))
  (ns:∀m,s.heap.Ns X.env.locals m->h'.Ns X.env.locals m) (hok:GN X.prog X.w H' h') (hg:AllBare g'):
  Inv X pins σ H' { s with heap:=h',gens:=g',drawn:=d',toks:=t' }:=by
 have neL:∀b o,X.s₀.heap.get? b=some o->b≠X.env.locals:=fun b o e=>Nat.ne_of_lt (Nat.lt_of_lt_of_le (Heap.lt_size e) I.ok.above)
 have neC:∀b o,X.s₀.heap.get? b=some o->b∉X.ex->b∉ch:=fun b o e hx hb=>by
  rcases (hch b hb).1 with z | z
  ·exact hx z
  ·exact absurd (Nat.lt_of_lt_of_le (Heap.lt_size e) z) (Nat.lt_irrefl _)
 have cellK:∀x c,X.env.cells.lookup x=some c -> ∀v,s.heap.IsCell c v->h'.IsCell c v:=fun x c e v ⟨o,ho,hd⟩=>by
  have nch:c∉ch:=fun z=>(hch c z).2.2.1 x c e rfl
  by_cases hc:c∈X.fs
  ·obtain ⟨sl,q⟩:=slot c o (I.cne x c e) hc nch ho (I.freeC x c e)
   exact ⟨_,q,hd⟩
  ·exact ⟨o,keep c o (I.cne x c e) hc nch ho (I.freeC x c e),hd⟩
 refine ⟨I.ok,I.os,hg,⟨fun b o e n hb hx=>?_,fun b o e n hb hx=>?_,fun b o e n hx=>?_,fun b o e hx=>?_,fun b xs e=>tups b xs (I.base.tups b xs e),fun b o xs e=>frzs b o xs (I.base.frzs b o xs e),fun b ps e=>?_⟩,?_,fun x c e=>?_,?_,fun x c e=>?_,fun p hp=>?_,hok,I.len⟩
 ·exact keep b o (neL b o e) hb (neC b o e hx) (I.base.keep b o e n hb hx) (I.base.free b o e n hx)
 ·obtain ⟨sl,e1⟩:=I.base.slot b o e n hb hx
  obtain ⟨sl',e2⟩:=slot b _ (neL b o e) hb (neC b o e hx) e1 (I.base.free b o e n hx)
  exact ⟨sl',e2⟩
 ·obtain ⟨o',e1⟩:=I.base.there b o e hx
  exact free b o' (neC b o e hx) e1 (I.base.free b o e n hx)
 ·obtain ⟨o',e1⟩:=I.base.there b o e hx
  exact there b o' (neC b o e hx) e1
 ·obtain ⟨m1,e1⟩:=I.base.tbls b ps e
  obtain ⟨m2,e2⟩:=tbls b _ e1
  exact ⟨m1++m2,by rw [e2,Array.append_assoc]⟩
 ·obtain ⟨m,hn,hl⟩:=I.loc
  refine ⟨m,ns m hn,fun i x v e1 e2 e3=>?_⟩
  obtain ⟨u,r,l⟩:=hl i x v e1 e2 e3
  refine ⟨u,r,?_⟩
  rcases l with l | ⟨k,c,e,z⟩
  ·exact .inl l
  ·exact .inr ⟨k,c,e,cellK x c e _ z⟩
 ·obtain ⟨v,z⟩:=I.cell x c e
  exact ⟨v,cellK x c e v z⟩
 ·obtain ⟨m,⟨o,_,_,ho,_⟩,_⟩:=I.loc
  exact free _ o (fun z=>(hch _ z).2.1 rfl) ho I.free
 ·obtain ⟨v,o,ho,hd⟩:=I.cell x c e
  exact free c o (fun z=>(hch c z).2.2.1 x c e rfl) ho (I.freeC x c e)
 ·obtain ⟨e,n,ne,nf,d⟩:=I.pin p hp
  have nch:p.1∉ch:=fun z=>(hch p.1 z).2.2.2 p hp rfl
  exact ⟨keep p.1 p.2 ne nf nch e n,free p.1 p.2 nch e n,ne,nf,d⟩
theorem Inv.un {t':Nat} (I:Inv X pins σ H s) (u:Un X.fs [] H H' s.heap h') (hok:GN X.prog X.w H' h'):Inv X pins σ H' { s with heap:=h',toks:=t' }:=by
 obtain ⟨m,⟨o,es,ep,ho,r⟩,_⟩:=id I.loc
 obtain ⟨sl,hL⟩:=u.any ho I.free (by simp)
 exact I.step (g':=s.gens) (d':=s.drawn) (ch:=[]) (fun _ z=>nomatch z) (fun b o _ hb _ e n=>u.keep b o e n hb (by simp)) (fun b o _ hb _ e n=>u.slot b o e n hb (by simp)) (fun b o _ e n=>u.free b o e n (by simp)) (fun b o _ e=>u.there b o e (by simp)) u.tups u.frzs u.tbls (fun m' hm=>by
  obtain ⟨o',es',ep',ho',r'⟩:=hm
  rw [ho] at ho';cases ho'
  exact ⟨_,es',ep',hL,r'⟩) hok I.bare
theorem Inv.call {g':Array GenState}{t':Nat}{d':Drawn}{ch:List Addr} (I:Inv X pins σ H s) (u:Un (J5 X.stack) ch H H' s.heap h') (hok:GN X.prog X.w H' h') (hg:AllBare g')
  (hch:∀b∈ch,(b∈X.ex∨X.s₀.heap.objs.size<=b)/\b≠X.env.locals/\(∀x c,X.env.cells.lookup x=some c->c≠b) /\ ∀p∈X.pn++pins,p.1≠b):
  Inv X pins σ H' { s with heap:=h',gens:=g',drawn:=d',toks:=t' }:=by
 obtain ⟨m,⟨o,es,ep,ho,r⟩,_⟩:=id I.loc
 obtain ⟨sl,hL⟩:=u.any ho I.free fun z=>(hch _ z).2.1 rfl
 exact I.step (ch:=ch) hch (fun b o hL hb hc e n=>u.keep b o e n (fun z=>(List.mem_cons.mp (I.stkSub b z)).elim hL hb) hc) (fun b o _ _ hc e n=>u.any e n hc) (fun b o hc e n=>u.free b o e n hc) (fun b o hc e=>u.there b o e hc) u.tups u.frzs u.tbls (fun m' hm=>by
  obtain ⟨o',es',ep',ho',r'⟩:=hm
  rw [ho] at ho';cases ho'
  exact ⟨_,es',ep',hL,r'⟩) hok hg
theorem Inv.turned {t':Nat}{it:Addr} (I:Inv X pins σ H s) (k:∀b o,b≠it->s.heap.get? b=some o->h'.get? b=some o) (hn:H it=none) (hL:it≠X.env.locals)
  (h1:it∈X.ex∨X.s₀.heap.objs.size<=it) (h2:∀x c,X.env.cells.lookup x=some c->c≠it) (h3:∀p∈X.pn++pins,p.1≠it):Inv X pins σ H { s with heap:=h',toks:=t' }:=by
 have nit:∀b u,H b=some u->b≠it:=fun b u e z=>by rw [z,hn] at e;cases e
 refine I.step (g':=s.gens) (d':=s.drawn) (ch:=[it]) (fun b hb=>?_) (fun b o _ _ hc e _=>k b o (fun z=>hc (by simp [z])) e) (fun b o _ _ hc e _=>⟨o.slots,k b o (fun z=>hc (by simp [z])) e⟩) (fun _ _ _ _ n=>n)
  (fun b o hc e=>⟨o,k b o (fun z=>hc (by simp [z])) e⟩) (fun _ _ e=>e) (fun _ _ _ e=>e) (fun b ps e=>⟨#[],by rw [e];simp⟩) (fun m hm=>?_) (fun b u e=>?_) I.bare
 ·have e:b=it:=by simpa using hb
  subst e
  exact ⟨h1,hL,h2,h3⟩
 ·obtain ⟨o,es,ep,ho,r⟩:=hm
  exact ⟨o,es,ep,k _ o (Ne.symm hL) ho,r⟩
 ·refine (I.hok b u e).stay (fun c v hc q=>k c v ?_ q) (fun _ q=>q) fun _ _ q=>q
  rcases hc with z | z
  ·rw [z];exact nit b u e
  ·exact nit c _ z
theorem Inv.tok (I:Inv X pins σ H s) (t:Nat):Inv X pins σ H { s with toks:=t }:=I.un (h':=s.heap) (t':=t) Un.refl I.hok
theorem Inv.kept {t':Nat} (I:Inv X pins σ H s) (k:∀b u,s.heap.get? b=some u->h'.get? b=some u):Inv X pins σ H { s with heap:=h',toks:=t' }:=I.un (Un.kept k) (I.hok.kept k)
theorem Inv.laid {a:Addr}{o:HO}{t':Nat} (I:Inv X pins σ H s) (k:∀b u,s.heap.get? b=some u->h'.get? b=some u) (hp:s.heap.objs.size<=a) (new:Yw X.prog X.w (upd H a o) h' a o):
  Inv X pins σ (upd H a o) { s with heap:=h',toks:=t' }:=I.un (Un.laid k hp (I.hok.fresh hp)) (I.hok.laid k hp new)
theorem Inv.write {x e:Addr}{o:HO}{t':Nat} (I:Inv X pins σ H s) (mu:Mut (H x)) (he:e=x∨H e=some (.own x)) (k:∀b u,b≠e->s.heap.get? b=some u->h'.get? b=some u) (heo:∃u,h'.get? e=some u)
  (new:Yw X.prog X.w (upd H x o) h' x o):Inv X pins σ (upd H x o) { s with heap:=h',toks:=t' }:=I.un (Un.write mu he k heo) (I.hok.write mu he k heo new)
theorem Inv.pins_of {pins':List (Addr×Obj)} (I:Inv X pins σ H s) (h:∀p∈pins',s.heap.get? p.1=some p.2/\H p.1=none/\p.1≠X.env.locals/\p.1∉X.fs /\ ∀v,p.2.data ≠ .cell v):Inv X pins' σ H s:=
 ⟨I.ok,I.os,I.bare,I.base,I.loc,I.cell,I.free,I.freeC,fun p hp=>(List.mem_append.mp hp).elim (fun z=>I.pin p (List.mem_append_left _ z)) (h p),I.hok,I.len⟩
theorem ZfG {N:List Str} (hN:N.Nodup) {i j:Nat}{x:Str} (a:N[i]? = some x) (b:N[j]? = some x):i=j:=by
 obtain ⟨h1,e1⟩:=List.getElem?_eq_some_iff.mp a
 obtain ⟨h2,e2⟩:=List.getElem?_eq_some_iff.mp b
 exact (List.getElem_inj hN).mp (e1.trans e2.symm)
theorem ZdP {M:Model}{A:Around}{E:Value->Shared->Prop}{i:Nat}{x:Str}{v:V}{u:Value}{Q:Unit->Shared->Prop} (I:Inv X pins σ H s) (hN:X.N.Nodup) (hi:X.N[i]? = some x) (hx:Loc X.env.scope x) (r:RelV v u)
  (h:∀s',Inv X pins (σ.set i (some v)) H s'->(∃a,Heap.SameBut a s.heap s'.heap/\(a=X.env.locals∨X.env.cells.lookup x=some a))->Q () s') (hf:X.fn x=true∨X.env.scope.names.lookup x=some .local:=by first | exact .inl rfl | exact .inr rfl | assumption):wpAny M A (storeName X.env x u) Q E s:=by
 obtain ⟨m,hn,hl⟩:=id I.loc
 have hcls:(X.env.scope.kind == .class||(X.env.scope.kind == .module&&X.env.locals != X.env.globals))=false:=by rw [I.ok.kind];rfl
 have hiσ:i < σ.length:=by rw [I.len];exact (List.getElem?_eq_some_iff.mp hi).1
 have cne:=I.cne
 have tracked:∀{a:Addr}{h':Heap},(∃o,s.heap.get? a=some o/\H a=none)->Heap.SameBut a s.heap h'->GN X.prog X.w H h':=fun {a h'} ha hs b ob e=>by
  obtain ⟨_,_,hfree⟩:=ha
  refine (I.hok b ob e).stay (fun c w' hc q=>(hs.2 c ?_).trans q) (fun _ q=>q) fun _ _ q=>q
  rintro rfl
  rcases hc with rfl | hc
  ·rw [hfree] at e;cases e
  ·rw [hfree] at hc;cases hc
 rcases hx with hk | hk
 ·refine wpAny_storeName_local hk hn (fun h' hn' hs=>?_) hcls
  obtain ⟨oL,_,_,hoL,_⟩:=id hn
  refine h _ ⟨I.ok,I.os,I.bare,⟨fun b o e n hb hx=>?_,fun b o e n hb hx=>?_,I.base.free,fun b o e hx=>?_,I.base.tups,I.base.frzs,I.base.tbls⟩,⟨_,hn',fun j y v' e1 e2 e3=>?_⟩,fun y c e=>?_,I.free,I.freeC,fun p hp=>?_,tracked ⟨oL,hoL,I.free⟩ hs,by simpa using I.len⟩ ⟨_,hs,.inl rfl⟩
  ·exact (hs.2 b (Nat.ne_of_lt (Nat.lt_of_lt_of_le (Heap.lt_size e) I.ok.above))).trans (I.base.keep b o e n hb hx)
  ·obtain ⟨sl,e1⟩:=I.base.slot b o e n hb hx
   exact ⟨sl,(hs.2 b (Nat.ne_of_lt (Nat.lt_of_lt_of_le (Heap.lt_size e) I.ok.above))).trans e1⟩
  ·obtain ⟨o',e1⟩:=I.base.there b o e hx
   exact ⟨o',(hs.2 b (Nat.ne_of_lt (Nat.lt_of_lt_of_le (Heap.lt_size e) I.ok.above))).trans e1⟩
  ·by_cases hj:j=i
   ·subst hj
    rw [hi] at e1;cases e1
    rw [List.getElem?_set_self hiσ] at e2
    cases e2
    exact ⟨u,r,.inl ⟨hk,by simp⟩⟩
   ·rw [List.getElem?_set_ne (Ne.symm hj)] at e2
    obtain ⟨u',r',q⟩:=hl j y v' e1 e2 e3
    refine ⟨u',r',?_⟩
    rcases q with ⟨k,e⟩ | ⟨k,c,e,z⟩
    ·refine .inl ⟨k,?_⟩
     have:y≠x:=fun e=>hj (ZfG hN e1 (e ▸ hi))
     simp [this,e]
    ·exact .inr ⟨k,c,e,z.sameBut hs (cne y c e)⟩
  ·obtain ⟨w',z⟩:=I.cell y c e
   exact ⟨w',z.sameBut hs (cne y c e)⟩
  ·obtain ⟨e,n,ne,nf,d⟩:=I.pin p hp
   exact ⟨(hs.2 p.1 ne).trans e,n,ne,nf,d⟩
 ·have hfn:X.fn x=true:=by
   rcases hf with z | z
   ·exact z
   ·rw [z] at hk;cases hk
  obtain ⟨c,hc⟩:=I.ok.has x (.inl hk)
  obtain ⟨w',z⟩:=I.cell x c hc
  refine wpAny_storeName_cell I.ok.kind hk hc z (fun h' hc' hs=>?_)
  obtain ⟨oc,hoc,hocd⟩:=id z
  refine h { s with heap:=h' } ⟨I.ok,I.os,I.bare,⟨fun b o e n hb hx=>?_,fun b o e n hb hx=>?_,I.base.free,fun b o e hx=>?_,I.base.tups,I.base.frzs,I.base.tbls⟩,⟨m,hn.sameBut hs (Ne.symm (cne x c hc)),fun j y v' e1 e2 e3=>?_⟩,fun y c' e=>?_,I.free,I.freeC,fun p hp=>?_,tracked ⟨oc,hoc,I.freeC x c hc⟩ hs,by simpa using I.len⟩ ⟨c,hs,.inr hc⟩
  ·exact (hs.2 b (Nat.ne_of_lt (Nat.lt_of_lt_of_le (Heap.lt_size e) (I.ok.cab x c hfn hc)))).trans (I.base.keep b o e n hb hx)
  ·obtain ⟨sl,e1⟩:=I.base.slot b o e n hb hx
   exact ⟨sl,(hs.2 b (Nat.ne_of_lt (Nat.lt_of_lt_of_le (Heap.lt_size e) (I.ok.cab x c hfn hc)))).trans e1⟩
  ·obtain ⟨o',e1⟩:=I.base.there b o e hx
   exact ⟨o',(hs.2 b (Nat.ne_of_lt (Nat.lt_of_lt_of_le (Heap.lt_size e) (I.ok.cab x c hfn hc)))).trans e1⟩
  ·by_cases hj:j=i
   ·subst hj
    rw [hi] at e1;cases e1
    rw [List.getElem?_set_self hiσ] at e2
    cases e2
    exact ⟨u,r,.inr ⟨.inl hk,c,hc,hc'⟩⟩
   ·rw [List.getElem?_set_ne (Ne.symm hj)] at e2
    obtain ⟨u',r',q⟩:=hl j y v' e1 e2 e3
    refine ⟨u',r',?_⟩
    rcases q with q | ⟨k,c',e,z'⟩
    ·exact .inl q
    ·refine .inr ⟨k,c',e,z'.sameBut hs ?_⟩
     rintro rfl
     exact hj (ZfG hN e1 (I.ok.inj _ _ _ e hc ▸ hi))
  ·by_cases hcc:c'=c
   ·subst hcc;exact ⟨_,hc'⟩
   ·obtain ⟨w2,z2⟩:=I.cell y c' e
    exact ⟨w2,z2.sameBut hs hcc⟩
  ·obtain ⟨e,n,ne,nf,d⟩:=I.pin p hp
   refine ⟨(hs.2 p.1 ?_).trans e,n,ne,nf,d⟩
   intro q
   rw [q,hoc] at e
   have q':oc=p.2:=Option.some.inj e
   exact d w' (by rw [<- q'];exact hocd)
theorem UL {M:Model}{A:Around}{E:Value->Shared->Prop}{i:Nat}{x:Str}{v:V}{u:Value}{Q:Unit->Shared->Prop} (I:Inv X pins σ H s) (hN:X.N.Nodup) (hi:X.N[i]? = some x) (hx:Loc X.env.scope x) (r:RelV v u)
  (h:∀s',Inv X pins (σ.set i (some v)) H s'->Q () s') (hf:X.fn x=true∨X.env.scope.names.lookup x=some .local:=by first | exact .inl rfl | exact .inr rfl | assumption):wpAny M A (storeName X.env x u) Q E s:=
 ZdP I hN hi hx r (fun s' I' _=>h s' I') hf
theorem Inv.call' {s':Shared}{ch:List Addr} (I:Inv X pins σ H s) (ho:s'.os=s.os) (u:Un (J5 X.stack) ch H H' s.heap s'.heap) (hok:GN X.prog X.w H' s'.heap) (hg:AllBare s'.gens)
  (hch:∀b∈ch,(b∈X.ex∨X.s₀.heap.objs.size<=b)/\b≠X.env.locals/\(∀x c,X.env.cells.lookup x=some c->c≠b) /\ ∀p∈X.pn++pins,p.1≠b):Inv X pins σ H' s':=by
 obtain ⟨h',g',d',t',o'⟩:=s'
 have e:o'=s.os:=ho
 subst e
 exact I.call (g':=g') (t':=t') (d':=d') u hok hg hch
end
abbrev XK:=Value->Option Addr->Hp->Prop
abbrev St:=List (Option V)
abbrev VK:=V->Hp->Prop
abbrev TE:=St->Hp->VK->Prop
abbrev TT:=St->Hp->(Bool->Hp->Prop)->Prop
abbrev TA:=St->Hp->(List V->Hp->Prop)->Prop
structure Ends where
 nx:St->Hp->Prop
 rt:VK
 bk:St->Hp->Prop:=fun _ _=>False
 ct:St->Hp->Prop:=fun _ _=>False
abbrev TS:=Ends->St->Hp->Prop
def EP (X:Cx) (pins:List (Addr×Obj)) (σ:St) (Q:VK) (u:Value) (s':Shared):Prop:=∃v H',Inv X pins σ H' s'/\RelV v u/\Q v H'
def TP (X:Cx) (pins:List (Addr×Obj)) (σ:St) (Q:Bool->Hp->Prop) (b:Bool) (s':Shared):Prop:=∃H',Inv X pins σ H' s'/\Q b H'
def AP (X:Cx) (pins:List (Addr×Obj)) (σ:St) (Q:List V->Hp->Prop) (us:List Value) (s':Shared):Prop:=∃vs H',Inv X pins σ H' s'/\Vals vs us/\Q vs H'
def SP (X:Cx) (pins:List (Addr×Obj)) (D:Ends) (f:Flow) (s':Shared):Prop:=
 match f with
 | .next=>∃ σ' H',Inv X pins σ' H' s'/\D.nx σ' H'
 | .brk=>∃ σ' H',Inv X pins σ' H' s'/\D.bk σ' H'
 | .cont=>∃ σ' H',Inv X pins σ' H' s'/\D.ct σ' H'
 | .ret u=>∃v σ' H',Inv X pins σ' H' s'/\RelV v u/\D.rt v H'
def PE (X:Cx) (e:Expr) (t:TE):Prop:=
 ∀(pins:List (Addr×Obj)) (s:Shared) (σ:St) (H:Hp) (Q:VK),Inv X pins σ H s->t σ H Q->wpAny (model X.prog X.w) X.A (eval e X.env) (EP X pins σ Q) X.xe s
def PT (X:Cx) (e:Expr) (t:TT):Prop:=
 ∀(pins:List (Addr×Obj)) (s:Shared) (σ:St) (H:Hp) (Q:Bool->Hp->Prop),Inv X pins σ H s->t σ H Q->wpAny (model X.prog X.w) X.A (isTrue e X.env (eval e X.env)) (TP X pins σ Q) X.xe s
def PW (X:Cx) (e:Expr) (t:TT):Prop:=
 ∀(whole:Sem Value) (pins:List (Addr×Obj)) (s:Shared) (σ:St) (H:Hp) (Q:Bool->Hp->Prop),Inv X pins σ H s->t σ H Q->wpAny (model X.prog X.w) X.A (isTrue e X.env whole) (TP X pins σ Q) X.xe s
theorem PW.pt {X:Cx}{e:Expr}{t:TT} (h:PW X e t):PT X e t:=h _
def PA (X:Cx) (es:List Expr) (t:TA):Prop:=
 ∀(pos:Pos) (pins:List (Addr×Obj)) (s:Shared) (σ:St) (H:Hp) (Q:List V->Hp->Prop),Inv X pins σ H s->t σ H Q->wpAny (model X.prog X.w) X.A (spliced (backTo pos (starEach es X.env))) (AP X pins σ Q) X.xe s
def PS (X:Cx) (st:Stmt) (t:TS):Prop:=
 ∀(pins:List (Addr×Obj)) (s:Shared) (σ:St) (H:Hp) (D:Ends),Inv X pins σ H s->t D σ H->wpAny (model X.prog X.w) X.A (exec st X.env) (SP X pins D) X.xe s
def PSs (X:Cx) (st:List Stmt) (t:TS):Prop:=
 ∀(pins:List (Addr×Obj)) (s:Shared) (σ:St) (H:Hp) (D:Ends),Inv X pins σ H s->t D σ H->wpAny (model X.prog X.w) X.A (execs st X.env) (SP X pins D) X.xe s
theorem YB {α:Type}{t:Sem α}{Q Q':α -> Shared->Prop}{M:Model}{A:Around}{E:Value->Shared->Prop}{s:Shared} (h:wpAny M A t Q E s) (hQ:∀a s,Q a s->Q' a s):wpAny M A t Q' E s:=wpAny_mono h hQ fun _ _ x=>x
section
variable {X:Cx}
def Zn8 (i:Nat):TE:=fun σ H Q=>∃v,σ[i]? = some (some v)/\Q v H
def tC (v:V):TE:=fun _ H Q=>Q v H
theorem ZmW {i:Nat}{x:Str}{pos:Pos} (hN:X.N[i]? = some x) (hv:Vis X.env.scope x) (hd:(x==("__debug__" : Str))=false:=by decide) (hcd:(x==("__classdict__" : Str))=false:=by decide):PE X (.Name x pos) (Zn8 i):=by
 intro pins s σ H Q I h
 obtain ⟨v,e,h⟩:=h
 obtain ⟨m,hn,hl⟩:=I.loc
 obtain ⟨u,r,l⟩:=hl i x v hN e hv
 have fin:EP X pins σ Q u s:=⟨v,H,I,r,h⟩
 rcases l with ⟨hk,hm⟩ | ⟨hk,c,hc,hcell⟩
 ·exact wpAny_Name (wpAny_loadName_local I.ok.kind hk hn hm fin) hd
 ·rcases hk with hk | hk
  ·exact wpAny_Name (wpAny_loadName_cell I.ok.kind hk hc hcell fin) hd
  ·exact wpAny_Name (wpAny_loadName_free I.ok.kind hk hc hcell fin hcd) hd
theorem Zg {i j pos}:PE X (.Constant (.int i) j pos) (tC (.int i)):=fun _ _ _ H _ I h=>wpAny_Constant_int ⟨.int i,H,I.tok _,⟨_,rfl⟩,h⟩
theorem J7 {b j pos}:PE X (.Constant (.bool b) j pos) (tC (.bl b)):=fun _ _ _ H _ I h=>Constant_bool ⟨.bl b,H,I,rfl,h⟩
theorem Zbj {j pos}:PE X (.Constant .none j pos) (tC .non):=fun _ _ _ H _ I h=>Constant_none ⟨.non,H,I,rfl,h⟩
theorem YH {x j pos}:PE X (.Constant (.str x) j pos) (tC (.str x)):=fun _ _ _ H _ I h=>Calls.Constant_str ⟨.str x,H,I.tok _,⟨_,rfl⟩,h⟩
def Gl (X:Cx) (x:Str):Prop:=X.env.kindOf x=some .globalImplicit
theorem UX {E:Value->Shared->Prop}{pins:List (Addr×Obj)}{s:Shared} {σ:St}{H:Hp}{x:Str}{u:Value}{pos:Pos}{Q:Value->Shared->Prop} (I:Inv X pins σ H s) (hg:Gl X x) (hm:X.mg x=some u) (h:Q u s)
  (hd:(x==("__debug__" : Str))=false:=by decide):wpAny (model X.prog X.w) X.A (eval (.Name x pos) X.env) Q E s:=
 Calls.Name_function_global I.ok.kind hg (Calls.loadGlobal_global (by rw [I.ok.glob];exact I.mod.glob.keeps I.bk) hm h) hd
theorem Zbk {E:Value->Shared->Prop}{pins:List (Addr×Obj)}{s:Shared} {σ:St}{H:Hp}{x:Str}{u:Value}{pos:Pos}{Q:Value->Shared->Prop} (I:Inv X pins σ H s) (hg:Gl X x) (hm:X.mg x=none) (hv:bootBuiltins x=some u) (h:Q u s)
  (hn:x ≠ "__name__" := by decide) (hd:(x==("__debug__" : Str))=false:=by decide):wpAny (model X.prog X.w) X.A (eval (.Name x pos) X.env) Q E s:=by
 obtain ⟨mb,h1,h2⟩:=I.mod.blt
 exact Calls.Name_function_global I.ok.kind hg (Calls.loadGlobal_builtin (by rw [I.ok.glob];exact I.mod.glob.keeps I.bk) hm (by rw [I.ok.blt];exact h1.keeps I.bk) ((h2 x hn).trans hv) h) hd
theorem Zhl {x:Str}{v:V}{u:Value}{pos:Pos} (hg:Gl X x) (hm:X.mg x=some u) (r:RelV v u) (hd:(x==("__debug__" : Str))=false:=by decide):PE X (.Name x pos) (tC v):=
 fun _ _ _ H _ I h=>UX I hg hm ⟨v,H,I,r,h⟩ hd
variable {a b:Expr}{ta tb:TE}{pos:Pos}
def PC (X:Cx) (op:CmpOp) (a b:Expr) (t:TE):Prop:=
 ∀(pins:List (Addr×Obj)) (s:Shared) (σ:St) (H:Hp) (Q:VK),Inv X pins σ H s->t σ H Q ->
  wpAny (model X.prog X.w) X.A (eval a X.env) (fun v s₁=>wpAny (model X.prog X.w) X.A (eval b X.env) (fun u s₂=>wpAny (model X.prog X.w) X.A (compareOp op v u) (EP X pins σ Q) X.xe s₂) X.xe s₁) X.xe s
def tB (t:TE):TT:=fun σ H Q=>t σ H fun x H1=>∃c,x = .bl c/\Q c H1
theorem Zna {op:CmpOp}{t:TE} (h:PC X op a b t) (h1:behindInMarks op b=false:=by first | exact nobehind _ (by decide) (by decide) | rfl):PT X (.Compare a [op] [b] pos) (tB t):=by
 intro pins s σ H Q I hw
 refine wpAny_isTrue_Compare1 (YB (h pins s σ H _ I hw) fun v s1 h1=>YB h1 fun u s2 h2=>YB h2 fun c s3 ⟨x,H1,I1,r1,q1⟩=>?_) h1
 obtain ⟨d,rfl,q⟩:=q1
 cases r1
 exact wpAny_truthy_bool ⟨H1,I1,q⟩
theorem ZcU {e:Expr}{t:TE} (h:PE X e t) (he:∀whole,isTrue e X.env whole=(do let v <- whole;standAt e.pos;holding [v] (truthy v)):=by intro _;rfl):PT X e (tB t):=by
 intro pins s σ H Q I hw
 refine isTrue_plain (YB (h pins s σ H _ I hw) fun v s1 ⟨x,H1,I1,r1,q1⟩=>?_) (he _)
 obtain ⟨d,rfl,q⟩:=q1
 cases r1
 exact wpAny_truthy_bool ⟨H1,I1,q⟩
variable {tA tB':TT}{rest:List Expr}
def Zof (t u:TT):TT:=fun σ H Q=>t σ H fun c H1=>if c=true then u σ H1 Q else Q false H1
def tOr (t u:TT):TT:=fun σ H Q=>t σ H fun c H1=>if c=true then Q true H1 else u σ H1 Q
def Zpn (t:TT):TT:=fun σ H Q=>t σ H fun c H1=>Q (!c) H1
theorem ZaU (ha:PT X a tA):PW X (.BoolOp .And [a] pos) tA:=by
 intro wh pins s σ H Q I h
 refine isTrue_and (YB (ha pins s σ H Q I h) fun c s1 e=>?_)
 cases c with
 | true=>exact isTrue_and_nil e
 | false=>exact e
theorem Zaq (ha:PT X a tA):PW X (.BoolOp .Or [a] pos) tA:=by
 intro wh pins s σ H Q I h
 refine isTrue_or (YB (ha pins s σ H Q I h) fun c s1 e=>?_)
 cases c with
 | false=>exact isTrue_or_nil e
 | true=>exact e
theorem Zap (ha:PT X a tA) (hb:PW X (.BoolOp .And (b::rest) pos) tB'):PW X (.BoolOp .And (a::b::rest) pos) (Zof tA tB'):=by
 intro wh pins s σ H Q I h
 refine isTrue_and (YB (ha pins s σ H _ I h) fun c s1 ⟨H1,I1,q1⟩=>?_)
 cases c with
 | true=>exact hb wh pins s1 σ H1 Q I1 q1
 | false=>exact ⟨H1,I1,q1⟩
theorem ZcJ (ha:PT X a tA) (hb:PW X (.BoolOp .Or (b::rest) pos) tB'):PW X (.BoolOp .Or (a::b::rest) pos) (tOr tA tB'):=by
 intro wh pins s σ H Q I h
 refine isTrue_or (YB (ha pins s σ H _ I h) fun c s1 ⟨H1,I1,q1⟩=>?_)
 cases c with
 | true=>exact ⟨H1,I1,q1⟩
 | false=>exact hb wh pins s1 σ H1 Q I1 q1
theorem Zev (ha:PT X a tA):PT X (.UnaryOp .Not a pos) (Zpn tA):=by
 intro pins s σ H Q I h
 exact isTrue_not (ha pins s σ H (fun c H1=>Q (!c) H1) I h)
def tIf (t:TT) (ta tb:TE):TE:=fun σ H Q=>t σ H fun c H1=>if c=true then ta σ H1 Q else tb σ H1 Q
theorem Za4 {c:Expr} (hc:PT X c tA) (ha:PE X a ta) (hb:PE X b tb):PE X (.IfExp c a b pos) (tIf tA ta tb):=by
 intro pins s σ H Q I h
 refine wpAny_IfExp (YB (hc pins s σ H _ I h) fun d s1 ⟨H1,I1,q1⟩=>?_)
 cases d with
 | true=>exact ha pins s1 σ H1 Q I1 q1
 | false=>exact hb pins s1 σ H1 Q I1 q1
end
def Zo (K:PySem.W.Frag) (H:Hp) (a:Addr) (xs:List V):Prop:=
 Rd H a (.lst xs) ∨
  ∃(o:Obj) (its:Array Value) (n:Nat),K.lookup a=some o/\o.cls = .type "list" /\ o.dict=none/\o.data = .seq its n/\its.size<=sizeLine/\Vals xs its.toList
def WT (K:PySem.W.Frag) (H:Hp) (a:Addr) (xs:List V):Prop:=
 Rd H a (.tup xs) ∨
  ∃(o:Obj) (its:Array Value) (n:Nat),K.lookup a=some o/\o.cls = .type "tuple" /\ o.data = .seq its n/\its.size<=sizeLine/\Vals xs its.toList
def Zps:Value->Option V
 | .none=>some .non
 | .bool b=>some (.bl b)
 | .int i _=>some (.int i)
 | .str x _=>some (.str x)
 | .bytes b _=>some (.byt b)
 | .float b _=>some (.flt b)
 | .ref a=>some (.ref a)
 | .type n=>some (.ty n)
 | _=>none
theorem RelV.abs {x:V}{u:Value} (r:RelV x u):Zps u=some x:=by
 cases x with
 | non=>cases r;rfl
 | bl _=>cases r;rfl
 | int _=>obtain ⟨t,rfl⟩:=r;rfl
 | str _=>obtain ⟨t,rfl⟩:=r;rfl
 | byt _=>obtain ⟨t,rfl⟩:=r;rfl
 | flt _=>obtain ⟨t,rfl⟩:=r;rfl
 | ref _=>cases r;rfl
 | ty _=>cases r;rfl
theorem RelV.inj {x y:V}{u:Value} (r:RelV x u) (q:RelV y u):x=y:=Option.some.inj (r.abs.symm.trans q.abs)
theorem Vals.inj:∀{xs ys:List V}{us:List Value},Vals xs us->Vals ys us->xs=ys
 | _,_,_,.nil,.nil=>rfl
 | _,_,_,.cons r t,.cons r' t'=>by rw [r.inj r',Vals.inj t t']
section
variable {X:Cx}{pins:List (Addr×Obj)} {σ:St}{H:Hp}{s:Shared}{a:Addr}{xs ys:List V}
theorem Zo.of {K:PySem.W.Frag} (h:H a=some (.lst xs)):Zo K H a xs:=.inl (.inl h)
theorem WT.of {K:PySem.W.Frag} (h:H a=some (.tup xs)):WT K H a xs:=.inl (.inl h)
theorem Inv.list (I:Inv X pins σ H s) (h:Zo X.K H a xs):∃its:List Value,Vals xs its/\PlainL s.heap a its.toArray/\xs.length<=sizeLine:=by
 rcases h with h | ⟨o,its,n,hk,hc,hd,hs,hz,r⟩
 ·obtain ⟨z,its,n,r,e⟩:=h.ok I.hok
  exact ⟨its,r,⟨_,n,e,rfl,rfl,rfl⟩,z⟩
 ·refine ⟨its.toList,r,⟨o,n,I.kIn a o hk,hc,hd,by simpa using hs⟩,?_⟩
  have e:=r.length
  simp only [Array.length_toList] at e
  lia
theorem Inv.tuple (I:Inv X pins σ H s) (h:WT X.K H a xs):∃its:List Value,Vals xs its/\IsTup s.heap a its.toArray/\xs.length<=sizeLine:=by
 rcases h with h | ⟨o,its,n,hk,hc,hs,hz,r⟩
 ·obtain ⟨z,its,r,p⟩:=h.ok I.hok
  exact ⟨its,r,p,z⟩
 ·refine ⟨its.toList,r,⟨o,I.kIn a o hk,hc,n,by simpa using hs⟩,?_⟩
  have e:=r.length
  simp only [Array.length_toList] at e
  lia
theorem Inv.list_inj (I:Inv X pins σ H s) (h:Zo X.K H a xs) (h':Zo X.K H a ys):xs=ys:=by
 obtain ⟨its,r,⟨o,n,e,_,_,d⟩,_⟩:=I.list h
 obtain ⟨its',r',⟨o',n',e',_,_,d'⟩,_⟩:=I.list h'
 rw [e] at e';cases e'
 rw [d] at d'
 injection d' with d1 _
 have:its=its':=by simpa using congrArg Array.toList d1
 subst this
 exact r.inj r'
theorem Inv.tuple_inj (I:Inv X pins σ H s) (h:WT X.K H a xs) (h':WT X.K H a ys):xs=ys:=by
 obtain ⟨its,r,⟨o,e,_,n,d⟩,_⟩:=I.tuple h
 obtain ⟨its',r',⟨o',e',_,n',d'⟩,_⟩:=I.tuple h'
 rw [e] at e';cases e'
 rw [d] at d'
 injection d' with d1 _
 have:its=its':=by simpa using congrArg Array.toList d1
 subst this
 exact r.inj r'
end
abbrev Cx.wish (X:Cx) (E:Value->Shared->Prop):Cx:={ X with xe:=E }
abbrev Cx.nox (X:Cx):Cx:=X.wish fun _ _=>False
theorem Cx.Ok.wish {X:Cx} (ok:X.Ok) (E:Value->Shared->Prop):(X.wish E).Ok:=
 ⟨ok.mod,ok.kind,ok.glob,ok.blt,ok.above,ok.inj,ok.has,ok.cab,ok.hd,ok.frames,ok.stk,ok.exf,ok.bs,ok.bsz,ok.noex,ok.exfs,ok.funs,ok.frf⟩
theorem Cx.Ok.unwish {X:Cx}{E:Value->Shared->Prop} (ok:(X.wish E).Ok):X.Ok:=
 ⟨ok.mod,ok.kind,ok.glob,ok.blt,ok.above,ok.inj,ok.has,ok.cab,ok.hd,ok.frames,ok.stk,ok.exf,ok.bs,ok.bsz,ok.noex,ok.exfs,ok.funs,ok.frf⟩
section
variable {X:Cx}{pins:List (Addr×Obj)} {σ:St}{H:Hp}{s:Shared}{E:Value->Shared->Prop}
theorem Inv.wish (I:Inv X pins σ H s) (E:Value->Shared->Prop):Inv (X.wish E) pins σ H s:=⟨I.ok.wish E,I.os,I.bare,I.base,I.loc,I.cell,I.free,I.freeC,I.pin,I.hok,I.len⟩
theorem Inv.unwish (I:Inv (X.wish E) pins σ H s):Inv X pins σ H s:=⟨I.ok.unwish,I.os,I.bare,I.base,I.loc,I.cell,I.free,I.freeC,I.pin,I.hok,I.len⟩
theorem SP.unwish {D:Ends}{f:Flow}{s':Shared} (h:SP (X.wish E) pins D f s'):SP X pins D f s':=by
 cases f with
 | next=>obtain ⟨σ',H',I,q⟩:=h;exact ⟨σ',H',I.unwish,q⟩
 | brk=>obtain ⟨σ',H',I,q⟩:=h;exact ⟨σ',H',I.unwish,q⟩
 | cont=>obtain ⟨σ',H',I,q⟩:=h;exact ⟨σ',H',I.unwish,q⟩
 | ret u=>obtain ⟨v,σ',H',I,r,q⟩:=h;exact ⟨v,σ',H',I.unwish,r,q⟩
theorem PSs.nox {st:List Stmt}{t:TS} (h:PSs X.nox st t):PSs X st t:=fun pins s σ H D I hw=>
 wpAny_mono (h pins s σ H D (I.wish _) hw) (fun _ _ q=>q.unwish) fun _ _ z=>False.elim z
end
section
variable {X:Cx}{st:Stmt}{rest:List Stmt}{t u:TS}{e:Expr}{te:TE}{pos:Pos}
def Zn7:TS:=fun D σ H=>D.nx σ H
def Zph (t u:TS):TS:=fun D σ H=>t { D with nx:=u D } σ H
theorem Ya:PSs X [] Zn7:=fun _ _ σ H _ I h=>wpAny_execs_nil ⟨σ,H,I,h⟩
theorem Zd (h1:PS X st t) (h2:PSs X rest u):PSs X (st::rest) (Zph t u):=by
 intro pins s σ H D I h
 refine wpAny_execs_cons (YB (h1 pins s σ H { D with nx:=u D } I h) fun f s1 q=>?_)
 cases f with
 | next=>
  obtain ⟨σ',H',I',q⟩:=q
  exact h2 pins s1 σ' H' D I' q
 | ret v=>exact q
 | brk=>exact q
 | cont=>exact q
theorem Zh (h1:PS X st t):PSs X [st] t:=by
 intro pins s σ H D I h
 refine wpAny_execs_cons (YB (h1 pins s σ H D I h) fun f s1 q=>?_)
 cases f with
 | next=>exact wpAny_execs_nil q
 | ret v=>exact q
 | brk=>exact q
 | cont=>exact q
theorem Inv.quiet {pins:List (Addr×Obj)} {σ:St}{H:Hp}{s:Shared} (I:Inv X pins σ H s):interactive X.env=false:=by simp [interactive,I.ok.kind]
def Zog (te:TE):TS:=fun D σ H=>te σ H fun _ H1=>D.nx σ H1
theorem Ye (he:PE X e te) (hs:swapsWith e none pos.line X.env=pure false:=by rfl):PS X (.Expr e pos) (Zog te):=by
 intro pins s σ H D I h
 exact wpAny_Expr_any (YB (he pins s σ H _ I h) fun v s1 ⟨x,H1,I1,r1,q1⟩=>⟨σ,H1,I1,q1⟩) I.quiet hs
def Zo2 (te:TE):TS:=fun D σ H=>te σ H D.rt
theorem Zr (he:PE X e te):PS X (.Return (some e) pos) (Zo2 te):=by
 intro pins s σ H D I h
 exact wpAny_Return_some (YB (he pins s σ H _ I h) fun v s1 ⟨x,H1,I1,r1,q1⟩=>⟨x,σ,H1,I1,r1,q1⟩)
def Zow (c:TT) (t u:TS):TS:=fun D σ H=>c σ H fun b H1=>if b=true then t D σ H1 else u D σ H1
theorem YK {c:Expr}{a b:List Stmt}{tc:TT} (hc:PT X c tc) (ha:PSs X a t) (hb:PSs X b u):PS X (.If c a b pos) (Zow tc t u):=by
 intro pins s σ H D I h
 refine wpAny_If (YB (hc pins s σ H _ I h) fun d s1 ⟨H1,I1,q1⟩=>?_)
 cases d with
 | true=>exact ha pins s1 σ H1 D I1 q1
 | false=>exact hb pins s1 σ H1 D I1 q1
end
abbrev TG:=V->St->Hp->(St->Hp->Prop)->Prop
abbrev TGs:=List V->St->Hp->(St->Hp->Prop)->Prop
def PG (X:Cx) (target:Expr) (t:TG):Prop:=
 ∀(pins:List (Addr×Obj)) (s:Shared) (σ:St) (H:Hp) (v:V) (u:Value) (Q:St->Hp->Prop),Inv X pins σ H s->RelV v u->t v σ H Q ->
  wpAny (model X.prog X.w) X.A (assign target X.env u) (fun _ s'=>∃ σ' H',Inv X pins σ' H' s'/\Q σ' H') X.xe s
def PGs (X:Cx) (ts:List Expr) (t:TGs):Prop:=
 ∀(pins:List (Addr×Obj)) (s:Shared) (σ:St) (H:Hp) (vs:List V) (us:List Value) (Q:St->Hp->Prop),Inv X pins σ H s->Vals vs us->t vs σ H Q ->
  wpAny (model X.prog X.w) X.A (assignInOrder ((assignEach ts X.env).map (·.2)) us) (fun _ s'=>∃ σ' H',Inv X pins σ' H' s'/\Q σ' H') X.xe s
abbrev ZnH:=V->V->V->Hp->(Hp->Prop)->Prop
def Znt (X:Cx) (t:ZnH):Prop:=
 ∀(pins:List (Addr×Obj)) (s:Shared) (σ:St) (H:Hp) (o i v:V) (ov iv u:Value) (Q:Hp->Prop),Inv X pins σ H s->RelV o ov->RelV i iv->RelV v u->t o i v H Q ->
  wpAny (model X.prog X.w) X.A (setItem ov iv u) (fun _ s'=>∃H',Inv X pins σ H' s'/\Q H') X.xe s
abbrev TIp:=V->V->Hp->VK->Prop
def PIp (X:Cx) (op:Operator) (t:TIp):Prop:=
 ∀(pins:List (Addr×Obj)) (s:Shared) (σ:St) (H:Hp) (x y:V) (v u:Value) (Q:VK),Inv X pins σ H s->RelV x v->RelV y u->t x y H Q ->
  wpAny (model X.prog X.w) X.A (inplaceOp op v u) (EP X pins σ Q) X.xe s
section
variable {X:Cx}{pos:Pos}
def GC (i:Nat):TG:=fun v σ H Q=>Q (σ.set i (some v)) H
theorem Zm {i:Nat}{x:Str} (hN:X.N.Nodup) (hi:X.N[i]? = some x) (hx:Loc X.env.scope x) (hf:X.fn x=true∨X.env.scope.names.lookup x=some .local:=by first | exact .inl rfl | exact .inr rfl | assumption):PG X (.Name x pos) (GC i):=by
 intro pins s σ H v u Q I r h
 exact wpAny_assign_Name (UL I hN hi hx r (fun s' I'=>⟨_,H,I',h⟩) hf)
def Zo8:TGs:=fun vs σ H Q=>vs = []/\Q σ H
def Zot (t:TG) (u:TGs):TGs:=fun vs σ H Q=>∃v r,vs=v::r/\t v σ H fun σ' H'=>u r σ' H' Q
theorem Yy:PGs X [] Zo8:=by
 intro pins s σ H vs us Q I r h
 obtain ⟨e,h⟩:=h
 subst e
 cases r
 exact assignInOrder_nil ⟨σ,H,I,h⟩
theorem Zx {e:Expr}{es:List Expr}{t:TG}{u:TGs} (h1:PG X e t) (h2:PGs X es u)
  (hs:(assignEach (e::es) X.env).map (·.2)=assign e X.env::(assignEach es X.env).map (·.2):=by rfl):PGs X (e::es) (Zot t u):=by
 intro pins s σ H vs us Q I r h
 obtain ⟨v,vr,e1,h⟩:=h
 subst e1
 cases r with
 | cons r rr=>
  rw [hs]
  refine assignInOrder_cons (YB (h1 pins s σ H _ _ _ I r h) fun _ s1 ⟨σ1,H1,I1,q1⟩=>?_)
  exact h2 pins s1 σ1 H1 _ _ Q I1 rr q1
def Zol (K:PySem.W.Frag) (n:Nat) (t:TGs):TG:=fun v σ H Q=>∃a xs,v = .ref a/\WT K H a xs/\xs.length=n/\t xs σ H Q
theorem ZmS {es:List Expr}{k:Nat}{t:TGs}{n:Nat} (hc:X.calm=true) (h:PGs X es t)
  (hn:(assignEach es X.env).length=n:=by rfl) (hst:(assignEach es X.env).findIdx? (·.1)=none:=by rfl):PG X (.Tuple es k pos) (Zol X.K n t):=by
 intro pins s σ H v u Q I r hw
 obtain ⟨a,xs,e1,hq,hl,hw⟩:=hw
 subst e1
 cases r
 obtain ⟨its,rv,ht,hz⟩:=I.tuple hq
 refine assign_Tuple_tuple (I.ok.hd hc) ht (by simp [hn,<- hl,rv.length]) hst fun h' hx=>?_
 have I1:Inv X pins σ H { s with heap:=h' }:=I.kept (t':=s.toks) fun b o e=>hx b o (Nat.ne_of_lt (Heap.lt_size e)) e
 exact h pins _ σ H xs _ Q I1 (by simpa using rv) hw
def Zpm (to ti:TE) (t:ZnH):TG:=fun v σ H Q=>to σ H fun o H1=>ti σ H1 fun i H2=>t o i v H2 fun H3=>Q σ H3
theorem YO {o i:Expr}{to ti:TE}{t:ZnH} (ho:PE X o to) (hi:PE X i ti) (hs:Znt X t)
  (ha:∀v,assign (.Subscript o i pos) X.env v=(do
   let ov <- holding [v] (eval o X.env)
   let iv <- holding [v,ov] (eval i X.env)
   standAt pos
   holding [v,ov,iv] (setItem ov iv v)
   release [v,ov,iv] []):=by intro _;rfl):PG X (.Subscript o i pos) (Zpm to ti t):=by
 intro pins s σ H v u Q I r h
 rw [ha]
 refine wpAny_bind (wpAny_holding (YB (ho pins s σ H _ I h) fun ov s1 ⟨x,H1,I1,r1,q1⟩=>?_))
 refine wpAny_bind (wpAny_holding (YB (hi pins s1 σ H1 _ I1 q1) fun iv s2 ⟨y,H2,I2,r2,q2⟩=>?_))
 refine wpAny_bind (wpAny_standAt (wpAny_bind (wpAny_holding (YB (hs pins s2 σ H2 x y v ov iv u _ I2 r1 r2 r q2) fun _ s3 ⟨H3,I3,q3⟩=>?_))))
 exact wpAny_release ⟨σ,H3,I3,q3⟩
def ZnM (te:TE) (g:TG):TS:=fun D σ H=>te σ H fun x H1=>g x σ H1 D.nx
theorem Yv {tg e:Expr}{te:TE}{g:TG} (he:PE X e te) (hg:PG X tg g) (hs:swapsWithSole [tg] e pos.line X.env=pure false:=by rfl) (hw:swappedStores [tg] e X.env=pure none:=by rfl)
  (h1:(assignEach [tg] X.env).map (·.2) = [assign tg X.env]:=by rfl):PS X (.Assign [tg] e pos) (ZnM te g):=by
 intro pins s σ H D I h
 refine wpAny_Assign_stores (YB (he pins s σ H _ I h) fun v s1 ⟨x,H1,I1,r1,q1⟩=>?_) hs hw
 rw [h1]
 exact YB (hg pins s1 σ H1 x v _ I1 r1 q1) fun _ s2 q=>q
theorem Zq {i:Nat}{x:Str}{e:Expr}{te:TE}{pos':Pos} (hN:X.N.Nodup) (hi:X.N[i]? = some x) (hx:Loc X.env.scope x) (he:PE X e te) (hs:swapsWith e (some (.Name x pos')) pos.line X.env=pure false:=by rfl) (hf:X.fn x=true∨X.env.scope.names.lookup x=some .local:=by first | exact .inl rfl | exact .inr rfl | assumption):
  PS X (.Assign [.Name x pos'] e pos) (ZnM te (GC i)):=by
 intro pins s σ H D I h
 refine wpAny_Assign_Name (YB (he pins s σ H _ I h) fun v s1 ⟨y,H1,I1,r1,q1⟩=>?_) hs
 exact UL I1 hN hi hx r1 (fun s2 I2=>⟨_,H1,I2,q1⟩) hf
def Zpo (i j:Nat) (ta:TA):TS:=fun D σ H=>ta σ H fun vs H1=>∃v w,vs = [v,w]/\D.nx ((σ.set i (some v)).set j (some w)) H1
theorem ZkA {i j:Nat}{x y:Str}{a b:Expr}{ta:TA}{px py pt:Pos}{kt k2 pt2} (hc:X.calm=true) (hN:X.N.Nodup) (hi:X.N[i]? = some x) (hj:X.N[j]? = some y) (hij:i≠j)
  (hx:X.env.scope.names.lookup x=some .local) (hy:X.env.scope.names.lookup y=some .local) (ha:PA X [a,b] ta)
  (hw:swappedStores [.Tuple [.Name x px,.Name y py] kt pt] (.Tuple [a,b] k2 pt2) X.env=pure (some [x,y]))
  (hs:swapsWithSole [.Tuple [.Name x px,.Name y py] kt pt] (.Tuple [a,b] k2 pt2) pos.line X.env=pure false:=by rfl):
  PS X (.Assign [.Tuple [.Name x px,.Name y py] kt pt] (.Tuple [a,b] k2 pt2) pos) (Zpo i j ta):=by
 intro pins s σ H D I h
 rw [exec_Assign_arm]
 refine wpAny_bind (wpAny_standAt ?_)
 rw [hs]
 refine wpAny_bind (wpAny_pure ?_)
 rw [if_neg (by decide)]
 refine wpAny_bind (Tuple_ (YB (ha _ pins s σ H _ I h) fun us s1 ⟨vs,H1,I1,r1,q1⟩=>?_))
 obtain ⟨v,w,e1,q1⟩:=q1
 subst e1
 obtain ⟨u1,u2,rfl,rv,rw'⟩:∃u1 u2,us = [u1,u2]/\RelV v u1/\RelV w u2:=by
  cases r1 with
  | cons p q=>
   cases q with
   | cons p' q'=>
    cases q'
    exact ⟨_,_,rfl,p,p'⟩
 refine wpAny_newObj_type ?_ (by show 2<=sizeLine;decide)
 have I2:Inv X pins σ H1 { s1 with heap:=s1.heap.push { cls:=.type "tuple", data:=.seq [u1,u2].toArray } }:=I1.kept (t':=s1.toks) fun b o e=>Heap.get?_push_of_some _ e
 rw [hw]
 refine wpAny_bind (wpAny_pure ?_)
 show wpAny (model X.prog X.w) X.A (do rule "assign.swapped-stores"; let items <- unpackItems (.ref s1.heap.objs.size) 2 none;assignInOrder [fun v=>bindName X.env y v,fun v=>bindName X.env x v] items.reverse;pure Flow.next) _ _ _
 refine wpAny_bind (wpAny_rule (wpAny_bind (unpackItems_tuple (items:=#[u1,u2]) (I.ok.hd hc) (IsTup.new s1.heap _) fun h' hx'=>?_)))
 have I3:=I2.kept (h':=h') (t':=s1.toks) fun b o e=>hx' b o (Nat.ne_of_lt (Heap.lt_size e)) e
 show wpAny _ _ (assignInOrder [fun v=>bindName X.env y v,fun v=>bindName X.env x v] [u2,u1] >>= fun _=>pure Flow.next) _ _ _
 refine wpAny_bind (assignInOrder_cons (wpAny_bindName (UL I3 hN hj (.inl hy) rw' (fun s2 I4=>?_) (.inr hy))))
 refine assignInOrder_cons (wpAny_bindName (UL I4 hN hi (.inl hx) rv (fun s3 I5=>assignInOrder_nil (wpAny_pure ?_)) (.inr hx)))
 rw [List.set_comm _ _ (Ne.symm hij)] at I5
 exact ⟨_,H1,I5,q1⟩
def Zpv (i:Nat) (te:TE) (ti:TIp):TS:=fun D σ H=>∃x,σ[i]? = some (some x)/\te σ H fun y H1=>ti x y H1 fun z H2=>D.nx (σ.set i (some z)) H2
theorem Zj6 {i:Nat}{x:Str}{e:Expr}{te:TE}{op:Operator}{ti:TIp}{pos':Pos} (hN:X.N.Nodup) (hi:X.N[i]? = some x) (hx:Loc X.env.scope x) (he:PE X e te) (ho:PIp X op ti) (hf:X.fn x=true∨X.env.scope.names.lookup x=some .local:=by first | exact .inl rfl | exact .inr rfl | assumption):
  PS X (.AugAssign (.Name x pos') op e pos) (Zpv i te ti):=by
 intro pins s σ H D I h
 obtain ⟨v,e1,h⟩:=h
 obtain ⟨m,hn,hl⟩:=I.loc
 have vis:Vis X.env.scope x:=by rcases hx with k | k;exact .inl k;exact .inr (.inl k)
 obtain ⟨u,r,l⟩:=hl i x v hi e1 vis
 refine wpAny_AugAssign_Name ?_
 have go:wpAny (model X.prog X.w) X.A (eval e X.env) (fun w s₂=>wpAny (model X.prog X.w) X.A (inplaceOp op u w) (fun r s₃=>wpAny (model X.prog X.w) X.A (storeName X.env x r) (fun _=>SP X pins D .next) X.xe s₃) X.xe s₂) X.xe s:=by
  refine YB (he pins s σ H _ I h) fun w s1 ⟨y,H1,I1,r1,q1⟩=>?_
  refine YB (ho pins s1 σ H1 v y u w _ I1 r r1 q1) fun z s2 ⟨zv,H2,I2,r2,q2⟩=>?_
  exact UL I2 hN hi hx r2 (fun s3 I3=>⟨_,H2,I3,q2⟩) hf
 rcases l with ⟨hk,hm⟩ | ⟨hk,c,hc,hcell⟩
 ·exact wpAny_loadName_local I.ok.kind hk hn hm go
 ·rcases hk with hk | hk
  ·exact wpAny_loadName_cell I.ok.kind hk hc hcell go
  ·rcases hx with k | k
   ·have:X.env.scope.names.lookup x=some .free:=hk
    rw [k] at this;cases this
   ·have:X.env.scope.names.lookup x=some .free:=hk
    rw [k] at this;cases this
def ipI (f:Int->Int->Int):TIp:=fun x y H Q=>∃i j,x = .int i/\y = .int j/\Q (.int (f i j)) H
theorem Zks:PIp X .Add (ipI fun i j=>i+j):=by
 intro pins s σ H x y v u Q I r1 r2 h
 obtain ⟨i,j,e1,e2,q⟩:=h
 subst e1;subst e2
 obtain ⟨t,rfl⟩:=r1
 obtain ⟨t',rfl⟩:=r2
 exact iadd_int ⟨.int _,H,I.tok _,⟨_,rfl⟩,q⟩
end
section
variable {X:Cx}{pos:Pos}
def Zjj (c:TT) (tb:TS):TS:=fun D σ H=>∃W:Nat->St->Hp->Prop,(∃m,W m σ H) /\ ∀m σ H,W m σ H ->
 c σ H fun b H1=>if b=true then ∃N:St->Hp->Prop,(∀ σ' H',N σ' H' -> ∃m',m'<m/\W m' σ' H')/\tb { D with nx:=N,ct:=N,bk:=D.nx } σ H1 else D.nx σ H1
theorem Zfq {c:Expr}{body:List Stmt}{tc:TT}{tb:TS} (hp:PassesOwn (model X.prog X.w) X.A X.env X.xe) (hc:PT X c tc) (hb:PSs X body tb):PS X (.While c body [] pos) (Zjj tc tb):=by
 intro pins s σ H D I h
 obtain ⟨W,⟨m0,w0⟩,turn⟩:=h
 refine wpAny_While (codeAny_whileLoop (fun n s'=>∃ σ' H',Inv X pins σ' H' s'/\W n σ' H') ?_ m0 ⟨σ,H,I,w0⟩)
 rintro n s1 ⟨σ1,H1,I1,w1⟩
 refine wpAny_passesOwn hp (YB (hc pins s1 σ1 H1 _ I1 (turn n σ1 H1 w1)) fun b s2 ⟨H2,I2,q2⟩=>?_)
 cases b with
 | true=>
  obtain ⟨N,hN,q2⟩:=q2
  rw [if_pos rfl]
  refine wpAny_passesOwn hp (YB (hb pins s2 σ1 H2 _ I2 q2) fun f s3 q3=>?_)
  cases f with
  | next=>
   obtain ⟨σ3,H3,I3,n3⟩:=q3
   obtain ⟨m',hm,w3⟩:=hN σ3 H3 n3
   exact ⟨m',hm,σ3,H3,I3,w3⟩
  | cont=>
   obtain ⟨σ3,H3,I3,n3⟩:=q3
   obtain ⟨m',hm,w3⟩:=hN σ3 H3 n3
   exact ⟨m',hm,σ3,H3,I3,w3⟩
  | brk=>exact q3
  | ret v=>exact q3
 | false=>
  rw [if_neg Bool.false_ne_true]
  exact wpAny_execs_nil ⟨σ1,H2,I2,q2⟩
end
structure It where
 go:Nat->Hp->Prop
 yld:Nat->Hp->V->Hp->Prop
 stop:Nat->Hp->Prop
def Zdw (X:Cx) (pins:List (Addr×Obj)) (H:Hp) (b:Addr):Prop:=
 H b=none/\b≠X.env.locals/\b∉X.fs/\(b∈X.ex∨X.s₀.heap.objs.size<=b)/\(∀x c,X.env.cells.lookup x=some c->c≠b) /\ ∀p∈X.pn++pins,p.1≠b
theorem Inv.fpOk {X:Cx}{pins:List (Addr×Obj)} {σ:St}{H H':Hp}{s:Shared}{b:Addr} (I:Inv X pins σ H s) (hb:s.heap.objs.size<=b) (hn:H' b=none):Zdw X pins H' b:=by
 refine ⟨hn,Nat.ne_of_gt (Nat.lt_of_lt_of_le I.lt hb),I.nofs hb,.inr (Nat.le_trans I.sz hb),fun x c e z=>?_,fun p hp z=>?_⟩
 ·obtain ⟨v,q⟩:=I.cell x c e
  exact absurd (Nat.lt_of_lt_of_le q.lt (by rw [z];exact hb)) (Nat.lt_irrefl _)
 ·exact absurd (Nat.lt_of_lt_of_le (Heap.lt_size (I.pin p hp).1) (by rw [z];exact hb)) (Nat.lt_irrefl _)
structure Turn (P:Program) (w:World) (K:PySem.W.Frag) (tg:Expr) (J:It) (fp:List Addr) (it:Addr) (tn:Nat->Heap->Prop):Prop where
 mem:it∈fp
 obj:∀i h,tn i h -> ∀b∈fp,∃o,h.get? b=some o /\ ∀v,o.data ≠ .cell v
 keep:∀i h h',tn i h->(∀b∈fp,∀o,h.get? b=some o->h'.get? b=some o)->tn i h'
 item:∀(X:Cx),X.prog=P->X.w=w->X.K=K->X.calm=true -> ∀(i:Nat) (pins:List (Addr×Obj)) (s:Shared) (σ:St) (H:Hp) (E:Value->Shared->Prop),Inv X pins σ H s->(∀b∈fp,Zdw X pins H b)->tn i s.heap->J.go i H ->
  wpAny (model P w) X.A (pyNext (.ref it)) (fun r s1=>∃u,r=some u /\
   wpAny (model P w) X.A (letOwnedTupleGo tg (.ref it) u) (fun _ s2=>∃x H',Inv X pins σ H' s2/\RelV x u/\J.yld i H x H'/\tn (i+1) s2.heap /\ ∀b∈fp,H' b=none) E s1) E s
 done:∀(X:Cx),X.prog=P->X.w=w->X.K=K->X.calm=true -> ∀(i:Nat) (pins:List (Addr×Obj)) (s:Shared) (σ:St) (H:Hp) (E:Value->Shared->Prop),Inv X pins σ H s->(∀b∈fp,Zdw X pins H b)->tn i s.heap->J.stop i H ->
  wpAny (model P w) X.A (pyNext (.ref it)) (fun r s1=>r=none/\Inv X pins σ H s1) E s
 self:∀(A:Around) (i:Nat) (s:Shared) (Q:Value->Shared->Prop) (E:Value->Shared->Prop),tn i s.heap->Q (.ref it) s->wpAny (model P w) A (pyIter (.ref it)) Q E s
abbrev TI:=St->Hp->(It->Hp->Prop)->Prop
def PIE (X:Cx) (pins:List (Addr×Obj)) (σ:St) (tg:Expr) (R:It->Hp->Prop) (itv:Value) (s2:Shared):Prop:=
 ∃(it:Addr) (fp:List Addr) (tn:Nat->Heap->Prop) (J:It) (H':Hp),itv = .ref it/\Inv X pins σ H' s2/\Turn X.prog X.w X.K tg J fp it tn/\tn 0 s2.heap/\(∀b∈fp,Zdw X pins H' b)/\R J H'
def PI (X:Cx) (tg iter:Expr) (wi:TI):Prop:=
 ∀(pins:List (Addr×Obj)) (s:Shared) (σ:St) (H:Hp) (R:It->Hp->Prop),Inv X pins σ H s->wi σ H R ->
  wpAny (model X.prog X.w) X.A (eval iter X.env) (fun v s1=>wpAny (model X.prog X.w) X.A (pyIter v) (PIE X pins σ tg R) X.xe s1) X.xe s
theorem Zkl {M:Model}{A:Around}{E:Value->Shared->Prop}{s:Shared}{tg:Expr}{it:Addr}{u:Value}{o:Obj}{n:String}{vs:Array Value}{Q:Unit->Shared->Prop} (ho:s.heap.get? it=some o) (hc:o.cls = .type n) (hd:o.data = .fields vs)
    (hn:["enumerate", "zip", "dict_itemiterator", "dict_reverseitemiterator", "odict_iterator", "itertools.zip_longest", "itertools.pairwise"].contains n=false) (hQ:Q () s):wpAny M A (letOwnedTupleGo tg (.ref it) u) Q E s:=by
  unfold letOwnedTupleGo
  cases tg<;>first
    | exact wpAny_pure hQ
    | (cases u<;>first
        | exact wpAny_pure hQ
        | (refine wpAny_bind (wpAny_load ho ?_)
           rw [hc,hd]
           show wpAny M A (if (["enumerate", "zip", "dict_itemiterator", "dict_reverseitemiterator", "odict_iterator", "itertools.zip_longest", "itertools.pairwise"].contains n&&vs[0]? == some (rawInt _))=true then _ else _) Q E s
           rw [if_neg (by intro h;rw [hn,Bool.false_and] at h;cases h)]
           exact wpAny_pure hQ))
def Itl (K:PySem.W.Frag) (a:Addr):It:=
 ⟨fun i H=>∃xs x,Zo K H a xs/\xs[i]? = some x,fun i H x H'=>H'=H /\ ∀xs,Zo K H a xs->xs[i]? = some x,fun i H=>∃xs,Zo K H a xs/\xs.length<=i⟩
def Itt (K:PySem.W.Frag) (a:Addr):It:=
 ⟨fun i H=>∃xs x,WT K H a xs/\xs[i]? = some x,fun i H x H'=>H'=H /\ ∀xs,WT K H a xs->xs[i]? = some x,fun i H=>∃xs,WT K H a xs/\xs.length<=i⟩
def Itr (lo:Int) (n:Nat):It:=⟨fun i _=>i<n,fun i H x H'=>H'=H/\x = .int (lo+i),fun i _=>n<=i⟩
theorem ZiI {P:Program}{w:World}{K:PySem.W.Frag}{tg:Expr} (a it:Addr):Turn P w K tg (Itl K a) [it] it (fun i h=>h.IsListIter it a i) where
 mem:=by simp
 obj:=fun i h st b hb=>by
  have e:b=it:=by simpa using hb
  subst e
  obtain ⟨o,e,c,d⟩:=st
  exact ⟨o,e,fun v z=>by rw [d] at z;cases z⟩
 keep:=fun i h h' st k=>st.at fun o e=>k it (by simp) o e
 item:=by
  intro X hP hw hK hc i pins s σ H E I hf st hg
  subst hP hw hK
  obtain ⟨xs,x,hq,hx⟩:=hg
  obtain ⟨its,rv,p,hz⟩:=I.list hq
  obtain ⟨u,hu,ru⟩:=rv.get hx
  obtain ⟨f0,f1,f2,f3,f4,f5⟩:=hf it (by simp)
  refine wpAny_pyNext_list_item st p.isList (x:=u) (by simpa using hu) fun h' st' sb=>?_
  have I1:Inv X pins σ H { s with heap:=h' }:=I.turned (t':=s.toks) (fun b o hb e=>(sb.2 b hb).trans e) f0 f1 f3 f4 f5
  obtain ⟨o,e,c,d⟩:=id st'
  exact ⟨u,rfl,Zkl (s:={ s with heap:=h' }) e c d (by decide) ⟨x,H,I1,ru,⟨rfl,fun ys hy=>by rw [I.list_inj hy hq];exact hx⟩,st',fun b hb=>(hf b hb).1⟩⟩
 done:=by
  intro X hP hw hK hc i pins s σ H E I hf st hg
  subst hP hw hK
  obtain ⟨xs,hq,hx⟩:=hg
  obtain ⟨its,rv,p,hz⟩:=I.list hq
  obtain ⟨f0,f1,f2,f3,f4,f5⟩:=hf it (by simp)
  have hl:=rv.length
  exact wpAny_pyNext_list_end (I.ok.hd hc) st p.isList (by simp;lia) fun h' eb=>⟨rfl,I.turned (t':=s.toks) (fun b o hb e=>eb b o hb e) f0 f1 f3 f4 f5⟩
 self:=fun _ _ _ _ _ st h=>wpAny_pyIter_listiter st h
theorem Zg1 {P:Program}{w:World}{K:PySem.W.Frag}{tg:Expr} (a it:Addr):Turn P w K tg (Itt K a) [it] it (fun i h=>h.IsTupleIter it a i) where
 mem:=by simp
 obj:=fun i h st b hb=>by
  have e:b=it:=by simpa using hb
  subst e
  obtain ⟨o,e,c,d⟩:=st
  exact ⟨o,e,fun v z=>by rw [d] at z;cases z⟩
 keep:=fun i h h' st k=>st.at fun o e=>k it (by simp) o e
 item:=by
  intro X hP hw hK hc i pins s σ H E I hf st hg
  subst hP hw hK
  obtain ⟨xs,x,hq,hx⟩:=hg
  obtain ⟨its,rv,p,hz⟩:=I.tuple hq
  obtain ⟨u,hu,ru⟩:=rv.get hx
  obtain ⟨f0,f1,f2,f3,f4,f5⟩:=hf it (by simp)
  refine wpAny_pyNext_tuple_item st (show s.heap.IsTuple a its.toArray from p) (x:=u) (by simpa using hu) fun h' st' sb=>?_
  have I1:Inv X pins σ H { s with heap:=h' }:=I.turned (t':=s.toks) (fun b o hb e=>(sb.2 b hb).trans e) f0 f1 f3 f4 f5
  obtain ⟨o,e,c,d⟩:=id st'
  exact ⟨u,rfl,Zkl (s:={ s with heap:=h' }) e c d (by decide) ⟨x,H,I1,ru,⟨rfl,fun ys hy=>by rw [I.tuple_inj hy hq];exact hx⟩,st',fun b hb=>(hf b hb).1⟩⟩
 done:=by
  intro X hP hw hK hc i pins s σ H E I hf st hg
  subst hP hw hK
  obtain ⟨xs,hq,hx⟩:=hg
  obtain ⟨its,rv,p,hz⟩:=I.tuple hq
  obtain ⟨f0,f1,f2,f3,f4,f5⟩:=hf it (by simp)
  have hl:=rv.length
  exact wpAny_pyNext_tuple_end (I.ok.hd hc) st (show s.heap.IsTuple a its.toArray from p) (by simp;lia) fun h' eb=>⟨rfl,I.turned (t':=s.toks) (fun b o hb e=>eb b o hb e) f0 f1 f3 f4 f5⟩
 self:=fun _ _ _ _ _ st h=>wpAny_pyIter_tupleiter st h
theorem Zgn {P:Program}{w:World}{K:PySem.W.Frag}{tg:Expr} (it:Addr) (lo:Int) (n:Nat):Turn P w K tg (Itr lo n) [it] it (fun i h=>IsRangeIter h it (lo+(i:Nat)*1) ((n:Int)-(i:Nat)) 1) where
 mem:=by simp
 obj:=fun i h st b hb=>by
  have e:b=it:=by simpa using hb
  subst e
  exact ⟨_,st,fun v z=>by
   have z':Data.fields _=Data.cell v:=z
   cases z'⟩
 keep:=fun i h h' st k=>k it (by simp) _ st
 item:=by
  intro X hP hw hK hc i pins s σ H E I hf st hg
  subst hP hw hK
  obtain ⟨f0,f1,f2,f3,f4,f5⟩:=hf it (by simp)
  have W:=Walks.range (prog:=X.prog) (w:=X.w) (I.ok.hd hc) it lo 1 n
  refine W.item i s _ _ hg st fun v h' tk hv st' kk=>?_
  obtain ⟨t,rfl⟩:=hv
  have I1:Inv X pins σ H { s with heap:=h',toks:=tk }:=I.turned (fun b o hb e=>kk b o (by simpa using hb) e) f0 f1 f3 f4 f5
  refine ⟨_,rfl,Zkl (s:={ s with heap:=h',toks:=tk }) (n := "range_iterator") st' rfl rfl (by decide) ⟨.int (lo+i),H,I1,⟨t,?_⟩,⟨rfl,rfl⟩,st',fun b hb=>(hf b hb).1⟩⟩
  rw [Int.mul_one]
 done:=by
  intro X hP hw hK hc i pins s σ H E I hf st hg
  subst hP hw hK
  obtain ⟨f0,f1,f2,f3,f4,f5⟩:=hf it (by simp)
  exact wpAny_pyNext_range_end (I.ok.hd hc) st (by have:n<=i:=hg;lia) fun h' eb=>⟨rfl,I.turned (t':=s.toks) (fun b o hb e=>eb b o hb e) f0 f1 f3 f4 f5⟩
 self:=fun _ _ _ _ _ st h=>wpAny_pyIter_rangeiter st h
section
variable {X:Cx}{tg:Expr}
def Zmv (K:PySem.W.Frag) (tl:TE):TI:=fun σ H R=>tl σ H fun x H1=>∃a,x = .ref a/\(∃xs,Zo K H1 a xs)/\R (Itl K a) H1
def Zox (K:PySem.W.Frag) (tl:TE):TI:=fun σ H R=>tl σ H fun x H1=>∃a,x = .ref a/\(∃xs,WT K H1 a xs)/\R (Itt K a) H1
theorem Zk2 {l:Expr}{tl:TE} (hl:PE X l tl):PI X tg l (Zmv X.K tl):=by
 intro pins s σ H R I h
 refine YB (hl pins s σ H _ I h) fun v s1 ⟨x,H1,I1,r1,q1⟩=>?_
 obtain ⟨a,e,⟨xs,hq⟩,q⟩:=q1
 subst e
 cases r1
 obtain ⟨its,rv,p,hz⟩:=I1.list hq
 refine wpAny_pyIter_list p.isList ?_
 refine ⟨s1.heap.objs.size,[s1.heap.objs.size],_,_,H1,rfl,I1.kept (t':=s1.toks) fun b o e=>Heap.get?_push_of_some _ e,ZiI a _,⟨_,Heap.get?_push_size _ rfl,rfl,rfl⟩,fun b hb=>?_,q⟩
 have e:b=s1.heap.objs.size:=by simpa using hb
 subst e
 exact I1.fpOk (Nat.le_refl _) (I1.hok.fresh (Nat.le_refl _))
theorem ZmP {l:Expr}{tl:TE} (hl:PE X l tl):PI X tg l (Zox X.K tl):=by
 intro pins s σ H R I h
 refine YB (hl pins s σ H _ I h) fun v s1 ⟨x,H1,I1,r1,q1⟩=>?_
 obtain ⟨a,e,⟨xs,hq⟩,q⟩:=q1
 subst e
 cases r1
 obtain ⟨its,rv,p,hz⟩:=I1.tuple hq
 refine wpAny_pyIter_tuple (show s1.heap.IsTuple a its.toArray from p) ?_
 refine ⟨s1.heap.objs.size,[s1.heap.objs.size],_,_,H1,rfl,I1.kept (t':=s1.toks) fun b o e=>Heap.get?_push_of_some _ e,Zg1 a _,⟨_,Heap.get?_push_size _ rfl,rfl,rfl⟩,fun b hb=>?_,q⟩
 have e:b=s1.heap.objs.size:=by simpa using hb
 subst e
 exact I1.fpOk (Nat.le_refl _) (I1.hok.fresh (Nat.le_refl _))
theorem ZfW {pins:List (Addr×Obj)} {σ:St}{H:Hp}{s:Shared}{R:It->Hp->Prop}{E:Value->Shared->Prop}{lo hi:Int}{t u v:Tok}{tk:Nat} (I:Inv X pins σ H s) (h1 : -(2 ^ 62)<=lo) (h2:lo<2 ^ 62) (h3 : -(2 ^ 62)<=hi) (h4:hi<2 ^ 62)
  (q:R (Itr lo (hi-lo).toNat) H):wpAny (model X.prog X.w) X.A (pyIter (.ref s.heap.objs.size)) (PIE X pins σ tg R) E { s with heap:=s.heap.push { cls:=.type "range", data:=.fields #[.int lo t,.int hi u,.int 1 v] },toks:=tk }:=by
 refine wpAny_pyIter_range (IsRange.new ..) (small_one h1 h2 h3 h4) ?_
 have I1:Inv X pins σ H { s with heap:=s.heap.push { cls:=.type "range", data:=.fields #[.int lo t,.int hi u,.int 1 v] },toks:=tk }:=I.kept fun b o e=>Heap.get?_push_of_some _ e
 refine ⟨(s.heap.push { cls:=.type "range", data:=.fields #[.int lo t,.int hi u,.int 1 v] }).objs.size,[(s.heap.push { cls:=.type "range", data:=.fields #[.int lo t,.int hi u,.int 1 v] }).objs.size],_,_,H,rfl,
  I1.kept (t':=tk) fun b o e=>Heap.get?_push_of_some _ e,Zgn _ lo (hi-lo).toNat,?_,fun b hb=>?_,q⟩
 ·have e1:lo+((0:Nat):Int)*1=lo:=by simp
  have e2:(((hi-lo).toNat:Nat):Int)-((0:Nat):Int)=Builtin.Range.rangeSize lo hi 1:=by rw [rangeSize_one];split<;>lia
  show IsRangeIter _ _ (lo+((0:Nat):Int)*1) ((((hi-lo).toNat:Nat):Int)-((0:Nat):Int)) 1
  rw [e1,e2]
  exact Heap.get?_push_size _ rfl
 ·have e:b=(s.heap.push { cls:=.type "range", data:=.fields #[.int lo t,.int hi u,.int 1 v] }).objs.size:=by simpa using hb
  subst e
  exact I1.fpOk (Nat.le_refl _) (I1.hok.fresh (Nat.le_refl _))
def ZoA (ta:TA):TI:=fun σ H R=>ta σ H fun vs H1=>∃j:Int,vs = [.int j] /\ -(2 ^ 62)<=j/\j<2 ^ 62/\R (Itr 0 j.toNat) H1
def Zor (ta:TA):TI:=fun σ H R=>ta σ H fun vs H1=>∃i j:Int,vs = [.int i,.int j]/\(-(2 ^ 62)<=i/\i<2 ^ 62 /\ -(2 ^ 62)<=j/\j<2 ^ 62)/\R (Itr i (j-i).toNat) H1
theorem YA {a:Expr}{ta:TA}{p pos:Pos} (hg:Gl X "range") (hm:X.mg "range" = none) (ha:PA X [a] ta) (hs:starEach [a] X.env = [(false,eval a X.env)]:=by rfl):PI X tg (.Call (.Name "range" p) [a] [] pos) (ZoA ta):=by
 intro pins s σ H R I h
 refine Call_ (Zbk I hg hm boot_range (PyProof.Rows.callWith_type1 (YB (ha pos pins s σ H _ I h) fun us s1 ⟨vs,H1,I1,r1,q1⟩=>?_) hs rfl))
 obtain ⟨j,e,q1,q2,q⟩:=q1
 subst e
 cases r1 with
 | cons r rr=>
  cases rr
  obtain ⟨t,rfl⟩:=r
  exact call_range_1 (ZfW I1 (by lia) (by lia) q1 q2 (by simpa using q))
theorem ZdC {a b:Expr}{ta:TA}{p pos:Pos} (hg:Gl X "range") (hm:X.mg "range" = none) (ha:PA X [a,b] ta) (hs:starEach [a,b] X.env = [(false,eval a X.env),(false,eval b X.env)]:=by rfl) (hs2:starEach [b] X.env = [(false,eval b X.env)]:=by rfl):
  PI X tg (.Call (.Name "range" p) [a,b] [] pos) (Zor ta):=by
 intro pins s σ H R I h
 refine Call_ (Zbk I hg hm boot_range (PyProof.Rows.callWith_type1 (YB (ha pos pins s σ H _ I h) fun us s1 ⟨vs,H1,I1,r1,q1⟩=>?_) (by rw [hs,hs2]) (by rw [hs2];rfl)))
 obtain ⟨i,j,e,⟨q1,q2,q3,q4⟩,q⟩:=q1
 subst e
 cases r1 with
 | cons r rr=>
  cases rr with
  | cons r' rr=>
   cases rr
   obtain ⟨t,rfl⟩:=r
   obtain ⟨t',rfl⟩:=r'
   exact call_range_2 (ZfW I1 q1 q2 q3 q4 q)
def Zo4 (wi:TI) (g:TG) (tb:TS):TS:=fun D σ H=>wi σ H fun J H1=>∃W:Nat->Nat->St->Hp->Prop,(∃m,W 0 m σ H1) /\ ∀i m σ H,W i m σ H ->
 (J.stop i H/\D.nx σ H)∨(J.go i H /\ ∃N:St->Hp->Prop,(∀ σ' H',N σ' H' -> ∃m',m'<m/\W (i+1) m' σ' H') /\ ∀x H',J.yld i H x H'->g x σ H' fun σ2 H2=>tb { D with nx:=N,ct:=N,bk:=D.nx } σ2 H2)
def ZcS (fp:List Addr) (h:Heap):List (Addr×Obj):=fp.filterMap fun b=>(h.get? b).map fun o=>(b,o)
theorem GQ {fp:List Addr}{h:Heap}{b:Addr}{o:Obj} (hb:b∈fp) (e:h.get? b=some o):(b,o)∈ZcS fp h:=List.mem_filterMap.mpr ⟨b,hb,by rw [e];rfl⟩
theorem Ziw {fp:List Addr}{h:Heap}{p:Addr×Obj} (hp:p∈ZcS fp h):p.1∈fp/\h.get? p.1=some p.2:=by
 obtain ⟨b,hb,e⟩:=List.mem_filterMap.mp hp
 cases q:h.get? b with
 | none=>rw [q] at e;cases e
 | some o=>
  rw [q] at e
  have e':(b,o)=p:=Option.some.inj e
  subst e'
  exact ⟨hb,q⟩
theorem Inv.pinned {pins:List (Addr×Obj)} {σ:St}{H:Hp}{s:Shared}{fp:List Addr} (I:Inv X pins σ H s) (hf:∀b∈fp,Zdw X pins H b) (ho:∀b∈fp,∃o,s.heap.get? b=some o /\ ∀v,o.data ≠ .cell v):Inv X (pins++ZcS fp s.heap) σ H s:=
 I.pins_of fun p hp=>(List.mem_append.mp hp).elim (fun z=>I.pin p (List.mem_append_right _ z)) fun z=>by
  obtain ⟨hb,e⟩:=Ziw z
  obtain ⟨f0,f1,f2,_⟩:=hf p.1 hb
  obtain ⟨o,e',d⟩:=ho p.1 hb
  rw [e] at e';cases e'
  exact ⟨e,f0,f1,f2,d⟩
theorem Inv.unpinned {pins pl:List (Addr×Obj)} {σ:St}{H:Hp}{s:Shared} (I:Inv X (pins++pl) σ H s):Inv X pins σ H s:=I.pins_of fun p hp=>I.pin p (List.mem_append_right _ (List.mem_append_left _ hp))
theorem Z5 {iter:Expr}{body:List Stmt}{wi:TI}{g:TG}{tb:TS}{pos:Pos} (hp:PassesOwn (model X.prog X.w) X.A X.env X.xe) (hc:X.calm=true) (hi:PI X tg iter wi) (hg:PG X tg g) (hb:PSs X body tb)
  (hs:∀x,foldedSetIterable iter X.env x=pure x:=by intro _;rfl):PS X (.For tg iter body [] pos) (Zo4 wi g tb):=by
 intro pins s σ H D I h
 refine wpAny_For (YB (hi pins s σ H _ I h) fun v s1 h1=>YB h1 fun itv s2 h2=>?_) hs
 obtain ⟨it,fp,tn,J,H2,e,I2,T,st2,f2,W,⟨m0,w0⟩,turn⟩:=h2
 subst e
 have stat:∀{H':Hp},(∀b∈fp,H' b=none) -> ∀b∈fp,Zdw X pins H' b:=fun hn b hb=>⟨hn b hb,(f2 b hb).2⟩
 refine codeAny_forLoop_any (fun n s'=>∃i σ' H',Inv X pins σ' H' s'/\tn i s'.heap/\(∀b∈fp,H' b=none)/\W i n σ' H') ?_ m0 ⟨0,σ,H2,I2,st2,fun b hb=>(f2 b hb).1,w0⟩
 rintro n s3 ⟨i,σ3,H3,I3,st3,fr3,w3⟩
 rcases turn i n σ3 H3 w3 with ⟨stop,qn⟩ | ⟨go,N,hN,step⟩
 ·refine wpAny_passesOwn hp (YB (T.done X rfl rfl rfl hc i pins s3 σ3 H3 X.xe I3 (stat fr3) st3 stop) fun r s4 ⟨hr,I4⟩=>?_)
  subst hr
  exact wpAny_execs_nil ⟨σ3,H3,I4,qn⟩
 ·refine wpAny_passesOwn hp (YB (T.item X rfl rfl rfl hc i pins s3 σ3 H3 X.xe I3 (stat fr3) st3 go) fun r s4 ⟨u,hr,h4⟩=>?_)
  subst hr
  refine wpAny_passesOwn hp (YB h4 fun _ s5 ⟨x,H5,I5,r5,y5,st5,fr5⟩=>?_)
  have I5':=I5.pinned (stat fr5) (T.obj _ _ st5)
  refine wpAny_passesOwn hp (YB (hg _ s5 σ3 H5 x u _ I5' r5 (step x H5 y5)) fun _ s6 ⟨σ6,H6,I6,q6⟩=>?_)
  refine wpAny_passesOwn hp (YB (hb _ s6 σ6 H6 _ I6 q6) fun f s7 q7=>?_)
  have again:∀{σ7:St}{H7:Hp},Inv X (pins++ZcS fp s5.heap) σ7 H7 s7->N σ7 H7 -> ∃m,m<n /\ ∃i σ' H',Inv X pins σ' H' s7/\tn i s7.heap/\(∀b∈fp,H' b=none)/\W i m σ' H':=fun {σ7 H7} I7 n7=>by
   obtain ⟨m',hm,w7⟩:=hN σ7 H7 n7
   refine ⟨m',hm,i+1,σ7,H7,I7.unpinned,T.keep _ _ _ st5 fun b hb o e=>(I7.pin (b,o) (List.mem_append_right _ (List.mem_append_right _ (GQ hb e)))).1,fun b hb=>?_,w7⟩
   obtain ⟨o,e,d⟩:=T.obj _ _ st5 b hb
   exact (I7.pin (b,o) (List.mem_append_right _ (List.mem_append_right _ (GQ hb e)))).2.1
  cases f with
  | next=>obtain ⟨σ7,H7,I7,n7⟩:=q7;exact again I7 n7
  | cont=>obtain ⟨σ7,H7,I7,n7⟩:=q7;exact again I7 n7
  | brk=>obtain ⟨σ7,H7,I7,q7⟩:=q7;exact ⟨σ7,H7,I7.unpinned,q7⟩
  | ret v=>obtain ⟨x7,σ7,H7,I7,r7,q7⟩:=q7;exact ⟨x7,σ7,H7,I7.unpinned,r7,q7⟩
end
theorem Yd {K:PySem.W.Frag}{a:Addr}{xs:List V}{g:TG}{tb:TS}{D:Ends} {σ:St}{H:Hp} (Pv:Nat->St->Hp->Prop) (h0:Pv 0 σ H) (hl:∀i σ H,i<=xs.length->Pv i σ H->Zo K H a xs)
  (hs:∀i x σ H,xs[i]? = some x->Pv i σ H->g x σ H fun σ2 H2=>tb { D with nx:=Pv (i+1),ct:=Pv (i+1),bk:=D.nx } σ2 H2) (hd:∀ σ H,Pv xs.length σ H->D.nx σ H):
  ∃W:Nat->Nat->St->Hp->Prop,(∃m,W 0 m σ H) /\ ∀i m σ H,W i m σ H ->
   ((Itl K a).stop i H/\D.nx σ H)∨((Itl K a).go i H /\ ∃N:St->Hp->Prop,(∀ σ' H',N σ' H' -> ∃m',m'<m/\W (i+1) m' σ' H') /\ ∀x H',(Itl K a).yld i H x H'->g x σ H' fun σ2 H2=>tb { D with nx:=N,ct:=N,bk:=D.nx } σ2 H2):=by
 refine ⟨fun i m σ H=>m=xs.length-i/\i<=xs.length/\Pv i σ H,⟨xs.length,by simp,Nat.zero_le _,h0⟩,?_⟩
 rintro i m σ H ⟨rfl,hi,p⟩
 have q:=hl i σ H hi p
 by_cases hlt:i<xs.length
 ·refine .inr ⟨⟨xs,xs[i],q,by simp [hlt]⟩,Pv (i+1),fun σ' H' p'=>⟨xs.length-(i+1),by lia,rfl,hlt,p'⟩,fun x H' y=>?_⟩
  obtain ⟨e,y⟩:=y
  subst e
  exact hs i x σ _ (y xs q) p
 ·have e:i=xs.length:=by lia
  subst e
  exact .inl ⟨⟨xs,q,Nat.le_refl _⟩,hd σ H p⟩
theorem Jr {lo:Int}{n:Nat}{g:TG}{tb:TS}{D:Ends} {σ:St}{H:Hp} (Pv:Nat->St->Hp->Prop) (h0:Pv 0 σ H)
  (hs:∀i σ H,i<n->Pv i σ H->g (.int (lo+i)) σ H fun σ2 H2=>tb { D with nx:=Pv (i+1),ct:=Pv (i+1),bk:=D.nx } σ2 H2) (hd:∀ σ H,Pv n σ H->D.nx σ H):
  ∃W:Nat->Nat->St->Hp->Prop,(∃m,W 0 m σ H) /\ ∀i m σ H,W i m σ H ->
   ((Itr lo n).stop i H/\D.nx σ H)∨((Itr lo n).go i H /\ ∃N:St->Hp->Prop,(∀ σ' H',N σ' H' -> ∃m',m'<m/\W (i+1) m' σ' H') /\ ∀x H',(Itr lo n).yld i H x H'->g x σ H' fun σ2 H2=>tb { D with nx:=N,ct:=N,bk:=D.nx } σ2 H2):=by
 refine ⟨fun i m σ H=>m=n-i/\i<=n/\Pv i σ H,⟨n,by simp,Nat.zero_le _,h0⟩,?_⟩
 rintro i m σ H ⟨rfl,hi,p⟩
 by_cases hlt:i<n
 ·refine .inr ⟨hlt,Pv (i+1),fun σ' H' p'=>⟨n-(i+1),by lia,rfl,hlt,p'⟩,fun x H' y=>?_⟩
  obtain ⟨e,y⟩:=y
  subst e y
  exact hs i σ _ hlt p
 ·have e:i=n:=by lia
  subst e
  exact .inl ⟨Nat.le_refl _,hd σ H p⟩
theorem ZiZ {c:TT}{tb:TS}{D:Ends} {σ:St}{H:Hp} (Pv:St->Hp->Prop) (μ:St->Hp->Nat) (h0:Pv σ H)
  (hs:∀ σ H,Pv σ H->c σ H fun b H1=>if b=true then tb { D with nx:=fun σ' H'=>Pv σ' H' /\ μ σ' H' < μ σ H,ct:=fun σ' H'=>Pv σ' H' /\ μ σ' H' < μ σ H,bk:=D.nx } σ H1 else D.nx σ H1)
  (mono:∀ σ H Q Q',(∀b H1,Q b H1->Q' b H1)->c σ H Q->c σ H Q'):Zjj c tb D σ H:=by
 refine ⟨fun m σ H=>m = μ σ H/\Pv σ H,⟨_,rfl,h0⟩,?_⟩
 rintro m σ H ⟨rfl,p⟩
 refine mono σ H _ _ (fun b H1 q=>?_) (hs σ H p)
 cases b with
 | true=>exact ⟨_,fun σ' H' ⟨p',l⟩=>⟨_,l,rfl,p'⟩,q⟩
 | false=>exact q
abbrev R2:=V->V->Hp->VK->Prop
def OpR (X:Cx) (f:Value->Value->Sem Value) (r:R2):Prop:=
 ∀(pins:List (Addr×Obj)) (s:Shared) (σ:St) (H:Hp) (x y:V) (v u:Value) (Q:VK),Inv X pins σ H s->RelV x v->RelV y u->r x y H Q ->
  wpAny (model X.prog X.w) X.A (f v u) (EP X pins σ Q) X.xe s
def UnR (X:Cx) (f:Value->Sem Value) (r:V->Hp->VK->Prop):Prop:=
 ∀(pins:List (Addr×Obj)) (s:Shared) (σ:St) (H:Hp) (x:V) (v:Value) (Q:VK),Inv X pins σ H s->RelV x v->r x H Q ->
  wpAny (model X.prog X.w) X.A (f v) (EP X pins σ Q) X.xe s
def JM (X:Cx) (f:Value) (r:List V->Hp->VK->Prop):Prop:=
 ∀(pins:List (Addr×Obj)) (s:Shared) (σ:St) (H:Hp) (xs:List V) (us:List Value) (Q:VK),Inv X pins σ H s->Vals xs us->r xs H Q ->
  wpAny (model X.prog X.w) X.A (call f us) (EP X pins σ Q) X.xe s
def Zo3 (X:Cx) (r:V->Hp->(Bool->Hp->Prop)->Prop):Prop:=
 ∀(pins:List (Addr×Obj)) (s:Shared) (σ:St) (H:Hp) (x:V) (v:Value) (Q:Bool->Hp->Prop),Inv X pins σ H s->RelV x v->r x H Q ->
  wpAny (model X.prog X.w) X.A (truthy v) (TP X pins σ Q) X.xe s
def tOp (r:R2) (ta tb:TE):TE:=fun σ H Q=>ta σ H fun x H1=>tb σ H1 fun y H2=>r x y H2 Q
def tUn (r:V->Hp->VK->Prop) (ta:TE):TE:=fun σ H Q=>ta σ H fun x H1=>r x H1 Q
def rI (C:Int->Int->Prop) (g:Int->Int->V):R2:=fun x y H Q=>∃i j,x = .int i/\y = .int j/\C i j/\Q (g i j) H
def rI0 (g:Int->Int->V):R2:=fun x y H Q=>∃i j,x = .int i/\y = .int j/\Q (g i j) H
def rU (g:Int->V):V->Hp->VK->Prop:=fun x H Q=>∃i,x = .int i/\Q (g i) H
section
variable {X:Cx}{a b c:Expr}{ta tb tc:TE}{pos:Pos}
theorem ZmX (ha:PE X a ta) (hb:PE X b tb) {pins:List (Addr×Obj)}{s:Shared} {σ:St}{H:Hp}{R:V->V->Hp->Prop} (I:Inv X pins σ H s)
  (h:ta σ H fun x H1=>tb σ H1 fun y H2=>R x y H2) {Q:Value->Shared->Prop}{f:Value->Value->Sem Value}
  (hf:∀v u s2 x y H2,Inv X pins σ H2 s2->RelV x v->RelV y u->R x y H2->wpAny (model X.prog X.w) X.A (f v u) Q X.xe s2):
  wpAny (model X.prog X.w) X.A (eval a X.env) (fun v s₁=>wpAny (model X.prog X.w) X.A (eval b X.env) (fun u s₂=>wpAny (model X.prog X.w) X.A (f v u) Q X.xe s₂) X.xe s₁) X.xe s:=by
 refine YB (ha pins s σ H _ I h) fun v s1 ⟨x,H1,I1,r1,q1⟩=>?_
 refine YB (hb pins s1 σ H1 _ I1 q1) fun u s2 ⟨y,H2,I2,r2,q2⟩=>?_
 exact hf v u s2 x y H2 I2 r1 r2 q2
theorem Zn {op:Operator}{r:R2} (ho:OpR X (binaryOp op) r) (ha:PE X a ta) (hb:PE X b tb):PE X (.BinOp a op b pos) (tOp r ta tb):=by
 intro pins s σ H Q I h
 exact wpAny_BinOp (ZmX ha hb I h fun v u s2 x y H2 I2 rx ry q=>ho pins s2 σ H2 x y v u Q I2 rx ry q)
theorem ZaH {op:UnaryOp}{r:V->Hp->VK->Prop} (ho:UnR X (unaryOp op) r) (ha:PE X a ta):PE X (.UnaryOp op a pos) (tUn r ta):=by
 intro pins s σ H Q I h
 exact UnaryOp_ (YB (ha pins s σ H _ I h) fun v s1 ⟨x,H1,I1,r1,q1⟩=>ho pins s1 σ H1 x v Q I1 r1 q1)
theorem opI {f:Value->Value->Sem Value}{C:Int->Int->Prop}{g:Int->Int->Int}
  (rule:∀(i j:Int) (t u:Tok) (s:Shared) (Q:Value->Shared->Prop) (E:Value->Shared->Prop),C i j->Q (.int (g i j) s.toks) { s with toks:=s.toks+1 } -> wpAny (model X.prog X.w) X.A (f (.int i t) (.int j u)) Q E s):
  OpR X f (rI C fun i j=>.int (g i j)):=by
 intro pins s σ H x y v u Q I rx ry h
 obtain ⟨i,j,rfl,rfl,hc,q⟩:=h
 obtain ⟨t,rfl⟩:=rx
 obtain ⟨t',rfl⟩:=ry
 exact rule i j t t' s _ _ hc ⟨.int (g i j),H,I.tok _,⟨_,rfl⟩,q⟩
theorem Zlp {f:Value->Value->Sem Value}{g:Int->Int->Int}
  (rule:∀(i j:Int) (t u:Tok) (s:Shared) (Q:Value->Shared->Prop) (E:Value->Shared->Prop),Q (.int (g i j) s.toks) { s with toks:=s.toks+1 } -> wpAny (model X.prog X.w) X.A (f (.int i t) (.int j u)) Q E s):
  OpR X f (rI0 fun i j=>.int (g i j)):=by
 intro pins s σ H x y v u Q I rx ry h
 obtain ⟨i,j,rfl,rfl,q⟩:=h
 obtain ⟨t,rfl⟩:=rx
 obtain ⟨t',rfl⟩:=ry
 exact rule i j t t' s _ _ ⟨.int (g i j),H,I.tok _,⟨_,rfl⟩,q⟩
theorem ZlP {f:Value->Value->Sem Value}{g:Int->Int->Bool}
  (rule:∀(i j:Int) (t u:Tok) (s:Shared) (Q:Value->Shared->Prop) (E:Value->Shared->Prop),Q (.bool (g i j)) s->wpAny (model X.prog X.w) X.A (f (.int i t) (.int j u)) Q E s):
  OpR X f (rI0 fun i j=>.bl (g i j)):=by
 intro pins s σ H x y v u Q I rx ry h
 obtain ⟨i,j,rfl,rfl,q⟩:=h
 obtain ⟨t,rfl⟩:=rx
 obtain ⟨t',rfl⟩:=ry
 exact rule i j t t' s _ _ ⟨.bl (g i j),H,I,rfl,q⟩
def Zpx (i j:Int):Prop:=0<j/\j<1073741824
def Zpk (i j:Int):Prop:=0<=j/\j<=1000000/\i.natAbs<2 ^ 64
def Zny (i j:Int):Prop:=(-(2 ^ 64)<i/\i<2 ^ 64)∨(-(2 ^ 64)<j/\j<2 ^ 64)
theorem Zny.ok {i j:Int} (h:Zny i j):IntMulOk i j:=by
 rcases h with ⟨h1,h2⟩ | ⟨h1,h2⟩
 ·exact .of_left (intBits_le_64 h1 h2)
 ·exact .of_right (intBits_le_64 h1 h2)
theorem ZF:OpR X (binaryOp .Add) (rI0 fun i j=>.int (i+j)):=Zlp fun _ _ _ _ _ _ _ q=>add_int q
theorem Gp:OpR X (binaryOp .Sub) (rI0 fun i j=>.int (i-j)):=Zlp fun _ _ _ _ _ _ _ q=>sub_int q
theorem Wt:OpR X (binaryOp .Mult) (rI Zny fun i j=>.int (i*j)):=opI fun _ _ _ _ _ _ _ hc q=>mul_int q hc.ok
theorem Zb8:OpR X (binaryOp .FloorDiv) (rI Zpx fun i j=>.int (i / j)):=opI fun i j _ _ _ _ _ hc q=>by
 have h1:(0:Int)<j:=hc.1
 have h2:j<1073741824:=hc.2
 exact floordiv_int (by lia) (by rw [Int.fdiv_eq_ediv_of_nonneg i (by lia)];exact q) (.inl (PyProof.noPylong_small (by lia)))
theorem Ur:OpR X (binaryOp .Mod) (rI (fun _ j=>0<j) fun i j=>.int (i % j)):=opI fun i j _ _ _ _ _ hc q=>by
 have h1:(0:Int)<j:=hc
 exact mod_int' (by lia) (by rw [Int.fmod_eq_emod_of_nonneg i (by lia)];exact q)
theorem Zgm:OpR X (binaryOp .Pow) (rI Zpk fun i j=>.int (i ^ j.toNat)):=opI fun _ _ _ _ _ _ _ hc q=>pow_int_small hc.1 hc.2.1 hc.2.2 q
theorem ZnS:OpR X (binaryOp .BitAnd) (rI0 fun i j=>.int (Builtin.bitAnd i j)):=Zlp fun _ _ _ _ _ _ _ q=>and_int q
theorem Zm6:OpR X (binaryOp .BitXor) (rI0 fun i j=>.int (Builtin.bitXor i j)):=Zlp fun _ _ _ _ _ _ _ q=>xor_int q
theorem unI {f:Value->Sem Value}{g:Int->Int}
  (rule:∀(i:Int) (t:Tok) (s:Shared) (Q:Value->Shared->Prop) (E:Value->Shared->Prop),Q (.int (g i) s.toks) { s with toks:=s.toks+1 } -> wpAny (model X.prog X.w) X.A (f (.int i t)) Q E s):
  UnR X f (rU fun i=>.int (g i)):=by
 intro pins s σ H x v Q I rx h
 obtain ⟨i,rfl,q⟩:=h
 obtain ⟨t,rfl⟩:=rx
 exact rule i t s _ _ ⟨.int (g i),H,I.tok _,⟨_,rfl⟩,q⟩
theorem GK:UnR X (unaryOp .USub) (rU fun i=>.int (-i)):=unI fun _ _ _ _ _ q=>neg_int q
end
def ZoD:V->V->Bool
 | .non,.non=>true | .non,.int _=>true | .int _,.non=>true | .non,.bl _=>true | .bl _,.non=>true | .non,.str _=>true | .str _,.non=>true
 | .int _,.int _=>true | .bl _,.bl _=>true | .str _,.str _=>true | .byt _,.byt _=>true
 | .int _,.str _=>true | .str _,.int _=>true | .bl _,.str _=>true | .str _,.bl _=>true
 | _,_=>false
def rEq:R2:=fun x y H Q=>ZoD x y=true/\Q (.bl (decide (x=y))) H
def rNe:R2:=fun x y H Q=>ZoD x y=true/\Q (.bl (!decide (x=y))) H
theorem Zh1 {i j:Int}:decide (V.int i=V.int j)=(i==j):=by
 rw [Bool.eq_iff_iff]
 simp
theorem Zkw {i j:Bool}:decide (V.bl i=V.bl j)=(i==j):=by
 rw [Bool.eq_iff_iff]
 simp
theorem Zg3 {i j:Str}:decide (V.str i=V.str j)=(i==j):=by
 rw [Bool.eq_iff_iff]
 simp
theorem ZhR {i j:Array UInt8}:decide (V.byt i=V.byt j)=(i.toList==j.toList):=by
 rw [Bool.eq_iff_iff]
 cases i
 cases j
 simp
section
variable {X:Cx}{a b c:Expr}{ta tb tc:TE}{pos:Pos}
theorem ZW {pins:List (Addr×Obj)} {σ:St}{H:Hp}{s:Shared}{Q:VK}{k k':Bool} (I:Inv X pins σ H s) (q:Q (.bl k) H) (e:k=k'):EP X pins σ Q (.bool k') s:=by
 subst e
 exact ⟨.bl k,H,I,rfl,q⟩
theorem Uj:OpR X (compareOp .Eq) rEq:=by
 intro pins s σ H x y v u Q I rx ry h
 obtain ⟨hs,q⟩:=h
 cases x with
 | non=>
  cases rx
  cases y with
  | non=>cases ry;exact PySem.EqNone.eq_none_none (ZW I q (by simp))
  | bl j=>cases ry;exact PySem.EqNone.eq_none_bool (ZW I q (by simp))
  | int j=>obtain ⟨t',rfl⟩:=ry;exact PySem.EqNone.eq_none_int (ZW I q (by simp))
  | str j=>obtain ⟨t',rfl⟩:=ry;exact PySem.EqNone.eq_none_str (ZW I q (by simp))
  | _=>exact absurd (show false=true from hs) Bool.false_ne_true
 | bl i=>
  cases rx
  cases y with
  | non=>cases ry;exact PySem.EqNone.eq_bool_none (ZW I q (by simp))
  | bl j=>cases ry;exact eq_bool (ZW I q Zkw)
  | str j=>obtain ⟨t',rfl⟩:=ry;exact PySem.EqMixed.eq_bool_str (ZW I q (by simp))
  | _=>exact absurd (show false=true from hs) Bool.false_ne_true
 | int i=>
  obtain ⟨t,rfl⟩:=rx
  cases y with
  | non=>cases ry;exact PySem.EqNone.eq_int_none (ZW I q (by simp))
  | int j=>obtain ⟨t',rfl⟩:=ry;exact eq_int (ZW I q Zh1)
  | str j=>obtain ⟨t',rfl⟩:=ry;exact PySem.EqMixed.eq_int_str (ZW I q (by simp))
  | _=>exact absurd (show false=true from hs) Bool.false_ne_true
 | str i=>
  obtain ⟨t,rfl⟩:=rx
  cases y with
  | non=>cases ry;exact PySem.EqNone.eq_str_none (ZW I q (by simp))
  | bl j=>cases ry;exact PySem.EqMixed.eq_str_bool (ZW I q (by simp))
  | int j=>obtain ⟨t',rfl⟩:=ry;exact PySem.EqMixed.eq_str_int (ZW I q (by simp))
  | str j=>obtain ⟨t',rfl⟩:=ry;exact eq_str (ZW I q Zg3)
  | _=>exact absurd (show false=true from hs) Bool.false_ne_true
 | byt i=>
  obtain ⟨t,rfl⟩:=rx
  cases y with
  | byt j=>obtain ⟨t',rfl⟩:=ry;exact PySem.W.eq_bytes (ZW I q ZhR)
  | _=>exact absurd (show false=true from hs) Bool.false_ne_true
 | _=>cases y<;>exact absurd (show false=true from hs) Bool.false_ne_true
theorem ZhS:OpR X (compareOp .NotEq) rNe:=by
 intro pins s σ H x y v u Q I rx ry h
 obtain ⟨hs,q⟩:=h
 cases x with
 | non=>
  cases rx
  cases y with
  | non=>cases ry;exact PySem.EqNone.ne_none_none (ZW I q (by simp))
  | bl j=>cases ry;exact PySem.EqNone.ne_none_bool (ZW I q (by simp))
  | int j=>obtain ⟨t',rfl⟩:=ry;exact PySem.EqNone.ne_none_int (ZW I q (by simp))
  | str j=>obtain ⟨t',rfl⟩:=ry;exact PySem.EqNone.ne_none_str (ZW I q (by simp))
  | _=>exact absurd (show false=true from hs) Bool.false_ne_true
 | bl i=>
  cases rx
  cases y with
  | non=>cases ry;exact PySem.EqNone.ne_bool_none (ZW I q (by simp))
  | bl j=>cases ry;exact ne_bool (ZW I q (congrArg not Zkw))
  | str j=>obtain ⟨t',rfl⟩:=ry;exact PySem.EqMixed.ne_bool_str (ZW I q (by simp))
  | _=>exact absurd (show false=true from hs) Bool.false_ne_true
 | int i=>
  obtain ⟨t,rfl⟩:=rx
  cases y with
  | non=>cases ry;exact PySem.EqNone.ne_int_none (ZW I q (by simp))
  | int j=>obtain ⟨t',rfl⟩:=ry;exact ne_int (ZW I q (congrArg not Zh1))
  | str j=>obtain ⟨t',rfl⟩:=ry;exact PySem.EqMixed.ne_int_str (ZW I q (by simp))
  | _=>exact absurd (show false=true from hs) Bool.false_ne_true
 | str i=>
  obtain ⟨t,rfl⟩:=rx
  cases y with
  | non=>cases ry;exact PySem.EqNone.ne_str_none (ZW I q (by simp))
  | bl j=>cases ry;exact PySem.EqMixed.ne_str_bool (ZW I q (by simp))
  | int j=>obtain ⟨t',rfl⟩:=ry;exact PySem.EqMixed.ne_str_int (ZW I q (by simp))
  | str j=>obtain ⟨t',rfl⟩:=ry;exact ne_str (ZW I q (congrArg not Zg3))
  | _=>exact absurd (show false=true from hs) Bool.false_ne_true
 | byt i=>
  obtain ⟨t,rfl⟩:=rx
  cases y with
  | byt j=>obtain ⟨t',rfl⟩:=ry;exact PySem.W.ne_bytes (ZW I q (congrArg not ZhR))
  | _=>exact absurd (show false=true from hs) Bool.false_ne_true
 | _=>cases y<;>exact absurd (show false=true from hs) Bool.false_ne_true
theorem Zc5:OpR X (compareOp .Lt) (rI0 fun i j=>.bl (decide (i<j))):=ZlP fun _ _ _ _ _ _ _ q=>lt_int q
theorem ZoK:OpR X (compareOp .LtE) (rI0 fun i j=>.bl (decide (i<=j))):=ZlP fun _ _ _ _ _ _ _ q=>le_int q
theorem ZbS:OpR X (compareOp .Gt) (rI0 fun i j=>.bl (decide (j<i))):=ZlP fun _ _ _ _ _ _ _ q=>gt_int q
theorem Zon:OpR X (compareOp .GtE) (rI0 fun i j=>.bl (decide (j<=i))):=ZlP fun _ _ _ _ _ _ _ q=>ge_int q
theorem ZcL:OpR X (compareOp .Is) (fun x y H Q=>y = .non/\Q (.bl (decide (x = .non))) H):=by
 intro pins s σ H x y v u Q I rx ry h
 obtain ⟨rfl,q⟩:=h
 cases ry
 refine is_none_gen (ZW I q ?_)
 cases x<;>first
  | (cases rx;rfl)
  | (obtain ⟨t,rfl⟩:=rx;rfl)
theorem ZD (b:Expr) {op:CmpOp} (h:op ≠ .In:=by decide) (h2:op ≠ .NotIn:=by decide):behindInMarks op b=false:=by
 have e1:(op==CmpOp.In)=false:=by cases op<;>first | rfl | exact absurd rfl h
 have e2:(op==CmpOp.NotIn)=false:=by cases op<;>first | rfl | exact absurd rfl h2
 cases b<;>simp [behindInMarks,e1,e2]
theorem Zce {op:CmpOp}{r:R2} (ho:OpR X (compareOp op) r) (ha:PE X a ta) (hb:PE X b tb) (hm:behindInMarks op b=false):PE X (.Compare a [op] [b] pos) (tOp r ta tb):=by
 intro pins s σ H Q I h
 exact wpAny_Compare1 (ZmX ha hb I h fun v u s2 x y H2 I2 rx ry q=>ho pins s2 σ H2 x y v u Q I2 rx ry q) hm
def Zmm (t:TE):TT:=fun σ H Q=>t σ H fun x H'=>∃k,x = .bl k/\Q k H'
theorem Zu {op:CmpOp}{r:R2} (ho:OpR X (compareOp op) r) (ha:PE X a ta) (hb:PE X b tb) (hm:behindInMarks op b=false):PT X (.Compare a [op] [b] pos) (Zmm (tOp r ta tb)):=by
 intro pins s σ H Q I h
 refine wpAny_isTrue_Compare1 (YB (ha pins s σ H _ I h) fun v s1 ⟨x,H1,I1,r1,q1⟩=>YB (hb pins s1 σ H1 _ I1 q1) fun u s2 ⟨y,H2,I2,r2,q2⟩=>
  YB (ho pins s2 σ H2 x y v u _ I2 r1 r2 q2) fun c s3 ⟨z,H3,I3,r3,k,e,q3⟩=>?_) hm
 subst e
 cases r3
 exact wpAny_truthy_bool ⟨H3,I3,q3⟩
def Znv (r r':R2) (ta tb tc:TE):TE:=fun σ H Q=>ta σ H fun x H1=>tb σ H1 fun y H2=>r x y H2 fun z H3=>∃k,z = .bl k /\
 (if k=true then tc σ H3 fun w' H4=>r' y w' H4 Q else Q (.bl false) H3)
theorem Zkj {op op':CmpOp}{r r':R2} (ho:OpR X (compareOp op) r) (ho':OpR X (compareOp op') r') (ha:PE X a ta) (hb:PE X b tb) (hc:PE X c tc)
  (hm:lastMarks [op,op'] [b,c]=false:=by with_unfolding_all rfl):PT X (.Compare a [op,op'] [b,c] pos) (Zmm (Znv r r' ta tb tc)):=by
 intro pins s σ H Q I h
 refine isTrue_chain (YB (ha pins s σ H _ I h) fun v s1 ⟨x,H1,I1,r1,q1⟩=>test_link (YB (hb pins s1 σ H1 _ I1 q1) fun u s2 ⟨y,H2,I2,r2,q2⟩=>
  YB (ho pins s2 σ H2 x y v u _ I2 r1 r2 q2) fun d s3 ⟨z,H3,I3,r3,k,e,q3⟩=>?_)) hm
 subst e
 cases r3
 refine wpAny_truthy_bool ?_
 cases k with
 | false=>
  obtain ⟨k',e',q'⟩:=q3
  cases e'
  exact ite_ff ⟨H3,I3,q'⟩
 | true=>
  refine ite_tt (test_last (YB (hc pins s3 σ H3 _ I3 q3) fun w' s4 ⟨z',H4,I4,r4,q4⟩=>YB (ho' pins s4 σ H4 y z' u w' _ I4 r2 r4 q4) fun d' s5 ⟨z2,H5,I5,r5,k2,e2,q5⟩=>?_))
  subst e2
  cases r5
  exact wpAny_truthy_bool ⟨H5,I5,q5⟩
def ZoN (K:PySem.W.Frag) (x:V) (H:Hp) (k:Bool):Prop:=
 match x with
 | .non=>k=false
 | .bl b=>k=b
 | .int i=>k=(i != 0)
 | .str y=>y.length<=sizeLine/\k=((y.length:Int) != 0)
 | .byt y=>y.size<=sizeLine/\k=((y.size:Int) != 0)
 | .ref p=>(∃xs,Zo K H p xs/\k = !xs.isEmpty)∨(∃xs,WT K H p xs/\k = !xs.isEmpty) ∨ ∃kvs,H p=some (.dK kvs)/\k = !kvs.isEmpty
 | _=>False
theorem Zgt {κ:Type}{kvs:List (κ × V)}{vs:List (κ × Value)} (r:KV kvs vs):(!vs.isEmpty) = !kvs.isEmpty:=by
 cases r<;>rfl
theorem ZcH {xs:List V}{its:List Value} (r:Vals xs its):(!its.toArray.isEmpty) = !xs.isEmpty:=by
 cases r<;>simp
theorem Zct:(sizeLine:Nat)<2 ^ 63:=by rw [sizeLine_eq];decide
theorem Zm5:Zo3 X (fun x H Q=>∃k,ZoN X.K x H k/\Q k H):=by
 intro pins s σ H x v Q I rx h
 obtain ⟨k,e,q⟩:=h
 have hl:=Zct
 have hs:sizeLine=16777216:=sizeLine_eq
 cases x with
 | non=>
  cases rx
  have e':k=false:=e
  subst e'
  exact truthy_none ⟨H,I,q⟩
 | bl b=>
  cases rx
  have e':k=b:=e
  subst e'
  exact wpAny_truthy_bool ⟨H,I,q⟩
 | int i=>
  obtain ⟨t,rfl⟩:=rx
  have e':k=(i != 0):=e
  subst e'
  exact PySem.P.truthy_int ⟨H,I,q⟩
 | str y=>
  obtain ⟨t,rfl⟩:=rx
  obtain ⟨hy,e'⟩:y.length<=sizeLine/\k=((y.length:Int) != 0):=e
  subst e'
  exact PySem.P.truthy_str (by lia) ⟨H,I.tok _,q⟩
 | byt y=>
  obtain ⟨t,rfl⟩:=rx
  obtain ⟨hy,e'⟩:y.size<=sizeLine/\k=((y.size:Int) != 0):=e
  subst e'
  exact PySem.W.truthy_bytes (by lia) ⟨H,I.tok _,q⟩
 | ref p=>
  cases rx
  have e':(∃xs,Zo X.K H p xs/\k = !xs.isEmpty)∨(∃xs,WT X.K H p xs/\k = !xs.isEmpty) ∨ ∃kvs,H p=some (.dK kvs)/\k = !kvs.isEmpty:=e
  rcases e' with ⟨xs,hx,e'⟩ | ⟨xs,hx,e'⟩ | ⟨kvs,hx,e'⟩
  ·subst e'
   obtain ⟨its,r,pl,hz⟩:=I.list hx
   have hlen:=r.length
   exact wpAny_truthy_list pl.isList (by simp only [List.size_toArray];lia) ⟨H,I.tok _,by rw [ZcH r];exact q⟩
  ·subst e'
   obtain ⟨its,r,pl,hz⟩:=I.tuple hx
   have hlen:=r.length
   exact truthy_tuple pl (by simp only [List.size_toArray];lia) ⟨H,I.tok _,by rw [ZcH r];exact q⟩
  ·subst e'
   obtain ⟨hz,hS,vs,r,m⟩:kvs.length<=sizeLine/\(p==sysModules)=false /\ ∃vs,KV kvs vs/\s.heap.DictOf (YD X.prog X.w) p vs:=I.hok p _ hx
   have hlen:kvs.length=vs.length:=Paired.length r
   exact wpAny_truthy_dict hS m (by lia) ⟨H,I.tok _,by rw [Zgt r];exact q⟩
 | _=>exact (show False from e).elim
theorem Zi6 (ha:PE X a ta) (he:∀whole,isTrue a X.env whole=(do let v <- whole;standAt a.pos;holding [v] (truthy v))):
  PT X a (fun σ H Q=>ta σ H fun x H'=>∃k,ZoN X.K x H' k/\Q k H'):=by
 intro pins s σ H Q I h
 exact isTrue_plain (YB (ha pins s σ H _ I h) fun v s1 ⟨x,H1,I1,r1,q1⟩=>Zm5 pins s1 σ H1 x v Q I1 r1 q1) (he _)
theorem vals1 {x:V}{us:List Value} (r:Vals [x] us):∃u,us = [u]/\RelV x u:=by
 cases r with
 | cons r1 r2=>cases r2;exact ⟨_,rfl,r1⟩
theorem vals2 {x y:V}{us:List Value} (r:Vals [x,y] us):∃u w',us = [u,w']/\RelV x u/\RelV y w':=by
 cases r with
 | cons r1 r2=>
  cases r2 with
  | cons r3 r4=>cases r4;exact ⟨_,_,rfl,r1,r3⟩
theorem ZcF:JM X (.builtin "abs") (fun xs H Q=>∃i,xs = [.int i]/\Q (.int (if i<0 then -i else i)) H):=by
 intro pins s σ H xs us Q I r h
 obtain ⟨i,rfl,q⟩:=h
 obtain ⟨u,rfl,t,rfl⟩:=vals1 r
 exact call_abs_int fun u tk=>⟨.int (if i<0 then -i else i),H,I.tok _,⟨_,rfl⟩,q⟩
theorem ZiG (hc:X.calm=true):JM X (.builtin "max") (fun xs H Q=>∃i j,xs = [.int i,.int j]/\Q (.int (if j>i then j else i)) H):=by
 intro pins s σ H xs us Q I r h
 obtain ⟨i,j,rfl,q⟩:=h
 obtain ⟨u,w',rfl,⟨t,rfl⟩,⟨t',rfl⟩⟩:=vals2 r
 refine max_two_ints (I.ok.hd hc) fun h' tk k=>⟨_,H,I.kept k,?_,q⟩
 by_cases hj:j>i
 ·rw [if_pos hj,if_pos hj];exact ⟨_,rfl⟩
 ·rw [if_neg hj,if_neg hj];exact ⟨_,rfl⟩
theorem Zid (hc:X.calm=true):JM X (.builtin "min") (fun xs H Q=>∃i j,xs = [.int i,.int j]/\Q (.int (if j<i then j else i)) H):=by
 intro pins s σ H xs us Q I r h
 obtain ⟨i,j,rfl,q⟩:=h
 obtain ⟨u,w',rfl,⟨t,rfl⟩,⟨t',rfl⟩⟩:=vals2 r
 refine min_two_ints (I.ok.hd hc) fun h' tk k=>⟨_,H,I.kept k,?_,q⟩
 by_cases hj:j<i
 ·rw [if_pos hj,if_pos hj];exact ⟨_,rfl⟩
 ·rw [if_neg hj,if_neg hj];exact ⟨_,rfl⟩
end
structure Zlo (h:Heap) (x dx C:Addr) (mA:Str->Option Value):Prop where
 obj:h.get? x=some (PySem.W.instObj C dx)
 ns:h.Ns1 dx mA
 ne:dx≠x
theorem Zic {h:Heap}{dx:Addr}{mA:Str->Option Value} (n:h.Ns1 dx mA):∃od,h.get? dx=some od /\ ∀name,PySem.W.lookIn name od=some (mA name):=by
 obtain ⟨o,es,ep,ho,hd,hk,_,hm⟩:=n
 refine ⟨o,ho,fun name=>?_⟩
 have e:=hm name
 unfold nsFind findBy at e
 rw [<- Array.find?_toList] at e
 unfold PySem.W.lookIn
 rw [hd]
 dsimp only
 split
 ·rename_i y q
  rw [q] at e
  exact congrArg some e
 ·rename_i q
  rw [q] at e
  have a:es.toList.any (·.refKey)=false:=by
   rw [List.any_eq_false]
   intro y hy
   obtain ⟨z,t,hkey⟩:=hk y (Array.mem_toList_iff.mp hy)
   simp [DictEntry.refKey,hkey]
  have a':¬es.toList.any (·.refKey)=true:=by rw [a];exact Bool.false_ne_true
  rw [if_neg a']
  exact congrArg some e
theorem Zlo.look {h:Heap}{x dx C:Addr}{mA:Str->Option Value} (I:Zlo h x dx C mA):∃od,PySem.W.InstAt h x (PySem.W.instObj C dx) C (some od) /\ ∀name,PySem.W.lookIn name od=some (mA name):=
 let ⟨od,ho,hl⟩:=Zic I.ns
 ⟨od,⟨I.obj,rfl,rfl,ho⟩,hl⟩
section
variable {prog:Program}{w:World}{A:Around}{E:Value->Shared->Prop}{s:Shared}{K:PySem.W.Frag}{x dx C f:Addr}{mA:Str->Option Value}{name:Str}{v:Value}
theorem Zjn {pl:Sem Bool}{Q:Value×List Value->Shared->Prop} (X:K.In s.heap) (I:Zlo s.heap x dx C mA) (hg:PySem.W.plainGet K C name=true)
  (hf:PySem.W.findIn K (.ref C) name=some (some (.ref f))) (ht:PySem.W.isFn K (.ref f)=true) (hv:mA name=none) (h:Q (.ref f,[.ref x]) s):
  wpAny (model prog w) A (getMethod (.ref x) name pl) Q E s:=by
 obtain ⟨od,J,hl⟩:=I.look
 exact PySem.W.method_fn X J (PySem.W.plainGet_of hg).1 (PySem.W.plainGet_of hg).2 hf (beq_iff_eq.mp ht) (by show (PySem.W.lookIn name od).map (·.isSome)=some false;rw [hl,hv];rfl) h
theorem ZiO {R:Result->Shared->Prop} (X:K.In s.heap) (hm:PySem.W.makesIn K C=true)
  (hi:PySem.W.findIn K (.ref C) "__init__" = some (some (.builtin "object.__init__")))
  (hb:∀self,PySem.W.Looks (model prog w) s.heap (bindSpecial (.builtin "object.__init__") self) (.builtin "object.__init__", [self]))
  (h:codeAny (model prog w) (A.under (.builtin "type.__call__" ⟨[.ref C],[]⟩)) (.call (.builtin "object.__init__") ⟨[.ref (s.heap.objs.size+1)],[]⟩) (PySem.W.InitBack (s.heap.objs.size+1) R)
   { s with heap:=(s.heap.push PySem.W.emptyDict).push (PySem.W.instObj C s.heap.objs.size) }):
  codeAny (model prog w) A (.call (.ref C) ⟨[],[]⟩) R s:=by
 obtain ⟨hh,g,d,t,os⟩:=s
 exact PySem.W.make_core (PySem.W.makes_of X hm) (PySem.W.looks_findIn X hi) hb (.inr ⟨rfl,rfl⟩) h
end
theorem Zdr.none_of {o:Option Value} (r:Zdr none o):o=none:=by
 cases o with
 | none=>rfl
 | some u=>exact (show False from r).elim
section
variable {P:Program}{w:World}{H H':Hp}{h h':Heap}{a C dx:Addr}{fs fs':List (Str×V)}
theorem ZlX (hok:GN P w H h) (e:H a=some (.ins C dx fs)):∃mA,Zlo h a dx C mA/\(∀f,Zdr (fs.lookup f) (mA f))/\PySem.Within mA (fs.map (·.1))/\fs.length<=1000/\H dx=some (.own a):=by
 obtain ⟨d,z,ne,ob,mA,n,r,q⟩:=(show Yw P w H h a (.ins C dx fs) from hok a _ e)
 exact ⟨mA,⟨ob,n,ne⟩,r,q,z,d⟩
end
structure Cls (K:PySem.W.Frag) (C:Addr):Prop where
 pg:PySem.W.plainGet K C Str.empty=true
 hd:PySem.W.hasDictIn K C=true
 po:PySem.W.plainOver K C=true
 sa:PySem.W.findIn K (.ref C) "__setattr__" = some (some (.builtin "object.__setattr__"))
theorem Cls.get {K:PySem.W.Frag}{C:Addr} (c:Cls K C) (f:Str):PySem.W.plainGet K C f=true:=c.pg
structure Con (K:PySem.W.Frag) (C:Addr) (f:Str) (v:V) (u:Value):Prop where
 at_:PySem.W.findIn K (.ref C) f=some (some u)
 rel:RelV v u
 get:PySem.W.specialIn K u "__get__" = some none
 cp:PySem.W.copiedNames.contains f=false
structure Meth (K:PySem.W.Frag) (C:Addr) (m:Str) (f:Addr):Prop where
 at_:PySem.W.findIn K (.ref C) m=some (some (.ref f))
 fn:PySem.W.isFn K (.ref f)=true
 kp:PySem.W.keepIn K (.ref f)=true
section
variable {X:Cx}{pins:List (Addr×Obj)} {σ:St}{H:Hp}{s:Shared}{a C dx:Addr}{fs:List (Str×V)}{f:Str}{v:V}{A:Around}{E:Value->Shared->Prop}
theorem Zcj {m:Str}{g:Addr}{pl:Sem Bool}{Q:Value×List Value->Shared->Prop} (I:Inv X pins σ H s) (e:H a=some (.ins C dx fs)) (c:Cls X.K C) (k:Meth X.K C m g) (l:fs.lookup m=none)
  (h:Q (.ref g,[.ref a]) s):wpAny (model X.prog X.w) A (getMethod (.ref a) m pl) Q E s:=by
 obtain ⟨mA,O,r,_,_,_⟩:=ZlX I.hok e
 have hn:mA m=none:=Zdr.none_of (by rw [<- l];exact r m)
 exact Zjn I.kIn O (c.get m) k.at_ k.fn hn h
theorem Inv.made (I:Inv X pins σ H s):Inv X pins σ (upd (upd H s.heap.objs.size (.own (s.heap.objs.size+1))) (s.heap.objs.size+1) (.ins C s.heap.objs.size []))
  { s with heap:=(s.heap.push PySem.W.emptyDict).push (PySem.W.instObj C s.heap.objs.size) }:=by
 have e1:(s.heap.push PySem.W.emptyDict).get? s.heap.objs.size=some PySem.W.emptyDict:=Heap.get?_push_size s.heap rfl
 have e2:((s.heap.push PySem.W.emptyDict).push (PySem.W.instObj C s.heap.objs.size)).get? (s.heap.objs.size+1)=some (PySem.W.instObj C s.heap.objs.size):=by
  have:=Heap.get?_push_size (s.heap.push PySem.W.emptyDict) (o:=PySem.W.instObj C s.heap.objs.size) rfl
  rwa [Heap.size_push] at this
 have e3:(s.heap.push PySem.W.emptyDict).Ns s.heap.objs.size (fun _=>none):=⟨PySem.W.emptyDict,#[],_,e1,rfl,(fun e he=>absurd he (by simp)),fun _=>rfl⟩
 have I1:=I.laid (a:=s.heap.objs.size) (o:=.own (s.heap.objs.size+1)) (h':=s.heap.push PySem.W.emptyDict) (t':=s.toks) (fun b u q=>Heap.get?_push_of_some _ q) (Nat.le_refl _) ⟨_,e1⟩
 refine I1.laid (a:=s.heap.objs.size+1) (o:=.ins C s.heap.objs.size []) (t':=s.toks) (fun b u q=>Heap.get?_push_of_some _ q) (Nat.le_of_eq (Heap.size_push _ _)) ?_
 have ne:s.heap.objs.size≠s.heap.objs.size+1:=Nat.ne_of_lt (Nat.lt_succ_self _)
 refine ⟨by rw [Zj ne,Zb],Nat.zero_le _,ne,e2,fun _=>none,(Heap.Ns1.of_empty e3).at fun o q=>Heap.get?_push_of_some _ q,fun _=>True.intro,fun y hy=>absurd rfl hy⟩
end
section
variable {X:Cx}{o e value:Expr}{f:Str}{pos pos' tpos:Pos}{ta tv:TE}
end
section
variable {X:Cx}{pins:List (Addr×Obj)} {σ:St}{H:Hp}{s:Shared}{A:Around}{E:Value->Shared->Prop}{Q:Value->Shared->Prop}{c:Value}{b:Bool}
inductive Zch (K:PySem.W.Frag) (H:Hp):V->Value->Prop where
 | non:Zch K H .non (.type "NoneType")
 | bl (x:Bool):Zch K H (.bl x) (.type "bool")
 | int (i:Int):Zch K H (.int i) (.type "int")
 | str (x:Str):Zch K H (.str x) (.type "str")
 | flt (x:UInt64):Zch K H (.flt x) (.type "float")
 | lst {a:Addr}{xs:List V} (e:H a=some (.lst xs)):Zch K H (.ref a) (.type "list")
 | frz {a:Addr}{o:Obj}{xs:List V} (e:H a=some (.frz o (.lst xs))):Zch K H (.ref a) (.type "list")
 | tup {a:Addr}{xs:List V} (e:H a=some (.tup xs)):Zch K H (.ref a) (.type "tuple")
 | dK {a:Addr}{kvs:List (Key×V)} (e:H a=some (.dK kvs)):Zch K H (.ref a) (.type "dict")
 | dT {a:Addr}{kvs:List (List Key×V)} (e:H a=some (.dT kvs)):Zch K H (.ref a) (.type "dict")
 | ins {a C dx:Addr}{fs:List (Str×V)} (e:H a=some (.ins C dx fs)) (cl:Cls K C) (ha:PySem.W.findIn K (.ref C) "__class__" = some (some (.builtin "object.__class__")))
   (hn:PySem.W.specialIn K (.builtin "object.__class__") "__get__" = some (some (.builtin "getset_descriptor.__get__"))) (htk:PySem.W.takesIn K (.builtin "object.__class__")=some true)
   (hm:PySem.W.mroIn K C (.type "object")=some true):Zch K H (.ref a) (.ref C)
end
structure JZ (k:Nat) (A:Around):Prop where
 hd:A.handled=none
 dp:A.depth+3*k+5<recursionLimit
 un:A.units+16*k+200<cLine
theorem JZ.mono {j k:Nat}{A:Around} (r:JZ k A) (h:j<=k):JZ j A:=⟨r.hd,by have:=r.dp;lia,by have:=r.un;lia⟩
theorem JZ.deeper {k:Nat}{A:Around} (r:JZ (k+1) A) (env:Env):JZ k (A.deeper env):=
 ⟨r.hd,by have:=r.dp;show A.depth+1+3*k+5<_;lia,by have:=r.un;show A.units+3+16*k+200<_;lia⟩
theorem JZ.depth {k:Nat}{A:Around} (r:JZ k A):A.depth<recursionLimit:=by have:=r.dp;lia
theorem JZ.units {k:Nat}{A:Around} (r:JZ k A):A.units+64<cLine:=by have:=r.un;lia
def Zm8:TA:=fun _ H Q=>Q [] H
def Zou (ta:TE) (tr:TA):TA:=fun σ H Q=>ta σ H fun x H1=>tr σ H1 fun xs H2=>Q (x::xs) H2
section
variable {X:Cx}{e:Expr}{es:List Expr}{te:TE}{t:TA}{pos:Pos}
theorem Zc:PA X [] Zm8:=fun _ _ _ _ H Q I h=>Calls.spliced_nil ⟨[],H,I,.nil,h⟩
theorem Za (ha:PE X e te) (hr:PA X es t) (hs:starEach (e::es) X.env=(false,eval e X.env)::starEach es X.env:=by rfl):PA X (e::es) (Zou te t):=by
 intro pos pins s σ H Q I h
 rw [hs]
 show wpAny _ _ (spliced ((false,eval e X.env)::backTo pos (starEach es X.env))) _ _ s
 refine Calls.spliced_cons (YB (ha pins s σ H _ I h) fun u s1 ⟨x,H1,I1,r1,q1⟩=>?_)
 exact YB (hr pos pins s1 σ H1 _ I1 q1) fun us s2 ⟨xs,H2,I2,r2,q2⟩=>⟨x::xs,H2,I2,.cons r1 r2,q2⟩
def Zo5 (t:TA):TE:=fun σ H Q=>t σ H fun xs H1=>xs.length<=sizeLine /\ ∀p,H1 p=none->Q (.ref p) (upd H1 p (.tup xs))
def Zpa (t:TA):TE:=fun σ H Q=>t σ H fun xs H1=>xs.length<=sizeLine /\ ∀p,H1 p=none->Q (.ref p) (upd H1 p (.lst xs))
theorem JP {x1} (h:PA X es t):PE X (.Tuple es x1 pos) (Zo5 t):=by
 intro pins s σ H Q I hq
 refine wpAny_Tuple_spliced (YB (h pos pins s σ H _ I hq) fun us s1 ⟨xs,H1,I1,r,z,q⟩=>⟨by rw [<- r.length];exact z,?_⟩)
 have hf:H1 s1.heap.objs.size=none:=I1.hok.fresh (Nat.le_refl _)
 refine ⟨.ref s1.heap.objs.size,upd H1 s1.heap.objs.size (.tup xs),I1.laid (t':=s1.toks) (fun b u e=>Heap.get?_push_of_some _ e) (Nat.le_refl _) ?_,rfl,q _ hf⟩
 exact ⟨z,us,r,⟨_,Heap.get?_push_size _ rfl,rfl,_,rfl⟩⟩
theorem Z6 (h:PA X es t):PE X (.List es pos) (Zpa t):=by
 intro pins s σ H Q I hq
 refine wpAny_List_spliced (YB (h pos pins s σ H _ I hq) fun us s1 ⟨xs,H1,I1,r,z,q⟩=>⟨by rw [<- r.length];exact z,?_⟩)
 have hf:H1 s1.heap.objs.size=none:=I1.hok.fresh (Nat.le_refl _)
 refine ⟨.ref s1.heap.objs.size,upd H1 s1.heap.objs.size (.lst xs),I1.laid (t':=s1.toks) (fun b u e=>Heap.get?_push_of_some _ e) (Nat.le_refl _) ?_,rfl,q _ hf⟩
 exact ⟨z,us,0,r,Heap.get?_push_size _ rfl⟩
end
abbrev Sp:=List V->Hp->VK->XK->Prop
abbrev CXT:=List Env->Hp->Shared->XK->Value->Shared->Prop
structure Zi7 (P:Program) (w:World) (K:PySem.W.Frag) (mg:Str->Option Value) (base:Heap) (A:Around) (outer:List Env) (s:Shared) (H:Hp):Prop where
 frames:A.frames=some outer
 mod:Mod K mg base
 bs:∀b o,base.get? b=some o->s.heap.get? b=some o/\H b=none
 bsz:base.objs.size<=s.heap.objs.size
 funs:s.heap.FunFrames base outer
 frf:∀b∈J5 outer,H b=none
 hok:GN P w H s.heap
 bare:AllBare s.gens
def CE (outer:List Env) (P:Program) (w:World) (H:Hp) (s:Shared) (Q:VK) (u:Value) (s':Shared):Prop:=
 ∃v H',s'.os=s.os/\AllBare s'.gens/\Un (J5 outer) [] H H' s.heap s'.heap/\GN P w H' s'.heap/\RelV v u/\Q v H'
def CR (CX:CXT) (outer:List Env) (P:Program) (w:World) (H:Hp) (s:Shared) (Q:VK) (E:XK) (r:Result) (s':Shared):Prop:=
 match r with
 | .ok (.ret u)=>CE outer P w H s Q u s'
 | .ok _=>False
 | .error e=>CX outer H s E e s'
structure ZX (P:Program) (w:World) (K:PySem.W.Frag) (mg:Str->Option Value) (base:Heap) (CX:CXT) (k:Nat) (f:Addr) (fd:FuncData) (ps:List Str) (sp:Sp):Prop where
 len:∀vs H Q E,sp vs H Q E->vs.length=ps.length
 run:∀(A:Around) (outer:List Env) (s:Shared) (H:Hp) (args:Args) (us:List Value) (vs:List V) (Q:VK) (E:XK),JZ k A->Zi7 P w K mg base A outer s H->BindsTo s fd args (ps.zip us)->Vals vs us->sp vs H Q E ->
  codeAny (model P w) A (.call (.ref f) args) (CR CX outer P w H s Q E) s
section
variable {X:Cx}{pins:List (Addr×Obj)} {σ:St}{H:Hp}{s s':Shared}
theorem Inv.env0 (I:Inv X pins σ H s):Zi7 X.prog X.w X.K X.mg X.base X.A X.stack s H:=
 ⟨I.ok.frames,I.ok.mod,I.bs,Nat.le_trans I.ok.bsz I.sz,I.stack,I.stkFree,I.hok,I.bare⟩
theorem Inv.after {Q:VK}{u:Value} (I:Inv X pins σ H s) (h:CE X.stack X.prog X.w H s Q u s'):EP X pins σ Q u s':=by
 obtain ⟨v,H',os,bare,un,hok,r,q⟩:=h
 obtain ⟨hh,g,d,t,os'⟩:=s'
 obtain rfl:os'=s.os:=os
 exact ⟨v,H',I.call (h':=hh) (g':=g) (d':=d) (t':=t) (ch:=[]) un hok bare (fun b z=>absurd z (by simp)),r,q⟩
end
def Zju (sp:Sp) (dvs:List V) (E:XK) (t:TA):TE:=fun σ H Q=>t σ H fun vs H1=>sp (vs++dvs) H1 Q E
def Zhr (C:Addr) (m:Str) (sp:Sp) (dvs:List V) (E:XK) (ta:TE) (t:TA):TE:=fun σ H Q=>ta σ H fun x H1=>∃a dx fs,x = .ref a/\H1 a=some (.ins C dx fs)/\fs.lookup m=none /\
 t σ H1 fun vs H2=>sp (x::(vs++dvs)) H2 Q E
def Binds (K:PySem.W.Frag) (fd:FuncData) (ps:List Str) (ds:List Value):Prop:=
 ∀(s:Shared) (us:List Value),K.In s.heap->(us++ds).length=ps.length->BindsTo s fd ⟨us,[]⟩ (ps.zip (us++ds))
theorem Binds.all {K:PySem.W.Frag}{fd:FuncData}{ps:List Str} (h:∀us:List Value,us.length=ps.length->bindArgs fd ⟨us,[]⟩=pure (ps.zip us)):Binds K fd ps []:=fun s us _ hl=>by
 rw [List.append_nil] at hl ⊢
 exact .of_eq (h us hl)
def Passes (CX:CXT) (X:Cx) (E:XK):Prop:=∀(pins:List (Addr×Obj)) (σ:St) (H:Hp) (s:Shared) (e:Value) (s':Shared),Inv X pins σ H s->CX X.stack H s E e s'->X.xe e s'
section
variable {X:Cx}{CX:CXT}{k:Nat}{f C:Addr}{fd:FuncData}{ps:List Str}{sp:Sp}{dvs:List V}{ds:List Value}{E:XK}{x m:Str}{p pos apos:Pos}{e o:Expr}{es:List Expr}{ta:TE}{t:TA}
theorem ZgU {pins:List (Addr×Obj)} {σ:St}{H:Hp}{s:Shared}{Q:VK}{us:List Value}{vs:List V} (F:ZX X.prog X.w X.K X.mg X.base CX k f fd ps sp) (hr:JZ k X.A) (hb:Binds X.K fd ps ds) (hd:Vals dvs ds) (hx:Passes CX X E)
  (I:Inv X pins σ H s) (r:Vals vs us) (h:sp (vs++dvs) H Q E):wpAny (model X.prog X.w) X.A (call (.ref f) us) (EP X pins σ Q) X.xe s:=by
 have r2:Vals (vs++dvs) (us++ds):=r.append hd
 have hl:(us++ds).length=ps.length:=by rw [<- r2.length];exact F.len _ _ _ _ h
 refine wpAny_call (codeAny_mono (F.run X.A X.stack s H ⟨us,[]⟩ (us++ds) (vs++dvs) Q E hr I.env0 (hb s us I.kIn hl) r2 h) fun r s' hq=>?_)
 cases r with
 | error e=>exact hx pins σ H s e s' I hq
 | ok fl=>
  cases fl with
  | ret u=>exact I.after hq
  | next=>exact False.elim hq
  | brk=>exact False.elim hq
  | cont=>exact False.elim hq
theorem Zh4 (F:ZX X.prog X.w X.K X.mg X.base CX k f fd ps sp) (hr:JZ k X.A) (hg:Gl X x) (hm:X.mg x=some (.ref f)) (hk:PySem.W.keepIn X.K (.ref f)=true) (hb:Binds X.K fd ps ds) (hd:Vals dvs ds) (hx:Passes CX X E)
  (ha:PA X (e::es) t) (hdb:(x==("__debug__" : Str))=false:=by decide) (he:starEach (e::es) X.env=(false,eval e X.env)::starEach es X.env:=by rfl) (hpl:(backTo pos (starEach es X.env)).any (·.1)=false:=by rfl):
  PE X (.Call (.Name x p) (e::es) [] pos) (Zju sp dvs E t):=by
 intro pins s σ H Q I h
 refine wpAny_Call_Name_kw (UX I hg hm ?_ hdb)
 refine PySem.W.callWith_K (h₀:=X.base) I.ok.mod.kin hk (YB (ha pos pins s σ H _ I h) fun us s1 ⟨vs,H1,I1,r,q⟩=>⟨I1.kIn,?_⟩) he hpl
 exact ZgU F hr hb hd hx I1 r q
theorem Zln {pl:Sem Bool} (he:PE X o ta) (c:Cls X.K C) (hm:Meth X.K C m f) (F:ZX X.prog X.w X.K X.mg X.base CX k f fd ps sp) (hr:JZ k X.A) (hb:Binds X.K fd ps ds) (hd:Vals dvs ds) (hx:Passes CX X E) (ha:PA X (e::es) t)
  (hst:starEach (e::es) X.env=(false,eval e X.env)::starEach es X.env:=by rfl) (hpl:(backTo pos (starEach es X.env)).any (·.1)=false:=by rfl)
  (ht:eval (.Call (.Attribute o m apos) (e::es) [] pos) X.env=(do
   let ov <- eval o X.env
   standAt apos.atName
   let (f,first) <- holding [ov] (getMethod ov m pl)
   callWith pos f first (backTo pos (starEach (e::es) X.env)) (backToKw pos (keywordEach [] X.env))):=by rfl):
  PE X (.Call (.Attribute o m apos) (e::es) [] pos) (Zhr C m sp dvs E ta t):=by
 intro pins s σ H Q I h
 refine PySem.W.methodCall_KW (pl:=pl) (YB (he pins s σ H _ I h) fun u s1 ⟨x,H1,I1,rx,a,dx,fs,ex,ea,l,q⟩=>?_) ht
 subst ex
 obtain rfl:u=Value.ref a:=rx
 refine Zcj I1 ea c hm l ?_
 refine PySem.W.callWith_K (first:=[.ref a]) (h₀:=X.base) I.ok.mod.kin hm.kp (YB (ha pos pins s1 σ H1 _ I1 q) fun us s2 ⟨vs,H2,I2,r,q2⟩=>⟨I2.kIn,?_⟩) hst hpl
 exact ZgU (us:=.ref a::us) (vs:=.ref a::vs) F hr hb hd hx I2 (.cons rfl r) q2
theorem ZjI {pl:Sem Bool} (he:PE X o ta) (c:Cls X.K C) (hm:Meth X.K C m f) (F:ZX X.prog X.w X.K X.mg X.base CX k f fd ps sp) (hr:JZ k X.A) (hb:Binds X.K fd ps ds) (hd:Vals dvs ds) (hx:Passes CX X E)
  (ht:eval (.Call (.Attribute o m apos) [] [] pos) X.env=(do
   let ov <- eval o X.env
   standAt apos.atName
   let (f,first) <- holding [ov] (getMethod ov m pl)
   callWith pos f first (backTo pos (starEach [] X.env)) (backToKw pos (keywordEach [] X.env))):=by rfl):
  PE X (.Call (.Attribute o m apos) [] [] pos) (Zhr C m sp dvs E ta Zm8):=by
 intro pins s σ H Q I h
 refine PySem.W.methodCall_KW (pl:=pl) (YB (he pins s σ H _ I h) fun u s1 ⟨x,H1,I1,rx,a,dx,fs,ex,ea,l,q⟩=>?_) ht
 subst ex
 obtain rfl:u=Value.ref a:=rx
 refine Zcj I1 ea c hm l ?_
 exact PySem.W.callWith_K0 (first:=[.ref a]) I1.kIn hm.kp (ZgU (us:=[.ref a]) (vs:=[.ref a]) F hr hb hd hx I1 (.cons rfl .nil) q)
structure Mk (K:PySem.W.Frag) (C f:Addr):Prop where
 makes:PySem.W.makesIn K C=true
 init:PySem.W.findIn K (.ref C) "__init__" = some (some (.ref f))
 fn:PySem.W.isFn K (.ref f)=true
 kp:PySem.W.keepIn K (.ref C)=true
end
section
variable {X:Cx}{CX:CXT}{k:Nat}{f C:Addr}{fd:FuncData}{ps ks:List Str}{sp:Sp}{E:XK}{x m:Str}{p pos apos kpos:Pos}{e o:Expr}{es:List Expr}{kws:List Keyword}{te ta:TE}{t tk:TA}{nm:Option Str}
structure Zpq (K:PySem.W.Frag) (fd:FuncData) (ps ks:List Str) (g:List Value->List Value->List Value) (gV:List V->List V->List V):Prop where
 to:∀(s:Shared) (us ws:List Value),K.In s.heap->(g us ws).length=ps.length->BindsTo s fd ⟨us,ks.zip ws⟩ (ps.zip (g us ws))
 rel:∀{vs:List V}{us:List Value}{zs:List V}{ws:List Value},Vals vs us->Vals zs ws->Vals (gV vs zs) (g us ws)
variable {g:List Value->List Value->List Value}{gV:List V->List V->List V}
end
structure Zp (N P:List Str) (sc:Scope):Prop where
 kind:sc.kind = .function:=by rfl
 co:sc.isCoroutine=false:=by rfl
 gen:sc.isGenerator=false:=by rfl
 nd:N.Nodup:=by decide +kernel
 pre:N.take P.length=P:=by rfl
 par:∀x∈P,sc.names.lookup x=some .local∨sc.names.lookup x=some .cell:=by decide +kernel
 nofree:∀y∈sc.names,y.2 ≠ .free:=by decide +kernel
theorem ZdG {kindOf:Str->Option NameKind}{x:Str}:∀{binds:List (Str×Value)}{m:Str->Option Value},(∀v,(x,v)∉binds)->bindL kindOf binds m x=m x
 | [],_,_=>rfl
 | (n,v)::r,m,h=>by
  unfold bindL
  rw [ZdG fun w hw=>h w (List.mem_cons_of_mem _ hw)]
  split
  ·have:x≠n:=by rintro rfl;exact h v List.mem_cons_self
   simp [this]
  ·rfl
theorem Zdy {kindOf:Str->Option NameKind}{x:Str}:∀{binds:List (Str×Value)}{m:Str->Option Value},(∀v,(x,v)∉binds)->bindC kindOf binds m x=m x
 | [],_,_=>rfl
 | (n,v)::r,m,h=>by
  unfold bindC
  rw [Zdy fun w hw=>h w (List.mem_cons_of_mem _ hw)]
  split
  ·rfl
  ·have:x≠n:=by rintro rfl;exact h v List.mem_cons_self
   simp [this]
theorem ZdU {kindOf:Str->Option NameKind}{x:Str}{v:Value}:∀{P:List Str}{vs:List Value}{i:Nat}{m:Str->Option Value},P.Nodup->P[i]? = some x->vs[i]? = some v->kindOf x=some .local ->
  bindL kindOf (P.zip vs) m x=some v
 | [],_,_,_,_,h,_,_=>by simp at h
 | _::_,[],_,_,_,_,h,_=>by simp at h
 | p::P,w::vs,0,m,nd,h1,h2,hk=>by
  simp at h1 h2;subst h1;subst h2
  show bindL kindOf ((p,w)::P.zip vs) m p=_
  unfold bindL
  rw [ZdG fun v hv=>(List.nodup_cons.mp nd).1 (List.of_mem_zip hv).1,if_pos hk]
  simp
 | p::P,w::vs,i+1,m,nd,h1,h2,hk=>by
  show bindL kindOf ((p,w)::P.zip vs) m x=_
  unfold bindL
  exact ZdU (i:=i) (List.nodup_cons.mp nd).2 (by simpa using h1) (by simpa using h2) hk
theorem ZdW {kindOf:Str->Option NameKind}{x:Str}{v:Value}:∀{P:List Str}{vs:List Value}{i:Nat}{m:Str->Option Value},P.Nodup->P[i]? = some x->vs[i]? = some v->kindOf x≠some .local ->
  bindC kindOf (P.zip vs) m x=some v
 | [],_,_,_,_,h,_,_=>by simp at h
 | _::_,[],_,_,_,_,h,_=>by simp at h
 | p::P,w::vs,0,m,nd,h1,h2,hk=>by
  simp at h1 h2;subst h1;subst h2
  show bindC kindOf ((p,w)::P.zip vs) m p=_
  unfold bindC
  rw [Zdy fun v hv=>(List.nodup_cons.mp nd).1 (List.of_mem_zip hv).1,if_neg hk]
  simp
 | p::P,w::vs,i+1,m,nd,h1,h2,hk=>by
  show bindC kindOf ((p,w)::P.zip vs) m x=_
  unfold bindC
  exact ZdW (i:=i) (List.nodup_cons.mp nd).2 (by simpa using h1) (by simpa using h2) hk
def start (N:List Str) (vs:List V):St:=vs.map some++List.replicate (N.length-vs.length) none
def Wb (CX:CXT) (P:Program) (w:World) (K:PySem.W.Frag) (mg:Str->Option Value) (base:Heap) (N:List Str) (qual:Str) (scope:Scope) (f:Addr) (cd:Value) (A:Around) (outer:List Env) (s:Shared) (H:Hp) (E:XK):Cx where
 prog:=P
 w:=w
 K:=K
 mg:=mg
 base:=base
 A:=A.deeper (envOfC qual scope s.heap.objs.size f cd)
 N:=N
 s₀:=s
 H₀:=H
 env:=envOfC qual scope s.heap.objs.size f cd
 outer:=outer
 stack:=envOfC qual scope s.heap.objs.size f cd::outer
 ex:=[]
 calm:=true
 fn:=fun _=>true
 pn:=[]
 xe:=fun e s'=>wpAny (model P w) (A.deeper (envOfC qual scope s.heap.objs.size f cd)) (leaving (envOfC qual scope s.heap.objs.size f cd) e) (fun _ s''=>CX outer H s E e s'') (fun e' s''=>CX outer H s E e' s'') s'
theorem Ze9 {sc:Scope}{n:Nat}{x:Str} (h:sc.names.lookup x=some .cell):∃c,(cellsFrom n sc.names []).lookup x=some c:=by
 have q:=PySem.W.cellsFrom_some sc.names n [] (.inl h)
 exact Option.isSome_iff_exists.mp q
theorem Zij {CX:CXT}{P:Program}{w:World}{K:PySem.W.Frag}{mg:Str->Option Value}{base:Heap}{N ps:List Str}{qual:Str}{scope:Scope}{f:Addr}{cd:Value}{A:Around}{outer:List Env}{s s1:Shared}{H:Hp}{E:XK}{us:List Value}{vs:List V}
  (S:Zp N ps scope) (hd:A.handled=none) (e0:Zi7 P w K mg base A outer s H) (hl:vs.length=ps.length) (r:Vals vs us)
  (x:InCallC s s.heap.objs.size (bindL (envOfC qual scope s.heap.objs.size f cd).kindOf (ps.zip us) fun _=>none) (cellsFrom (s.heap.objs.size+1) scope.names []) (bindC (envOfC qual scope s.heap.objs.size f cd).kindOf (ps.zip us) fun _=>none) s1):
  Inv (Wb CX P w K mg base N qual scope f cd A outer s H E) [] (start N vs) H s1:=by
 have hpl:ps.length<=N.length:=by have:=congrArg List.length S.pre;rw [List.length_take] at this;lia
 obtain ⟨h1,tk,rfl,hk⟩:=x.done
 have noA:∀b:Addr,b∉(Wb CX P w K mg base N qual scope f cd A outer s H E).ex:=fun b z=>absurd (show b∈([]:List Addr) from z) (by simp)
 refine ⟨⟨e0.mod,S.kind,rfl,rfl,Nat.le_refl _,fun y z c h1 h2=>?_,fun y hy=>?_,fun y c _ h=>?_,fun _=>hd,Around.frames_deeper e0.frames,.inr ⟨rfl,rfl⟩,fun b z=>absurd z (noA b),e0.bs,e0.bsz,fun b _ _=>noA b,fun b z=>absurd z (noA b),e0.funs,e0.frf⟩,
  rfl,e0.bare,Un.kept hk,⟨_,x.toInCall.ns,fun i y v h1 h2 h3=>?_⟩,fun y c h=>⟨_,x.cell y c h⟩,e0.hok.fresh (Nat.le_refl _),fun y c h=>?_,fun p hp=>absurd (show p∈([]:List (Addr×Obj)) from hp) (by simp),e0.hok.kept hk,?_⟩
 ·exact name_of_addr x.apart (PySem.mem_of_lookup h1) (PySem.mem_of_lookup h2)
 ·have hy:scope.names.lookup y=some .cell∨scope.names.lookup y=some .free:=hy
  rcases hy with hy | hy
  ·exact Ze9 hy
  ·exact absurd rfl (S.nofree _ (PySem.mem_of_lookup hy))
 ·exact Nat.le_of_lt (x.above y c (PySem.mem_of_lookup h))
 ·have hi:i<vs.length:=by
   unfold start at h2
   by_cases hi:i<vs.length
   ·exact hi
   ·rw [List.getElem?_append_right (by simpa using hi)] at h2
    rw [List.getElem?_replicate] at h2
    split at h2<;>cases h2
  have ha:vs[i]? = some v:=by
   unfold start at h2
   rw [List.getElem?_append_left (by simpa using hi),List.getElem?_map] at h2
   cases e:vs[i]? with
   | none=>rw [e] at h2;cases h2
   | some a=>rw [e] at h2;cases h2;rfl
  obtain ⟨u,hu,rv⟩:=r.get ha
  have hp:ps[i]? = some y:=by
   rw [<- S.pre,List.getElem?_take_of_lt (by lia)];exact h1
  have ndP:ps.Nodup:=by rw [<- S.pre];exact S.nd.sublist (List.take_sublist _ _)
  refine ⟨u,rv,?_⟩
  rcases S.par y (List.mem_of_getElem? hp) with k | k
  ·exact .inl ⟨k,ZdU ndP hp hu k⟩
  ·obtain ⟨c,e⟩:=Ze9 (n:=s.heap.objs.size+1) k
   refine .inr ⟨.inl k,c,e,?_⟩
   have q:=x.cell y c e
   rw [ZdW ndP hp hu (by show scope.names.lookup y≠_;rw [k];decide)] at q
   exact q
 ·exact e0.hok.fresh (Nat.le_of_lt (x.above y c (PySem.mem_of_lookup h)))
 ·unfold start
  show _=N.length
  rw [List.length_append,List.length_map,List.length_replicate]
  lia
theorem Zmy {CX:CXT}{P:Program}{w:World}{K:PySem.W.Frag}{mg:Str->Option Value}{base:Heap}{k:Nat}{f:Addr}{name qual:Str}{params:Arguments}{body:List Stmt}{scope:Scope}{dV kV doc pm cdv ct oc:Value}{an od:Option Addr}
  {osl:Array (Option Value)}{N ps:List Str}{sp:Sp} (lk:K.lookup f=some ⟨oc,od,.func (PySem.W.fnOf name qual params body scope dV kV doc pm an cdv ct),osl⟩) (hcd:PySem.W.codeIn K cdv qual=true) (S:Zp N ps scope)
  (len:∀vs H Q E,sp vs H Q E->vs.length=ps.length)
  (hbody:∀(A:Around) (outer:List Env) (s:Shared) (H:Hp) (vs:List V) (Q:VK) (E:XK),JZ k (A.deeper (envOfC qual scope s.heap.objs.size f cdv))->sp vs H Q E ->
   ∃t,PSs (Wb CX P w K mg base N qual scope f cdv A outer s H E) body t/\t { nx:=fun _ H'=>Q .non H',rt:=Q } (start N vs) H):
  ZX P w K mg base CX (k+1) f (PySem.W.fnOf name qual params body scope dV kV doc pm an cdv ct) ps sp:=by
 refine ⟨len,fun A outer s H args us vs Q E hr e0 hb r hsp=>?_⟩
 have hl:=len _ _ _ _ hsp
 have KX:K.In s.heap:=e0.mod.kin.keeps fun b o e=>(e0.bs b o e).1
 have lim:s.heap.NoLimit:=e0.mod.nolimit.keeps fun b o e=>(e0.bs b o e).1
 have hkind:∀y∈ps.zip us,scope.names.lookup y.1=some .local∨(scope.names.lookup y.1=some .cell/\((cellsFrom (s.heap.objs.size+1) scope.names []).lookup y.1).isSome=true):=fun ⟨n,v⟩ hy=>by
  rcases S.par n (List.of_mem_zip hy).1 with q | q
  ·exact .inl q
  ·exact .inr ⟨q,PySem.W.cellsFrom_some _ _ _ (.inl q)⟩
 refine codeAny_call_function hr.depth (KX _ _ lk) rfl S.co S.gen rfl (PySem.W.codeRec_of KX hcd) (hb _ _ _ _ ?_)
 refine wpAny_newFunctionEnv_cells S.kind hkind fun env he s1 x=>?_
 subst he
 refine ⟨lim.keeps x.toInCall.keep,codeAny_func ?_⟩
 obtain ⟨t,ht,hq⟩:=hbody A outer s H vs Q E (hr.deeper _) hsp
 have I:Inv (Wb CX P w K mg base N qual scope f cdv A outer s H E) [] (start N vs) H s1:=Zij S hr.hd e0 hl r x
 refine wpAny_mono (ht [] s1 (start N vs) H _ I hq) (fun fl s' hs=>?_) fun e s' hs=>hs
 have fin:∀{σ':St}{H':Hp}{v:V}{u:Value},Inv (Wb CX P w K mg base N qual scope f cdv A outer s H E) [] σ' H' s'->RelV v u->Q v H'->CE outer P w H s Q u s':=
  fun {σ' H' v u} J rv q=>⟨v,H',J.os,J.bare,J.base,J.hok,rv,q⟩
 cases fl with
 | ret u=>
  obtain ⟨v,σ',H',J,rv,q⟩:=hs
  exact fin J rv q
 | next=>
  obtain ⟨σ',H',J,q⟩:=hs
  exact fin (v:=V.non) (u:=Value.none) J rfl q
 | brk=>
  obtain ⟨_,_,_,q⟩:=hs
  exact False.elim q
 | cont=>
  obtain ⟨_,_,_,q⟩:=hs
  exact False.elim q
section
variable {X:Cx}{x:Str}{p pos:Pos}{e:Expr}{es:List Expr}{t:TA}{id T:String}{r:List V->Hp->VK->Prop}
def tCB (r:List V->Hp->VK->Prop) (t:TA):TE:=fun σ H Q=>t σ H fun vs H1=>r vs H1 Q
theorem Zy (hc:JM X (.builtin id) r) (hg:Gl X x) (hm:X.mg x=none) (hv:bootBuiltins x=some (.builtin id)) (ha:PA X (e::es) t) (hn:x ≠ "__name__" := by decide) (hdb:(x==("__debug__" : Str))=false:=by decide)
  (he:starEach (e::es) X.env=(false,eval e X.env)::starEach es X.env:=by rfl) (hpl:(backTo pos (starEach es X.env)).any (·.1)=false:=by rfl):PE X (.Call (.Name x p) (e::es) [] pos) (tCB r t):=by
 intro pins s σ H Q I h
 refine wpAny_Call_Name_kw (Zbk I hg hm hv ?_ hn hdb)
 exact PyProof.Rows.callWith_builtin1 (YB (ha pos pins s σ H _ I h) fun us s1 ⟨vs,H1,I1,r1,q1⟩=>hc pins s1 σ H1 vs us Q I1 r1 q1) he hpl
theorem Zbu (hc:JM X (.type T) r) (hg:Gl X x) (hm:X.mg x=none) (hv:bootBuiltins x=some (.type T)) (ha:PA X (e::es) t) (hn:x ≠ "__name__" := by decide) (hdb:(x==("__debug__" : Str))=false:=by decide)
  (he:starEach (e::es) X.env=(false,eval e X.env)::starEach es X.env:=by rfl) (hpl:(backTo pos (starEach es X.env)).any (·.1)=false:=by rfl):PE X (.Call (.Name x p) (e::es) [] pos) (tCB r t):=by
 intro pins s σ H Q I h
 refine wpAny_Call_Name_kw (Zbk I hg hm hv ?_ hn hdb)
 exact PyProof.Rows.callWith_type1 (YB (ha pos pins s σ H _ I h) fun us s1 ⟨vs,H1,I1,r1,q1⟩=>hc pins s1 σ H1 vs us Q I1 r1 q1) he hpl
end
end L2
namespace HT
open PySem PyProof.Rows
def lexLt:List Int->List Int->Bool
 | [],[]=>false
 | [],_::_=>true
 | _::_,[]=>false
 | x::xs,y::ys=>if x=y then lexLt xs ys else decide (x<y)
section
open PySem.SeqAt
open PySem.AutoSeq1 (wpAny_loadPart')
open PySem.MeetsSeq PySem.MeetsSeq2 PySem.MeetsSeq3
end
section
variable {prog:Program}{w:World}{A:Around}{E:Value->Shared->Prop}{s:Shared}
theorem ZlB {t b:Addr}{vs ws:List Value}{Q:Value->Shared->Prop} (ht:IsTup s.heap t vs.toArray) (hb:IsTup s.heap b ws.toArray) (hv:vs ≠ [])
  (h1:ws = []->Q (.ref t) s) (h2:ws ≠ []->Q (.ref s.heap.objs.size) { s with heap:=s.heap.push { cls:=.type "tuple", data:=.seq (vs++ws).toArray } })
  (hsz:vs.length+ws.length<=sizeLine):wpAny (model prog w) A (binaryOp .Add (.ref t) (.ref b)) Q E s:=by
 obtain ⟨⟨cls,dd,data,sl⟩,ho,hc,n,hd⟩:=id ht
 obtain ⟨⟨cls2,dd2,data2,sl2⟩,ho2,hc2,n2,hd2⟩:=id hb
 simp only at hc hd hc2 hd2
 subst hc hd hc2 hd2
 have e:vs.toArray++ws.toArray=(vs++ws).toArray:=by simp
 by_cases hw:ws = []
 ·exact concat_meets ⟨_,ho,rfl⟩ ⟨_,ho2,rfl⟩ noFill_tuple_add seq_tuple_add PySem.F.slot_tuple_add PySem.F.entry_tuple_add (PySem.F.args_tuple_add_2 _ _)
   (tuple_addW1 t b vs.toArray ws.toArray n n2 dd dd2 sl sl2 (by simpa using hv) (by simp [hw])) ⟨ho,ho2,h1 hw⟩
 ·refine concat_meets ⟨_,ho,rfl⟩ ⟨_,ho2,rfl⟩ noFill_tuple_add seq_tuple_add PySem.F.slot_tuple_add PySem.F.entry_tuple_add (PySem.F.args_tuple_add_2 _ _)
   (tuple_addW2 t b vs.toArray ws.toArray n n2 dd dd2 sl sl2 (by simpa using hv) (by simpa using hw) (by rw [List.size_toArray,List.size_toArray];exact hsz)) ⟨ho,ho2,?_⟩
  rw [e]
  exact h2 hw
def sIx (n d:Nat):Option Int->Nat
 | none=>d
 | some v=>if v<0 then (v+(n:Int)).toNat else min v.toNat n
theorem ZfA (n d:Nat):sIx n d none=d:=rfl
theorem Zhm (n d k:Nat):sIx n d (some (k:Int))=min k n:=by
 show (if (k:Int)<0 then ((k:Int)+(n:Int)).toNat else min (k:Int).toNat n)=min k n
 rw [if_neg (by lia),Int.toNat_natCast]
end
end HT
namespace L2
open PySem PySem.Spec PyProof.Rows
abbrev TO:=St->Hp->(Option Int->Hp->Prop)->Prop
def PO (X:Cx) (e:Option Expr) (t:TO):Prop:=
 ∀(pins:List (Addr×Obj)) (s:Shared) (σ:St) (H:Hp) (Q:Option Int->Hp->Prop),Inv X pins σ H s->t σ H Q ->
  wpAny (model X.prog X.w) X.A (evalPart e X.env) (fun u s'=>∃o H',Inv X pins σ H' s'/\IsPart u o/\Q o H') X.xe s
def ZlE:TO:=fun _ H Q=>Q none H
def Zoe (t:TE):TO:=fun σ H Q=>t σ H fun x H1=>∃i,x = .int i/\Q (some i) H1
section
variable {X:Cx}{e:Expr}{te:TE}{lo hi:Option Expr}{tl th:TO}{pos p2:Pos}
theorem YT:PO X none ZlE:=by
 intro pins s σ H Q I h
 rw [evalPart_none]
 exact wpAny_pure ⟨none,H,I,.none,h⟩
theorem Z9 (h:PE X e te):PO X (some e) (Zoe te):=by
 intro pins s σ H Q I hw
 rw [evalPart_some]
 refine YB (h pins s σ H _ I hw) fun u s1 ⟨x,H1,I1,r1,q1⟩=>?_
 obtain ⟨i,rfl,q⟩:=q1
 obtain ⟨t,rfl⟩:=r1
 exact ⟨some i,H1,I1,.int i t,q⟩
def SlR (X:Cx) (r:V->Option Int->Option Int->Hp->VK->Prop):Prop:=
 ∀(pins:List (Addr×Obj)) (s:Shared) (σ:St) (H:Hp) (x:V) (v vl vu:Value) (lo hi:Option Int) (sl:Addr) (Q:VK),Inv X pins σ H s->RelV x v->s.heap.IsSliceOf sl vl vu .none->IsPart vl lo->IsPart vu hi->r x lo hi H Q ->
  ∃T id,typeLookup (.type T) "__getitem__" = pure (some (.builtin id))/\s.TypeIs v T/\wpAny (model X.prog X.w) X.A (getItem v (.ref sl)) (EP X pins σ Q) X.xe s
def tSl (r:V->Option Int->Option Int->Hp->VK->Prop) (te:TE) (tl th:TO):TE:=fun σ H Q=>te σ H fun x H1=>tl σ H1 fun l H2=>th σ H2 fun u H3=>r x l u H3 Q
theorem Yp {r:V->Option Int->Option Int->Hp->VK->Prop} (hr:SlR X r) (he:PE X e te) (hl:PO X lo tl) (hu:PO X hi th):PE X (.Subscript e (.Slice lo hi none p2) pos) (tSl r te tl th):=by
 intro pins s σ H Q I h
 refine Subscript_ (YB (he pins s σ H _ I h) fun v s1 ⟨x,H1,I1,r1,q1⟩=>?_)
 refine wpAny_Slice (YB (hl pins s1 σ H1 _ I1 q1) fun vl s2 ⟨l,H2,I2,pl,q2⟩=>YB (hu pins s2 σ H2 _ I2 q2) fun vu s3 ⟨u,H3,I3,pu,q3⟩=>?_)
 rw [evalPart_none]
 refine wpAny_pure ?_
 have I4:Inv X pins σ H3 { s3 with heap:=s3.heap.push { cls:=.type "slice", data:=.fields #[vl,vu,.none] } }:=I3.kept (t':=s3.toks) fun b ob q=>Heap.get?_push_of_some _ q
 obtain ⟨T,id,hT,ht,hg⟩:=hr pins { s3 with heap:=s3.heap.push { cls:=.type "slice", data:=.fields #[vl,vu,.none] } } σ H3 x v vl vu l u s3.heap.objs.size Q I4 r1 (Heap.IsSliceOf.new ..) pl pu q3
 show wpAny (model X.prog X.w) X.A (subscriptTail e (.Slice lo hi none p2) v (.ref s3.heap.objs.size)) (EP X pins σ Q) X.xe { s3 with heap:=s3.heap.push { cls:=.type "slice", data:=.fields #[vl,vu,.none] } }
 exact tail_any (ops:=[.ref s3.heap.objs.size,v]) ht hT hg (by with_unfolding_all rfl)
def ZcQ (xs:List V) (lo hi:Option Int):List V:=(xs.drop (HT.sIx xs.length 0 lo)).take (HT.sIx xs.length xs.length hi-HT.sIx xs.length 0 lo)
theorem Zf2 (xs:List V) (lo hi:Option Int):(ZcQ xs lo hi).length<=xs.length:=by
 unfold ZcQ
 rw [List.length_take,List.length_drop]
 lia
end
def ixN (n:Nat) (i:Int):Option Nat:=if 0<=i then (if i<n then some i.toNat else none) else if -(n:Int)<=i then some (i+n).toNat else none
def atI {α:Type} (xs:List α) (i:Int):Option α:=(ixN xs.length i).bind fun j=>xs[j]?
theorem Zg5 {n:Nat}{i:Int}{j:Nat} (h:ixN n i=some j):seqIndex? i n=some j/\j<n /\ -(n:Int)<=i/\i<n:=by
 unfold ixN at h
 by_cases h0:0<=i
 ·rw [if_pos h0] at h
  by_cases h1:i<n
  ·rw [if_pos h1] at h
   have e:i.toNat=j:=Option.some.inj h
   exact ⟨by rw [seqIndex_of h0 h1,e],by lia,by lia,h1⟩
  ·rw [if_neg h1] at h;cases h
 ·rw [if_neg h0] at h
  by_cases h1 : -(n:Int)<=i
  ·rw [if_pos h1] at h
   have e:(i+n).toNat=j:=Option.some.inj h
   exact ⟨by rw [seqIndex_neg (by lia) h1,e],by lia,h1,by lia⟩
  ·rw [if_neg h1] at h;cases h
theorem Zhq {α:Type}{xs:List α}{i:Int}{v:α} (h:atI xs i=some v):∃j,seqIndex? i xs.length=some j/\xs[j]? = some v/\j<xs.length /\ -(xs.length:Int)<=i/\i<xs.length:=by
 unfold atI at h
 cases e:ixN xs.length i with
 | none=>rw [e] at h;cases h
 | some j=>
  rw [e] at h
  obtain ⟨h1,h2,h3,h4⟩:=Zg5 e
  exact ⟨j,h1,h,h2,h3,h4⟩
theorem Zv {α:Type}{xs:List α}{j:Nat}{v:α} (h:xs[j]? = some v):atI xs (j:Int)=some v:=by
 have hj:j<xs.length:=(List.getElem?_eq_some_iff.mp h).1
 have e:ixN xs.length (j:Int)=some j:=by
  unfold ixN
  rw [if_pos (by lia),if_pos (by lia)];simp
 unfold atI;rw [e];exact h
theorem ZaX {α:Type} (xs:List α) (v:α):atI (xs ++ [v]) (-1)=some v:=by
 have hl:(xs ++ [v]).length=xs.length+1:=by simp
 have e:ixN (xs ++ [v]).length (-1)=some xs.length:=by
  unfold ixN
  rw [hl,if_neg (by decide),if_pos (by lia)]
  congr 1
  lia
 unfold atI
 rw [e]
 show (xs ++ [v])[xs.length]? = some v
 simp
def Zk0 (b:Expr):Prop:=∀o i,subscripted b false o i=operate [o,i] (getItem o i)
def IxR (X:Cx) (r:R2):Prop:=
 ∀(value slice:Expr) (pins:List (Addr×Obj)) (s:Shared) (σ:St) (H:Hp) (x y:V) (v u:Value) (Q:VK),Inv X pins σ H s->RelV x v->RelV y u->r x y H Q ->
  subscripted slice false v u=operate [v,u] (getItem v u)->wpAny (model X.prog X.w) X.A (subscriptTail value slice v u) (EP X pins σ Q) X.xe s
def MtR (X:Cx) (id:String) (r:V->List V->Hp->VK->Prop):Prop:=
 ∀(pins:List (Addr×Obj)) (s:Shared) (σ:St) (H:Hp) (x:V) (xs:List V) (v:Value) (us:List Value) (Q:VK),Inv X pins σ H s->RelV x v->Vals xs us->r x xs H Q ->
  wpAny (model X.prog X.w) X.A (call (.builtin id) (v::us)) (EP X pins σ Q) X.xe s
section
variable {X:Cx}{a b:Expr}{ta tb:TE}{pos:Pos}
theorem Zz {r:R2} (hr:IxR X r) (ha:PE X a ta) (hb:PE X b tb) (hs:Zk0 b):PE X (.Subscript a b pos) (tOp r ta tb):=by
 intro pins s σ H Q I h
 exact Subscript_ (ZmX ha hb I h fun v u s2 x y H2 I2 rx ry q=>hr a b pins s2 σ H2 x y v u Q I2 rx ry q (hs _ _))
def Zok (K:PySem.W.Frag):R2:=fun x y H Q=>∃p xs i v,x = .ref p/\y = .int i/\Zo K H p xs/\atI xs i=some v/\Q v H
def Zoq (K:PySem.W.Frag):R2:=fun x y H Q=>∃p xs i v,x = .ref p/\y = .int i/\WT K H p xs/\atI xs i=some v/\Q v H
theorem Zl5:IxR X (Zok X.K):=by
 intro value slice pins s σ H x y v u Q I rx ry h hs
 obtain ⟨p,xs,i,z,rfl,rfl,hq,he,q⟩:=h
 cases rx
 obtain ⟨t,rfl⟩:=ry
 obtain ⟨its,r,pl,hz⟩:=I.list hq
 obtain ⟨j,h1,h2,h3,h4,h5⟩:=Zhq he
 obtain ⟨w,ew,rw'⟩:=r.get h2
 have hl:=r.length
 have hn:=Zct
 have fin:EP X pins σ Q w s:=⟨z,H,I,rw',q⟩
 by_cases h0:0<=i
 ·have hj:i.toNat=j:=by
   rw [seqIndex_of h0 h5] at h1
   exact Option.some.inj h1
  exact item_listR pl.isList h0 (by lia) (by rw [hj];simpa using ew) fin hs
 ·have hj:(i+(its.toArray.size:Int)).toNat=j:=by
   rw [seqIndex_neg (by lia) h4] at h1
   rw [List.size_toArray,<- hl]
   exact Option.some.inj h1
  exact subscriptTail_builtinR (x:=w) pl.isList.typeIs slot_list_getitem.lookup
   (wpAny_getItem_list_neg (Q:=fun r s'=>r=w/\EP X pins σ Q r s') pl.isList (by lia) (by rw [List.size_toArray]<;>lia) (by lia) (by rw [hj];simpa using ew) ⟨rfl,fin⟩) hs
theorem ZmH:IxR X (Zoq X.K):=by
 intro value slice pins s σ H x y v u Q I rx ry h hs
 obtain ⟨p,xs,i,z,rfl,rfl,hq,he,q⟩:=h
 cases rx
 obtain ⟨t,rfl⟩:=ry
 obtain ⟨its,r,pl,hz⟩:=I.tuple hq
 obtain ⟨j,h1,h2,h3,h4,h5⟩:=Zhq he
 obtain ⟨w,ew,rw'⟩:=r.get h2
 have hl:=r.length
 have hn:=Zct
 have fin:EP X pins σ Q w s:=⟨z,H,I,rw',q⟩
 exact subscriptTail_builtinR (x:=w) pl.typeIs slot_tuple_getitem.lookup
  (getItem_tuple (j:=j) (Q:=fun r s'=>r=w/\EP X pins σ Q r s') pl (by lia) (by lia) (by rw [List.size_toArray,<- hl];exact h1) (by simpa using ew) ⟨rfl,fin⟩) hs
theorem ZgT (its:List Value) (n j:Nat) (u:Value):Obj.mapSeq (·.setIfInBounds j u) { cls:=.type "list", data:=.seq its.toArray n } = { cls:=.type "list", data:=.seq (its.set j u).toArray n }:=by
 simp [Obj.mapSeq]
theorem Inv.lst {pins:List (Addr×Obj)} {σ:St}{H:Hp}{s:Shared}{p:Addr}{xs:List V} (I:Inv X pins σ H s) (h:H p=some (.lst xs)):
  ∃(its:List Value) (n:Nat),Vals xs its/\s.heap.get? p=some { cls:=.type "list", data:=.seq its.toArray n } /\ xs.length<=sizeLine:=by
 obtain ⟨z,its,n,r,e⟩:=I.hok p _ h
 exact ⟨its,n,r,e,z⟩
theorem Inv.lstUpd {pins:List (Addr×Obj)} {σ:St}{H:Hp}{s:Shared}{p:Addr}{xs ys:List V}{its its':List Value}{n n':Nat}{f:Obj->Obj} (I:Inv X pins σ H s) (h:H p=some (.lst xs))
  (ho:s.heap.get? p=some { cls:=.type "list", data:=.seq its.toArray n }) (hf:f { cls:=.type "list", data:=.seq its.toArray n } = { cls:=.type "list", data:=.seq its'.toArray n' }) (r:Vals ys its') (hz:ys.length<=sizeLine) (t:Nat):
  Inv X pins σ (upd H p (.lst ys)) { s with heap:=s.heap.update p f,toks:=t }:=by
 have e:(s.heap.update p f).get? p=some { cls:=.type "list", data:=.seq its'.toArray n' }:=by
  rw [Heap.get?_update_self f ho (by rw [hf]<;>rfl),hf]
 refine I.write (x:=p) (e:=p) (by rw [h];trivial) (.inl rfl) (fun b u hb q=>(Heap.get?_update_other _ _ (Ne.symm hb)).trans q) ⟨_,e⟩ ?_
 exact ⟨hz,its',n',r,e⟩
def Zn2:V->V->V->Hp->(Hp->Prop)->Prop:=fun o i v H Q=>∃p xs k j,o = .ref p/\i = .int k/\H p=some (.lst xs)/\ixN xs.length k=some j/\Q (upd H p (.lst (xs.set j v)))
theorem set_list:Znt X Zn2:=by
 intro pins s σ H o i v ov iv u Q I ro ri rv h
 obtain ⟨p,xs,k,j,rfl,rfl,hp,hj,q⟩:=h
 cases ro
 obtain ⟨t,rfl⟩:=ri
 obtain ⟨its,n,r,ho,hz⟩:=I.lst hp
 obtain ⟨h1,h2,h3,h4⟩:=Zg5 hj
 have hl:=r.length
 have hn:=Zct
 have I':Inv X pins σ (upd H p (.lst (xs.set j v))) { s with heap:=s.heap.update p (Obj.mapSeq (·.setIfInBounds j u)) }:=
  I.lstUpd hp ho (ZgT its n j u) (r.set rv j) (by rw [List.length_set];exact hz) s.toks
 by_cases h0:0<=k
 ·have hk:k.toNat=j:=by
   rw [seqIndex_of h0 h4] at h1
   exact Option.some.inj h1
  exact PySem.W.ki_setAt ho h0 (by lia) (by rw [List.size_toArray,<- hl];exact h4) (by rw [hk];exact ⟨_,I',q⟩)
 ·have hk:(k+(its.toArray.size:Int)).toNat=j:=by
   rw [seqIndex_neg (by lia) h3] at h1
   rw [List.size_toArray,<- hl]
   exact Option.some.inj h1
  exact PySem.W.ki_setBack ho (by lia) (by rw [List.size_toArray,<- hl];exact h3) (by lia) (by rw [hk];exact ⟨_,I',q⟩)
theorem ZeS (lo hi:Option Int) (n:Nat):(sliceBounds lo hi none n).1=((HT.sIx n 0 lo:Nat):Int)/\(sliceBounds lo hi none n).2.1=((HT.sIx n n hi:Nat):Int)/\(sliceBounds lo hi none n).2.2=1:=by
 refine ⟨?_,?_,rfl⟩
 ·cases lo with
  | none=>simp [sliceBounds,HT.sIx]
  | some i=>
   simp only [sliceBounds,HT.sIx,Option.getD_none,show (1:Int)>0 by decide,if_true]
   by_cases h:i<0
   ·simp only [h,if_true]<;>lia
   ·simp only [h,if_false]<;>lia
 ·cases hi with
  | none=>simp [sliceBounds,HT.sIx]
  | some i=>
   simp only [sliceBounds,HT.sIx,Option.getD_none,show (1:Int)>0 by decide,if_true]
   by_cases h:i<0
   ·simp only [h,if_true]<;>lia
   ·simp only [h,if_false]<;>lia
theorem Zdt (its:List Value) (lo hi:Option Int):slicePick its.toArray lo hi none=((its.drop (HT.sIx its.length 0 lo)).take (HT.sIx its.length its.length hi-HT.sIx its.length 0 lo)).toArray:=by
 obtain ⟨h1,h2,h3⟩:=ZeS lo hi its.toArray.size
 unfold slicePick
 rw [h1,h2,h3]
 simp only [sliceRange_one,pick_run,List.size_toArray]<;>rfl
def ZoG (K:PySem.W.Frag):V->Option Int->Option Int->Hp->VK->Prop:=fun x lo hi H Q=>∃a xs,x = .ref a/\Zo K H a xs /\ ∀p,H p=none->Q (.ref p) (upd H p (.lst (ZcQ xs lo hi)))
theorem ZlW:SlR X (ZoG X.K):=by
 intro pins s σ H x v vl vu lo hi sl Q I rx hs pl pu h
 obtain ⟨a,xs,rfl,hx,q⟩:=h
 cases rx
 obtain ⟨its,r,ht,hz⟩:=I.list hx
 have hlen:=r.length
 refine ⟨"list", _,slot_list_getitem.lookup,ht.isList.typeIs,?_⟩
 refine wpAny_getItem_list_slice ht.isList hs pl pu .none (by simp) ?_ (by rw [List.size_toArray]<;>lia)
 rw [Zdt,<- hlen]
 refine ⟨.ref s.heap.objs.size,_,I.laid (t':=s.toks) (o:=.lst (ZcQ xs lo hi)) (fun b ob q=>Heap.get?_push_of_some _ q) (Nat.le_refl _) ?_,rfl,q _ (I.hok.fresh (Nat.le_refl _))⟩
 exact ⟨Nat.le_trans (Zf2 xs lo hi) hz,_,0,(r.drop (HT.sIx xs.length 0 lo)).take (HT.sIx xs.length xs.length hi-HT.sIx xs.length 0 lo),Heap.get?_push_size _ rfl⟩
def W8:V->Bool
 | .non=>true
 | .bl _=>true
 | .int _=>true
 | .str _=>true
 | _=>false
def eqV:V->V->Bool
 | .non,.non=>true
 | .bl a,.bl b=>a==b
 | .bl a,.int b=>(if a then 1 else 0)==b
 | .int a,.bl b=>a==(if b then 1 else 0)
 | .int a,.int b=>a==b
 | .str a,.str b=>a==b
 | _,_=>false
theorem Zkp {A:Around}{s:Shared}{y x:V}{u v:Value} (ry:RelV y u) (rx:RelV x v) (fy:W8 y=true) (fx:W8 x=true):SeqAt.EqAt A s u v (eqV y x):=by
 cases y with
 | non=>
  cases ry
  cases x with
  | non=>cases rx;exact SeqAt.EqAt.same _
  | bl b=>cases rx;exact SeqAt.EqAt.none_bool b
  | int b=>obtain ⟨t,rfl⟩:=rx;exact SeqAt.EqAt.none_int b t
  | str b=>obtain ⟨t,rfl⟩:=rx;exact SeqAt.EqAt.none_str b t
  | _=>exact absurd (show false=true from fx) Bool.false_ne_true
 | bl a=>
  cases ry
  cases x with
  | non=>cases rx;exact SeqAt.EqAt.bool_none a
  | bl b=>cases rx;exact SeqAt.EqAt.bool_bool a b
  | int b=>obtain ⟨t,rfl⟩:=rx;exact SeqAt.EqAt.bool_int a b t
  | str b=>obtain ⟨t,rfl⟩:=rx;exact SeqAt.EqAt.bool_str a b t
  | _=>exact absurd (show false=true from fx) Bool.false_ne_true
 | int a=>
  obtain ⟨t',rfl⟩:=ry
  cases x with
  | non=>cases rx;exact SeqAt.EqAt.int_none a t'
  | bl b=>cases rx;exact SeqAt.EqAt.int_bool a t' b
  | int b=>obtain ⟨t,rfl⟩:=rx;exact SeqAt.EqAt.int_int a t' b t
  | str b=>obtain ⟨t,rfl⟩:=rx;exact SeqAt.EqAt.int_str a t' b t
  | _=>exact absurd (show false=true from fx) Bool.false_ne_true
 | str a=>
  obtain ⟨t',rfl⟩:=ry
  cases x with
  | non=>cases rx;exact SeqAt.EqAt.str_none a t'
  | bl b=>cases rx;exact SeqAt.EqAt.str_bool a t' b
  | int b=>obtain ⟨t,rfl⟩:=rx;exact SeqAt.EqAt.str_int a t' b t
  | str b=>obtain ⟨t,rfl⟩:=rx;exact SeqAt.EqAt.str_str a t' b t
  | _=>exact absurd (show false=true from fx) Bool.false_ne_true
 | _=>exact absurd (show false=true from fy) Bool.false_ne_true
def eqU (x:V) (u:Value):Bool:=match u with
 | .none=>eqV .non x
 | .bool b=>eqV (.bl b) x
 | .int i _=>eqV (.int i) x
 | .str z _=>eqV (.str z) x
 | _=>false
theorem ZkS {x y:V}{u:Value} (r:RelV y u) (f:W8 y=true):eqU x u=eqV y x:=by
 cases y with
 | non=>cases r;rfl
 | bl b=>cases r;rfl
 | int i=>obtain ⟨t,rfl⟩:=r;rfl
 | str z=>obtain ⟨t,rfl⟩:=r;rfl
 | _=>exact absurd (show false=true from f) Bool.false_ne_true
theorem ZfN {A:Around}{s:Shared}{x:V}{v:Value} (rx:RelV x v) (fx:W8 x=true):∀{xs:List V}{us:List Value},Vals xs us->xs.all W8=true -> ∀u∈us,SeqAt.EqAt A s u v (eqU x u)
 | _,_,.nil,_=>fun u hu=>by cases hu
 | y::xs,u::us,.cons r t,f=>fun u' hu=>by
  rw [List.all_cons,Bool.and_eq_true] at f
  rcases List.mem_cons.mp hu with rfl | hu
  ·rw [ZkS r f.1];exact Zkp r rx f.1 fx
  ·exact ZfN rx fx t f.2 u' hu
theorem Zet:JM X (.builtin "len") (fun xs H Q=>∃p ys,xs = [.ref p]/\(Zo X.K H p ys∨WT X.K H p ys)/\Q (.int ys.length) H):=by
 intro pins s σ H xs us Q I r h
 obtain ⟨p,ys,rfl,hq,q⟩:=h
 obtain ⟨u,rfl,rx⟩:=vals1 r
 cases rx
 have hn:=Zct
 rcases hq with hq | hq
 ·obtain ⟨its,r',pl,hz⟩:=I.list hq
  have hlen:=r'.length
  exact Calls.call_len_list pl.isList (by simp only [List.size_toArray]<;>lia) ⟨.int ys.length,H,I.tok _,⟨s.toks+1,by rw [List.size_toArray,hlen]⟩,q⟩
 ·obtain ⟨its,r',pl,hz⟩:=I.tuple hq
  have hlen:=r'.length
  exact len_tuple pl (by simp only [List.size_toArray]<;>lia) ⟨.int ys.length,H,I.tok _,⟨s.toks+1,by rw [List.size_toArray,hlen]⟩,q⟩
theorem Zd2:JM X (.type "list") (fun xs H Q=>∃p ys,xs = [.ref p]/\(Zo X.K H p ys∨WT X.K H p ys) /\ ∀l,H l=none->Q (.ref l) (upd H l (.lst ys))):=by
 intro pins s σ H xs us Q I r h
 obtain ⟨p,ys,rfl,hq,q⟩:=h
 obtain ⟨u,rfl,rx⟩:=vals1 r
 cases rx
 have fin:∀(its:List Value),Vals ys its->ys.length<=sizeLine -> ∀(h':Heap) (c':Nat),(∀b o',s.heap.get? b=some o'->h'.get? b=some o') ->
   h'.get? s.heap.objs.size=some { cls:=.type "list", dict:=none,data:=.seq its.toArray c',slots:=#[] } -> EP X pins σ Q (.ref s.heap.objs.size) { s with heap:=h' }:=fun its r' hz h' c' kp e=>
  ⟨.ref s.heap.objs.size,_,I.laid (t':=s.toks) kp (Nat.le_refl _) (show Yw X.prog X.w _ h' _ (.lst ys) from ⟨hz,its,c',r',e⟩),rfl,q _ (I.hok.fresh (Nat.le_refl _))⟩
 rcases hq with hq | hq
 ·obtain ⟨its,r',pl,hz⟩:=I.list hq
  have hlen:=r'.length
  obtain ⟨o,ho,hc,n,hd⟩:=pl.isList
  exact call_list_seq p (.inl rfl) ho hc hd (fun h' c' kp e=>fin its r' hz h' c' kp e) (by simp only [List.size_toArray]<;>lia)
 ·obtain ⟨its,r',pl,hz⟩:=I.tuple hq
  have hlen:=r'.length
  obtain ⟨o,ho,hc,n,hd⟩:=pl
  exact call_list_seq p (.inr rfl) ho hc hd (fun h' c' kp e=>fin its r' hz h' c' kp e) (by simp only [List.size_toArray]<;>lia)
theorem Zdp:JM X (.type "tuple") (fun xs H Q=>∃p ys,xs = [.ref p]/\((Zo X.K H p ys /\ ∀l,H l=none->Q (.ref l) (upd H l (.tup ys)))∨(WT X.K H p ys/\Q (.ref p) H))):=by
 intro pins s σ H xs us Q I r h
 obtain ⟨p,ys,rfl,h⟩:=h
 obtain ⟨u,rfl,rx⟩:=vals1 r
 cases rx
 rcases h with ⟨hq,q⟩ | ⟨hq,q⟩
 ·obtain ⟨its,r',pl,hz⟩:=I.list hq
  have hlen:=r'.length
  refine call_tuple_list pl.isList (fun h' kp=>?_) (by simp only [List.size_toArray]<;>lia)
  have I1:Inv X pins σ H { s with heap:=h' }:=I.kept (t':=s.toks) kp
  have I2:Inv X pins σ (upd H h'.objs.size (.tup ys)) { s with heap:=h'.push { cls:=.type "tuple", data:=.seq its.toArray } }:=
   I1.laid (t':=s.toks) (fun b o e=>Heap.get?_push_of_some _ e) (Nat.le_refl _) (show Yw X.prog X.w _ _ _ (.tup ys) from ⟨hz,its,r',IsTup.new _ _⟩)
  exact ⟨.ref h'.objs.size,_,I2,rfl,q _ (I1.hok.fresh (Nat.le_refl _))⟩
 ·obtain ⟨its,r',pl,hz⟩:=I.tuple hq
  exact call_tuple_same pl ⟨.ref p,H,I,rfl,q⟩
def tyV (K:PySem.W.Frag) (T:String) (x:V) (H:Hp):Prop:=match x with
 | .str _=>T = "str"
 | .int _=>T = "int"
 | .ref p=>(T = "list" /\ ∃xs,Zo K H p xs)∨(T = "tuple" /\ ∃o,K.lookup p=some o/\o.cls = .type "tuple" /\ o.dict=none) ∨
   (T = "dict" /\ ((∃kvs,H p=some (.dK kvs)) ∨ ∃kvs,H p=some (.dT kvs)))∨(T = "set" /\ ∃S n,H p=some (.set S n))
 | _=>False
theorem Znl {pins:List (Addr×Obj)} {σ:St}{H:Hp}{s:Shared}{T:String}{x:V}{v:Value} (I:Inv X pins σ H s) (r:RelV x v) (ty:tyV X.K T x H):
  s.TypeIs v T /\ ∀a,v = .ref a -> ∃ob,s.heap.get? a=some ob/\ob.dict=none:=by
 cases x with
 | str z=>
  obtain ⟨t,rfl⟩:=r
  cases (show T = "str" from ty)
  exact ⟨typeIs_str s z t,fun _ e=>nomatch e⟩
 | int i=>
  obtain ⟨t,rfl⟩:=r
  cases (show T = "int" from ty)
  exact ⟨typeIs_int s i t,fun _ e=>nomatch e⟩
 | ref p=>
  cases r
  rcases ty with ⟨rfl,xs,hq⟩ | ⟨rfl,o,hk,hc,hd⟩ | ⟨rfl,hk⟩ | ⟨rfl,S,n,hk⟩
  ·obtain ⟨its,_,pl,_⟩:=I.list hq
   refine ⟨pl.isList.typeIs,fun a e=>?_⟩
   cases e
   obtain ⟨o,n,e,c,hd,_⟩:=pl
   exact ⟨o,e,hd⟩
  ·refine ⟨⟨o,I.kIn p o hk,hc⟩,fun a e=>?_⟩
   cases e
   exact ⟨o,I.kIn _ o hk,hd⟩
  ·have z:∃o,s.heap.get? p=some o/\o.ExactDict:=by
    rcases hk with ⟨kvs,hk⟩ | ⟨kvs,hk⟩
    ·obtain ⟨_,_,_,_,o,_,_,e,ex,_⟩:=I.hok p _ hk
     exact ⟨o,e,ex⟩
    ·obtain ⟨_,_,_,_,o,_,_,e,ex,_⟩:=I.hok p _ hk
     exact ⟨o,e,ex⟩
   obtain ⟨o,e,ex⟩:=z
   refine ⟨⟨o,e,ex.1⟩,fun a e2=>?_⟩
   cases e2
   exact ⟨o,e,ex.2.1⟩
  ·obtain ⟨o,_,_,_,e,ex,_⟩:=I.hok p _ hk
   refine ⟨⟨o,e,ex.1⟩,fun a e2=>?_⟩
   cases e2
   exact ⟨o,e,ex.2.1⟩
 | _=>exact False.elim ty
def tBM (K:PySem.W.Frag) (T:String) (r:V->List V->Hp->VK->Prop) (to:TE) (t:TA):TE:=fun σ H Q=>to σ H fun x H1=>tyV K T x H1/\t σ H1 fun xs H2=>r x xs H2 Q
variable {o e:Expr}{es:List Expr}{to:TE}{t:TA}{name:Str}{apos cpos:Pos}{T id:String}{r:V->List V->Hp->VK->Prop}
theorem JB (pa:PlainAttrs T) (slot:Slot T name id) (hty:typeOf (.builtin id)=pure (.type "method_descriptor")) (hm:MtR X id r) (ho:PE X o to) (ha:PA X (e::es) t)
  (hbase:attributeBase o name X.env (eval o X.env)=eval o X.env:=by rfl)
  (hfew:((backTo cpos (starEach (e::es) X.env)).all (fun x=>!x.1)&&(backToKw cpos (keywordEach [] X.env)).all (fun x=>x.1.isSome)
   && decide ((e::es).length+([]:List Keyword).length+(if ([]:List Keyword).isEmpty then 0 else 1)<30))=true:=by rfl)
  (hline:(apos.endLine==cpos.line)=true:=by rfl) (hs:starEach (e::es) X.env=(false,eval e X.env)::starEach es X.env:=by rfl) (hplain:(backTo cpos (starEach es X.env)).any (·.1)=false:=by rfl):
  PE X (.Call (.Attribute o name apos) (e::es) [] cpos) (tBM X.K T r to t):=by
 intro pins s σ H Q I h
 refine wpAny_Call_method_late hbase hfew hline rfl (YB (ho pins s σ H _ I h) fun v s1 ⟨x,H1,I1,r1,ty,q1⟩=>?_)
 obtain ⟨h1,h2⟩:=Znl I1 r1 ty
 refine ⟨T,id,pa,slot,hty,h1,h2,?_⟩
 have hA:=ha cpos pins s1 σ H1 _ I1 q1
 rw [hs] at hA ⊢
 refine Calls.callWith_builtin (by show (false||(backTo cpos (starEach es X.env)).any (·.1))=false;rw [hplain]<;>rfl) (Calls.evalArgs_plain ?_)
 exact YB hA fun us s2 ⟨vs,H2,I2,r2,q2⟩=>hm pins s2 σ H2 x vs v us Q I2 r1 r2 q2
end
def MtM (X:Cx) (id:String) (r:V->List V->Hp->VK->Prop):Prop:=
 ∀(pins:List (Addr×Obj)) (s:Shared) (σ:St) (H:Hp) (x:V) (xs:List V) (v:Value) (us:List Value) (Q:VK),Inv X pins σ H s->RelV x v->Vals xs us->r x xs H Q ->
  wpAny (model X.prog X.w) X.A (call (.builtin id) (v::us)) (EP X pins σ Q) X.xe s
theorem Vals.one:∀{x:V}{us:List Value},Vals [x] us -> ∃u,us = [u]/\RelV x u
 | _,_,.cons r .nil=>⟨_,rfl,r⟩
theorem Vals.two:∀{x y:V}{us:List Value},Vals [x,y] us -> ∃u v,us = [u,v]/\RelV x u/\RelV y v
 | _,_,_,.cons r (.cons q .nil)=>⟨_,_,rfl,r,q⟩
theorem Vals.rep {xs:List V}{us:List Value} (h:Vals xs us):∀k:Nat,Vals (List.replicate k xs).flatten (List.replicate k us).flatten
 | 0=>.nil
 | k+1=>by
  rw [List.replicate_succ,List.replicate_succ,List.flatten_cons,List.flatten_cons]
  exact Vals.append h (Vals.rep h k)
theorem foldl_rep (its:List Value):∀(k:Nat) (acc:List Value),
  List.foldl (fun x1 x2=>x1++x2) acc.toArray (List.replicate k its.toArray)=(acc++(List.replicate k its).flatten).toArray
 | 0,acc=>by simp
 | k+1,acc=>by
  have e:acc.toArray++its.toArray=(acc++its).toArray:=by simp
  have e2:(acc++its)++(List.replicate k its).flatten=acc++(List.replicate (k+1) its).flatten:=by
   rw [List.replicate_succ,List.flatten_cons,List.append_assoc]
  rw [<- e2,<- foldl_rep its k (acc++its),<- e,List.replicate_succ,List.foldl_cons]
section
variable {X:Cx}{pins:List (Addr×Obj)} {σ:St}{H:Hp}{s:Shared}{l b:Addr}{xs ys zs:List V}
theorem Inv.lset {its its':List Value}{n:Nat}{f:Array Value->Array Value}{t':Nat} (I:Inv X pins σ H s) (hH:H l=some (.lst xs))
  (e:s.heap.get? l=some { cls:=.type "list", data:=.seq its.toArray n }) (hf:f its.toArray=its'.toArray) (hv:Vals ys its') (hz:ys.length<=sizeLine):
  Inv X pins σ (upd H l (.lst ys)) { s with heap:=s.heap.update l (Obj.mapSeq f),toks:=t' }:=by
 have q:=PySem.IsL.update e f
 rw [hf] at q
 refine I.write (x:=l) (e:=l) (by rw [hH];exact trivial) (.inl rfl) (fun b' u hb hu=>(Heap.get?_update_other s.heap (Obj.mapSeq f) (Ne.symm hb)).trans hu) ⟨_,q⟩ ?_
 exact ⟨hz,its',_,hv,q⟩
theorem Inv.lnew {its:List Value}{t':Nat} (I:Inv X pins σ H s) (hv:Vals ys its) (hz:ys.length<=sizeLine):
  Inv X pins σ (upd H s.heap.objs.size (.lst ys)) { s with heap:=s.heap.push { cls:=.type "list", data:=.seq its.toArray },toks:=t' }:=
 I.laid (fun _ _ q=>Heap.get?_push_of_some _ q) (Nat.le_refl _) ⟨hz,its,0,hv,Heap.get?_push_size _ rfl⟩
theorem Inv.fresh (I:Inv X pins σ H s):H s.heap.objs.size=none:=I.hok.fresh (Nat.le_refl _)
theorem Inv.lstM (I:Inv X pins σ H s) (hH:H l=some (.lst xs)):xs.length<=sizeLine /\ ∃(its:List Value) (n:Nat),Vals xs its/\xs.length=its.length/\s.heap.get? l=some { cls:=.type "list", data:=.seq its.toArray n }:=by
 obtain ⟨z,its,n,r,e⟩:=I.hok l _ hH
 exact ⟨z,its,n,r,r.length,e⟩
theorem Zc9 {n:Nat} (h:n<=sizeLine):Builtin.List.listTooLong n=false:=by
 unfold Builtin.List.listTooLong
 exact decide_eq_false (by lia)
end
section
variable {X:Cx}
def Zha:V->List V->Hp->VK->Prop:=fun x vs H Q=>∃l xs y,x = .ref l/\vs = [y]/\H l=some (.lst xs)/\xs.length<sizeLine/\Q .non (upd H l (.lst (xs ++ [y])))
theorem Z4:MtM X "list.append" Zha:=by
 intro pins s σ H x vs v us Q I rx rv h
 obtain ⟨l,xs,y,rfl,rfl,hH,hz,q⟩:=h
 cases rx
 obtain ⟨u,rfl,ru⟩:=rv.one
 obtain ⟨z,its,n,r,hl,e⟩:=I.lstM hH
 refine call_meets F.slot_list_append ⟨_,e,rfl⟩ F.entry_list_append (F.args_list_append_2 _ _) (PySem.list_append l its.toArray n u (by rw [List.size_toArray];lia)) ⟨e,?_⟩
 refine ⟨.non,_,I.lset (its':=its ++ [u]) hH e (by simp) (r.append (.cons ru .nil)) ?_,rfl,q⟩
 rw [List.length_append,List.length_singleton]
 lia
def Zpl:R2:=fun x y H Q=>∃l b xs zs,x = .ref l/\y = .ref b/\H l=some (.lst xs)/\H b=some (.lst zs)/\xs.length+zs.length<=sizeLine /\ ∀p,H p=none->Q (.ref p) (upd H p (.lst (xs++zs)))
theorem Jm:OpR X (binaryOp .Add) Zpl:=by
 intro pins s σ H x y v u Q I rx ry h
 obtain ⟨l,b,xs,zs,rfl,rfl,hH,hB,hz,q⟩:=h
 cases rx
 cases ry
 obtain ⟨z,its,n,r,hl,e⟩:=I.lstM hH
 obtain ⟨z2,its2,n2,r2,hl2,e2⟩:=I.lstM hB
 refine PySem.P.add_list e e2 ?_ (by rw [List.size_toArray,List.size_toArray];lia)
 have ea:its.toArray++its2.toArray=(its++its2).toArray:=by simp
 rw [ea]
 exact ⟨.ref _,_,I.lnew (t':=s.toks) (r.append r2) (by rw [List.length_append];lia),rfl,q _ I.fresh⟩
def Zl8:R2:=fun x y H Q=>∃l k xs,x = .ref l/\y = .int k/\H l=some (.lst xs) /\ -(2 ^ 63)<=k/\k<2 ^ 63/\xs.length*k.toNat<=sizeLine /\
 ∀p,H p=none->Q (.ref p) (upd H p (.lst (List.replicate k.toNat xs).flatten))
theorem len_rep {α:Type} (xs:List α) (k:Nat):(List.replicate k xs).flatten.length=k*xs.length:=by
 induction k with
 | zero=>simp
 | succ k ih=>rw [List.replicate_succ,List.flatten_cons,List.length_append,ih,Nat.succ_mul,Nat.add_comm]
theorem Zcw:OpR X (binaryOp .Mult) Zl8:=by
 intro pins s σ H x y v u Q I rx ry h
 obtain ⟨l,k,xs,rfl,rfl,hH,h1,h2,hz,q⟩:=h
 cases rx
 obtain ⟨t,rfl⟩:=ry
 obtain ⟨z,its,n,r,hl,e⟩:=I.lstM hH
 have hlen:its.toArray.size*k.toNat<=sizeLine:=by rw [List.size_toArray,<- hl];exact hz
 have hcap:¬its.toArray.size*k.toNat>(2 ^ 63-1) / 8:=by
  have:(sizeLine:Nat)<=(2 ^ 63-1) / 8:=by decide
  lia
 have hfit:¬(!Builtin.List.listFitsIndex k)=true:=by
  rw [fitsIndex_both h1 h2]
  exact Bool.false_ne_true
 have hlong:¬Builtin.List.listTooLong (its.toArray.size*k.toNat)=true:=by
  rw [Zc9 hlen]
  exact Bool.false_ne_true
 have hnew:List.foldl (fun x1 x2=>x1++x2) #[] (List.replicate (if its.toArray.isEmpty=true then 0 else k.toNat) its.toArray)=(List.replicate k.toNat its).flatten.toArray:=by
  have f0:∀m:Nat,List.foldl (fun x1 x2=>x1++x2) #[] (List.replicate m its.toArray)=(List.replicate m its).flatten.toArray:=fun m=>by
   have:=foldl_rep its m []
   rw [List.nil_append] at this
   exact this
  rw [f0]
  cases its with
  | nil=>simp
  | cons a r'=>rw [if_neg (by simp)]
 refine wpAny_binaryOp_repeat_ref (T := "list") (U := "int") (by decide) ⟨_,e,rfl⟩ (fun s'=>typeIs_int s' k t) noFill_list_mul F.fills_int_mul F.slot_int_rmul repeat_list F.slot_int_index.lookup
  (call_meets F.slot_int_rmul (typeIs_int s k t) F.entry_int_rmul (F.args_int_rmul_2 _ _) (int___rmul___int_list k t l its.toArray n)
   ⟨e,rfl,⟨_,e,rfl⟩,call_meets F.slot_list_mul ⟨_,e,rfl⟩ F.entry_list_mul (F.args_list_mul_2 _ _) (AutoListH.list___mul___list_int_3 l its.toArray n k t hfit hcap hlong) ⟨e,?_⟩⟩)
 rw [hnew]
 exact ⟨.ref _,_,I.lnew (t':=s.toks) (r.rep k.toNat) (by rw [len_rep,Nat.mul_comm];exact hz),rfl,q _ I.fresh⟩
end
section
variable {prog:Program}{w:World}{A:Around}{E:Value->Shared->Prop}{s:Shared}
theorem ZiC (its its2:List Value) (a c:Nat):its.toArray.extract 0 a++its2.toArray++its.toArray.extract c its.toArray.size=(its.take a++its2++its.drop c).toArray:=by
  apply Array.toList_inj.mp
  first
    | (simp
       exact List.take_of_length_le (by simp))
    | simp [List.take_of_length_le]
    | simp
theorem Zcr {a c n:Nat} (hac:a<=c) (hc:c<=n):sliceBounds (some (a:Int)) (some (c:Int)) none n=((a:Int),(c:Int),1):=by
 simp only [sliceBounds,Option.getD_none]
 have h1:¬((a:Int)<0):=by lia
 have h2:¬((c:Int)<0):=by lia
 simp only [h1,h2,if_false,show (1:Int)>0 by decide,if_true]
 congr 1
 ·lia
 ·congr 1;lia
set_option maxRecDepth 100000 in
theorem Zdn {l b sl:Addr}{items new:Array Value}{n n2:Nat}{vl vu:Value}{a c:Nat}{Q:Unit->Shared->Prop}
    (e:s.heap.get? l=some { cls:=.type "list", data:=.seq items n }) (e2:s.heap.get? b=some { cls:=.type "list", data:=.seq new n2 }) (hne:l≠b)
    (hs:s.heap.IsSliceOf sl vl vu .none) (pl:IsPart vl (some (a:Int))) (pu:IsPart vu (some (c:Int))) (hac:a<=c) (hc:c<=items.size)
    (hsz:items.size+new.size<=sizeLine) (h:Q () { s with heap:=s.heap.update l (Obj.mapSeq fun xs=>xs.extract 0 a++new++xs.extract c xs.size) }):
    wpAny (model prog w) A (setItem (.ref l) (.ref sl) (.ref b)) Q E s:=by
  have hl:s.heap.IsList l items:=PySem.IsL.isList e
  have hb:s.heap.IsList b new:=PySem.IsL.isList e2
  obtain ⟨os,hos,hcs,hds⟩:=id hs
  have hTs:s.TypeIs (.ref sl) "slice" := ⟨os,hos,hcs⟩
  have hstep:¬((rawPart none==rawInt 0)=true):=Bool.false_ne_true
  have hsame:Builtin.List.listSameRef (.ref l) (.ref b)=false:=by
    unfold Builtin.List.listSameRef
    exact beq_eq_false_iff_ne.mpr hne
  have hmax:(max (a:Int) (c:Int)).toNat=c:=by lia
  have hz':((fun xs:Array Value=>xs.extract 0 a++new++xs.extract c xs.size) items).size<=sizeLine+1:=by
    simp only [Array.size_append,Array.size_extract]
    lia
  unfold setItem
  try with_reducible refine wpAny_holding ?_
  first | refine wpAny_bind (wpAny_pure ?_) | skip
  refine wpAny_bind (wpAny_sequenceKey hl.typeIs (by decide) ?_)
  refine wpAny_bind (wpAny_callSpecial?_slot (name:=Str.ofString "__setitem__") hl.typeIs slot_list_setitem
    (wpAny_call_entry slot_list_setitem hl.typeIs entry_list_setitem ?_ (args_list_setitem _ _ _)))
  show wpAny _ _ (Builtin.List.listSubscript? (.ref sl) >>= _) _ _ s
  refine wpAny_bind ?_
  unfold Builtin.List.listSubscript?
  refine wpAny_bind (wpAny_specialOf hTs slice_no_index ?_)
  simp only [Option.isNone_none,if_true]
  refine wpAny_pure ?_
  show wpAny _ _ (typeOf (.ref sl) >>= _) _ _ s
  refine wpAny_bind (wpAny_typeOf hTs ?_)
  first
    | rw [if_neg (by decide)]
    | refine PySem.W.KFB.if_not (by decide) ?_
  rw [listSliceParts_eq]
  refine wpAny_bind (wpAny_bind (wpAny_field hos hds (x:=.none) rfl (wpAny_bind (wpAny_listPart .none ?_))))
  rw [if_neg hstep]
  refine wpAny_bind (wpAny_field hos hds (x:=vl) rfl (wpAny_bind (wpAny_listPart pl ?_)))
  refine wpAny_bind (wpAny_field hos hds (x:=vu) rfl (wpAny_bind (wpAny_listPart pu (wpAny_pure ?_))))
  first
    | simp only [hsame,Bool.false_eq_true,if_false]
    | refine PySem.W.KFB.if_not hsame ?_
    | (dsimp only
       rw [if_neg (by rw [hsame];exact Bool.false_ne_true)])
  refine wpAny_bind (m:=Builtin.List.listAllItems (.ref b) "must assign iterable to extended slice") ?_
  unfold Builtin.List.listAllItems
  refine wpAny_bind (wpAny_typeOf hb.typeIs ?_)
  first
    | refine PySem.W.KFB.if_so (by decide) ?_
    | rw [if_pos (by decide)]
    | simp only [beq_self_eq_true,Bool.true_or,if_true]
  unfold Builtin.List.listItems
  refine wpAny_bind (wpAny_seqItems e2 rfl (wpAny_pure ?_))
  refine wpAny_bind (wpAny_bind (wpAny_seqItems e rfl (wpAny_pure ?_)))
  refine wpAny_bind (wpAny_of_eq ((sliceIndices_raw (some (a:Int)) (some (c:Int)) none items.size (by simp)).trans (congrArg (pure:Int×Int×Int->Sem (Int×Int×Int)) (Zcr hac hc))) ?_)
  show wpAny _ _ (if ((1:Int)==1)=true then _ else _) _ _ s
  rw [if_pos (by decide)]
  refine wpAny_bind (wpAny_rule ?_)
  first
    | simp only [Zc9 hsz,Bool.false_eq_true,if_false]
    | refine PySem.W.KFB.if_not (Zc9 hsz) ?_
  first | refine wpAny_bind (wpAny_pure ?_) | skip
  show wpAny _ _ (updateSeq l (fun xs=>xs.extract 0 ((a:Int)).toNat++new++xs.extract (max (a:Int) (c:Int)).toNat xs.size) >>= _) _ _ s
  rw [hmax,Int.toNat_natCast]
  refine wpAny_bind (wpAny_updateSeq (hz:=Nat.le_trans (Nat.le_add_right _ _) hsz) (_hz':=hz') e rfl ?_)
  refine wpAny_bind (wpAny_letGo ?_)
  first
    | exact wpAny_bind (wpAny_pure (wpAny_pure ⟨.none,rfl,wpAny_pure h⟩))
    | exact wpAny_pure ⟨.none,rfl,wpAny_pure h⟩
end
section
variable {X:Cx}
theorem Ziy {pins:List (Addr×Obj)}{s:Shared} {σ:St}{H:Hp}{l b sl:Addr}{xs ys:List V}{a c:Int}{vl vu:Value}{Q:Unit->Shared->Prop} (I:Inv X pins σ H s)
  (hH:H l=some (.lst xs)) (hB:H b=some (.lst ys)) (hne:l≠b) (hs:s.heap.IsSliceOf sl vl vu .none) (ra:RelV (.int a) vl) (rc:RelV (.int c) vu) (h0:0<=a) (hac:a<=c) (hc:c<=xs.length)
  (hz:xs.length+ys.length<=sizeLine) (h:∀s',Inv X pins σ (upd H l (.lst (xs.take a.toNat++ys++xs.drop c.toNat))) s'->Q () s'):
  wpAny (model X.prog X.w) X.A (setItem (.ref l) (.ref sl) (.ref b)) Q X.xe s:=by
 obtain ⟨ta,rfl⟩:=ra
 obtain ⟨tc,rfl⟩:=rc
 obtain ⟨z,its,n,r,hl,e⟩:=I.lstM hH
 obtain ⟨z2,its2,n2,r2,hl2,e2⟩:=I.lstM hB
 obtain ⟨a',rfl⟩:=Int.eq_ofNat_of_zero_le h0
 obtain ⟨c',rfl⟩:=Int.eq_ofNat_of_zero_le (Int.le_trans h0 hac)
 simp only [Int.toNat_natCast] at h
 refine Zdn (a:=a') (c:=c') e e2 hne hs (.int _ _) (.int _ _) (by lia) (by rw [List.size_toArray];lia) (by rw [List.size_toArray,List.size_toArray];lia) (h _ ?_)
 refine I.lset (its':=its.take a'++its2++its.drop c') (t':=s.toks) hH e ?_ (Vals.append (Vals.append (r.take _) r2) (r.drop _)) ?_
 ·exact ZiC its its2 a' c'
 ·rw [List.length_append,List.length_append,List.length_take,List.length_drop]
  lia
end
end L2
namespace Att
open PySem PySem.W PySem.Calls PyProof.Rows
theorem ZbT {P:Params}{h:Heap}:∀(ns:List Int) (vs:List Value),WellAll P h vs (ns.map WData.int)->IntsAre vs ns:=by
 intro ns
 induction ns with
 | nil=>
  intro vs w
  rw [List.map_nil] at w
  cases w
  exact .nil
 | cons n ns ih=>
  intro vs w
  rw [List.map_cons] at w
  cases w with
  | cons a b=>
   cases a
   exact .cons _ _ (ih _ b)
theorem Ziv {l:OpenLaw}{n:Nat} (hn:l.most=some n) {P:Params}{h:Heap}{args:List WData}{vals:List Value}
  (hpre:l.row.toRowW.claim.pre args=true) (hwl:WellAll P h vals args):
  ∃a vs ns,vals = [Value.ref a]/\args = [WData.list (ns.map WData.int)]/\h.get? a=some { cls:=.type "list", data:=.seq vs.toArray } /\ IntsAre vs ns/\ns.length<=n:=by
 have hsh:WShape.hasAll [] args [.list .int]=true:=(pre_splitW hpre).1
 have hc:l.pre.holds [] { args:=args } = true:=(pre_splitW hpre).2
 obtain ⟨d,r,rfl,h1,h2⟩:=hasAllW_cons hsh
 obtain rfl:=hasAllW_nil h2
 obtain ⟨xs,rfl,h3⟩:=hasW_list h1
 obtain ⟨ns,rfl⟩:=items_int h3
 have hlen:ns.length<=n:=by
  unfold OpenLaw.pre at hc
  have h4:(WTm.not (.lt (.lit (.int (n:Int))) (.len (.arg 0)))).holds [] { args:=[.list (ns.map .int)] } = true:=by
   have h4:=(holds_andW hc).1
   rw [hn] at h4
   exact h4
  have h5:=condW_of h4 (w_not (w_lt w_lit (w_len_list (w_arg rfl))))
  rw [List.length_map] at h5
  refine Nat.le_of_not_lt fun q=>?_
  have q':(n:Int)<((ns.length:Nat):Int):=by lia
  first
   | (rw [decide_eq_true q'] at h5;exact absurd h5 (by decide))
   | (simp at h5;lia)
 cases hwl with
 | cons w1 w2=>
  cases w2
  cases w1 with
  | list ho hall=>exact ⟨_,_,ns,rfl,rfl,ho,ZbT ns _ hall,hlen⟩
theorem ZiP (l:OpenLaw) (args:List WData):l.row.toRowW.claim.post args (.bool true) args=true:=
 postW_of (r:=l.row.toRowW) (X:=(true==true))
  (show WShape.has [] (.bool true) .bool=true by first | rfl | decide | simp [WShape.has,WShape.arms,WShape.armsAll])
  (show (WTm.eq .res (.lit (.bool true))).value [] { args:=args,res:=some (.bool true),after:=args } = some (.bool (true==true)) from w_eq_bool (w_res rfl) w_lit) rfl
theorem Zfo {l:OpenLaw}{n:Nat}{q:Program}{loose:List Str}{XP:(Str->Option Value)->Heap->Prop}{YP:World->Heap->Prop}{d:DefRec}
  (hn:l.most=some n) (hdf:d.params.defaults = [])
  (call:∀(w:World) (s₀ s₁:Shared) (mg mb:Str->Option Value) (fa:Addr) (o:Obj) (pm cd doc:Value) (a:Addr) (vs:List Value) (ns:List Int),
   Ground q loose [] XP w s₀ mg mb s₁.heap->YP w s₁.heap ->
   s₁.heap.get? fa=some o->o.data = .func (docDef d.name d.params d.body d.scope pm cd doc)->s₁.heap.CodeRec cd d.name->mg d.name=some (.ref fa) ->
   s₁.heap.get? a=some { cls:=.type "list", data:=.seq vs.toArray } -> IntsAre vs ns->ns.length<=n->s₁.gens = #[] ->
   codeAny (model l.prog w) callerA (.call (.ref fa) ⟨[.ref a],[]⟩) (fun r s'=>r = .ok (.ret (.bool true))/\OldK s₁.heap s'.heap/\s'.os=s₁.os/\AllBare s'.gens) s₁):
  WalkO q loose XP YP l.row.toRowW d [] (fun f vs=>PySem.call f vs):=by
 intro w s₀ s₁ mg mb G Y fa o pm cd doc dV kV ho hd hcd hD hmg hg args vals as hpre hlay hrd hwl hlo
 obtain rfl:dV = .none:=Dflts.none hD hdf
 obtain rfl:kV = .none:=Dflts.noKw hD
 obtain ⟨a,vs,ns,rfl,rfl,hobj,hints,hlen⟩:=Ziv hn hpre hwl
 refine enter_call (codeAny_mono (call w s₀ s₁ mg mb fa o pm cd doc a vs ns G Y ho (fd_plain hd) hcd hmg hobj hints hlen hg) fun r s' hq=>?_)
 obtain ⟨rfl,h2,h3,h4⟩:=hq
 exact ⟨.inl ⟨.bool true,.bool true,[],rfl,fun _=>rfl,.bool true,ZiP l _,fun _=>⟨List.Pairwise.nil,fun _ hm=>(nomatch hm)⟩⟩,h2,h3,h4⟩
section
variable {prog:Program}{w:World}{A:Around}{E:Value->Shared->Prop}{s:Shared}{K:Frag}
def ledger (h:Heap) (L d:Addr):List (Addr×Obj):=(List.range h.objs.size).filterMap fun a=>if a=L∨a=d then none else (h.get? a).map fun o=>(a,o)
end
end Att
namespace L2
open PySem PySem.Spec PyProof.Rows
theorem Zbx:∀{vs:List Value}{ns:List Int},IntsAre vs ns->Vals (ns.map V.int) vs
 | _,_,.nil=>.nil
 | _,_,.cons n t h=>.cons ⟨t,rfl⟩ (Zbx h)
def ZnV (H:Hp):Prop:=∀b,H b=none ∨ ∃o xs,H b=some (.frz o (.lst xs))
theorem Zkc {P:Program}{w:World}{K:PySem.W.Frag}{mg mb:Str->Option Value}{CX:CXT}{k:Nat}{fa a:Addr}{fd:FuncData}{x:Str}{sp:Sp}{s₁:Shared}{vs:List Value}{ns:List Int}
  (KX:K.In s₁.heap) (hns:s₁.heap.Ns mainGlobals mg) (hb:s₁.heap.Ns builtinsNs mb) (hbb:∀x:Str,x ≠ "__name__" -> mb x=bootBuiltins x) (hlim:s₁.heap.NoLimit) (hg:s₁.gens = #[])
  (ha:s₁.heap.get? a=some { cls:=.type "list", data:=.seq vs.toArray }) (hi:IntsAre vs ns) (hl:ns.length<=sizeLine) (hr:JZ k callerA)
  (F:∀base:Heap,K.In base->base.Ns mainGlobals mg->ZX P w K mg base CX k fa fd [x] sp) (hbind:∀(s:Shared) (u:Value),BindsTo s fd ⟨[u],[]⟩ [(x,u)])
  (hsp:∀H:Hp,ZnV H->Zo K H a (ns.map V.int)->sp [.ref a] H (fun v _=>v = .bl true) fun _ _ _=>False)
  (hCX:∀H e s',CX [] H s₁ (fun _ _ _=>False) e s'->False):
  codeAny (model P w) callerA (.call (.ref fa) ⟨[.ref a],[]⟩) (fun r s'=>r = .ok (.ret (.bool true))/\OldK s₁.heap s'.heap/\s'.os=s₁.os/\AllBare s'.gens) s₁:=by
 have rv:=Zbx hi
 have lenV:=hi.length
 have core:∀H:Hp,ZnV H->Zo K H a (ns.map V.int)->GN P w H s₁.heap->(∀b,H b≠none->b=a)->(H a≠none->K.lookup a=none) ->
   codeAny (model P w) callerA (.call (.ref fa) ⟨[.ref a],[]⟩) (fun r s'=>r = .ok (.ret (.bool true))/\OldK s₁.heap s'.heap/\s'.os=s₁.os/\AllBare s'.gens) s₁:=by
  intro H hO hS hok hA hK
  have base_of:∀{b:Addr}{o:Obj},s₁.heap.get? b=some o->H b=none->(Zeu s₁.heap H).get? b=some o:=fun e n=>ZjZ e n
  have noA:∀{b:Addr}{o:Obj}{es:Array DictEntry}{ep:Nat},s₁.heap.get? b=some o->o.data = .dict es ep->H b=none:=fun {b o es ep} e d=>by
   cases q:H b with
   | none=>rfl
   | some u=>
    have e':b=a:=hA b (by rw [q];simp)
    subst e'
    rw [ha] at e;cases e
    have d':Data.seq vs.toArray _=Data.dict es ep:=d
    cases d'
  have nsK:∀{b:Addr}{m:Str->Option Value},s₁.heap.Ns b m->(Zeu s₁.heap H).Ns b m:=fun {b m} ⟨o,es,ep,e,d,r⟩=>⟨o,es,ep,base_of e (noA e d),d,r⟩
  have hKb:K.In (Zeu s₁.heap H):=fun b o e=>base_of (KX b o e) (by
   cases q:H b with
   | none=>rfl
   | some u=>
    have e':b=a:=hA b (by rw [q];simp)
    subst e'
    rw [hK (by rw [q];simp)] at e;cases e)
  have hM:Mod K mg (Zeu s₁.heap H):=⟨hKb,nsK hns,⟨mb,nsK hb,hbb⟩,let ⟨mc,h1,h2⟩:=hlim;⟨mc,nsK h1,h2⟩⟩
  have e0:Zi7 P w K mg (Zeu s₁.heap H) callerA [] s₁ H:=⟨rfl,hM,fun b o e=>ZlC e,Nat.le_of_eq (ZiJ _ _),trivial,fun b hb=>absurd (show b∈([]:List Addr) from hb) (by simp),hok,.of_eq hg⟩
  refine codeAny_mono ((F _ hKb (nsK hns)).run callerA [] s₁ H ⟨[.ref a],[]⟩ [.ref a] [.ref a] _ _ hr e0 (hbind s₁ (.ref a)) (.cons rfl .nil) (hsp H hO hS)) fun r s' h=>?_
  cases r with
  | error e=>exact (hCX H e s' h).elim
  | ok fl=>
   cases fl with
   | next=>exact False.elim h
   | brk=>exact False.elim h
   | cont=>exact False.elim h
   | ret u=>
    obtain ⟨v,H',os,bare,un,hok',r',q⟩:=h
    have q':v = .bl true:=q
    subst q'
    obtain rfl:u=Value.bool true:=r'
    refine ⟨rfl,OldK.of_keep fun b o e=>?_,os,bare⟩
    cases q:H b with
    | none=>exact un.keep b o e q (by intro z;exact absurd (show b∈([]:List Addr) from z) (by simp)) (by simp)
    | some u=>
     rcases hO b with z | ⟨ob,xs,z⟩
     ·rw [q] at z;cases z
     ·have z2:=un.frzs b ob _ z
      obtain ⟨e1,_⟩:=hok b _ z
      obtain ⟨e2,_⟩:=hok' b _ z2
      rw [e] at e1;cases e1
      exact e2
 cases hk:K.lookup a with
 | some o=>
  have e:=KX a o hk
  rw [ha] at e
  cases e
  refine core (fun _=>none) (fun _=>.inl rfl) (.inr ⟨_,vs.toArray,_,hk,rfl,rfl,rfl,by rw [List.size_toArray,lenV];exact hl,by simpa using rv⟩) (fun b u z=>by have z':(none:Option HO)=some u:=z;cases z') (fun b z=>absurd rfl z) fun z=>absurd rfl z
 | none=>
  refine core (fun b=>if b=a then some (.frz { cls:=.type "list", data:=.seq vs.toArray } (.lst (ns.map V.int))) else none) (fun b=>?_) (.inl (.inr ⟨{ cls:=.type "list", data:=.seq vs.toArray },if_pos rfl⟩)) (fun b u z=>?_) (fun b z=>?_) fun _=>hk
  ·by_cases hb:b=a
   ·exact .inr ⟨_,_,if_pos hb⟩
   ·exact .inl (if_neg hb)
  ·by_cases hb:b=a
   ·have z':=(if_pos hb).symm.trans z
    cases z'
    subst hb
    exact ⟨ha,by rw [List.length_map];exact hl,vs,_,rv,ha⟩
   ·have z':=(if_neg hb).symm.trans z
    cases z'
  ·by_cases hb:b=a
   ·exact hb
   ·exact absurd (if_neg hb) z
abbrev KOf {K:PySem.W.Frag}{h:Heap} (_:K.In h):PySem.W.Frag:=K
theorem ZlD {l:PySem.W.OpenLaw}{n k:Nat}{q:Program}{loose:List Str}{XP:(Str->Option Value)->Heap->Prop}{YP:World->Heap->Prop}{d:DefRec}{K:Params->PySem.W.Frag}{CX:World->CXT}{sp:World->Sp}{x:Str}
  (hn:l.most=some n) (hn2:n<=sizeLine) (hdf:d.params.defaults = []) (hr:JZ k callerA)
  (hY:∀(w:World) (h:Heap),YP w h->(K w.params).In h)
  (F:∀(w:World) (mg:Str->Option Value) (fa:Addr) (h:Heap),(K w.params).In h->h.Ns mainGlobals mg->mg d.name=some (.ref fa) ->
   ∃fd:FuncData,(∀(s:Shared) (u:Value),BindsTo s fd ⟨[u],[]⟩ [(x,u)]) /\
    ∀base:Heap,(K w.params).In base->base.Ns mainGlobals mg->ZX l.prog w (K w.params) mg base (CX w) k fa fd [x] (sp w))
  (hsp:∀(w:World) (H:Hp) (a:Addr) (ns:List Int),ns.length<=n->ZnV H->Zo (K w.params) H a (ns.map V.int)->sp w [.ref a] H (fun v _=>v = .bl true) fun _ _ _=>False)
  (hCX:∀(w:World) (H:Hp) (s:Shared) (e:Value) (s':Shared),CX w [] H s (fun _ _ _=>False) e s'->False):
  PySem.W.WalkO q loose XP YP l.row.toRowW d [] (fun f vs=>PySem.call f vs):=by
 refine Att.Zfo hn hdf fun w s₀ s₁ mg mb fa o pm cd doc a vs ns G Y ho hd hcd hmg hobj hints hlen hg=>?_
 have KX:=hY w _ Y
 obtain ⟨fd,hb,hF⟩:=F w mg fa _ KX G.T.g hmg
 exact Zkc KX G.T.g G.T.b G.T.builtins G.T.nolimit hg hobj hints (Nat.le_trans hlen hn2) hr hF hb (fun H hO hS=>hsp w H a ns hlen hO hS) fun H e s'=>hCX w H s₁ e s'
def ZaN (s:Stmt):Arguments:=match s with
 | .FunctionDef _ a _ _ _ _ _ _ _ _=>a
 | _=>{ posonlyargs:=[],args:=[],vararg:=none,kwonlyargs:=[],kw_defaults:=[],kwarg:=none,defaults:=[] }
def GY (s:Stmt):List Stmt:=match s with
 | .FunctionDef _ _ b _ _ _ _ _ _ _=>b
 | _=>[]
def Zi (s:Stmt):Scope:=match s with
 | .FunctionDef _ _ _ _ _ _ sc _ _ _=>sc
 | _=>{ kind:=.function,names:=[],isGenerator:=false,isCoroutine:=false }
abbrev J4:CXT:=fun _ _ _ _ _ _=>False
abbrev E0:XK:=fun _ _ _=>False
theorem Zkr {X:Cx}:Passes J4 X E0:=fun _ _ _ _ _ _ _ h=>h.elim
structure Ym (K:PySem.W.Frag) (x qual:Str) (st:Stmt) (f:Addr) (fd:FuncData):Prop where
 ex:∃(oc:Value) (od:Option Addr) (kV doc pm:Value) (an:Option Addr) (cdv ct:Value) (osl:Array (Option Value)),
  fd=PySem.W.fnOf x qual (ZaN st) (GY st) (Zi st) .none kV doc pm an cdv ct/\K.lookup f=some ⟨oc,od,.func fd,osl⟩/\PySem.W.codeIn K cdv qual=true
 kp:PySem.W.keepIn K (.ref f)=true
section
variable {P:Program}{w:World}{K:PySem.W.Frag}{mg:Str->Option Value}{base:Heap}
theorem Ym.ok {x qual:Str}{st:Stmt}{f:Addr}{fd:FuncData}{N ps:List Str}{k:Nat}{sp:Sp} (F:Ym K x qual st f fd) (S:Zp N ps (Zi st)) (len:∀vs H Q E,sp vs H Q E->vs.length=ps.length)
  (hbody:∀(cdv:Value) (A:Around) (outer:List Env) (s:Shared) (H:Hp) (vs:List V) (Q:VK) (E:XK),JZ k (A.deeper (envOfC qual (Zi st) s.heap.objs.size f cdv))->sp vs H Q E ->
   ∃t,PSs (Wb J4 P w K mg base N qual (Zi st) f cdv A outer s H E).nox (GY st) t/\t { nx:=fun _ H'=>Q .non H',rt:=Q } (start N vs) H):ZX P w K mg base J4 (k+1) f fd ps sp:=by
 obtain ⟨oc,od,kV,doc,pm,an,cdv,ct,osl,rfl,lk,hcd⟩:=F.ex
 refine Zmy lk hcd S len fun A outer s H vs Q E hr hsp=>?_
 obtain ⟨t,h,q⟩:=hbody cdv A outer s H vs Q E hr hsp
 exact ⟨t,h.nox,q⟩
theorem Ym.binds {x qual:Str}{st:Stmt}{f:Addr}{fd:FuncData}{ps:List Str} (F:Ym K x qual st f fd)
  (h:∀(kV doc pm:Value) (an:Option Addr) (cdv ct:Value) (us:List Value),us.length=ps.length->bindArgs (PySem.W.fnOf x qual (ZaN st) (GY st) (Zi st) .none kV doc pm an cdv ct) ⟨us,[]⟩=pure (ps.zip us)):Binds K fd ps []:=by
 obtain ⟨oc,od,kV,doc,pm,an,cdv,ct,osl,rfl,lk,hcd⟩:=F.ex
 exact .all (h kV doc pm an cdv ct)
theorem ZE {x qual:Str}{st:Stmt}{f:Addr}{oc:Value}{od an:Option Addr}{osl:Array (Option Value)}{kV doc pm cdv ct:Value} (l:K.lookup f=some ⟨oc,od,.func (PySem.W.fnOf x qual (ZaN st) (GY st) (Zi st) .none kV doc pm an cdv ct),osl⟩)
  (c:PySem.W.codeIn K cdv qual=true) (k:PySem.W.keepIn K (.ref f)=true):Ym K x qual st f (PySem.W.fnOf x qual (ZaN st) (GY st) (Zi st) .none kV doc pm an cdv ct):=⟨⟨oc,od,kV,doc,pm,an,cdv,ct,osl,rfl,l,c⟩,k⟩
end
theorem ZkL {A:Around}{k:Nat} (hr:JZ k A):A.units+1<cLine:=Nat.lt_of_le_of_lt (Nat.add_le_add_left (by decide:1<=64) _) hr.units
theorem ZH {n:Nat} (h:n<=1000):n<sizeLine:=Nat.lt_of_le_of_lt h (by decide)
section
variable {X:Cx}
theorem pv (i:Nat) {x:Str}{pos:Pos} (hN:X.N[i]? = some x:=by rfl) (hv:Vis X.env.scope x:=by first | exact Or.inl rfl | exact Or.inr (Or.inl rfl) | exact Or.inr (Or.inr rfl)) (hd:(x==("__debug__" : Str))=false:=by decide)
  (hcd:(x==("__classdict__" : Str))=false:=by decide):PE X (.Name x pos) (Zn8 i):=ZmW hN hv hd hcd
end
theorem Zbr {A B:Prop} (h:B):if false=true then A else B:=by
 rw [if_neg Bool.false_ne_true]
 exact h
theorem Ul {A B:Prop} (h:A):if true=true then A else B:=by
 rw [if_pos rfl]
 exact h
theorem YJ {c A B:Prop} [Decidable c] (h1:c->A) (h2:¬c->B):if c then A else B:=by
 by_cases h:c
 ·rw [if_pos h]
  exact h1 h
 ·rw [if_neg h]
  exact h2 h
def Ze (H H':Hp):Prop:=∀b o,H b=some o->H' b=some o
theorem Ze.refl (H:Hp):Ze H H:=fun _ _ h=>h
theorem Ze.trans {H H1 H2:Hp} (a:Ze H H1) (b:Ze H1 H2):Ze H H2:=fun c o h=>b c o (a c o h)
theorem Ze.free {H H':Hp} (e:Ze H H') {l:Addr} (h:H' l=Option.none):H l=Option.none:=by
 cases q:H l with
 | none=>rfl
 | some o=>
  rw [e l o q] at h
  cases h
theorem Ze.seq {K:PySem.W.Frag}{H H':Hp}{a:Addr}{xs:List V} (e:Ze H H') (h:Zo K H a xs):Zo K H' a xs:=by
 rcases h with (h | ⟨o,h⟩) | h
 ·exact .inl (.inl (e _ _ h))
 ·exact .inl (.inr ⟨o,e _ _ h⟩)
 ·exact .inr h
end L2
set_option maxHeartbeats 4000000
namespace L2
open PySem PySem.Spec PyProof.Rows
section
variable {prog:Program}{w:World}{A:Around}{R:Result->Shared->Prop}{s:Shared}
theorem Ziz {elt target iter:Expr}{ifs:List Expr}{scope:Scope}{pos:Pos}{it acc:Value}{env:Env} (I:Nat->Shared->Prop)
  (turn:∀n s,I n s->wpAny (model prog w) A (pyNext it) (fun r s₁=>match r with
   | none=>R (.ok .next) s₁
   | some v=>wpAny (model prog w) A (letOwnedTupleGo target it v) (fun _ s₁'=>wpAny (model prog w) A (assign target env v) (fun _ s₂=>
     wpAny (model prog w) A (forIn ifs true fun c r=>if r=true then do let ok <- isTrue c env (eval c env);pure (ForInStep.yield ok) else pure (ForInStep.yield r)) (fun ok s₃=>
      if ok=true then wpAny (model prog w) A (eval elt env) (fun x s₄=>
       wpAny (model prog w) A (call (.builtin "list.append") [acc,x]) (fun _ s₅=>∃m,m<n/\I m s₅) (fun _ _=>False) s₄) (fun _ _=>False) s₃
      else ∃m,m<n/\I m s₃) (fun _ _=>False) s₂) (fun _ _=>False) s₁') (fun _ _=>False) s₁) (fun _ _=>False) s)
  (n:Nat) (h:I n s):codeAny (model prog w) A (.compLoop (.ListComp elt [⟨target,iter,ifs,0⟩] scope pos) 0 it acc env) R s:=by
 refine codeAny_loop rfl I (fun n s hI=>?_) n h
 show wpAny _ A ((compTurn (.ListComp elt [⟨target,iter,ifs,0⟩] scope pos) 0 it acc env).onRaise (fun x=>do noteFrame x env;theTreesLotGoes x)) _ _ s
 refine wpAny_noted ?_
 rw [compTurn_list]
 refine wpAny_bind (wpAny_standAt (wpAny_bind (wpAny_mono (turn n s hI) (fun r s₁ h₁=>?_) fun _ _ h'=>h'.elim)))
 cases r with
 | none=>exact wpAny_pure h₁
 | some v=>
  refine wpAny_bind (wpAny_mono h₁ (fun _ s₁' h₁'=>?_) fun _ _ h'=>h'.elim)
  refine wpAny_bind (wpAny_mono h₁' (fun _ s₂ h₂=>wpAny_bind (wpAny_mono h₂ (fun ok s₃ h₃=>?_) fun _ _ h'=>h'.elim)) fun _ _ h'=>h'.elim)
  cases ok with
  | false=>exact wpAny_pure ⟨rfl,h₃⟩
  | true=>
   exact wpAny_bind (wpAny_bind (wpAny_mono h₃ (fun x s₄ h₄=>wpAny_bind (wpAny_mono h₄ (fun _ s₅ h₅=>wpAny_pure (wpAny_pure ⟨rfl,h₅⟩)) fun _ _ h'=>h'.elim)) fun _ _ h'=>h'.elim))
end
theorem Zeg (env:Env) (f:Str×NameKind->List (Str×Addr)->Sem (ForInStep (List (Str×Addr))))
  (hf:∀n k r,f (n,k) r=if (k==NameKind.free)=true then (do let a <- cellOf env n;pure (ForInStep.yield ((n,a)::r))) else pure (ForInStep.yield r)):
  ∀(ns:List (Str×NameKind)) (acc:List (Str×Addr)),(∀y∈ns,y.2 = .free -> ∃c,env.cells.lookup y.1=some c)->(∀x c,acc.lookup x=some c->env.cells.lookup x=some c) ->
   ∃cl,forIn ns acc f=pure cl/\(∀x c,cl.lookup x=some c->env.cells.lookup x=some c)/\(∀y∈ns,y.2 = .free -> ∃c,cl.lookup y.1=some c)/\(∀x c,acc.lookup x=some c -> ∃c',cl.lookup x=some c')
 | [],acc,_,ha=>⟨acc,by rw [List.forIn_nil],ha,fun _ h=>(nomatch h),fun x c h=>⟨c,h⟩⟩
 | (n,k)::r,acc,hn,ha=>by
  rw [List.forIn_cons,hf]
  by_cases hk:k = .free
  ·subst hk
   obtain ⟨c,hc⟩:=hn (n,.free) List.mem_cons_self rfl
   have hc':env.cells.lookup n=some c:=hc
   have e1:cellOf env n=pure c:=by unfold cellOf;rw [hc']
   obtain ⟨cl,h1,h2,h3,h4⟩:=Zeg env f hf r ((n,c)::acc) (fun y hy=>hn y (List.mem_cons_of_mem _ hy)) (fun x c' hx=>by
    rw [List.lookup_cons] at hx
    cases e:x==n with
    | true=>
     rw [e] at hx
     have:x=n:=by simpa using e
     subst this
     rw [<- Option.some.inj hx];exact hc'
    | false=>rw [e] at hx;exact ha x c' hx)
   refine ⟨cl,?_,h2,fun y hy hyf=>?_,fun x c' hx=>?_⟩
   ·rw [if_pos (by rfl),e1]
    exact h1
   ·rcases List.mem_cons.mp hy with e | hy
    ·subst e
     exact h4 n c (by simp)
    ·exact h3 y hy hyf
   ·cases e:x==n with
    | true=>exact h4 x c (by rw [List.lookup_cons,e])
    | false=>exact h4 x c' (by rw [List.lookup_cons,e];exact hx)
  ·have hk':(k==NameKind.free)=false:=by simpa using hk
   obtain ⟨cl,h1,h2,h3,h4⟩:=Zeg env f hf r acc (fun y hy=>hn y (List.mem_cons_of_mem _ hy)) ha
   refine ⟨cl,?_,h2,fun y hy hyf=>?_,h4⟩
   ·rw [hk',if_neg Bool.false_ne_true]
    exact h1
   ·rcases List.mem_cons.mp hy with e | hy
    ·subst e
     exact absurd hyf hk
    ·exact h3 y hy hyf
theorem Zhw {scope:Scope}{env:Env} (h:∀y∈scope.names,y.2 = .free -> ∃c,env.cells.lookup y.1=some c):
  ∃cl,closureFor scope env=pure cl/\(∀x c,cl.lookup x=some c->env.cells.lookup x=some c)/\(∀y∈scope.names,y.2 = .free -> ∃c,cl.lookup y.1=some c):=by
 obtain ⟨cl,h1,h2,h3,_⟩:=Zeg env (fun x r=>match x with
  | (n,k)=>if (k==NameKind.free)=true then (do let a <- cellOf env n;pure (ForInStep.yield ((n,a)::r))) else pure (ForInStep.yield r)) (fun _ _ _=>rfl) scope.names [] h (fun x c q=>by simp at q)
 refine ⟨cl,?_,h2,h3⟩
 unfold closureFor
 refine Eq.trans ?_ h1
 have e:∀(m:Sem (List (Str×Addr))),(m >>= fun r=>(pure r >>= fun r=>pure r))=m:=fun m=>by simp only [pure_bind,bind_pure]
 exact e _
def Zb0 (n:Nat) (fi:List Nat) (σ:St):St:=List.replicate n none++fi.map fun i=>σ.getD i none
def Us:TT:=fun _ H Q=>Q true H
def PTs (X:Cx) (ifs:List Expr) (t:TT):Prop:=
 ∀(pins:List (Addr×Obj)) (s:Shared) (σ:St) (H:Hp) (Q:Bool->Hp->Prop),Inv X pins σ H s->t σ H Q ->
  wpAny (model X.prog X.w) X.A (forIn ifs true fun c r=>if r=true then do let ok <- isTrue c X.env (eval c X.env);pure (ForInStep.yield ok) else pure (ForInStep.yield r)) (TP X pins σ Q) X.xe s
theorem Z8 {X:Cx}:PTs X [] Us:=fun pins s σ H Q I h=>wpAny_tests_nil ⟨H,I,h⟩
theorem Zd4 {X:Cx}{c:Expr}{t:TT} (h:PT X c t):PTs X [c] t:=fun pins s σ H Q I q=>wpAny_tests_one (h pins s σ H Q I q)
structure ZO (N:List Str) (osc scope:Scope) (Ls Fs:List Str) (fi:List Nat):Prop where
 kind:scope.kind = .function
 cells:∀y∈scope.names,y.2 ≠ .cell
 names:∀y∈scope.names,y.2 = .local->scope.names.lookup y.1=some .local
 fre:∀x∈Fs,scope.names.lookup x=some .free
 all:∀y∈scope.names,y.2 = .free->osc.names.lookup y.1=some .cell∨osc.names.lookup y.1=some .free
 ix:fi.map (fun i=>N[i]?)=Fs.map some
def blk (X:Cx) (scope:Scope) (N:List Str) (cl:List (Str×Addr)) (C:Addr) (s3:Shared) (H3:Hp) (ex:List Addr):Cx:=
 { X with N:=N,s₀:=s3,H₀:=H3,env:=compEnvC scope cl C X.env,outer:=X.stack,stack:=X.stack,ex:=ex,fn:=fun _=>false,pn:=[],xe:=fun _ _=>False }
theorem Za8 {env:Env}:∀{names:List (Str×NameKind)}{x:Str},(∀y∈names,y.2 ≠ .cell) ->
    ((names.map fun (n,k)=>if (k==NameKind.free&&env.scope.kind == .function&&env.kindOf n==some .cell) then (n,NameKind.cell) else (n,k)).lookup x=some .cell ∨
     (names.map fun (n,k)=>if (k==NameKind.free&&env.scope.kind == .function&&env.kindOf n==some .cell) then (n,NameKind.cell) else (n,k)).lookup x=some .free) -> ∃y∈names,y.1=x/\y.2 = .free
  | [],_,_,h=>by simp at h
  | (n,k)::r,x,hc,h=>by
    have ih:=@Za8 env r x (fun y hy=>hc y (List.mem_cons_of_mem _ hy))
    cases hx:x==n with
    | true=>
      have e:x=n:=by simpa using hx
      subst e
      by_cases hb:(k==NameKind.free&&env.scope.kind == .function&&env.kindOf x==some .cell)=true
      · have:k = .free:=by
          simp only [Bool.and_eq_true,beq_iff_eq] at hb
          exact hb.1.1
        exact ⟨(x,k),List.mem_cons_self,rfl,this⟩
      · simp only [List.map_cons,if_neg hb,List.lookup_cons,hx] at h
        rcases h with h | h
        · exact absurd (Option.some.inj h) (hc (x,k) List.mem_cons_self)
        · exact ⟨(x,k),List.mem_cons_self,rfl,Option.some.inj h⟩
    | false=>
      have h':((r.map fun (n,k)=>if (k==NameKind.free&&env.scope.kind == .function&&env.kindOf n==some .cell) then (n,NameKind.cell) else (n,k)).lookup x=some .cell ∨
        (r.map fun (n,k)=>if (k==NameKind.free&&env.scope.kind == .function&&env.kindOf n==some .cell) then (n,NameKind.cell) else (n,k)).lookup x=some .free):=by
        by_cases hb:(k==NameKind.free&&env.scope.kind == .function&&env.kindOf n==some .cell)=true
        · simpa only [List.map_cons,if_pos hb,List.lookup_cons,hx] using h
        · simpa only [List.map_cons,if_neg hb,List.lookup_cons,hx] using h
      obtain ⟨y,hy,z⟩:=ih h'
      exact ⟨y,List.mem_cons_of_mem _ hy,z⟩
theorem Za0 {env:Env}{x:Str}:∀{names:List (Str×NameKind)},names.lookup x=some .free ->
    ((names.map fun (n,k)=>if (k==NameKind.free&&env.scope.kind == .function&&env.kindOf n==some .cell) then (n,NameKind.cell) else (n,k)).lookup x=some .cell ∨
     (names.map fun (n,k)=>if (k==NameKind.free&&env.scope.kind == .function&&env.kindOf n==some .cell) then (n,NameKind.cell) else (n,k)).lookup x=some .free)
  | [],h=>by simp at h
  | (n,k)::r,h=>by
    cases hx:x==n with
    | true=>
      have e:x=n:=by simpa using hx
      subst e
      rw [List.lookup_cons,hx] at h
      have hk:k = .free:=Option.some.inj h
      subst hk
      by_cases hb:(NameKind.free==NameKind.free&&env.scope.kind == .function&&env.kindOf x==some .cell)=true
      · left;simp only [List.map_cons,if_pos hb,List.lookup_cons,hx]
      · right;simp only [List.map_cons,if_neg hb,List.lookup_cons,hx]
    | false=>
      rw [List.lookup_cons,hx] at h
      have ih:=@Za0 env x r h
      by_cases hb:(k==NameKind.free&&env.scope.kind == .function&&env.kindOf n==some .cell)=true
      · simpa only [List.map_cons,if_pos hb,List.lookup_cons,hx] using ih
      · simpa only [List.map_cons,if_neg hb,List.lookup_cons,hx] using ih
theorem aLt {h:Heap}{b:Addr}{o:Obj} (e:h.get? b=some o):@LT.lt Nat _ b h.objs.size:=Heap.lt_size e
def LcW (J:It) (σ:St) (g:TG) (tc:TT) (te:TE) (H:Hp) (Q:VK):Prop:=
 ∃W:Nat->Nat->List V->Hp->Prop,(∃m,W 0 m [] H) /\ ∀i m ys H,W i m ys H ->
  (J.stop i H/\ys.length<=sizeLine /\ ∀D,H D=none->Q (.ref D) (upd H D (.lst ys))) ∨
  (J.go i H/\ys.length<=sizeLine /\ ∃N:List V->Hp->Prop,(∀ys' H',N ys' H' -> ∃m',m'<m/\W (i+1) m' ys' H') /\ ∀x H',J.yld i H x H'->g x σ H' fun σ2 H2=>
   tc σ2 H2 fun b H3=>if b=true then te σ2 H3 fun y H4=>N (ys ++ [y]) H4 else N ys H3)
def tLc (n:Nat) (fi:List Nat) (wi:TI) (g:TG) (tc:TT) (te:TE):TE:=fun σ H Q=>wi σ H fun J H1=>LcW J (Zb0 n fi σ) g tc te H1 Q
section
variable {X:Cx}{pins:List (Addr×Obj)} {σ:St}{tg elt iter:Expr}{ifs:List Expr}{scope:Scope}{pos:Pos}{Ls Fs:List Str}{fi:List Nat}{g:TG}{tc:TT}{te:TE}
theorem ZfP {H2:Hp}{s2:Shared}{it:Addr}{fp:List Addr}{tn:Nat->Heap->Prop}{J:It}{cl:List (Str×Addr)}{Q:VK}{E:Value->Shared->Prop}{RR:Value->Addr->Result->Shared->Prop}
  (S:ZO X.N X.env.scope scope Ls Fs fi) (hc:X.calm=true)
  (hb:∀C s3 H3 ex,PG (blk X scope (Ls++Fs) cl C s3 H3 ex) tg g/\PTs (blk X scope (Ls++Fs) cl C s3 H3 ex) ifs tc/\PE (blk X scope (Ls++Fs) cl C s3 H3 ex) elt te)
  (hcl1:∀x c,cl.lookup x=some c->X.env.cells.lookup x=some c) (hcl2:∀y∈scope.names,y.2 = .free -> ∃c,cl.lookup y.1=some c)
  (I2:Inv X pins σ H2 s2) (T:Turn X.prog X.w X.K tg J fp it tn) (st2:tn 0 s2.heap) (f2:∀b∈fp,Zdw X pins H2 b)
  (hW:∃W:Nat->Nat->List V->Hp->Prop,(∃m,W 0 m [] H2) /\ ∀i m ys H,W i m ys H ->
   (J.stop i H/\ys.length<=sizeLine /\ ∀D,H D=none->Q (.ref D) (upd H D (.lst ys))) ∨
   (J.go i H/\ys.length<=sizeLine /\ ∃N:List V->Hp->Prop,(∀ys' H',N ys' H' -> ∃m',m'<m/\W (i+1) m' ys' H') /\ ∀x H',J.yld i H x H'->g x (Zb0 Ls.length fi σ) H' fun σ2 H2=>
    tc σ2 H2 fun b H3=>if b=true then te σ2 H3 fun y H4=>N (ys ++ [y]) H4 else N ys H3))
  (fin:∀D C H' s' m,Inv X pins σ H' s'->Q (.ref D) H'->s'.heap.Ns C m->Zdw X pins H' C->RR (.ref D) C (.ok .next) s'):
  wpAny (model X.prog X.w) X.A (newList []) (fun acc s₃=>wpAny (model X.prog X.w) X.A (newFunctionEnv scope X.env.globals cl [] X.env.qual none .none (some X.env)) (fun cenv s₄=>
   codeAny (model X.prog X.w) X.A (.compStart (.ListComp elt [⟨tg,iter,ifs,0⟩] scope pos) 0 (.ref it) acc { cenv with scope:=relabel scope X.env }) (RR acc cenv.locals) s₄) E s₃) E s2:=by
 refine wpAny_newObj_type (wpAny_newFunctionEnv S.cells (by intro y hy;simp at hy) (fun h₁ hns₁ hsb₁=>?_) S.kind)
 dsimp only at hns₁ hsb₁ ⊢
 generalize hH3:s2.heap.push { cls:=.type "list", dict:=none,data:=.seq ([]:List Value).toArray } = h3 at hns₁ hsb₁ ⊢
 generalize hC:h3.objs.size=C at hns₁ hsb₁ ⊢
 generalize hD:s2.heap.objs.size=D
 have hCD:C=D+1:=by rw [<- hC,<- hH3,Heap.size_push,hD]
 have k23:∀b o,s2.heap.get? b=some o->h3.get? b=some o:=fun b o e=>by rw [<- hH3];exact Heap.get?_push_of_some _ e
 have k34:∀b o,h3.get? b=some o->h₁.get? b=some o:=fun b o e=>hsb₁.extBut b o (Nat.ne_of_lt (by have:=aLt e;lia)) (Heap.get?_push_of_some _ e)
 have hDo:h3.get? D=some { cls:=.type "list", data:=.seq ([]:List Value).toArray }:=by rw [<- hH3,<- hD];exact Heap.get?_push_size _ rfl
 obtain ⟨W,⟨m0,w0⟩,turn⟩:=hW
 have I3:Inv X pins σ H2 { s2 with heap:=h3 }:=I2.kept (t':=s2.toks) k23
 have frD:H2 D=none:=by rw [<- hD];exact I2.fresh
 have frC:H2 C=none:=I2.hok.fresh (by lia)
 have DL:D≠X.env.locals:=Nat.ne_of_gt (by have:@LT.lt Nat _ X.env.locals s2.heap.objs.size:=I2.lt;lia)
 have CL:C≠X.env.locals:=Nat.ne_of_gt (by have:@LT.lt Nat _ X.env.locals s2.heap.objs.size:=I2.lt;lia)
 have cellLt:∀x c,X.env.cells.lookup x=some c -> @LT.lt Nat _ c D:=fun x c e=>by
  obtain ⟨v,q⟩:=I2.cell x c e
  have:@LT.lt Nat _ c s2.heap.objs.size:=q.lt
  lia
 have fpLt:∀b∈fp,@LT.lt Nat _ b D:=fun b hb=>by
  obtain ⟨o,e,_⟩:=T.obj _ _ st2 b hb
  have:=aLt e
  lia
 have exLoc:∀b∈D::fp,b≠C/\(∀x c,X.env.cells.lookup x=some c->c≠b):=fun b hb=>by
  rcases List.mem_cons.mp hb with e | hb
  ·subst e
   exact ⟨Nat.ne_of_lt (by lia),fun x c e=>Nat.ne_of_lt (cellLt x c e)⟩
  ·exact ⟨Nat.ne_of_lt (by have:=fpLt b hb;lia),(f2 b hb).2.2.2.2.1⟩
 have ok':(blk X scope (Ls++Fs) cl C { s2 with heap:=h3 } H2 (D::fp)).Ok:=by
  refine ⟨I2.ok.mod,S.kind,I2.ok.glob,I2.ok.blt,?_,fun x y c e1 e2=>I2.ok.inj x y c (hcl1 x c e1) (hcl1 y c e2),fun x hx=>?_,fun x c hx=>absurd hx Bool.false_ne_true,I2.ok.hd,I2.ok.frames,.inl rfl,
   fun b hb=>⟨(exLoc b hb).1,fun x c e=>(exLoc b hb).2 x c (hcl1 x c e)⟩,I3.bs,Nat.le_trans I2.ok.bsz I3.sz,fun b o e hb=>?_,fun b hb=>?_,I3.stack,I3.stkFree⟩
  ·show h3.objs.size<=C
   lia
  ·obtain ⟨y,hy,e1,e2⟩:=Za8 S.cells hx
   obtain ⟨c,q⟩:=hcl2 y hy e2
   exact ⟨c,e1 ▸ q⟩
  ·rcases List.mem_cons.mp hb with z | hb
   ·exact absurd z (Nat.ne_of_lt (by have:=aLt (I2.bk b o e);lia))
   ·rcases (f2 b hb).2.2.2.1 with z | z
    ·exact I2.ok.noex b o e z
    ·have h1:@LT.lt Nat _ b X.base.objs.size:=aLt e
     have h2:@LE.le Nat _ X.base.objs.size X.s₀.heap.objs.size:=I2.ok.bsz
     have h3:@LE.le Nat _ X.s₀.heap.objs.size b:=z
     lia
  ·intro hz
   have hz':=I2.stkSub b hz
   rcases List.mem_cons.mp hb with e | hb
   ·subst e
    rcases List.mem_cons.mp hz' with z | z
    ·exact DL z
    ·exact I2.nofs (by lia) z
   ·rcases List.mem_cons.mp hz' with z | z
    ·exact (f2 b hb).2.1 z
    ·exact (f2 b hb).2.2.1 z
 obtain ⟨m2,hn2,hl2⟩:=id I2.loc
 have cap:∀(i:Nat) (x:Str) (v:V),(Ls++Fs)[i]? = some x->(Zb0 Ls.length fi σ)[i]? = some (some v) -> ∃u c,RelV v u/\((relabel scope X.env).names.lookup x=some .cell∨(relabel scope X.env).names.lookup x=some .free) /\
   cl.lookup x=some c/\X.env.cells.lookup x=some c/\s2.heap.IsCell c (some u):=by
  intro i x v e1 e2
  unfold Zb0 at e2
  by_cases hi:i<Ls.length
  ·rw [List.getElem?_append_left (by simpa using hi),List.getElem?_replicate,if_pos hi] at e2
   cases e2
  ·have hi':Ls.length<=i:=Nat.le_of_not_lt hi
   rw [List.getElem?_append_right hi'] at e1
   rw [List.getElem?_append_right (by simpa using hi'),List.length_replicate,List.getElem?_map] at e2
   cases e3:fi[i-Ls.length]? with
   | none=>rw [e3] at e2;cases e2
   | some j=>
    rw [e3] at e2
    have e4:σ.getD j none=some v:=Option.some.inj e2
    have e5:X.N[j]? = some x:=by
     have q:=congrArg (fun l=>l[i-Ls.length]?) S.ix
     simp only [List.getElem?_map,e3,e1,Option.map_some] at q
     exact Option.some.inj q
    have e6:σ[j]? = some (some v):=by
     rw [List.getD_eq_getElem?_getD] at e4
     cases e7:σ[j]? with
     | none=>rw [e7] at e4;cases e4
     | some z=>rw [e7] at e4;exact congrArg some e4
    have fx:=S.fre x (List.mem_of_getElem? e1)
    have al:=S.all (x,.free) (PySem.mem_of_lookup fx) rfl
    have vis:Vis X.env.scope x:=by
     rcases al with z | z
     ·exact .inr (.inl z)
     ·exact .inr (.inr z)
    obtain ⟨u,ru,lk⟩:=hl2 j x v e5 e6 vis
    rcases lk with ⟨k,_⟩ | ⟨k,c,ec,hcell⟩
    ·have k':X.env.scope.names.lookup x=some .local:=k
     rcases al with z | z
     ·rw [show X.env.scope.names.lookup x=some .cell from z] at k';cases k'
     ·rw [show X.env.scope.names.lookup x=some .free from z] at k';cases k'
    ·obtain ⟨c',ec'⟩:=hcl2 (x,.free) (PySem.mem_of_lookup fx) rfl
     have:c'=c:=Option.some.inj ((hcl1 x c' ec').symm.trans ec)
     subst this
     exact ⟨u,c',ru,Za0 fx,ec',ec,hcell⟩
 have capLen:(Zb0 Ls.length fi σ).length=(Ls++Fs).length:=by
  unfold Zb0
  have q:=congrArg List.length S.ix
  simp only [List.length_map] at q
  rw [List.length_append,List.length_replicate,List.length_map,List.length_append,q]
 have re:∀{ps:List (Addr×Obj)} {σ':St}{H':Hp}{s':Shared},Inv (blk X scope (Ls++Fs) cl C { s2 with heap:=h3 } H2 (D::fp)) ps σ' H' s'->Inv (blk X scope (Ls++Fs) cl C { s2 with heap:=h3 } H2 (D::fp)) ps (Zb0 Ls.length fi σ) H' s':=by
  intro ps σ' H' s' J'
  refine ⟨J'.ok,J'.os,J'.bare,J'.base,?_,J'.cell,J'.free,J'.freeC,J'.pin,J'.hok,capLen⟩
  obtain ⟨m,hn,_⟩:=J'.loc
  refine ⟨m,hn,fun i x v e1 e2 _=>?_⟩
  obtain ⟨u,c,ru,kk,ec,ec2,o,ho,hd⟩:=cap i x v e1 e2
  obtain ⟨sl,q⟩:=J'.base.any (k23 c o ho) (I2.freeC x c ec2) fun z=>(exLoc c z).2 x c ec2 rfl
  exact ⟨u,ru,.inr ⟨kk,c,ec,_,q,hd⟩⟩
 have I4:Inv (blk X scope (Ls++Fs) cl C { s2 with heap:=h3 } H2 (D::fp)) [(D,{ cls:=.type "list", data:=.seq ([]:List Value).toArray })] (Zb0 Ls.length fi σ) H2 { s2 with heap:=h₁,toks:=s2.toks+([]:List (Str×Value)).length }:=by
  refine ⟨ok',rfl,I2.bare,Un.kept k34,⟨_,hns₁,fun i x v e1 e2 _=>?_⟩,fun x c e=>?_,frC,fun x c e=>I2.freeC x c (hcl1 x c e),fun p hp=>?_,I2.hok.kept fun b o e=>k34 b o (k23 b o e),capLen⟩
  ·obtain ⟨u,c,ru,kk,ec,ec2,o,ho,hd⟩:=cap i x v e1 e2
   exact ⟨u,ru,.inr ⟨kk,c,ec,o,k34 c o (k23 c o ho),hd⟩⟩
  ·obtain ⟨v,o,ho,hd⟩:=I2.cell x c (hcl1 x c e)
   exact ⟨v,o,k34 c o (k23 c o ho),hd⟩
  ·have hp':p=(D,{ cls:=.type "list", data:=.seq ([]:List Value).toArray }):=by
    have:p∈([]:List (Addr×Obj)) ++ [(D,{ cls:=.type "list", data:=.seq ([]:List Value).toArray })]:=hp
    simpa using this
   subst hp'
   refine ⟨k34 D _ hDo,frD,Nat.ne_of_lt (show @LT.lt Nat _ D C by lia),fun z=>?_,fun v z=>by cases z⟩
   rcases List.mem_cons.mp (I2.stkSub D z) with z | z
   ·exact DL z
   ·exact I2.nofs (by lia) z
 obtain ⟨hg,ht,he⟩:=hb C { s2 with heap:=h3 } H2 (D::fp)
 have back:∀{ps:List (Addr×Obj)} {σ':St}{H':Hp}{s':Shared}{ys:List V}{its:List Value}{n:Nat},Inv (blk X scope (Ls++Fs) cl C { s2 with heap:=h3 } H2 (D::fp)) ps σ' H' s'->s'.heap.get? D=some { cls:=.type "list", data:=.seq its.toArray n } ->
   H' D=none->Vals ys its->ys.length<=sizeLine->Inv X pins σ (upd H' D (.lst ys)) s'/\Zdw X pins (upd H' D (.lst ys)) C:=by
  intro ps σ' H' s' ys its n J' hDs hDn rv hz
  have neD:∀b o,s2.heap.get? b=some o->b≠D:=fun b o e=>Nat.ne_of_lt (by have:=aLt e;lia)
  have nex:∀b,b∉fp->b≠D->b∉D::fp:=fun b h1 h2 z=>(List.mem_cons.mp z).elim h2 h1
  have U:Un (J5 X.stack) fp H2 (upd H' D (.lst ys)) s2.heap s'.heap:=by
   refine ⟨fun b o e n hb hx=>J'.base.keep b o (k23 b o e) n hb (nex b hx (neD b o e)),fun b o e n hb hx=>J'.base.slot b o (k23 b o e) n hb (nex b hx (neD b o e)),fun b o e n hx=>?_,fun b o e hx=>J'.base.there b o (k23 b o e) (nex b hx (neD b o e)),fun b xs e=>?_,fun b o u e=>?_,fun b ps e=>?_⟩
   ·rw [Zj (neD b o e)]
    exact J'.base.free b o (k23 b o e) n (nex b hx (neD b o e))
   ·rw [Zj (Zf e frD)]
    exact J'.base.tups b xs e
   ·rw [Zj (Zf e frD)]
    exact J'.base.frzs b o u e
   ·obtain ⟨more,q⟩:=J'.base.tbls b ps e
    exact ⟨more,by rw [Zj (Zf e frD)];exact q⟩
  have hok':GN X.prog X.w (upd H' D (.lst ys)) s'.heap:=fun b u q=>by
   by_cases hbD:b=D
   ·subst hbD
    rw [Zb] at q
    cases q
    exact ⟨hz,its,n,rv,hDs⟩
   ·rw [Zj hbD] at q
    exact (J'.hok b u q).stay (fun c v _ r=>r) (fun c r=>by rw [Zj (Zf r hDn)];exact r) fun c xs r=>by rw [Zj (Zf r hDn)];exact r
  refine ⟨I2.call' J'.os U hok' J'.bare fun b hb=>⟨(f2 b hb).2.2.2.1,(f2 b hb).2.1,(f2 b hb).2.2.2.2.1,(f2 b hb).2.2.2.2.2⟩,?_⟩
  refine ⟨by rw [Zj (Nat.ne_of_gt (by lia))];exact J'.free,CL,I2.nofs (by lia),.inr (by have:=I2.sz;lia),fun x c e=>Nat.ne_of_lt (by have:=cellLt x c e;lia),fun p hp=>?_⟩
  have:=aLt (I2.pin p hp).1
  exact Nat.ne_of_lt (by lia)
 have loop:codeAny (model X.prog X.w) X.A (.compLoop (.ListComp elt [⟨tg,iter,ifs,0⟩] scope pos) 0 (.ref it) (.ref D) (compEnvC scope cl C X.env)) (RR (.ref D) C) { s2 with heap:=h₁,toks:=s2.toks+([]:List (Str×Value)).length }:=by
  refine Ziz (fun n s'=>∃(i:Nat) (ys:List V) (H':Hp) (its:List Value) (k:Nat),Inv (blk X scope (Ls++Fs) cl C { s2 with heap:=h3 } H2 (D::fp)) [(D,{ cls:=.type "list", data:=.seq its.toArray k })] (Zb0 Ls.length fi σ) H' s' /\
   Vals ys its/\tn i s'.heap/\(∀b∈fp,H' b=none)/\W i n ys H') ?_ m0 ⟨0,[],H2,[],0,I4,.nil,T.keep _ _ _ st2 fun b _ o e=>k34 b o (k23 b o e),fun b hb=>(f2 b hb).1,w0⟩
  rintro n s5 ⟨i,ys,H5,its,k,I5,rv,st5,fr5,w5⟩
  have stat:∀{H':Hp}{its':List Value}{k':Nat},(∀b∈fp,H' b=none) -> ∀b∈fp,Zdw (blk X scope (Ls++Fs) cl C { s2 with heap:=h3 } H2 (D::fp)) [(D,{ cls:=.type "list", data:=.seq its'.toArray k' })] H' b:=fun hn b hb=>by
   refine ⟨hn b hb,(exLoc b (List.mem_cons_of_mem _ hb)).1,fun z=>ok'.exfs b (List.mem_cons_of_mem _ hb) z,.inl (List.mem_cons_of_mem _ hb),fun x c e=>(exLoc b (List.mem_cons_of_mem _ hb)).2 x c (hcl1 x c e),fun p hp=>?_⟩
   have hp':p=_:=List.mem_singleton.mp hp
   rw [hp']
   have:=fpLt b hb
   show D≠b
   exact Nat.ne_of_gt this
  have pinD:=I5.pin (D,{ cls:=.type "list", data:=.seq its.toArray k }) (List.mem_singleton.mpr rfl)
  rcases turn i n ys H5 w5 with ⟨stop,hz,qn⟩ | ⟨go,hz,N,hN,step⟩
  ·refine wpAny_mono (T.done (blk X scope (Ls++Fs) cl C { s2 with heap:=h3 } H2 (D::fp)) rfl rfl rfl hc i _ s5 _ H5 _ I5 (stat fr5) st5 stop) (fun r s6 ⟨hr,I6⟩=>?_) fun _ _ h=>h
   subst hr
   have pin6:=I6.pin (D,{ cls:=.type "list", data:=.seq its.toArray k }) (List.mem_singleton.mpr rfl)
   obtain ⟨b1,b2⟩:=back I6 pin6.1 pin6.2.1 rv hz
   obtain ⟨m,hn,_⟩:=I6.loc
   exact fin D C _ s6 m b1 (qn D pin6.2.1) hn b2
  ·refine wpAny_mono (T.item (blk X scope (Ls++Fs) cl C { s2 with heap:=h3 } H2 (D::fp)) rfl rfl rfl hc i _ s5 _ H5 _ I5 (stat fr5) st5 go) (fun r s6 ⟨u,hr,h6⟩=>?_) fun _ _ h=>h
   subst hr
   refine wpAny_mono h6 (fun _ s7 ⟨x,H7,I7,r7,y7,st7,fr7⟩=>?_) fun _ _ h=>h
   have I7':=I7.pinned (stat fr7) (T.obj _ _ st7)
   refine wpAny_mono (hg _ s7 _ H7 x u _ I7' r7 (step x H7 y7)) (fun _ s8 ⟨σ8,H8,I8,q8⟩=>?_) fun _ _ h=>h
   refine wpAny_mono (ht _ s8 σ8 H8 _ I8 q8) (fun ok s9 ⟨H9,I9,q9⟩=>?_) fun _ _ h=>h
   have keepT:∀{σ':St}{H':Hp}{s':Shared},Inv (blk X scope (Ls++Fs) cl C { s2 with heap:=h3 } H2 (D::fp)) ([(D,{ cls:=.type "list", data:=.seq its.toArray k })]++ZcS fp s7.heap) σ' H' s'->tn (i+1) s'.heap /\ ∀b∈fp,H' b=none:=by
    intro σ' H' s' J'
    refine ⟨T.keep _ _ _ st7 fun b hb o e=>(J'.pin (b,o) (List.mem_append_right _ (List.mem_append_right _ (GQ hb e)))).1,fun b hb=>?_⟩
    obtain ⟨o,e,d⟩:=T.obj _ _ st7 b hb
    exact (J'.pin (b,o) (List.mem_append_right _ (List.mem_append_right _ (GQ hb e)))).2.1
   cases ok with
   | false=>
    rw [if_neg Bool.false_ne_true] at q9 ⊢
    obtain ⟨m',hm,w'⟩:=hN _ _ q9
    exact ⟨m',hm,i+1,ys,H9,its,k,re I9.unpinned,rv,(keepT I9).1,(keepT I9).2,w'⟩
   | true=>
    rw [if_pos rfl] at q9 ⊢
    refine wpAny_mono (he _ s9 σ8 H9 _ I9 q9) (fun v s10 ⟨y,H10,I10,r10,q10⟩=>?_) fun _ _ h=>h
    obtain ⟨m',hm,w'⟩:=hN _ _ q10
    obtain ⟨k10,f10⟩:=keepT I10
    have I11:Inv (blk X scope (Ls++Fs) cl C { s2 with heap:=h3 } H2 (D::fp)) [(D,{ cls:=.type "list", data:=.seq its.toArray k })] (Zb0 Ls.length fi σ) H10 s10:=re I10.unpinned
    have pin11:=I11.pin (D,{ cls:=.type "list", data:=.seq its.toArray k }) (List.mem_singleton.mpr rfl)
    refine wpAny_list_append_plain ⟨k,pin11.1⟩ (fun h' hp' sb=>?_) (by rw [List.size_toArray,<- rv.length];exact hz)
    obtain ⟨k',hk'⟩:=hp'
    have e1:its.toArray.push v=(its ++ [v]).toArray:=by simp
    rw [e1] at hk'
    have I12:Inv (blk X scope (Ls++Fs) cl C { s2 with heap:=h3 } H2 (D::fp)) [] (Zb0 Ls.length fi σ) H10 { s10 with heap:=h',toks:=s10.toks }:=
     (I11.pins_of (pins':=[]) fun p hp=>(nomatch hp)).turned (it:=D) (fun b o hb e=>(sb.2 b hb).trans e) pin11.2.1 pin11.2.2.1 (.inl List.mem_cons_self) (fun x c e=>(exLoc D List.mem_cons_self).2 x c (hcl1 x c e)) fun p hp=>(nomatch hp)
    have I13:Inv (blk X scope (Ls++Fs) cl C { s2 with heap:=h3 } H2 (D::fp)) [(D,{ cls:=.type "list", data:=.seq (its ++ [v]).toArray k' })] (Zb0 Ls.length fi σ) H10 { s10 with heap:=h',toks:=s10.toks }:=I12.pins_of fun p hp=>by
     have hp':p=_:=List.mem_singleton.mp hp
     subst hp'
     exact ⟨hk',pin11.2.1,pin11.2.2.1,pin11.2.2.2.1,fun v z=>by cases z⟩
    refine ⟨m',hm,i+1,ys ++ [y],H10,its ++ [v],k',I13,rv.append (.cons r10 .nil),?_,f10,w'⟩
    exact T.keep _ _ _ k10 fun b hb o e=>(sb.2 b (Nat.ne_of_lt (fpLt b hb))).trans e
 exact codeAny_compStart_list loop (T.self _ 0 _ _ _ (T.keep _ _ _ st2 fun b _ o e=>k34 b o (k23 b o e)) loop)
theorem Gy {wi:TI} (S:ZO X.N X.env.scope scope Ls Fs fi) (hc:X.calm=true) (hi:PI X tg iter wi)
  (hb:∀cl C s3 H3 ex,PG (blk X scope (Ls++Fs) cl C s3 H3 ex) tg g/\PTs (blk X scope (Ls++Fs) cl C s3 H3 ex) ifs tc/\PE (blk X scope (Ls++Fs) cl C s3 H3 ex) elt te)
  (hs:∀x,foldedSetIterable iter X.env x=pure x:=by intro _;rfl):PE X (.ListComp elt [⟨tg,iter,ifs,0⟩] scope pos) (tLc Ls.length fi wi g tc te):=by
 intro pins s σ H Q I h
 rw [eval_ListComp]
 obtain ⟨cl,hcl,hcl1,hcl2⟩:=Zhw (scope:=scope) (env:=X.env) fun y hy hf=>I.ok.has y.1 (S.all y hy hf)
 refine wpAny_comprehension_free (use:=none) rfl hs hcl S.kind S.names (wpAny_mono (hi pins s σ H _ I h) (fun v s1 h1=>wpAny_mono h1 (fun itv s2 h2=>?_) fun _ _ e=>e) fun _ _ e=>e)
 obtain ⟨it,fp,tn,J,H2,e,I2,T,st2,f2,hW⟩:=h2
 subst e
 refine ZfP (RR:=fun acc C=>compPost (model X.prog X.w) X.A X.xe none (EP X pins σ Q) acc C) S hc (hb cl) hcl1 hcl2 I2 T st2 f2 hW fun D C H' s' m I' q hn f=>?_
 obtain ⟨f0,f1,f2,f3,f4,f5⟩:=f
 exact ⟨m,hn,fun h' hs'=>⟨.ref D,H',I'.turned (it:=C) (t':=s'.toks) (fun b o hb e=>(hs'.2 b hb).trans e) f0 f1 f3 f4 f5,rfl,q⟩⟩
theorem Zad {wi:TI}{i:Nat}{x:Str}{pos' spos:Pos} (hN:X.N.Nodup) (hi':X.N[i]? = some x) (hx:Loc X.env.scope x) (S:ZO X.N X.env.scope scope Ls Fs fi) (hc:X.calm=true) (hi:PI X tg iter wi)
  (hb:∀cl C s3 H3 ex,PG (blk X scope (Ls++Fs) cl C s3 H3 ex) tg g/\PTs (blk X scope (Ls++Fs) cl C s3 H3 ex) ifs tc/\PE (blk X scope (Ls++Fs) cl C s3 H3 ex) elt te)
  (hsw:swapsWith (.ListComp elt [⟨tg,iter,ifs,0⟩] scope pos) (some (.Name x pos')) spos.line X.env=pure true:=by rfl)
  (hs:∀x,foldedSetIterable iter X.env x=pure x:=by intro _;rfl) (hf:X.fn x=true∨X.env.scope.names.lookup x=some .local:=by first | exact .inl rfl | exact .inr rfl | assumption):
  PS X (.Assign [.Name x pos'] (.ListComp elt [⟨tg,iter,ifs,0⟩] scope pos) spos) (ZnM (tLc Ls.length fi wi g tc te) (GC i)):=by
 intro pins s σ H D' I h
 rw [exec_Assign_Name_used _ _ _ _ hsw]
 obtain ⟨cl,hcl,hcl1,hcl2⟩:=Zhw (scope:=scope) (env:=X.env) fun y hy hf=>I.ok.has y.1 (S.all y hy hf)
 refine wpAny_bind (wpAny_standAt (wpAny_bind ?_))
 show wpAny _ X.A (do let _ <- comprehension (.ListComp elt [⟨tg,iter,ifs,0⟩] scope pos) scope X.env _ (newList []) false (eval iter X.env) (some (assign (.Name x pos') X.env))) _ _ s
 refine wpAny_bind (wpAny_mono (wpAny_comprehension_free (use:=some (assign (.Name x pos') X.env)) (Q:=fun _ s'=>SP X pins D' .next s') rfl hs hcl S.kind S.names
  (wpAny_mono (hi pins s σ H _ I h) (fun v s1 h1=>wpAny_mono h1 (fun itv s2 h2=>?_) fun _ _ e=>e) fun _ _ e=>e)) (fun _ s' hq=>wpAny_pure (wpAny_pure hq)) fun _ _ e=>e)
 obtain ⟨it,fp,tn,J,H2,e,I2,T,st2,f2,hW⟩:=h2
 subst e
 refine ZfP (RR:=fun acc C=>compPost (model X.prog X.w) X.A X.xe (some (assign (.Name x pos') X.env)) (fun _ s'=>SP X pins D' .next s') acc C) (Q:=fun x H1=>GC i x σ H1 D'.nx) S hc (hb cl) hcl1 hcl2 I2 T st2 f2 hW fun D C H' s' m I' q hn f=>?_
 obtain ⟨f0,f1,f2,f3,f4,f5⟩:=f
 show wpAny _ X.A (assign (.Name x pos') X.env (.ref D)) _ _ _
 refine wpAny_assign_Name (ZdP I' hN hi' hx (v:=.ref D) rfl (fun s'' I'' hch=>?_) hf)
 obtain ⟨a,sb,ha⟩:=hch
 have hCa:C≠a:=by
  rcases ha with z | z
  ·rw [z];exact f1
  ·exact (f4 x a z).symm
 exact ⟨m,hn.sameBut sb hCa,fun h' hs'=>⟨_,H',I''.turned (it:=C) (t':=s''.toks) (fun b o hb e=>(hs'.2 b hb).trans e) f0 f1 f3 f4 f5,q⟩⟩
end
end L2
namespace L2
open PySem PySem.Spec PyProof.Rows PyProof.V
def Ite (K:PySem.W.Frag) (a:Addr):It:=
 ⟨fun i H=>∃xs x,Zo K H a xs/\xs[i]? = some x,fun i H v H'=>∃p x,v = .ref p/\H p=none/\H'=upd H p (.tup [.int i,x]) /\ ∀xs,Zo K H a xs->xs[i]? = some x,fun i H=>∃xs,Zo K H a xs/\xs.length<=i⟩
theorem Zif {P:Program}{w:World}{K:PySem.W.Frag}{es:List Expr}{k:Nat}{pos:Pos} (a e it:Addr) (hei:e≠it):
  Turn P w K (.Tuple es k pos) (Ite K a) [e,it] e (fun i h=>(∃old,IsEnum h e it i old)/\h.IsListIter it a i) where
 mem:=by simp
 obj:=fun i h st b hb=>by
  obtain ⟨⟨old,he⟩,o,ho,c,d⟩:=st
  rcases List.mem_cons.mp hb with z | z
  ·subst z
   exact ⟨_,he,fun v z=>by
    have z':Data.fields _=Data.cell v:=z
    cases z'⟩
  ·have z':b=it:=by simpa using z
   subst z'
   exact ⟨o,ho,fun v z=>by rw [d] at z;cases z⟩
 keep:=fun i h h' st k=>by
  obtain ⟨⟨old,he⟩,hi⟩:=st
  exact ⟨⟨old,k e (by simp) _ he⟩,hi.at fun o x=>k it (by simp) o x⟩
 item:=by
  intro X hP hw hK hc i pins s σ H E I hf st hg
  subst hP hw hK
  obtain ⟨xs,x,hq,hx⟩:=hg
  obtain ⟨its,rv,p,hz⟩:=I.list hq
  obtain ⟨u,hu,ru⟩:=rv.get hx
  obtain ⟨⟨old,he⟩,hi⟩:=st
  obtain ⟨e0,e1,e2,e3,e4,e5⟩:=hf e (by simp)
  obtain ⟨f0,f1,f2,f3,f4,f5⟩:=hf it (by simp)
  refine wpAny_pyNext_enum_item he hi p.isList (x:=u) (by simpa using hu) hei fun h' ho hit ht hsz kk=>⟨_,rfl,?_⟩
  refine wpAny_letOwnedTupleGo_enum (s:={ s with heap:=h',toks:=s.toks+1 }) ho fun h'' he'' hs''=>?_
  have Tn:@LT.lt Nat _ e s.heap.objs.size:=aLt he
  have kk2:∀b o,b≠e->b≠it->s.heap.get? b=some o->h''.get? b=some o:=fun b o h1 h2 q=>(hs''.2 b h1).trans (kk b o h1 h2 q)
  have nne:∀b u,H b=some u->b≠e/\b≠it:=fun b u q=>⟨fun z=>by (rw [z,e0] at q;cases q),fun z=>by (rw [z,f0] at q;cases q)⟩
  have fr:H s.heap.objs.size=none:=I.hok.fresh (Nat.le_refl _)
  have hT:h''.get? s.heap.objs.size=some { cls:=.type "tuple", data:=.seq #[.int i s.toks,u] }:=(hs''.2 _ (Nat.ne_of_gt Tn)).trans ht
  have nT:∀b o,s.heap.get? b=some o->b≠s.heap.objs.size:=fun b o q=>Nat.ne_of_lt (aLt q)
  have ok':GN X.prog X.w (upd H s.heap.objs.size (.tup [.int i,x])) h'':=fun b o q=>by
   by_cases hb:b=s.heap.objs.size
   ·subst hb
    rw [Zb] at q
    cases q
    exact ⟨show 2<=sizeLine by decide,[.int i s.toks,u],.cons ⟨_,rfl⟩ (.cons ru .nil),⟨_,hT,rfl,_,rfl⟩⟩
   ·rw [Zj hb] at q
    refine (I.hok b o q).stay (fun c v hc r=>?_) (fun c r=>by rw [Zj (Zf r fr)];exact r) fun c xs r=>by rw [Zj (Zf r fr)];exact r
    rcases hc with z | z
    ·subst z
     exact kk2 c v (nne c o q).1 (nne c o q).2 r
    ·exact kk2 c v (nne c _ z).1 (nne c _ z).2 r
  have I1:Inv X pins σ (upd H s.heap.objs.size (.tup [.int i,x])) { s with heap:=h'',gens:=s.gens,drawn:=s.drawn,toks:=s.toks+1 }:=by
   refine I.step (ch:=[e,it]) (fun b hb=>?_) (fun b o _ _ hc q _=>kk2 b o (fun z=>hc (by simp [z])) (fun z=>hc (by simp [z])) q) (fun b o _ _ hc q _=>⟨o.slots,kk2 b o (fun z=>hc (by simp [z])) (fun z=>hc (by simp [z])) q⟩)
    (fun b o _ q n=>by rw [Zj (nT b o q)];exact n) (fun b o hc q=>⟨o,kk2 b o (fun z=>hc (by simp [z])) (fun z=>hc (by simp [z])) q⟩) (fun b xs q=>by rw [Zj (Zf q fr)];exact q) (fun b o u q=>by rw [Zj (Zf q fr)];exact q)
    (fun b ps q=>⟨#[],by rw [Zj (Zf q fr),q];simp⟩) (fun m hm=>?_) ok' I.bare
   ·rcases List.mem_cons.mp hb with z | z
    ·subst z;exact ⟨e3,e1,e4,e5⟩
    ·have z':b=it:=by simpa using z
     subst z';exact ⟨f3,f1,f4,f5⟩
   ·obtain ⟨o,es,ep,ho,r⟩:=hm
    exact ⟨o,es,ep,kk2 _ o (Ne.symm e1) (Ne.symm f1) ho,r⟩
  refine ⟨.ref s.heap.objs.size,_,I1,rfl,⟨s.heap.objs.size,x,rfl,fr,rfl,fun ys hy=>by rw [I.list_inj hy hq];exact hx⟩,⟨⟨_,by simpa using he''⟩,hit.at fun o q=>(hs''.2 it (Ne.symm hei)).trans q⟩,fun b hb=>?_⟩
  have hbo:∃o,s.heap.get? b=some o:=by
   rcases List.mem_cons.mp hb with z | z
   ·subst z;exact ⟨_,he⟩
   ·have z':b=it:=by simpa using z
    subst z'
    obtain ⟨o,ho,_⟩:=hi
    exact ⟨o,ho⟩
  obtain ⟨o,hbo⟩:=hbo
  rw [Zj (nT b o hbo)]
  exact (hf b hb).1
 done:=by
  intro X hP hw hK hc i pins s σ H E I hf st hg
  subst hP hw hK
  obtain ⟨xs,hq,hx⟩:=hg
  obtain ⟨its,rv,p,hz⟩:=I.list hq
  obtain ⟨⟨old,he⟩,hi⟩:=st
  obtain ⟨f0,f1,f2,f3,f4,f5⟩:=hf it (by simp)
  have hl:=rv.length
  exact wpAny_pyNext_enum_end (I.ok.hd hc) he hi p.isList (by simp;lia) fun h' eb=>⟨rfl,I.turned (t':=s.toks) (fun b o hb e=>eb b o hb e) f0 f1 f3 f4 f5⟩
 self:=fun _ _ _ _ _ st h=>by
  obtain ⟨⟨old,he⟩,_⟩:=st
  exact wpAny_pyIter_enum he h
section
variable {X:Cx}
def Zmj (K:PySem.W.Frag) (ta:TA):TI:=fun σ H R=>ta σ H fun vs H1=>∃a,vs = [.ref a]/\(∃xs,Zo K H1 a xs)/\R (Ite K a) H1
theorem ZlZ {a:Expr}{ta:TA}{p pos tpos:Pos}{es:List Expr}{k:Nat} (hg:Gl X "enumerate") (hm:X.mg "enumerate" = none) (ha:PA X [a] ta) (hs:starEach [a] X.env = [(false,eval a X.env)]:=by rfl):
  PI X (.Tuple es k tpos) (.Call (.Name "enumerate" p) [a] [] pos) (Zmj X.K ta):=by
 intro pins s σ H R I h
 refine Call_ (Zbk I hg hm boot_enumerate (PyProof.Rows.callWith_type1 (YB (ha pos pins s σ H _ I h) fun us s1 ⟨vs,H1,I1,r1,q1⟩=>?_) hs rfl))
 obtain ⟨l,e,⟨xs,hq⟩,q⟩:=q1
 subst e
 cases r1 with
 | cons r rr=>
  cases rr
  cases r
  obtain ⟨its,rv,pl,hz⟩:=I1.list hq
  refine call_enumerate_list pl.isList fun h' he hi hsz kk=>?_
  have I2:Inv X pins σ H1 { s1 with heap:=h' }:=I1.kept (t':=s1.toks) kk
  refine wpAny_pyIter_enum (s:={ s1 with heap:=h' }) he ?_
  refine ⟨_,[s1.heap.objs.size+1,s1.heap.objs.size],_,_,H1,rfl,I2,Zif l _ _ (Nat.succ_ne_self _),⟨⟨_,he⟩,hi⟩,fun b hb=>?_,q⟩
  have hb':s1.heap.objs.size<=b:=by
   rcases List.mem_cons.mp hb with z | z
   ·subst z;exact Nat.le_succ _
   ·have z':b=s1.heap.objs.size:=by simpa using z
    subst z';exact Nat.le_refl _
  exact I1.fpOk hb' (I1.hok.fresh hb')
end
section
variable {X:Cx}
theorem JD:∀{ns:List Int}{vs:List Value},Vals (ns.map V.int) vs->IntsAre vs ns
 | [],_,r=>by cases r;exact .nil
 | n::ns,_,r=>by
  cases r with
  | cons r rr=>
   obtain ⟨t,rfl⟩:=r
   exact .cons n t (JD rr)
theorem Zfa:JM X (.builtin "sorted") (fun xs H Q=>∃(p:Addr) (ns:List Int),xs = [.ref p]/\Zo X.K H p (ns.map V.int)/\ns.length<64 /\ ∀(l:Addr) (ns':List Int),H l=none->ns'.Perm ns->ns'.Pairwise (· <= ·)->Q (.ref l) (upd H l (.lst (ns'.map V.int)))):=by
 intro pins s σ H xs us Q I r h
 obtain ⟨p,ns,rfl,hq,h64,q⟩:=h
 obtain ⟨u,rfl,ru⟩:=r.one
 cases ru
 obtain ⟨its,rv,pl,hz⟩:=I.list hq
 have hlen:ns.length=its.length:=by simpa using rv.length
 refine sorted_ints pl.isList (JD rv) (by lia) fun out ns' a1 a2 a3=>?_
 obtain ⟨e,he⟩:=sortedAll_at s.heap its out
 have fr:H (s.heap.objs.size+1)=none:=I.hok.fresh (Nat.le_succ _)
 have hl':ns'.length=ns.length:=a2.length_eq
 refine ⟨.ref (s.heap.objs.size+1),_,I.laid (a:=s.heap.objs.size+1) (o:=.lst (ns'.map V.int)) (t':=s.toks) (fun b o q=>sortedAll_old q) (Nat.le_succ _) ⟨?_,out.toList,e,Zbx a1,?_⟩,rfl,q _ _ fr a2 a3⟩
 ·rw [List.length_map]
  have:(ns.map V.int).length<=sizeLine:=hz
  rw [List.length_map] at this
  lia
 ·simpa [seqObj] using he
def Zjc (K:PySem.W.Frag):V->List V->Hp->VK->Prop:=fun x vs H Q=>∃(l:Addr) (xs:List V) (y:V),x = .ref l/\vs = [y]/\Zo K H l xs/\W8 y=true/\xs.all W8=true/\Q (.int (xs.countP fun z=>eqV z y)) H
theorem ZcZ {x:V}:∀{xs:List V}{us:List Value},Vals xs us->xs.all W8=true->us.countP (eqU x)=xs.countP fun y=>eqV y x
 | _,_,.nil,_=>rfl
 | _,_,.cons r rr,h=>by
  rw [List.all_cons,Bool.and_eq_true] at h
  rw [List.countP_cons,List.countP_cons,ZcZ rr h.2,ZkS r h.1]
theorem Zji:MtM X "list.count" (Zjc X.K):=by
 intro pins s σ H x vs v us Q I rx rv h
 obtain ⟨l,xs,y,rfl,rfl,hq,fy,fx,q⟩:=h
 cases rx
 obtain ⟨u,rfl,ru⟩:=rv.one
 obtain ⟨its,r,pl,hz⟩:=I.list hq
 obtain ⟨⟨c,dd,dt,sl⟩,ho,hc,n,hd⟩:=pl.isList
 simp only at hc hd
 subst hc hd
 refine call_meets F.slot_list_count ⟨_,ho,rfl⟩ F.entry_list_count (F.args_list_count_2 _ _) (SeqAt.list_countAt l its.toArray n dd sl u (eqU y)) ⟨ho,fun w hw=>ZfN ru fy r fx w (by simpa using hw),?_⟩
 refine ⟨.int _,H,I.tok _,⟨_,rfl⟩,?_⟩
 rw [show its.toArray.toList=its by simp,ZcZ r fx]
 exact q
end
inductive Eqv (K:PySem.W.Frag) (H:Hp):Nat->V->V->Prop
 | flat {n:Nat}{x:V}:W8 x=true->Eqv K H n x x
 | same {n:Nat}{a:Addr}:Eqv K H n (.ref a) (.ref a)
 | lst {n:Nat}{a b:Addr}{xs ys:List V}:Zo K H a xs->Zo K H b ys->xs.length=ys.length->(∀(i:Nat) (x y:V),xs[i]? = some x->ys[i]? = some y->Eqv K H n x y)->Eqv K H (n+1) (.ref a) (.ref b)
 | tup {n:Nat}{a b:Addr}{xs ys:List V}:WT K H a xs->WT K H b ys->xs.length=ys.length->(∀(i:Nat) (x y:V),xs[i]? = some x->ys[i]? = some y->Eqv K H n x y)->Eqv K H (n+1) (.ref a) (.ref b)
theorem all_true (n:Nat):((List.range n).all fun _=>true)=true:=by rw [List.all_eq_true];intro _ _;rfl
theorem ZkQ {x:V} (h:W8 x=true):eqV x x=true:=by
 cases x<;>simp_all [eqV,W8]
theorem Eqv.at {X:Cx}{pins:List (Addr×Obj)} {σ:St}{H:Hp}{s:Shared} (I:Inv X pins σ H s):∀{n:Nat}{x y:V}{u v:Value}{A:Around},Eqv X.K H n x y->RelV x u->RelV y v->A.units+n<cLine->SeqAt.EqAt A s u v true:=by
 intro n x y u v A h
 induction h generalizing u v A with
 | flat f=>
  intro ru rv _
  have:=Zkp (A:=A) (s:=s) ru rv f f
  rw [ZkQ f] at this
  exact this
 | same=>
  intro ru rv _
  cases ru
  cases rv
  exact SeqAt.EqAt.same _
 | @lst n a b xs ys ha hb hl _ ih=>
  intro ru rv hu
  cases ru
  cases rv
  by_cases e:a=b
  ·subst e;exact SeqAt.EqAt.same _
  ·obtain ⟨its,r1,p1,_⟩:=I.list ha
   obtain ⟨its2,r2,p2,_⟩:=I.list hb
   have l1:=r1.length
   have l2:=r2.length
   refine SeqAt.EqAt.of_refs e ?_
   have q:=SeqAt.RcAt.lists (A:=A) (e:=fun _=>true) p1.isList p2.isList (by simp only [List.size_toArray];lia) (by lia) fun j h1 h2=>by
    simp only [List.size_toArray] at h1 h2
    obtain ⟨u1,e1,s1⟩:=r1.get (i:=j) (x:=xs[j]'(by lia)) (by simp)
    obtain ⟨u2,e2,s2⟩:=r2.get (i:=j) (x:=ys[j]'(by lia)) (by simp)
    have z1:its.toArray[j]=u1:=by
     have:its[j]? = some its[j]:=by simp [h1]
     rw [this] at e1
     simpa using Option.some.inj e1
    have z2:its2.toArray[j]=u2:=by
     have:its2[j]? = some its2[j]:=by simp [h2]
     rw [this] at e2
     simpa using Option.some.inj e2
    rw [z1,z2]
    exact ih j _ _ (by simp) (by simp) s1 s2 (by show A.units+1+n<cLine;lia)
   rw [all_true] at q
   exact q
 | @tup n a b xs ys ha hb hl _ ih=>
  intro ru rv hu
  cases ru
  cases rv
  by_cases e:a=b
  ·subst e;exact SeqAt.EqAt.same _
  ·obtain ⟨its,r1,p1,_⟩:=I.tuple ha
   obtain ⟨its2,r2,p2,_⟩:=I.tuple hb
   have l1:=r1.length
   have l2:=r2.length
   refine SeqAt.EqAt.of_refs e ?_
   have q:=SeqAt.RcAt.tuples (A:=A) (s:=s) (l:=a) (b:=b) (items:=its.toArray) (items2:=its2.toArray) (e:=fun _=>true) p1 p2 (by lia) fun j h1 h2=>by
    simp only [List.size_toArray] at h1 h2
    obtain ⟨u1,e1,s1⟩:=r1.get (i:=j) (x:=xs[j]'(by lia)) (by simp)
    obtain ⟨u2,e2,s2⟩:=r2.get (i:=j) (x:=ys[j]'(by lia)) (by simp)
    have z1:its.toArray[j]=u1:=by
     have:its[j]? = some its[j]:=by simp [h1]
     rw [this] at e1
     simpa using Option.some.inj e1
    have z2:its2.toArray[j]=u2:=by
     have:its2[j]? = some its2[j]:=by simp [h2]
     rw [this] at e2
     simpa using Option.some.inj e2
    rw [z1,z2]
    exact ih j _ _ (by simp) (by simp) s1 s2 (by show A.units+1+n<cLine;lia)
   have e3:(its.toArray.size==its2.toArray.size)=true:=by
    rw [beq_iff_eq];simp only [List.size_toArray];lia
   rw [e3,all_true] at q
   exact q
section
variable {X:Cx}
def ZlH (K:PySem.W.Frag) (b:Bool):R2:=fun x y H Q=>∃(p q:Addr) (xs ys:List V),x = .ref p/\y = .ref q/\Zo K H p xs/\Zo K H q ys/\xs.length=ys.length/\(∀(i:Nat) (x y:V),xs[i]? = some x->ys[i]? = some y->Eqv K H 60 x y)/\Q (.bl b) H
theorem ZdM {pins:List (Addr×Obj)} {σ:St}{H:Hp}{s:Shared}{xs ys:List V}{its its2:List Value}{A:Around} (I:Inv X pins σ H s) (r1:Vals xs its) (r2:Vals ys its2) (hl:xs.length=ys.length) (h:∀(i:Nat) (x y:V),xs[i]? = some x->ys[i]? = some y->Eqv X.K H 60 x y) (hu:A.units+62<cLine):
  ∀j (h1:j<its.toArray.size) (h2:j<its2.toArray.size),SeqAt.EqAt A.in1 s its.toArray[j] its2.toArray[j] ((fun _=>true) j):=fun j h1 h2=>by
 have l1:=r1.length
 have l2:=r2.length
 simp only [List.size_toArray] at h1 h2
 obtain ⟨u1,e1,s1⟩:=r1.get (i:=j) (x:=xs[j]'(by lia)) (by simp)
 obtain ⟨u2,e2,s2⟩:=r2.get (i:=j) (x:=ys[j]'(by lia)) (by simp)
 have z1:its.toArray[j]=u1:=by
  have:its[j]? = some its[j]:=by simp [h1]
  rw [this] at e1
  simpa using Option.some.inj e1
 have z2:its2.toArray[j]=u2:=by
  have:its2[j]? = some its2[j]:=by simp [h2]
  rw [this] at e2
  simpa using Option.some.inj e2
 rw [z1,z2]
 exact Eqv.at I (h j _ _ (by simp) (by simp)) s1 s2 (by show A.units+1+60<cLine;lia)
theorem ZmN (hu:X.A.units+64<cLine):OpR X (compareOp .Eq) (ZlH X.K true):=by
 intro pins s σ H x y v u Q I rx ry h
 obtain ⟨p,q,xs,ys,rfl,rfl,hp,hq,hl,he,hQ⟩:=h
 cases rx
 cases ry
 obtain ⟨its,r1,p1,_⟩:=I.list hp
 obtain ⟨its2,r2,p2,_⟩:=I.list hq
 have l1:=r1.length
 have l2:=r2.length
 refine SeqAt.eq_listAt (e:=fun _=>true) p1.isList p2.isList (by simp only [List.size_toArray];lia) (by lia) (ZdM I r1 r2 hl he (by lia)) ⟨.bl true,H,I,?_,hQ⟩
 show Value.bool _=Value.bool true
 simp
theorem Znf (hu:X.A.units+64<cLine):OpR X (compareOp .NotEq) (ZlH X.K false):=by
 intro pins s σ H x y v u Q I rx ry h
 obtain ⟨p,q,xs,ys,rfl,rfl,hp,hq,hl,he,hQ⟩:=h
 cases rx
 cases ry
 obtain ⟨its,r1,p1,_⟩:=I.list hp
 obtain ⟨its2,r2,p2,_⟩:=I.list hq
 have l1:=r1.length
 have l2:=r2.length
 refine SeqAt.RcNeAt.lists (e:=fun _=>true) p1.isList p2.isList (by simp only [List.size_toArray];lia) (by lia) (ZdM I r1 r2 hl he (by lia)) X.prog X.w _ _ ⟨.bl false,H,I,?_,hQ⟩
 show Value.bool _=Value.bool false
 simp
def Zhe (K:PySem.W.Frag) (g:Addr) (D:List (Str×Int)):Prop:=KTD.tabLook KTD.flatLooks (fun a=>K.lookup a) g (D.map fun p=>(p.1,PyData.int p.2))=true
def rGD (K:PySem.W.Frag):R2:=fun x y H Q=>∃(g:Addr) (k:Str) (D:List (Str×Int)) (i:Int),x = .ref g/\y = .str k/\Zhe K g D/\D.lookup k=some i/\Q (.int i) H
theorem Zgb {k:Str}:∀{D:List (Str×Int)}{d:KTD.Dat},KTD.datumAt k ((D.map fun p=>(p.1,PyData.int p.2)).map fun p=>(p.1,KTD.Dat.flat p.2))=some d -> ∃i,D.lookup k=some i/\d = .flat (.int i):=by
 intro D
 induction D with
 | nil=>intro d h;simp [KTD.datumAt] at h
 | cons p D ih=>
  intro d h
  obtain ⟨x,i⟩:=p
  simp only [List.map_cons,KTD.datumAt] at h
  by_cases e:k=x
  ·subst e
   simp only [decide_true,if_true] at h
   exact ⟨i,by simp,by simpa using h.symm⟩
  ·have e':(k==x)=false:=by simpa using e
   simp only [e,decide_false] at h
   obtain ⟨j,h1,h2⟩:=ih (d:=d) (by simpa using h)
   exact ⟨j,by rw [List.lookup_cons,e'];exact h1,h2⟩
theorem ZgN {k:Str}:∀{D:List (Str×Int)}{i:Int},D.lookup k=some i->KTD.datumAt k ((D.map fun p=>(p.1,PyData.int p.2)).map fun p=>(p.1,KTD.Dat.flat p.2))≠none:=by
 intro D
 induction D with
 | nil=>intro i h;simp at h
 | cons p D ih=>
  intro i h
  obtain ⟨x,j⟩:=p
  simp only [List.map_cons,KTD.datumAt]
  by_cases e:k=x
  ·subst e
   simp
  ·have e':(k==x)=false:=by simpa using e
   rw [List.lookup_cons,e'] at h
   simpa [e] using ih h
theorem ZjL:IxR X (rGD X.K):=by
 intro value slice pins s σ H x y v u Q I rx ry h hs
 obtain ⟨g,k,D,i,rfl,rfl,hD,hi,q⟩:=h
 cases rx
 obtain ⟨t,rfl⟩:=ry
 have T0:KTD.TabOf (fun d v=>Flat v d) X.base g (D.map fun p=>(p.1,PyData.int p.2)):=KTD.tab_of_look (L:=KTD.flatLooks) (fun _ _ x=>KTD.flat_of_looks x) (get:=fun a=>X.K.lookup a) (fun a o e=>I.ok.mod.kin a o e) hD
 have T:KTD.Here X.base s.heap g ((D.map fun p=>(p.1,PyData.int p.2)).map fun p=>(p.1,KTD.Dat.flat p.2)):=⟨T0.text,I.bk⟩
 refine tail_any T.typeIs slot_dict_getitem.lookup ?_ hs
 unfold getItem
 try with_reducible refine wpAny_holding ?_
 refine wpAny_bind (wpAny_sequenceKey T.typeIs (by decide) ?_)
 refine wpAny_bind (wpAny_callSpecial?_slot (name:=Str.ofString "__getitem__") T.typeIs slot_dict_getitem
  (wpAny_call_entry slot_dict_getitem T.typeIs entry_dict_getitem ?_ (args_dict_getitem _ _)))
 show wpAny _ _ (dictGet g (.str k t) >>= _) _ _ s
 refine wpAny_bind (KTD.dictGet_text T (fun d v ha hv=>wpAny_pure ⟨v,rfl,wpAny_pure ?_⟩) fun hn=>absurd hn (ZgN hi))
 obtain ⟨j,h1,rfl⟩:=Zgb ha
 rw [hi] at h1
 cases h1
 have hv':Flat v (.int i):=hv
 have hr:=hv' s.heap
 cases hr
 exact ⟨.int i,H,I.tok _,⟨_,rfl⟩,q⟩
theorem Zl {K:PySem.W.Frag} (h:X.K=K):IxR X (Zok K):=h ▸ Zl5
theorem Zaz {K:PySem.W.Frag} (h:X.K=K):IxR X (Zoq K):=h ▸ ZmH
theorem Ziq {K:PySem.W.Frag} (h:X.K=K):IxR X (rGD K):=h ▸ ZjL
theorem Yq {K:PySem.W.Frag} (h:X.K=K):SlR X (ZoG K):=h ▸ ZlW
theorem U4 {K:PySem.W.Frag} (h:X.K=K):MtM X "list.count" (Zjc K):=h ▸ Zji
theorem ZhB {K:PySem.W.Frag} (h:X.K=K) (hu:X.A.units+64<cLine):OpR X (compareOp .Eq) (ZlH K true):=h ▸ ZmN hu
theorem U1 {K:PySem.W.Frag} (h:X.K=K) (hu:X.A.units+64<cLine):OpR X (compareOp .NotEq) (ZlH K false):=h ▸ Znf hu
theorem ZJ {K:PySem.W.Frag} (h:X.K=K):JM X (.builtin "len") (fun xs H Q=>∃p ys,xs = [.ref p]/\(Zo K H p ys∨WT K H p ys)/\Q (.int ys.length) H):=h ▸ Zet
theorem ZaF {K:PySem.W.Frag} (h:X.K=K):JM X (.builtin "sorted") (fun xs H Q=>∃(p:Addr) (ns:List Int),xs = [.ref p]/\Zo K H p (ns.map V.int)/\ns.length<64 /\ ∀(l:Addr) (ns':List Int),H l=none->ns'.Perm ns->ns'.Pairwise (· <= ·)->Q (.ref l) (upd H l (.lst (ns'.map V.int)))):=h ▸ Zfa
theorem Zc4 {K:PySem.W.Frag} (h:X.K=K):JM X (.type "list") (fun xs H Q=>∃p ys,xs = [.ref p]/\(Zo K H p ys∨WT K H p ys) /\ ∀l,H l=none->Q (.ref l) (upd H l (.lst ys))):=h ▸ Zd2
theorem Yx {K:PySem.W.Frag}{es:List Expr}{k:Nat}{t:TGs}{n:Nat}{pos:Pos} (hk:X.K=K) (hc:X.calm=true) (h:PGs X es t) (hn:(assignEach es X.env).length=n:=by rfl) (hst:(assignEach es X.env).findIdx? (·.1)=none:=by rfl):PG X (.Tuple es k pos) (Zol K n t):=hk ▸ ZmS hc h hn hst
theorem YF {K:PySem.W.Frag}{T:String}{name:Str}{r:V->List V->Hp->VK->Prop}{o e:Expr}{es:List Expr}{to:TE}{t:TA}{apos pos:Pos} (hk:X.K=K) (h:PE X (.Call (.Attribute o name apos) (e::es) [] pos) (tBM X.K T r to t)):PE X (.Call (.Attribute o name apos) (e::es) [] pos) (tBM K T r to t):=hk ▸ h
theorem ZC {K:PySem.W.Frag}{l tg:Expr}{tl:TE} (hk:X.K=K) (hl:PE X l tl):PI X tg l (Zmv K tl):=hk ▸ Zk2 hl
theorem US {K:PySem.W.Frag}{a:Expr}{ta:TA}{p pos tpos:Pos}{es:List Expr}{k:Nat} (hk:X.K=K) (hg:Gl X "enumerate") (hm:X.mg "enumerate" = none) (ha:PA X [a] ta) (hs:starEach [a] X.env = [(false,eval a X.env)]:=by rfl):
  PI X (.Tuple es k tpos) (.Call (.Name "enumerate" p) [a] [] pos) (Zmj K ta):=hk ▸ ZlZ hg hm ha hs
end
section
variable {g:TG}{tc:TT}{te:TE} {σ:St}{H:Hp}{Q:VK}{K:PySem.W.Frag}{a:Addr}{xs:List V}
theorem Zda {J:It}{n:Nat} (hn:n<=sizeLine) (Pv:Nat->List V->Hp->Prop) (h0:Pv 0 [] H) (hlen:∀i ys H,Pv i ys H->ys.length<=i) (go:∀i ys H,i<n->Pv i ys H->J.go i H) (stop:∀ys H,Pv n ys H->J.stop n H)
  (hs:∀i ys H,i<n->Pv i ys H -> ∀x H',J.yld i H x H'->g x σ H' fun σ2 H2=>tc σ2 H2 fun b H3=>if b=true then te σ2 H3 fun y H4=>Pv (i+1) (ys ++ [y]) H4 else Pv (i+1) ys H3)
  (hd:∀ys H,Pv n ys H -> ∀D,H D=none->Q (.ref D) (upd H D (.lst ys))):LcW J σ g tc te H Q:=by
 unfold LcW
 refine ⟨fun i m ys H=>m=n-i/\i<=n/\Pv i ys H,⟨n,by simp,Nat.zero_le _,h0⟩,?_⟩
 rintro i m ys H ⟨rfl,hi,p⟩
 have hy:=hlen i ys H p
 by_cases hlt:i<n
 ·exact .inr ⟨go i ys H hlt p,by lia,Pv (i+1),fun ys' H' h2=>⟨n-(i+1),by lia,rfl,hlt,h2⟩,fun x H' y=>hs i ys H hlt p x H' y⟩
 ·have e:i=n:=by lia
  subst e
  exact .inl ⟨stop ys H p,by lia,hd ys H p⟩
theorem Y9 (hn:xs.length<=sizeLine) (Pv:Nat->List V->Hp->Prop) (h0:Pv 0 [] H) (hlen:∀i ys H,Pv i ys H->ys.length<=i) (hS:∀i ys H,Pv i ys H->Zo K H a xs)
  (hs:∀i x ys H,xs[i]? = some x->Pv i ys H->g x σ H fun σ2 H2=>tc σ2 H2 fun b H3=>if b=true then te σ2 H3 fun y H4=>Pv (i+1) (ys ++ [y]) H4 else Pv (i+1) ys H3)
  (hd:∀ys H,Pv xs.length ys H -> ∀D,H D=none->Q (.ref D) (upd H D (.lst ys))):LcW (Itl K a) σ g tc te H Q:=
 Zda hn Pv h0 hlen (fun i ys H hi p=>⟨xs,xs[i],hS i ys H p,by simp [hi]⟩) (fun ys H p=>⟨xs,hS _ ys H p,Nat.le_refl _⟩) (fun i ys H hi p x H' y=>by
  obtain ⟨e,y⟩:=y
  subst e
  exact hs i x ys _ (y xs (hS i ys _ p)) p) hd
theorem Zc6 {lo:Int}{n:Nat} (hn:n<=sizeLine) (Pv:Nat->List V->Hp->Prop) (h0:Pv 0 [] H) (hlen:∀i ys H,Pv i ys H->ys.length<=i)
  (hs:∀i ys H,i<n->Pv i ys H->g (.int (lo+i)) σ H fun σ2 H2=>tc σ2 H2 fun b H3=>if b=true then te σ2 H3 fun y H4=>Pv (i+1) (ys ++ [y]) H4 else Pv (i+1) ys H3)
  (hd:∀ys H,Pv n ys H -> ∀D,H D=none->Q (.ref D) (upd H D (.lst ys))):LcW (Itr lo n) σ g tc te H Q:=
 Zda hn Pv h0 hlen (fun i ys H hi p=>hi) (fun ys H p=>Nat.le_refl _) (fun i ys H hi p x H' y=>by
  obtain ⟨e,y⟩:=y
  subst e y
  exact hs i ys _ hi p) hd
theorem ZkG (hn:xs.length<=sizeLine) (Pv:Nat->List V->Hp->Prop) (h0:Pv 0 [] H) (hlen:∀i ys H,Pv i ys H->ys.length<=i) (hS:∀i ys H,Pv i ys H->Zo K H a xs)
  (hs:∀i x p ys H,xs[i]? = some x->Pv i ys H->H p=none->g (.ref p) σ (upd H p (.tup [.int i,x])) fun σ2 H2=>tc σ2 H2 fun b H3=>if b=true then te σ2 H3 fun y H4=>Pv (i+1) (ys ++ [y]) H4 else Pv (i+1) ys H3)
  (hd:∀ys H,Pv xs.length ys H -> ∀D,H D=none->Q (.ref D) (upd H D (.lst ys))):LcW (Ite K a) σ g tc te H Q:=
 Zda hn Pv h0 hlen (fun i ys H hi p=>⟨xs,xs[i],hS i ys H p,by simp [hi]⟩) (fun ys H p=>⟨xs,hS _ ys H p,Nat.le_refl _⟩) (fun i ys H hi p x H' y=>by
  obtain ⟨q,z,e1,e2,e3,y⟩:=y
  subst e1 e3
  exact hs i z q ys _ (y xs (hS i ys _ p)) p e2) hd
end
def Yn (N:List Str) (osc scope:Scope) (Fs:List Str) (fi:List Nat):Bool:=
 (scope.kind == .function)&&scope.names.all (fun y=>y.2 != .cell)&&scope.names.all (fun y=>y.2 != .local||scope.names.lookup y.1==some .local)&&Fs.all (fun x=>scope.names.lookup x==some .free) &&
  scope.names.all (fun y=>y.2 != .free||osc.names.lookup y.1==some .cell||osc.names.lookup y.1==some .free)&&(fi.map (fun i=>N[i]?)==Fs.map some)
theorem ZO.of {N:List Str}{osc scope:Scope}{Ls Fs:List Str}{fi:List Nat} (h:Yn N osc scope Fs fi=true):ZO N osc scope Ls Fs fi:=by
 simp only [Yn,Bool.and_eq_true,List.all_eq_true,Bool.or_eq_true,bne_iff_ne,beq_iff_eq] at h
 obtain ⟨⟨⟨⟨⟨h1,h2⟩,h3⟩,h4⟩,h5⟩,h6⟩:=h
 refine ⟨h1,h2,fun y hy hl=>(h3 y hy).elim (fun z=>absurd hl z) id,h4,fun y hy hf=>?_,h6⟩
 rcases h5 y hy with (z | z) | z
 ·exact absurd hf z
 ·exact .inl z
 ·exact .inr z
def Yi (P:Program) (w:World) (K:PySem.W.Frag) (mg:Str->Option Value) (base:Heap) (k:Nat) (x:Str) (ps:List Str) (sp:Sp):Prop:=
 ∃(f:Addr) (fd:FuncData),ZX P w K mg base J4 k f fd ps sp/\mg x=some (.ref f)/\PySem.W.keepIn K (.ref f)=true/\Binds K fd ps []
theorem Zk {X:Cx}{j k:Nat}{x:Str}{ps:List Str}{sp:Sp}{p pos:Pos}{e:Expr}{es:List Expr}{t:TA} (h:Yi X.prog X.w X.K X.mg X.base j x ps sp) (hr:JZ k X.A) (ha:PA X (e::es) t) (hj:j<=k:=by decide) (hg:Gl X x:=by rfl) (hdb:(x==("__debug__" : Str))=false:=by decide)
  (he:starEach (e::es) X.env=(false,eval e X.env)::starEach es X.env:=by rfl) (hpl:(backTo pos (starEach es X.env)).any (·.1)=false:=by rfl):PE X (.Call (.Name x p) (e::es) [] pos) (Zju sp [] E0 t):=by
 obtain ⟨f,fd,G,hm,hk,hb⟩:=h
 exact Zh4 G (hr.mono hj) hg hm hk hb .nil Zkr ha hdb he hpl
def JJ (b:Addr) (H H':Hp):Prop:=∀c o,H c=some o->c≠b->H' c=some o
theorem JJ.refl (b:Addr) (H:Hp):JJ b H H:=fun _ _ h _=>h
theorem JJ.trans {b:Addr}{H H1 H2:Hp} (x:JJ b H H1) (y:JJ b H1 H2):JJ b H H2:=fun c o h n=>y c o (x c o h n) n
theorem Ze.frm {b:Addr}{H H':Hp} (x:Ze H H'):JJ b H H':=fun c o h _=>x c o h
theorem Ze.laid {H:Hp}{p:Addr}{o:HO} (h:H p=none):Ze H (upd H p o):=fun c u e=>by rw [Zj (Zf e h)];exact e
theorem Ze.step {H H':Hp}{p:Addr}{o:HO} (s:Ze H H') (h:H' p=none):Ze H (upd H' p o):=s.trans (.laid h)
theorem JJ.upd {b:Addr}{H:Hp}{o:HO}:JJ b H (upd H b o):=fun c u e n=>by rw [Zj n];exact e
theorem JJ.new {b p:Addr}{H H':Hp}{o:HO} (s:JJ b H H') (h:H' p=none):JJ b H (L2.upd H' p o):=s.trans (Ze.laid h).frm
theorem Ze.put {H H':Hp}{p:Addr}{o:HO} (s:Ze H H') (h:H p=none):Ze H (upd H' p o):=fun c u e=>by rw [Zj (Zf e h)];exact s c u e
def Bag (H:Hp) (b:Addr):Prop:=∃g r:Int,0<=g/\H b=some (.lst [.int g,.int r])
theorem JJ.free {b:Addr}{H H':Hp} (f:JJ b H H') (hb:Bag H' b) {p:Addr} (h:H' p=none):H p=none:=by
 cases q:H p with
 | none=>rfl
 | some o=>
  by_cases e:p=b
  ·subst e
   obtain ⟨g,r,_,z⟩:=hb
   rw [h] at z;cases z
  ·rw [f p o q e] at h;cases h
def Zs (H:Hp) (xs:List V) (ls:List (Str×Int)):Prop:=Paired (fun x (p:Str×Int)=>∃t,x=V.ref t/\H t=some (.tup [.str p.1,.int p.2])) xs ls
theorem Zs.mono {H H':Hp} (h:∀t p,H t=some (.tup p)->H' t=some (.tup p)):∀{xs:List V}{ls:List (Str×Int)},Zs H xs ls->Zs H' xs ls
 | _,_,.nil=>.nil
 | _,_,.cons ⟨t,e,q⟩ r=>.cons ⟨t,e,h t _ q⟩ (Zs.mono h r)
theorem Zs.same {H H':Hp} (s:Ze H H') {xs:List V}{ls:List (Str×Int)} (h:Zs H xs ls):Zs H' xs ls:=h.mono fun t p e=>s t _ e
theorem Zs.frm {b:Addr}{H H':Hp} (s:JJ b H H') (hb:Bag H b) {xs:List V}{ls:List (Str×Int)} (h:Zs H xs ls):Zs H' xs ls:=h.mono fun t p e=>s t _ e (fun z=>by
 obtain ⟨g,r,_,q⟩:=hb
 rw [z,q] at e;cases e)
theorem Zs.len {H:Hp}{xs:List V}{ls:List (Str×Int)} (h:Zs H xs ls):xs.length=ls.length:=Paired.length h
theorem Zs.get {H:Hp}:∀{xs:List V}{ls:List (Str×Int)}{i:Nat}{x:V},Zs H xs ls->xs[i]? = some x -> ∃p t,ls[i]? = some p/\x = .ref t/\H t=some (.tup [.str p.1,.int p.2])
 | _,_,_,_,.nil,e=>by simp at e
 | _,_,0,_,.cons ⟨t,e1,q⟩ _,e=>by simp at e;subst e;exact ⟨_,t,rfl,e1,q⟩
 | _,_,i+1,x,.cons _ r,e=>by
  obtain ⟨p,t,h1,h2⟩:=Zs.get (i:=i) (x:=x) r (by simpa using e)
  exact ⟨p,t,by simpa using h1,h2⟩
theorem Zs.snoc {H:Hp}{xs:List V}{ls:List (Str×Int)}{t:Addr}{x:Str}{k:Int} (h:Zs H xs ls) (e:H t=some (.tup [.str x,.int k])):Zs H (xs ++ [.ref t]) (ls ++ [(x,k)]):=Paired.snoc h ⟨t,rfl,e⟩
theorem Zs.append {H:Hp}:∀{xs ys:List V}{ls ms:List (Str×Int)},Zs H xs ls->Zs H ys ms->Zs H (xs++ys) (ls++ms)
 | _,_,_,_,.nil,s=>s
 | _,_,_,_,.cons r t,s=>.cons r (Zs.append t s)
inductive Wk:List (Str×Int)->Int->Prop
 | nil:Wk [] 0
 | born {ls:List (Str×Int)}{n k:Int}:Wk ls n->0<=k->k<=n->Wk (ls ++ [((("born" : Str),k):Str×Int)]) (n+2)
 | cross {ls:List (Str×Int)}{n k:Int}:Wk ls n->0<=k->k+1<n->Wk (ls ++ [((("cross" : Str),k):Str×Int)]) n
 | fin {ls:List (Str×Int)}{n k:Int}:Wk ls n->0<=k->k+1<n->Wk (ls ++ [((("end" : Str),k):Str×Int)]) (n-2)
def Kd (x:Str):Prop:=x = "born" ∨ x = "cross" ∨ x = "end"
theorem Wk.kd {ls:List (Str×Int)}{n:Int} (h:Wk ls n):∀p∈ls,Kd p.1:=by
 induction h with
 | nil=>intro p hp;cases hp
 | born _ _ _ ih=>intro p hp;rcases List.mem_append.mp hp with z | z;exact ih p z;rw [List.mem_singleton.mp z];exact .inl rfl
 | cross _ _ _ ih=>intro p hp;rcases List.mem_append.mp hp with z | z;exact ih p z;rw [List.mem_singleton.mp z];exact .inr (.inl rfl)
 | fin _ _ _ ih=>intro p hp;rcases List.mem_append.mp hp with z | z;exact ih p z;rw [List.mem_singleton.mp z];exact .inr (.inr rfl)
def Drw (H:Hp) (l:Addr) (ls:List (Str×Int)):Prop:=∃xs,H l=some (.lst xs)/\Zs H xs ls/\Wk ls 0/\ls.length<=60
def Ev (t:TT) (σ:St) (H:Hp) (β:Bool):Prop:=∀Q:Bool->Hp->Prop,Q β H->t σ H Q
theorem Zex {t u:TT} {σ:St}{H:Hp} {β γ:Bool} (h1:Ev t σ H β) (h2:β = true->Ev u σ H γ):Ev (Zof t u) σ H (β && γ):=fun Q q=>h1 _ (by
 cases β with
 | true=>rw [if_pos rfl];exact h2 rfl _ q
 | false=>rw [if_neg Bool.false_ne_true];exact q)
theorem ZoL {t u:TT} {σ:St}{H:Hp} {β γ:Bool} (h1:Ev t σ H β) (h2:β = false->Ev u σ H γ):Ev (tOr t u) σ H (β || γ):=fun Q q=>h1 _ (by
 cases β with
 | true=>rw [if_pos rfl];exact q
 | false=>rw [if_neg Bool.false_ne_true];exact h2 rfl _ q)
theorem Zoa {t:TT} {σ:St}{H:Hp} {β:Bool}{T U:Hp->Prop} (h:Ev t σ H β) (h1:β = true->T H) (h2:β = false->U H):t σ H fun b H1=>if b=true then T H1 else U H1:=h _ (by
 cases β with
 | true=>rw [if_pos rfl];exact h1 rfl
 | false=>rw [if_neg Bool.false_ne_true];exact h2 rfl)
theorem Zgo {tc:TT}{t u:TS}{D:Ends} {σ:St}{H:Hp} {β:Bool} (h:Ev tc σ H β) (h1:β = true->t D σ H) (h2:β = false->u D σ H):Zow tc t u D σ H:=Zoa h h1 h2
theorem lcT {σ:St}{H:Hp}{A B:Hp->Prop} (h:A H):Us σ H fun b H3=>if b=true then A H3 else B H3:=by
 show if true=true then A H else B H
 exact Ul h
theorem Ws {H H1 H2:Hp}{b l t:Addr}{xs:List V}{ls:List (Str×Int)} (x:Str) (k:Int) (f0:JJ b H H1) (hb1:Bag H1 b) (hl:H1 l=some (.lst xs)) (hL:Zs H1 xs ls) (hlb:l≠b) (hlf:H l=none) (f2:JJ b H1 H2) (bag2:Bag H2 b) (ht:H2 t=none):
  (upd H2 t (.tup [.str x,.int k])) l=some (.lst xs)/\Bag (upd (upd H2 t (.tup [.str x,.int k])) l (.lst (xs ++ [.ref t]))) b/\JJ b H (upd (upd H2 t (.tup [.str x,.int k])) l (.lst (xs ++ [.ref t]))) /\
   (upd (upd H2 t (.tup [.str x,.int k])) l (.lst (xs ++ [.ref t]))) l=some (.lst (xs ++ [.ref t]))/\Zs (upd (upd H2 t (.tup [.str x,.int k])) l (.lst (xs ++ [.ref t]))) (xs ++ [.ref t]) (ls ++ [(x,k)]):=by
 have hl2:H2 l=some (.lst xs):=f2 l _ hl hlb
 have hlt:l≠t:=Zf hl2 ht
 have hbt:b≠t:=by
  obtain ⟨g,r,_,e⟩:=bag2
  exact Zf e ht
 refine ⟨by rw [Zj hlt];exact hl2,?_,fun c o e n=>?_,Zb,?_⟩
 ·obtain ⟨g,r,h0,e⟩:=bag2
  exact ⟨g,r,h0,by rw [Zj (Ne.symm hlb),Zj hbt];exact e⟩
 ·have e2:=f2 c o (f0 c o e n) n
  rw [Zj (Zf e hlf),Zj (Zf e2 ht)]
  exact e2
 ·refine Zs.snoc ?_ (by rw [Zj (Ne.symm hlt)];exact Zb)
  refine (hL.frm f2 hb1).mono fun t' p e=>?_
  rw [Zj (ZfD e hl2 (by intro z;cases z)),Zj (Zf e ht)]
  exact e
theorem lcG {i:Nat}{v:V} {σ:St}{H:Hp}{A B:St->Hp->Prop} (h:A (σ.set i (some v)) H):GC i v σ H fun σ2 H2=>Us σ2 H2 fun b H3=>if b=true then A σ2 H3 else B σ2 H3:=by
 show if true=true then A (σ.set i (some v)) H else B (σ.set i (some v)) H
 exact Ul h
def isK (ls:List (Str×Int)) (pr:Str->Bool) (i:Nat):Bool:=((ls[i]?).map fun q=>pr q.1)==some true
def ZU (ls:List (Str×Int)) (pr:Str->Bool) (n:Nat):List Int:=(List.range n).filterMap fun i=>if isK ls pr i=true then some (i:Int) else none
theorem YN (ls:List (Str×Int)) (pr:Str->Bool) (n:Nat):ZU ls pr (n+1)=ZU ls pr n++(if isK ls pr n=true then [(n:Int)] else []):=by
 unfold ZU
 rw [List.range_succ,List.filterMap_append]
 by_cases h:isK ls pr n=true<;>simp [h]
theorem Zfr {ls:List (Str×Int)}{pr:Str->Bool}{n:Nat}{q:Str×Int} (h:ls[n]? = some q) (hp:pr q.1=true):(ZU ls pr n).map V.int ++ [V.int n]=(ZU ls pr (n+1)).map V.int:=by
 have:isK ls pr n=true:=by unfold isK;rw [h];simp [hp]
 rw [YN,this]
 simp
theorem Zhk {ls:List (Str×Int)}{pr:Str->Bool}{n:Nat}{q:Str×Int} (h:ls[n]? = some q) (hp:pr q.1=false):(ZU ls pr n).map V.int=(ZU ls pr (n+1)).map V.int:=by
 have:isK ls pr n=false:=by unfold isK;rw [h];simp [hp]
 rw [YN,this]
 simp
theorem Jk (ls:List (Str×Int)) (pr:Str->Bool) (n:Nat):(ZU ls pr n).length<=n:=by
 unfold ZU
 exact Nat.le_trans (List.length_filterMap_le _ _) (by simp)
def Zdq (x:Str):Int:=if x = "born" then 2 else if x = "end" then -2 else 0
def Z7 (ls:List (Str×Int)):Int:=(ls.map fun p=>Zdq p.1).sum
theorem UW (ls:List (Str×Int)) (p:Str×Int):Z7 (ls ++ [p])=Z7 ls+Zdq p.1:=by
 unfold Z7
 simp
theorem Ziu {x:Str} (h:Kd x):([(("born" : Str),(2:Int)),(("cross" : Str),0),(("end" : Str),-2)]:List (Str×Int)).lookup x=some (Zdq x):=by
 rcases h with e | e | e<;>subst e<;>decide +kernel
theorem UD {K:PySem.W.Frag}{H:Hp}{p q:Addr}{xs:List V} (h1:H p=some (.lst xs)) (h2:H q=some (.lst xs)) (f:xs.all W8=true):Eqv K H 60 (.ref p) (.ref q):=
 .lst (Zo.of h1) (Zo.of h2) rfl fun i x y e1 e2=>by
  rw [e1] at e2
  cases e2
  exact .flat (List.all_eq_true.mp f x (List.mem_of_getElem? e1))
section
variable {X:Cx}
theorem Zfv {v:Value}{a:Int} (h:IsPart v (some a)):RelV (.int a) v:=by
 cases h with
 | int _ t=>exact ⟨t,rfl⟩
def Zpt (to:TE) (tl th:TO):TG:=fun v σ H Q=>to σ H fun x H1=>tl σ H1 fun lo H2=>th σ H2 fun hi H3=>∃(l b:Addr) (xs ys:List V) (a c:Int),x = .ref l/\v = .ref b/\lo=some a/\hi=some c/\H3 l=some (.lst xs)/\H3 b=some (.lst ys)/\l≠b /\
 0<=a/\a<=c/\c<=xs.length/\xs.length+ys.length<=sizeLine/\Q σ (upd H3 l (.lst (xs.take a.toNat++ys++xs.drop c.toNat)))
theorem ZjA {o:Expr}{lo hi:Option Expr}{to:TE}{tl th:TO}{p2 pos:Pos} (ho:PE X o to) (hl:PO X lo tl) (hu:PO X hi th):PG X (.Subscript o (.Slice lo hi none p2) pos) (Zpt to tl th):=by
 intro pins s σ H v u Q I r h
 show wpAny _ _ (do
   let ov <- holding [u] (eval o X.env)
   let iv <- holding [u,ov] (eval (.Slice lo hi none p2) X.env)
   standAt pos
   holding [u,ov,iv] (setItem ov iv u)
   release [iv,u,ov] []) _ _ s
 refine wpAny_bind (wpAny_holding (YB (ho pins s σ H _ I h) fun ov s1 ⟨x,H1,I1,r1,q1⟩=>?_))
 refine wpAny_bind (wpAny_holding (wpAny_Slice (YB (hl pins s1 σ H1 _ I1 q1) fun vl s2 ⟨l',H2,I2,pl,q2⟩=>YB (hu pins s2 σ H2 _ I2 q2) fun vu s3 ⟨u',H3,I3,pu,q3⟩=>?_)))
 rw [evalPart_none]
 refine wpAny_pure ?_
 have I4:Inv X pins σ H3 { s3 with heap:=s3.heap.push { cls:=.type "slice", data:=.fields #[vl,vu,.none] } }:=I3.kept (t':=s3.toks) fun b ob q=>Heap.get?_push_of_some _ q
 obtain ⟨l,b,xs,ys,a,c,rfl,rfl,rfl,rfl,hx,hy,hne,h0,hac,hc,hz,q⟩:=q3
 cases r1
 cases r
 refine wpAny_bind (wpAny_standAt (wpAny_bind (wpAny_holding (Ziy I4 hx hy hne (Heap.IsSliceOf.new ..) (Zfv pl) (Zfv pu) h0 hac hc hz fun s5 I5=>?_))))
 exact wpAny_release ⟨σ,_,I5,q⟩
end
theorem Zhs (a c:Nat) (hac:a<=c):∀(its:List Value) (i:Nat),((its.zipIdx i).filterMap fun (p:Value×Nat)=>if (a<=p.2/\p.2<c) then none else some p.1)=its.take (a-i)++its.drop (c-i)
 | [],i=>by simp
 | x::r,i=>by
  have ih:=Zhs a c hac r (i+1)
  rw [List.zipIdx_cons,List.filterMap_cons]
  by_cases h1:i<a
  ·have e1:a-i=(a-(i+1))+1:=by lia
   have e2:c-i=(c-(i+1))+1:=by lia
   rw [if_neg (show ¬(a<=(x,i).2/\(x,i).2<c) by show ¬(a<=i/\i<c);lia)]
   simp only [ih]
   rw [e1,e2]
   simp
  ·by_cases h2:i<c
   ·have e1:a-i=0:=by lia
    have e1':a-(i+1)=0:=by lia
    have e2:c-i=(c-(i+1))+1:=by lia
    rw [if_pos (show (a<=(x,i).2/\(x,i).2<c) by show (a<=i/\i<c);lia)]
    simp only [ih]
    rw [e1,e1',e2]
    simp
   ·have e1:a-i=0:=by lia
    have e1':a-(i+1)=0:=by lia
    have e2:c-i=0:=by lia
    have e2':c-(i+1)=0:=by lia
    rw [if_neg (show ¬(a<=(x,i).2/\(x,i).2<c) by show ¬(a<=i/\i<c);lia)]
    simp only [ih]
    rw [e1,e1',e2,e2']
    simp
section
variable {prog:Program}{w:World}{A:Around}{E:Value->Shared->Prop}{s:Shared}
theorem Zdx {l sl:Addr}{its:List Value}{n:Nat}{vl vu:Value}{a c:Nat}{Q:Unit->Shared->Prop}
  (e:s.heap.get? l=some { cls:=.type "list", data:=.seq its.toArray n }) (hs:s.heap.IsSliceOf sl vl vu .none) (pl:IsPart vl (some (a:Int))) (pu:IsPart vu (some (c:Int))) (hac:a<=c) (hc:c<=its.length)
  (hsz:its.length<=sizeLine) (h:∀f:Array Value->Array Value,f its.toArray=(its.take a++its.drop c).toArray->Q () { s with heap:=s.heap.update l (Obj.mapSeq f) }):
  wpAny (model prog w) A (delItem (.ref l) (.ref sl)) Q E s:=by
 have hl:s.heap.IsList l its.toArray:=PySem.IsL.isList e
 obtain ⟨os,hos,hcs,hds⟩:=id hs
 have hTs:s.TypeIs (.ref sl) "slice" := ⟨os,hos,hcs⟩
 have hstep:¬((rawPart none==rawInt 0)=true):=Bool.false_ne_true
 refine wpAny_delItem_slot hl.typeIs (by decide) F.slot_list_delitem (wpAny_call_entry F.slot_list_delitem hl.typeIs F.entry_list_delitem ?_ (F.args_list_delitem_2 _ _))
 show wpAny _ _ (Builtin.List.listSubscript? (.ref sl) >>= _) _ _ s
 refine wpAny_bind ?_
 unfold Builtin.List.listSubscript?
 refine wpAny_bind (wpAny_specialOf hTs slice_no_index ?_)
 simp only [Option.isNone_none,if_true]
 refine wpAny_pure ?_
 show wpAny _ _ (typeOf (.ref sl) >>= _) _ _ s
 refine wpAny_bind (wpAny_typeOf hTs ?_)
 first
  | rw [if_neg (by decide)]
  | refine PySem.W.KFB.if_not (by decide) ?_
 rw [listSliceParts_eq]
 refine wpAny_bind (wpAny_bind (wpAny_field hos hds (x:=.none) rfl (wpAny_bind (wpAny_listPart .none ?_))))
 rw [if_neg hstep]
 refine wpAny_bind (wpAny_field hos hds (x:=vl) rfl (wpAny_bind (wpAny_listPart pl ?_)))
 refine wpAny_bind (wpAny_field hos hds (x:=vu) rfl (wpAny_bind (wpAny_listPart pu (wpAny_pure ?_))))
 unfold Builtin.List.listItems
 refine wpAny_bind (wpAny_bind (wpAny_seqItems e rfl (wpAny_pure ?_)))
 refine wpAny_bind (wpAny_of_eq ((sliceIndices_raw (some (a:Int)) (some (c:Int)) none its.toArray.size (by simp)).trans (congrArg (pure:Int×Int×Int->Sem (Int×Int×Int)) (Zcr hac (by rw [List.size_toArray];exact hc)))) ?_)
 refine wpAny_bind (wpAny_rule ?_)
 have key:∀(F:Array Value->Array Value),F its.toArray=(its.take a++its.drop c).toArray -> ∀(g:Sem Fin),(∀s',Q () s'->wpAny (model prog w) A.in1 g (fun fin s'=>∃v,fin = .done (.ret v)/\Q () s') E s') ->
   wpAny (model prog w) A.in1 (Builtin.List.listUpdate (.ref l) F >>= fun _=>g) (fun fin s'=>∃v,fin = .done (.ret v)/\Q () s') E s:=fun F hF g hg=>by
  show wpAny (model prog w) A.in1 (updateSeq l F >>= fun _=>g) _ E s
  refine wpAny_bind (wpAny_updateSeq (hz:=by rw [List.size_toArray];exact hsz) (_hz':=?_) e rfl (hg _ (h F hF)))
  rw [hF,List.size_toArray,List.length_append,List.length_take,List.length_drop]
  lia
 refine key _ ?_ _ ?_
 ·refine congrArg List.toArray ((congrArg (fun f=>List.filterMap f its.zipIdx) (funext fun p=>?_)).trans (Zhs a c hac its 0))
  obtain ⟨x,k⟩:=p
  show (if (if (1:Int)>0 then decide ((a:Int)<=(k:Int))&&decide ((k:Int)<(c:Int))&&(((k:Int)-(a:Int)) % 1==0) else _)=true then none else some x)=if (a<=k/\k<c) then none else some x
  rw [if_pos (show (1:Int)>0 by decide)]
  have e0:((k:Int)-(a:Int)) % 1=0:=Int.emod_one _
  by_cases h1:a<=k/\k<c
  ·rw [if_pos h1,if_pos (by rw [e0];simp;lia)]
  ·rw [if_neg h1,if_neg (by rw [e0];simp;lia)]
 ·intro s' hq
  exact wpAny_bind (wpAny_letGo (wpAny_pure ⟨.none,rfl,hq⟩))
end
section
variable {X:Cx}
def Zm7 (to:TE) (tl th:TO):TS:=fun D σ H=>to σ H fun x H1=>tl σ H1 fun lo H2=>th σ H2 fun hi H3=>∃(l:Addr) (xs:List V) (a c:Int),x = .ref l/\lo=some a/\hi=some c/\H3 l=some (.lst xs)/\0<=a/\a<=c/\c<=xs.length/\D.nx σ (upd H3 l (.lst (xs.take a.toNat++xs.drop c.toNat)))
theorem ZkI {o:Expr}{lo hi:Option Expr}{to:TE}{tl th:TO}{p2 p3 pos:Pos} (ho:PE X o to) (hl:PO X lo tl) (hu:PO X hi th):PS X (.Delete [.Subscript o (.Slice lo hi none p2) p3] pos) (Zm7 to tl th):=by
 intro pins s σ H D I h
 refine wpAny_Delete (wpAny_deleteEach_cons ?_)
 rw [arm_delete_Subscript]
 refine wpAny_bind (YB (ho pins s σ H _ I h) fun ov s1 ⟨x,H1,I1,r1,q1⟩=>?_)
 refine wpAny_bind (wpAny_holding (wpAny_Slice (YB (hl pins s1 σ H1 _ I1 q1) fun vl s2 ⟨l',H2,I2,pl,q2⟩=>YB (hu pins s2 σ H2 _ I2 q2) fun vu s3 ⟨u',H3,I3,pu,q3⟩=>?_)))
 rw [evalPart_none]
 refine wpAny_pure ?_
 have I4:Inv X pins σ H3 { s3 with heap:=s3.heap.push { cls:=.type "slice", data:=.fields #[vl,vu,.none] } }:=I3.kept (t':=s3.toks) fun b ob q=>Heap.get?_push_of_some _ q
 obtain ⟨l,xs,a,c,rfl,rfl,rfl,hx,h0,hac,hc,q⟩:=q3
 cases r1
 obtain ⟨z,its,n,r,hlen,e⟩:=I4.lstM hx
 obtain ⟨a',rfl⟩:=Int.eq_ofNat_of_zero_le h0
 obtain ⟨c',rfl⟩:=Int.eq_ofNat_of_zero_le (Int.le_trans h0 hac)
 simp only [Int.toNat_natCast] at q
 refine wpAny_bind (wpAny_standAt (wpAny_bind (wpAny_holding (Zdx (a:=a') (c:=c') e (Heap.IsSliceOf.new ..) pl pu (by lia) (by lia) (by lia) fun f hf=>?_))))
 refine wpAny_release (wpAny_deleteEach_nil ?_)
 refine ⟨σ,_,I4.lset (its':=its.take a'++its.drop c') (t':=s3.toks) hx e hf (Vals.append (r.take _) (r.drop _)) ?_,q⟩
 rw [List.length_append,List.length_take,List.length_drop]
 lia
end
theorem Zep {K:PySem.W.Frag}{a:Addr}{xs:List V}{g:TG}{tb:TS}{D:Ends} {σ:St}{H:Hp} (Pv:Nat->St->Hp->Prop) (h0:Pv 0 σ H) (hl:∀i σ H,i<=xs.length->Pv i σ H->Zo K H a xs)
  (hs:∀i x p σ H,xs[i]? = some x->Pv i σ H->H p=none->g (.ref p) σ (upd H p (.tup [.int i,x])) fun σ2 H2=>tb { D with nx:=Pv (i+1),ct:=Pv (i+1),bk:=D.nx } σ2 H2) (hd:∀ σ H,Pv xs.length σ H->D.nx σ H):
  ∃W:Nat->Nat->St->Hp->Prop,(∃m,W 0 m σ H) /\ ∀i m σ H,W i m σ H ->
   ((Ite K a).stop i H/\D.nx σ H)∨((Ite K a).go i H /\ ∃N:St->Hp->Prop,(∀ σ' H',N σ' H' -> ∃m',m'<m/\W (i+1) m' σ' H') /\ ∀x H',(Ite K a).yld i H x H'->g x σ H' fun σ2 H2=>tb { D with nx:=N,ct:=N,bk:=D.nx } σ2 H2):=by
 refine ⟨fun i m σ H=>m=xs.length-i/\i<=xs.length/\Pv i σ H,⟨xs.length,by simp,Nat.zero_le _,h0⟩,?_⟩
 rintro i m σ H ⟨rfl,hi,p⟩
 have q:=hl i σ H hi p
 by_cases hlt:i<xs.length
 ·refine .inr ⟨⟨xs,xs[i],q,by simp [hlt]⟩,Pv (i+1),fun σ' H' p'=>⟨xs.length-(i+1),by lia,rfl,hlt,p'⟩,fun x H' y=>?_⟩
  obtain ⟨r,z,e1,e2,e3,y⟩:=y
  subst e1 e3
  exact hs i z r σ _ (y xs q) p e2
 ·have e:i=xs.length:=by lia
  subst e
  exact .inl ⟨⟨xs,q,Nat.le_refl _⟩,hd σ H p⟩
def swp (r:List Int) (k:Nat):List Int:=(r.set k (r.getD (k+1) 0)).set (k+1) (r.getD k 0)
def stp (s:List Int×Int) (p:Str×Int):List Int×Int:=
 if p.1 = "born" then (s.1.take p.2.toNat ++ [s.2,s.2+1]++s.1.drop p.2.toNat,s.2+2) else if p.1 = "cross" then (swp s.1 p.2.toNat,s.2) else (s.1.take p.2.toNat++s.1.drop (p.2.toNat+2),s.2)
def rb (ls:List (Str×Int)):List Int×Int:=ls.foldl stp ([],0)
theorem ZA (ls:List (Str×Int)) (p:Str×Int):rb (ls ++ [p])=stp (rb ls) p:=by
 unfold rb
 rw [List.foldl_append]
 rfl
theorem Yj {s:List Int×Int}{k:Int}:stp s ("born", k)=(s.1.take k.toNat ++ [s.2,s.2+1]++s.1.drop k.toNat,s.2+2):=if_pos rfl
theorem nb1:¬(("cross" : Str) = "born"):=by decide +kernel
theorem nb2:¬(("end" : Str) = "born"):=by decide +kernel
theorem nb3:¬(("end" : Str) = "cross"):=by decide +kernel
theorem Z3 {s:List Int×Int}{k:Int}:stp s ("cross", k)=(swp s.1 k.toNat,s.2):=(if_neg nb1).trans (if_pos rfl)
theorem YG {s:List Int×Int}{k:Int}:stp s ("end", k)=(s.1.take k.toNat++s.1.drop (k.toNat+2),s.2):=(if_neg nb2).trans (if_neg nb3)
theorem Wk.nonneg {ls:List (Str×Int)}{n:Int} (h:Wk ls n):0<=n:=by
 induction h with
 | nil=>decide
 | born _ _ _ ih=>lia
 | cross _ _ _ ih=>lia
 | fin _ _ _ ih=>lia
theorem YQ {ls:List (Str×Int)}{n:Int} (h:Wk ls n):((rb ls).1.length:Int)=n:=by
 induction h with
 | nil=>rfl
 | born h h0 h1 ih=>
  rw [ZA,Yj]
  simp only [List.length_append,List.length_take,List.length_drop,List.length_cons,List.length_nil]
  lia
 | cross h h0 h1 ih=>
  rw [ZA,Z3]
  simp only [swp,List.length_set]
  exact ih
 | fin h h0 h1 ih=>
  rw [ZA,YG]
  simp only [List.length_append,List.length_take,List.length_drop]
  lia
theorem ZcN {α:Type}{a b:List α}{x y:α} (h:a ++ [x]=b ++ [y]):a=b/\x=y:=by
 have h1:=List.append_inj' h rfl
 exact ⟨h1.1,by simpa using h1.2⟩
theorem Zi3 {l:List (Str×Int)}{p:Str×Int}{m:Int} (h:Wk (l ++ [p]) m):∃n,Wk l n/\((p.1 = "born" /\ 0<=p.2/\p.2<=n)∨(p.1 = "cross" /\ 0<=p.2/\p.2+1<n)∨(p.1 = "end" /\ 0<=p.2/\p.2+1<n)):=by
 generalize hq:l ++ [p]=q at h
 cases h with
 | nil=>exact absurd hq (by simp)
 | born h h0 h1=>obtain ⟨rfl,rfl⟩:=ZcN hq;exact ⟨_,h,.inl ⟨rfl,h0,h1⟩⟩
 | cross h h0 h1=>obtain ⟨rfl,rfl⟩:=ZcN hq;exact ⟨_,h,.inr (.inl ⟨rfl,h0,h1⟩)⟩
 | fin h h0 h1=>obtain ⟨rfl,rfl⟩:=ZcN hq;exact ⟨_,h,.inr (.inr ⟨rfl,h0,h1⟩)⟩
theorem YS {ls:List (Str×Int)}{n:Int} (h:Wk ls n):∀i,∃m,Wk (ls.take i) m:=by
 induction h with
 | nil=>intro i;exact ⟨0,by simpa using Wk.nil⟩
 | @born l n k h h0 h1 ih=>
  intro i
  by_cases hi:i<=l.length
  ·rw [List.take_append_of_le_length hi];exact ih i
  ·rw [List.take_of_length_le (by rw [List.length_append,List.length_singleton];lia)];exact ⟨_,Wk.born h h0 h1⟩
 | @cross l n k h h0 h1 ih=>
  intro i
  by_cases hi:i<=l.length
  ·rw [List.take_append_of_le_length hi];exact ih i
  ·rw [List.take_of_length_le (by rw [List.length_append,List.length_singleton];lia)];exact ⟨_,Wk.cross h h0 h1⟩
 | @fin l n k h h0 h1 ih=>
  intro i
  by_cases hi:i<=l.length
  ·rw [List.take_append_of_le_length hi];exact ih i
  ·rw [List.take_of_length_le (by rw [List.length_append,List.length_singleton];lia)];exact ⟨_,Wk.fin h h0 h1⟩
theorem ZfL {ls:List (Str×Int)}{n:Int} (h:Wk ls n) {i:Nat}{p:Str×Int} (hp:ls[i]? = some p):
  ls.take (i+1)=ls.take i ++ [p]/\((p.1 = "born" /\ 0<=p.2/\p.2<=((rb (ls.take i)).1.length:Int))∨(p.1 = "cross" /\ 0<=p.2/\p.2+1<((rb (ls.take i)).1.length:Int))∨(p.1 = "end" /\ 0<=p.2/\p.2+1<((rb (ls.take i)).1.length:Int))):=by
 have e:ls.take (i+1)=ls.take i ++ [p]:=by rw [List.take_add_one,hp];rfl
 refine ⟨e,?_⟩
 obtain ⟨m,hm⟩:=YS h (i+1)
 rw [e] at hm
 obtain ⟨n',hn,c⟩:=Zi3 hm
 rw [YQ hn]
 exact c
def ZV (H:Hp) (xs:List V) (rs:List (List Int)):Prop:=Paired (fun x (r:List Int)=>∃t,x=V.ref t/\H t=some (.lst (r.map V.int))) xs rs
theorem ZV.mono {H H':Hp} (h:∀t o,V.ref t∈xs->H t=some o->H' t=some o) {rs:List (List Int)} (r:ZV H xs rs):ZV H' xs rs:=by
 unfold ZV at *
 induction r with
 | nil=>exact .nil
 | cons a t ih=>
  obtain ⟨q,e,hq⟩:=a
  subst e
  exact .cons ⟨q,rfl,h q _ List.mem_cons_self hq⟩ (ih fun t o ht=>h t o (List.mem_cons_of_mem _ ht))
def rowsOf (ls:List (Str×Int)) (i:Nat):List (List Int):=(List.range i).map fun j=>(rb (ls.take j)).1
theorem WV (ls:List (Str×Int)) (i:Nat):rowsOf ls (i+1)=rowsOf ls i ++ [(rb (ls.take i)).1]:=by
 unfold rowsOf
 rw [List.range_succ,List.map_append]
 rfl
theorem ZV.mem {H:Hp}{xs:List V}{rs:List (List Int)} (r:ZV H xs rs) {t:Addr} (h:V.ref t∈xs):∃q:List Int,H t=some (.lst (q.map V.int)):=by
 unfold ZV at r
 induction r with
 | nil=>cases h
 | cons a _ ih=>
  obtain ⟨q,e,hq⟩:=a
  rcases List.mem_cons.mp h with z | z
  ·rw [e] at z
   have:t=q:=V.ref.inj z
   subst this
   exact ⟨_,hq⟩
  ·exact ih z
theorem ZV.last {H:Hp}{rs:List (List Int)}{r:List Int}:∀{xs:List V} , ZV H xs (rs ++ [r]) -> ∃ys t,xs=ys ++ [V.ref t]/\H t=some (.lst (r.map V.int)):=by
 induction rs with
 | nil=>
  intro xs h
  cases h with
  | cons a b=>
   cases b
   obtain ⟨t,e,q⟩:=a
   exact ⟨[],t,by rw [e];rfl,q⟩
 | cons q rs ih=>
  intro xs h
  cases h with
  | @cons x _ l _ a b=>
   obtain ⟨ys,t,e,q⟩:=ih b
   exact ⟨x::ys,t,by rw [e];rfl,q⟩
theorem ZV.snoc {H:Hp}{xs:List V}{rs:List (List Int)}{t:Addr}{r:List Int} (h:ZV H xs rs) (e:H t=some (.lst (r.map V.int))):ZV H (xs ++ [.ref t]) (rs ++ [r]):=Paired.snoc h ⟨t,rfl,e⟩
theorem ZV.len {H:Hp}{xs:List V}{rs:List (List Int)} (h:ZV H xs rs):xs.length=rs.length:=Paired.length h
theorem ZbC {H H' G:Hp}{R w:Addr}{ys:List V}{ls:List (Str×Int)}{i:Nat} (hR:H R=none) (sm:Ze H H') (rv:ZV H' ys (rowsOf ls (i+1))) (ap:∀t,V.ref t∈ys->H t=none/\t≠R) (nd:ys.Nodup) (hw:H' w=none) (hwR:w≠R)
  (k:∀c o,H' c=some o->c≠R->G c=some o) (gw:G w=some (.lst ((rb (ls.take (i+1))).1.map V.int))):
  Ze H G/\ZV G (ys ++ [.ref w]) (rowsOf ls (i+2))/\(∀t,V.ref t∈ys ++ [V.ref w]->H t=none/\t≠R)/\(ys ++ [V.ref w]).Nodup:=by
 refine ⟨fun c o e=>k c o (sm c o e) (Zf e hR),?_,fun t ht=>?_,?_⟩
 ·rw [WV]
  exact ZV.snoc (rv.mono fun t o ht e=>k t o e (ap t ht).2) gw
 ·rcases List.mem_append.mp ht with z | z
  ·exact ap t z
  ·have:t=w:=V.ref.inj (List.mem_singleton.mp z)
   subst this
   exact ⟨sm.free hw,hwR⟩
 ·rw [List.nodup_append]
  refine ⟨nd,by simp,fun a ha b hb=>?_⟩
  rw [List.mem_singleton.mp hb]
  intro z
  subst z
  obtain ⟨q,e⟩:=rv.mem ha
  rw [hw] at e
  cases e
theorem ZhD {ls:List (Str×Int)}{n:Int} (h:Wk ls n):n<=2*(ls.length:Int):=by
 induction h with
 | nil=>decide
 | born _ _ _ ih=>rw [List.length_append,List.length_singleton];lia
 | cross _ _ _ ih=>rw [List.length_append,List.length_singleton];lia
 | fin _ _ _ ih=>rw [List.length_append,List.length_singleton];lia
theorem JU {n j:Nat} (h:j<n):ixN n (j:Int)=some j:=by
 unfold ixN
 rw [if_pos (by lia),if_pos (by lia)]
 simp
theorem Zlj (r:List Int) (k:Nat):((r.map V.int).set k (V.int (r.getD (k+1) 0))).set (k+1) (V.int (r.getD k 0))=(swp r k).map V.int:=by
 unfold swp
 rw [List.map_set,List.map_set]
theorem map_getD (r:List Int) {k:Nat} (h:k<r.length):(r.map V.int)[k]? = some (V.int (r.getD k 0)):=by
 rw [List.getElem?_map]
 simp [h]
def Zd1:Sp:=fun vs H Q _=>∃(l:Addr) (xs:List V) (ls:List (Str×Int)),vs = [.ref l]/\H l=some (.lst xs)/\Zs H xs ls/\ls.length<=60/\Wk ls 0 /\ ∀(p:Addr) (H':Hp) (ys:List V),H p=none->Ze H H'->H' p=some (.lst ys)->ZV H' ys (rowsOf ls (ls.length+1))->(∀t,V.ref t∈ys->H t=none/\t≠p)->ys.Nodup->Q (.ref p) H'
section
variable {κ:Type} [DecidableEq κ]
def U7 (kvs:List (κ × V)) (k:κ):Option V:=(kvs.find? fun kv=>decide (kv.1=k)).map (·.2)
def putK (kvs:List (κ × V)) (k:κ) (v:V):List (κ × V):=
 if (kvs.any fun kv=>decide (kv.1=k))=true then kvs.map (fun kv=>if kv.1=k then (kv.1,v) else kv) else kvs ++ [(k,v)]
def ZcA (kvs:List (κ × V)) (k:κ):List (κ × V):=kvs.filter fun kv=>decide (kv.1≠k)
theorem ZaM {p:κ × V}{r:List (κ × V)}{k:κ} (e:p.1=k):U7 (p::r) k=some p.2:=by simp [U7,List.find?_cons,e]
theorem ZaJ {p:κ × V}{r:List (κ × V)}{k:κ} (e:¬p.1=k):U7 (p::r) k=U7 r k:=by simp [U7,List.find?_cons,e]
theorem Zcs (k:κ):∀kvs:List (κ × V),(kvs.any fun kv=>decide (kv.1=k))=(U7 kvs k).isSome
 | []=>rfl
 | p::r=>by
  rw [List.any_cons]
  by_cases e:p.1=k
  ·simp only [ZaM e,decide_eq_true e,Bool.true_or,Option.isSome_some]
  ·rw [ZaJ e,decide_eq_false e,Bool.false_or];exact Zcs k r
theorem ZbP (kvs:List (κ × V)) (k:κ) (v:V):(putK kvs k v).length<=kvs.length+1:=by
 unfold putK
 split
 ·rw [List.length_map];lia
 ·rw [List.length_append,List.length_cons,List.length_nil];lia
theorem Zdr.isSome_eq {o:Option V}{u:Option Value} (r:Zdr o u):o.isSome=u.isSome:=by
 cases o with
 | none=>cases u with
  | none=>rfl
  | some _=>exact (show False from r).elim
 | some _=>cases u with
  | none=>exact (show False from r).elim
  | some _=>rfl
theorem KV.val {kvs:List (κ × V)}{vs:List (κ × Value)} (r:KV kvs vs) (k:κ):Zdr (U7 kvs k) (valueAt vs k):=by
 unfold KV at r
 induction r with
 | nil=>exact True.intro
 | @cons p q ps qs h t ih=>
  obtain ⟨h1,h2⟩:=h
  by_cases e:p.1=k
  ·have e':q.1=k:=h1.symm.trans e
   have b:valueAt (q::qs) k=some q.2:=by simp [valueAt,List.find?_cons,e']
   rw [ZaM e,b];exact h2
  ·have e':¬q.1=k:=fun z=>e (h1.trans z)
   have b:valueAt (q::qs) k=valueAt qs k:=by simp [valueAt,List.find?_cons,e']
   rw [ZaJ e,b];exact ih
theorem KV.any {kvs:List (κ × V)}{vs:List (κ × Value)} (r:KV kvs vs) (k:κ):(kvs.any fun kv=>decide (kv.1=k))=vs.any fun kv=>decide (kv.1=k):=by
 unfold KV at r
 induction r with
 | nil=>rfl
 | cons h t ih=>rw [List.any_cons,List.any_cons,ih,h.1]
theorem KV.repl {kvs:List (κ × V)}{vs:List (κ × Value)} (r:KV kvs vs) (k:κ) {y:V}{u:Value} (ry:RelV y u):
  KV (kvs.map fun kv=>if kv.1=k then (kv.1,y) else kv) (vs.map fun kv=>if kv.1=k then (kv.1,u) else kv):=by
 unfold KV at r ⊢
 induction r with
 | nil=>exact .nil
 | @cons p q ps qs h t ih=>
  rw [List.map_cons,List.map_cons]
  refine .cons ?_ ih
  obtain ⟨h1,h2⟩:=h
  by_cases e:p.1=k
  ·rw [if_pos e,if_pos (h1.symm.trans e)];exact ⟨h1,ry⟩
  ·rw [if_neg e,if_neg (fun z=>e (h1.trans z))];exact ⟨h1,h2⟩
theorem KV.put {kvs:List (κ × V)}{vs:List (κ × Value)} (r:KV kvs vs) (k:κ) {y:V}{u:Value} (ry:RelV y u):KV (putK kvs k y) (stored vs k u):=by
 unfold putK stored
 rw [r.any k]
 by_cases e:(vs.any fun kv=>decide (kv.1=k))=true
 ·rw [if_pos e,if_pos e];exact r.repl k ry
 ·rw [if_neg e,if_neg e];exact Paired.snoc r ⟨rfl,ry⟩
theorem KV.length {kvs:List (κ × V)}{vs:List (κ × Value)} (r:KV kvs vs):kvs.length=vs.length:=Paired.length r
theorem Zje (kvs:List (κ × V)) (k:κ):(ZcA kvs k).length<=kvs.length:=List.length_filter_le _ _
end
theorem ZjB {P:Program}{w:World}{k:Key}{u:Value} (r:RelV (kV k) u):(YD P w).is k u=true:=by
 cases k with
 | inl i=>obtain ⟨t,e⟩:=(show ∃t,u=Value.int i t from r);subst e;exact Ze6 P w i t
 | inr x=>obtain ⟨t,e⟩:=(show ∃t,u=Value.str x t from r);subst e;exact ZfJ P w x t
theorem ZdA {P:Program}{w:World}:∀{ks:List Key}{us:List Value},Vals (ks.map kV) us->ItemsAre (YD P w) ks us
 | [],_,r=>by rw [List.map_nil] at r;cases r;exact .nil
 | k::ks,_,r=>by
  rw [List.map_cons] at r
  cases r with
  | cons h t=>exact .cons (ZjB h) (ZdA t)
abbrev KT (H:Hp):List (List Key×V)->List (List Key×Addr×Value)->Prop:=Paired fun p q=>p.1=q.1/\H q.2.1=some (.tup (p.1.map kV))/\RelV p.2 q.2.2
theorem KT.val {H:Hp}{kvs:List (List Key×V)}{xs:List (List Key×Addr×Value)} (r:KT H kvs xs) (k:List Key):Zdr (U7 kvs k) ((atKey xs k).map (·.2)):=by
 induction r with
 | nil=>exact True.intro
 | @cons p q ps qs h t ih=>
  obtain ⟨h1,_,h2⟩:=h
  by_cases e:p.1=k
  ·have e':q.1=k:=h1.symm.trans e
   have b:atKey (q::qs) k=some q.2:=by simp [atKey,List.find?_cons,e']
   rw [ZaM e,b];exact h2
  ·have e':¬q.1=k:=fun z=>e (h1.trans z)
   have b:atKey (q::qs) k=atKey qs k:=by simp [atKey,List.find?_cons,e']
   rw [ZaJ e,b];exact ih
theorem KT.repl {H:Hp}{kvs:List (List Key×V)}{xs:List (List Key×Addr×Value)} (r:KT H kvs xs) (k:List Key) {y:V}{u:Value} (ry:RelV y u):
  KT H (kvs.map fun kv=>if kv.1=k then (kv.1,y) else kv) (xs.map (putAt k u)):=by
 induction r with
 | nil=>exact .nil
 | @cons p q ps qs h t ih=>
  rw [List.map_cons,List.map_cons]
  refine .cons ?_ ih
  obtain ⟨h1,h2,h3⟩:=h
  unfold putAt
  by_cases e:p.1=k
  ·rw [if_pos e,if_pos (h1.symm.trans e)];exact ⟨h1,h2,ry⟩
  ·rw [if_neg e,if_neg (fun z=>e (h1.trans z))];exact ⟨h1,h2,h3⟩
theorem KT.put {H:Hp}{kvs:List (List Key×V)}{xs:List (List Key×Addr×Value)} (r:KT H kvs xs) (k:List Key) {b:Addr}{y:V}{u:Value} (hb:H b=some (.tup (k.map kV))) (ry:RelV y u):
  KT H (putK kvs k y) (storedH xs k b u):=by
 have e:(kvs.any fun kv=>decide (kv.1=k))=(atKey xs k).isSome:=by
  rw [Zcs,(r.val k).isSome_eq,Option.isSome_map]
 unfold putK storedH
 rw [e]
 by_cases q:(atKey xs k).isSome=true
 ·rw [if_pos q,if_pos q];exact r.repl k ry
 ·rw [if_neg q,if_neg q];exact Paired.snoc r ⟨rfl,hb,ry⟩
theorem KT.keeps {H H':Hp}{kvs:List (List Key×V)}{xs:List (List Key×Addr×Value)} (r:KT H kvs xs) (ht:∀b ys,H b=some (.tup ys)->H' b=some (.tup ys)):KT H' kvs xs:=
 Paired.mapP r fun _ _ z=>⟨z.1,ht _ _ z.2.1,z.2.2⟩
section
variable {P:Program}{w:World}{H:Hp}{h:Heap}{a:Addr}
theorem Zml {u:HO} (ok:GN P w H h) (e:Rd H a u):Yw P w H h a u:=e.ok ok
theorem Zmn {kvs:List (Key×V)} (ok:GN P w H h) (e:Rd H a (.dK kvs)):kvs.length<=sizeLine/\(a==sysModules)=false /\ ∃vs,KV kvs vs/\h.DictOf (YD P w) a vs:=
 show Yw P w H h a (.dK kvs) from Zml ok e
theorem Zov {kvs:List (Key×V)} (ok:GN P w H h) (e:H a=some (.dK kvs)):kvs.length<=sizeLine/\(a==sysModules)=false /\ ∃vs,KV kvs vs/\h.DictOf (YD P w) a vs:=Zmn ok (.inl e)
theorem ZeE {ks:List Key} (ok:GN P w H h) (e:H a=some (.tup (ks.map kV))):(tupleKind (YD P w)).is h ks a:=by
 obtain ⟨_,its,r,o,h1,h2,n,h3⟩:=(show Yw P w H h a (.tup (ks.map kV)) from ok a _ e)
 exact ⟨o,its.toArray,n,h1,h2,h3,by simpa using ZdA r⟩
theorem Zmb {kvs:List (List Key×V)} (ok:GN P w H h) (e:Rd H a (.dT kvs)):kvs.length<=sizeLine/\(a==sysModules)=false /\
  ∃xs,KT H kvs xs/\h.DictOfH (tupleKind (YD P w)) a xs:=by
 obtain ⟨z,y,xs,r,o,es,ep,h1,h2,h3,h4,h5⟩:=(show Yw P w H h a (.dT kvs) from Zml ok e)
 refine ⟨z,y,xs,r,o,es,ep,h1,h2,h3,h4,fun x hx=>?_,h5⟩
 have all:∀{l:List (List Key×V)}{m:List (List Key×Addr×Value)},KT H l m -> ∀x∈m,(tupleKind (YD P w)).is h x.1 x.2.1:=by
  intro l m q
  induction q with
  | nil=>intro x hx;exact nomatch hx
  | @cons p q ps qs hq t ih=>
   intro x hx
   rcases List.mem_cons.mp hx with e | hx
   ·subst e
    exact ZeE ok (by rw [<- hq.1];exact hq.2.1)
   ·exact ih x hx
 exact all r x hx
theorem Zj9 {kvs:List (List Key×V)} (ok:GN P w H h) (e:H a=some (.dT kvs)):kvs.length<=sizeLine/\(a==sysModules)=false /\
  ∃xs,KT H kvs xs/\h.DictOfH (tupleKind (YD P w)) a xs:=Zmb ok (.inl e)
end
def Zjl (H:Hp) (a:Addr) (y:V) (r:Option V):Prop:=
 (∃kvs k,Rd H a (.dK kvs)/\y=kV k/\r=U7 kvs k) ∨ ∃kvs k b,Rd H a (.dT kvs)/\y = .ref b/\H b=some (.tup (k.map kV))/\r=U7 kvs k
def Zjw (H:Hp) (a:Addr) (y v:V) (H':Hp):Prop:=
 (∃kvs k,H a=some (.dK kvs)/\y=kV k/\kvs.length<sizeLine/\H'=upd H a (.dK (putK kvs k v))) ∨
 ∃kvs k b,H a=some (.dT kvs)/\y = .ref b/\H b=some (.tup (k.map kV))/\kvs.length<sizeLine/\H'=upd H a (.dT (putK kvs k v))
theorem Zjl.t {H:Hp}{a b:Addr}{kvs:List (List Key×V)}{k:List Key} (e:H a=some (.dT kvs)) (eb:H b=some (.tup (k.map kV))):Zjl H a (.ref b) (U7 kvs k):=.inr ⟨kvs,k,b,.inl e,rfl,eb,rfl⟩
theorem Zjw.t {H:Hp}{a b:Addr}{kvs:List (List Key×V)}{k:List Key}{v:V} (e:H a=some (.dT kvs)) (eb:H b=some (.tup (k.map kV))) (hl:kvs.length<sizeLine):
  Zjw H a (.ref b) v (upd H a (.dT (putK kvs k v))):=.inr ⟨kvs,k,b,e,rfl,eb,hl,rfl⟩
section
variable {X:Cx}{pins:List (Addr×Obj)} {σ:St}{H:Hp}{s:Shared}{a:Addr}{y v:V}{u r:Value}{o:Option V}{A:Around}{E:Value->Shared->Prop}
theorem Inv.big (I:Inv X pins σ H s):sysModules<s.heap.objs.size:=by
 have h:mainGlobals<s.heap.objs.size:=(I.mod.glob.keeps I.bk).lt
 exact Nat.lt_trans (by decide) h
theorem Zo0 {Q:Value->Shared->Prop} (hu:A.units+1<cLine) (I:Inv X pins σ H s) (g:Zjl H a y o) (ry:RelV y u) (h:∀s',Inv X pins σ H s'->Q (.bool o.isSome) s'):
  wpAny (model X.prog X.w) A (compareOp .In u (.ref a)) Q E s:=by
 rcases g with ⟨kvs,k,e,ey,l⟩ | ⟨kvs,k,b,e,ey,eb,l⟩
 ·subst ey
  obtain ⟨z,hd,vs,rel,dd⟩:=Zmn I.hok e
  refine wpAny_in_of (ZjB ry) hd dd.mapOf ?_
  rw [<- (rel.val k).isSome_eq,<- l]
  exact h _ (I.tok _)
 ·subst ey
  cases (show u=Value.ref b from ry)
  obtain ⟨z,hd,xs,rel,dd⟩:=Zmb I.hok e
  refine wpAny_in_heap (tupleKind_room_in1 hu) (ZeE I.hok eb) hd dd ?_
  have q:=(rel.val k).isSome_eq
  rw [Option.isSome_map] at q
  rw [<- q,<- l]
  exact h _ (I.tok _)
theorem Zd5 {h':Heap}{t':Nat}{ob:HO} (I:Inv X pins σ H s) (mu:Mut (H a)) (hs:Heap.SameBut a s.heap h') (he:∃q,h'.get? a=some q) (new:Yw X.prog X.w (upd H a ob) h' a ob):
  Inv X pins σ (upd H a ob) { s with heap:=h',toks:=t' }:=
 I.write (x:=a) (e:=a) mu (.inl rfl) (fun b q hb z=>(hs.2 b hb).trans z) he new
theorem ZnN {P:Program}{w:World}{H':Hp}{h':Heap}{kvs:List (Key×V)}{vs:List (Key×Value)} (z:kvs.length<=sizeLine) (hd:(a==sysModules)=false) (rel:KV kvs vs) (dd:h'.DictOf (YD P w) a vs):
  Yw P w H' h' a (.dK kvs):=⟨z,hd,vs,rel,dd⟩
theorem Zis {H':Hp}{Q:Unit->Shared->Prop} (hu:A.units+1<cLine) (I:Inv X pins σ H s) (g:Zjw H a y v H') (ry:RelV y u) (rv:RelV v r) (h:∀s',Inv X pins σ H' s'->Q () s'):
  wpAny (model X.prog X.w) A (setItem (.ref a) u r) Q E s:=by
 rcases g with ⟨kvs,k,e,ey,l,eH⟩ | ⟨kvs,k,b,e,ey,eb,l,eH⟩
 ·subst ey eH
  obtain ⟨z,hd,vs,rel,dd⟩:=Zov I.hok e
  have hz:vs.length<=sizeLine:=by rw [<- rel.length];exact z
  have hl:(putK kvs k v).length<=sizeLine:=by have:=ZbP kvs k v;lia
  refine wpAny_setItem_pairs (hsz:=hz) (ZjB ry) dd fun h' dd' hs=>h _ ?_
  have he:∃q,h'.get? a=some q:=let ⟨q,_,_,hq,_⟩:=dd';⟨q,hq⟩
  exact Zd5 I (by rw [e];exact True.intro) hs he (ZnN hl hd (rel.put k rv) dd')
 ·subst ey eH
  cases (show u=Value.ref b from ry)
  obtain ⟨z,hd,xs,rel,dd⟩:=Zj9 I.hok e
  have hz:xs.length<=sizeLine:=by rw [<- Paired.length rel];exact z
  have hl:(putK kvs k v).length<=sizeLine:=by have:=ZbP kvs k v;lia
  refine wpAny_setItem_heap (hsz:=hz) (tupleKind_room_in1 hu) (ZeE I.hok eb) dd fun h' dd' hs=>h _ ?_
  obtain ⟨q,es,ep,hq,h2,h3,h4,_,h5⟩:=dd'
  refine Zd5 I (by rw [e];exact True.intro) hs ⟨q,hq⟩ ⟨hl,hd,_,(rel.put k eb rv).keeps fun c ys ec=>?_,q,es,ep,hq,h2,h3,h4,h5⟩
  rw [Zj (ZfD ec e (fun z=>nomatch z))]
  exact ec
end
section
variable {X:Cx}{pins:List (Addr×Obj)} {σ:St}{H:Hp}{s:Shared}{a:Addr}{kvs:List (Key×V)}{k:Key}{u:Value}{A:Around}{E:Value->Shared->Prop}
end
def Zpu (ty td:TE):TE:=fun σ H Q=>ty σ H fun y H1=>td σ H1 fun x H2=>∃a o,x = .ref a/\Zjl H2 a y o/\Q (.bl o.isSome) H2
section
variable {X:Cx}{o i e value:Expr}{pos pos' tpos:Pos}{td ty tv:TE}
theorem ZmK (hu:X.A.units+1<cLine) (hi:PE X i ty) (ho:PE X o td):PC X .In i o (Zpu ty td):=by
 intro pins s σ H Q I h
 refine YB (hi pins s σ H _ I h) fun iv s1 ⟨y,H1,I1,ry,q1⟩=>YB (ho pins s1 σ H1 _ I1 q1) fun u s2 ⟨x,H2,I2,rx,a,ov,ex,g,q2⟩=>?_
 subst ex
 obtain rfl:u=Value.ref a:=rx
 exact Zo0 hu I2 g ry fun s3 I3=>⟨.bl ov.isSome,H2,I3,rfl,q2⟩
end
theorem ZjV {P:Program}{w:World}{H:Hp} (h:Heap) (hb:sysModules<h.objs.size):Yw P w H (h.push { cls:=.type "dict", data:=.dict #[] }) h.objs.size (.dT []):=
 ⟨Nat.zero_le _,beq_eq_false_iff_ne.mpr (Ne.symm (Nat.ne_of_lt hb)),[],.nil,_,#[],0,Heap.get?_push_size _ rfl,⟨rfl,rfl,rfl⟩,rfl,rfl,List.nodup_nil⟩
def Znc:TE:=fun _ H Q=>∀p,H p=none->Q (.ref p) (upd H p (.dT []))
section
variable {X:Cx}{pos:Pos}
theorem ZfE:PE X (.Dict [] [] pos) Znc:=fun pins s σ H Q I h=>
 wpAny_Dict_empty ⟨.ref s.heap.objs.size,_,I.laid (a:=s.heap.objs.size) (o:=.dT []) (t':=s.toks) (fun _ _ q=>Heap.get?_push_of_some _ q) (Nat.le_refl _) (ZjV s.heap I.big),rfl,h _ (I.hok.fresh (Nat.le_refl _))⟩
end
theorem Yw.there {P:Program}{w:World}{H:Hp}{h:Heap}{a:Addr}{o:HO} (x:Yw P w H h a o):∃ob,h.get? a=some ob:=by
 cases o with
 | lst xs=>obtain ⟨_,_,_,_,e⟩:=x;exact ⟨_,e⟩
 | tup xs=>obtain ⟨_,_,_,_,e,_⟩:=x;exact ⟨_,e⟩
 | dK kvs=>obtain ⟨_,_,_,_,o,_,_,e,_⟩:=x;exact ⟨_,e⟩
 | dT kvs=>obtain ⟨_,_,_,_,o,_,_,e,_⟩:=x;exact ⟨_,e⟩
 | set S n=>obtain ⟨o,_,_,_,e,_⟩:=x;exact ⟨_,e⟩
 | ins C dx fs=>obtain ⟨_,_,_,e,_⟩:=x;exact ⟨_,e⟩
 | own y=>obtain ⟨_,e⟩:=x;exact ⟨_,e⟩
 | xd fs=>obtain ⟨_,⟨_,_,_,e,_⟩,_⟩:=x;exact ⟨_,e⟩
 | rng lo hi=>obtain ⟨_,_,_,e⟩:=x;exact ⟨_,e⟩
 | frz ob u=>obtain ⟨e,_⟩:=x;exact ⟨_,e⟩
 | tbl ps=>exact ⟨_,x⟩
 | met f y=>exact ⟨_,x⟩
 | ext φ=>obtain ⟨_,⟨_,e⟩,_⟩:=x;exact ⟨_,e⟩
theorem Zjz {h:Heap}{a:Addr}{m m':Str->Option Value} (x:h.Ns a m) (y:h.Ns a m'):m=m':=by
 obtain ⟨o,es,ep,ho,hd,_,hm⟩:=x
 obtain ⟨o',es',ep',ho',hd',_,hm'⟩:=y
 rw [ho] at ho'
 cases ho'
 rw [hd] at hd'
 cases hd'
 exact funext fun n=>(hm n).symm.trans (hm' n)
section
variable {X:Cx}{pins:List (Addr×Obj)} {σ:St}{H:Hp}{s:Shared}
theorem Inv.laidN {h':Heap}{D:Addr}{o:HO}{t':Nat}{m:Str->Option Value} (I:Inv X pins σ H s) (F:Fr X.base X.env.locals s.heap m) (F':Fr X.base X.env.locals h' m)
  (N':News X.base X.env.locals h' (Wc X.base s.heap X.env.locals)) (hD:s.heap.get? D=none) (hn:H D=none) (new:Yw X.prog X.w (upd H D o) h' D o):Inv X pins σ (upd H D o) { s with heap:=h',toks:=t' }:=by
 have kp:∀b u,b≠X.env.locals->s.heap.get? b=some u->h'.get? b=some u:=fun b u hb e=>by
  cases q:X.base.get? b with
  | some v=>
   have e1:=F'.keep b v q
   have e2:=F.keep b v q
   rw [e] at e2
   cases e2
   exact e1
  | none=>exact (N' (b,u) (W9 hb q e)).1
 have neL:∀b u,H b=some u->b≠X.env.locals:=fun b u e z=>by rw [z,I.free] at e;cases e
 refine I.step (g':=s.gens) (d':=s.drawn) (ch:=[]) (fun _ z=>nomatch z) (fun b ob hb _ _ e _=>kp b ob hb e) (fun b ob hb _ _ e _=>⟨ob.slots,kp b ob hb e⟩) (fun b ob _ e n=>?_) (fun b ob _ e=>?_) (fun b xs e=>?_) (fun b ob u e=>?_) (fun b ps e=>⟨#[],?_⟩) (fun m' hm=>?_) (fun b u e=>?_) I.bare
 ·rw [Zj (fun z=>by subst z;rw [hD] at e;cases e)]
  exact n
 ·by_cases hb:b=X.env.locals
  ·subst hb
   obtain ⟨ob',_,_,z,_⟩:=F'.ns
   exact ⟨ob',z⟩
  ·exact ⟨ob,kp b ob hb e⟩
 ·rw [Zj (Zf e hn)];exact e
 ·rw [Zj (Zf e hn)];exact e
 ·rw [Zj (Zf e hn),e];simp
 ·rw [Zjz hm F.ns];exact F'.ns
 ·by_cases hb:b=D
  ·subst hb;rw [Zb] at e;cases e;exact new
  ·rw [Zj hb] at e
   refine (I.hok b u e).stay (fun c v hc q=>kp c v ?_ q) (fun c q=>by rw [Zj (Zf q hn)];exact q) fun c xs q=>by rw [Zj (Zf q hn)];exact q
   rcases hc with z | z
   ·subst z;exact neL _ u e
   ·exact neL c _ z
end
section
variable {X:Cx}
def Zom:V->V->V->Hp->(Hp->Prop)->Prop:=fun o i v H Q=>∃a H',o = .ref a/\Zjw H a i v H'/\Q H'
theorem set_dict (hu:X.A.units+1<cLine):Znt X Zom:=by
 intro pins s σ H o i v ov iv u Q I ro ri rv h
 obtain ⟨a,H',rfl,g,q⟩:=h
 cases ro
 exact Zis hu I g ri rv fun s' I'=>⟨H',I',q⟩
end
def evn {α:Type}:List α -> List α
 | []=>[]
 | [x]=>[x]
 | x::_::r=>x::evn r
theorem ZhJ {α:Type}:∀(xs:List α) (i:Nat),(evn xs)[i]? = xs[2*i]?
 | [],i=>by simp [evn]
 | [x],0=>by simp [evn]
 | [x],i+1=>by simp [evn]
 | x::y::r,0=>by simp [evn]
 | x::y::r,i+1=>by
  have:=ZhJ r i
  have e:2*(i+1)=2*i+2:=by lia
  rw [e]
  simpa [evn] using this
theorem Zho {α:Type}:∀(xs:List α),(evn xs).length=(xs.length+1) / 2
 | []=>by simp [evn]
 | [x]=>by simp [evn]
 | x::y::r=>by
  have:=Zho r
  simp only [evn,List.length_cons,this]
  lia
theorem ZiU (its:List Value):slicePick its.toArray none none (some 2)=(evn its).toArray:=by
 unfold slicePick sliceBounds sliceRange
 simp only [Option.getD_some,List.size_toArray]
 rw [if_pos (show (2:Int)>0 by decide),if_pos (show (2:Int)>0 by decide),if_pos (show (2:Int)>0 by decide)]
 congr 1
 have ec:(if (0:Int)<(its.length:Int) then ((its.length:Int)-0+2-1) / 2 else 0).toNat=(its.length+1) / 2:=by
  split<;>lia
 rw [ec]
 apply List.ext_getElem?
 intro i
 rw [ZhJ]
 rw [List.filterMap_map]
 have key:∀n,n<=(its.length+1) / 2->(List.filterMap ((fun (x:Nat)=>its.toArray[x]?) ∘ fun (k:Nat)=>((0:Int)+2*(k:Int)).toNat) (List.range n))=(List.range n).map fun k=>its.getD (2*k) Value.none:=by
  intro n
  induction n with
  | zero=>intro _;rfl
  | succ n ih=>
   intro hn
   rw [List.range_succ,List.filterMap_append,ih (by lia),List.map_append]
   have e:((0:Int)+2*(n:Int)).toNat=2*n:=by lia
   have hl:2*n<its.length:=by lia
   have e':((2:Int)*(n:Int)).toNat=2*n:=by lia
   simp [e',hl,List.filterMap_cons]
 rw [key _ (Nat.le_refl _)]
 by_cases hi:i<(its.length+1) / 2
 ·have hl:2*i<its.length:=by lia
  simp [hi,hl]
 ·have h1:its[2*i]? = none:=List.getElem?_eq_none_iff.mpr (by lia)
  rw [h1]
  exact List.getElem?_eq_none_iff.mpr (by simp;lia)
theorem Vals.evn:∀{xs:List V}{us:List Value},Vals xs us->Vals (L2.evn xs) (L2.evn us)
 | _,_,.nil=>.nil
 | _,_,.cons r .nil=>.cons r .nil
 | _,_,.cons r (.cons _ t)=>.cons r (Vals.evn t)
section
variable {X:Cx}
def Zpf (K:PySem.W.Frag) (te:TE):TE:=fun σ H Q=>te σ H fun x H1=>∃a xs,x = .ref a/\Zo K H1 a xs /\ ∀p,H1 p=none->Q (.ref p) (upd H1 p (.lst (evn xs)))
theorem Zm0 {K:PySem.W.Frag}{e:Expr}{te:TE}{p2 p3 pos:Pos}{j:Nat} (hk:X.K=K) (he:PE X e te):PE X (.Subscript e (.Slice none none (some (.Constant (.int 2) j p3)) p2) pos) (Zpf K te):=by
 subst hk
 intro pins s σ H Q I h
 refine Subscript_ (YB (he pins s σ H _ I h) fun v s1 ⟨x,H1,I1,r1,q1⟩=>?_)
 refine wpAny_Slice ?_
 rw [evalPart_none]
 refine wpAny_pure ?_
 refine wpAny_pure ?_
 rw [evalPart_some]
 refine wpAny_Constant_int ?_
 obtain ⟨a,xs,rfl,hx,q⟩:=q1
 cases r1
 have I2:=I1.tok (s1.toks+1)
 obtain ⟨its,r,ht,hz⟩:=I2.list hx
 have hlen:=r.length
 have I3:Inv X pins σ H1 { s1 with heap:=s1.heap.push { cls:=.type "slice", data:=.fields #[.none,.none,.int 2 s1.toks] },toks:=s1.toks+1 }:=I2.kept (t':=s1.toks+1) fun b ob q=>Heap.get?_push_of_some _ q
 obtain ⟨its,r,ht,hz⟩:=I3.list hx
 have hlen:=r.length
 refine tail_any (ops:=[.ref a,.ref s1.heap.objs.size]) ht.isList.typeIs slot_list_getitem.lookup (Q:=EP X pins σ Q) ?_ (by with_unfolding_all rfl)
 refine wpAny_getItem_list_slice (st:=some 2) ht.isList (Heap.IsSliceOf.new ..) .none .none (.int 2 _) (by decide) ?_ (by rw [List.size_toArray]<;>lia)
 rw [ZiU]
 refine ⟨.ref _,_,I3.laid (t':=s1.toks+1) (o:=.lst (evn xs)) (fun b ob q=>Heap.get?_push_of_some _ q) (Nat.le_refl _) ?_,rfl,q _ (I3.hok.fresh (Nat.le_refl _))⟩
 refine ⟨?_,_,0,r.evn,Heap.get?_push_size _ rfl⟩
 rw [Zho]
 lia
end
def bw (x:Int):Int:=if x % 2=0 then x+1 else x-1
theorem ZdI (x:Int):bw (bw x)=x:=by unfold bw;split<;>split<;>lia
theorem Zn6 (x:Int):bw x≠x:=by unfold bw;split<;>lia
structure Y2 (m:Int->Int) (N:Int):Prop where
 lo:∀x,0<=x->x<N->0<=m x
 hi:∀x,0<=x->x<N->m x<N
 inv:∀x,0<=x->x<N->m (m x)=x
 ne:∀x,0<=x->x<N->m x≠x
 ev:N % 2=0
theorem ZmG {N x:Int} (e:N % 2=0) (h0:0<=x) (h1:x<N):0<=bw x/\bw x<N:=by unfold bw;split<;>lia
def gt (m:Int->Int) (f:Int):Nat->Int
 | 0=>f
 | i+1=>bw (m (gt m f i))
def orb (m:Int->Int) (f:Int):Nat->List Int
 | 0=>[]
 | i+1=>orb m f i ++ [gt m f i,m (gt m f i)]
theorem U3 (m:Int->Int) (f:Int):∀i,(orb m f i).length=2*i
 | 0=>rfl
 | i+1=>by
  simp only [orb,List.length_append,U3 m f i,List.length_cons,List.length_nil]
  lia
theorem Jl {m:Int->Int}{f x:Int}:∀{i:Nat},x∈orb m f i ↔ ∃j,j<i/\(x=gt m f j∨x=m (gt m f j))
 | 0=>by simp [orb]
 | i+1=>by
  simp only [orb,List.mem_append,Jl (i:=i),List.mem_cons,List.not_mem_nil,or_false]
  constructor
  ·rintro (⟨j,h,e⟩ | h)
   ·exact ⟨j,by lia,e⟩
   ·exact ⟨i,by lia,h⟩
  ·rintro ⟨j,h,e⟩
   by_cases hj:j=i
   ·subst hj;exact .inr e
   ·exact .inl ⟨j,by lia,e⟩
section
variable {m:Int->Int}{N f:Int}
theorem Yo (M:Y2 m N) (h0:0<=f) (h1:f<N):∀i,0<=gt m f i/\gt m f i<N
 | 0=>⟨h0,h1⟩
 | i+1=>by
  obtain ⟨a,b⟩:=Yo M h0 h1 i
  exact ZmG M.ev (M.lo _ a b) (M.hi _ a b)
theorem ZkK (M:Y2 m N) (h0:0<=f) (h1:f<N):∀d j,gt m f (j+d)≠m (gt m f j)
 | 0,j=>fun e=>M.ne _ (Yo M h0 h1 j).1 (Yo M h0 h1 j).2 e.symm
 | 1,j=>Zn6 _
 | d+2,j=>fun e=>by
  refine ZkK M h0 h1 d (j+1) ?_
  have e1:bw (m (gt m f (j+d+1)))=m (gt m f j):=e
  have e2:m (gt m f (j+d+1))=bw (m (gt m f j)):=by rw [<- e1,ZdI]
  have e3:gt m f (j+1)=m (gt m f (j+d+1)):=e2.symm
  have dm:=Yo M h0 h1 (j+d+1)
  rw [e3,M.inv _ dm.1 dm.2]
  congr 1
  lia
theorem Zkf (M:Y2 m N) (h0:0<=f) (h1:f<N) (i j:Nat):gt m f i≠m (gt m f j):=by
 by_cases h:j<=i
 ·have:=ZkK M h0 h1 (i-j) j
  rwa [show j+(i-j)=i by lia] at this
 ·intro e
  refine ZkK M h0 h1 (j-i) i ?_
  rw [show i+(j-i)=j by lia,e]
  exact (M.inv _ (Yo M h0 h1 j).1 (Yo M h0 h1 j).2).symm
theorem Zms (M:Y2 m N) {x y:Int} (hx:0<=x/\x<N) (hy:0<=y/\y<N) (e:m x=m y):x=y:=by
 rw [<- M.inv x hx.1 hx.2,e,M.inv y hy.1 hy.2]
theorem Zhx (M:Y2 m N) (h0:0<=f) (h1:f<N):∀j d,gt m f (j+d)=gt m f j->gt m f d=f
 | 0,d,e=>by simpa [gt] using e
 | j+1,d,e=>by
  refine Zhx M h0 h1 j d (Zms M (Yo M h0 h1 _) (Yo M h0 h1 _) ?_)
  have e1:bw (m (gt m f (j+d)))=bw (m (gt m f j)):=by
   have:j+1+d=j+d+1:=by lia
   rw [this] at e
   exact e
  rw [<- ZdI (m (gt m f (j+d))),e1,ZdI]
theorem Zg6 (M:Y2 m N) (h0:0<=f) (h1:f<N) {i j:Nat} (hj:j<i) (e:gt m f i=gt m f j):gt m f (i-j)=f:=by
 refine Zhx M h0 h1 j (i-j) ?_
 rw [show j+(i-j)=i by lia]
 exact e
theorem Zbq (M:Y2 m N) (h0:0<=f) (h1:f<N):∀i,(∀j,1<=j->j<i->gt m f j≠f)->(orb m f i).Nodup
 | 0,_=>by simp [orb]
 | i+1,h=>by
  have ih:=Zbq M h0 h1 i fun j a b=>h j a (by lia)
  show (orb m f i ++ [gt m f i,m (gt m f i)]).Nodup
  rw [List.nodup_append]
  refine ⟨ih,by simp [Zkf M h0 h1 i i],fun a ha b hb=>?_⟩
  obtain ⟨j,hj,e⟩:=Jl.mp ha
  have hb:b=gt m f i∨b=m (gt m f i):=by simpa using hb
  intro z
  subst z
  rcases e with e | e<;>rcases hb with z | z
  ·exact h (i-j) (by lia) (by lia) (Zg6 M h0 h1 hj (z.symm.trans e))
  ·exact Zkf M h0 h1 j i (e.symm.trans z)
  ·exact Zkf M h0 h1 i j (z.symm.trans e)
  ·exact h (i-j) (by lia) (by lia) (Zg6 M h0 h1 hj (Zms M (Yo M h0 h1 _) (Yo M h0 h1 _) (z.symm.trans e)))
theorem ZhV (M:Y2 m N) (h0:0<=f) (h1:f<N) {i:Nat}{x:Int} (hx:x∈orb m f i):0<=x/\x<N:=by
 obtain ⟨j,_,e | e⟩:=Jl.mp hx
 ·rw [e];exact Yo M h0 h1 j
 ·rw [e];exact ⟨M.lo _ (Yo M h0 h1 j).1 (Yo M h0 h1 j).2,M.hi _ (Yo M h0 h1 j).1 (Yo M h0 h1 j).2⟩
theorem W5:∀(n:Nat) (l:List Int),l.Nodup->(∀x∈l,0<=x/\x<(n:Int))->l.length<=n
 | 0,l,_,h=>by
  cases l with
  | nil=>simp
  | cons x _=>have:=h x List.mem_cons_self;lia
 | n+1,l,nd,h=>by
  by_cases hn:(n:Int)∈l
  ·have h1:=W5 n (l.erase (n:Int)) (nd.erase _) fun x hx=>by
    have h2:=(nd.mem_erase_iff).mp hx
    have:=h x h2.2
    have:=h2.1
    lia
   rw [List.length_erase_of_mem hn] at h1
   lia
  ·have h1:=W5 n l nd fun x hx=>by
    have:=h x hx
    have h3:x≠(n:Int):=fun z=>hn (z ▸ hx)
    lia
   lia
theorem Zbz (M:Y2 m N) (h0:0<=f) (h1:f<N) {i:Nat} (h:∀j,1<=j->j<i->gt m f j≠f):2*(i:Int)<=N:=by
 have:=W5 N.toNat (orb m f i) (Zbq M h0 h1 i h) fun x hx=>by
  have:=ZhV M h0 h1 hx
  lia
 rw [U3] at this
 lia
end
def Yt (m:Int->Int) (f:Int) (T:List Int):Prop:=∃L,1<=L/\gt m f L=f/\(∀j,1<=j->j<L->gt m f j≠f)/\T=orb m f L
theorem Yt.uniq {m:Int->Int}{f:Int}{T T':List Int} (a:Yt m f T) (b:Yt m f T'):T=T':=by
 obtain ⟨L,h1,e1,n1,rfl⟩:=a
 obtain ⟨L',h2,e2,n2,rfl⟩:=b
 have:L=L':=by
  rcases Nat.lt_trichotomy L L' with z | z | z
  ·exact absurd e1 (n2 L h1 z)
  ·exact z
  ·exact absurd e2 (n1 L' h2 z)
 rw [this]
theorem Yt.self {m:Int->Int}{f:Int}{T:List Int} (a:Yt m f T):f∈T:=by
 obtain ⟨L,h1,e1,n1,rfl⟩:=a
 exact Jl.mpr ⟨0,by lia,.inl rfl⟩
theorem Yt.dom {m:Int->Int}{N f:Int}{T:List Int} (M:Y2 m N) (h0:0<=f) (h1:f<N) (a:Yt m f T):∀x∈T,0<=x/\x<N:=by
 obtain ⟨L,_,_,_,rfl⟩:=a
 exact fun x hx=>ZhV M h0 h1 hx
theorem Yt.nodup {m:Int->Int}{N f:Int}{T:List Int} (M:Y2 m N) (h0:0<=f) (h1:f<N) (a:Yt m f T):T.Nodup:=by
 obtain ⟨L,_,_,n,rfl⟩:=a
 exact Zbq M h0 h1 L n
theorem Yt.len {m:Int->Int}{N f:Int}{T:List Int} (M:Y2 m N) (h0:0<=f) (h1:f<N) (a:Yt m f T):(T.length:Int)<=N:=by
 obtain ⟨L,_,_,n,rfl⟩:=a
 have:=Zbz M h0 h1 n
 rw [U3]
 lia
theorem Yt.closed {m:Int->Int}{N f:Int}{T:List Int} (M:Y2 m N) (h0:0<=f) (h1:f<N) (a:Yt m f T):∀x∈T,m x∈T/\bw x∈T:=by
 obtain ⟨L,hL,eL,n,rfl⟩:=a
 intro x hx
 obtain ⟨j,hj,e | e⟩:=Jl.mp hx
 ·subst e
  refine ⟨Jl.mpr ⟨j,hj,.inr rfl⟩,?_⟩
  cases j with
  | zero=>
   refine Jl.mpr ⟨L-1,by lia,.inr ?_⟩
   have:gt m f (L-1+1)=f:=by rw [show L-1+1=L by lia];exact eL
   have e2:bw (m (gt m f (L-1)))=f:=this
   show bw f=_
   rw [<- e2,ZdI,e2]
  | succ j=>exact Jl.mpr ⟨j,by lia,.inr (ZdI _)⟩
 ·subst e
  refine ⟨?_,?_⟩
  ·rw [M.inv _ (Yo M h0 h1 j).1 (Yo M h0 h1 j).2]
   exact Jl.mpr ⟨j,hj,.inl rfl⟩
  ·by_cases z:j+1=L
   ·refine Jl.mpr ⟨0,by lia,.inl ?_⟩
    show gt m f (j+1)=f
    rw [z,eL]
   ·exact Jl.mpr ⟨j+1,by lia,.inl rfl⟩
theorem ZbA {m:Int->Int}{N f:Int} (M:Y2 m N) (h0:0<=f) (h1:f<N) {S:List Int} (cl:∀x∈S,m x∈S/\bw x∈S) (hf:f∉S):∀i,gt m f i∉S/\m (gt m f i)∉S
 | 0=>⟨hf,fun h=>hf (by
  have:m (m f)∈S:=(cl _ h).1
  rwa [M.inv _ h0 h1] at this)⟩
 | i+1=>by
  have ih:=ZbA M h0 h1 cl hf i
  have a:gt m f (i+1)∉S:=fun h=>ih.2 (by
   have:=(cl _ h).2
   rwa [show bw (gt m f (i+1))=m (gt m f i) from ZdI _] at this)
  refine ⟨a,fun h=>a ?_⟩
  have:=(cl _ h).1
  rwa [M.inv _ (Yo M h0 h1 (i+1)).1 (Yo M h0 h1 (i+1)).2] at this
inductive WO (m:Int->Int):Nat->List (List Int)->Prop
 | nil:WO m 0 []
 | add {i:Nat}{ts:List (List Int)}{T:List Int}:WO m i ts->(i:Int)∉ts.flatten->Yt m (i:Int) T->WO m (i+1) (ts ++ [T])
 | skip {i:Nat}{ts:List (List Int)}:WO m i ts->(i:Int)∈ts.flatten->WO m (i+1) ts
theorem WO.uniq {m:Int->Int}{i:Nat}{ts:List (List Int)} (a:WO m i ts):∀{ts':List (List Int)},WO m i ts'->ts=ts':=by
 induction a with
 | nil=>intro ts' b;cases b;rfl
 | add a h t ih=>
  intro ts' b
  cases b with
  | add b h' t'=>rw [ih b,t.uniq t']
  | skip b h'=>rw [ih b] at h;exact absurd h' h
 | skip a h ih=>
  intro ts' b
  cases b with
  | add b h' t'=>rw [ih b] at h;exact absurd h h'
  | skip b h'=>exact ih b
theorem WO.mem {m:Int->Int}{i:Nat}{ts:List (List Int)} (a:WO m i ts):∀j:Nat,j<i->(j:Int)∈ts.flatten:=by
 induction a with
 | nil=>intro j hj;lia
 | @add i ts T a h t ih=>
  intro j hj
  rw [List.flatten_append,List.mem_append]
  by_cases e:j=i
  ·subst e;exact .inr (by simpa using t.self)
  ·exact .inl (ih j (by lia))
 | @skip i ts a h ih=>
  intro j hj
  by_cases e:j=i
  ·subst e;exact h
  ·exact ih j (by lia)
theorem WO.good {m:Int->Int}{N:Int} (M:Y2 m N) {i:Nat}{ts:List (List Int)} (a:WO m i ts) (hi:(i:Int)<=N):ts.flatten.Nodup/\(∀x∈ts.flatten,0<=x/\x<N)/\(∀x∈ts.flatten,m x∈ts.flatten/\bw x∈ts.flatten):=by
 induction a with
 | nil=>simp
 | @add i ts T a h t ih=>
  obtain ⟨n,d,c⟩:=ih (by lia)
  have h0:(0:Int)<=(i:Int):=by lia
  have h1:(i:Int)<N:=by lia
  rw [List.flatten_append]
  have e:[T].flatten=T:=by simp
  rw [e]
  refine ⟨?_,fun x hx=>?_,fun x hx=>?_⟩
  ·rw [List.nodup_append]
   refine ⟨n,t.nodup M h0 h1,fun a ha b hb z=>?_⟩
   subst z
   obtain ⟨L,_,_,_,rfl⟩:=t
   obtain ⟨j,_,e | e⟩:=Jl.mp hb
   ·exact (ZbA M h0 h1 c h j).1 (e ▸ ha)
   ·exact (ZbA M h0 h1 c h j).2 (e ▸ ha)
  ·rcases List.mem_append.mp hx with z | z
   ·exact d x z
   ·exact t.dom M h0 h1 x z
  ·rw [List.mem_append,List.mem_append]
   rcases List.mem_append.mp hx with z | z
   ·exact ⟨.inl (c x z).1,.inl (c x z).2⟩
   ·exact ⟨.inr (t.closed M h0 h1 x z).1,.inr (t.closed M h0 h1 x z).2⟩
 | skip a h ih=>exact ih (by lia)
theorem WO.len {m:Int->Int}{N:Int} (M:Y2 m N) {i:Nat}{ts:List (List Int)} (a:WO m i ts) (hi:(i:Int)<=N):ts.length<=i:=by
 induction a with
 | nil=>simp
 | add a h t ih=>have:=ih (by lia);simp;lia
 | skip a h ih=>have:=ih (by lia);lia
def rowAt (ls:List (Str×Int)) (t:Nat):List Int:=(rb (ls.take t)).1
def JK (ls:List (Str×Int)) (t:Nat):Int×Int:=((rowAt ls t).getD ((ls.getD t ("", 0)).2.toNat) 0,(rowAt ls t).getD ((ls.getD t ("", 0)).2.toNat+1) 0)
def isE:Str->Bool:=fun x=>decide (x = "end")
def isC:Str->Bool:=fun x=>decide (x = "cross")
def WR (ls:List (Str×Int)) (i:Nat):List (Int×Int):=(ZU ls isE i).map fun t=>JK ls t.toNat
def ZR (ps:List (Int×Int)):List Int:=ps.flatMap fun p=>[p.1,p.2]
theorem GG (a b:List (Int×Int)):ZR (a++b)=ZR a++ZR b:=by simp [ZR]
theorem U6 (ps:List (Int×Int)):(ZR ps).length=2*ps.length:=by
 induction ps with
 | nil=>rfl
 | cons p r ih=>
  have:ZR (p::r) = [p.1,p.2]++ZR r:=by simp [ZR]
  rw [this,List.length_append,ih]
  simp
  lia
theorem ZdH (ls:List (Str×Int)) (i:Nat):WR ls (i+1)=WR ls i++(if isK ls isE i=true then [JK ls i] else []):=by
 unfold WR
 rw [YN,List.map_append]
 by_cases h:isK ls isE i=true<;>simp [h]
def Zbg (n:Nat):List Int:=(List.range n).map fun (x:Nat)=>(x:Int)
theorem ZjX (n:Nat):Zbg (n+2)=Zbg n ++ [(n:Int),(n:Int)+1]:=by
 unfold Zbg
 rw [List.range_succ,List.range_succ]
 simp
theorem WG {n:Nat}{x:Int}:x∈Zbg n ↔ 0<=x/\x<(n:Int):=by
 unfold Zbg
 rw [List.mem_map]
 constructor
 ·rintro ⟨a,h,rfl⟩
  have:=List.mem_range.mp h
  lia
 ·rintro ⟨h0,h1⟩
  exact ⟨x.toNat,List.mem_range.mpr (by lia),by lia⟩
theorem Zc8 (n:Nat):(Zbg n).Nodup:=by
 unfold Zbg
 rw [List.nodup_iff_pairwise_ne,List.pairwise_map]
 exact (List.nodup_iff_pairwise_ne.mp List.nodup_range).imp fun h e=>h (by lia)
theorem ZaV (n:Nat):(Zbg n).length=n:=by simp [Zbg]
theorem Zni (r:List Int) (k:Nat) (h:k+1<r.length):r=r.take k ++ [r.getD k 0,r.getD (k+1) 0]++r.drop (k+2):=by
 have e1:r.drop k=r[k]::r.drop (k+1):=List.drop_eq_getElem_cons (by lia)
 have e2:r.drop (k+1)=r[k+1]::r.drop (k+2):=List.drop_eq_getElem_cons h
 have e:r.take k++r.drop k=r:=List.take_append_drop k r
 rw [e1,e2] at e
 have h1:r.getD k 0=r[k]:=by simp [show k<r.length by lia]
 have h2:r.getD (k+1) 0=r[k+1]:=by simp [h]
 rw [h1,h2]
 simpa using e.symm
theorem ZaA (r:List Int) (k:Nat) (h:k+1<r.length):swp r k=r.take k ++ [r.getD (k+1) 0,r.getD k 0]++r.drop (k+2):=by
 have hl:(r.take k).length=k:=by rw [List.length_take];lia
 unfold swp
 generalize ha:r.getD k 0=a
 generalize hb:r.getD (k+1) 0=b
 have e:=Zni r k h
 rw [ha,hb] at e
 generalize r.take k=p at e hl ⊢
 generalize r.drop (k+2)=q at e ⊢
 subst e
 rw [List.append_assoc,List.set_append_right _ _ (by lia),hl,List.set_append_right _ _ (by lia),hl]
 simp
theorem WU {ls:List (Str×Int)} (hW:Wk ls 0):∀i,i<=ls.length->0<=(rb (ls.take i)).2/\(rb (ls.take i)).2 % 2=0/\(rowAt ls i++ZR (WR ls i)).Perm (Zbg (rb (ls.take i)).2.toNat)
 | 0,_=>by
  refine ⟨Int.le_refl _,rfl,?_⟩
  exact List.Perm.refl _
 | i+1,hi=>by
  obtain ⟨ih0,ih1,ih⟩:=WU hW i (by lia)
  have hq:ls[i]? = some ls[i]:=by simp [show i<ls.length by lia]
  obtain ⟨tk,c⟩:=ZfL hW hq
  have gd:ls.getD i ("", 0)=ls[i]:=by simp [show i<ls.length by lia]
  unfold rowAt at ih ⊢
  generalize hp:ls[i]=p at *
  obtain ⟨px,pk⟩:=p
  rw [tk,ZA,ZdH]
  have kk:∀pr:Str->Bool,isK ls pr i=pr px:=fun pr=>by
   unfold isK
   rw [hq]
   cases h:pr px<;>simp [h]
  rw [kk]
  rcases c with ⟨e,b0,b1⟩ | ⟨e,b0,b1⟩ | ⟨e,b0,b1⟩
  ·have e:px = "born" := e
   subst e
   rw [Yj]
   have hf:isE "born" = false:=by unfold isE;decide +kernel
   rw [hf]
   simp only [Bool.false_eq_true,if_false,List.append_nil]
   generalize hr:rb (ls.take i)=s at *
   obtain ⟨r,b⟩:=s
   refine ⟨by lia,by lia,?_⟩
   have e2:(b+2).toNat=b.toNat+2:=by lia
   rw [e2,ZjX]
   have e3:((b.toNat:Nat):Int)=b:=by lia
   rw [e3]
   have p1:(r.take pk.toNat ++ [b,b+1]++r.drop pk.toNat).Perm (r ++ [b,b+1]):=by
    rw [List.append_assoc]
    refine (List.Perm.append_left _ List.perm_append_comm).trans ?_
    rw [<- List.append_assoc,List.take_append_drop]
   refine (p1.append_right _).trans ?_
   rw [List.append_assoc]
   refine (List.Perm.append_left _ List.perm_append_comm).trans ?_
   rw [<- List.append_assoc]
   exact ih.append_right _
  ·have e:px = "cross" := e
   subst e
   rw [Z3]
   have hf:isE "cross" = false:=by unfold isE;decide +kernel
   rw [hf]
   simp only [Bool.false_eq_true,if_false,List.append_nil]
   refine ⟨ih0,ih1,?_⟩
   have hk:pk.toNat+1<(rb (ls.take i)).1.length:=by
    have b1:pk+1<_:=b1
    have b0:0<=pk:=b0
    lia
   refine List.Perm.trans ?_ ih
   refine List.Perm.append_right _ ?_
   rw [ZaA _ _ hk]
   conv=>rhs;rw [Zni _ _ hk]
   exact List.Perm.append_right _ (List.Perm.append_left _ (List.Perm.swap _ _ _))
  ·have e:px = "end" := e
   subst e
   rw [YG]
   have hf:isE "end" = true:=by unfold isE;simp
   rw [hf]
   simp only [if_true]
   refine ⟨ih0,ih1,?_⟩
   have hk:pk.toNat+1<(rb (ls.take i)).1.length:=by
    have b1:pk+1<_:=b1
    have b0:0<=pk:=b0
    lia
   refine List.Perm.trans ?_ ih
   rw [GG]
   have pr:ZR [JK ls i] = [(rb (ls.take i)).1.getD pk.toNat 0,(rb (ls.take i)).1.getD (pk.toNat+1) 0]:=by
    unfold JK rowAt
    rw [gd]
    simp [ZR]
   rw [pr]
   conv=>rhs;rw [Zni _ _ hk]
   generalize (rb (ls.take i)).1.take pk.toNat=A
   generalize (rb (ls.take i)).1.drop (pk.toNat+2)=B
   generalize [(rb (ls.take i)).1.getD pk.toNat 0,(rb (ls.take i)).1.getD (pk.toNat+1) 0]=C
   generalize ZR (WR ls i)=F
   rw [List.append_assoc,List.append_assoc,List.append_assoc]
   refine List.Perm.append_left _ ?_
   rw [<- List.append_assoc]
   exact List.perm_append_comm
def YI (ls:List (Str×Int)):List (Int×Int):=WR ls ls.length
def ZZ (ls:List (Str×Int)):Nat:=2*(YI ls).length
theorem Uq {ls:List (Str×Int)} (hW:Wk ls 0):(ZR (YI ls)).Perm (Zbg (ZZ ls)):=by
 obtain ⟨h0,h1,h2⟩:=WU hW ls.length (Nat.le_refl _)
 have e:rowAt ls ls.length = []:=by
  unfold rowAt
  rw [List.take_of_length_le (Nat.le_refl _)]
  have:=YQ hW
  exact List.length_eq_zero_iff.mp (by lia)
 rw [e,List.nil_append] at h2
 have hl:=h2.length_eq
 rw [ZaV,U6] at hl
 show (ZR (WR ls ls.length)).Perm (Zbg (2*(WR ls ls.length).length))
 rw [hl]
 exact h2
def mOf:List (Int×Int)->Int->Int
 | [],_=>0
 | p::r,x=>if x=p.1 then p.2 else if x=p.2 then p.1 else mOf r x
theorem Zbh:∀{ps:List (Int×Int)}{u l:Int},(ZR ps).Nodup->(u,l)∈ps->mOf ps u=l/\mOf ps l=u
 | [],_,_,_,h=>by cases h
 | p::r,u,l,nd,h=>by
  have e:ZR (p::r)=p.1::p.2::ZR r:=by simp [ZR]
  rw [e] at nd
  obtain ⟨n1,nd2⟩:=List.nodup_cons.mp nd
  obtain ⟨n2,nd3⟩:=List.nodup_cons.mp nd2
  rcases List.mem_cons.mp h with z | z
  ·subst z
   refine ⟨by simp [mOf],?_⟩
   have:l≠u:=fun z=>n1 (by simp [z])
   simp [mOf,this]
  ·have m1:u∈ZR r:=List.mem_flatMap.mpr ⟨(u,l),z,by simp⟩
   have m2:l∈ZR r:=List.mem_flatMap.mpr ⟨(u,l),z,by simp⟩
   have ih:=Zbh nd3 z
   have a1:u≠p.1:=fun z=>n1 (List.mem_cons_of_mem _ (z ▸ m1))
   have a2:u≠p.2:=fun z=>n2 (z ▸ m1)
   have a3:l≠p.1:=fun z=>n1 (List.mem_cons_of_mem _ (z ▸ m2))
   have a4:l≠p.2:=fun z=>n2 (z ▸ m2)
   simp only [mOf,a1,a2,a3,a4,if_false]
   exact ih
theorem ZcW {ps:List (Int×Int)} (nd:(ZR ps).Nodup) {u l:Int} (h:(u,l)∈ps):u≠l:=by
 induction ps with
 | nil=>cases h
 | cons p r ih=>
  have e:ZR (p::r)=p.1::p.2::ZR r:=by simp [ZR]
  rw [e] at nd
  obtain ⟨n1,nd2⟩:=List.nodup_cons.mp nd
  obtain ⟨n2,nd3⟩:=List.nodup_cons.mp nd2
  rcases List.mem_cons.mp h with z | z
  ·subst z;intro z;exact n1 (by simp [z])
  ·exact ih nd3 z
theorem Yh {ls:List (Str×Int)} (hW:Wk ls 0):Y2 (mOf (YI ls)) (ZZ ls):=by
 have pm:=Uq hW
 have nd:(ZR (YI ls)).Nodup:=pm.nodup_iff.mpr (Zc8 _)
 have get:∀x:Int,0<=x->x<(ZZ ls:Int) -> ∃u l,(u,l)∈YI ls/\(x=u∨x=l):=fun x h0 h1=>by
  have:x∈ZR (YI ls):=pm.mem_iff.mpr (WG.mpr ⟨h0,h1⟩)
  obtain ⟨p,hp,hx⟩:=List.mem_flatMap.mp this
  exact ⟨p.1,p.2,hp,by simpa using hx⟩
 have dom:∀u l,(u,l)∈YI ls->(0<=u/\u<(ZZ ls:Int))/\(0<=l/\l<(ZZ ls:Int)):=fun u l h=>
  ⟨WG.mp (pm.mem_iff.mp (List.mem_flatMap.mpr ⟨(u,l),h,by simp⟩)),WG.mp (pm.mem_iff.mp (List.mem_flatMap.mpr ⟨(u,l),h,by simp⟩))⟩
 refine ⟨fun x h0 h1=>?_,fun x h0 h1=>?_,fun x h0 h1=>?_,fun x h0 h1=>?_,by unfold ZZ;lia⟩
 all_goals
  obtain ⟨u,l,hm,rfl | rfl⟩:=get x h0 h1
  all_goals
   obtain ⟨a,b⟩:=Zbh nd hm
   obtain ⟨d1,d2⟩:=dom _ _ hm
   have ne:=ZcW nd hm
   first
    | (rw [a];exact d2.1)
    | (rw [b];exact d1.1)
    | (rw [a];exact d2.2)
    | (rw [b];exact d1.2)
    | (rw [a,b])
    | (rw [b,a])
    | (rw [a];exact Ne.symm ne)
    | (rw [b];exact ne)
theorem ZmO {x:Int} (h:0<=x):Builtin.bitXor x 1=bw x:=by
 obtain ⟨n,rfl⟩:=Int.eq_ofNat_of_zero_le h
 unfold bw
 have ho:Builtin.bitOr (n:Int) 1=((n ||| 1:Nat):Int):=by
  have e1:decide (0<=Builtin.bitNot (n:Int))=false:=by unfold Builtin.bitNot;rw [decide_eq_false_iff_not];lia
  have e2:decide (0<=Builtin.bitNot (1:Int))=false:=by decide
  have e3:(Builtin.bitNot (Builtin.bitNot (n:Int))).toNat=n:=by unfold Builtin.bitNot;lia
  have e4:(Builtin.bitNot (Builtin.bitNot (1:Int))).toNat=1:=by decide
  unfold Builtin.bitOr Builtin.bitAnd
  rw [e1,e2]
  simp only [e3,e4]
  unfold Builtin.bitNot
  lia
 have ha:Builtin.bitAnd (n:Int) 1=((n &&& 1:Nat):Int):=by
  unfold Builtin.bitAnd
  simp
 unfold Builtin.bitXor
 rw [ho,ha]
 have h1:n &&& 1=n % 2:=Nat.and_one_is_mod n
 have h2:n ||| 1=n+1-n % 2:=by
  have d:(n ||| 1) / 2=n / 2:=by rw [Nat.or_div_two];simp
  have m:(n ||| 1) % 2=1:=Nat.or_mod_two_eq_one.mpr (.inr rfl)
  lia
 rw [h1,h2]
 split<;>lia
section
variable {X:Cx}
end
def Jd (H:Hp) (ys:List V) (ps:List (Int×Int)):Prop:=Paired (fun v (p:Int×Int)=>∃a,v=V.ref a/\H a=some (.tup [.int p.1,.int p.2])) ys ps
theorem Jd.mono {H H':Hp} (h:∀t p,H t=some (.tup p)->H' t=some (.tup p)):∀{xs:List V}{ps:List (Int×Int)},Jd H xs ps->Jd H' xs ps
 | _,_,.nil=>.nil
 | _,_,.cons ⟨t,e,q⟩ r=>.cons ⟨t,e,h t _ q⟩ (Jd.mono h r)
theorem Jd.len {H:Hp}{xs:List V}{ps:List (Int×Int)} (h:Jd H xs ps):xs.length=ps.length:=Paired.length h
theorem Jd.get {H:Hp}:∀{xs:List V}{ps:List (Int×Int)}{i:Nat}{x:V},Jd H xs ps->xs[i]? = some x -> ∃p t,ps[i]? = some p/\x = .ref t/\H t=some (.tup [.int p.1,.int p.2])
 | _,_,_,_,.nil,e=>by simp at e
 | _,_,0,_,.cons ⟨t,e1,q⟩ _,e=>by simp at e;subst e;exact ⟨_,t,rfl,e1,q⟩
 | _,_,i+1,x,.cons _ r,e=>by
  obtain ⟨p,t,h1,h2⟩:=Jd.get (i:=i) (x:=x) r (by simpa using e)
  exact ⟨p,t,by simpa using h1,h2⟩
theorem Jd.snoc {H:Hp}{xs:List V}{ps:List (Int×Int)}{t:Addr}{p:Int×Int} (h:Jd H xs ps) (e:H t=some (.tup [.int p.1,.int p.2])):Jd H (xs ++ [.ref t]) (ps ++ [p]):=Paired.snoc h ⟨t,rfl,e⟩
theorem ZV.at {H:Hp}:∀{xs:List V}{rs:List (List Int)}{i:Nat}{r:List Int},ZV H xs rs->rs[i]? = some r -> ∃p,xs[i]? = some (.ref p)/\H p=some (.lst (r.map V.int))
 | _,_,_,_,.nil,e=>by simp at e
 | _,_,0,_,.cons ⟨t,e1,q⟩ _,e=>by simp at e;subst e;exact ⟨t,by simp [e1],q⟩
 | _,_,i+1,r,.cons _ rr,e=>by
  obtain ⟨p,h1,h2⟩:=ZV.at (i:=i) (r:=r) rr (by simpa using e)
  exact ⟨p,by simpa using h1,h2⟩
theorem ZV.atX {H:Hp}:∀{xs:List V}{rs:List (List Int)}{i:Nat}{x:V},ZV H xs rs->xs[i]? = some x -> ∃(p:Addr) (r:List Int),rs[i]? = some r/\x = .ref p/\H p=some (.lst (r.map V.int))
 | _,_,_,_,.nil,e=>by simp at e
 | _,_,0,_,.cons ⟨t,e1,q⟩ _,e=>by simp at e;subst e;exact ⟨t,_,rfl,e1,q⟩
 | _,_,i+1,x,.cons _ r,e=>by
  obtain ⟨p,q,h1,h2⟩:=ZV.atX (i:=i) (x:=x) r (by simpa using e)
  exact ⟨p,q,by simpa using h1,h2⟩
theorem ZV.same {H H':Hp} (s:Ze H H') {xs:List V}{rs:List (List Int)} (h:ZV H xs rs):ZV H' xs rs:=h.mono fun t o _ e=>s t o e
theorem ZdR (ls:List (Str×Int)) {i n:Nat} (h:i<n):(rowsOf ls n)[i]? = some (rowAt ls i):=by
 unfold rowsOf rowAt
 rw [List.getElem?_map]
 simp [h]
theorem ZbH {ls:List (Str×Int)} (hW:Wk ls 0) {t:Nat}{q:Str×Int} (hq:ls[t]? = some q) (hb:q.1 ≠ "born"):0<=q.2/\q.2.toNat+1<(rowAt ls t).length/\JK ls t=((rowAt ls t).getD q.2.toNat 0,(rowAt ls t).getD (q.2.toNat+1) 0):=by
 obtain ⟨_,c⟩:=ZfL hW hq
 have gd:ls.getD t ("", 0)=q:=by simp [hq]
 have e:JK ls t=((rowAt ls t).getD q.2.toNat 0,(rowAt ls t).getD (q.2.toNat+1) 0):=by unfold JK;rw [gd]
 rcases c with ⟨z,_⟩ | ⟨_,b0,b1⟩ | ⟨_,b0,b1⟩
 ·exact absurd z hb
 ·exact ⟨b0,by unfold rowAt;lia,e⟩
 ·exact ⟨b0,by unfold rowAt;lia,e⟩
theorem Yc {ns:List Int}{i:Nat}{x:V} (h:(ns.map V.int)[i]? = some x):∃t,ns[i]? = some t/\x=V.int t:=by
 rw [List.getElem?_map] at h
 cases e:ns[i]? with
 | none=>rw [e] at h;cases h
 | some z=>rw [e] at h;exact ⟨z,rfl,(Option.some.inj h).symm⟩
theorem Yu {α β:Type}{ns:List α}{i:Nat}{t:α} (f:α -> β) (h:ns[i]? = some t):(ns.take (i+1)).map f=(ns.take i).map f ++ [f t]:=by
 rw [List.take_add_one,h]
 simp
theorem ZcG {ls:List (Str×Int)}{pr:Str->Bool}{n:Nat}{x:Int} (h:x∈ZU ls pr n):0<=x/\x.toNat<n /\ ∃q,ls[x.toNat]? = some q/\pr q.1=true:=by
 unfold ZU at h
 obtain ⟨i,hi,e⟩:=List.mem_filterMap.mp h
 have hi':=List.mem_range.mp hi
 by_cases hk:isK ls pr i=true
 ·rw [if_pos hk] at e
  have e:(i:Int)=x:=Option.some.inj e
  subst e
  refine ⟨by lia,by simpa using hi',?_⟩
  unfold isK at hk
  cases hq:ls[i]? with
  | none=>rw [hq] at hk;cases hk
  | some q=>
   rw [hq] at hk
   refine ⟨q,by simpa using hq,by simpa using hk⟩
 ·rw [if_neg hk] at e;cases e
theorem Jv {ls:List (Str×Int)} (hl:ls.length<=60):ZZ ls<=120:=by
 unfold ZZ YI WR
 rw [List.length_map]
 have:=Jk ls isE ls.length
 lia
section
variable {X:Cx}{pins:List (Addr×Obj)} {σ:St}{H:Hp}{s:Shared}
theorem Inv.keptN {h':Heap}{t':Nat}{m:Str->Option Value} (I:Inv X pins σ H s) (F:Fr X.base X.env.locals s.heap m) (F':Fr X.base X.env.locals h' m)
  (N':News X.base X.env.locals h' (Wc X.base s.heap X.env.locals)):Inv X pins σ H { s with heap:=h',toks:=t' }:=by
 have kp:∀b u,b≠X.env.locals->s.heap.get? b=some u->h'.get? b=some u:=fun b u hb e=>by
  cases q:X.base.get? b with
  | some v=>
   have e1:=F'.keep b v q
   have e2:=F.keep b v q
   rw [e] at e2
   cases e2
   exact e1
  | none=>exact (N' (b,u) (W9 hb q e)).1
 have neL:∀b u,H b=some u->b≠X.env.locals:=fun b u e z=>by rw [z,I.free] at e;cases e
 refine I.step (g':=s.gens) (d':=s.drawn) (ch:=[]) (fun _ z=>nomatch z) (fun b ob hb _ _ e _=>kp b ob hb e) (fun b ob hb _ _ e _=>⟨ob.slots,kp b ob hb e⟩) (fun b ob _ e n=>n) (fun b ob _ e=>?_) (fun b xs e=>e) (fun b ob u e=>e) (fun b ps e=>⟨#[],by rw [e];simp⟩) (fun m' hm=>?_) (fun b u e=>?_) I.bare
 ·by_cases hb:b=X.env.locals
  ·subst hb
   obtain ⟨ob',_,_,z,_⟩:=F'.ns
   exact ⟨ob',z⟩
  ·exact ⟨ob,kp b ob hb e⟩
 ·rw [Zjz hm F.ns];exact F'.ns
 ·refine (I.hok b u e).stay (fun c v hc q=>kp c v ?_ q) (fun c q=>q) fun c xs q=>q
  rcases hc with z | z
  ·subst z;exact neL _ u e
  ·exact neL c _ z
end
section
variable {X:Cx}
theorem ZjO (hc:X.calm=true):JM X (.builtin "sum") (fun xs H Q=>∃(p:Addr) (ns:List Int),xs = [.ref p]/\Zo X.K H p (ns.map V.int)/\Q (.int ns.sum) H):=by
 intro pins s σ H xs us Q I r h
 obtain ⟨p,ns,rfl,hq,q⟩:=h
 obtain ⟨u,rfl,ru⟩:=r.one
 cases ru
 obtain ⟨its,rv,pl,hz⟩:=I.list hq
 obtain ⟨m,fr⟩:=I.fr
 refine LSm.sum_ints fr (news:=Wc X.base s.heap X.env.locals) Zcn (I.ok.hd hc) pl.isList (JD rv) fun h' tk t' fr' nw'=>?_
 exact ⟨.int ns.sum,H,I.keptN fr fr' nw',⟨t',rfl⟩,q⟩
theorem Zie {K:PySem.W.Frag} (h:X.K=K) (hc:X.calm=true):JM X (.builtin "sum") (fun xs H Q=>∃(p:Addr) (ns:List Int),xs = [.ref p]/\Zo K H p (ns.map V.int)/\Q (.int ns.sum) H):=h ▸ ZjO hc
end
theorem ZkZ {x:Int} (h:0<=x):Builtin.bitAnd x 1=x % 2:=by
 obtain ⟨n,rfl⟩:=Int.eq_ofNat_of_zero_le h
 have ha:Builtin.bitAnd (n:Int) 1=((n &&& 1:Nat):Int):=by
  unfold Builtin.bitAnd
  simp
 rw [ha,Nat.and_one_is_mod]
 lia
end L2
namespace L2
open PySem PySem.Spec PyProof.Rows PyProof.V
def Itz (K:PySem.W.Frag) (a b:Addr):It:=
  ⟨fun i H=>∃xs ys x y,Zo K H a xs/\Zo K H b ys/\xs[i]? = some x/\ys[i]? = some y,
   fun i H v H'=>∃p x y,v = .ref p/\H p=none/\H'=upd H p (.tup [x,y])/\(∀xs,Zo K H a xs->xs[i]? = some x)/\(∀ys,Zo K H b ys->ys[i]? = some y),
   fun i H=>∃xs ys,Zo K H a xs/\Zo K H b ys/\(xs.length<=i∨ys.length<=i)⟩
theorem Zi5 {P:Program}{w:World}{K:PySem.W.Frag}{es:List Expr}{k:Nat}{pos:Pos} (a b z TI TO i1 i2:Addr) (ap:ZipApart z TI TO i1 i2 a b):
  Turn P w K (.Tuple es k pos) (Itz K a b) [z,TI,TO,i1,i2] z (fun i h=>IsZip h z TI TO .none/\IsPair h TI (.ref i1) (.ref i2)/\(∃u v,IsPair h TO u v)/\h.IsListIter i1 a i/\h.IsListIter i2 b i) where
 mem:=by simp
 obj:=fun i h st c hc=>by
  obtain ⟨h1,h2,⟨u,v,h3⟩,⟨o1,ho1,c1,d1⟩,⟨o2,ho2,c2,d2⟩⟩:=st
  simp only [List.mem_cons,List.not_mem_nil,or_false] at hc
  rcases hc with e | e | e | e | e
  ·subst e;exact ⟨_,h1,fun v z=>by have z':Data.fields _=Data.cell v:=z;cases z'⟩
  ·subst e;exact ⟨_,h2,fun v z=>by have z':Data.seq _ _=Data.cell v:=z;cases z'⟩
  ·subst e;exact ⟨_,h3,fun v z=>by have z':Data.seq _ _=Data.cell v:=z;cases z'⟩
  ·subst e;exact ⟨o1,ho1,fun v z=>by rw [d1] at z;cases z⟩
  ·subst e;exact ⟨o2,ho2,fun v z=>by rw [d2] at z;cases z⟩
 keep:=fun i h h' st k=>by
  obtain ⟨h1,h2,⟨u,v,h3⟩,h4,h5⟩:=st
  exact ⟨k z (by simp) _ h1,k TI (by simp) _ h2,⟨u,v,k TO (by simp) _ h3⟩,h4.at fun o x=>k i1 (by simp) o x,h5.at fun o x=>k i2 (by simp) o x⟩
 item:=by
  intro X hP hw hK hc i pins s σ H E I hf st hg
  subst hP hw hK
  obtain ⟨xs,ys,x,y,hq1,hq2,hx,hy⟩:=hg
  obtain ⟨its1,rv1,p1,hz1⟩:=I.list hq1
  obtain ⟨its2,rv2,p2,hz2⟩:=I.list hq2
  obtain ⟨u,hu,ru⟩:=rv1.get hx
  obtain ⟨v,hv,rv⟩:=rv2.get hy
  obtain ⟨h1,h2,⟨oa,ob,h3⟩,h4,h5⟩:=st
  refine wpAny_pyNext_zip_item ap h1 h2 h3 h4 h5 p1.isList p2.isList (x:=u) (y:=v) (by simpa using hu) (by simpa using hv) fun h' g1 g2 g3 g4 g5 hsz kk=>⟨_,rfl,?_⟩
  refine wpAny_letOwnedTupleGo_zip (s:={ s with heap:=h' }) g1 fun h'' e1 hs''=>?_
  have lt:∀c ∈ [z,TI,TO,i1,i2],@LT.lt Nat _ c s.heap.objs.size:=fun c hc=>by
   simp only [List.mem_cons,List.not_mem_nil,or_false] at hc
   rcases hc with e | e | e | e | e
   ·subst e;exact aLt h1
   ·subst e;exact aLt h2
   ·subst e;exact aLt h3
   ·subst e;obtain ⟨o,ho,_⟩:=h4;exact aLt ho
   ·subst e;obtain ⟨o,ho,_⟩:=h5;exact aLt ho
  have kk2:∀c o,c≠z->c≠TO->c≠i1->c≠i2->s.heap.get? c=some o->h''.get? c=some o:=fun c o n1 n2 n3 n4 q=>(hs''.2 c n1).trans (kk c o n1 n2 n3 n4 q)
  have nne:∀c o,H c=some o->c≠z/\c≠TO/\c≠i1/\c≠i2:=fun c o q=>by
   refine ⟨fun e=>?_,fun e=>?_,fun e=>?_,fun e=>?_⟩
   ·rw [e,(hf z (by simp)).1] at q;cases q
   ·rw [e,(hf TO (by simp)).1] at q;cases q
   ·rw [e,(hf i1 (by simp)).1] at q;cases q
   ·rw [e,(hf i2 (by simp)).1] at q;cases q
  have fr:H s.heap.objs.size=none:=I.hok.fresh (Nat.le_refl _)
  have hT:h''.get? s.heap.objs.size=some { cls:=.type "tuple", data:=.seq #[u,v] }:=(hs''.2 _ (Nat.ne_of_gt (lt z (by simp)))).trans g5
  have nT:∀c o,s.heap.get? c=some o->c≠s.heap.objs.size:=fun c o q=>Nat.ne_of_lt (aLt q)
  have ok':GN X.prog X.w (upd H s.heap.objs.size (.tup [x,y])) h'':=fun c o q=>by
   by_cases hb:c=s.heap.objs.size
   ·subst hb
    rw [Zb] at q
    cases q
    exact ⟨show 2<=sizeLine by decide,[u,v],.cons ru (.cons rv .nil),⟨_,hT,rfl,_,rfl⟩⟩
   ·rw [Zj hb] at q
    refine (I.hok c o q).stay (fun d v hd r=>?_) (fun d r=>by rw [Zj (Zf r fr)];exact r) fun d xs r=>by rw [Zj (Zf r fr)];exact r
    rcases hd with e | e
    ·subst e
     obtain ⟨n1,n2,n3,n4⟩:=nne d o q
     exact kk2 d v n1 n2 n3 n4 r
    ·obtain ⟨n1,n2,n3,n4⟩:=nne d _ e
     exact kk2 d v n1 n2 n3 n4 r
  have notin:∀c,c ∉ [z,TI,TO,i1,i2]->c≠z/\c≠TO/\c≠i1/\c≠i2:=fun c hc=>by
   simp only [List.mem_cons,List.not_mem_nil,or_false,not_or] at hc
   exact ⟨hc.1,hc.2.2.1,hc.2.2.2.1,hc.2.2.2.2⟩
  have I1:Inv X pins σ (upd H s.heap.objs.size (.tup [x,y])) { s with heap:=h'',gens:=s.gens,drawn:=s.drawn,toks:=s.toks }:=by
   refine I.step (ch:=[z,TI,TO,i1,i2]) (fun c hc=>?_) (fun c o _ _ hc q _=>?_) (fun c o _ _ hc q _=>⟨o.slots,?_⟩)
    (fun c o _ q n=>by rw [Zj (nT c o q)];exact n) (fun c o hc q=>⟨o,?_⟩) (fun c xs q=>by rw [Zj (Zf q fr)];exact q) (fun c o u q=>by rw [Zj (Zf q fr)];exact q)
    (fun c ps q=>⟨#[],by rw [Zj (Zf q fr),q];simp⟩) (fun m hm=>?_) ok' I.bare
   ·obtain ⟨f0,f1,f2,f3,f4,f5⟩:=hf c hc
    exact ⟨f3,f1,f4,f5⟩
   ·obtain ⟨n1,n2,n3,n4⟩:=notin c hc;exact kk2 c o n1 n2 n3 n4 q
   ·obtain ⟨n1,n2,n3,n4⟩:=notin c hc;exact kk2 c o n1 n2 n3 n4 q
   ·obtain ⟨n1,n2,n3,n4⟩:=notin c hc;exact kk2 c o n1 n2 n3 n4 q
   ·obtain ⟨o,es,ep,ho,r⟩:=hm
    exact ⟨o,es,ep,kk2 _ o (Ne.symm (hf z (by simp)).2.1) (Ne.symm (hf TO (by simp)).2.1) (Ne.symm (hf i1 (by simp)).2.1) (Ne.symm (hf i2 (by simp)).2.1) ho,r⟩
  refine ⟨.ref s.heap.objs.size,_,I1,rfl,⟨s.heap.objs.size,x,y,rfl,fr,rfl,fun zs hz=>by rw [I.list_inj hz hq1];exact hx,fun zs hz=>by rw [I.list_inj hz hq2];exact hy⟩,
   ⟨e1,kk2 TI _ ap.TIz ap.TITO ap.TIi1 ap.TIi2 h2,⟨u,v,(hs''.2 TO ap.TOz).trans g2⟩,g3.at fun o q=>(hs''.2 i1 ap.i1z).trans q,g4.at fun o q=>(hs''.2 i2 ap.i2z).trans q⟩,fun c hc=>?_⟩
  rw [Zj (Nat.ne_of_lt (lt c hc))]
  exact (hf c hc).1
 done:=by
  intro X hP hw hK hc i pins s σ H E I hf st hg
  subst hP hw hK
  obtain ⟨xs,ys,hq1,hq2,hx⟩:=hg
  obtain ⟨its1,rv1,p1,hz1⟩:=I.list hq1
  obtain ⟨its2,rv2,p2,hz2⟩:=I.list hq2
  obtain ⟨h1,h2,⟨oa,ob,h3⟩,h4,h5⟩:=st
  have l1:=rv1.length
  have l2:=rv2.length
  refine wpAny_pyNext_zip_end (I.ok.hd hc) ap h1 h2 h3 h4 h5 p1.isList p2.isList (by rcases hx with e | e;exact .inl (by simp;lia);exact .inr (by simp;lia)) fun h' kk=>⟨rfl,?_⟩
  have nne:∀c o,H c=some o->c≠z/\c≠TO/\c≠i1/\c≠i2:=fun c o q=>by
   refine ⟨fun e=>?_,fun e=>?_,fun e=>?_,fun e=>?_⟩
   ·rw [e,(hf z (by simp)).1] at q;cases q
   ·rw [e,(hf TO (by simp)).1] at q;cases q
   ·rw [e,(hf i1 (by simp)).1] at q;cases q
   ·rw [e,(hf i2 (by simp)).1] at q;cases q
  have notin:∀c,c ∉ [z,TI,TO,i1,i2]->c≠z/\c≠TO/\c≠i1/\c≠i2:=fun c hc=>by
   simp only [List.mem_cons,List.not_mem_nil,or_false,not_or] at hc
   exact ⟨hc.1,hc.2.2.1,hc.2.2.2.1,hc.2.2.2.2⟩
  have ok':GN X.prog X.w H h':=fun c o q=>by
   refine (I.hok c o q).stay (fun d v hd r=>?_) (fun d r=>r) fun d xs r=>r
   rcases hd with e | e
   ·subst e
    obtain ⟨n1,n2,n3,n4⟩:=nne d o q
    exact kk d v n1 n2 n3 n4 r
   ·obtain ⟨n1,n2,n3,n4⟩:=nne d _ e
    exact kk d v n1 n2 n3 n4 r
  refine I.step (g':=s.gens) (d':=s.drawn) (t':=s.toks) (ch:=[z,TI,TO,i1,i2]) (fun c hc=>?_) (fun c o _ _ hc q _=>?_) (fun c o _ _ hc q _=>⟨o.slots,?_⟩)
    (fun c o _ q n=>n) (fun c o hc q=>⟨o,?_⟩) (fun c xs q=>q) (fun c o u q=>q) (fun c ps q=>⟨#[],by rw [q];simp⟩) (fun m hm=>?_) ok' I.bare
  ·obtain ⟨f0,f1,f2,f3,f4,f5⟩:=hf c hc
   exact ⟨f3,f1,f4,f5⟩
  ·obtain ⟨n1,n2,n3,n4⟩:=notin c hc;exact kk c o n1 n2 n3 n4 q
  ·obtain ⟨n1,n2,n3,n4⟩:=notin c hc;exact kk c o n1 n2 n3 n4 q
  ·obtain ⟨n1,n2,n3,n4⟩:=notin c hc;exact kk c o n1 n2 n3 n4 q
  ·obtain ⟨o,es,ep,ho,r⟩:=hm
   exact ⟨o,es,ep,kk _ o (Ne.symm (hf z (by simp)).2.1) (Ne.symm (hf TO (by simp)).2.1) (Ne.symm (hf i1 (by simp)).2.1) (Ne.symm (hf i2 (by simp)).2.1) ho,r⟩
 self:=fun _ _ _ _ _ st h=>wpAny_pyIter_zip st.1 h
section
variable {X:Cx}
def Zoh (K:PySem.W.Frag) (ta:TA):TI:=fun σ H R=>ta σ H fun vs H1=>∃a b,vs = [.ref a,.ref b]/\(∃xs,Zo K H1 a xs)/\(∃ys,Zo K H1 b ys)/\R (Itz K a b) H1
theorem ZmF {a b:Expr}{ta:TA}{p pos tpos:Pos}{es:List Expr}{k:Nat} (hg:Gl X "zip") (hm:X.mg "zip" = none) (ha:PA X [a,b] ta) (hs:starEach [a,b] X.env = [(false,eval a X.env),(false,eval b X.env)]:=by rfl) (hs2:starEach [b] X.env = [(false,eval b X.env)]:=by rfl):
  PI X (.Tuple es k tpos) (.Call (.Name "zip" p) [a,b] [] pos) (Zoh X.K ta):=by
 intro pins s σ H R I h
 refine Call_ (Zbk I hg hm boot_zip (PyProof.Rows.callWith_type1 (YB (ha pos pins s σ H _ I h) fun us s1 ⟨vs,H1,I1,r1,q1⟩=>?_) (by rw [hs,hs2]) (by rw [hs2];rfl)))
 obtain ⟨l1,l2,e,⟨xs,hq1⟩,⟨ys,hq2⟩,q⟩:=q1
 subst e
 obtain ⟨u,v,rfl,ru,rv⟩:=r1.two
 cases ru
 cases rv
 obtain ⟨its1,rv1,p1,hz1⟩:=I1.list hq1
 obtain ⟨its2,rv2,p2,hz2⟩:=I1.list hq2
 have L1:@LT.lt Nat _ l1 s1.heap.objs.size:=by obtain ⟨o,ho,_⟩:=p1.isList;exact aLt ho
 have L2:@LT.lt Nat _ l2 s1.heap.objs.size:=by obtain ⟨o,ho,_⟩:=p2.isList;exact aLt ho
 refine call_zip_2 p1.isList p2.isList fun h' g1 g2 g3 g4 g5 hsz kk=>?_
 have I2:Inv X pins σ H1 { s1 with heap:=h' }:=I1.kept (t':=s1.toks) kk
 refine wpAny_pyIter_zip (s:={ s1 with heap:=h' }) g1 ?_
 have ap:ZipApart (s1.heap.objs.size+4) (s1.heap.objs.size+2) (s1.heap.objs.size+3) s1.heap.objs.size (s1.heap.objs.size+1) l1 l2:=by
  constructor<;>(intro e;have e':@Eq Nat _ _:=e;lia)
 refine ⟨_,[s1.heap.objs.size+4,s1.heap.objs.size+2,s1.heap.objs.size+3,s1.heap.objs.size,s1.heap.objs.size+1],_,_,H1,rfl,I2,Zi5 l1 l2 _ _ _ _ _ ap,⟨g1,g2,⟨_,_,g3⟩,g4,g5⟩,fun c hc=>?_,q⟩
 have hb':@LE.le Nat _ s1.heap.objs.size c:=by
  simp only [List.mem_cons,List.not_mem_nil,or_false] at hc
  rcases hc with e | e | e | e | e<;>(subst e;first | exact Nat.le_refl _ | exact Nat.le_add_right _ _)
 exact I1.fpOk hb' (I1.hok.fresh hb')
theorem ZhO {K:PySem.W.Frag}{a b:Expr}{ta:TA}{p pos tpos:Pos}{es:List Expr}{k:Nat} (hk:X.K=K) (hg:Gl X "zip") (hm:X.mg "zip" = none) (ha:PA X [a,b] ta) (hs:starEach [a,b] X.env = [(false,eval a X.env),(false,eval b X.env)]:=by rfl) (hs2:starEach [b] X.env = [(false,eval b X.env)]:=by rfl):
  PI X (.Tuple es k tpos) (.Call (.Name "zip" p) [a,b] [] pos) (Zoh K ta):=hk ▸ ZmF hg hm ha hs hs2
theorem ZjM {K:PySem.W.Frag}{a b:Addr}{xs ys:List V}{g:TG}{tc:TT}{te:TE} {σ:St}{H:Hp}{Q:VK} (hn:xs.length<=sizeLine) (hl:xs.length<=ys.length) (Pv:Nat->List V->Hp->Prop) (h0:Pv 0 [] H) (hlen:∀i zs H,Pv i zs H->zs.length<=i) (hS:∀i zs H,Pv i zs H->Zo K H a xs/\Zo K H b ys)
  (hs:∀i x y p zs H,xs[i]? = some x->ys[i]? = some y->Pv i zs H->H p=none->g (.ref p) σ (upd H p (.tup [x,y])) fun σ2 H2=>tc σ2 H2 fun b H3=>if b=true then te σ2 H3 fun y H4=>Pv (i+1) (zs ++ [y]) H4 else Pv (i+1) zs H3)
  (hd:∀zs H,Pv xs.length zs H -> ∀D,H D=none->Q (.ref D) (upd H D (.lst zs))):LcW (Itz K a b) σ g tc te H Q:=
 Zda hn Pv h0 hlen (fun i zs H hi p=>⟨xs,ys,xs[i],ys[i]'(by lia),(hS i zs H p).1,(hS i zs H p).2,by simp [hi],by simp [show i<ys.length by lia]⟩) (fun zs H p=>⟨xs,ys,(hS _ zs H p).1,(hS _ zs H p).2,.inl (Nat.le_refl _)⟩) (fun i zs H hi p x H' y=>by
  obtain ⟨q,u,v,e1,e2,e3,y1,y2⟩:=y
  subst e1 e3
  exact hs i u v q zs _ (y1 xs (hS i zs _ p).1) (y2 ys (hS i zs _ p).2) p e2) hd
theorem Zig (hc:X.calm=true):JM X (.builtin "max") (fun xs H Q=>∃(p:Addr) (ns:List Int),xs = [.ref p]/\Zo X.K H p (ns.map V.int)/\0<ns.length /\ ∀M:Int,M∈ns->(∀a∈ns,a<=M)->Q (.int M) H):=by
 intro pins s σ H xs us Q I r h
 obtain ⟨p,ns,rfl,hq,hl,q⟩:=h
 obtain ⟨u,rfl,ru⟩:=r.one
 cases ru
 obtain ⟨its,rv,pl,hz⟩:=I.list hq
 obtain ⟨m,fr⟩:=I.fr
 refine max_list_N (I.ok.hd hc) fr (news:=Wc X.base s.heap X.env.locals) Zcn pl.isList (JD rv) hl fun h' M t tk fr' nw' hm hle=>?_
 exact ⟨.int M,H,I.keptN fr fr' nw',⟨t,rfl⟩,q M hm hle⟩
theorem Zgw {K:PySem.W.Frag} (h:X.K=K) (hc:X.calm=true):JM X (.builtin "max") (fun xs H Q=>∃(p:Addr) (ns:List Int),xs = [.ref p]/\Zo K H p (ns.map V.int)/\0<ns.length /\ ∀M:Int,M∈ns->(∀a∈ns,a<=M)->Q (.int M) H):=h ▸ Zig hc
end
end L2
namespace L2
open PySem PySem.Spec PyProof.Rows PyProof.V
section
variable {X:Cx}
end
section
variable {X:Cx}
end
end L2
namespace L2
open PySem PySem.Spec PyProof.Rows PyProof.V
section
variable {prog:Program}{w:World}{A:Around}{E:Value->Shared->Prop}{s:Shared}
end
section
variable {X:Cx}
end
inductive Sim (H:Hp):V->Prop
 | non:Sim H .non
 | bl (b:Bool):Sim H (.bl b)
 | int (i:Int):Sim H (.int i)
 | str (x:Str):Sim H (.str x)
 | lst {a:Addr}{xs:List V} (e:H a=some (.lst xs)):Sim H (.ref a)
 | tup {a:Addr}{xs:List V} (e:H a=some (.tup xs)):Sim H (.ref a)
def isStr:V->Bool
 | .str _=>true
 | _=>false
def isIn:V->Bool
 | .int _=>true
 | _=>false
inductive ZeM (H:Hp):V->Option (Str×Int)->Prop
 | yes {a:Addr}{x:Str}{k:Int} (e:H a=some (.tup [.str x,.int k])):ZeM H (.ref a) (some (x,k))
 | non:ZeM H .non none
 | bl (b:Bool):ZeM H (.bl b) none
 | int (i:Int):ZeM H (.int i) none
 | str (x:Str):ZeM H (.str x) none
 | lst {a:Addr}{xs:List V} (e:H a=some (.lst xs)):ZeM H (.ref a) none
 | len {a:Addr}{xs:List V} (e:H a=some (.tup xs)) (n:xs.length≠2):ZeM H (.ref a) none
 | fst {a:Addr}{u w:V} (e:H a=some (.tup [u,w])) (s:Sim H u) (n:isStr u=false):ZeM H (.ref a) none
 | snd {a:Addr}{x:Str}{w:V} (e:H a=some (.tup [.str x,w])) (s:Sim H w) (n:isIn w=false):ZeM H (.ref a) none
section
variable {env:Env}{r:List Expr}
end
section
variable {X:Cx}{e a b:Expr}{es:List Expr}{te ta tb:TE}{t:TA}{pos:Pos}{st:Stmt}{rest:List Stmt}{ts us:TS}
structure PEc (X:Cx) (e:Expr) (t:TE):Prop where
 out:PE X e t
structure PAc (X:Cx) (es:List Expr) (t:TA):Prop where
 out:PA X es t
structure PSc (X:Cx) (st:Stmt) (t:TS):Prop where
 out:PS X st t
structure ZpY (X:Cx) (st:List Stmt) (t:TS):Prop where
 out:PSs X st t
end
inductive Lit
 | non | bl (b:Bool) | int (i:Int) | str (x:Str) | tup (l:List Lit) | lst (l:List Lit)
mutual
inductive Zf6 (H:Hp):V->Lit->Prop
 | non:Zf6 H .non .non
 | bl (b:Bool):Zf6 H (.bl b) (.bl b)
 | int (i:Int):Zf6 H (.int i) (.int i)
 | str (x:Str):Zf6 H (.str x) (.str x)
 | tup {a:Addr}{xs:List V}{l:List Lit} (e:H a=some (.tup xs)) (r:ZdE H xs l):Zf6 H (.ref a) (.tup l)
 | lst {a:Addr}{xs:List V}{l:List Lit} (e:H a=some (.lst xs)) (r:ZdE H xs l):Zf6 H (.ref a) (.lst l)
inductive ZdE (H:Hp):List V->List Lit->Prop
 | nil:ZdE H [] []
 | cons {v:V}{vs:List V}{l:Lit}{ls:List Lit} (a:Zf6 H v l) (r:ZdE H vs ls):ZdE H (v::vs) (l::ls)
end
section
variable {X:Cx}{G:St->Hp->Prop}{e a b:Expr}{es:List Expr}{pos:Pos}{l:Lit}{ls la lb:List Lit}
def tL (G:St->Hp->Prop) (l:Lit):TE:=fun σ H Q=>G σ H /\ ∀v H',Ze H H'->Zf6 H' v l->Q v H'
def tLs (G:St->Hp->Prop) (l:List Lit):TA:=fun σ H Q=>G σ H /\ ∀v H',Ze H H'->ZdE H' v l->Q v H'
structure PL (X:Cx) (G:St->Hp->Prop) (e:Expr) (l:Lit):Prop where
 out:PE X e (tL G l)
structure PLs (X:Cx) (G:St->Hp->Prop) (es:List Expr) (l:List Lit):Prop where
 out:PA X es (tLs G l)
end
section
variable {X:Cx}{G:St->Hp->Prop}{es:List Expr}{pos:Pos}{ls:List Lit}
end
section
variable {X:Cx}{st:Stmt}{rest:List Stmt}{t u:TS}
end
def Exc (h:Heap) (a T:Addr) (C:Value):Prop:=
 ∃oe vs oT ts,h.get? a=some oe/\oe.cls=C/\oe.data = .fields vs/\vs[1]? = some (.ref T)/\h.get? T=some oT/\oT.data = .fields ts/\ts[3]? = some .none/\T≠a
theorem Exc.ne_dict {h:Heap}{a T b:Addr}{C:Value}{o:Obj} (x:Exc h a T C) (e:h.get? b=some o) (d:∀vs,o.data ≠ .fields vs):b≠a/\b≠T:=by
 obtain ⟨oe,vs,oT,ts,p1,_,p3,_,p5,p6,_,_⟩:=x
 refine ⟨fun z=>?_,fun z=>?_⟩
 ·rw [z,p1] at e;cases e;exact d _ p3
 ·rw [z,p5] at e;cases e;exact d _ p6
theorem Zgk (l:List Env):∀env∈l,∀b,env.frame=some b->b∈J5 l:=fun env he b hb=>List.mem_filterMap.mpr ⟨env,he,hb⟩
section
variable {M:Model}{A:Around}{E:Value->Shared->Prop}{s:Shared}{env:Env}{outer:List Env}{L a T:Addr}{C:Value}{base h:Heap}{Q:Unit->Shared->Prop}
theorem ZgB {args:List Value} (hfr:A.frames=some (env::outer)) (hf:env.frame=some L) (hl:h.FunFrames base (env::outer)) (hx:Heap.MadeExcOf h s.heap a C args)
  (hQ:∀h' T,(∀b o,h.get? b=some o->b∉J5 (env::outer)->h'.get? b=some o)->(∀b o,h.get? b=some o->b∈J5 (env::outer) -> ∃sl,h'.get? b=some { o with slots:=sl }) ->
   Exc h' a T C->h.get? a=none->h.get? T=none->Q () { s with heap:=h' }):wpAny M A (leaving env (.ref a)) Q E s:=by
 have hin:=Zgk (env::outer)
 refine wpAny_leaves_madeW (base:=PySem.W.hideAll h (J5 (env::outer))) hfr hf (fun b o q=>PySem.W.of_hideAll _ q) (PySem.W.funFrames_hide hl hin) hx fun h' t fl _ _ up=>?_
 obtain ⟨st,ea,ff,oe,vs,T,oT,ts,p1,⟨p2,_⟩,p3,p4,p5,p6,p7,p8,p9⟩:=fl
 have slot:∀b o,h.get? b=some o->b∈J5 (env::outer) -> ∃sl,h'.get? b=some { o with slots:=sl }:=fun b o e hb=>by
  obtain ⟨_,o',e',d⟩:=hl.mem hb
  rw [e] at e'
  cases e'
  exact up b o (hx.keeps b o e) d
 refine hQ h' T (fun b o e n=>st b o (PySem.W.hideAll_get _ e n)) slot ⟨oe,vs,oT,ts,p1,p2,p3,p4,p7,p8,p9,p6⟩ hx.new ?_
 cases q:h.get? T with
 | none=>rfl
 | some o=>
  exfalso
  by_cases hb:T∈J5 (env::outer)
  ·obtain ⟨_,o',e',d⟩:=hl.mem hb
   obtain ⟨sl,z⟩:=slot T o' e' hb
   rw [z] at p7
   cases p7
   exact d _ p8
  ·rw [PySem.W.hideAll_get _ q hb] at p5
   cases p5
theorem ZkJ (hfr:A.frames=some (env::outer)) (hf:env.frame=some L) (hl:s.heap.FunFrames base (env::outer)) (hx:Exc s.heap a T C)
  (hQ:∀h' T',(∀b o,s.heap.get? b=some o->b∉J5 (env::outer)->b≠a->b≠T->h'.get? b=some o)->(∀b o,s.heap.get? b=some o->b∈J5 (env::outer) -> ∃sl,h'.get? b=some { o with slots:=sl }) ->
   Exc h' a T' C->(T'=T∨s.heap.get? T'=none)->Q () { s with heap:=h' }):wpAny M A (leaving env (.ref a)) Q E s:=by
 have hin:∀e∈env::outer,∀b,e.frame=some b->b∈a::T::J5 (env::outer):=fun e he b hb=>List.mem_cons_of_mem _ (List.mem_cons_of_mem _ (Zgk _ e he b hb))
 obtain ⟨oe,vs,oT,ts,p1,p2,p3,p4,p5,p6,p7,p8⟩:=id hx
 have hsz:0<vs.size:=Nat.lt_of_le_of_lt (Nat.zero_le _) (Array.getElem?_eq_some_iff.mp p4).1
 have none_a:(PySem.W.hideAll s.heap (a::T::J5 (env::outer))).get? a=none:=PySem.W.hideAll_none _ (List.mem_cons_self)
 have none_T:(PySem.W.hideAll s.heap (a::T::J5 (env::outer))).get? T=none:=PySem.W.hideAll_none _ (List.mem_cons_of_mem _ List.mem_cons_self)
 refine wpAny_leaves_onW (base:=PySem.W.hideAll s.heap (a::T::J5 (env::outer))) (a0:=vs[0]) hfr hf
  ⟨fun b o q=>PySem.W.of_hideAll _ q,none_a,PySem.W.funFrames_hide hl hin,oe,vs,T,oT,ts,p1,⟨p2,Array.getElem?_eq_getElem hsz⟩,p3,p4,none_T,p8,p5,p6,p7⟩ fun h' fl up=>?_
 obtain ⟨st,ea,ff,oe',vs',T',oT',ts',q1,⟨q2,_⟩,q3,q4,q5,q6,q7,q8,q9⟩:=fl
 have slot:∀b o,s.heap.get? b=some o->b∈J5 (env::outer) -> ∃sl,h'.get? b=some { o with slots:=sl }:=fun b o e hb=>by
  obtain ⟨_,o',e',d⟩:=hl.mem hb
  rw [e] at e'
  cases e'
  exact up b o e d
 refine hQ h' T' (fun b o e n na nT=>st b o (PySem.W.hideAll_get _ e fun z=>?_)) slot ⟨oe',vs',oT',ts',q1,q2,q3,q4,q7,q8,q9,q6⟩ ?_
 ·rcases List.mem_cons.mp z with z | z
  ·exact na z
  ·rcases List.mem_cons.mp z with z | z
   ·exact nT z
   ·exact n z
 ·by_cases z:T'=T
  ·exact .inl z
  ·right
   cases q:s.heap.get? T' with
   | none=>rfl
   | some o=>
    exfalso
    by_cases hb:T'∈J5 (env::outer)
    ·obtain ⟨_,o',e',d⟩:=hl.mem hb
     obtain ⟨sl,w⟩:=slot T' o' e' hb
     rw [w] at q7
     cases q7
     exact d _ q8
    ·rw [PySem.W.hideAll_get _ q fun y=>?_] at q5
     ·cases q5
     ·rcases List.mem_cons.mp y with y | y
      ·exact q6 y
      ·rcases List.mem_cons.mp y with y | y
       ·exact z y
       ·exact hb y
end
def CX1 (P:Program) (w:World):CXT:=fun outer H s E e s'=>∃(a T C:Addr) (H':Hp),e = .ref a/\s'.os=s.os/\AllBare s'.gens/\Un (J5 outer) [] H H' s.heap s'.heap/\GN P w H' s'.heap /\
 Exc s'.heap a T (.ref C)/\s.heap.get? a=none/\s.heap.get? T=none/\H' a=none/\H' T=none/\E (.ref C) none H'
section
variable {P:Program}{w:World}{K:PySem.W.Frag}{mg:Str->Option Value}{base:Heap}{N:List Str}{qual:Str}{scope:Scope}{f:Addr}{cd:Value}{A:Around}{outer:List Env}{s₀ s:Shared}{H₀ H:Hp}{E:XK}{CX:CXT}{pins:List (Addr×Obj)} {σ:L2.St}
theorem Zdm {h:Heap}{b:Addr}{o:HO} (ok:GN P w H h) (e:H b=some o):∃ob,h.get? b=some ob:=(ok b o e).there
theorem Y6 {h:Heap}{b:Addr} (ok:GN P w H h) (e:h.get? b=none):H b=none:=by
 cases q:H b with
 | none=>rfl
 | some o=>
  obtain ⟨ob,z⟩:=Zdm ok q
  rw [e] at z
  cases z
theorem ZdN {a T:Addr}{h':Heap} (I:Inv (Wb CX P w K mg base N qual scope f cd A outer s₀ H₀ E) pins σ H s)
  (na:H a=none/\s₀.heap.get? a=none) (nT:H T=none/\s₀.heap.get? T=none)
  (keep:∀b o,s.heap.get? b=some o->b∉J5 (Wb CX P w K mg base N qual scope f cd A outer s₀ H₀ E).stack->b≠a->b≠T->h'.get? b=some o)
  (slot:∀b o,s.heap.get? b=some o->b∈J5 (Wb CX P w K mg base N qual scope f cd A outer s₀ H₀ E).stack -> ∃sl,h'.get? b=some { o with slots:=sl }):
  Un (J5 outer) [] H₀ H s₀.heap h'/\GN P w H h':=by
 have B:Un (J5 outer) [] H₀ H s₀.heap s.heap:=I.base
 have neL:∀b o,s₀.heap.get? b=some o->b∉J5 outer->b∉J5 (Wb CX P w K mg base N qual scope f cd A outer s₀ H₀ E).stack:=fun b o e nb hb=>by
  rcases List.mem_cons.mp (I.stkSub b hb) with z | z
  ·exact absurd (Nat.lt_of_lt_of_le (Heap.lt_size e) I.ok.above) (by rw [z];exact Nat.lt_irrefl _)
  ·exact nb z
 have nea:∀b o,s₀.heap.get? b=some o->b≠a/\b≠T:=fun b o e=>⟨(fun z=>by rw [z,na.2] at e;cases e),(fun z=>by rw [z,nT.2] at e;cases e)⟩
 have any:∀b o,s.heap.get? b=some o->b≠a->b≠T -> ∃o',h'.get? b=some o':=fun b o e z1 z2=>by
  by_cases hb:b∈J5 (Wb CX P w K mg base N qual scope f cd A outer s₀ H₀ E).stack
  ·obtain ⟨sl,q⟩:=slot b o e hb
   exact ⟨_,q⟩
  ·exact ⟨o,keep b o e hb z1 z2⟩
 refine ⟨⟨fun b o e n hb hx=>keep b o (B.keep b o e n hb hx) (neL b o e hb) (nea b o e).1 (nea b o e).2,fun b o e n hb hx=>?_,B.free,fun b o e hx=>?_,B.tups,B.frzs,B.tbls⟩,fun b u e=>?_⟩
 ·obtain ⟨sl,q⟩:=B.slot b o e n hb hx
  obtain ⟨sl',q'⟩:=slot b _ q (by
   show b∈J5 (envOfC qual scope s₀.heap.objs.size f cd::outer)
   unfold J5
   rw [List.filterMap_cons]
   exact List.mem_cons_of_mem _ hb)
  exact ⟨sl',q'⟩
 ·obtain ⟨o',q⟩:=B.there b o e hx
  exact any b o' q (nea b o e).1 (nea b o e).2
 ·refine (I.hok b u e).stay (fun c v hc q=>?_) (fun _ q=>q) fun _ _ q=>q
  have hH:H c≠none:=by
   rcases hc with rfl | z
   ·rw [e];exact fun z=>nomatch z
   ·rw [z];exact fun z=>nomatch z
  exact keep c v q (fun z=>hH (I.stkFree c z)) (fun z=>hH (by rw [z];exact na.1)) (fun z=>hH (by rw [z];exact nT.1))
theorem Jw {b:Addr} (I:Inv (Wb CX P w K mg base N qual scope f cd A outer s₀ H₀ E) pins σ H s) (e:s.heap.get? b=none):s₀.heap.get? b=none:=by
 cases q:s₀.heap.get? b with
 | none=>rfl
 | some o=>
  obtain ⟨o',z⟩:=I.base.there b o q (fun y=>nomatch y)
  rw [e] at z
  cases z
theorem ZlT {a C:Addr}{args:List Value}{h':Heap}{tk:Nat} (I:Inv (Wb (CX1 P w) P w K mg base N qual scope f cd A outer s₀ H₀ E) pins σ H s) (hx:Heap.MadeExcOf s.heap h' a (.ref C) args) (hE:E (.ref C) none H):
  (Wb (CX1 P w) P w K mg base N qual scope f cd A outer s₀ H₀ E).xe (.ref a) { s with heap:=h',toks:=tk }:=by
 refine ZgB (L:=s₀.heap.objs.size) I.ok.frames rfl I.stack (s:={ s with heap:=h',toks:=tk }) hx fun h2 T keep slot ex na nT=>?_
 obtain ⟨u,ok⟩:=ZdN I ⟨Y6 I.hok na,Jw I na⟩ ⟨Y6 I.hok nT,Jw I nT⟩ (fun b o e n _ _=>keep b o e n) slot
 exact ⟨a,T,C,H,rfl,I.os,I.bare,u,ok,ex,Jw I na,Jw I nT,Y6 I.hok na,Y6 I.hok nT,hE⟩
theorem Zmu:Passes (CX1 P w) (Wb (CX1 P w) P w K mg base N qual scope f cd A outer s₀ H₀ E) E:=by
 intro pins σ H s e s' I c
 obtain ⟨a,T,C,H',rfl,os,bare,un,ok,ex,na,nT,ha,hT,hE⟩:=c
 have I':Inv (Wb (CX1 P w) P w K mg base N qual scope f cd A outer s₀ H₀ E) pins σ H' s':=I.call' os un ok bare (fun b z=>nomatch z)
 refine ZkJ (L:=s₀.heap.objs.size) I'.ok.frames rfl I'.stack ex fun h2 T' keep slot ex' oT=>?_
 obtain ⟨u,ok'⟩:=ZdN I' ⟨ha,Jw I na⟩ ⟨hT,Jw I nT⟩ keep slot
 refine ⟨a,T',C,H',rfl,I'.os,I'.bare,u,ok',ex',Jw I na,?_,ha,?_,hE⟩
 ·rcases oT with z | z
  ·rw [z];exact Jw I nT
  ·exact Jw I' z
 ·rcases oT with z | z
  ·rw [z];exact hT
  ·exact Y6 I'.hok z
end
theorem ZjT {K:PySem.W.Frag}{C:Addr}{bmB:List Value}{newId:String}{h:Heap} (KI:K.In h) (hq:PySem.W.excIn K C bmB newId=true):
  ∃bm N nm qn bs hd sn sub ab col dd k0 k1 k2 k3 k5 mN,h.get? C=some (excClassObj nm qn C N bs bm hd sn sub ab col dd k0 k1 k2 k3 k5 newId)/\h.Ns N mN/\mN "__init__" = none/\OwnTail h bmB bm:=by
 unfold PySem.W.excIn at hq
 split at hq
 ·rename_i dd dat slots hob
  split at hq
  ·rename_i C2 tail k0 k1 k2 k3 nid k5 hmro hsl
   simp only [Bool.and_eq_true,Bool.not_eq_true',beq_iff_eq] at hq
   obtain ⟨⟨⟨⟨⟨e1,e2⟩,e3⟩,e4⟩,e5⟩,e6⟩:=hq
   subst e1
   subst e2
   obtain ⟨nm,bs,mro,ns,qn,hd,sn,sub,ab,col,del⟩:=dat
   simp only at hmro e3 e5 e6
   subst hmro
   subst e3
   obtain ⟨sl⟩:=slots
   simp only at hsl
   subst hsl
   exact ⟨tail,ns,nm,qn,bs,hd,sn,sub,ab,col,dd,k0,k1,k2,k3,k5,_,KI _ _ hob,.of_isNs (PySem.W.isNs_of_in KI e5),PySem.W.nsMap_none_of_in KI e5 e6,PySem.W.tail_of_in KI e4⟩
  ·exact nomatch hq
 ·exact nomatch hq
def bmV:List Value:=[.type "ValueError", .type "Exception", .type "BaseException", .type "object"]
def ZmV (C:Addr) (E:XK) (ta:TA):TS:=fun _ σ H=>ta σ H fun vs H1=>vs.length<=sizeLine/\E (.ref C) none H1
section
variable {P:Program}{w:World}{K:PySem.W.Frag}{mg:Str->Option Value}{base:Heap}{N:List Str}{qual:Str}{scope:Scope}{f:Addr}{cd:Value}{A:Around}{outer:List Env}{s₀:Shared}{H₀:Hp}{E:XK}
theorem ZkM {x:Str}{C:Addr}{e:Expr}{es:List Expr}{ta:TA}{np cpos pos:Pos} (hg:Gl (Wb (CX1 P w) P w K mg base N qual scope f cd A outer s₀ H₀ E) x) (hm:mg x=some (.ref C)) (hc:PySem.W.excIn K C bmV "ValueError.__new__" = true)
  (ha:PA (Wb (CX1 P w) P w K mg base N qual scope f cd A outer s₀ H₀ E) (e::es) ta)
  (he:starEach (e::es) (Wb (CX1 P w) P w K mg base N qual scope f cd A outer s₀ H₀ E).env=(false,eval e (Wb (CX1 P w) P w K mg base N qual scope f cd A outer s₀ H₀ E).env)::starEach es (Wb (CX1 P w) P w K mg base N qual scope f cd A outer s₀ H₀ E).env:=by rfl)
  (hp:(backTo cpos (starEach es (Wb (CX1 P w) P w K mg base N qual scope f cd A outer s₀ H₀ E).env)).any (·.1)=false:=by rfl) (hd:(x==("__debug__" : Str))=false:=by decide):
  PS (Wb (CX1 P w) P w K mg base N qual scope f cd A outer s₀ H₀ E) (.Raise (some (.Call (.Name x np) (e::es) [] cpos)) none pos) (ZmV C E ta):=by
 intro pins s σ H D I h
 obtain ⟨bm,NN,nm,qn,bs,hdc,sn,sub,ab,col,dd,k0,k1,k2,k3,k5,mN,hC,hN,hni,T⟩:=ZjT I.mod.kin hc
 have hb:bmV.contains (.type "BaseException")=true:=PySem.F.excBase_ValueError.hasBase
 refine wpAny_Raise_call_subT (C:=C) (nm:=nm) (q:=qn) (N:=NN) (bs:=bs) (bm:=bm) (bmB:=bmV) (hdct:=hdc) (sn:=sn) (sub:=sub) (ab:=ab) (col:=col) (dd:=dd) (k0:=k0) (k1:=k1) (k2:=k2) (k3:=k3) (k5:=k5)
  (newId := "ValueError.__new__") PySem.F.excBase_ValueError (mN:=mN) (T.hasType hb) (I.ok.hd rfl) (by rw [he];show (false||(backTo cpos (starEach es _)).any (·.1))=false;rw [hp];rfl) hni (UX I hg hm ⟨rfl,?_⟩ hd)
 have hz:=ha cpos pins s σ H _ I h
 rw [he] at hz ⊢
 refine Calls.evalArgs_plain (wpAny_mono hz (fun us s2 ⟨vs,H2,I2,rv,hl,hE⟩=>?_) fun _ _ y=>y)
 refine ⟨rfl,by rw [<- rv.length];exact hl,I2.bk _ _ hC,hN.keeps I2.bk,T.keeps I2.bk,fun h' a mk=>?_⟩
 exact ZlT (tk:=s2.toks) I2 mk hE
end
structure ZpP (M:Model) (h:Heap) (C:Addr):Prop where
 ga:PySem.W.Looks M h (typeLookup (.ref C) "__getattribute__") (some (.builtin "BaseException.__getattribute__"))
 ca:PySem.W.Looks M h (typeLookup (.ref C) "__class__") (some (.builtin "object.__class__"))
 ob:PySem.W.Looks M h (isSubtype (.ref C) (.type "object")) true
 be:PySem.W.Looks M h (isSubtype (.ref C) (.type "BaseException")) true
 gn:PySem.W.Looks M h (typeLookup (.ref C) "__getattr__") none
section
variable {prog:Program}{w:World}{A:Around}{E:Value->Shared->Prop}{h:Heap}{g:Array GenState}{d:Drawn}{t:Nat}{os:OsState}{a C:Addr}{o:Obj}
end
section
variable {M:Model}{A:Around}{E:Value->Shared->Prop}{h:Heap}{g:Array GenState}{d:Drawn}{t:Nat}{os:OsState}
variable {nm q nmD qD:Str}{C N D ND:Addr}{bs bm bsD bmD:List Value}{hdct hdD:Bool}{sn snD:List Str}{sub subD:List Value}{ab abD:Bool}{col colD:Option Bool}{dd ddD:Option Addr}{k0 k1 k2 k3 k5 j0 j1 j2 j3 j5:Option Value}{newId newD:String}
theorem ZiS {e:Addr}{oe:Obj}{Q:Bool->Shared->Prop} (hD:h.get? D=some (excClassObj nmD qD D ND bsD bmD hdD snD subD abD colD ddD j0 j1 j2 j3 j5 newD)) (he:h.get? e=some oe) (hcls:oe.cls = .ref C)
  (hbD:bmD.contains (.type "BaseException")=true) (hsub:PySem.W.Looks M h (isSubtype (.ref C) (.ref D)) true) (hq:Q true ⟨h,g,d,t,os⟩):wpAny M A (excMatches (.ref e) (.ref D)) Q E ⟨h,g,d,t,os⟩:=by
 have hcB:(Value.ref D::bmD).contains (.type "BaseException")=true:=by rw [List.contains_cons,hbD,Bool.or_true]
 have f:=tc_notTuple
 unfold excMatches
 repeat (first | (with_reducible refine wpAny_loadPart_at he ?_;rw [hcls]) | with_reducible refine wpAny_loadPart_at hD ?_ | (with_reducible refine wpAny_isSubtype_exc hD ?_;rw [hcB]) | with_reducible refine hsub.at ?_ | wp_step)
 exact hq
end
abbrev Cx.nailed (X:Cx) (pins:List (Addr×Obj)):Cx:={ X with pn:=X.pn++pins }
theorem Cx.Ok.nailed {X:Cx} (ok:X.Ok) (pins:List (Addr×Obj)):(X.nailed pins).Ok:=
 ⟨ok.mod,ok.kind,ok.glob,ok.blt,ok.above,ok.inj,ok.has,ok.cab,ok.hd,ok.frames,ok.stk,ok.exf,ok.bs,ok.bsz,ok.noex,ok.exfs,ok.funs,ok.frf⟩
theorem Cx.Ok.unnailed {X:Cx}{pins:List (Addr×Obj)} (ok:(X.nailed pins).Ok):X.Ok:=
 ⟨ok.mod,ok.kind,ok.glob,ok.blt,ok.above,ok.inj,ok.has,ok.cab,ok.hd,ok.frames,ok.stk,ok.exf,ok.bs,ok.bsz,ok.noex,ok.exfs,ok.funs,ok.frf⟩
section
variable {X:Cx}{pins ps:List (Addr×Obj)} {σ:L2.St}{H:Hp}{s:Shared}
theorem Inv.nail (I:Inv X pins σ H s):Inv (X.nailed pins) [] σ H s:=⟨I.ok.nailed pins,I.os,I.bare,I.base,I.loc,I.cell,I.free,I.freeC,fun p hp=>I.pin p (by simpa using hp),I.hok,I.len⟩
theorem Inv.unnail (I:Inv (X.nailed pins) ps σ H s):Inv X pins σ H s:=⟨I.ok.unnailed,I.os,I.bare,I.base,I.loc,I.cell,I.free,I.freeC,fun p hp=>I.pin p (List.mem_append_left _ hp),I.hok,I.len⟩
theorem Inv.left {a T:Addr}{h':Heap} (I:Inv X pins σ H s) (hex:X.ex = []) (na:H a=none/\X.s₀.heap.get? a=none) (nT:H T=none/\X.s₀.heap.get? T=none)
  (np:∀p∈X.pn++pins,p.1≠a/\p.1≠T) (xc:∃C,Exc s.heap a T C)
  (keep:∀b o,s.heap.get? b=some o->b∉J5 X.stack->b≠a->b≠T->h'.get? b=some o) (slot:∀b o,s.heap.get? b=some o->b∈J5 X.stack -> ∃sl,h'.get? b=some { o with slots:=sl }):
  Inv X pins σ H { s with heap:=h' }:=by
 obtain ⟨C0,xc⟩:=xc
 have up:∀b o,s.heap.get? b=some o->b≠a->b≠T -> ∃sl,h'.get? b=some { o with slots:=sl }:=fun b o e z1 z2=>by
  by_cases hb:b∈J5 X.stack
  ·exact slot b o e hb
  ·exact ⟨o.slots,keep b o e hb z1 z2⟩
 have neL:∀b o,X.s₀.heap.get? b=some o->b∉X.fs->b∉J5 X.stack:=fun b o e nb hb=>by
  rcases List.mem_cons.mp (I.stkSub b hb) with z | z
  ·exact absurd (Nat.lt_of_lt_of_le (Heap.lt_size e) I.ok.above) (by rw [z];exact Nat.lt_irrefl _)
  ·exact nb z
 have nea:∀b o,X.s₀.heap.get? b=some o->b≠a/\b≠T:=fun b o e=>⟨(fun z=>by rw [z,na.2] at e;cases e),(fun z=>by rw [z,nT.2] at e;cases e)⟩
 have cellK:∀c v,s.heap.IsCell c v->h'.IsCell c v:=fun c v ⟨o,e,dt⟩=>by
  have n:=xc.ne_dict e (fun vs z=>by rw [dt] at z;cases z)
  obtain ⟨sl,e'⟩:=up c o e n.1 n.2
  exact ⟨_,e',dt⟩
 refine ⟨I.ok,I.os,I.bare,⟨fun b o e n hb hx=>?_,fun b o e n hb hx=>?_,I.base.free,fun b o e hx=>?_,I.base.tups,I.base.frzs,I.base.tbls⟩,?_,fun x c e=>?_,I.free,I.freeC,fun p hp=>?_,fun b u e=>?_,I.len⟩
 ·exact keep b o (I.base.keep b o e n hb hx) (neL b o e hb) (nea b o e).1 (nea b o e).2
 ·obtain ⟨sl,e1⟩:=I.base.slot b o e n hb hx
  obtain ⟨sl',e2⟩:=up b _ e1 (nea b o e).1 (nea b o e).2
  exact ⟨sl',e2⟩
 ·obtain ⟨o',e1⟩:=I.base.there b o e hx
  obtain ⟨sl,e2⟩:=up b o' e1 (nea b o e).1 (nea b o e).2
  exact ⟨_,e2⟩
 ·obtain ⟨m,⟨o,es,ep,ho,hd,r⟩,hl⟩:=I.loc
  have n:=xc.ne_dict ho (fun vs z=>by rw [hd] at z;cases z)
  obtain ⟨sl,e'⟩:=up _ o ho n.1 n.2
  refine ⟨m,⟨_,es,ep,e',hd,r⟩,fun i x v e1 e2 e3=>?_⟩
  obtain ⟨u,rv,l⟩:=hl i x v e1 e2 e3
  refine ⟨u,rv,?_⟩
  rcases l with l | ⟨k,c,e,z⟩
  ·exact .inl l
  ·exact .inr ⟨k,c,e,cellK c _ z⟩
 ·obtain ⟨v,z⟩:=I.cell x c e
  exact ⟨v,cellK c v z⟩
 ·obtain ⟨e,n,ne,nf,dd⟩:=I.pin p hp
  have nst:p.1∉J5 X.stack:=fun hb=>by
   rcases List.mem_cons.mp (I.stkSub _ hb) with z | z
   ·exact ne z
   ·exact nf z
  exact ⟨keep p.1 p.2 e nst (np p hp).1 (np p hp).2,n,ne,nf,dd⟩
 ·refine (I.hok b u e).stay (fun c v hc q=>?_) (fun _ q=>q) fun _ _ q=>q
  have hH:H c≠none:=by
   rcases hc with rfl | z
   ·rw [e];exact fun z=>nomatch z
   ·rw [z];exact fun z=>nomatch z
  exact keep c v q (fun z=>hH (I.stkFree c z)) (fun z=>hH (by rw [z];exact na.1)) (fun z=>hH (by rw [z];exact nT.1))
theorem looked {M:Model}{E:Value->Shared->Prop}{a T:Addr}{C:Value}{env:Env}{outer:List Env}{L:Addr}{base:Heap}{A:Around}{Q:Unit->Shared->Prop} (hfr:A.frames=some (env::outer)) (hf:env.frame=some L) (hl:s.heap.FunFrames base (env::outer)) (hx:Exc s.heap a T C)
  (hQ:∀h' T',(∀b o,s.heap.get? b=some o->b∉J5 (env::outer)->b≠a->b≠T->h'.get? b=some o)->(∀b o,s.heap.get? b=some o->b∈J5 (env::outer) -> ∃sl,h'.get? b=some { o with slots:=sl }) ->
   Exc h' a T' C->(T'=T∨s.heap.get? T'=none)->Q () { s with heap:=h' }):wpAny M A (noteFrame (.ref a) env) (fun _ s₂=>wpAny M A (setFlight (.ref a) none) Q E s₂) E s:=by
 have hin:∀e∈env::outer,∀b,e.frame=some b->b∈a::T::J5 (env::outer):=fun e he b hb=>List.mem_cons_of_mem _ (List.mem_cons_of_mem _ (Zgk _ e he b hb))
 obtain ⟨oe,vs,oT,ts,p1,p2,p3,p4,p5,p6,p7,p8⟩:=id hx
 have hsz:0<vs.size:=Nat.lt_of_le_of_lt (Nat.zero_le _) (Array.getElem?_eq_some_iff.mp p4).1
 have none_a:(PySem.W.hideAll s.heap (a::T::J5 (env::outer))).get? a=none:=PySem.W.hideAll_none _ (List.mem_cons_self)
 have none_T:(PySem.W.hideAll s.heap (a::T::J5 (env::outer))).get? T=none:=PySem.W.hideAll_none _ (List.mem_cons_of_mem _ List.mem_cons_self)
 refine wpAny_looks_onW (base:=PySem.W.hideAll s.heap (a::T::J5 (env::outer))) (a0:=vs[0]) hfr hf
  ⟨fun b o q=>PySem.W.of_hideAll _ q,none_a,PySem.W.funFrames_hide hl hin,oe,vs,T,oT,ts,p1,⟨p2,Array.getElem?_eq_getElem hsz⟩,p3,p4,none_T,p8,p5,p6,p7⟩ fun h1 held up1=>?_
 refine wpAny_landsW (s:={ s with heap:=h1 }) held fun h' fl up2=>?_
 have up:=up1.trans up2
 obtain ⟨st,ea,ff,oe',vs',T',oT',ts',q1,⟨q2,_⟩,q3,q4,q5,q6,q7,q8,q9⟩:=fl
 have slot:∀b o,s.heap.get? b=some o->b∈J5 (env::outer) -> ∃sl,h'.get? b=some { o with slots:=sl }:=fun b o e hb=>by
  obtain ⟨_,o',e',d⟩:=hl.mem hb
  rw [e] at e'
  cases e'
  exact up b o e d
 refine hQ h' T' (fun b o e n na nT=>st b o (PySem.W.hideAll_get _ e fun z=>?_)) slot ⟨oe',vs',oT',ts',q1,q2,q3,q4,q7,q8,q9,q6⟩ ?_
 ·rcases List.mem_cons.mp z with z | z
  ·exact na z
  ·rcases List.mem_cons.mp z with z | z
   ·exact nT z
   ·exact n z
 ·by_cases z:T'=T
  ·exact .inl z
  ·right
   cases q:s.heap.get? T' with
   | none=>rfl
   | some o=>
    exfalso
    by_cases hb:T'∈J5 (env::outer)
    ·obtain ⟨_,o',e',d⟩:=hl.mem hb
     obtain ⟨sl,w⟩:=slot T' o' e' hb
     rw [w] at q7
     cases q7
     exact d _ q8
    ·rw [PySem.W.hideAll_get _ q fun y=>?_] at q5
     ·cases q5
     ·rcases List.mem_cons.mp y with y | y
      ·exact q6 y
      ·rcases List.mem_cons.mp y with y | y
       ·exact z y
       ·exact hb y
theorem landed {M:Model}{A:Around}{E:Value->Shared->Prop}{a T:Addr}{C:Value}{Q:Unit->Shared->Prop} (hx:Exc s.heap a T C) (hQ:∀h',(∀b o,s.heap.get? b=some o->b≠a->b≠T->h'.get? b=some o)->(∃T',Exc h' a T' C/\(T'=T∨s.heap.get? T'=none))->Q () { s with heap:=h' }):
  wpAny M A (setFlight (.ref a) none) Q E s:=by
 obtain ⟨oe,vs,oT,ts,p1,p2,p3,p4,p5,p6,p7,p8⟩:=id hx
 have hsz:0<vs.size:=Nat.lt_of_le_of_lt (Nat.zero_le _) (Array.getElem?_eq_some_iff.mp p4).1
 have none_T:(PySem.W.hideAll s.heap [a,T]).get? T=none:=PySem.W.hideAll_none _ (List.mem_cons_of_mem _ List.mem_cons_self)
 refine wpAny_setFlight_noneW (base:=PySem.W.hideAll s.heap [a,T]) (l:=[]) (a0:=vs[0]) (fl:=.none) (fun b o q=>PySem.W.of_hideAll _ q) trivial ⟨oe,vs,T,oT,ts,p1,⟨p2,Array.getElem?_eq_getElem hsz⟩,p3,p4,none_T,p8,p5,p6,p7⟩ fun h' st _ tr _=>?_
 obtain ⟨oe',vs',T',oT',ts',q1,⟨q2,_⟩,q3,q4,q5,q6,q7,q8,q9⟩:=tr
 refine hQ h' (fun b o e na nT=>st b o (PySem.W.hideAll_get _ e fun z=>?_)) ⟨T',⟨oe',vs',oT',ts',q1,q2,q3,q4,q7,q8,q9,q6⟩,?_⟩
 ·rcases List.mem_cons.mp z with z | z
  ·exact na z
  ·exact nT (List.mem_singleton.mp z)
 ·by_cases z:T'=T
  ·exact .inl z
  ·right
   cases q:s.heap.get? T' with
   | none=>rfl
   | some o=>
    exfalso
    rw [PySem.W.hideAll_get _ q fun y=>?_] at q5
    ·cases q5
    ·rcases List.mem_cons.mp y with y | y
     ·exact q6 y
     ·exact z (List.mem_singleton.mp y)
end
section
variable {X:Cx}{pins:List (Addr×Obj)} {σ:L2.St}{H:Hp}{s:Shared}{R:Addr->Hp->Prop}
abbrev Cx.suite (X:Cx) (pins:List (Addr×Obj)) (a:Addr):Cx:={ X with pn:=X.pn++pins,A:=X.A.mark (some (.ref a)),calm:=false,xe:=fun _ _=>False }
theorem Cx.Ok.suite {X:Cx} (ok:X.Ok) (pins:List (Addr×Obj)) (a:Addr):(X.suite pins a).Ok:=
 ⟨ok.mod,ok.kind,ok.glob,ok.blt,ok.above,ok.inj,ok.has,ok.cab,(fun z=>nomatch z),ok.frames,ok.stk,ok.exf,ok.bs,ok.bsz,ok.noex,ok.exfs,ok.funs,ok.frf⟩
theorem Inv.suite (I:Inv (X.nailed pins) [] σ H s) (ok:X.Ok) (a:Addr):Inv (X.suite pins a) [] σ H s:=⟨ok.suite pins a,I.os,I.bare,I.base,I.loc,I.cell,I.free,I.freeC,I.pin,I.hok,I.len⟩
theorem Inv.unsuite {a:Addr}{ps:List (Addr×Obj)} (I:Inv (X.suite pins a) ps σ H s) (ok:X.Ok):Inv X pins σ H s:=⟨ok,I.os,I.bare,I.base,I.loc,I.cell,I.free,I.freeC,fun p hp=>I.pin p (List.mem_append_left _ hp),I.hok,I.len⟩
end
section
variable {P:Program}{w:World}{K:PySem.W.Frag}{mg:Str->Option Value}{base:Heap}
theorem Ym.okX {x qual:Str}{st:Stmt}{f:Addr}{fd:FuncData}{N ps:List Str}{k:Nat}{sp:Sp} (F:Ym K x qual st f fd) (S:Zp N ps (Zi st)) (len:∀vs H Q E,sp vs H Q E->vs.length=ps.length)
  (hbody:∀(cdv:Value) (A:Around) (outer:List Env) (s:Shared) (H:Hp) (vs:List V) (Q:VK) (E:XK),JZ k (A.deeper (envOfC qual (Zi st) s.heap.objs.size f cdv))->sp vs H Q E ->
   ∃t,PSs (Wb (CX1 P w) P w K mg base N qual (Zi st) f cdv A outer s H E) (GY st) t/\t { nx:=fun _ H'=>Q .non H',rt:=Q } (start N vs) H):ZX P w K mg base (CX1 P w) (k+1) f fd ps sp:=by
 obtain ⟨oc,od,kV,doc,pm,an,cdv,ct,osl,rfl,lk,hcd⟩:=F.ex
 exact Zmy lk hcd S len fun A outer s H vs Q E hr hsp=>hbody cdv A outer s H vs Q E hr hsp
def Ze3 (P:Program) (w:World) (K:PySem.W.Frag) (mg:Str->Option Value) (base:Heap) (k:Nat) (x:Str) (ps:List Str) (sp:Sp):Prop:=
 ∃(f:Addr) (fd:FuncData),ZX P w K mg base (CX1 P w) k f fd ps sp/\mg x=some (.ref f)/\PySem.W.keepIn K (.ref f)=true/\Binds K fd ps []
theorem Zg7 {X:Cx}{k:Nat}{x:Str}{ps:List Str}{sp:Sp}{p pos:Pos}{e:Expr}{es:List Expr}{t:TA}{E:XK} (h:Ze3 X.prog X.w X.K X.mg X.base k x ps sp) (hr:JZ k X.A) (hx:Passes (CX1 X.prog X.w) X E) (ha:PA X (e::es) t) (hg:Gl X x:=by rfl) (hdb:(x==("__debug__" : Str))=false:=by decide)
  (he:starEach (e::es) X.env=(false,eval e X.env)::starEach es X.env:=by rfl) (hpl:(backTo pos (starEach es X.env)).any (·.1)=false:=by rfl):PE X (.Call (.Name x p) (e::es) [] pos) (Zju sp [] E t):=by
 obtain ⟨f,fd,G,hm,hk,hb⟩:=h
 exact Zh4 G hr hg hm hk hb .nil hx ha hdb he hpl
structure ZoP (k:Nat) (A:Around):Prop where
 dp:A.depth+3*k+5<recursionLimit
 un:A.units+16*k+200<cLine
structure ZpN (P:Program) (w:World) (K:PySem.W.Frag) (mg:Str->Option Value) (base:Heap) (k:Nat) (f:Addr) (fd:FuncData) (ps:List Str) (sp:Sp):Prop where
 len:∀vs H Q E,sp vs H Q E->vs.length=ps.length
 run:∀(A:Around) (outer:List Env) (s:Shared) (H:Hp) (args:Args) (us:List Value) (vs:List V) (Q:VK),ZoP k A->Zi7 P w K mg base A outer s H->BindsTo s fd args (ps.zip us)->Vals vs us->sp vs H Q E0 ->
  codeAny (model P w) A (.call (.ref f) args) (CR J4 outer P w H s Q E0) s
end
structure ZpR (K:PySem.W.Frag) (C:Addr):Prop where
 ga:PySem.W.findIn K (.ref C) "__getattribute__" = some (some (.builtin "BaseException.__getattribute__"))
 gn:PySem.W.findIn K (.ref C) "__getattr__" = some none
 ca:PySem.W.findIn K (.ref C) "__class__" = some (some (.builtin "object.__class__"))
 ob:PySem.W.mroIn K C (.type "object")=some true
 be:PySem.W.mroIn K C (.type "BaseException")=some true
 cl:(PySem.W.clsIn K C).isSome=true
section
variable {X:Cx}{tg:Expr}
end
end L2
namespace L2
open PySem PySem.Spec PyProof.Rows PyProof.V
section
variable {X:Cx}
end
def ZmZ (b:Nat->Bool):List Nat:=(bif b 0 then [0] else [])++((bif b 1 then [1] else [])++((bif b 2 then [2] else [])++(bif b 3 then [3] else [])))
def Zpd (b:Nat->Bool) (led:Bool) (f m:Nat):SetTable:={ mask:=7,place:=(ZmZ b).toArray,dummies:=#[],finger:=f,led:=led,moves:=m,plain:=true }
def EK:Int×Value->Nat->Prop:=fun e k=>e.1=hashInt (k:Int) /\ ∃t,e.2 = .int (k:Int) t
def SO (w:World) (a:Addr) (b:Nat->Bool) (ep:Nat) (es:Array (Int×Value)) (h:Heap):Prop:=
 ∃o led f m,h.get? a=some o/\o.ExactSet/\o.data = .set es ep (Zpd b led f m)/\(w.params.followText "set-order" = true∨led=true)/\Paired EK es.toList (ZmZ b)
section
variable {prog:Program}{w:World}{A:Around}{E:Value->Shared->Prop}{s:Shared}{a:Addr}{b:Nat->Bool}{ep:Nat}{es:Array (Int×Value)}
end
def Zpc (w:World) (a:Addr) (ep:Nat) (es:Array (Int×Value)):Array (Int×Value):=if w.params.followText "set-order" = true then pickOrder (w.params.setOrder a ep) es else es
section
variable {prog:Program}{w:World}{A:Around}{E:Value->Shared->Prop}{s:Shared}{a it:Addr}{b:Nat->Bool}{ep i:Nat}{es:Array (Int×Value)}
end
section
variable {prog:Program}{w:World}{A:Around}{E:Value->Shared->Prop}{s:Shared}{a it:Addr}{b:Nat->Bool}{ep i:Nat}{es:Array (Int×Value)}
structure Wlk (prog:Program) (w:World) (a:Addr) (ep:Nat) (es:Array (Int×Value)) (f:Nat->Nat) (C:Heap->Prop):Prop where
 there:∀{h},C h -> ∃o t,h.get? a=some o/\o.ExactSet/\o.data = .set es ep t/\t.fits es.size=true/\t.plain=true
 kept:∀{h h'},C h->(∀o,h.get? a=some o->h'.get? a=some o)->C h'
 first:f 0=0
 next:∀{A E s i}{Q:Option (Value×Nat)->Shared->Prop},C s.heap->i<=es.size->Q (((Zpc w a ep es)[i]?).map fun e=>(e.2,f (i+1))) s->wpAny (model prog w) A (setNext a (f i) i ep) Q E s
section
variable {f:Nat->Nat}{C:Heap->Prop} (N:Wlk prog w a ep es f C)
include N
end
end
def ZpV (w:World) (a:Addr) (ks:List Nat):HO:=.ext fun h=>∃b ep es,ZmZ b=ks/\SO w a b ep es h
section
variable {X:Cx}
end
def ZlM:Bool->Keyed->Array Keyed->Nat->Nat->Nat->StateT SortSt Sem (Option Nat):=sortPriv% PySem.Builtin.gallop
def Zjt:Array Keyed->Array Keyed->StateT SortSt Sem (Array Keyed):=sortPriv% PySem.Builtin.mergeLo
def Zj1:Array Keyed->Array Keyed->StateT SortSt Sem (Array Keyed):=sortPriv% PySem.Builtin.mergeHi
def ZfU:Nat->StateT SortSt Sem Bool:=sortPriv% PySem.Builtin.mergeAt
structure Wo (lt:Keyed->Keyed->Bool):Prop where
 irr:∀p,lt p p=false
 asym:∀p q,lt p q=true->lt q p=false
 neg:∀p q r,lt p r=true->lt p q=true∨lt q r=true
theorem Wo.leT {lt : Keyed -> Keyed -> Bool} (C : Wo lt) {p q r : Keyed} (h1 : lt q p = false) (h2 : lt r q = false) : lt r p = false := by
  cases h : lt r p with
  | false => rfl
  | true => rcases C.neg r q p h with z | z
            · rw [z] at h2; cases h2
            · rw [z] at h1; cases h1
theorem Wo.flip {lt:Keyed->Keyed->Bool} (C:Wo lt):Wo (fun x y=>lt y x):=⟨fun p=>C.irr p,fun p q h=>C.asym q p h,fun p q r h=>(C.neg r q p h).symm⟩
structure Cmp (prog:Program) (w:World) (A:Around) (E:Value->Shared->Prop) (s:Shared) (kd:SortKind) (D:Keyed->Prop) (lt:Keyed->Keyed->Bool):Prop where
 cmp:∀(p q:Keyed) (st:SortSt) (Q:Option Bool->SortSt->Prop),D p->D q->kindOf st=kd->Q (some (lt p q)) st->wpS (model prog w) A E s (lt' p q) Q st
 wo:Wo lt
section
variable {prog:Program}{w:World}{A:Around}{E:Value->Shared->Prop}{s:Shared}{kd:SortKind}{D:Keyed->Prop}{lt:Keyed->Keyed->Bool}
def byd (lt:Keyed->Keyed->Bool) (left:Bool) (key:Keyed) (arr:Array Keyed) (base i:Nat):Bool:=match arr[base+i]? with
 | some x=>if left=true then lt x key else !lt key x
 | none=>false
theorem ZcI (C:Cmp prog w A E s kd D lt) {left:Bool}{key:Keyed}{arr:Array Keyed}{base i:Nat}{st:SortSt}{Q:Option Bool->SortSt->Prop} (hk:D key) (hx:∃x,arr[base+i]? = some x/\D x) (hs:kindOf st=kd)
  (h:Q (some (byd lt left key arr base i)) st):wpS (model prog w) A E s (elem' arr (base+i) >>= fun x=>if left=true then lt' x key else (lt' key x >>= fun r=>pure (r.map fun x=>!x))) Q st:=by
 obtain ⟨x,e,d⟩:=hx
 unfold byd at h
 rw [e] at h
 rw [elem'_eq,e]
 refine wpS_bind (wpS_pure ?_)
 cases left with
 | true=>rw [if_pos rfl];exact C.cmp x key st Q d hk hs (by simpa using h)
 | false=>
  rw [if_neg (by simp)]
  exact wpS_bind (C.cmp key x st _ hk d hs (wpS_pure (by simpa using h)))
theorem Zft {n:Nat}{st:SortSt}{Q:Option Nat->SortSt->Prop}{body:Nat->Option (Option Nat)×Nat×Nat->StateT SortSt Sem (ForInStep (Option (Option Nat)×Nat×Nat))}{rest:Option (Option Nat)×Nat×Nat->StateT SortSt Sem (Option Nat)} (f:Nat->Bool)
  (mono:∀i j,i<=j->j<n->f j=true->f i=true)
  (hb1:∀x lo hi (R:ForInStep (Option (Option Nat)×Nat×Nat)->SortSt->Prop),lo>=hi->R (.done (none,lo,hi)) st->wpS (model prog w) A E s (body x (none,lo,hi)) R st)
  (hb2:∀x lo hi (R:ForInStep (Option (Option Nat)×Nat×Nat)->SortSt->Prop),lo<hi->hi<=n->R (.yield (if f (lo+(hi-lo) / 2)=true then (none,lo+(hi-lo) / 2+1,hi) else (none,lo,lo+(hi-lo) / 2))) st->wpS (model prog w) A E s (body x (none,lo,hi)) R st)
  (hr:∀lo hi,Q (some hi) st->wpS (model prog w) A E s (rest (none,lo,hi)) Q st)
  (h:∀k,k<=n->(∀i,i<k->f i=true)->(∀i,k<=i->i<n->f i=false)->Q (some k) st)
  (lo hi:Nat) (h1:lo<=hi) (h2:hi<=n) (h3:∀i,i<lo->f i=true) (h4:∀i,hi<=i->i<n->f i=false):wpS (model prog w) A E s (forIn [:n] (none,lo,hi) body >>= rest) Q st:=by
 refine wpS_bind (wpS_mono (wpS_forRange (I:=fun x c st'=>st'=st /\ ∃lo hi,c=(none,lo,hi)/\lo<=hi/\hi<=n/\hi-lo<=n-x/\(∀i,i<lo->f i=true) /\ ∀i,hi<=i->i<n->f i=false)
  (Q:=fun c st'=>st'=st /\ ∃lo hi,c=(none,lo,hi)/\lo=hi/\hi<=n/\(∀i,i<lo->f i=true) /\ ∀i,hi<=i->i<n->f i=false) ?_ ?_ ⟨rfl,lo,hi,rfl,h1,h2,by lia,h3,h4⟩) ?_)
 ·rintro x c st' _ hxn ⟨rfl,lo,hi,rfl,g1,g2,g3,g4,g5⟩
  by_cases hge:lo>=hi
  ·exact hb1 x lo hi _ hge ⟨rfl,lo,hi,rfl,by lia,g2,g4,g5⟩
  ·refine hb2 x lo hi _ (by lia) g2 ?_
   cases e:f (lo+(hi-lo) / 2) with
   | true=>exact ⟨rfl,_,hi,rfl,by lia,g2,by lia,fun i hi'=>mono i _ (by lia) (by lia) e,g5⟩
   | false=>
    refine ⟨rfl,lo,_,rfl,by lia,by lia,by lia,g4,fun i h1 h2=>?_⟩
    cases z:f i with
    | false=>rfl
    | true=>rw [mono _ i h1 h2 z] at e;cases e
 ·rintro c st' ⟨rfl,lo,hi,rfl,g1,g2,g3,g4,g5⟩
  exact ⟨rfl,lo,hi,rfl,by lia,g2,g4,g5⟩
 ·rintro c st' ⟨rfl,lo,hi,rfl,rfl,g2,g4,g5⟩
  exact hr lo lo (h lo g2 g4 g5)
theorem Jo (C:Cmp prog w A E s kd D lt) {left:Bool}{key:Keyed}{arr:Array Keyed}{base n hint:Nat}{st:SortSt}{Q:Option Nat->SortSt->Prop} (hk:D key) (hx:∀i,i<n -> ∃x,arr[base+i]? = some x/\D x) (hh:hint<n) (hs:kindOf st=kd)
  (mono:∀i j,i<=j->j<n->byd lt left key arr base j=true->byd lt left key arr base i=true)
  (h:∀k,k<=n->(∀i,i<k->byd lt left key arr base i=true)->(∀i,k<=i->i<n->byd lt left key arr base i=false)->Q (some k) st):
  wpS (model prog w) A E s (ZlM left key arr base n hint) Q st:=by
 have monoF:∀i j,i<=j->j<n->byd lt left key arr base i=false->byd lt left key arr base j=false:=fun i j hij hj z=>by
  cases e:byd lt left key arr base j with
  | false=>rfl
  | true=>rw [mono i j hij hj e] at z;cases z
 refine wpS_bind (ZcI C hk (hx hint hh) hs ?_)
 cases hr:byd lt left key arr base hint with
 | true=>
  dsimp only
  rw [if_pos rfl]
  refine wpS_bind (wpS_mono (wpS_forRange (I:=fun x c st'=>st'=st /\ ∃lo of,c=(none,lo,of)/\lo<of/\lo<n-hint/\x<of/\byd lt left key arr base (hint+lo)=true)
   (Q:=fun c st'=>st'=st /\ ∃lo of,c=(none,lo,of)/\lo<of/\lo<n-hint/\byd lt left key arr base (hint+lo)=true/\(of<n-hint->byd lt left key arr base (hint+of)=false)) ?_ ?_ ⟨rfl,0,1,rfl,by lia,by lia,by lia,hr⟩) ?_)
  ·rintro x c st' _ hxn ⟨rfl,lo,of,rfl,g1,g2,g3,g4⟩
   dsimp only
   by_cases hge:of>=n-hint
   ·rw [if_pos hge]
    exact wpS_pure ⟨rfl,lo,of,rfl,g1,g2,g4,fun z=>by lia⟩
   ·rw [if_neg hge]
    refine wpS_bind (ZcI C hk (hx (hint+of) (by lia)) hs ?_)
    cases e:byd lt left key arr base (hint+of) with
    | true=>exact wpS_pure ⟨rfl,of,_,rfl,by lia,by lia,by lia,e⟩
    | false=>exact wpS_pure ⟨rfl,lo,of,rfl,g1,g2,g4,fun _=>e⟩
  ·rintro c st' ⟨rfl,lo,of,rfl,g1,g2,g3,g4⟩
   exact ⟨rfl,lo,of,rfl,g1,g2,g4,fun z=>by lia⟩
  ·rintro c st' ⟨rfl,lo,of,rfl,g1,g2,g4,g5⟩
   dsimp only
   refine Zft (byd lt left key arr base) mono (fun x lo hi R hge hR=>?_) (fun x lo hi R hlt hn hR=>?_) (fun lo hi hq=>wpS_pure hq) h _ _ ?_ ?_ ?_ ?_
   ·dsimp only
    rw [if_pos hge]
    exact wpS_pure hR
   ·dsimp only
    rw [if_neg (by lia)]
    refine wpS_bind (ZcI C hk (hx _ (by lia)) hs ?_)
    cases e:byd lt left key arr base (lo+(hi-lo) / 2) with
    | true=>rw [e,if_pos rfl] at hR;exact wpS_pure hR
    | false=>rw [e,if_neg (by simp)] at hR;exact wpS_pure hR
   ·lia
   ·lia
   ·exact fun i hi=>mono i (hint+lo) (by lia) (by lia) g4
   ·intro i h1 h2
    by_cases z:of<n-hint
    ·exact monoF (hint+of) i (by lia) h2 (g5 z)
    ·lia
 | false=>
  dsimp only
  rw [if_neg (by simp)]
  refine wpS_bind (wpS_mono (wpS_forRange (I:=fun x c st'=>st'=st /\ ∃lo of,c=(none,lo,of)/\lo<of/\lo<hint+1/\x<of/\byd lt left key arr base (hint-lo)=false)
   (Q:=fun c st'=>st'=st /\ ∃lo of,c=(none,lo,of)/\lo<of/\lo<hint+1/\byd lt left key arr base (hint-lo)=false/\(of<hint+1->byd lt left key arr base (hint-of)=true)) ?_ ?_ ⟨rfl,0,1,rfl,by lia,by lia,by lia,hr⟩) ?_)
  ·rintro x c st' _ hxn ⟨rfl,lo,of,rfl,g1,g2,g3,g4⟩
   dsimp only
   by_cases hge:of>=hint+1
   ·rw [if_pos hge]
    exact wpS_pure ⟨rfl,lo,of,rfl,g1,g2,g4,fun z=>by lia⟩
   ·rw [if_neg hge]
    refine wpS_bind (ZcI C hk (hx (hint-of) (by lia)) hs ?_)
    cases e:byd lt left key arr base (hint-of) with
    | true=>exact wpS_pure ⟨rfl,lo,of,rfl,g1,g2,g4,fun _=>e⟩
    | false=>exact wpS_pure ⟨rfl,of,_,rfl,by lia,by lia,by lia,e⟩
  ·rintro c st' ⟨rfl,lo,of,rfl,g1,g2,g3,g4⟩
   exact ⟨rfl,lo,of,rfl,g1,g2,g4,fun z=>by lia⟩
  ·rintro c st' ⟨rfl,lo,of,rfl,g1,g2,g4,g5⟩
   dsimp only
   refine Zft (byd lt left key arr base) mono (fun x lo hi R hge hR=>?_) (fun x lo hi R hlt hn hR=>?_) (fun lo hi hq=>wpS_pure hq) h _ _ ?_ ?_ ?_ ?_
   ·dsimp only
    rw [if_pos hge]
    exact wpS_pure hR
   ·dsimp only
    rw [if_neg (by lia)]
    refine wpS_bind (ZcI C hk (hx _ (by lia)) hs ?_)
    cases e:byd lt left key arr base (lo+(hi-lo) / 2) with
    | true=>rw [e,if_pos rfl] at hR;exact wpS_pure hR
    | false=>rw [e,if_neg (by simp)] at hR;exact wpS_pure hR
   ·lia
   ·lia
   ·intro i hi
    by_cases z:of<hint+1
    ·exact mono i (hint-of) (by lia) (by lia) (g5 z)
    ·lia
   ·exact fun i h1 h2=>monoF (hint-lo) i (by lia) h2 g4
end
section
variable {prog:Program}{w:World}{A:Around}{E:Value->Shared->Prop}{s:Shared}{kd:SortKind}{D:Keyed->Prop}{lt:Keyed->Keyed->Bool}
def Wn (lt:Keyed->Keyed->Bool) (l:List Keyed):Prop:=l.Pairwise fun p q=>lt q p=false
theorem U2 (C:Wo lt) {l:List Keyed} (h:Wn lt l) {i j:Nat}{p q:Keyed} (hi:l[i]? = some p) (hj:l[j]? = some q) (hij:i<=j):lt q p=false:=by
 obtain ⟨h1,rfl⟩:=List.getElem?_eq_some_iff.mp hi
 obtain ⟨h2,rfl⟩:=List.getElem?_eq_some_iff.mp hj
 rcases Nat.lt_or_ge i j with z | z
 ·exact List.pairwise_iff_getElem.mp h i j h1 h2 z
 ·obtain rfl:i=j:=by lia
  exact C.irr _
theorem Yg {arr:Array Keyed}{i:Nat}{x:Keyed}{st:SortSt}{Q:Keyed->SortSt->Prop}{M:Model} (e:arr[i]? = some x) (h:Q x st):wpS M A E s (elem' arr i) Q st:=by
 rw [elem'_eq,e];exact wpS_pure h
def Eqg (st st':SortSt):Prop:=kindOf st'=kindOf st/\arrOf st'=arrOf st/\pendingOf st'=pendingOf st/\failedOf st'=failedOf st
theorem Eqg.refl (st:SortSt):Eqg st st:=⟨rfl,rfl,rfl,rfl⟩
structure Mg (lt:Keyed->Keyed->Bool) (a b out:List Keyed) (ia ib:Nat):Prop where
 srt:Wn lt out
 pm:(out++(a.drop ia++b.drop ib)).Perm (a++b)
 le:∀p∈out,∀q∈a.drop ia++b.drop ib,lt q p=false
theorem drop_cons {l:List Keyed}{i:Nat}{x:Keyed} (e:l[i]? = some x):l.drop i=x::l.drop (i+1):=by
 obtain ⟨h,rfl⟩:=List.getElem?_eq_some_iff.mp e
 exact List.drop_eq_getElem_cons h
theorem Jz {l:List Keyed} (h:Wn lt l) (i:Nat):Wn lt (l.drop i):=List.Pairwise.sublist (List.drop_sublist _ _) h
theorem Zcz {l:List Keyed}{x:Keyed} (h:Wn lt l) (hx:∀p∈l,lt x p=false):Wn lt (l ++ [x]):=by
 refine List.pairwise_append.mpr ⟨h,List.pairwise_singleton _ _,fun p hp q hq=>?_⟩
 rw [List.mem_singleton.mp hq];exact hx p hp
theorem Mg.takeA (C:Wo lt) {a b out:List Keyed}{ia ib:Nat} (g:Mg lt a b out ia ib) (sa:Wn lt a) (sb:Wn lt b) {x:Keyed} (e:a[ia]? = some x) (h:∀y,b[ib]? = some y->lt y x=false):Mg lt a b (out ++ [x]) (ia+1) ib:=by
 have da:=drop_cons e
 have xin:x∈a.drop ia++b.drop ib:=by rw [da];simp
 refine ⟨Zcz g.srt fun p hp=>g.le p hp x xin,?_,fun p hp q hq=>?_⟩
 ·have:=g.pm
  rw [da] at this
  simpa using this
 ·rcases List.mem_append.mp hp with hp | hp
  ·refine g.le p hp q ?_
   rw [da]
   rcases List.mem_append.mp hq with z | z
   ·exact List.mem_append_left _ (List.mem_cons_of_mem _ z)
   ·exact List.mem_append_right _ z
  ·rw [List.mem_singleton.mp hp]
   rcases List.mem_append.mp hq with z | z
   ·have:=Jz sa ia
    rw [da] at this
    exact (List.pairwise_cons.mp this).1 q z
   ·cases hb:b[ib]? with
    | none=>rw [List.drop_eq_nil_of_le (List.getElem?_eq_none_iff.mp hb)] at z;cases z
    | some y=>
     have hy:=h y hb
     have db:=drop_cons hb
     rw [db] at z
     rcases List.mem_cons.mp z with rfl | z
     ·exact hy
     ·have sb':=Jz sb ib
      rw [db] at sb'
      exact C.leT hy ((List.pairwise_cons.mp sb').1 q z)
theorem Mg.takeB (C:Wo lt) {a b out:List Keyed}{ia ib:Nat} (g:Mg lt a b out ia ib) (sa:Wn lt a) (sb:Wn lt b) {x:Keyed} (e:b[ib]? = some x) (h:∀y,a[ia]? = some y->lt y x=false):Mg lt a b (out ++ [x]) ia (ib+1):=by
 have db:=drop_cons e
 have xin:x∈a.drop ia++b.drop ib:=by rw [db];simp
 refine ⟨Zcz g.srt fun p hp=>g.le p hp x xin,?_,fun p hp q hq=>?_⟩
 ·refine List.Perm.trans ?_ g.pm
  rw [db,List.append_assoc]
  refine List.Perm.append_left _ ?_
  exact (List.perm_middle (a:=x) (l₁:=a.drop ia) (l₂:=b.drop (ib+1))).symm
 ·rcases List.mem_append.mp hp with hp | hp
  ·refine g.le p hp q ?_
   rw [db]
   rcases List.mem_append.mp hq with z | z
   ·exact List.mem_append_left _ z
   ·exact List.mem_append_right _ (List.mem_cons_of_mem _ z)
  ·rw [List.mem_singleton.mp hp]
   rcases List.mem_append.mp hq with z | z
   ·cases ha:a[ia]? with
    | none=>rw [List.drop_eq_nil_of_le (List.getElem?_eq_none_iff.mp ha)] at z;cases z
    | some y=>
     have hy:=h y ha
     have da:=drop_cons ha
     rw [da] at z
     rcases List.mem_cons.mp z with rfl | z
     ·exact hy
     ·have sa':=Jz sa ia
      rw [da] at sa'
      exact C.leT hy ((List.pairwise_cons.mp sa').1 q z)
   ·have:=Jz sb ib
    rw [db] at this
    exact (List.pairwise_cons.mp this).1 q z
theorem Zfz {l:List Keyed}{i k:Nat}{x:Keyed} (e:l[i+k]? = some x):(l.drop i).take (k+1)=(l.drop i).take k ++ [x]:=by
 rw [List.take_add_one,List.getElem?_drop,e];rfl
theorem Mg.takeAs (C:Wo lt) {a b:List Keyed} (sa:Wn lt a) (sb:Wn lt b) {ia ib:Nat}{out:List Keyed} (g:Mg lt a b out ia ib):∀k,ia+k<=a.length->(∀i,i<k -> ∀x y,a[ia+i]? = some x->b[ib]? = some y->lt y x=false)->Mg lt a b (out++(a.drop ia).take k) (ia+k) ib
 | 0,_,_=>by simpa using g
 | k+1,hk,h=>by
  have ih:=Mg.takeAs C sa sb g k (by lia) fun i hi=>h i (by lia)
  obtain ⟨x,hx⟩:∃x,a[ia+k]? = some x:=⟨a[ia+k]'(by lia),List.getElem?_eq_getElem (by lia)⟩
  have:=ih.takeA C sa sb hx fun y hy=>h k (by lia) x y hx hy
  rw [Zfz hx,<- List.append_assoc]
  exact this
theorem Mg.takeBs (C:Wo lt) {a b:List Keyed} (sa:Wn lt a) (sb:Wn lt b) {ia ib:Nat}{out:List Keyed} (g:Mg lt a b out ia ib):∀k,ib+k<=b.length->(∀i,i<k -> ∀x y,b[ib+i]? = some x->a[ia]? = some y->lt y x=false)->Mg lt a b (out++(b.drop ib).take k) ia (ib+k)
 | 0,_,_=>by simpa using g
 | k+1,hk,h=>by
  have ih:=Mg.takeBs C sa sb g k (by lia) fun i hi=>h i (by lia)
  obtain ⟨x,hx⟩:∃x,b[ib+k]? = some x:=⟨b[ib+k]'(by lia),List.getElem?_eq_getElem (by lia)⟩
  have:=ih.takeB C sa sb hx fun y hy=>h k (by lia) x y hx hy
  rw [Zfz hx,<- List.append_assoc]
  exact this
def Mgd (lt:Keyed->Keyed->Bool) (a b r:List Keyed):Prop:=Wn lt r/\r.Perm (a++b)
theorem Mg.done {a b out:List Keyed}{ia ib:Nat} (g:Mg lt a b out ia ib) (sa:Wn lt a) (sb:Wn lt b) (h:a.length<=ia∨b.length<=ib):Mgd lt a b (out++a.drop ia++b.drop ib):=by
 refine ⟨?_,by rw [List.append_assoc];exact g.pm⟩
 rw [List.append_assoc]
 refine List.pairwise_append.mpr ⟨g.srt,?_,fun p hp q hq=>g.le p hp q hq⟩
 rcases h with h | h
 ·rw [List.drop_eq_nil_of_le h,List.nil_append];exact Jz sb ib
 ·rw [List.drop_eq_nil_of_le h,List.append_nil];exact Jz sa ia
theorem Mg.lastA {a b out:List Keyed}{ia ib:Nat} (g:Mg lt a b out ia ib) (sb:Wn lt b) (h:ia+1=a.length) (hl:∀x,a[ia]? = some x -> ∀y∈b,lt x y=false):Mgd lt a b (out++b.drop ib++a.drop ia):=by
 obtain ⟨x,hx⟩:∃x,a[ia]? = some x:=⟨a[ia]'(by lia),List.getElem?_eq_getElem (by lia)⟩
 have da:a.drop ia = [x]:=by rw [drop_cons hx,List.drop_eq_nil_of_le (by lia)]
 refine ⟨?_,?_⟩
 ·rw [List.append_assoc,da]
  refine List.pairwise_append.mpr ⟨g.srt,Zcz (Jz sb ib) fun p hp=>hl x hx p (List.mem_of_mem_drop hp),fun p hp q hq=>g.le p hp q ?_⟩
  rw [da]
  rcases List.mem_append.mp hq with z | z
  ·exact List.mem_append_right _ z
  ·exact List.mem_append_left _ z
 ·rw [List.append_assoc]
  exact (List.Perm.append_left _ List.perm_append_comm).trans g.pm
end
section
variable {prog:Program}{w:World}{A:Around}{E:Value->Shared->Prop}{s:Shared}{kd:SortKind}{D:Keyed->Prop}{lt:Keyed->Keyed->Bool}
theorem JQ {l:Array Keyed}{i k:Nat}:(l.extract i (i+k)).toList=(l.toList.drop i).take k:=by
 rw [Array.toList_extract,List.extract_eq_take_drop];congr 1;lia
theorem Ys {l:Array Keyed}{i:Nat}:(l.extract i).toList=l.toList.drop i:=by
 rw [Array.toList_extract,List.extract_eq_take_drop]
 exact List.take_of_length_le (by simp)
theorem JN {key:Keyed}{arr:Array Keyed}{base i:Nat}{x:Keyed} (e:arr.toList[base+i]? = some x):byd lt false key arr base i = !lt key x:=by
 unfold byd;rw [<- Array.getElem?_toList,e];simp
theorem YX {key:Keyed}{arr:Array Keyed}{base i:Nat}{x:Keyed} (e:arr.toList[base+i]? = some x):byd lt true key arr base i=lt x key:=by
 unfold byd;rw [<- Array.getElem?_toList,e];simp
theorem Gr (C:Cmp prog w A E s kd D lt) {left:Bool}{key:Keyed}{arr:Array Keyed}{base n:Nat} (hs:Wn lt arr.toList) (hn:base+n<=arr.toList.length):
  ∀i j,i<=j->j<n->byd lt left key arr base j=true->byd lt left key arr base i=true:=fun i j hij hj h=>by
 have ei:arr.toList[base+i]? = some (arr.toList[base+i]'(by lia)):=List.getElem?_eq_getElem (by lia)
 have ej:arr.toList[base+j]? = some (arr.toList[base+j]'(by lia)):=List.getElem?_eq_getElem (by lia)
 have le:=U2 C.wo hs ei ej (by lia)
 cases left with
 | true=>
  rw [YX ej] at h
  rw [YX ei]
  rcases C.wo.neg _ (arr.toList[base+i]'(by lia)) _ h with z | z
  ·rw [z] at le;cases le
  ·exact z
 | false=>
  rw [JN ej] at h
  rw [JN ei]
  cases z:lt key (arr.toList[base+i]'(by lia)) with
  | false=>rfl
  | true=>
   rcases C.wo.neg _ (arr.toList[base+j]'(by lia)) _ z with y | y
   ·rw [y] at h;cases h
   ·rw [y] at le;cases le
section
variable {β:Type}{st:SortSt}{Q:β -> SortSt->Prop}{M:Model}
theorem ZN {c:Bool}{X Y:StateT SortSt Sem β} (h1:c=true->wpS M A E s X Q st) (h2:c=false->wpS M A E s Y Q st):wpS M A E s (if c=true then X else Y) Q st:=by
 cases c with
 | true=>exact h1 rfl
 | false=>exact h2 rfl
theorem JO {k n:Nat}{X Y:StateT SortSt Sem β} (h1:k>n->wpS M A E s X Q st) (h2:k<=n->wpS M A E s Y Q st):wpS M A E s (if k>n then X else Y) Q st:=by
 by_cases h:k>n
 ·rw [if_pos h];exact h1 h
 ·rw [if_neg h];exact h2 (by lia)
end
theorem Z1 {m n:Nat} (h:(m==n)=false):m≠n:=fun e=>by rw [e] at h;simp at h
theorem ZgS (C:Cmp prog w A E s kd D lt) {a b:Array Keyed}{st:SortSt}{Q:Array Keyed->SortSt->Prop} (hda:∀x∈a.toList,D x) (hdb:∀x∈b.toList,D x) (sa:Wn lt a.toList) (sb:Wn lt b.toList) (hs:kindOf st=kd)
  (na:0<a.toList.length) (nb:0<b.toList.length) (hf:∀x y,a.toList[0]? = some x->b.toList[0]? = some y->lt x y=false) (hl:∀x,a.toList[a.toList.length-1]? = some x -> ∀y∈b.toList,lt x y=false)
  (h:∀r st',Mgd lt a.toList b.toList r.toList->Eqg st st'->Q r st'):wpS (model prog w) A E s (Zjt a b) Q st:=by
 have za:a.size=a.toList.length:=by simp
 have zb:b.size=b.toList.length:=by simp
 have ea:∀i,i<a.toList.length -> ∃x,a[i]? = some x/\D x/\a.toList[i]? = some x:=fun i hi=>⟨a.toList[i],by rw [<- Array.getElem?_toList];exact List.getElem?_eq_getElem hi,hda _ (List.getElem_mem hi),List.getElem?_eq_getElem hi⟩
 have eb:∀i,i<b.toList.length -> ∃x,b[i]? = some x/\D x/\b.toList[i]? = some x:=fun i hi=>⟨b.toList[i],by rw [<- Array.getElem?_toList];exact List.getElem?_eq_getElem hi,hdb _ (List.getElem_mem hi),List.getElem?_eq_getElem hi⟩
 refine wpS_bind (wpS_lift (wpAny_rule ⟨rfl,?_⟩))
 obtain ⟨b0,hb0,db0,lb0⟩:=eb 0 nb
 obtain ⟨a0,ha0,da0,la0⟩:=ea 0 na
 refine wpS_bind (Yg hb0 ?_)
 have g0:Mg lt a.toList b.toList [b0] 0 1:=by
  have g:Mg lt a.toList b.toList [] 0 0:=⟨.nil,by simp,fun p hp=>(by cases hp)⟩
  exact g.takeB C.wo sa sb lb0 fun y hy=>hf y b0 hy lb0
 show wpS _ _ _ _ (if (1==b.size)=true then _ else if (0+1==a.size)=true then _ else _) _ _
 by_cases c1:(1==b.size)=true
 ·rw [if_pos c1]
  refine wpS_pure (h _ st ?_ (Eqg.refl st))
  simp only [Array.toList_append,Ys]
  exact g0.done sa sb (.inr (by rw [<- zb,<- eq_of_beq c1];exact Nat.le_refl _))
 rw [if_neg c1]
 by_cases c2:(0+1==a.size)=true
 ·rw [if_pos c2]
  refine wpS_pure (h _ st ?_ (Eqg.refl st))
  simp only [Array.toList_append,Ys]
  exact g0.lastA sb (by rw [<- za];exact eq_of_beq c2) fun x hx=>hl x (by rw [<- za,<- eq_of_beq c2];exact hx)
 rw [if_neg c2]
 have n1:1<b.toList.length:=by
  rcases Nat.lt_or_ge 1 b.toList.length with z | z
  ·exact z
  ·exact absurd (by rw [zb,show b.toList.length=1 by lia];rfl) c1
 have n2:1<a.toList.length:=by
  rcases Nat.lt_or_ge 1 a.toList.length with z | z
  ·exact z
  ·exact absurd (by rw [za,show a.toList.length=1 by lia];rfl) c2
 refine wpS_bind (wpS_get ?_)
 refine wpS_bind (wpS_mono (wpS_forRange (I:=fun x c st'=>∃(out:Array Keyed) (ia ib mg:Nat),c=(none,out,ia,ib,mg)/\Mg lt a.toList b.toList out.toList ia ib/\ia+1<a.toList.length/\ib<b.toList.length/\x<=ia+ib/\Eqg st st')
  (Q:=fun c st'=>∃r,c.1=some r/\Mgd lt a.toList b.toList r.toList/\Eqg st st') ?_ ?_ ⟨#[b0],0,1,_,rfl,g0,by lia,n1,by lia,Eqg.refl st⟩) ?_)
 ·rintro x c st1 _ hx ⟨out,ia,ib,mg,rfl,g,l1,l2,l3,q1⟩
  refine wpS_bind (wpS_mono (wpS_forRange (I:=fun y c st'=>st'=st1 /\ ∃(out:Array Keyed) (ia ib ac bc:Nat),c=(none,out,ia,ib,ac,bc)/\Mg lt a.toList b.toList out.toList ia ib/\ia+1<a.toList.length/\ib<b.toList.length/\x+y<=ia+ib)
   (Q:=fun c st'=>st'=st1/\((∃(out:Array Keyed) (ia ib ac bc:Nat),c=(none,out,ia,ib,ac,bc)/\Mg lt a.toList b.toList out.toList ia ib/\ia+1<a.toList.length/\ib<b.toList.length/\x+1<=ia+ib) ∨ ∃r,c.1=some r/\Mgd lt a.toList b.toList r.toList)) ?_ ?_ ⟨rfl,out,ia,ib,0,0,rfl,g,l1,l2,l3⟩) ?_)
  ·rintro y c st' _ hy ⟨rfl,out,ia,ib,ac,bc,rfl,g,l1,l2,l3⟩
   obtain ⟨xb,hb,db,lb⟩:=eb ib l2
   obtain ⟨xa,ha,da,la⟩:=ea ia (by lia)
   refine wpS_bind (Yg hb (wpS_bind (Yg ha (wpS_bind (C.cmp xb xa _ _ db da (q1.1.trans hs) ?_)))))
   cases e:lt xb xa with
   | true=>
    refine wpS_bind (Yg hb ?_)
    have g':=g.takeB C.wo sa sb lb fun y hy=>by rw [la] at hy;cases hy;exact C.wo.asym _ _ e
    dsimp only
    by_cases c3:(ib+1==b.size)=true
    ·rw [if_pos c3]
     refine wpS_pure ⟨rfl,.inr ⟨_,rfl,?_⟩⟩
     simp only [Array.toList_append,Array.toList_push,Ys]
     exact g'.done sa sb (.inr (by rw [<- zb,<- eq_of_beq c3];exact Nat.le_refl _))
    ·rw [if_neg c3]
     have c4:ib+1<b.toList.length:=by
      rcases Nat.lt_or_ge (ib+1) b.toList.length with z | z
      ·exact z
      ·exact absurd (by rw [zb,show b.toList.length=ib+1 by lia];simp) c3
     split
     ·exact wpS_pure ⟨rfl,.inl ⟨_,_,_,_,_,rfl,by rw [Array.toList_push];exact g',l1,c4,by lia⟩⟩
     ·exact wpS_pure ⟨rfl,_,_,_,_,_,rfl,by rw [Array.toList_push];exact g',l1,c4,by lia⟩
   | false=>
    refine wpS_bind (Yg ha ?_)
    have g':=g.takeA C.wo sa sb la fun y hy=>by rw [lb] at hy;cases hy;exact e
    dsimp only
    by_cases c3:(ia+1+1==a.size)=true
    ·rw [if_pos c3]
     refine wpS_pure ⟨rfl,.inr ⟨_,rfl,?_⟩⟩
     simp only [Array.toList_append,Array.toList_push,Ys]
     have c5:ia+1+1=a.toList.length:=by rw [<- za];exact eq_of_beq c3
     exact g'.lastA sb c5 fun x hx=>hl x (by rw [<- c5];exact hx)
    ·rw [if_neg c3]
     have c4:ia+1+1<a.toList.length:=by
      rcases Nat.lt_or_ge (ia+1+1) a.toList.length with z | z
      ·exact z
      ·exact absurd (by rw [za,show a.toList.length=ia+1+1 by lia];simp) c3
     split
     ·exact wpS_pure ⟨rfl,.inl ⟨_,_,_,_,_,rfl,by rw [Array.toList_push];exact g',c4,l2,by lia⟩⟩
     ·exact wpS_pure ⟨rfl,_,_,_,_,_,rfl,by rw [Array.toList_push];exact g',c4,l2,by lia⟩
  ·rintro c st' ⟨rfl,out,ia,ib,ac,bc,rfl,g,l1,l2,l3⟩
   lia
  ·rintro c st' ⟨rfl,⟨out,ia,ib,ac,bc,rfl,g,l1,l2,l3⟩ | ⟨r,hr,hm⟩⟩
   ·refine wpS_bind (wpS_lift (wpAny_rule ⟨rfl,?_⟩))
    refine wpS_bind (wpS_mono (wpS_forRange (I:=fun y c st'=>Eqg st st' /\ ∃(out:Array Keyed) (ia ib mg ac bc:Nat),c=(none,out,ia,ib,mg,ac,bc)/\Mg lt a.toList b.toList out.toList ia ib/\ia+1<a.toList.length/\ib<b.toList.length/\x+1+y<=ia+ib)
     (Q:=fun c st'=>Eqg st st'/\((∃(out:Array Keyed) (ia ib mg ac bc:Nat),c=(none,out,ia,ib,mg,ac,bc)/\Mg lt a.toList b.toList out.toList ia ib/\ia+1<a.toList.length/\ib<b.toList.length/\x+1<=ia+ib) ∨ ∃r,c.1=some r/\Mgd lt a.toList b.toList r.toList)) ?_ ?_ ⟨q1,out,ia,ib,_,ac,bc,rfl,g,l1,l2,l3⟩) ?_)
    ·rintro y c st2 _ hy ⟨q2,out,ia,ib,mg,ac,bc,rfl,g,l1,l2,l3⟩
     obtain ⟨xb,hb,db,lb⟩:=eb ib l2
     refine JO (k:=mg) (n:=1) (fun _=>?_) (fun _=>?_)
     all_goals (
      refine wpS_bind (wpS_modify ?_)
      refine wpS_bind (Yg hb ?_)
      refine wpS_bind (Jo (base:=ia) (n:=a.size-ia) (hint:=0) C db (fun i hi=>let ⟨x,h1,h2,_⟩:=ea (ia+i) (by lia);⟨x,h1,h2⟩) (by lia) (q2.1.trans hs) (Gr C sa (by lia)) fun k hk k1 k2=>?_)
      have f1:∀i,i<k -> ∀x y,a.toList[ia+i]? = some x->b.toList[ib]? = some y->lt y x=false:=fun i hi x y hx hy=>by
       have:=k1 i hi
       rw [JN hx] at this
       rw [lb] at hy
       cases hy
       simpa using this
      have gk:=g.takeAs C.wo sa sb k (by lia) f1
      have m3:∀x,a.toList[ia+k]? = some x->lt xb x=true:=fun x hx=>by
       have:=k2 k (Nat.le_refl _) (by have:=(List.getElem?_eq_some_iff.mp hx).1;lia)
       rw [JN hx] at this
       simpa using this
      refine JO (k:=k) (n:=0) (fun k0=>?_) (fun k0=>?_)
      ·refine ZN (c:=(ia+k+1==a.size)) (fun c3=>?_) (fun c3=>ZN (c:=(ia+k==a.size)) (fun c4=>?_) (fun c4=>?_))
       ·refine wpS_pure ⟨q2,.inr ⟨_,rfl,?_⟩⟩
        have c3':ia+k+1=a.toList.length:=by rw [<- za];exact eq_of_beq c3
        have:=gk.lastA sb c3' fun x hx=>hl x (by rw [<- c3'];exact hx)
        simp only [Array.toList_append,Array.toList_push,Ys,JQ] at this ⊢
        exact this
       ·refine wpS_pure ⟨q2,.inr ⟨_,rfl,?_⟩⟩
        have:=gk.done sa sb (.inl (by rw [<- za,<- eq_of_beq c4];exact Nat.le_refl _))
        simp only [Array.toList_append,Array.toList_push,Ys,JQ] at this ⊢
        exact this
       ·have c3':=Z1 c3
        have c4':=Z1 c4
        have m4':=m3
        have g1:Mg lt a.toList b.toList (out++a.extract ia (ia+k)).toList (ia+k) ib:=by
         simp only [Array.toList_append,Array.toList_push,Ys,JQ] at gk ⊢
         exact gk
        refine wpS_bind (Yg hb ?_)
        have g2:=g1.takeB C.wo sa sb lb fun y hy=>C.wo.asym _ _ (m4' y hy)
        refine ZN (c:=(ib+1==b.size)) (fun c5=>?_) (fun c5=>?_)
        ·refine wpS_pure ⟨q2,.inr ⟨_,rfl,?_⟩⟩
         have:=g2.done sa sb (.inr (by rw [<- zb,<- eq_of_beq c5];exact Nat.le_refl _))
         simp only [Array.toList_append,Array.toList_push,Ys,JQ] at this ⊢
         exact this
        ·have c6:=Z1 c5
         obtain ⟨xa,ha,da,la⟩:=ea (ia+k) (by lia)
         refine wpS_bind (Yg ha ?_)
         refine wpS_bind (Jo (left:=true) (base:=ib+1) (n:=b.size-(ib+1)) (hint:=0) C da (fun i hi=>let ⟨x,h1,h2,_⟩:=eb (ib+1+i) (by lia);⟨x,h1,h2⟩) (by lia) (q2.1.trans hs) (Gr C sb (by lia)) fun k' hk' k1' k2'=>?_)
         have f2:∀i,i<k' -> ∀x y,b.toList[ib+1+i]? = some x->a.toList[ia+k]? = some y->lt y x=false:=fun i hi x y hx hy=>by
          have:=k1' i hi
          rw [YX hx] at this
          rw [la] at hy
          cases hy
          exact C.wo.asym _ _ this
         have gk':=g2.takeBs C.wo sa sb k' (by lia) f2
         have m5:∀y,b.toList[ib+1+k']? = some y->lt y xa=false:=fun y hy=>by
          have:=k2' k' (Nat.le_refl _) (by have:=(List.getElem?_eq_some_iff.mp hy).1;lia)
          rw [YX hy] at this
          exact this
         refine JO (k:=k') (n:=0) (fun k0'=>?_) (fun k0'=>?_)
         ·refine ZN (c:=(ib+1+k'==b.size)) (fun c9=>?_) (fun c9=>?_)
          ·refine wpS_pure ⟨q2,.inr ⟨_,rfl,?_⟩⟩
           have:=gk'.done sa sb (.inr (by rw [<- zb,<- eq_of_beq c9];exact Nat.le_refl _))
           simp only [Array.toList_append,Array.toList_push,Ys,JQ] at this ⊢
           exact this
          ·have c9':=Z1 c9
           have m4:=m5
           have g3:Mg lt a.toList b.toList (((out++a.extract ia (ia+k)).push xb)++b.extract (ib+1) (ib+1+k')).toList (ia+k) (ib+1+k'):=by
            simp only [Array.toList_append,Array.toList_push,Ys,JQ] at gk' ⊢
            exact gk'
           refine wpS_bind (Yg ha ?_)
           have g4:=g3.takeA C.wo sa sb la m4
           refine ZN (c:=((ia+k)+1+1==a.size)) (fun c7=>?_) (fun c7=>?_)
           ·refine wpS_pure ⟨q2,.inr ⟨_,rfl,?_⟩⟩
            have c8:(ia+k)+1+1=a.toList.length:=by rw [<- za];exact eq_of_beq c7
            have:=g4.lastA sb c8 fun x hx=>hl x (by rw [<- c8];exact hx)
            simp only [Array.toList_append,Array.toList_push,Ys,JQ] at this ⊢
            exact this
           ·have c8:=Z1 c7
            refine ZN (fun _=>?_) (fun _=>?_)
            ·exact wpS_pure ⟨q2,.inl ⟨(((out++a.extract ia (ia+k)).push xb)++b.extract (ib+1) (ib+1+k')).push xa,(ia+k)+1,(ib+1+k'),_,_,_,rfl,by rw [Array.toList_push];exact g4,by lia,by lia,by lia⟩⟩
            ·exact wpS_pure ⟨q2,(((out++a.extract ia (ia+k)).push xb)++b.extract (ib+1) (ib+1+k')).push xa,(ia+k)+1,(ib+1+k'),_,_,_,rfl,by rw [Array.toList_push];exact g4,by lia,by lia,by lia⟩
         ·obtain rfl:k'=0:=by lia
          have m4:=m5
          have g3:Mg lt a.toList b.toList ((out++a.extract ia (ia+k)).push xb).toList (ia+k) (ib+1):=by
           rw [Array.toList_push]
           exact g2
          refine wpS_bind (Yg ha ?_)
          have g4:=g3.takeA C.wo sa sb la m4
          refine ZN (c:=((ia+k)+1+1==a.size)) (fun c7=>?_) (fun c7=>?_)
          ·refine wpS_pure ⟨q2,.inr ⟨_,rfl,?_⟩⟩
           have c8:(ia+k)+1+1=a.toList.length:=by rw [<- za];exact eq_of_beq c7
           have:=g4.lastA sb c8 fun x hx=>hl x (by rw [<- c8];exact hx)
           simp only [Array.toList_append,Array.toList_push,Ys,JQ] at this ⊢
           exact this
          ·have c8:=Z1 c7
           refine ZN (fun _=>?_) (fun _=>?_)
           ·exact wpS_pure ⟨q2,.inl ⟨((out++a.extract ia (ia+k)).push xb).push xa,(ia+k)+1,(ib+1),_,_,_,rfl,by rw [Array.toList_push];exact g4,by lia,by lia,by lia⟩⟩
           ·exact wpS_pure ⟨q2,((out++a.extract ia (ia+k)).push xb).push xa,(ia+k)+1,(ib+1),_,_,_,rfl,by rw [Array.toList_push];exact g4,by lia,by lia,by lia⟩
      ·obtain rfl:k=0:=by lia
       have m4':=m3
       have g1:=g
       refine wpS_bind (Yg hb ?_)
       have g2:=g1.takeB C.wo sa sb lb fun y hy=>C.wo.asym _ _ (m4' y hy)
       refine ZN (c:=(ib+1==b.size)) (fun c5=>?_) (fun c5=>?_)
       ·refine wpS_pure ⟨q2,.inr ⟨_,rfl,?_⟩⟩
        have:=g2.done sa sb (.inr (by rw [<- zb,<- eq_of_beq c5];exact Nat.le_refl _))
        simp only [Array.toList_append,Array.toList_push,Ys,JQ] at this ⊢
        exact this
       ·have c6:=Z1 c5
        obtain ⟨xa,ha,da,la⟩:=ea (ia) (by lia)
        refine wpS_bind (Yg ha ?_)
        refine wpS_bind (Jo (left:=true) (base:=ib+1) (n:=b.size-(ib+1)) (hint:=0) C da (fun i hi=>let ⟨x,h1,h2,_⟩:=eb (ib+1+i) (by lia);⟨x,h1,h2⟩) (by lia) (q2.1.trans hs) (Gr C sb (by lia)) fun k' hk' k1' k2'=>?_)
        have f2:∀i,i<k' -> ∀x y,b.toList[ib+1+i]? = some x->a.toList[ia]? = some y->lt y x=false:=fun i hi x y hx hy=>by
         have:=k1' i hi
         rw [YX hx] at this
         rw [la] at hy
         cases hy
         exact C.wo.asym _ _ this
        have gk':=g2.takeBs C.wo sa sb k' (by lia) f2
        have m5:∀y,b.toList[ib+1+k']? = some y->lt y xa=false:=fun y hy=>by
         have:=k2' k' (Nat.le_refl _) (by have:=(List.getElem?_eq_some_iff.mp hy).1;lia)
         rw [YX hy] at this
         exact this
        refine JO (k:=k') (n:=0) (fun k0'=>?_) (fun k0'=>?_)
        ·refine ZN (c:=(ib+1+k'==b.size)) (fun c9=>?_) (fun c9=>?_)
         ·refine wpS_pure ⟨q2,.inr ⟨_,rfl,?_⟩⟩
          have:=gk'.done sa sb (.inr (by rw [<- zb,<- eq_of_beq c9];exact Nat.le_refl _))
          simp only [Array.toList_append,Array.toList_push,Ys,JQ] at this ⊢
          exact this
         ·have c9':=Z1 c9
          have m4:=m5
          have g3:Mg lt a.toList b.toList ((out.push xb)++b.extract (ib+1) (ib+1+k')).toList (ia) (ib+1+k'):=by
           simp only [Array.toList_append,Array.toList_push,Ys,JQ] at gk' ⊢
           exact gk'
          refine wpS_bind (Yg ha ?_)
          have g4:=g3.takeA C.wo sa sb la m4
          refine ZN (c:=((ia)+1+1==a.size)) (fun c7=>?_) (fun c7=>?_)
          ·refine wpS_pure ⟨q2,.inr ⟨_,rfl,?_⟩⟩
           have c8:(ia)+1+1=a.toList.length:=by rw [<- za];exact eq_of_beq c7
           have:=g4.lastA sb c8 fun x hx=>hl x (by rw [<- c8];exact hx)
           simp only [Array.toList_append,Array.toList_push,Ys,JQ] at this ⊢
           exact this
          ·have c8:=Z1 c7
           refine ZN (fun _=>?_) (fun _=>?_)
           ·exact wpS_pure ⟨q2,.inl ⟨((out.push xb)++b.extract (ib+1) (ib+1+k')).push xa,(ia)+1,(ib+1+k'),_,_,_,rfl,by rw [Array.toList_push];exact g4,by lia,by lia,by lia⟩⟩
           ·exact wpS_pure ⟨q2,((out.push xb)++b.extract (ib+1) (ib+1+k')).push xa,(ia)+1,(ib+1+k'),_,_,_,rfl,by rw [Array.toList_push];exact g4,by lia,by lia,by lia⟩
        ·obtain rfl:k'=0:=by lia
         have m4:=m5
         have g3:Mg lt a.toList b.toList (out.push xb).toList (ia) (ib+1):=by
          rw [Array.toList_push]
          exact g2
         refine wpS_bind (Yg ha ?_)
         have g4:=g3.takeA C.wo sa sb la m4
         refine ZN (c:=((ia)+1+1==a.size)) (fun c7=>?_) (fun c7=>?_)
         ·refine wpS_pure ⟨q2,.inr ⟨_,rfl,?_⟩⟩
          have c8:(ia)+1+1=a.toList.length:=by rw [<- za];exact eq_of_beq c7
          have:=g4.lastA sb c8 fun x hx=>hl x (by rw [<- c8];exact hx)
          simp only [Array.toList_append,Array.toList_push,Ys,JQ] at this ⊢
          exact this
         ·have c8:=Z1 c7
          refine ZN (fun _=>?_) (fun _=>?_)
          ·exact wpS_pure ⟨q2,.inl ⟨(out.push xb).push xa,(ia)+1,(ib+1),_,_,_,rfl,by rw [Array.toList_push];exact g4,by lia,by lia,by lia⟩⟩
          ·exact wpS_pure ⟨q2,(out.push xb).push xa,(ia)+1,(ib+1),_,_,_,rfl,by rw [Array.toList_push];exact g4,by lia,by lia,by lia⟩)
    ·rintro c st' ⟨q2,out,ia,ib,mg,ac,bc,rfl,g,l1,l2,l3⟩
     lia
    ·rintro c st' ⟨q2,⟨out,ia,ib,mg,ac,bc,rfl,g,l1,l2,l3⟩ | ⟨r,hr,hm⟩⟩
     ·exact wpS_bind (wpS_modify (wpS_pure ⟨_,_,_,_,rfl,g,l1,l2,l3,q2⟩))
     ·obtain ⟨c1,c2⟩:=c
      dsimp only at hr
      subst hr
      exact wpS_pure ⟨r,rfl,hm,q2⟩
   ·obtain ⟨c1,c2⟩:=c
    dsimp only at hr
    subst hr
    exact wpS_pure ⟨r,rfl,hm,q1⟩
 ·rintro c st' ⟨out,ia,ib,mg,rfl,g,l1,l2,l3,q1⟩
  lia
 ·rintro c st' ⟨r,hr,hm,q1⟩
  obtain ⟨c1,c2⟩:=c
  dsimp only at hr
  subst hr
  exact wpS_pure (h r st' hm q1)
end
section
variable {prog:Program}{w:World}{A:Around}{E:Value->Shared->Prop}{s:Shared}{kd:SortKind}{D:Keyed->Prop}{lt:Keyed->Keyed->Bool}
theorem Ud {l:List Keyed}{n:Nat} (h0:0<n) (h:n<=l.length):l.reverse[l.length-n]? = l[n-1]?:=by
 rw [List.getElem?_reverse (by lia)];congr 1;lia
theorem UN {l:List Keyed}{n:Nat} (h:n<=l.length):l.reverse.drop (l.length-n)=(l.take n).reverse:=by
 rw [List.drop_reverse];congr 2;lia
theorem Zfp {l:List Keyed}{n m:Nat} (h:n<=l.length) (hm:m<=n):(l.reverse.drop (l.length-n)).take (n-m)=((l.drop m).take (n-m)).reverse:=by
 rw [UN h,List.take_reverse,List.length_take,Nat.min_eq_left h,List.drop_take]
 congr 2
 ·lia
 ·congr 1;lia
theorem ZhU {a b r:List Keyed} (h:Mgd (fun x y=>lt y x) b.reverse a.reverse r):Mgd lt a b r.reverse:=by
 refine ⟨List.pairwise_reverse.mpr h.1,?_⟩
 refine (List.reverse_perm r).trans (h.2.trans ?_)
 refine ((List.reverse_perm b).append (List.reverse_perm a)).trans ?_
 exact List.perm_append_comm
def Mh (lt:Keyed->Keyed->Bool) (a b:List Keyed) (out:List Keyed) (na nb:Nat):Prop:=Mg (fun x y=>lt y x) b.reverse a.reverse out (b.length-nb) (a.length-na)
theorem Mh.done {a b out:List Keyed}{na nb:Nat} (g:Mh lt a b out na nb) (sa:Wn lt a) (sb:Wn lt b) (ha:na<=a.length) (hb:nb<=b.length) (h:na=0∨nb=0):Mgd lt a b (a.take na++b.take nb++out.reverse):=by
 have:=ZhU (Mg.done (lt:=fun x y=>lt y x) g (List.pairwise_reverse.mpr sb) (List.pairwise_reverse.mpr sa) (by rw [List.length_reverse,List.length_reverse];lia))
 rw [UN ha,UN hb] at this
 simpa using this
theorem Mh.firstB {a b out:List Keyed}{na nb:Nat} (g:Mh lt a b out na nb) (sa:Wn lt a) (ha:na<=a.length) (hb:nb<=b.length) (h:nb=1) (hf:∀x,b[0]? = some x -> ∀y∈a,lt y x=false):Mgd lt a b (b.take nb++a.take na++out.reverse):=by
 have:=ZhU (Mg.lastA (lt:=fun x y=>lt y x) g (List.pairwise_reverse.mpr sa) (by rw [List.length_reverse];lia) fun x hx y hy=>by
  rw [Ud (by lia) hb,h] at hx
  exact hf x hx y (by simpa using hy))
 rw [UN ha,UN hb] at this
 simpa using this
theorem Mh.takeA (C:Wo lt) {a b out:List Keyed}{na nb:Nat} (g:Mh lt a b out na nb) (sa:Wn lt a) (sb:Wn lt b) (h0:0<na) (ha:na<=a.length) (hb:nb<=b.length) {x:Keyed} (e:a[na-1]? = some x) (h:0<nb -> ∀y,b[nb-1]? = some y->lt x y=false):Mh lt a b (out ++ [x]) (na-1) nb:=by
 have:=Mg.takeB (lt:=fun x y=>lt y x) C.flip g (List.pairwise_reverse.mpr sb) (List.pairwise_reverse.mpr sa) (x:=x) (by rw [Ud h0 ha];exact e) fun y hy=>by
  have hp:0<nb:=by
   have:=(List.getElem?_eq_some_iff.mp hy).1
   rw [List.length_reverse] at this
   lia
  rw [Ud hp hb] at hy
  exact h hp y hy
 unfold Mh
 rw [show a.length-(na-1)=a.length-na+1 by lia]
 exact this
theorem Mh.takeB (C:Wo lt) {a b out:List Keyed}{na nb:Nat} (g:Mh lt a b out na nb) (sa:Wn lt a) (sb:Wn lt b) (h0:0<nb) (ha:na<=a.length) (hb:nb<=b.length) {x:Keyed} (e:b[nb-1]? = some x) (h:0<na -> ∀y,a[na-1]? = some y->lt x y=false):Mh lt a b (out ++ [x]) na (nb-1):=by
 have:=Mg.takeA (lt:=fun x y=>lt y x) C.flip g (List.pairwise_reverse.mpr sb) (List.pairwise_reverse.mpr sa) (x:=x) (by rw [Ud h0 hb];exact e) fun y hy=>by
  have hp:0<na:=by
   have:=(List.getElem?_eq_some_iff.mp hy).1
   rw [List.length_reverse] at this
   lia
  rw [Ud hp ha] at hy
  exact h hp y hy
 unfold Mh
 rw [show b.length-(nb-1)=b.length-nb+1 by lia]
 exact this
theorem Mh.takeAs (C:Wo lt) {a b out:List Keyed}{na nb:Nat} (g:Mh lt a b out na nb) (sa:Wn lt a) (sb:Wn lt b) (ha:na<=a.length) (hb:nb<=b.length) {m:Nat} (hm:m<=na) (h:∀i,m<=i->i<na -> ∀x y,a[i]? = some x->b[nb-1]? = some y->lt x y=false):Mh lt a b (out++((a.drop m).take (na-m)).reverse) m nb:=by
 have:=Mg.takeBs (lt:=fun x y=>lt y x) C.flip (List.pairwise_reverse.mpr sb) (List.pairwise_reverse.mpr sa) g (na-m) (by rw [List.length_reverse];lia) fun i hi x y hx hy=>by
  have hp:0<nb:=by
   have:=(List.getElem?_eq_some_iff.mp hy).1
   rw [List.length_reverse] at this
   lia
  rw [Ud hp hb] at hy
  rw [show a.length-na+i=a.length-(na-i) by lia,Ud (by lia) (by lia)] at hx
  exact h (na-i-1) (by lia) (by lia) x y hx hy
 unfold Mh
 rw [Zfp ha hm] at this
 rw [show a.length-m=a.length-na+(na-m) by lia]
 exact this
theorem Mh.takeBs (C:Wo lt) {a b out:List Keyed}{na nb:Nat} (g:Mh lt a b out na nb) (sa:Wn lt a) (sb:Wn lt b) (ha:na<=a.length) (hb:nb<=b.length) {m:Nat} (hm:m<=nb) (h:∀i,m<=i->i<nb -> ∀x y,b[i]? = some x->a[na-1]? = some y->lt x y=false):Mh lt a b (out++((b.drop m).take (nb-m)).reverse) na m:=by
 have:=Mg.takeAs (lt:=fun x y=>lt y x) C.flip (List.pairwise_reverse.mpr sb) (List.pairwise_reverse.mpr sa) g (nb-m) (by rw [List.length_reverse];lia) fun i hi x y hx hy=>by
  have hp:0<na:=by
   have:=(List.getElem?_eq_some_iff.mp hy).1
   rw [List.length_reverse] at this
   lia
  rw [Ud hp ha] at hy
  rw [show b.length-nb+i=b.length-(nb-i) by lia,Ud (by lia) (by lia)] at hx
  exact h (nb-i-1) (by lia) (by lia) x y hx hy
 unfold Mh
 rw [Zfp hb hm] at this
 rw [show b.length-m=b.length-nb+(nb-m) by lia]
 exact this
theorem ZK {l:Array Keyed}{m n:Nat}:(l.extract m n).toList=(l.toList.drop m).take (n-m):=by
 rw [Array.toList_extract,List.extract_eq_take_drop]
theorem JL {l:Array Keyed}{n:Nat}:(l.extract 0 n).toList=l.toList.take n:=by
 rw [Array.toList_extract,List.extract_eq_take_drop];simp
theorem Zg2 (C:Cmp prog w A E s kd D lt) {a b:Array Keyed}{st:SortSt}{Q:Array Keyed->SortSt->Prop} (hda:∀x∈a.toList,D x) (hdb:∀x∈b.toList,D x) (sa:Wn lt a.toList) (sb:Wn lt b.toList) (hs:kindOf st=kd)
  (na0:0<a.toList.length) (nb0:0<b.toList.length) (hf:∀x y,a.toList[0]? = some x->b.toList[0]? = some y->lt x y=false) (hl:∀x,a.toList[a.toList.length-1]? = some x -> ∀y∈b.toList,lt x y=false)
  (h:∀r st',Mgd lt a.toList b.toList r.toList->Eqg st st'->Q r st'):wpS (model prog w) A E s (Zj1 a b) Q st:=by
 have za:a.size=a.toList.length:=by simp
 have zb:b.size=b.toList.length:=by simp
 have ea:∀i,i<a.toList.length -> ∃x,a[i]? = some x/\D x/\a.toList[i]? = some x:=fun i hi=>⟨a.toList[i],by rw [<- Array.getElem?_toList];exact List.getElem?_eq_getElem hi,hda _ (List.getElem_mem hi),List.getElem?_eq_getElem hi⟩
 have eb:∀i,i<b.toList.length -> ∃x,b[i]? = some x/\D x/\b.toList[i]? = some x:=fun i hi=>⟨b.toList[i],by rw [<- Array.getElem?_toList];exact List.getElem?_eq_getElem hi,hdb _ (List.getElem_mem hi),List.getElem?_eq_getElem hi⟩
 have hfb:∀x,b.toList[0]? = some x -> ∀y∈a.toList,lt y x=false:=fun x hx y hy=>by
  obtain ⟨i,hi,rfl⟩:=List.getElem_of_mem hy
  obtain ⟨a0,_,_,la0⟩:=ea 0 na0
  exact C.wo.leT (hf a0 x la0 hx) (U2 C.wo sa la0 (List.getElem?_eq_getElem hi) (Nat.zero_le _))
 refine wpS_bind (wpS_lift (wpAny_rule ⟨rfl,?_⟩))
 obtain ⟨x0,hx0,dx0,lx0⟩:=ea (a.size-1) (by lia)
 refine wpS_bind (Yg hx0 ?_)
 have g0:Mh lt a.toList b.toList [x0] (a.size-1) b.size:=by
  have g:Mh lt a.toList b.toList [] a.toList.length b.toList.length:=⟨.nil,by
   simp only [Nat.sub_self,List.drop_zero,List.nil_append]
   exact List.Perm.refl _,fun p hp=>(by cases hp)⟩
  have:=g.takeA C.wo sa sb na0 (Nat.le_refl _) (Nat.le_refl _) (by rw [<- za];exact lx0) fun _ y hy=>hl x0 (by rw [<- za];exact lx0) y (List.mem_of_getElem? hy)
  rw [za,zb]
  exact this
 show wpS _ _ _ _ (if (a.size-1==0)=true then _ else if (b.size==1)=true then _ else _) _ _
 refine ZN (fun c1=>?_) (fun c1=>ZN (fun c2=>?_) (fun c2=>?_))
 ·refine wpS_pure (h _ st ?_ (Eqg.refl st))
  have:=g0.done sa sb (by lia) (by lia) (.inl (eq_of_beq c1))
  simp only [Array.toList_append,Array.toList_reverse,JL] at this ⊢
  exact this
 ·refine wpS_pure (h _ st ?_ (Eqg.refl st))
  have:=g0.firstB sa (by lia) (by lia) (eq_of_beq c2) hfb
  simp only [Array.toList_append,Array.toList_reverse,JL] at this ⊢
  exact this
 have c1':=Z1 c1
 have c2':=Z1 c2
 refine wpS_bind (wpS_get ?_)
 refine wpS_bind (wpS_mono (wpS_forRange (I:=fun x c st'=>∃(out:Array Keyed) (na nb mg:Nat),c=(none,na,nb,out,mg)/\Mh lt a.toList b.toList out.toList na nb/\0<na/\na<=a.toList.length/\1<nb/\nb<=b.toList.length/\x+na+nb<=a.size+b.size/\Eqg st st')
  (Q:=fun c st'=>∃r,c.1=some r/\Mgd lt a.toList b.toList r.toList/\Eqg st st') ?_ ?_ ⟨#[x0],a.size-1,b.size,_,rfl,g0,by lia,by lia,by lia,by lia,by lia,Eqg.refl st⟩) ?_)
 ·rintro x c st1 _ hx ⟨out,na,nb,mg,rfl,g,l1,l1',l2,l2',l3,q1⟩
  refine wpS_bind (wpS_mono (wpS_forRange (I:=fun y c st'=>st'=st1 /\ ∃(out:Array Keyed) (na nb ac bc:Nat),c=(none,na,nb,out,ac,bc)/\Mh lt a.toList b.toList out.toList na nb/\0<na/\na<=a.toList.length/\1<nb/\nb<=b.toList.length/\x+y+na+nb<=a.size+b.size)
   (Q:=fun c st'=>st'=st1/\((∃(out:Array Keyed) (na nb ac bc:Nat),c=(none,na,nb,out,ac,bc)/\Mh lt a.toList b.toList out.toList na nb/\0<na/\na<=a.toList.length/\1<nb/\nb<=b.toList.length/\x+1+na+nb<=a.size+b.size) ∨ ∃r,c.1=some r/\Mgd lt a.toList b.toList r.toList)) ?_ ?_ ⟨rfl,out,na,nb,0,0,rfl,g,l1,l1',l2,l2',l3⟩) ?_)
  ·rintro y c st' _ hy ⟨rfl,out,na,nb,ac,bc,rfl,g,l1,l1',l2,l2',l3⟩
   obtain ⟨xb,hb,db,lb⟩:=eb (nb-1) (by lia)
   obtain ⟨xa,ha,da,la⟩:=ea (na-1) (by lia)
   refine wpS_bind (Yg hb (wpS_bind (Yg ha (wpS_bind (C.cmp xb xa _ _ db da (q1.1.trans hs) ?_)))))
   cases e:lt xb xa with
   | true=>
    refine wpS_bind (Yg ha ?_)
    have g':=g.takeA C.wo sa sb l1 l1' l2' la fun _ y hy=>by rw [lb] at hy;cases hy;exact C.wo.asym _ _ e
    refine ZN (c:=(na-1==0)) (fun c3=>?_) (fun c3=>?_)
    ·refine wpS_pure ⟨rfl,.inr ⟨_,rfl,?_⟩⟩
     have:=g'.done sa sb (by lia) l2' (.inl (eq_of_beq c3))
     simp only [Array.toList_append,Array.toList_push,Array.toList_reverse,JL,ZK] at this ⊢
     exact this
    ·have c4:=Z1 c3
     dsimp only
     split
     ·exact wpS_pure ⟨rfl,.inl ⟨out.push xa,na-1,nb,_,_,rfl,by rw [Array.toList_push];exact g',by lia,by lia,l2,l2',by lia⟩⟩
     ·exact wpS_pure ⟨rfl,out.push xa,na-1,nb,_,_,rfl,by rw [Array.toList_push];exact g',by lia,by lia,l2,l2',by lia⟩
   | false=>
    refine wpS_bind (Yg hb ?_)
    have g':=g.takeB C.wo sa sb (by lia) l1' l2' lb fun _ y hy=>by rw [la] at hy;cases hy;exact e
    refine ZN (c:=(nb-1==1)) (fun c3=>?_) (fun c3=>?_)
    ·refine wpS_pure ⟨rfl,.inr ⟨_,rfl,?_⟩⟩
     have:=g'.firstB sa l1' (by lia) (eq_of_beq c3) hfb
     simp only [Array.toList_append,Array.toList_push,Array.toList_reverse,JL,ZK] at this ⊢
     exact this
    ·have c4:=Z1 c3
     dsimp only
     split
     ·exact wpS_pure ⟨rfl,.inl ⟨out.push xb,na,nb-1,_,_,rfl,by rw [Array.toList_push];exact g',l1,l1',by lia,by lia,by lia⟩⟩
     ·exact wpS_pure ⟨rfl,out.push xb,na,nb-1,_,_,rfl,by rw [Array.toList_push];exact g',l1,l1',by lia,by lia,by lia⟩
  ·rintro c st' ⟨rfl,out,na,nb,ac,bc,rfl,g,l1,l1',l2,l2',l3⟩
   lia
  ·rintro c st' ⟨rfl,⟨out,na,nb,ac,bc,rfl,g,l1,l1',l2,l2',l3⟩ | ⟨r,hr,hm⟩⟩
   ·refine wpS_bind (wpS_lift (wpAny_rule ⟨rfl,?_⟩))
    refine wpS_bind (wpS_mono (wpS_forRange (I:=fun y c st'=>Eqg st st' /\ ∃(out:Array Keyed) (na nb mg ac bc:Nat),c=(none,na,nb,out,mg,ac,bc)/\Mh lt a.toList b.toList out.toList na nb/\0<na/\na<=a.toList.length/\1<nb/\nb<=b.toList.length/\x+1+y+na+nb<=a.size+b.size)
     (Q:=fun c st'=>Eqg st st'/\((∃(out:Array Keyed) (na nb mg ac bc:Nat),c=(none,na,nb,out,mg,ac,bc)/\Mh lt a.toList b.toList out.toList na nb/\0<na/\na<=a.toList.length/\1<nb/\nb<=b.toList.length/\x+1+na+nb<=a.size+b.size) ∨ ∃r,c.1=some r/\Mgd lt a.toList b.toList r.toList)) ?_ ?_ ⟨q1,out,na,nb,_,ac,bc,rfl,g,l1,l1',l2,l2',l3⟩) ?_)
    ·rintro y c st2 _ hy ⟨q2,out,na,nb,mg,ac,bc,rfl,g,l1,l1',l2,l2',l3⟩
     obtain ⟨xb,hb,db,lb⟩:=eb (nb-1) (by lia)
     refine JO (k:=mg) (n:=1) (fun _=>?_) (fun _=>?_)
     all_goals (
      refine wpS_bind (wpS_modify ?_)
      refine wpS_bind (Yg hb ?_)
      refine wpS_bind (Jo (left:=false) (arr:=a) (base:=0) (n:=na) (hint:=na-1) C db (fun i hi=>let ⟨x,h1,h2,_⟩:=ea (0+i) (by lia);⟨x,h1,h2⟩) (by lia) (q2.1.trans hs) (Gr C sa (by lia)) fun k hk k1 k2=>?_)
      have gk:=g.takeAs C.wo sa sb (by lia) (by lia) (m:=k) (by lia) fun i h1 h2 x y hx hy=>by
       have:=k2 i h1 h2
       rw [JN (by rw [Nat.zero_add];exact hx)] at this
       rw [lb] at hy
       cases hy
       exact C.wo.asym _ _ (by simpa using this)
      have m3:0<k -> ∀y,a.toList[k-1]? = some y->lt xb y=false:=fun hp y hy=>by
       have:=k1 (k-1) (by lia)
       rw [JN (by rw [Nat.zero_add];exact hy)] at this
       simpa using this
      refine JO (k:=na-k) (n:=0) (fun k0=>?_) (fun k0=>?_)
      ·refine ZN (c:=(k==0)) (fun c3=>?_) (fun c3=>?_)
       ·refine wpS_pure ⟨q2,.inr ⟨_,rfl,?_⟩⟩
        have:=gk.done sa sb (by lia) (by lia) (.inl (eq_of_beq c3))
        simp only [Array.toList_append,Array.toList_push,Array.toList_reverse,JL,ZK] at this ⊢
        exact this
       ·have c3':=Z1 c3
        have g1:Mh lt a.toList b.toList (out++(a.extract k na).reverse).toList k nb:=by
         simp only [Array.toList_append,Array.toList_push,Array.toList_reverse,JL,ZK] at gk ⊢
         exact gk
        refine wpS_bind (Yg hb ?_)
        have g2:=g1.takeB C.wo sa sb (by lia) (by lia) (by lia) lb m3
        refine ZN (c:=(nb-1==1)) (fun c5=>?_) (fun c5=>?_)
        ·refine wpS_pure ⟨q2,.inr ⟨_,rfl,?_⟩⟩
         have:=g2.firstB sa (by lia) (by lia) (eq_of_beq c5) hfb
         simp only [Array.toList_append,Array.toList_push,Array.toList_reverse,JL,ZK] at this ⊢
         exact this
        ·have c6:=Z1 c5
         obtain ⟨xa,ha,da,la⟩:=ea (k-1) (by lia)
         refine wpS_bind (Yg ha ?_)
         refine wpS_bind (Jo (left:=true) (arr:=b) (base:=0) (n:=nb-1) (hint:=nb-1-1) C da (fun i hi=>let ⟨x,h1,h2,_⟩:=eb (0+i) (by lia);⟨x,h1,h2⟩) (by lia) (q2.1.trans hs) (Gr C sb (by lia)) fun k' hk' k1' k2'=>?_)
         have gk':=g2.takeBs C.wo sa sb (by lia) (by lia) (m:=k') (by lia) fun i h1 h2 x y hx hy=>by
          have:=k2' i h1 h2
          rw [YX (by rw [Nat.zero_add];exact hx)] at this
          rw [la] at hy
          cases hy
          exact this
         have m5:0<k' -> ∀y,b.toList[k'-1]? = some y->lt xa y=false:=fun hp y hy=>by
          have:=k1' (k'-1) (by lia)
          rw [YX (by rw [Nat.zero_add];exact hy)] at this
          exact C.wo.asym _ _ this
         refine JO (k:=nb-1-k') (n:=0) (fun k0'=>?_) (fun k0'=>?_)
         ·refine ZN (c:=(k'==1)) (fun c9=>?_) (fun c9=>ZN (c:=(k'==0)) (fun c10=>?_) (fun c10=>?_))
          ·refine wpS_pure ⟨q2,.inr ⟨_,rfl,?_⟩⟩
           have:=gk'.firstB sa (by lia) (by lia) (eq_of_beq c9) hfb
           simp only [Array.toList_append,Array.toList_push,Array.toList_reverse,JL,ZK] at this ⊢
           exact this
          ·refine wpS_pure ⟨q2,.inr ⟨_,rfl,?_⟩⟩
           have:=gk'.done sa sb (by lia) (by lia) (.inr (eq_of_beq c10))
           simp only [Array.toList_append,Array.toList_push,Array.toList_reverse,JL,ZK] at this ⊢
           exact this
          ·have c9':=Z1 c9
           have c10':=Z1 c10
           have m4:=m5
           have g3:Mh lt a.toList b.toList (((out++(a.extract k na).reverse).push xb)++(b.extract k' (nb-1)).reverse).toList (k) k':=by
            simp only [Array.toList_append,Array.toList_push,Array.toList_reverse,JL,ZK] at gk' ⊢
            exact gk'
           refine wpS_bind (Yg ha ?_)
           have g4:=g3.takeA C.wo sa sb (by lia) (by lia) (by lia) la m4
           refine ZN (c:=((k)-1==0)) (fun c7=>?_) (fun c7=>?_)
           ·refine wpS_pure ⟨q2,.inr ⟨_,rfl,?_⟩⟩
            have:=g4.done sa sb (by lia) (by lia) (.inl (eq_of_beq c7))
            simp only [Array.toList_append,Array.toList_push,Array.toList_reverse,JL,ZK] at this ⊢
            exact this
           ·have c8:=Z1 c7
            refine ZN (fun _=>?_) (fun _=>?_)
            ·exact wpS_pure ⟨q2,.inl ⟨(((out++(a.extract k na).reverse).push xb)++(b.extract k' (nb-1)).reverse).push xa,(k)-1,k',_,_,_,rfl,by rw [Array.toList_push];exact g4,by lia,by lia,by lia,by lia,by lia⟩⟩
            ·exact wpS_pure ⟨q2,(((out++(a.extract k na).reverse).push xb)++(b.extract k' (nb-1)).reverse).push xa,(k)-1,k',_,_,_,rfl,by rw [Array.toList_push];exact g4,by lia,by lia,by lia,by lia,by lia⟩
         ·obtain rfl:k'=nb-1:=by lia
          have m4:=m5
          have g3:Mh lt a.toList b.toList ((out++(a.extract k na).reverse).push xb).toList (k) (nb-1):=by
           rw [Array.toList_push]
           exact g2
          refine wpS_bind (Yg ha ?_)
          have g4:=g3.takeA C.wo sa sb (by lia) (by lia) (by lia) la m4
          refine ZN (c:=((k)-1==0)) (fun c7=>?_) (fun c7=>?_)
          ·refine wpS_pure ⟨q2,.inr ⟨_,rfl,?_⟩⟩
           have:=g4.done sa sb (by lia) (by lia) (.inl (eq_of_beq c7))
           simp only [Array.toList_append,Array.toList_push,Array.toList_reverse,JL,ZK] at this ⊢
           exact this
          ·have c8:=Z1 c7
           refine ZN (fun _=>?_) (fun _=>?_)
           ·exact wpS_pure ⟨q2,.inl ⟨((out++(a.extract k na).reverse).push xb).push xa,(k)-1,(nb-1),_,_,_,rfl,by rw [Array.toList_push];exact g4,by lia,by lia,by lia,by lia,by lia⟩⟩
           ·exact wpS_pure ⟨q2,((out++(a.extract k na).reverse).push xb).push xa,(k)-1,(nb-1),_,_,_,rfl,by rw [Array.toList_push];exact g4,by lia,by lia,by lia,by lia,by lia⟩
      ·obtain rfl:k=na:=by lia
       have g1:=g
       refine wpS_bind (Yg hb ?_)
       have g2:=g1.takeB C.wo sa sb (by lia) (by lia) (by lia) lb m3
       refine ZN (c:=(nb-1==1)) (fun c5=>?_) (fun c5=>?_)
       ·refine wpS_pure ⟨q2,.inr ⟨_,rfl,?_⟩⟩
        have:=g2.firstB sa (by lia) (by lia) (eq_of_beq c5) hfb
        simp only [Array.toList_append,Array.toList_push,Array.toList_reverse,JL,ZK] at this ⊢
        exact this
       ·have c6:=Z1 c5
        obtain ⟨xa,ha,da,la⟩:=ea (k-1) (by lia)
        refine wpS_bind (Yg ha ?_)
        refine wpS_bind (Jo (left:=true) (arr:=b) (base:=0) (n:=nb-1) (hint:=nb-1-1) C da (fun i hi=>let ⟨x,h1,h2,_⟩:=eb (0+i) (by lia);⟨x,h1,h2⟩) (by lia) (q2.1.trans hs) (Gr C sb (by lia)) fun k' hk' k1' k2'=>?_)
        have gk':=g2.takeBs C.wo sa sb (by lia) (by lia) (m:=k') (by lia) fun i h1 h2 x y hx hy=>by
         have:=k2' i h1 h2
         rw [YX (by rw [Nat.zero_add];exact hx)] at this
         rw [la] at hy
         cases hy
         exact this
        have m5:0<k' -> ∀y,b.toList[k'-1]? = some y->lt xa y=false:=fun hp y hy=>by
         have:=k1' (k'-1) (by lia)
         rw [YX (by rw [Nat.zero_add];exact hy)] at this
         exact C.wo.asym _ _ this
        refine JO (k:=nb-1-k') (n:=0) (fun k0'=>?_) (fun k0'=>?_)
        ·refine ZN (c:=(k'==1)) (fun c9=>?_) (fun c9=>ZN (c:=(k'==0)) (fun c10=>?_) (fun c10=>?_))
         ·refine wpS_pure ⟨q2,.inr ⟨_,rfl,?_⟩⟩
          have:=gk'.firstB sa (by lia) (by lia) (eq_of_beq c9) hfb
          simp only [Array.toList_append,Array.toList_push,Array.toList_reverse,JL,ZK] at this ⊢
          exact this
         ·refine wpS_pure ⟨q2,.inr ⟨_,rfl,?_⟩⟩
          have:=gk'.done sa sb (by lia) (by lia) (.inr (eq_of_beq c10))
          simp only [Array.toList_append,Array.toList_push,Array.toList_reverse,JL,ZK] at this ⊢
          exact this
         ·have c9':=Z1 c9
          have c10':=Z1 c10
          have m4:=m5
          have g3:Mh lt a.toList b.toList ((out.push xb)++(b.extract k' (nb-1)).reverse).toList (k) k':=by
           simp only [Array.toList_append,Array.toList_push,Array.toList_reverse,JL,ZK] at gk' ⊢
           exact gk'
          refine wpS_bind (Yg ha ?_)
          have g4:=g3.takeA C.wo sa sb (by lia) (by lia) (by lia) la m4
          refine ZN (c:=((k)-1==0)) (fun c7=>?_) (fun c7=>?_)
          ·refine wpS_pure ⟨q2,.inr ⟨_,rfl,?_⟩⟩
           have:=g4.done sa sb (by lia) (by lia) (.inl (eq_of_beq c7))
           simp only [Array.toList_append,Array.toList_push,Array.toList_reverse,JL,ZK] at this ⊢
           exact this
          ·have c8:=Z1 c7
           refine ZN (fun _=>?_) (fun _=>?_)
           ·exact wpS_pure ⟨q2,.inl ⟨((out.push xb)++(b.extract k' (nb-1)).reverse).push xa,(k)-1,k',_,_,_,rfl,by rw [Array.toList_push];exact g4,by lia,by lia,by lia,by lia,by lia⟩⟩
           ·exact wpS_pure ⟨q2,((out.push xb)++(b.extract k' (nb-1)).reverse).push xa,(k)-1,k',_,_,_,rfl,by rw [Array.toList_push];exact g4,by lia,by lia,by lia,by lia,by lia⟩
        ·obtain rfl:k'=nb-1:=by lia
         have m4:=m5
         have g3:Mh lt a.toList b.toList (out.push xb).toList (k) (nb-1):=by
          rw [Array.toList_push]
          exact g2
         refine wpS_bind (Yg ha ?_)
         have g4:=g3.takeA C.wo sa sb (by lia) (by lia) (by lia) la m4
         refine ZN (c:=((k)-1==0)) (fun c7=>?_) (fun c7=>?_)
         ·refine wpS_pure ⟨q2,.inr ⟨_,rfl,?_⟩⟩
          have:=g4.done sa sb (by lia) (by lia) (.inl (eq_of_beq c7))
          simp only [Array.toList_append,Array.toList_push,Array.toList_reverse,JL,ZK] at this ⊢
          exact this
         ·have c8:=Z1 c7
          refine ZN (fun _=>?_) (fun _=>?_)
          ·exact wpS_pure ⟨q2,.inl ⟨(out.push xb).push xa,(k)-1,(nb-1),_,_,_,rfl,by rw [Array.toList_push];exact g4,by lia,by lia,by lia,by lia,by lia⟩⟩
          ·exact wpS_pure ⟨q2,(out.push xb).push xa,(k)-1,(nb-1),_,_,_,rfl,by rw [Array.toList_push];exact g4,by lia,by lia,by lia,by lia,by lia⟩)
    ·rintro c st' ⟨q2,out,na,nb,mg,ac,bc,rfl,g,l1,l1',l2,l2',l3⟩
     lia
    ·rintro c st' ⟨q2,⟨out,na,nb,mg,ac,bc,rfl,g,l1,l1',l2,l2',l3⟩ | ⟨r,hr,hm⟩⟩
     ·exact wpS_bind (wpS_modify (wpS_pure ⟨out,na,nb,_,rfl,g,l1,l1',l2,l2',l3,q2⟩))
     ·obtain ⟨c1,c2⟩:=c
      dsimp only at hr
      subst hr
      exact wpS_pure ⟨r,rfl,hm,q2⟩
   ·obtain ⟨c1,c2⟩:=c
    dsimp only at hr
    subst hr
    exact wpS_pure ⟨r,rfl,hm,q1⟩
 ·rintro c st' ⟨out,na,nb,mg,rfl,g,l1,l1',l2,l2',l3,q1⟩
  lia
 ·rintro c st' ⟨r,hr,hm,q1⟩
  obtain ⟨c1,c2⟩:=c
  dsimp only at hr
  subst hr
  exact wpS_pure (h r st' hm q1)
end
def ZiK:Nat->Nat->StateT SortSt Sem (Option Nat):=sortPriv% PySem.Builtin.countRun
def ZfI:Nat->Nat->Nat->StateT SortSt Sem Bool:=sortPriv% PySem.Builtin.binarySort
def Zh6:StateT SortSt Sem Unit:=sortPriv% PySem.Builtin.sortRuns
theorem Zfw:∀(M:List Keyed) (n o:Nat) (arr:Array Keyed) (A B C:List Keyed),arr.toList=A++(B++C)->A.length=o+n->B.length=M.length ->
  ((M.zipIdx n).foldl (fun a x=>match x with | (p,j)=>a.setIfInBounds (o+j) p) arr).toList=A++(M++C)
 | [],n,o,arr,A,B,C,h,_,hb=>by
  obtain rfl:B = []:=List.length_eq_zero_iff.mp hb
  simpa using h
 | x::M,n,o,arr,A,[],C,h,_,hb=>by cases hb
 | x::M,n,o,arr,A,y::B,C,h,ha,hb=>by
  rw [List.zipIdx_cons,List.foldl_cons]
  have e:(arr.setIfInBounds (o+n) x).toList=(A ++ [x])++(B++C):=by
   rw [Array.toList_setIfInBounds,h,<- ha,List.set_append_right _ _ (Nat.le_refl _),Nat.sub_self]
   simp
  have:=Zfw M (n+1) o _ (A ++ [x]) B C e (by simp;lia) (by simpa using hb)
  rw [this]
  simp
section
variable {prog:Program}{w:World}{A:Around}{E:Value->Shared->Prop}{s:Shared}{kd:SortKind}{D:Keyed->Prop}{lt:Keyed->Keyed->Bool}
theorem ZlA {M:Model}{st st':SortSt}{Q:PUnit->SortSt->Prop} (h:Q ⟨⟩ st'):wpS M A E s (set st':StateT SortSt Sem PUnit) Q st:=by
 unfold wpS;rw [StateT.run_set];exact wpAny_pure ⟨rfl,h⟩
theorem UU {left:Bool}{key:Keyed}{arr:Array Keyed}{base i:Nat}{x:Keyed} (e:arr.toList[base+i]? = some x):byd lt left key arr base i=if left=true then lt x key else !lt key x:=by
 cases left with
 | true=>rw [YX e];rfl
 | false=>rw [JN e];rfl
theorem ZdX (C:Wo lt) {left:Bool}{key:Keyed}{arr:Array Keyed}{base:Nat}{X:List Keyed} (hX:∀i,i<X.length->arr.toList[base+i]? = X[i]?) (sX:Wn lt X):
  ∀i j,i<=j->j<X.length->byd lt left key arr base j=true->byd lt left key arr base i=true:=fun i j hij hj h=>by
 have hi:i<X.length:=by lia
 have ei:arr.toList[base+i]? = some X[i]:=by rw [hX i hi,List.getElem?_eq_getElem hi]
 have ej:arr.toList[base+j]? = some X[j]:=by rw [hX j hj,List.getElem?_eq_getElem hj]
 have le:=U2 C sX (List.getElem?_eq_getElem (by lia:i<X.length)) (List.getElem?_eq_getElem hj) hij
 rw [UU ej] at h
 rw [UU ei]
 cases left with
 | true=>
  simp only [if_true] at h ⊢
  rcases C.neg _ (X[i]'(by lia)) _ h with z | z
  ·rw [z] at le;cases le
  ·exact z
 | false=>
  simp only [Bool.false_eq_true,if_false] at h ⊢
  cases z:lt key (X[i]'(by lia)) with
  | false=>rfl
  | true=>
   rcases C.neg _ (X[j]'hj) _ z with y | y
   ·rw [y] at h;cases h
   ·rw [y] at le;cases le
theorem ZgI (C:Cmp prog w A E s kd D lt) {i sa na pw sb nb pw2:Nat}{st:SortSt}{P X Y S:List Keyed}{Q:Bool->SortSt->Prop}
  (hp1:(pendingOf st)[i]? = some (sa,na,pw)) (hp2:(pendingOf st)[i+1]? = some (sb,nb,pw2)) (hA:(arrOf st).toList=P++(X++(Y++S))) (hsa:sa=P.length) (hna:na=X.length) (hsb:sb=P.length+X.length) (hnb:nb=Y.length)
  (x0:0<X.length) (y0:0<Y.length) (sX:Wn lt X) (sY:Wn lt Y) (hD:∀x∈(arrOf st).toList,D x) (hk:kindOf st=kd) (hf:failedOf st=none)
  (h:∀Z st',Wn lt Z->Z.Perm (X++Y)->(arrOf st').toList=P++(Z++S)->pendingOf st'=((pendingOf st).setIfInBounds i (sa,na+nb,pw)).eraseIdxIfInBounds (i+1)->kindOf st'=kd->failedOf st'=none->Q true st'):
  wpS (model prog w) A E s (ZfU i) Q st:=by
 subst hsa hna hsb hnb
 have eX:∀j,j<X.length->(arrOf st).toList[P.length+j]? = X[j]?:=fun j hj=>by
  rw [hA,List.getElem?_append_right (by omega),Nat.add_sub_cancel_left,List.getElem?_append_left hj]
 have eY:∀j,j<Y.length->(arrOf st).toList[P.length+X.length+j]? = Y[j]?:=fun j hj=>by
  rw [hA,List.getElem?_append_right (by omega),List.getElem?_append_right (by omega),List.getElem?_append_left (by omega)]
  congr 1;omega
 have dX:∀x∈X,D x:=fun x hx=>hD x (by rw [hA];simp [hx])
 have dY:∀x∈Y,D x:=fun x hx=>hD x (by rw [hA];simp [hx])
 refine wpS_bind (wpS_get ?_)
 rw [show (sortPriv% PySem.Builtin.SortState.pending) st=pendingOf st from rfl,hp1,hp2]
 refine wpS_bind (ZlA ?_)
 have ey0:(arrOf st)[P.length+X.length]? = some (Y[0]'y0):=by
  have:=eY 0 y0
  rw [<- Array.getElem?_toList,Nat.add_zero] at *
  rw [this,List.getElem?_eq_getElem y0]
 refine wpS_bind (Yg ey0 ?_)
 refine wpS_bind (Jo (left:=false) (arr:=arrOf st) (base:=P.length) (n:=X.length) (hint:=0) C (dY _ (List.getElem_mem y0)) (fun j hj=>⟨X[j],by rw [<- Array.getElem?_toList,eX j hj,List.getElem?_eq_getElem hj],dX _ (List.getElem_mem hj)⟩) x0 hk (ZdX C.wo eX sX) fun k hk1 k1 k2=>?_)
 have f1:∀j (hj:j<X.length),j<k->lt (Y[0]'y0) X[j]=false:=fun j hj hjk=>by
  have:=k1 j hjk
  rw [UU (by rw [eX j hj,List.getElem?_eq_getElem hj])] at this
  simpa using this
 have f2:∀j (hj:j<X.length),k<=j->lt (Y[0]'y0) X[j]=true:=fun j hj hjk=>by
  have:=k2 j hjk hj
  rw [UU (by rw [eX j hj,List.getElem?_eq_getElem hj])] at this
  simpa using this
 have lowX:∀x∈X.take k,∀y∈Y,lt y x=false:=fun x hx y hy=>by
  obtain ⟨j,hj,rfl⟩:=List.getElem_of_mem hx
  rw [List.length_take] at hj
  rw [List.getElem_take]
  obtain ⟨j2,hj2,rfl⟩:=List.getElem_of_mem hy
  exact C.wo.leT (f1 j (by omega) (by omega)) (U2 C.wo sY (List.getElem?_eq_getElem y0) (List.getElem?_eq_getElem hj2) (Nat.zero_le _))
 refine ZN (c:=(X.length-k==0)) (fun c1=>?_) (fun c1=>?_)
 ·refine wpS_pure (h (X++Y) _ ?_ (List.Perm.refl _) (by rw [List.append_assoc];exact hA) rfl hk hf)
  have ek:X.take k=X:=List.take_of_length_le (by have:=eq_of_beq c1;omega)
  rw [ek] at lowX
  exact List.pairwise_append.mpr ⟨sX,sY,lowX⟩
 have c1':=Z1 c1
 have exl:(arrOf st)[P.length+k+(X.length-k)-1]? = some (X[X.length-1]'(by omega)):=by
  have:=eX (X.length-1) (by omega)
  rw [<- Array.getElem?_toList,show P.length+k+(X.length-k)-1=P.length+(X.length-1) by omega,this,List.getElem?_eq_getElem (by omega)]
 refine wpS_bind (Yg exl ?_)
 refine wpS_bind (Jo (left:=true) (arr:=arrOf st) (base:=P.length+X.length) (n:=Y.length) (hint:=Y.length-1) C (dX _ (List.getElem_mem (by omega))) (fun j hj=>⟨Y[j],by rw [<- Array.getElem?_toList,eY j hj,List.getElem?_eq_getElem hj],dY _ (List.getElem_mem hj)⟩) (by omega) hk (ZdX C.wo eY sY) fun m hm1 m1 m2=>?_)
 have f3:∀j (hj:j<Y.length),j<m->lt Y[j] (X[X.length-1]'(by omega))=true:=fun j hj hjm=>by
  have:=m1 j hjm
  rw [UU (by rw [eY j hj,List.getElem?_eq_getElem hj])] at this
  simpa using this
 have f4:∀j (hj:j<Y.length),m<=j->lt Y[j] (X[X.length-1]'(by omega))=false:=fun j hj hjm=>by
  have:=m2 j hjm hj
  rw [UU (by rw [eY j hj,List.getElem?_eq_getElem hj])] at this
  simpa using this
 have m0:m≠0:=fun z=>by
  have:=f4 0 y0 (by omega)
  rw [f2 (X.length-1) (by omega) (by omega)] at this
  cases this
 refine ZN (c:=(m==0)) (fun c2=>absurd (eq_of_beq c2) m0) (fun c2=>?_)
 have tx:((arrOf st).extract (P.length+k) (P.length+X.length)).toList=X.drop k:=by
  rw [ZK,hA,List.drop_append,List.drop_eq_nil_of_le (by omega),List.nil_append,show P.length+k-P.length=k by omega,List.drop_append_of_le_length (by omega),List.take_append_of_le_length (by rw [List.length_drop];omega),List.take_of_length_le (by rw [List.length_drop];omega)]
 have ty:((arrOf st).extract (P.length+X.length) (P.length+X.length+m)).toList=Y.take m:=by
  rw [ZK,hA,<- List.append_assoc,List.drop_append,List.drop_eq_nil_of_le (by simp),List.nil_append,List.length_append,Nat.sub_self,List.drop_zero,List.take_append_of_le_length (by omega)]
  congr 1;omega
 have sX2:Wn lt (X.drop k):=Jz sX k
 have sY1:Wn lt (Y.take m):=List.Pairwise.sublist (List.take_sublist _ _) sY
 have lX2:(X.drop k).length=X.length-k:=List.length_drop
 have lY1:(Y.take m).length=m:=by rw [List.length_take];omega
 have hff:∀x y,(X.drop k)[0]? = some x->(Y.take m)[0]? = some y->lt x y=false:=fun x y hx hy=>by
  rw [List.getElem?_drop,Nat.add_zero,List.getElem?_eq_getElem (by omega)] at hx
  rw [List.getElem?_take_of_lt (by omega),List.getElem?_eq_getElem y0] at hy
  cases hx;cases hy
  exact C.wo.asym _ _ (f2 k (by omega) (Nat.le_refl _))
 have hll:∀x,(X.drop k)[(X.drop k).length-1]? = some x -> ∀y∈Y.take m,lt x y=false:=fun x hx y hy=>by
  rw [lX2,List.getElem?_drop,show k+(X.length-k-1)=X.length-1 by omega,List.getElem?_eq_getElem (by omega)] at hx
  cases hx
  obtain ⟨j,hj,rfl⟩:=List.getElem_of_mem hy
  rw [lY1] at hj
  rw [List.getElem_take]
  exact C.wo.asym _ _ (f3 j (by omega) hj)
 have fin:∀(r:Array Keyed) (st':SortSt),Mgd lt (X.drop k) (Y.take m) r.toList->Eqg (SortSt.mk' (kindOf st) (arrOf st) (((pendingOf st).setIfInBounds i (P.length,X.length+Y.length,pw)).eraseIdxIfInBounds (i+1)) (gallopOf st) (failedOf st)) st' ->
   Q true (SortSt.mk' (kindOf st') (List.foldl (fun a x=>match x with | (p,j)=>a.setIfInBounds (P.length+k+j) p) (arrOf st') r.toList.zipIdx) (pendingOf st') (gallopOf st') (failedOf st')):=fun r st' hm q=>by
  obtain ⟨q1,q2,q3,q4⟩:=q
  refine h (X.take k++(r.toList++Y.drop m)) _ ?_ ?_ ?_ q3 (q1.trans hk) (q4.trans hf)
  ·have rle:∀p∈r.toList,∀q∈Y.drop m,lt q p=false:=fun p hp q hq=>by
    have hq':∃j,∃hj:j<Y.length,m<=j/\Y[j]=q:=by
     obtain ⟨j,hj,rfl⟩:=List.getElem_of_mem hq
     rw [List.length_drop] at hj
     exact ⟨m+j,by omega,by omega,by rw [List.getElem_drop]⟩
    obtain ⟨j,hj,hmj,rfl⟩:=hq'
    rcases List.mem_append.mp (hm.2.mem_iff.mp hp) with z | z
    ·obtain ⟨j2,hj2,rfl⟩:=List.getElem_of_mem (List.mem_of_mem_drop z)
     exact C.wo.leT (U2 C.wo sX (List.getElem?_eq_getElem hj2) (List.getElem?_eq_getElem (by omega:X.length-1<X.length)) (by omega)) (f4 j hj hmj)
    ·obtain ⟨j2,hj2,rfl⟩:=List.getElem_of_mem z
     rw [lY1] at hj2
     rw [List.getElem_take]
     exact U2 C.wo sY (List.getElem?_eq_getElem (by omega)) (List.getElem?_eq_getElem hj) (by omega)
   refine List.pairwise_append.mpr ⟨List.Pairwise.sublist (List.take_sublist _ _) sX,List.pairwise_append.mpr ⟨hm.1,Jz sY m,rle⟩,fun p hp q hq=>?_⟩
   rcases List.mem_append.mp hq with z | z
   ·rcases List.mem_append.mp (hm.2.mem_iff.mp z) with y | y
    ·have:Wn lt (X.take k++X.drop k):=by rw [List.take_append_drop];exact sX
     exact (List.pairwise_append.mp this).2.2 p hp q y
    ·exact lowX p hp q (List.mem_of_mem_take y)
   ·exact lowX p hp q (List.mem_of_mem_drop z)
  ·have e1:(X.take k++(r.toList++Y.drop m)).Perm (X.take k++((X.drop k++Y.take m)++Y.drop m)):=List.Perm.append_left _ (hm.2.append_right _)
   refine e1.trans ?_
   rw [List.append_assoc,List.take_append_drop,<- List.append_assoc,List.take_append_drop]
  ·show (List.foldl _ (arrOf st') r.toList.zipIdx).toList=_
   rw [q2]
   have:=Zfw r.toList 0 (P.length+k) (arrOf st) (P++X.take k) (X.drop k++Y.take m) (Y.drop m++S) (by
    show (arrOf st).toList=_
    rw [hA]
    have e1:X=X.take k++X.drop k:=(List.take_append_drop k X).symm
    have e2:Y=Y.take m++Y.drop m:=(List.take_append_drop m Y).symm
    conv=>lhs;rw [e1,e2]
    simp only [List.append_assoc]) (by rw [List.length_append,List.length_take];omega) hm.2.length_eq.symm
   rw [show (List.foldl (fun a x=>match x with | (p,j)=>a.setIfInBounds (P.length+k+j) p) (arrOf st) r.toList.zipIdx)=_ from rfl] at this
   rw [this]
   simp only [List.append_assoc]
 have dx:∀x∈((arrOf st).extract (P.length+k) (P.length+X.length)).toList,D x:=fun x hx=>dX x (by rw [tx] at hx;exact List.mem_of_mem_drop hx)
 have dy:∀x∈((arrOf st).extract (P.length+X.length) (P.length+X.length+m)).toList,D x:=fun x hx=>dY x (by rw [ty] at hx;exact List.mem_of_mem_take hx)
 show wpS _ _ _ _ (if X.length-k<=m then _ else _) _ _
 by_cases c3:X.length-k<=m
 ·rw [if_pos c3]
  refine wpS_bind (ZgS (a:=(arrOf st).extract (P.length+k) (P.length+X.length)) (b:=(arrOf st).extract (P.length+X.length) (P.length+X.length+m)) C dx dy (by rw [tx];exact sX2) (by rw [ty];exact sY1) hk (by rw [tx,lX2];omega) (by rw [ty,lY1];omega) (by rw [tx,ty];exact hff) (by rw [tx,ty];exact hll) fun r st' hm q=>?_)
  rw [tx,ty] at hm
  refine wpS_bind (wpS_modify (wpS_bind (wpS_get (wpS_pure ?_))))
  have e:(failedOf st').isNone=true:=by rw [q.2.2.2];show (failedOf st).isNone=true;rw [hf];rfl
  have:=fin r st' hm q
  rw [<- e] at this
  exact this
 ·rw [if_neg c3]
  refine wpS_bind (Zg2 (a:=(arrOf st).extract (P.length+k) (P.length+X.length)) (b:=(arrOf st).extract (P.length+X.length) (P.length+X.length+m)) C dx dy (by rw [tx];exact sX2) (by rw [ty];exact sY1) hk (by rw [tx,lX2];omega) (by rw [ty,lY1];omega) (by rw [tx,ty];exact hff) (by rw [tx,ty];exact hll) fun r st' hm q=>?_)
  rw [tx,ty] at hm
  refine wpS_bind (wpS_modify (wpS_bind (wpS_get (wpS_pure ?_))))
  have e:(failedOf st').isNone=true:=by rw [q.2.2.2];show (failedOf st).isNone=true;rw [hf];rfl
  have:=fin r st' hm q
  rw [<- e] at this
  exact this
end
section
variable {prog:Program}{w:World}{A:Around}{E:Value->Shared->Prop}{s:Shared}{kd:SortKind}{D:Keyed->Prop}{lt:Keyed->Keyed->Bool}
def Zbw (lt:Keyed->Keyed->Bool) (arr:Array Keyed) (lo m:Nat):Prop:=∀i j p q,i<=j->j<m->arr[lo+i]? = some p->arr[lo+j]? = some q->lt q p=false
def ZaE (lt:Keyed->Keyed->Bool) (arr:Array Keyed) (lo m:Nat):Prop:=∀i j p q,i<=j->j<m->arr[lo+i]? = some p->arr[lo+j]? = some q->lt p q=false
def EqS (lt:Keyed->Keyed->Bool) (arr:Array Keyed) (b e:Nat):Prop:=∀i j p q,b<=i->i<e->b<=j->j<e->arr[i]? = some p->arr[j]? = some q->lt p q=false
structure Kp (lo n:Nat) (st st':SortSt):Prop where
 kind:kindOf st'=kindOf st
 pend:pendingOf st'=pendingOf st
 fail:failedOf st'=failedOf st
 perm:(arrOf st').toList.Perm (arrOf st).toList
 out:∀i,i<lo∨lo+n<=i->(arrOf st')[i]? = (arrOf st)[i]?
theorem Kp.refl (lo n:Nat) (st:SortSt):Kp lo n st st:=⟨rfl,rfl,rfl,.refl _,fun _ _=>rfl⟩
theorem Kp.trans {lo n:Nat}{a b c:SortSt} (x:Kp lo n a b) (y:Kp lo n b c):Kp lo n a c:=⟨y.kind.trans x.kind,y.pend.trans x.pend,y.fail.trans x.fail,y.perm.trans x.perm,fun i h=>(y.out i h).trans (x.out i h)⟩
theorem Kp.size {lo n:Nat}{a b:SortSt} (x:Kp lo n a b):(arrOf b).size=(arrOf a).size:=by
 have:=x.perm.length_eq
 simpa using this
theorem Zfd {arr:Array Keyed}{i:Nat} (h:i<arr.size):∃x,arr[i]? = some x:=⟨arr[i],getElem?_pos arr i h⟩
theorem JE (C:Cmp prog w A E s kd D lt) {st:SortSt}{i j:Nat}{Q:Option Bool->SortSt->Prop} (hi:i<(arrOf st).size) (hj:j<(arrOf st).size) (hD:∀x∈(arrOf st).toList,D x) (hk:kindOf st=kd)
  (h:∀p q,(arrOf st)[i]? = some p->(arrOf st)[j]? = some q->Q (some (lt p q)) st):wpS (model prog w) A E s (ltAt' i j) Q st:=by
 obtain ⟨p,hp⟩:=Zfd hi
 obtain ⟨q,hq⟩:=Zfd hj
 rw [ltAt'_eq]
 refine wpS_bind (wpS_get ?_)
 show wpS _ _ _ _ (elem' (arrOf st) i >>= fun x=>elem' (arrOf st) j >>= fun y=>lt' x y) Q st
 refine wpS_bind (Yg hp (wpS_bind (Yg hq (C.cmp p q st Q (hD p ?_) (hD q ?_) hk (h p q hp hq)))))
 ·exact List.mem_of_getElem? (by rw [Array.getElem?_toList];exact hp)
 ·exact List.mem_of_getElem? (by rw [Array.getElem?_toList];exact hq)
theorem GJ {M:Model}{i j:Nat}{st:SortSt}{Q:Unit->SortSt->Prop} (h:Q () (setArr st (mirror (arrOf st) i j ((j-i) / 2)))):wpS M A E s (reverseSlice' i j) Q st:=by
 rw [reverseSlice'_eq];exact wpS_modify h
theorem Y8 {lo n i j:Nat}{st:SortSt} (h1:lo<=i) (h2:j<=lo+n) (h3:lo+n<=(arrOf st).size):Kp lo n st (setArr st (mirror (arrOf st) i j ((j-i) / 2))):=by
 refine ⟨rfl,rfl,rfl,Array.perm_iff_toList_perm.mp (mirror_perm _ _ _ _),fun k hk=>?_⟩
 show (mirror (arrOf st) i j ((j-i) / 2))[k]? = _
 rw [getElem?_mirror_all (by lia),if_neg (by lia)]
theorem Ww {arr:Array Keyed}{lo m b e:Nat} (h:ZaE lt arr lo m) (he:EqS lt arr b e) (h1:lo<=b) (h2:e<=lo+m) (h3:lo+m<=arr.size):ZaE lt (mirror arr b e ((e-b) / 2)) lo m:=by
 intro i j p q hij hj hp hq
 rw [getElem?_mirror_all (by lia)] at hp hq
 by_cases ci:b<=lo+i/\lo+i<e<;>by_cases cj:b<=lo+j/\lo+j<e
 ·rw [if_pos ci] at hp
  rw [if_pos cj] at hq
  exact he _ _ p q (by lia) (by lia) (by lia) (by lia) hp hq
 ·rw [if_pos ci] at hp
  rw [if_neg cj] at hq
  exact h (b+e-1-(lo+i)-lo) j p q (by lia) hj (by rw [show lo+(b+e-1-(lo+i)-lo)=b+e-1-(lo+i) by lia];exact hp) hq
 ·rw [if_neg ci] at hp
  rw [if_pos cj] at hq
  exact h i (b+e-1-(lo+j)-lo) p q (by lia) (by lia) hp (by rw [show lo+(b+e-1-(lo+j)-lo)=b+e-1-(lo+j) by lia];exact hq)
 ·rw [if_neg ci] at hp
  rw [if_neg cj] at hq
  exact h i j p q hij hj hp hq
theorem GZ {arr:Array Keyed}{lo m:Nat} (h:ZaE lt arr lo m) (h3:lo+m<=arr.size):Zbw lt (mirror arr lo (lo+m) ((lo+m-lo) / 2)) lo m:=by
 intro i j p q hij hj hp hq
 rw [getElem?_mirror_all (by lia),if_pos (by lia)] at hp hq
 exact h (m-1-j) (m-1-i) q p (by lia) (by lia) (by rw [<- hq];congr 1;lia) (by rw [<- hp];congr 1;lia)
theorem Gu (C:Wo lt) {arr:Array Keyed}{lo m:Nat} (h:ZaE lt arr lo m) (hm:0<m) {d e:Keyed} (hd:arr[lo+m-1]? = some d) (he:arr[lo+m]? = some e) (hde:lt d e=false):ZaE lt arr lo (m+1):=by
 intro i j p q hij hj hp hq
 by_cases c:j<m
 ·exact h i j p q hij c hp hq
 ·obtain rfl:j=m:=by lia
  rw [he] at hq
  cases hq
  by_cases c2:i=j
  ·subst c2
   rw [he] at hp
   cases hp
   exact C.irr _
  ·exact C.leT hde (h i (j-1) p d (by lia) (by lia) hp (by rw [show lo+(j-1)=lo+j-1 by lia];exact hd))
theorem Zik (C:Wo lt) {arr:Array Keyed}{lo m:Nat} (h:Zbw lt arr lo m) (hm:0<m) {d e:Keyed} (hd:arr[lo+m-1]? = some d) (he:arr[lo+m]? = some e) (hde:lt e d=false):Zbw lt arr lo (m+1):=by
 intro i j p q hij hj hp hq
 by_cases c:j<m
 ·exact h i j p q hij c hp hq
 ·obtain rfl:j=m:=by lia
  rw [he] at hq
  cases hq
  by_cases c2:i=j
  ·subst c2
   rw [he] at hp
   cases hp
   exact C.irr _
  ·exact C.leT (h i (j-1) p d (by lia) (by lia) hp (by rw [show lo+(j-1)=lo+j-1 by lia];exact hd)) hde
theorem Zbn (C:Wo lt) {x lo:Nat} (arr:Array Keyed):EqS lt arr (lo+x-(0+1)) (lo+x):=fun i j p q i1 i2 j1 j2 hp hq=>by
 obtain rfl:i=j:=by lia
 rw [hp] at hq;cases hq;exact C.irr _
theorem Zhu (C:Wo lt) {arr:Array Keyed}{b e:Nat} (h:EqS lt arr b e) (hb:b<e) {d x:Keyed} (hd:arr[e-1]? = some d) (hx:arr[e]? = some x) (h1:lt x d=false) (h2:lt d x=false):EqS lt arr b (e+1):=fun i j p q i1 i2 j1 j2 hp hq=>by
 by_cases ci:i<e<;>by_cases cj:j<e
 ·exact h i j p q i1 ci j1 cj hp hq
 ·obtain rfl:j=e:=by lia
  rw [hx] at hq;cases hq
  exact C.leT h2 (h i (j-1) p d i1 ci (by lia) (by lia) hp hd)
 ·obtain rfl:i=e:=by lia
  rw [hx] at hp;cases hp
  exact C.leT (h (i-1) j d q (by lia) (by lia) j1 cj hd hq) h1
 ·obtain rfl:i=e:=by lia
  obtain rfl:j=i:=by lia
  rw [hp] at hq;cases hq;exact C.irr _
theorem UB (C:Cmp prog w A E s kd D lt) {lo n a:Nat}{st:SortSt}{Q:Option (Option Nat)×Nat->SortSt->Prop}{body:Nat->Option (Option Nat)×Nat->StateT SortSt Sem (ForInStep (Option (Option Nat)×Nat))}
  (hb:∀x m (R:ForInStep (Option (Option Nat)×Nat)->SortSt->Prop),1<=m->m<n->(∀p q,(arrOf st)[lo+m]? = some p->(arrOf st)[lo+m-1]? = some q->R (if lt p q=true then .done (none,m) else .yield (none,m+1)) st)->wpS (model prog w) A E s (body x (none,m)) R st)
  (ha:1<=a) (han:a<=n) (hsz:lo+n<=(arrOf st).size) (hs:Zbw lt (arrOf st) lo a)
  (h:∀m,a<=m->m<=n->Zbw lt (arrOf st) lo m->(m<n -> ∀p q,(arrOf st)[lo+m]? = some p->(arrOf st)[lo+m-1]? = some q->lt p q=true)->Q (none,m) st):wpS (model prog w) A E s (forIn [a:n] (none,a) body) Q st:=by
 refine wpS_forRange (I:=fun x c st'=>st'=st/\c=(none,x)/\Zbw lt (arrOf st) lo x) ?_ ?_ ⟨rfl,rfl,hs⟩
 ·rintro x c st' hax hxn ⟨rfl,rfl,g⟩
  refine hb x x _ (by lia) hxn fun p q hp hq=>?_
  cases e:lt p q with
  | true=>
   exact h x hax (by lia) g fun _ p' q' hp' hq'=>by
    rw [hp] at hp';rw [hq] at hq';cases hp';cases hq';exact e
  | false=>exact ⟨rfl,rfl,Zik C.wo g (by lia) hq hp e⟩
 ·rintro c st' ⟨rfl,rfl,g⟩
  rw [show max a n=n by lia] at g ⊢
  exact h n han (Nat.le_refl _) g fun z=>by lia
theorem Zfl (C:Cmp prog w A E s kd D lt) {lo n:Nat}{st:SortSt}{Q:Option Nat->SortSt->Prop} (hn:0<n) (hsz:lo+n<=(arrOf st).size) (hD:∀x∈(arrOf st).toList,D x) (hk:kindOf st=kd)
  (h:∀m st',1<=m->m<=n->Kp lo n st st'->Zbw lt (arrOf st') lo m->Q (some m) st'):wpS (model prog w) A E s (ZiK lo n) Q st:=by
 have s1:∀arr:Array Keyed,Zbw lt arr lo 1:=fun arr i j p q hij hj hp hq=>by
  obtain rfl:i=0:=by lia
  obtain rfl:j=0:=by lia
  rw [hp] at hq;cases hq;exact C.wo.irr _
 refine wpS_bind (UB C (lo:=lo) (n:=n) (a:=1) (st:=st) (fun x m R h1 h2 hR=>?_) (Nat.le_refl _) hn hsz (s1 _) fun m hm1 hm2 g nx=>?_)
 ·refine wpS_bind (JE C (by lia) (by lia) hD hk fun p q hp hq=>?_)
  have:=hR p q hp hq
  cases e:lt p q with
  | true=>rw [e] at this;exact wpS_pure this
  | false=>rw [e] at this;exact wpS_pure this
 refine ZN (c:=(m==n)) (fun c1=>wpS_pure (h m st hm1 hm2 (Kp.refl _ _ _) g)) (fun c1=>?_)
 have c1':=Z1 c1
 obtain ⟨pl,hpl⟩:=Zfd (show lo+m<(arrOf st).size by lia)
 obtain ⟨ql,hql⟩:=Zfd (show lo+m-1<(arrOf st).size by lia)
 have less:=nx (by lia) pl ql hpl hql
 refine JO (k:=m) (n:=1) (fun z=>?_) (fun z=>?_)
 ·refine wpS_bind (JE C (i:=lo) (j:=lo+m-1) (by lia) (by lia) hD hk fun p q hp hq=>?_)
  cases e:lt p q with
  | true=>exact wpS_pure (h m st hm1 hm2 (Kp.refl _ _ _) g)
  | false=>
   have eqs:EqS lt (arrOf st) lo (lo+m):=fun i j a b i1 i2 j1 j2 ha hb=>by
    have ha':(arrOf st)[lo+(i-lo)]? = some a:=by rw [show lo+(i-lo)=i by lia];exact ha
    have hb':(arrOf st)[lo+(j-lo)]? = some b:=by rw [show lo+(j-lo)=j by lia];exact hb
    have l1:=g (i-lo) (m-1) a q (by lia) (by lia) ha' (by rw [<- hq];congr 1;lia)
    have l2:=g 0 (j-lo) p b (by lia) (by lia) (by rw [Nat.add_zero];exact hp) hb'
    have l3:=g 0 (i-lo) p a (by lia) (by lia) (by rw [Nat.add_zero];exact hp) ha'
    have l4:=g (j-lo) (m-1) b q (by lia) (by lia) hb' (by rw [<- hq];congr 1;lia)
    exact C.wo.leT l4 (C.wo.leT e l3)
   refine wpS_bind (GJ (i:=lo) (j:=lo+m) ?_)
   have k1:=Y8 (lo:=lo) (n:=n) (i:=lo) (j:=lo+m) (st:=st) (Nat.le_refl _) (by lia) hsz
   have non0:ZaE lt (arrOf st) lo m:=fun i j a b hij hj ha hb=>eqs _ _ a b (by lia) (by lia) (by lia) (by lia) ha hb
   have non1:ZaE lt (arrOf (setArr st (mirror (arrOf st) lo (lo+m) ((lo+m-lo) / 2)))) lo (m+1):=Ww (Gu C.wo non0 (by lia) hql hpl (C.wo.asym _ _ less)) eqs (Nat.le_refl _) (by lia) (by lia)
   generalize setArr st (mirror (arrOf st) lo (lo+m) ((lo+m-lo) / 2))=st1 at k1 non1 ⊢
   refine wpS_bind (wpS_lift (wpAny_rule ⟨rfl,?_⟩))
   refine wpS_bind (wpS_mono (wpS_forRange (a:=m+1) (b:=n) (I:=fun x c st'=>∃neq,c=(none,x,neq)/\Kp lo n st st'/\ZaE lt (arrOf st') lo x/\neq+1<=x/\EqS lt (arrOf st') (lo+x-(neq+1)) (lo+x))
    (Q:=fun c st'=>∃x neq,c=(none,x,neq)/\m+1<=x/\x<=n/\Kp lo n st st'/\ZaE lt (arrOf st') lo x/\neq+1<=x/\EqS lt (arrOf st') (lo+x-(neq+1)) (lo+x)) ?_ ?_ ⟨0,rfl,k1,non1,by lia,Zbn C.wo _⟩) ?_)
   ·rintro x c st2 hx1 hx2 ⟨neq,rfl,k2,g2,e1,e2⟩
    have z2:=k2.size
    have hD2:∀y∈(arrOf st2).toList,D y:=fun y hy=>hD y (k2.perm.mem_iff.mp hy)
    have hk2:=k2.kind.trans hk
    refine wpS_bind (JE C (i:=lo+x) (j:=lo+x-1) (by lia) (by lia) hD2 hk2 fun p q hp hq=>?_)
    cases e:lt p q with
    | true=>
     have gs:=Gu C.wo g2 (by lia) hq hp (C.wo.asym _ _ e)
     refine JO (k:=neq) (n:=0) (fun z=>?_) (fun z=>?_)
     ·refine wpS_bind (GJ (i:=lo+x-(neq+1)) (j:=lo+x) ?_)
      exact wpS_pure ⟨0,rfl,k2.trans (Y8 (by lia) (by lia) (by lia)),Ww gs e2 (by lia) (by lia) (by lia),by lia,Zbn C.wo _⟩
     ·exact wpS_pure ⟨0,rfl,k2,gs,by lia,Zbn C.wo _⟩
    | false=>
     refine wpS_bind (JE C (i:=lo+x-1) (j:=lo+x) (by lia) (by lia) hD2 hk2 fun q' p' hq' hp'=>?_)
     rw [hq] at hq'
     rw [hp] at hp'
     cases hq';cases hp'
     cases e':lt q p with
     | true=>exact wpS_pure ⟨x,neq,rfl,hx1,by lia,k2,g2,e1,e2⟩
     | false=>
      refine wpS_pure ⟨neq+1,rfl,k2,Gu C.wo g2 (by lia) hq hp e',by lia,?_⟩
      have:=Zhu C.wo e2 (by lia) hq hp e e'
      rw [show lo+(x+1)-(neq+1+1)=lo+x-(neq+1) by lia]
      exact this
   ·rintro c st2 ⟨neq,rfl,k2,g2,e1,e2⟩
    rw [show max (m+1) n=n by lia] at g2 e1 e2 ⊢
    exact ⟨n,neq,rfl,by lia,Nat.le_refl _,k2,g2,e1,e2⟩
   ·rintro c st2 ⟨x,neq,rfl,x1,x2,k2,g2,e1,e2⟩
    have z2:=k2.size
    refine JO (k:=neq) (n:=0) (fun z=>?_) (fun z=>?_)
    ·refine wpS_bind (GJ (i:=lo+x-(neq+1)) (j:=lo+x) ?_)
     have k3:=k2.trans (Y8 (lo:=lo) (n:=n) (i:=lo+x-(neq+1)) (j:=lo+x) (st:=st2) (by lia) (by lia) (by lia))
     have g3:ZaE lt (arrOf (setArr st2 (mirror (arrOf st2) (lo+x-(neq+1)) (lo+x) ((lo+x-(lo+x-(neq+1))) / 2)))) lo x:=Ww g2 e2 (by lia) (by lia) (by lia)
     generalize setArr st2 (mirror (arrOf st2) (lo+x-(neq+1)) (lo+x) ((lo+x-(lo+x-(neq+1))) / 2))=st3 at k3 g3 ⊢
     refine wpS_bind (GJ (i:=lo) (j:=lo+x) ?_)
     have z3:=k3.size
     have k4:=k3.trans (Y8 (lo:=lo) (n:=n) (i:=lo) (j:=lo+x) (st:=st3) (Nat.le_refl _) (by lia) (by lia))
     have g4:=GZ g3 (by lia)
     refine wpS_bind (UB C (lo:=lo) (n:=n) (a:=x) (st:=setArr st3 (mirror (arrOf st3) lo (lo+x) ((lo+x-lo) / 2))) (fun y m' R h1 h2 hR=>?_) (by lia) x2 (by rw [k4.size];exact hsz) g4 fun m' a1 a2 g5 _=>wpS_pure (h m' _ (by lia) a2 k4 g5))
     refine wpS_bind (JE C (by rw [k4.size];lia) (by rw [k4.size];lia) (fun y hy=>hD y (k4.perm.mem_iff.mp hy)) (k4.kind.trans hk) fun p q hp hq=>?_)
     have:=hR p q hp hq
     cases e:lt p q with
     | true=>rw [e] at this;exact wpS_pure this
     | false=>rw [e] at this;exact wpS_pure this
    ·have k3:=k2
     have g3:=g2
     refine wpS_bind (GJ (i:=lo) (j:=lo+x) ?_)
     have z3:=k3.size
     have k4:=k3.trans (Y8 (lo:=lo) (n:=n) (i:=lo) (j:=lo+x) (st:=st2) (Nat.le_refl _) (by lia) (by lia))
     have g4:=GZ g3 (by lia)
     refine wpS_bind (UB C (lo:=lo) (n:=n) (a:=x) (st:=setArr st2 (mirror (arrOf st2) lo (lo+x) ((lo+x-lo) / 2))) (fun y m' R h1 h2 hR=>?_) (by lia) x2 (by rw [k4.size];exact hsz) g4 fun m' a1 a2 g5 _=>wpS_pure (h m' _ (by lia) a2 k4 g5))
     refine wpS_bind (JE C (by rw [k4.size];lia) (by rw [k4.size];lia) (fun y hy=>hD y (k4.perm.mem_iff.mp hy)) (k4.kind.trans hk) fun p q hp hq=>?_)
     have:=hR p q hp hq
     cases e:lt p q with
     | true=>rw [e] at this;exact wpS_pure this
     | false=>rw [e] at this;exact wpS_pure this
 ·obtain rfl:m=1:=by lia
  have k1:=Kp.refl lo n st
  have non1:ZaE lt (arrOf st) lo (1+1):=Gu C.wo (fun i j a b hij hj ha hb=>by
   obtain rfl:i=0:=by lia
   obtain rfl:j=0:=by lia
   rw [ha] at hb;cases hb;exact C.wo.irr _) (by lia) hql hpl (C.wo.asym _ _ less)
  refine wpS_bind (wpS_lift (wpAny_rule ⟨rfl,?_⟩))
  refine wpS_bind (wpS_mono (wpS_forRange (a:=1+1) (b:=n) (I:=fun x c st'=>∃neq,c=(none,x,neq)/\Kp lo n st st'/\ZaE lt (arrOf st') lo x/\neq+1<=x/\EqS lt (arrOf st') (lo+x-(neq+1)) (lo+x))
   (Q:=fun c st'=>∃x neq,c=(none,x,neq)/\1+1<=x/\x<=n/\Kp lo n st st'/\ZaE lt (arrOf st') lo x/\neq+1<=x/\EqS lt (arrOf st') (lo+x-(neq+1)) (lo+x)) ?_ ?_ ⟨0,rfl,k1,non1,by lia,Zbn C.wo _⟩) ?_)
  ·rintro x c st2 hx1 hx2 ⟨neq,rfl,k2,g2,e1,e2⟩
   have z2:=k2.size
   have hD2:∀y∈(arrOf st2).toList,D y:=fun y hy=>hD y (k2.perm.mem_iff.mp hy)
   have hk2:=k2.kind.trans hk
   refine wpS_bind (JE C (i:=lo+x) (j:=lo+x-1) (by lia) (by lia) hD2 hk2 fun p q hp hq=>?_)
   cases e:lt p q with
   | true=>
    have gs:=Gu C.wo g2 (by lia) hq hp (C.wo.asym _ _ e)
    refine JO (k:=neq) (n:=0) (fun z=>?_) (fun z=>?_)
    ·refine wpS_bind (GJ (i:=lo+x-(neq+1)) (j:=lo+x) ?_)
     exact wpS_pure ⟨0,rfl,k2.trans (Y8 (by lia) (by lia) (by lia)),Ww gs e2 (by lia) (by lia) (by lia),by lia,Zbn C.wo _⟩
    ·exact wpS_pure ⟨0,rfl,k2,gs,by lia,Zbn C.wo _⟩
   | false=>
    refine wpS_bind (JE C (i:=lo+x-1) (j:=lo+x) (by lia) (by lia) hD2 hk2 fun q' p' hq' hp'=>?_)
    rw [hq] at hq'
    rw [hp] at hp'
    cases hq';cases hp'
    cases e':lt q p with
    | true=>exact wpS_pure ⟨x,neq,rfl,hx1,by lia,k2,g2,e1,e2⟩
    | false=>
     refine wpS_pure ⟨neq+1,rfl,k2,Gu C.wo g2 (by lia) hq hp e',by lia,?_⟩
     have:=Zhu C.wo e2 (by lia) hq hp e e'
     rw [show lo+(x+1)-(neq+1+1)=lo+x-(neq+1) by lia]
     exact this
  ·rintro c st2 ⟨neq,rfl,k2,g2,e1,e2⟩
   rw [show max (1+1) n=n by lia] at g2 e1 e2 ⊢
   exact ⟨n,neq,rfl,by lia,Nat.le_refl _,k2,g2,e1,e2⟩
  ·rintro c st2 ⟨x,neq,rfl,x1,x2,k2,g2,e1,e2⟩
   have z2:=k2.size
   refine JO (k:=neq) (n:=0) (fun z=>?_) (fun z=>?_)
   ·refine wpS_bind (GJ (i:=lo+x-(neq+1)) (j:=lo+x) ?_)
    have k3:=k2.trans (Y8 (lo:=lo) (n:=n) (i:=lo+x-(neq+1)) (j:=lo+x) (st:=st2) (by lia) (by lia) (by lia))
    have g3:ZaE lt (arrOf (setArr st2 (mirror (arrOf st2) (lo+x-(neq+1)) (lo+x) ((lo+x-(lo+x-(neq+1))) / 2)))) lo x:=Ww g2 e2 (by lia) (by lia) (by lia)
    generalize setArr st2 (mirror (arrOf st2) (lo+x-(neq+1)) (lo+x) ((lo+x-(lo+x-(neq+1))) / 2))=st3 at k3 g3 ⊢
    refine wpS_bind (GJ (i:=lo) (j:=lo+x) ?_)
    have z3:=k3.size
    have k4:=k3.trans (Y8 (lo:=lo) (n:=n) (i:=lo) (j:=lo+x) (st:=st3) (Nat.le_refl _) (by lia) (by lia))
    have g4:=GZ g3 (by lia)
    refine wpS_bind (UB C (lo:=lo) (n:=n) (a:=x) (st:=setArr st3 (mirror (arrOf st3) lo (lo+x) ((lo+x-lo) / 2))) (fun y m' R h1 h2 hR=>?_) (by lia) x2 (by rw [k4.size];exact hsz) g4 fun m' a1 a2 g5 _=>wpS_pure (h m' _ (by lia) a2 k4 g5))
    refine wpS_bind (JE C (by rw [k4.size];lia) (by rw [k4.size];lia) (fun y hy=>hD y (k4.perm.mem_iff.mp hy)) (k4.kind.trans hk) fun p q hp hq=>?_)
    have:=hR p q hp hq
    cases e:lt p q with
    | true=>rw [e] at this;exact wpS_pure this
    | false=>rw [e] at this;exact wpS_pure this
   ·have k3:=k2
    have g3:=g2
    refine wpS_bind (GJ (i:=lo) (j:=lo+x) ?_)
    have z3:=k3.size
    have k4:=k3.trans (Y8 (lo:=lo) (n:=n) (i:=lo) (j:=lo+x) (st:=st2) (Nat.le_refl _) (by lia) (by lia))
    have g4:=GZ g3 (by lia)
    refine wpS_bind (UB C (lo:=lo) (n:=n) (a:=x) (st:=setArr st2 (mirror (arrOf st2) lo (lo+x) ((lo+x-lo) / 2))) (fun y m' R h1 h2 hR=>?_) (by lia) x2 (by rw [k4.size];exact hsz) g4 fun m' a1 a2 g5 _=>wpS_pure (h m' _ (by lia) a2 k4 g5))
    refine wpS_bind (JE C (by rw [k4.size];lia) (by rw [k4.size];lia) (fun y hy=>hD y (k4.perm.mem_iff.mp hy)) (k4.kind.trans hk) fun p q hp hq=>?_)
    have:=hR p q hp hq
    cases e:lt p q with
    | true=>rw [e] at this;exact wpS_pure this
    | false=>rw [e] at this;exact wpS_pure this
end
section
variable {prog:Program}{w:World}{A:Around}{E:Value->Shared->Prop}{s:Shared}{kd:SortKind}{D:Keyed->Prop}{lt:Keyed->Keyed->Bool}
theorem Zk3 {M:Model}{i j:Nat}{st:SortSt}{Q:Unit->SortSt->Prop} (h:Q () (setArr st (bubble (arrOf st) i (i-j)))):wpS M A E s (moveDown' i j) Q st:=by
 rw [moveDown'_eq];exact wpS_modify h
theorem Zds (C:Cmp prog w A E s kd D lt) {lo n ok:Nat}{st:SortSt}{Q:Bool->SortSt->Prop} (h1:1<=ok) (hok:ok<=n) (hsz:lo+n<=(arrOf st).size) (hD:∀x∈(arrOf st).toList,D x) (hk:kindOf st=kd) (hs:Zbw lt (arrOf st) lo ok)
  (h:∀st',Kp lo n st st'->Zbw lt (arrOf st') lo n->Q true st'):wpS (model prog w) A E s (ZfI lo n ok) Q st:=by
 refine wpS_bind (wpS_mono (wpS_forRange (a:=max ok 1) (b:=n) (I:=fun k c st'=>c=(none,())/\Kp lo n st st'/\Zbw lt (arrOf st') lo k) (Q:=fun c st'=>c=(none,())/\Kp lo n st st'/\Zbw lt (arrOf st') lo n) ?_ ?_ ⟨rfl,Kp.refl _ _ _,by rw [show max ok 1=ok by lia];exact hs⟩) ?_)
 ·rintro k c st1 hk1 hk2 ⟨rfl,kp,g⟩
  have z1:=kp.size
  obtain ⟨e,he⟩:=Zfd (show lo+k<(arrOf st1).size by lia)
  refine wpS_bind (wpS_mono (wpS_forRange (a:=0) (b:=k) (I:=fun x c st'=>st'=st1 /\ ∃l r,c=(none,l,r)/\l<=r/\r<=k/\r-l<=k-x/\(∀i p,i<l->(arrOf st1)[lo+i]? = some p->lt e p=false) /\ ∀i p,r<=i->i<k->(arrOf st1)[lo+i]? = some p->lt e p=true)
   (Q:=fun c st'=>st'=st1 /\ ∃l r,c=(none,l,r)/\l<=k/\(∀i p,i<l->(arrOf st1)[lo+i]? = some p->lt e p=false) /\ ∀i p,l<=i->i<k->(arrOf st1)[lo+i]? = some p->lt e p=true) ?_ ?_ ⟨rfl,0,k,rfl,by lia,by lia,by lia,fun i p hi=>by lia,fun i p h1 h2=>by lia⟩) ?_)
  ·rintro x c st' _ hx ⟨rfl,l,r,rfl,g1,g2,g3,g4,g5⟩
   dsimp only
   by_cases hge:l>=r
   ·rw [if_pos hge]
    obtain rfl:l=r:=by lia
    exact wpS_pure ⟨rfl,l,l,rfl,g2,g4,g5⟩
   ·rw [if_neg hge]
    refine wpS_bind (JE C (i:=lo+k) (j:=lo+(l+r) / 2) (by lia) (by lia) (fun y hy=>hD y (kp.perm.mem_iff.mp hy)) (kp.kind.trans hk) fun p q hp hq=>?_)
    rw [he] at hp
    cases hp
    cases c:lt e q with
    | true=>
     refine wpS_pure ⟨rfl,l,(l+r) / 2,rfl,by lia,by lia,by lia,g4,fun i p i1 i2 hp=>?_⟩
     rcases C.wo.neg e p q c with z | z
     ·exact z
     ·rw [g ((l+r) / 2) i q p i1 i2 hq hp] at z;cases z
    | false=>
     refine wpS_pure ⟨rfl,(l+r) / 2+1,r,rfl,by lia,by lia,by lia,fun i p i1 hp=>?_,g5⟩
     exact C.wo.leT (g i ((l+r) / 2) p q (by lia) (by lia) hp hq) c
  ·rintro c st' ⟨rfl,l,r,rfl,g1,g2,g3,g4,g5⟩
   obtain rfl:l=r:=by lia
   exact ⟨rfl,l,l,rfl,g2,g4,g5⟩
  ·rintro c st' ⟨rfl,l,r,rfl,g2,g4,g5⟩
   refine wpS_bind (Zk3 (i:=lo+k) (j:=lo+l) ?_)
   have sz:lo+k<(arrOf st').size:=by lia
   refine wpS_pure ⟨rfl,kp.trans ⟨rfl,rfl,rfl,Array.perm_iff_toList_perm.mp (bubble_perm _ _ _),fun i hi=>?_⟩,fun i j p q hij hj hp hq=>?_⟩
   ·show (bubble (arrOf st') (lo+k) (lo+k-(lo+l)))[i]? = _
    rw [getElem?_bubble sz _ (by lia),if_neg (by lia),if_neg (by lia)]
   ·rw [show arrOf (setArr st' (bubble (arrOf st') (lo+k) (lo+k-(lo+l))))=bubble (arrOf st') (lo+k) (lo+k-(lo+l)) from rfl,getElem?_bubble sz _ (by lia)] at hp hq
    rw [show lo+k-(lo+k-(lo+l))=lo+l by lia] at hp hq
    by_cases ci:i=l<;>by_cases cj:j=l
    ·subst ci;subst cj
     rw [if_pos rfl] at hp hq
     rw [hp] at hq;cases hq;exact C.wo.irr _
    ·subst ci
     rw [if_pos rfl,he] at hp
     cases hp
     rw [if_neg (by lia),if_pos (by lia)] at hq
     exact C.wo.asym _ _ (g5 (j-1) q (by lia) (by lia) (by rw [<- hq];congr 1;lia))
    ·subst cj
     rw [if_neg (by lia),if_neg (by lia)] at hp
     rw [if_pos rfl,he] at hq
     cases hq
     exact g4 i p (by lia) hp
    ·rw [if_neg (by lia)] at hp hq
     by_cases di:i<l<;>by_cases dj:j<l
     ·rw [if_neg (by lia)] at hp hq
      exact g i j p q hij (by lia) hp hq
     ·rw [if_neg (by lia)] at hp
      rw [if_pos (by lia)] at hq
      exact g i (j-1) p q (by lia) (by lia) hp (by rw [<- hq];congr 1;lia)
     ·lia
     ·rw [if_pos (by lia)] at hp hq
      exact g (i-1) (j-1) p q (by lia) (by lia) (by rw [<- hp];congr 1;lia) (by rw [<- hq];congr 1;lia)
 ·rintro c st1 ⟨rfl,kp,g⟩
  rw [show max (max ok 1) n=n by lia] at g
  exact ⟨rfl,kp,g⟩
 ·rintro c st1 ⟨rfl,kp,g⟩
  exact wpS_pure (h st1 kp g)
def Gg (p:List (Nat×Nat×Nat)) (rs:List (List Keyed)):Prop:=p.length=rs.length /\ ∀i r,rs[i]? = some r -> ∃pw,p[i]? = some ((rs.take i).flatten.length,r.length,pw)
theorem ZkF:Gg [] []:=⟨rfl,fun i r h=>by simp at h⟩
theorem Zio {p:List (Nat×Nat×Nat)}{rs:List (List Keyed)} (h:Gg p rs) (r:List Keyed) (pw:Nat):Gg (p ++ [(rs.flatten.length,r.length,pw)]) (rs ++ [r]):=by
 refine ⟨by simp [h.1],fun i x hx=>?_⟩
 by_cases c:i<rs.length
 ·rw [List.getElem?_append_left c] at hx
  obtain ⟨q,hq⟩:=h.2 i x hx
  exact ⟨q,by rw [List.getElem?_append_left (by rw [h.1];exact c),hq,List.take_append_of_le_length (by lia)]⟩
 ·have hi:i=rs.length:=by
   have:=(List.getElem?_eq_some_iff.mp hx).1
   rw [List.length_append,List.length_singleton] at this
   lia
  subst hi
  rw [List.getElem?_append_right (Nat.le_refl _),Nat.sub_self] at hx
  simp at hx
  subst hx
  refine ⟨pw,?_⟩
  rw [<- h.1,List.getElem?_append_right (Nat.le_refl _),Nat.sub_self,h.1,List.take_append_of_le_length (Nat.le_refl _),List.take_of_length_le (Nat.le_refl _)]
  rfl
theorem Zi0 {p:List (Nat×Nat×Nat)}{rs:List (List Keyed)} (h:Gg p rs) (k:Nat) (f:Nat×Nat×Nat->Nat×Nat×Nat) (hf:∀a b c,∃d,f (a,b,c)=(a,b,d)):Gg (p.modify k f) rs:=by
 refine ⟨by rw [List.length_modify];exact h.1,fun i x hx=>?_⟩
 obtain ⟨q,hq⟩:=h.2 i x hx
 rw [List.getElem?_modify,hq]
 by_cases c:k=i
 ·obtain ⟨d,hd⟩:=hf (rs.take i).flatten.length x.length q
  exact ⟨d,by rw [Option.map_eq_map,Option.map_some,if_pos c,hd]⟩
 ·exact ⟨q,by simp [c]⟩
theorem Zgy {p:List (Nat×Nat×Nat)}{U B:List (List Keyed)}{X Y Z:List Keyed}{pw:Nat} (h:Gg p (U++(X::Y::B))) (hz:Z.length=X.length+Y.length):Gg ((p.set U.length (U.flatten.length,X.length+Y.length,pw)).eraseIdx (U.length+1)) (U++(Z::B)):=by
 have hl:=h.1
 simp only [List.length_append,List.length_cons] at hl
 refine ⟨by rw [List.length_eraseIdx_of_lt (by rw [List.length_set];lia),List.length_set];simp only [List.length_append,List.length_cons];lia,fun i x hx=>?_⟩
 rw [List.getElem?_eraseIdx]
 by_cases c1:i<U.length
 ·rw [if_pos (by lia),List.getElem?_set_ne (by lia)]
  rw [List.getElem?_append_left c1] at hx
  obtain ⟨q,hq⟩:=h.2 i x (by rw [List.getElem?_append_left c1];exact hx)
  refine ⟨q,?_⟩
  rw [hq,List.take_append_of_le_length (by lia),List.take_append_of_le_length (by lia)]
 ·by_cases c2:i=U.length
  ·subst c2
   rw [List.getElem?_append_right (Nat.le_refl _),Nat.sub_self] at hx
   simp at hx
   subst hx
   refine ⟨pw,?_⟩
   rw [if_pos (by lia),List.getElem?_set_self (by lia),hz,List.take_append_of_le_length (Nat.le_refl _),List.take_of_length_le (Nat.le_refl _)]
  ·rw [if_neg (by lia),List.getElem?_set_ne (by lia)]
   obtain ⟨j,rfl⟩:∃j,i=U.length+(j+1):=⟨i-U.length-1,by lia⟩
   rw [List.getElem?_append_right (by lia),Nat.add_sub_cancel_left,List.getElem?_cons_succ] at hx
   obtain ⟨q,hq⟩:=h.2 (U.length+(j+1+1)) x (by
    rw [List.getElem?_append_right (by lia),Nat.add_sub_cancel_left,List.getElem?_cons_succ,List.getElem?_cons_succ]
    exact hx)
   refine ⟨q,?_⟩
   rw [show U.length+(j+1)+1=U.length+(j+1+1) by lia,hq]
   congr 2
   rw [List.take_append,List.take_append,List.take_of_length_le (l:=U) (by lia),List.take_of_length_le (l:=U) (by lia),Nat.add_sub_cancel_left,Nat.add_sub_cancel_left]
   simp only [List.take_succ_cons,List.flatten_append,List.flatten_cons,List.length_append]
   lia
end
section
variable {prog:Program}{w:World}{A:Around}{E:Value->Shared->Prop}{s:Shared}{kd:SortKind}{D:Keyed->Prop}{lt:Keyed->Keyed->Bool}
structure Rn (lt:Keyed->Keyed->Bool) (kd:SortKind) (l₀:List Keyed) (rs:List (List Keyed)) (S:List Keyed) (st:SortSt):Prop where
 arr:(arrOf st).toList=rs.flatten++S
 srt:∀r∈rs,Wn lt r/\0<r.length
 pend:Gg (pendingOf st).toList rs
 perm:(arrOf st).toList.Perm l₀
 kind:kindOf st=kd
 fail:failedOf st=none
theorem Rn.cut {l₀:List Keyed}{rs:List (List Keyed)}{S:List Keyed}{st:SortSt} (R:Rn lt kd l₀ rs S st) {i:Nat} (hi:i+1<rs.length):∃U X Y B,rs=U++(X::Y::B)/\U.length=i:=by
 refine ⟨rs.take i,rs[i],rs[i+1],rs.drop (i+2),?_,by rw [List.length_take];lia⟩
 conv=>lhs;rw [<- List.take_append_drop i rs,List.drop_eq_getElem_cons (by lia),List.drop_eq_getElem_cons (by lia)]
theorem Zd0 (C:Cmp prog w A E s kd D lt) {l₀:List Keyed}{rs:List (List Keyed)}{S:List Keyed}{st:SortSt}{i:Nat}{Q:Bool->SortSt->Prop} (R:Rn lt kd l₀ rs S st) (hD:∀x∈l₀,D x) (hi:i+1<rs.length)
  (h:∀rs' st',Rn lt kd l₀ rs' S st'->rs'.length+1=rs.length->rs'.flatten.length=rs.flatten.length->Q true st'):wpS (model prog w) A E s (ZfU i) Q st:=by
 obtain ⟨U,X,Y,B,rfl,rfl⟩:=R.cut hi
 obtain ⟨p1,e1⟩:=R.pend.2 U.length X (by rw [List.getElem?_append_right (Nat.le_refl _),Nat.sub_self];rfl)
 obtain ⟨p2,e2⟩:=R.pend.2 (U.length+1) Y (by rw [List.getElem?_append_right (by lia),Nat.add_sub_cancel_left];rfl)
 rw [List.take_append_of_le_length (Nat.le_refl _),List.take_of_length_le (Nat.le_refl _),Array.getElem?_toList] at e1
 rw [List.take_append,List.take_of_length_le (by lia),Nat.add_sub_cancel_left,List.take_succ_cons,List.take_zero,Array.getElem?_toList] at e2
 simp only [List.flatten_append,List.flatten_cons,List.flatten_nil,List.append_nil,List.length_append] at e2
 have hX:=R.srt X (by simp)
 have hY:=R.srt Y (by simp)
 refine ZgI C (P:=U.flatten) (X:=X) (Y:=Y) (S:=B.flatten++S) e1 e2 (by rw [R.arr];simp only [List.flatten_append,List.flatten_cons,List.append_assoc]) rfl rfl rfl rfl hX.2 hY.2 hX.1 hY.1 (fun x hx=>hD x (R.perm.mem_iff.mp hx)) R.kind R.fail fun Z st' sZ pZ aZ pe kz fz=>?_
 have lz:Z.length=X.length+Y.length:=by rw [pZ.length_eq,List.length_append]
 refine h (U++(Z::B)) st' ⟨?_,fun r hr=>?_,?_,?_,kz,fz⟩ ?_ ?_
 ·rw [aZ];simp only [List.flatten_append,List.flatten_cons,List.append_assoc]
 ·rcases List.mem_append.mp hr with z | z
  ·exact R.srt r (List.mem_append_left _ z)
  ·rcases List.mem_cons.mp z with rfl | z
   ·exact ⟨sZ,by lia⟩
   ·exact R.srt r (by simp [z])
 ·rw [pe,Array.toList_eraseIdxIfInBounds,Array.toList_setIfInBounds]
  exact Zgy R.pend lz
 ·refine List.Perm.trans ?_ R.perm
  rw [aZ,R.arr]
  simp only [List.flatten_append,List.flatten_cons,List.append_assoc]
  refine List.Perm.append_left _ ?_
  rw [<- List.append_assoc X]
  exact pZ.append_right _
 ·simp
  lia
 ·simp only [List.flatten_append,List.flatten_cons,List.length_append]
  lia
theorem Rn.low {l₀:List Keyed}{rs:List (List Keyed)}{S:List Keyed}{st:SortSt} (R:Rn lt kd l₀ rs S st):rs.length<=rs.flatten.length:=by
 have:∀rs:List (List Keyed),(∀r∈rs,0<r.length)->rs.length<=rs.flatten.length:=by
  intro rs
  induction rs with
  | nil=>intro _;exact Nat.le_refl _
  | cons r rs ih=>
   intro hr
   have h1:=hr r List.mem_cons_self
   have h2:=ih fun x hx=>hr x (List.mem_cons_of_mem _ hx)
   rw [List.length_cons,List.flatten_cons,List.length_append]
   lia
 exact this rs fun r hr=>(R.srt r hr).2
theorem Rn.put {l₀:List Keyed}{rs:List (List Keyed)}{S:List Keyed}{st st':SortSt}{n:Nat} (R:Rn lt kd l₀ rs S st) (k:Kp rs.flatten.length n st st'):∃S',Rn lt kd l₀ rs S' st'/\S'.length=S.length:=by
 have hlen:(arrOf st').toList.length=(arrOf st).toList.length:=k.perm.length_eq
 have et:(arrOf st').toList.take rs.flatten.length=rs.flatten:=by
  have e0:(arrOf st).toList.take rs.flatten.length=rs.flatten:=by rw [R.arr,List.take_append_of_le_length (Nat.le_refl _),List.take_of_length_le (Nat.le_refl _)]
  rw [<- e0]
  refine List.ext_getElem? fun i=>?_
  by_cases c:i<rs.flatten.length
  ·rw [List.getElem?_take_of_lt (by rw [e0];exact c),List.getElem?_take_of_lt c,Array.getElem?_toList,Array.getElem?_toList]
   exact k.out i (.inl c)
  ·rw [List.getElem?_eq_none (by rw [List.length_take,e0];lia),List.getElem?_eq_none (by rw [List.length_take];lia)]
 refine ⟨(arrOf st').toList.drop rs.flatten.length,⟨?_,R.srt,by rw [k.pend];exact R.pend,k.perm.trans R.perm,k.kind.trans R.kind,k.fail.trans R.fail⟩,?_⟩
 ·conv=>lhs;rw [<- List.take_append_drop rs.flatten.length (arrOf st').toList,et]
 ·rw [List.length_drop,hlen,R.arr,List.length_append];lia
theorem Rn.seg {l₀:List Keyed}{rs:List (List Keyed)}{S:List Keyed}{st:SortSt} (C:Wo lt) (R:Rn lt kd l₀ rs S st) {n:Nat} (hn:n<=S.length) (h:Zbw lt (arrOf st) rs.flatten.length n):Wn lt (S.take n):=by
 refine List.pairwise_iff_getElem.mpr fun i j hi hj hij=>?_
 rw [List.length_take] at hi hj
 have at_:∀k (hk:k<S.length),(arrOf st)[rs.flatten.length+k]? = some S[k]:=fun k hk=>by
  rw [<- Array.getElem?_toList,R.arr,List.getElem?_append_right (by lia),Nat.add_sub_cancel_left,List.getElem?_eq_getElem hk]
 rw [List.getElem_take,List.getElem_take]
 exact h i j _ _ (by lia) (by lia) (at_ i (by lia)) (at_ j (by lia))
theorem Rn.more {l₀:List Keyed}{rs:List (List Keyed)}{S:List Keyed}{st:SortSt} (R:Rn lt kd l₀ rs S st) {n:Nat} (h0:0<n) (hn:n<=S.length) (h:Wn lt (S.take n)) {g:Nat}{pw:Nat}:
  Rn lt kd l₀ (rs ++ [S.take n]) (S.drop n) (SortSt.mk' (kindOf st) (arrOf st) ((pendingOf st).push (rs.flatten.length,n,pw)) g (failedOf st)):=by
 refine ⟨?_,fun r hr=>?_,?_,R.perm,R.kind,R.fail⟩
 ·show (arrOf st).toList=_
  rw [R.arr]
  simp only [List.flatten_append,List.flatten_cons,List.flatten_nil,List.append_nil,List.append_assoc,List.take_append_drop]
 ·rcases List.mem_append.mp hr with z | z
  ·exact R.srt r z
  ·rw [List.mem_singleton.mp z]
   exact ⟨h,by rw [List.length_take];lia⟩
 ·show Gg ((pendingOf st).push _).toList _
  rw [Array.toList_push]
  have:=Zio R.pend (S.take n) pw
  rw [show (S.take n).length=n by rw [List.length_take];lia] at this
  exact this
theorem Zjf {c:Bool}{k:Nat}:(if c=true then k-1 else k)<=k:=by split<;>lia
theorem Rn.pow {l₀:List Keyed}{rs:List (List Keyed)}{S:List Keyed}{st:SortSt} (R:Rn lt kd l₀ rs S st) {k g:Nat}{f:Nat×Nat×Nat->Nat×Nat×Nat} (hf:∀a b c,∃d,f (a,b,c)=(a,b,d)):
  Rn lt kd l₀ rs S (SortSt.mk' (kindOf st) (arrOf st) ((pendingOf st).modify k f) g (failedOf st)):=by
 refine ⟨R.arr,R.srt,?_,R.perm,R.kind,R.fail⟩
 show Gg ((pendingOf st).modify k f).toList rs
 rw [Array.toList_modify]
 exact Zi0 R.pend k f hf
theorem Zgc {β:Type}{M:Model}{st:SortSt}{Q:β -> SortSt->Prop}{k n:Nat}{X Y:StateT SortSt Sem β} (h1:k<=n->wpS M A E s X Q st) (h2:n<k->wpS M A E s Y Q st):wpS M A E s (if k<=n then X else Y) Q st:=by
 by_cases h:k<=n
 ·rw [if_pos h];exact h1 h
 ·rw [if_neg h];exact h2 (by lia)
theorem Zm9 {β:Type}{M:Model}{st:SortSt}{Q:β -> SortSt->Prop}{k n:Nat}{X Y:StateT SortSt Sem β} (h1:k<n->wpS M A E s X Q st) (h2:n<=k->wpS M A E s Y Q st):wpS M A E s (if k<n then X else Y) Q st:=by
 by_cases h:k<n
 ·rw [if_pos h];exact h1 h
 ·rw [if_neg h];exact h2 (by lia)
theorem Zfb (C:Cmp prog w A E s kd D lt) {st:SortSt}{Q:Unit->SortSt->Prop} (hD:∀x∈(arrOf st).toList,D x) (hk:kindOf st=kd) (hf:failedOf st=none) (hp:pendingOf st = #[])
  (h:∀st',(arrOf st').toList.Perm (arrOf st).toList->Wn lt (arrOf st').toList->failedOf st'=none->Q () st'):wpS (model prog w) A E s Zh6 Q st:=by
 have zs:(arrOf st).size=(arrOf st).toList.length:=by simp
 have R0:Rn lt kd (arrOf st).toList [] (arrOf st).toList st:=⟨rfl,fun r hr=>(by cases hr),by rw [hp];exact ZkF,.refl _,hk,hf⟩
 refine wpS_bind (wpS_get ?_)
 refine wpS_bind (wpS_mono (wpS_forRange (a:=0) (b:=(arrOf st).size) (I:=fun x c st'=>∃rs S,c=(none,rs.flatten.length)/\Rn lt kd (arrOf st).toList rs S st'/\(x<=rs.flatten.length∨S = []))
  (Q:=fun c st'=>∃rs,c.1=none/\Rn lt kd (arrOf st).toList rs [] st') ?_ ?_ ⟨[],_,rfl,R0,.inl (Nat.zero_le _)⟩) ?_)
 ·rintro x c st1 _ hx ⟨rs,S,rfl,R,pr⟩
  have ln:rs.flatten.length+S.length=(arrOf st).size:=by
   have:=R.perm.length_eq
   rw [R.arr,List.length_append] at this
   lia
  have z1:(arrOf st1).size=(arrOf st).size:=by
   have:=R.perm.length_eq
   simpa using this
  by_cases c0:rs.flatten.length>=(arrOf st).size
  ·show wpS _ _ _ _ (if rs.flatten.length>=(arrOf st).size then _ else _) _ _
   rw [if_pos c0]
   obtain rfl:S = []:=List.length_eq_zero_iff.mp (by lia)
   exact wpS_pure ⟨rs,rfl,R⟩
  ·show wpS _ _ _ _ (if rs.flatten.length>=(arrOf st).size then _ else _) _ _
   rw [if_neg c0]
   refine wpS_bind (Zfl C (lo:=rs.flatten.length) (n:=(arrOf st).size-rs.flatten.length) (by lia) (by lia) (fun y hy=>hD y (R.perm.mem_iff.mp hy)) R.kind fun m st2 m1 m2 kp sm=>?_)
   obtain ⟨S2,R2,l2⟩:=R.put kp
   have sz2:m<=S2.length:=by lia
   have z2:(arrOf st2).size=(arrOf st).size:=by rw [kp.size,z1]
   have prx:x<=rs.flatten.length:=by
    rcases pr with z | z
    ·exact z
    ·have:=congrArg List.length z
     rw [List.length_nil] at this
     lia
   show wpS _ _ _ _ (if m<(sortPriv% PySem.Builtin.minRun) (arrOf st).size (arrOf st).size 0 then _ else _) _ _
   generalize (sortPriv% PySem.Builtin.minRun) (arrOf st).size (arrOf st).size 0=mr
   refine Zm9 (fun c1=>?_) (fun c1=>?_)
   ·refine wpS_bind (wpS_lift (wpAny_rule ⟨rfl,?_⟩))
    refine wpS_bind (Zds C (lo:=rs.flatten.length) (n:=min ((arrOf st).size-rs.flatten.length) mr) (ok:=m) m1 (by lia) (by lia) (fun y hy=>hD y (R2.perm.mem_iff.mp hy)) R2.kind sm fun st3 kp3 sm3=>?_)
    obtain ⟨S3,R3,l3⟩:=R2.put kp3
    have hn0:0<min ((arrOf st).size-rs.flatten.length) mr:=by lia
    have hn1:min ((arrOf st).size-rs.flatten.length) mr<=S3.length:=by lia
    have hs:=R3.seg C.wo hn1 sm3
    refine wpS_bind (wpS_get ?_)
    generalize hbk:(pendingOf st3).back? = bk
    cases bk with
    | none=>
     have l5:rs.flatten.length=rs.flatten.length:=rfl
     refine wpS_bind (wpS_modify ?_)
     have R6:=R3.more (pw:=0) (g:=gallopOf (st3)) hn0 hn1 hs
     rw [l5] at R6
     refine wpS_pure ⟨rs ++ [S3.take (min ((arrOf st).size-rs.flatten.length) mr)],S3.drop (min ((arrOf st).size-rs.flatten.length) mr),?_,R6,.inl ?_⟩
     ·show ((none:Option Unit),rs.flatten.length+(min ((arrOf st).size-rs.flatten.length) mr))=_
      congr 1
      simp only [List.flatten_append,List.flatten_cons,List.flatten_nil,List.append_nil,List.length_append,List.length_take]
      lia
     ·simp only [List.flatten_append,List.flatten_cons,List.flatten_nil,List.append_nil,List.length_append,List.length_take]
      lia
    | some t=>
     obtain ⟨s1,n1,w1⟩:=t
     refine wpS_bind (wpS_mono (wpS_forRange (a:=0) (b:=(arrOf st).size) (I:=fun _ c st'=>c=(none,()) /\ ∃rs',Rn lt kd (arrOf st).toList rs' S3 st'/\rs'.flatten.length=rs.flatten.length) (Q:=fun c st'=>c=(none,()) /\ ∃rs',Rn lt kd (arrOf st).toList rs' S3 st'/\rs'.flatten.length=rs.flatten.length) ?_ (fun _ _ z=>z) ⟨rfl,rs,R3,rfl⟩) ?_)
     ·rintro y c st4 _ _ ⟨rfl,rs',R4,l4⟩
      have pl:(pendingOf st4).size=rs'.length:=by rw [<- R4.pend.1];simp
      refine wpS_bind (wpS_get ?_)
      show wpS _ _ _ _ (match (if (pendingOf st4).size>1 then (pendingOf st4)[(pendingOf st4).size-2]? else none) with | some (_,_,older)=>_ | x=>_) _ _
      by_cases hp1:(pendingOf st4).size>1
      ·rw [if_pos hp1]
       obtain ⟨t,ht⟩:∃t,(pendingOf st4)[(pendingOf st4).size-2]? = some t:=⟨_,getElem?_pos _ _ (by lia)⟩
       rw [ht]
       obtain ⟨a1,a2,older⟩:=t
       refine Zgc (fun _=>wpS_pure ⟨rfl,rs',R4,l4⟩) (fun _=>?_)
       refine wpS_bind (Zd0 C R4 hD (i:=(pendingOf st4).size-2) (by lia) fun rs'' st5 R5 a5 b5=>?_)
       exact wpS_pure ⟨rfl,rs'',R5,by lia⟩
      ·rw [if_neg hp1]
       exact wpS_pure ⟨rfl,rs',R4,l4⟩
     ·rintro c st4 ⟨rfl,rs',R4,l5⟩
      refine wpS_bind (wpS_modify ?_)
      have R5:=R4.pow (k:=(pendingOf st4).size-1) (f:=fun x=>match x with | (u,len,_)=>(u,len,(sortPriv% PySem.Builtin.power) (arrOf st).size (2*s1+n1) (2*s1+n1+n1+(min ((arrOf st).size-rs.flatten.length) mr)) (arrOf st).size)) (g:=gallopOf st4) fun a b c=>⟨_,rfl⟩
      refine wpS_bind (wpS_modify ?_)
      have R6:=R5.more (pw:=0) (g:=gallopOf (st4)) hn0 hn1 hs
      rw [l5] at R6
      refine wpS_pure ⟨rs' ++ [S3.take (min ((arrOf st).size-rs.flatten.length) mr)],S3.drop (min ((arrOf st).size-rs.flatten.length) mr),?_,R6,.inl ?_⟩
      ·show ((none:Option Unit),rs.flatten.length+(min ((arrOf st).size-rs.flatten.length) mr))=_
       congr 1
       simp only [List.flatten_append,List.flatten_cons,List.flatten_nil,List.append_nil,List.length_append,List.length_take]
       lia
      ·simp only [List.flatten_append,List.flatten_cons,List.flatten_nil,List.append_nil,List.length_append,List.length_take]
       lia
   ·have hs:=R2.seg C.wo sz2 sm
    have hn0:0<m:=by lia
    refine wpS_bind (wpS_get ?_)
    generalize hbk:(pendingOf st2).back? = bk
    cases bk with
    | none=>
     have l5:rs.flatten.length=rs.flatten.length:=rfl
     refine wpS_bind (wpS_modify ?_)
     have R6:=R2.more (pw:=0) (g:=gallopOf (st2)) hn0 sz2 hs
     rw [l5] at R6
     refine wpS_pure ⟨rs ++ [S2.take (m)],S2.drop (m),?_,R6,.inl ?_⟩
     ·show ((none:Option Unit),rs.flatten.length+(m))=_
      congr 1
      simp only [List.flatten_append,List.flatten_cons,List.flatten_nil,List.append_nil,List.length_append,List.length_take]
      lia
     ·simp only [List.flatten_append,List.flatten_cons,List.flatten_nil,List.append_nil,List.length_append,List.length_take]
      lia
    | some t=>
     obtain ⟨s1,n1,w1⟩:=t
     refine wpS_bind (wpS_mono (wpS_forRange (a:=0) (b:=(arrOf st).size) (I:=fun _ c st'=>c=(none,()) /\ ∃rs',Rn lt kd (arrOf st).toList rs' S2 st'/\rs'.flatten.length=rs.flatten.length) (Q:=fun c st'=>c=(none,()) /\ ∃rs',Rn lt kd (arrOf st).toList rs' S2 st'/\rs'.flatten.length=rs.flatten.length) ?_ (fun _ _ z=>z) ⟨rfl,rs,R2,rfl⟩) ?_)
     ·rintro y c st4 _ _ ⟨rfl,rs',R4,l4⟩
      have pl:(pendingOf st4).size=rs'.length:=by rw [<- R4.pend.1];simp
      refine wpS_bind (wpS_get ?_)
      show wpS _ _ _ _ (match (if (pendingOf st4).size>1 then (pendingOf st4)[(pendingOf st4).size-2]? else none) with | some (_,_,older)=>_ | x=>_) _ _
      by_cases hp1:(pendingOf st4).size>1
      ·rw [if_pos hp1]
       obtain ⟨t,ht⟩:∃t,(pendingOf st4)[(pendingOf st4).size-2]? = some t:=⟨_,getElem?_pos _ _ (by lia)⟩
       rw [ht]
       obtain ⟨a1,a2,older⟩:=t
       refine Zgc (fun _=>wpS_pure ⟨rfl,rs',R4,l4⟩) (fun _=>?_)
       refine wpS_bind (Zd0 C R4 hD (i:=(pendingOf st4).size-2) (by lia) fun rs'' st5 R5 a5 b5=>?_)
       exact wpS_pure ⟨rfl,rs'',R5,by lia⟩
      ·rw [if_neg hp1]
       exact wpS_pure ⟨rfl,rs',R4,l4⟩
     ·rintro c st4 ⟨rfl,rs',R4,l5⟩
      refine wpS_bind (wpS_modify ?_)
      have R5:=R4.pow (k:=(pendingOf st4).size-1) (f:=fun x=>match x with | (u,len,_)=>(u,len,(sortPriv% PySem.Builtin.power) (arrOf st).size (2*s1+n1) (2*s1+n1+n1+(m)) (arrOf st).size)) (g:=gallopOf st4) fun a b c=>⟨_,rfl⟩
      refine wpS_bind (wpS_modify ?_)
      have R6:=R5.more (pw:=0) (g:=gallopOf (st4)) hn0 sz2 hs
      rw [l5] at R6
      refine wpS_pure ⟨rs' ++ [S2.take (m)],S2.drop (m),?_,R6,.inl ?_⟩
      ·show ((none:Option Unit),rs.flatten.length+(m))=_
       congr 1
       simp only [List.flatten_append,List.flatten_cons,List.flatten_nil,List.append_nil,List.length_append,List.length_take]
       lia
      ·simp only [List.flatten_append,List.flatten_cons,List.flatten_nil,List.append_nil,List.length_append,List.length_take]
       lia
 ·rintro c st1 ⟨rs,S,rfl,R,pr⟩
  have ln:rs.flatten.length+S.length=(arrOf st).size:=by
   have:=R.perm.length_eq
   rw [R.arr,List.length_append] at this
   lia
  obtain rfl:S = []:=by
   rcases pr with z | z
   ·exact List.length_eq_zero_iff.mp (by lia)
   ·exact z
  exact ⟨rs,rfl,R⟩
 ·rintro c st1 ⟨rs,hc,R⟩
  obtain ⟨c1,c2⟩:=c
  dsimp only at hc
  subst hc
  refine wpS_bind (wpS_mono (wpS_forRange (a:=0) (b:=(arrOf st).size) (I:=fun x c st'=>c=(none,()) /\ ∃rs',Rn lt kd (arrOf st).toList rs' [] st'/\rs'.length+x<=(arrOf st).size) (Q:=fun c st'=>c=(none,()) /\ ∃rs',Rn lt kd (arrOf st).toList rs' [] st'/\rs'.length<=1) ?_ ?_ ⟨rfl,rs,R,?_⟩) ?_)
  ·rintro y c st4 _ _ ⟨rfl,rs',R4,l4⟩
   have pl:(pendingOf st4).size=rs'.length:=by rw [<- R4.pend.1];simp
   refine wpS_bind (wpS_get ?_)
   show wpS _ _ _ _ (if (pendingOf st4).size<=1 then _ else _) _ _
   refine Zgc (fun z=>wpS_pure ⟨rfl,rs',R4,by lia⟩) (fun z=>?_)
   refine wpS_bind (Zd0 C R4 hD ?_ fun rs'' st5 R5 a5 b5=>?_)
   ·show (if _=true then (pendingOf st4).size-2-1 else (pendingOf st4).size-2)+1<_
    exact Nat.lt_of_le_of_lt (Nat.succ_le_succ Zjf) (by lia)
   ·exact wpS_pure ⟨rfl,rs'',R5,by lia⟩
  ·rintro c st4 ⟨rfl,rs',R4,l4⟩
   exact ⟨rfl,rs',R4,by lia⟩
  ·have:=R.low
   have:=R.perm.length_eq
   rw [R.arr,List.append_nil] at this
   lia
  ·rintro c st4 ⟨rfl,rs',R4,l4⟩
   refine wpS_pure (h st4 R4.perm ?_ R4.fail)
   rw [R4.arr,List.append_nil]
   match rs',l4,R4 with
   | [],_,_=>exact .nil
   | [r],_,R4=>simpa using (R4.srt r (by simp)).1
   | _::_::_,l4,_=>simp at l4
end
def lexLt:List Int->List Int->Bool
 | [],[]=>false
 | [],_::_=>true
 | _::_,[]=>false
 | a::as,b::bs=>if a=b then lexLt as bs else decide (a<b)
open PySem.SeqAt AutoSeq1 in
theorem Zdc (l b:Addr) (items items2:Array Value) (n n2:Nat) (dd dd2:Option Addr) (sl sl2:Array (Option Value)) (xs ys:List Int) (hx:IntsAre items.toList xs) (hy:IntsAre items2.toList ys):
  Meets (Builtin.«tuple.__lt__» ⟨[.ref l,.ref b],[]⟩) (fun A R s=>s.heap.get? l=some { cls:=.type "tuple", dict:=dd,data:=.seq items n,slots:=sl } /\ s.heap.get? b=some { cls:=.type "tuple", dict:=dd2,data:=.seq items2 n2,slots:=sl2 } /\ R (.ok (.ret (.bool (lexLt xs ys)))) s):=
 .of_wp fun prog w A R s h=>by
  obtain ⟨hp,g,d,tk,os⟩:=s;obtain ⟨hl,hb,h⟩:=h
  have:=AutoSeq1.sub_tuple_tuple
  have lx:items.size=xs.length:=by rw [<- Array.length_toList];exact IntsAre.length hx
  have ly:items2.size=ys.length:=by rw [<- Array.length_toList];exact IntsAre.length hy
  wp_walk using wpAny_loadPart' hl,wpAny_loadPart' hb,wpAny_forIn_list _ (fun rest r s'=>r.1=none/\s' = ⟨hp,g,d,tk,os⟩ /\ ∃us vs ps qs,rest=us.zip vs/\IntsAre us ps/\IntsAre vs qs/\lexLt xs ys=lexLt ps qs/\(xs.length<ys.length ↔ ps.length<qs.length)) _
  case turn=>
   rintro _ rest r s' ⟨_,rfl,us,vs,ps,qs,e,hu,hv,le,ln⟩
   cases hu with
   | nil=>cases e
   | cons p t hu=>
    cases hv with
    | nil=>cases e
    | cons q u hv=>
     cases e
     rw [lexLt] at le
     refine wpAny_bind (wpAny_eqBool_int ?_)
     by_cases z:p=q
     ·rw [if_neg (by simp [z])]
      exact wpAny_pure ⟨rfl,rfl,_,_,_,_,rfl,hu,hv,by rw [le,if_pos z],by simpa using ln⟩
     ·rw [if_pos (by simp [z])]
      rw [le,if_neg z] at h
      refine wpAny_bind (wpAny_rule (wpAny_bind (wpAny_lt_int ?_)))
      wp_walk
      exact ⟨_,rfl,h⟩
  case fin=>
   rintro ⟨_,_⟩ s' ⟨hr,rfl,us,vs,ps,qs,e,hu,hv,le,ln⟩
   cases hr
   have:lexLt ps qs=decide (items.size<items2.size):=by
    rw [lx,ly,show decide (xs.length<ys.length)=decide (ps.length<qs.length) from decide_eq_decide.mpr ln]
    cases hu with
    | nil=>cases hv<;>simp [lexLt]
    | cons=>cases hv with
     | nil=>simp [lexLt]
     | cons=>cases e
   rw [le,this] at h
   wp_walk
   exact ⟨_,rfl,h⟩
  case h=>exact ⟨rfl,rfl,_,_,_,_,rfl,hx,hy,rfl,Iff.rfl⟩
theorem U0:∀xs:List Int,lexLt xs xs=false
 | []=>rfl
 | a::as=>by rw [lexLt,if_pos rfl];exact U0 as
theorem ZeT:∀(xs ys zs:List Int),lexLt xs zs=true->lexLt xs ys=true∨lexLt ys zs=true
 | [],[],[],h=>by simp [lexLt] at h
 | [],[],_::_,h=>.inr rfl
 | [],_::_,_,h=>.inl rfl
 | _::_,_,[],h=>by simp [lexLt] at h
 | _::_,[],_::_,h=>.inr rfl
 | a::as,b::bs,c::cs,h=>by
  simp only [lexLt] at h ⊢
  by_cases e1:a=c
  ·subst e1
   rw [if_pos rfl] at h
   by_cases e2:a=b
   ·subst e2
    rw [if_pos rfl,if_pos rfl]
    exact ZeT as bs cs h
   ·rw [if_neg e2,if_neg (Ne.symm e2),decide_eq_true_eq,decide_eq_true_eq]
    lia
  ·rw [if_neg e1,decide_eq_true_eq] at h
   by_cases e2:a=b
   ·subst e2
    rw [if_neg e1]
    exact .inr (decide_eq_true h)
   ·rw [if_neg e2]
    by_cases e3:b=c
    ·subst e3
     exact .inl (decide_eq_true h)
    ·rw [if_neg e3,decide_eq_true_eq,decide_eq_true_eq]
     lia
theorem Uw:∀(xs ys:List Int),lexLt xs ys=true->lexLt ys xs=false
 | [],[],h=>by simp [lexLt] at h
 | [],_::_,_=>rfl
 | _::_,[],h=>by simp [lexLt] at h
 | a::as,b::bs,h=>by
  simp only [lexLt] at h ⊢
  by_cases e:a=b
  ·subst e
   rw [if_pos rfl] at h ⊢
   exact Uw as bs h
  ·rw [if_neg e,decide_eq_true_eq] at h
   rw [if_neg (Ne.symm e)]
   exact decide_eq_false (by lia)
section
variable {prog:Program}{w:World}{A:Around}{E:Value->Shared->Prop}{s:Shared}{a b:Addr}{xs ys:List Int}
def Zdo (T:String) (h:Heap) (a:Addr) (ks:List Int):Prop:=∃(vs:Array Value) (dd:Option Addr) (n:Nat) (sl:Array (Option Value)),h.get? a=some { cls:=.type T,dict:=dd,data:=.seq vs n,slots:=sl } /\ IntsAre vs.toList ks
abbrev Za2:=Zdo "tuple"
theorem ZkC {Q:Value->Shared->Prop} (ha:Za2 s.heap a xs) (hb:Za2 s.heap b ys) (hu:A.units<cLine) (h:Q (.bool (lexLt xs ys)) s):wpAny (model prog w) A (richCompare .Lt (.ref a) (.ref b)) Q E s:=by
 obtain ⟨vs,dd,n,sl,e,i⟩:=ha
 obtain ⟨vs2,dd2,n2,sl2,e2,i2⟩:=hb
 exact richCompare_meets_room (op:=.Lt) ⟨_,e,rfl⟩ ⟨_,e2,rfl⟩ F.slot_tuple_lt F.entry_tuple_lt (F.args_tuple_lt_2 _ _) (Zdc a b vs vs2 n n2 dd dd2 sl sl2 xs ys i i2) ⟨e,e2,show Value.bool (lexLt xs ys)≠Value.notImplemented/\Q _ s from ⟨(fun x=>nomatch x),h⟩⟩ hu
theorem Zl1 {Q:Bool->Shared->Prop} (ha:Za2 s.heap a xs) (hb:Za2 s.heap b ys) (hu:A.units<cLine) (h:Q (lexLt xs ys) s):wpAny (model prog w) A (oneLt' false (.ref a) (.ref b)) Q E s:=by
 rw [oneLt'_eq]
 simp only [Bool.false_eq_true,if_false]
 exact wpAny_bind (ZkC ha hb hu (wpAny_truthy_bool h))
end
section
variable {prog:Program}{w:World}{A:Around}{E:Value->Shared->Prop}{s:Shared}{a b:Addr}{xs ys:List Int}
def Zfy (h:Heap):Value->List Int
 | .ref a=>match h.get? a with
  | some o=>match o.data with
   | .seq vs _=>vs.toList.map numOf
   | _=>[]
  | none=>[]
 | _=>[]
theorem Zdo.key {T:String}{h:Heap} (x:Zdo T h a xs):Zfy h (.ref a)=xs:=by
 obtain ⟨vs,dd,n,sl,e,i⟩:=x
 show (match h.get? a with | some o=>_ | none=>_)=_
 rw [e]
 exact i.nums
theorem Zdo.kept {T:String}{h h':Heap} (x:Zdo T h a xs) (k:∀o,h.get? a=some o->h'.get? a=some o):Zdo T h' a xs:=
 let ⟨vs,dd,n,sl,e,i⟩:=x;⟨vs,dd,n,sl,k _ e,i⟩
theorem Zl0 {Q:Bool->Shared->Prop} (ha:Za2 s.heap a xs) (hb:Za2 s.heap b ys) (hu:A.units<cLine) (h:Q (lexLt xs ys) s):wpAny (model prog w) A (oneLt' true (.ref a) (.ref b)) Q E s:=by
 rw [oneLt'_eq]
 simp only [if_true]
 refine wpAny_bind (wpAny_cRoomFor hu ?_)
 obtain ⟨vs,dd,n,sl,e,i⟩:=ha
 obtain ⟨vs2,dd2,n2,sl2,e2,i2⟩:=hb
 refine wpAny_bind (wpAny_callSpecialIfBound?_slot (T := "tuple") ⟨_,e,rfl⟩ F.slot_tuple_lt ?_)
 refine call_meets F.slot_tuple_lt ⟨_,e,rfl⟩ F.entry_tuple_lt (F.args_tuple_lt_2 _ _) (Zdc a b vs vs2 n n2 dd dd2 sl sl2 xs ys i i2) ⟨e,e2,?_⟩
 exact wpAny_bind (wpAny_truthy_bool (wpAny_pure h))
theorem Zg8 {c:Bool}{Q:Bool->Shared->Prop}:∀{us vs:List Value}{xs ys:List Int},IntsAre us xs->IntsAre vs ys -> ∀(i:Nat) (fin:Bool),(xs.length<ys.length ↔ fin=true)->Q (lexLt xs ys) s->W.KatLex prog w A c fin Q (us.zip vs) i s
 | _,_,_,_,.nil,.nil,i,fin,hf,h=>by
  have:fin=false:=by cases fin with | false=>rfl | true=>exact absurd (hf.mpr rfl) (by simp)
  subst this;exact h
 | _,_,_,_,.nil,.cons n t hr,i,fin,hf,h=>by
  have:fin=true:=hf.mp (by simp)
  subst this;exact h
 | _,_,_,_,.cons n t hr,.nil,i,fin,hf,h=>by
  have:fin=false:=by cases fin with | false=>rfl | true=>exact absurd (hf.mpr rfl) (by simp)
  subst this;exact h
 | _,_,_,_,.cons n t hr,.cons m u hs,i,fin,hf,h=>by
  refine W.kat_cons (wpAny_eqBool_int ?_)
  rw [lexLt] at h
  by_cases e:n=m
  ·rw [if_pos e] at h
   rw [show (n==m)=true by simp [e]]
   exact W.kat_yes (Zg8 hr hs (i+1) fin (by simpa using hf) h)
  ·rw [if_neg e] at h
   rw [show (n==m)=false by simp [e]]
   refine W.kat_no ?_
   cases hc:(c&&i==0) with
   | true=>exact oneLt_int h
   | false=>exact W.kat_one _ _ (wpAny_lt_int h)
theorem ZnR {c:Bool}{Q:Bool->Shared->Prop} (ha:Za2 s.heap a xs) (hb:Za2 s.heap b ys) (h:Q (lexLt xs ys) s):wpAny (model prog w) A (keyLt' (tuples' c) (.ref a) (.ref b)) Q E s:=by
 obtain ⟨vs,dd,n,sl,e,i⟩:=ha
 obtain ⟨vs2,dd2,n2,sl2,e2,i2⟩:=hb
 refine W.kat_lt e rfl e2 rfl (Zg8 i i2 0 _ ?_ h)
 have l1:=IntsAre.length i
 have l2:=IntsAre.length i2
 rw [Array.length_toList] at l1 l2
 rw [decide_eq_true_eq]
 lia
def Kd3 (kd:SortKind):Prop:=(∃c,kd=tuples' c)∨kd=general'∨kd=oneType'
def DS (T:String) (s:Shared) (p:Keyed):Prop:=∃a ks,p.1 = .ref a/\Zdo T s.heap a ks
def ltW (s:Shared) (p q:Keyed):Bool:=lexLt (Zfy s.heap p.1) (Zfy s.heap q.1)
theorem ZiE {kd:SortKind} (hkd:Kd3 kd) (hu:A.units<cLine):Cmp prog w A E s kd (DS "tuple" s) (ltW s) where
 wo:=⟨fun p=>U0 _,fun p q h=>Uw _ _ h,fun p q r h=>ZeT _ _ _ h⟩
 cmp:=fun p q st Q ⟨a,ks,e1,h1⟩ ⟨b,js,e2,h2⟩ hk h=>by
  unfold ltW at h
  rw [e1,e2,h1.key,h2.key] at h
  rw [lt'_eq]
  refine wpS_bind (wpS_get ?_)
  rw [hk,e1,e2]
  refine wpS_bind (wpS_lift (wpAny_attempt ?_))
  rcases hkd with ⟨c,rfl⟩ | rfl | rfl
  ·exact ZnR h1 h2 ⟨rfl,wpS_pure h⟩
  ·exact Zl1 h1 h2 hu ⟨rfl,wpS_pure h⟩
  ·exact Zl0 h1 h2 hu ⟨rfl,wpS_pure h⟩
theorem ZcX {M:Model}:∀(vs:List Value) {Q:List (Option Value)->Shared->Prop},(∀v∈vs,∃a ks,v = .ref a/\Za2 s.heap a ks)->(∀fs:List (Option Value),(∀f∈fs,f=none ∨ ∃n t,f=some (.int n t))->Q fs s)->wpAny M A (vs.mapM firstOfTuple') Q E s
 | [],Q,_,h=>by rw [List.mapM_nil];exact wpAny_pure (h [] fun f hf=>by cases hf)
 | v::vs,Q,hv,h=>by
  obtain ⟨a,ks,rfl,ws,dd,n,sl,e,i⟩:=hv v List.mem_cons_self
  rw [List.mapM_cons]
  refine wpAny_bind ?_
  rw [W.kas_first_eq]
  refine wpAny_bind (wpAny_typeOf (T := "tuple") ⟨_,e,rfl⟩ ?_)
  rw [if_neg (by first | decide | simp)]
  refine wpAny_bind (listItems_at e rfl (wpAny_pure ?_))
  refine wpAny_bind (ZcX vs (fun v hv'=>hv v (List.mem_cons_of_mem _ hv')) fun fs hfs=>wpAny_pure (h _ fun f hf=>?_))
  rcases List.mem_cons.mp hf with rfl | hf
  ·cases e0:ws[0]? with
   | none=>exact .inl rfl
   | some x=>
    obtain ⟨t,et⟩:=IntsAre.int_at i 0 x (by rw [Array.getElem?_toList];exact e0)
    exact .inr ⟨_,t,by rw [et]⟩
  ·exact hfs f hf
theorem ZgM {M:Model}{vs:List Value}{Q:SortKind->Shared->Prop} (hv:∀v∈vs,∃a ks,v = .ref a/\Za2 s.heap a ks) (h:∀kd,Kd3 kd->Q kd s):wpAny M A (keyKind' vs.toArray) Q E s:=by
 rw [kat_kind_eq,List.mapM_toArray,map_eq_pure_bind]
 refine wpAny_bind (wpAny_bind (ZcX vs hv fun fs hfs=>wpAny_pure ?_))
 refine wpAny_ite_split (fun _=>?_) (fun _=>wpAny_ite_split (fun _=>wpAny_pure (h _ (.inr (.inl rfl)))) fun _=>?_)
 ·refine wpAny_bind (wpAny_rule ?_)
  have hfm:(fs.toArray.filterMap id)=(fs.filterMap id).toArray:=by simp
  rw [hfm,oneTypeOnly'_eq,List.mapM_toArray,map_eq_pure_bind]
  refine wpAny_bind (wpAny_bind (wpAny_bind (W.kas_mapM (r:=.type "int") _ (fun v hv' Q' hq=>?_) (wpAny_pure ?_))))
  ·obtain ⟨f,hf,ef⟩:=List.mem_filterMap.mp hv'
   rcases hfs f hf with rfl | ⟨n,t,rfl⟩
   ·cases ef
   ·cases ef
    exact wpAny_typeOf (typeIs_int s n t) hq
  ·split
   ·exact wpAny_pure (wpAny_pure (h _ (.inl ⟨_,rfl⟩)))
   ·exact wpAny_pure (wpAny_pure (h _ (.inl ⟨_,rfl⟩)))
 ·rw [oneTypeOnly'_eq,List.mapM_toArray,map_eq_pure_bind]
  refine wpAny_bind (wpAny_bind (wpAny_bind (W.kas_mapM (r:=.type "tuple") _ (fun v hv' Q' hq=>?_) (wpAny_pure ?_))))
  ·obtain ⟨a,ks,rfl,ws,dd,n,sl,e,i⟩:=hv v hv'
   exact wpAny_typeOf (T := "tuple") ⟨_,e,rfl⟩ hq
  ·split
   ·refine wpAny_pure (wpAny_pure (h _ ?_))
    split
    ·exact .inr (.inr rfl)
    ·exact .inr (.inl rfl)
   ·exact wpAny_pure (wpAny_pure (h _ (.inr (.inl rfl))))
def ZkB (h:Heap) (l:List Value):Prop:=l.Pairwise fun u v=>lexLt (Zfy h v) (Zfy h u)=false
theorem Zix {M:Model} {α β:Type}{c:Prop} [Decidable c] {m n:Sem α}{f:α -> Sem β}{Q:β -> Shared->Prop} (R:α -> Prop) (h1:c -> ∀Q':α -> Shared->Prop,(∀x,R x->Q' x s)->wpAny M A m Q' E s) (h2:¬c -> ∀Q':α -> Shared->Prop,(∀x,R x->Q' x s)->wpAny M A n Q' E s)
  (h:∀x,R x->wpAny M A (f x) Q E s):wpAny M A (if c then m >>= f else n >>= f) Q E s:=by
 split
 ·exact wpAny_bind (h1 (by assumption) _ h)
 ·exact wpAny_bind (h2 (by assumption) _ h)
theorem Zit {T:String} (kp:SortKind->Prop) {D:Addr}{vs:List Value}{n:Nat}{P:PySem.Fin->Shared->Prop} (cm:∀s' kd,kp kd->Cmp prog w A E s' kd (DS T s') (ltW s'))
  (kn:∀(s':Shared) (Q:SortKind->Shared->Prop),vs ≠ []->(∀v∈vs,∃a ks,v = .ref a/\Zdo T s'.heap a ks)->(∀kd,kp kd->Q kd s')->wpAny (model prog w) A (keyKind' vs.toArray) Q E s')
  (ho:s.heap.get? D=some (seqObj "list" vs.toArray n)) (hv:∀v∈vs,∃a ks,v = .ref a/\a≠D/\Zdo T s.heap a ks) (hz:vs.length<=sizeLine)
  (h:∀out:Array Value,out.toList.Perm vs->ZkB s.heap out.toList->P (.done (.ret .none)) { s with heap:=sortedHeap s.heap D vs out }):
  wpAny (model prog w) A (Builtin.«list.sort» ⟨[.ref D],[]⟩) P E s:=by
 rw [list_sort_plain]
 obtain ⟨ep,he⟩:∃ep,(s.heap.update D (Obj.mapSeq fun _=>#[])).get? D=some (seqObj "list" #[] ep):=⟨_,get?_update_seq ho fun _=>#[]⟩
 refine wpAny_bind (listItems_at ho rfl (wpAny_bind (listUpdate_at ho rfl (wpAny_bind (seqEpoch_at he rfl (wpAny_bind (wpAny_newTuple (wpAny_bind (wpAny_newList (wpAny_holding ?_))) (by simpa using hz))))) (by simpa using hz))))
 obtain ⟨u,eu⟩:∃u:Shared,u = { s with heap:=((s.heap.update D (Obj.mapSeq fun _=>#[])).push (seqObj "tuple" vs.toArray 0)).push (seqObj "list" #[] 0) }:=⟨_,rfl⟩
 have keep:∀b o,b≠D->s.heap.get? b=some o->u.heap.get? b=some o:=fun b o hb e=>by
  rw [eu]
  exact Heap.get?_push_of_some _ (Heap.get?_push_of_some _ ((Heap.get?_update_other _ _ (Ne.symm hb)).trans e))
 have hD:u.heap.get? D=some (seqObj "list" #[] ep):=by rw [eu];exact Heap.get?_push_of_some _ (Heap.get?_push_of_some _ he)
 have hu4:∀v∈vs,(∃a ks,v = .ref a/\Zdo T u.heap a ks)/\Zfy u.heap v=Zfy s.heap v:=fun v hv'=>by
  obtain ⟨a,ks,rfl,ne,t⟩:=hv v hv'
  have t':=t.kept fun o q=>keep a o ne q
  exact ⟨⟨a,ks,rfl,t'⟩,by rw [t.key,t'.key]⟩
 show wpAny (model prog w) A _ P E { s with heap:=((s.heap.update D (Obj.mapSeq fun _=>#[])).push (seqObj "tuple" vs.toArray 0)).push (seqObj "list" #[] 0) }
 rw [<- eu]
 dsimp only
 refine Zix (fun kd=>vs.toArray.size<2∨kp kd) (fun h2 Q' q=>wpAny_pure (q _ (.inl h2))) (fun h2 Q' q=>kn u Q' (fun z=>h2 (by rw [z];decide)) (fun v hv'=>(hu4 v hv').1) fun kd hk=>q kd (.inr hk)) fun kd hk=>?_
 refine wpAny_bind (wpAny_mono (Q:=fun r s''=>s''=u/\(arrOf r.2).toList.Perm (pairsOf vs).toList/\Wn (ltW u) (arrOf r.2).toList/\failedOf r.2=none) ?_ (fun r s'' hr=>?_) fun _ _ e=>e)
 ·by_cases h2:vs.toArray.size<2
  ·rw [if_pos h2,StateT.run_pure]
   refine wpAny_pure ⟨rfl,List.Perm.refl _,?_,rfl⟩
   have lp:(pairsOf vs).toList.length<2:=by rw [Array.length_toList,pairsOf_size];simpa using h2
   show Wn _ (pairsOf vs).toList
   generalize (pairsOf vs).toList=L at lp ⊢
   cases L with
   | nil=>exact .nil
   | cons x t=>
    cases t with
    | nil=>exact List.pairwise_singleton _ _
    | cons y t=>exact absurd lp (by simp)
  ·rw [if_neg h2]
   refine wpAny_mono (Zfb (cm u kd (hk.resolve_left h2)) (st:=SortSt.mk' kd (vs.toArray.zip vs.toArray) #[] 7 none) (Q:=fun _ st'=>(arrOf st').toList.Perm (pairsOf vs).toList/\Wn (ltW u) (arrOf st').toList/\failedOf st'=none)
    (fun p hp=>?_) rfl rfl rfl fun st' a1 a2 a3=>⟨a1,a2,a3⟩) (fun r s'' x=>x) fun _ _ e=>e
   have hp':p∈(pairsOf vs).toList:=hp
   rw [pairsOf_toList] at hp'
   exact (hu4 _ (mem_zip_self hp').2).1
 obtain ⟨rfl,hp,hs,hf⟩:=hr
 refine wpAny_bind (seqEpoch_at hD rfl (wpAny_bind (listUpdate_at hD rfl ?_ (hsz2:=by
  have:=hp.length_eq
  rw [Array.length_toList,Array.length_toList,pairsOf_size] at this
  rw [Array.size_map,this];lia))))
 have same:∀p∈(arrOf r.2).toList,p.1=p.2/\p.1∈vs:=fun p hp'=>by
  have:=hp.mem_iff.mp hp'
  rw [pairsOf_toList] at this
  exact mem_zip_self this
 have:=h ((arrOf r.2).map (·.2)) (by
  rw [Array.toList_map]
  refine (hp.map _).trans ?_
  rw [pairsOf_toList,List.map_snd_zip (Nat.le_refl _)]) (by
  rw [Array.toList_map]
  refine List.pairwise_map.mpr (List.Pairwise.imp_of_mem (fun {p q} hp' hq' x=>?_) hs)
  rw [<- (same p hp').1,<- (same q hq').1,<- (hu4 _ (same p hp').2).2,<- (hu4 _ (same q hq').2).2]
  exact x)
 unfold sortedHeap at this
 subst eu
 rw [hf,if_neg (by simp)]
 exact wpAny_pure this
theorem ZgE {D:Addr}{vs:List Value}{n:Nat}{P:PySem.Fin->Shared->Prop} (hu:A.units<cLine) (ho:s.heap.get? D=some (seqObj "list" vs.toArray n)) (hv:∀v∈vs,∃a ks,v = .ref a/\a≠D/\Za2 s.heap a ks) (hz:vs.length<=sizeLine)
  (h:∀out:Array Value,out.toList.Perm vs->ZkB s.heap out.toList->P (.done (.ret .none)) { s with heap:=sortedHeap s.heap D vs out }):
  wpAny (model prog w) A (Builtin.«list.sort» ⟨[.ref D],[]⟩) P E s:=Zit Kd3 (fun s' kd hk=>ZiE hk hu) (fun s' Q _ hv h=>ZgM hv h) ho hv hz h
end
theorem Zab {α β:Type} (f:α -> β):∀(l:List α) (j:Nat),(l.map f).eraseIdx j=(l.eraseIdx j).map f
 | [],_=>rfl
 | _::_,0=>rfl
 | x::l,j+1=>by show f x::(l.map f).eraseIdx j=f x::(l.eraseIdx j).map f;rw [Zab f l j]
section
variable {prog:Program}{w:World}{K:Type} [DecidableEq K] {knd:HeapKind prog w K}{A:Around}{E:Value->Shared->Prop}{s:Shared}
def Zgq (xs:List (K×Addr×Value)) (k:K):List (K×Addr×Value):=xs.filter fun x=>decide (x.1≠k)
theorem Zc7:∀{xs:List (K×Addr×Value)}{j:Nat}{k:K}{p:Addr×Value},(xs.map (·.1)).Nodup->xs[j]? = some (k,p)->xs.eraseIdx j=Zgq xs k
 | [],j,k,p,_,h=>by simp at h
 | x::xs,0,k,p,hn,h=>by
  simp only [List.getElem?_cons_zero,Option.some.injEq] at h
  subst h
  rw [List.map_cons,List.nodup_cons] at hn
  show xs=_
  unfold Zgq
  rw [List.filter_cons_of_neg (by simp)]
  symm
  refine List.filter_eq_self.mpr fun y hy=>?_
  have:¬y.1=k:=fun e=>hn.1 (List.mem_map.mpr ⟨y,hy,e⟩)
  simp [this]
 | x::xs,j+1,k,p,hn,h=>by
  rw [List.getElem?_cons_succ] at h
  rw [List.map_cons,List.nodup_cons] at hn
  have:¬x.1=k:=fun e=>hn.1 (List.mem_map.mpr ⟨_,List.mem_of_getElem? h,e.symm⟩)
  show x::xs.eraseIdx j=_
  unfold Zgq
  rw [List.filter_cons_of_pos (by simp [this]),Zc7 hn.2 h];rfl
theorem Zea {d a:Addr}{xs:List (K×Addr×Value)}{k:K}{Q:Option DictEntry->Shared->Prop} (hu:knd.room A) (hkey:knd.is s.heap k a) (hm:s.heap.DictOfH knd d xs) (ht:(atKey xs k).isSome=true) (hsz:xs.length<=sizeLine)
  (h:∀e h',h'.DictOfH knd d (Zgq xs k)->Heap.SameBut d s.heap h'->Q (some e) { s with heap:=h',toks:=s.toks+knd.draws k }):
  wpAny (model prog w) A (Builtin.Dict.takeOut d (.ref a)) Q E s:=by
 obtain ⟨o,es,ep,ho,hc,hd,he,his,hn⟩:=hm
 have hes:es.size<=sizeLine:=by rw [size_of_entries he];exact hsz
 unfold Builtin.Dict.takeOut
 try with_reducible refine wpAny_holding ?_
 refine wpAny_bind (knd.pyHash hu hkey ?_)
 refine wpAny_bind (wpAny_dictFind_heap (s:={ s with toks:=s.toks+knd.draws k }) hu hkey ho hd he his hn (fun hno=>?_) fun j p hj=>?_)
 ·rw [atKey_none_of_get hno] at ht;cases ht
 ·refine wpAny_bind (wpAny_dictEntries (s:={ s with toks:=s.toks+knd.draws k }) ho hd ?_)
  have he':es[j]? = some (entryOfKey knd (k,p)):=by rw [entry_at he j,hj];rfl
  rw [he']
  refine wpAny_bind (wpAny_updateDictKeys (hz:=hes) (s:={ s with toks:=s.toks+knd.draws k }) ho hd (wpAny_pure (h _ _ ⟨_,_,ep+1,Heap.get?_update_self _ ho (Obj.isFreed_of_dict (Obj.data_mapDictKeys hd _)),
   hc.mapDictKeys _,Obj.data_mapDictKeys hd _,?_,fun x hx=>?_,?_⟩ (Heap.SameBut.update ..))))
  ·rw [<- Zc7 hn hj]
   obtain ⟨l⟩:=es
   simp only [List.eraseIdxIfInBounds_toArray]
   have:l=xs.map (entryOfKey knd):=he
   rw [this,Zab]
  ·exact knd.keeps (his x (List.mem_filter.mp hx).1) ho hd (Heap.SameBut.update ..)
  ·exact List.Nodup.sublist ((List.filter_sublist).map _) hn
theorem U9 {d a:Addr}{k:K}:
  MeetsIn prog w (Builtin.«dict.__delitem__» ⟨[.ref d,.ref a],[]⟩) (fun A R s=>knd.room A.in1 /\ ∃xs,knd.is s.heap k a/\s.heap.DictOfH knd d xs/\xs.length<=sizeLine/\(atKey xs k).isSome=true /\
   ∀h',h'.DictOfH knd d (Zgq xs k)->Heap.SameBut d s.heap h'->R (.ok (.ret .none)) { s with heap:=h',toks:=s.toks+knd.draws k }):=
 .of_wp fun A R s ⟨hu,xs,hkey,hm,hsz,hthere,h⟩=>by
  unfold Builtin.«dict.__delitem__»
  refine wpAny_bind ?_
  unfold Builtin.Dict.dictSlotArgs
  refine wpAny_bind (wpAny_notOrdered_dict hm.typeIs ?_)
  show wpAny _ _ (pure (Value.ref d,Value.ref a)) _ _ s
  refine wpAny_pure ?_
  show wpAny _ _ (Builtin.Dict.takeOut d (.ref a) >>= _) _ _ s
  refine wpAny_bind (Zea hu hkey hm hthere hsz fun e h' hm' hs'=>?_)
  exact wpAny_bind (wpAny_letGo (wpAny_pure ⟨.none,rfl,h h' hm' hs'⟩))
end
theorem KT.drop {H:Hp}{kvs:List (List Key×V)}{xs:List (List Key×Addr×Value)} (r:KT H kvs xs) (k:List Key):KT H (ZcA kvs k) (Zgq xs k):=by
 unfold ZcA Zgq
 induction r with
 | nil=>exact .nil
 | @cons p q ps qs h t ih=>
  rw [List.filter_cons,List.filter_cons]
  obtain ⟨h1,h2,h3⟩:=h
  by_cases e:p.1=k
  ·have e':q.1=k:=h1.symm.trans e
   simp only [e,e',ne_eq,not_true,decide_false,Bool.false_eq_true,if_false];exact ih
  ·have e':¬q.1=k:=fun z=>e (h1.trans z)
   simp only [e,e',ne_eq,not_false_eq_true,decide_true,if_true];exact .cons ⟨h1,h2,h3⟩ ih
section
variable {X:Cx}{pins:List (Addr×Obj)} {σ:St}{H:Hp}{s:Shared}{a b:Addr}{kvs:List (List Key×V)}{k:List Key}{A:Around}{E:Value->Shared->Prop}
theorem ZgL {Q:Unit->Shared->Prop} (hu:A.units+1<cLine) (I:Inv X pins σ H s) (e:H a=some (.dT kvs)) (eb:H b=some (.tup (k.map kV))) (l:(U7 kvs k).isSome=true) (h:∀s',Inv X pins σ (upd H a (.dT (ZcA kvs k))) s'->Q () s'):
  wpAny (model X.prog X.w) A (delItem (.ref a) (.ref b)) Q E s:=by
 obtain ⟨z,hd,xs,rel,dd⟩:=Zj9 I.hok e
 refine wpAny_delItem_slot dd.typeIs (by decide) PySem.F.slot_dict_delitem
  (call_meetsIn PySem.F.slot_dict_delitem dd.typeIs PySem.F.entry_dict_delitem (PySem.F.args_dict_delitem_2 _ _) (U9 (knd:=tupleKind (YD X.prog X.w)) (d:=a) (a:=b) (k:=k))
   ⟨tupleKind_room_in1 hu,xs,ZeE I.hok eb,dd,by rw [<- Paired.length rel];exact z,by
    have q:=(rel.val k).isSome_eq
    rw [Option.isSome_map] at q
    rw [<- q];exact l,fun h' dd' hs=>h _ ?_⟩)
 obtain ⟨q,es,ep,hq,h2,h3,h4,_,h5⟩:=dd'
 refine Zd5 I (by rw [e];exact True.intro) hs ⟨q,hq⟩ ⟨Nat.le_trans (Zje kvs k) z,hd,_,(rel.drop k).keeps fun c ys ec=>?_,q,es,ep,hq,h2,h3,h4,h5⟩
 rw [Zj (ZfD ec e (fun z=>nomatch z))]
 exact ec
end
def ZmR (td ty:TE):TS:=fun D σ H=>td σ H fun x H1=>ty σ H1 fun y H2=>∃a kvs k b,x = .ref a/\H2 a=some (.dT kvs)/\y = .ref b/\H2 b=some (.tup (k.map kV))/\(U7 kvs k).isSome=true/\D.nx σ (upd H2 a (.dT (ZcA kvs k)))
theorem ZjJ {X:Cx}{o i:Expr}{pos tpos:Pos}{td ty:TE} (hu:X.A.units+1<cLine) (ho:PE X o td) (hi:PE X i ty):PS X (.Delete [.Subscript o i tpos] pos) (ZmR td ty):=by
 intro pins s σ H D I h
 refine wpAny_Delete (wpAny_deleteEach_cons (wpAny_delete_Subscript (YB (ho pins s σ H _ I h) fun u s1 ⟨x,H1,I1,rx,q1⟩=>YB (hi pins s1 σ H1 _ I1 q1) fun iv s2 ⟨y,H2,I2,ry,a,kvs,k,b,ex,e,ey,eb,l,q2⟩=>?_)))
 subst ex ey
 obtain rfl:u=Value.ref a:=rx
 obtain rfl:iv=Value.ref b:=ry
 exact ZgL hu I2 e eb l fun s3 I3=>wpAny_deleteEach_nil ⟨σ,_,I3,q2⟩
def DAt (h:Heap) (d:Addr) (es:Array DictEntry) (ep:Nat):Prop:=∃o,h.get? d=some o/\o.ExactDict/\o.data = .dict es ep
section
variable {prog:Program}{w:World}{A:Around}{E:Value->Shared->Prop}{s:Shared}{d it:Addr}{es:Array DictEntry}{ep i:Nat}
theorem DAt.typeIs (x:DAt s.heap d es ep):s.TypeIs (.ref d) "dict" := let ⟨o,e,c,_⟩:=x;⟨o,e,c.1⟩
theorem DAt.kept {h h':Heap} (x:DAt h d es ep) (k:∀o,h.get? d=some o->h'.get? d=some o):DAt h' d es ep:=let ⟨o,e,r⟩:=x;⟨o,k o e,r⟩
theorem DAt.lt {h:Heap} (x:DAt h d es ep):d<h.objs.size:=let ⟨_,e,_⟩:=x;Heap.lt_size e
theorem Zns {Q:Value->Shared->Prop} (hd:(d==sysModules)=false) (x:DAt s.heap d es ep)
  (hQ:Q (.ref s.heap.objs.size) { s with heap:=s.heap.push { cls:=.type "dict_keyiterator", data:=.fields #[.ref d,.int 0 0,.int es.size 0,.int ep 0] } }):wpAny (model prog w) A (pyIter (.ref d)) Q E s:=by
 obtain ⟨o,g1,g2,g3⟩:=id x
 have ty:=x.typeIs
 refine wpAny_pyIter_slot ty F.slot_dict_iter (wpAny_call_entry F.slot_dict_iter ty F.entry_dict_iter ?_ (F.args_dict_iter_1 _))
 unfold Builtin.«dict.__iter__» Builtin.Dict.dictSlotNone Builtin.Dict.showsAll
 wp_walk using wpAny_notOrdered_dict ty,wpAny_ite_false hd,wpAny_dictEntries g1 g3,wpAny_dictEpoch g1 g3,wpAny_newObj_type
 ·exact ⟨_,rfl,_,_,⟨_,Heap.get?_push_size _ rfl,rfl⟩,F.slot_dict_keyiterator_next.lookup,hQ⟩
 ·size_fits
theorem Zgg {α:Type}{Q:α -> Shared->Prop} (hh:A.handled=none) (h:∀h' a,(∀b o,s.heap.get? b=some o->h'.get? b=some o)->Shared.TypeIs { s with heap:=h' } (.ref a) "StopIteration" -> E (.ref a) { s with heap:=h' }):
  wpAny (model prog w) A ((newExc (.type "StopIteration") [] >>= raiseNew:Sem α)) Q E s:=by
 wp_walk using wpAny_newObj_type,wpAny_raiseNew_none hh
 ·exact h _ _ (fun b o e=>Heap.get?_push_of_some _ (Heap.get?_push_of_some _ e)) ⟨_,Heap.get?_push_size _ rfl,rfl⟩
 all_goals size_fits
theorem Zpg {M:Model}{a:Addr}{o:Obj}{vs:Array Value}{k:Nat}{x:Value}{Q:Unit->Shared->Prop} (ho:s.heap.get? a=some o) (hd:o.data = .fields vs) (hk:k<vs.size)
  (h:∀h',(∃o',h'.get? a=some o'/\o'.cls=o.cls/\o'.data = .fields (vs.setIfInBounds k x))->Heap.SameBut a s.heap h'->Q () { s with heap:=h' }):wpAny M A (setField (.ref a) k x) Q E s:=
 wpAny_setField ho hd hk (h _ ⟨_,Heap.get?_update_self _ ho (Obj.isFreed_of_fields (Obj.data_mapFields hd _)),Obj.cls_mapFields ..,Obj.data_mapFields hd _⟩ (Heap.SameBut.update ..))
theorem Zky {Q:Option Value->Shared->Prop} (hit:s.heap.IsKeyIter it d i es.size ep) (hm:DAt s.heap d es ep)
  (hQ:∀e,es[i]? = some e -> ∀h',h'.IsKeyIter it d (i+1) es.size ep->Heap.SameBut it s.heap h'->Q (some e.key) { s with heap:=h' })
  (hE:es.size<=i->A.handled=none /\ ∀h',Heap.ExtBut it s.heap h'->Q none { s with heap:=h' }):wpAny (model prog w) A (pyNext (.ref it)) Q E s:=by
 obtain ⟨hp,g,dr,tk,os⟩:=s
 obtain ⟨o1,f1,f2,f3⟩:=id hit
 obtain ⟨o2,k1,k2,k3⟩:=hm
 have ty:=hit.typeIs
 unfold pyNext
 refine wpAny_bind (wpAny_attempt (wpAny_callSpecial?_slot (name:=Str.ofString "__next__") ty F.slot_dict_keyiterator_next (wpAny_call_entry F.slot_dict_keyiterator_next ty F.entry_dict_keyiterator_next ?_ (F.args_dict_keyiterator_next_1 _))))
 wp_walk using wpAny_dictEntries k1 k3,wpAny_dictEpoch k1 k3,wpAny_typeNameOfWhole_keyiter ty,wpAny_fieldsOf f1 f3
 rw [if_neg (by lia),Int.toNat_natCast]
 cases hx:es[i]? with
 | some e=>
  wp_walk using wpAny_typeNameOfWhole_keyiter ty,wpAny_isOneOf_keyiter ty,Zpg f1 f3
  ·show 1<4
   decide
  rintro h1 ⟨o3,n1,n2,n3⟩ sb
  have n:h1.IsKeyIter it d (i+1) es.size ep:=⟨o3,n1,n2.trans f2,n3⟩
  have ty1:Shared.TypeIs ⟨h1,g,dr,tk,os⟩ (.ref it) "dict_keyiterator" := n.typeIs
  wp_walk using wpAny_isOneOf_keyiter ty1
  exact ⟨_,rfl,wpAny_pure (hQ e hx _ n sb)⟩
 | none=>
  obtain ⟨hh,hE⟩:=hE (by simpa using hx)
  wp_walk using wpAny_typeNameOfWhole_keyiter ty,wpAny_setField f1 f3
  ·show 0<4
   decide
  refine Zgg hh fun h' a k ty=>?_
  wp_walk using wpAny_isInstance (T := "StopIteration") (b:=true) ty isSubtype_stop
  exact hE h' fun b o hb e=>k b o ((Heap.get?_update_other _ _ (Ne.symm hb)).trans e)
theorem Zk8 (hh:A.handled=none) (I:Addr) (hne:d≠I):Walks prog w A I [I,d] [I] es.size (fun i v=>∃e,es[i]? = some e/\v=e.key) (fun i h=>h.IsKeyIter I d i es.size ep/\DAt h d es ep) where
 sub:=fun b hb=>by simp at hb;simp [hb]
 frame:=fun _ _ _ st hk=>⟨st.1.at fun o e=>hk I (by simp) o e,st.2.kept fun o e=>hk d (by simp) o e⟩
 item:=fun i s Q E hi st hQ=>by
  refine Zky st.1 st.2 (fun e he h' hit' hs'=>?_) (fun z=>absurd hi (Nat.not_lt.mpr z))
  exact hQ _ h' s.toks ⟨e,he,rfl⟩ ⟨hit',st.2.kept fun o e=>hs'.extBut d o hne e⟩ fun b o hb e=>hs'.extBut b o (fun h=>hb (by simp [h])) e
 done:=fun s Q E st hQ=>Zky st.1 st.2 (fun e he=>by rw [Array.getElem?_eq_none (Nat.le_refl _)] at he;cases he) fun _=>⟨hh,fun h' he'=>hQ h' s.toks fun b o hb e=>he' b o (fun h=>hb (by simp [h])) e⟩
 self:=fun _ _ _ _ st hQ=>wpAny_pyIter_keyiter st.1 hQ
theorem Zob (lo:(d==sysModules)=false):PySem.W.KdlSrc prog w "dict" d d es.size (fun i v=>∃e,es[i]? = some e/\v=e.key) (fun h=>DAt h d es ep) where
 type:=fun _ hm=>hm.typeIs
 there:=fun _ hm=>⟨hm.lt,hm.lt⟩
 keep:=fun _ _ hm hk=>hm.kept fun o e=>hk d (.inl rfl) o e
 notList:=by decide
 notTuple:=by decide
 hint:=fun _ _ _ _ hm hq=>PySem.W.kdl_hint_dict hm.typeIs hq
 iter:=fun _ _ hh hm=>⟨_,_,(fun _ _ hq=>Zns lo hm hq),Zk8 hh _ (Nat.ne_of_lt hm.lt),⟨⟨_,Heap.get?_push_size _ rfl,rfl,rfl⟩,hm.kept fun o e=>Heap.get?_push_of_some _ e⟩⟩
end
def Zan (H:Hp) (v:V) (ks:List Int):Prop:=∃a,v = .ref a/\H a=some (.tup (ks.map V.int))
abbrev Words (H:Hp) (xs:List V) (ws:List (List Int)):Prop:=Paired (Zan H) xs ws
theorem Paired.perm2 {α β:Type}{F:α -> β -> Prop}{l:List α}{m m':List β} (p:m.Perm m'):Paired F l m -> ∃l',l.Perm l'/\Paired F l' m':=by
 induction p generalizing l with
 | nil=>intro r;cases r;exact ⟨[],.nil,.nil⟩
 | cons x _ ih=>intro r;cases r with | cons h t=>obtain ⟨l',a,b⟩:=ih t;exact ⟨_::l',a.cons _,.cons h b⟩
 | swap x y t=>intro r;cases r with | cons h t=>cases t with | cons h2 t=>exact ⟨_,.swap _ _ _,.cons h2 (.cons h t)⟩
 | trans _ _ i1 i2=>intro r;obtain ⟨l1,a,b⟩:=i1 r;obtain ⟨l2,c,d⟩:=i2 b;exact ⟨l2,a.trans c,d⟩
theorem Paired.flip {α β:Type}{F:α -> β -> Prop}:∀{l:List α}{m:List β},Paired F l m->Paired (fun b a=>F a b) m l
 | _,_,.nil=>.nil
 | _,_,.cons h t=>.cons h (Paired.flip t)
theorem Paired.mem1 {α β:Type}{F:α -> β -> Prop}:∀{l:List α}{m:List β},Paired F l m -> ∀a∈l,∃b∈m,F a b
 | _,_,.nil,a,h=>by cases h
 | _,_,.cons r t,a,h=>by
  rcases List.mem_cons.mp h with rfl | h
  ·exact ⟨_,List.mem_cons_self,r⟩
  ·obtain ⟨b,hb,f⟩:=Paired.mem1 t a h
   exact ⟨b,List.mem_cons_of_mem _ hb,f⟩
def Zjx (ws:List (List Int)):Prop:=ws.Pairwise fun u v=>lexLt v u=false
section
variable {X:Cx}{pins:List (Addr×Obj)} {σ:St}{H:Hp}{s:Shared}
theorem Zla {P:Program}{w:World}{h:Heap}{a:Addr}{ks:List Int} (ok:GN P w H h) (e:H a=some (.tup (ks.map V.int))):Za2 h a ks:=by
 obtain ⟨_,its,r,o,h1,h2,n,h3⟩:=(show Yw P w H h a (.tup (ks.map V.int)) from ok a _ e)
 obtain ⟨cls,dd,data,sl⟩:=o
 dsimp only at h2 h3
 subst h2 h3
 exact ⟨its.toArray,dd,n,sl,h1,by simpa using JD r⟩
end
section
variable {prog:Program}{w:World}{A:Around}{E:Value->Shared->Prop}{s:Shared}
end
section
variable {X:Cx}
end
def kW (ks:List Int):List Key:=ks.map Sum.inl
theorem ZoJ (ks:List Int):(kW ks).map kV=ks.map V.int:=by unfold kW;rw [List.map_map];rfl
theorem Zki {a b:List Int} (h:kW a=kW b):a=b:=(List.map_inj_right (fun x y h=>by injection h)).mp h
section
variable {prog:Program}{w:World}{A:Around}{E:Value->Shared->Prop}{s:Shared}{h₀:Heap}{L D:Addr}{m:Str->Option Value}{news:List (Addr×Obj)}{n:Nat}{vs:List Value}{Q:Value->Shared->Prop}
theorem Zm3 (hu:A.units+1<cLine) (F:Fr h₀ L s.heap m) (N:News h₀ L s.heap ((D,W.listOf vs.toArray n)::news)) (lt:∀q∈news,q.1<D) (hv:∀v∈vs,∃a ks,v = .ref a/\a≠D/\Za2 s.heap a ks) (hz:vs.length<=sizeLine)
  (h:∀vs' c h',Fr h₀ L h' m->News h₀ L h' ((D,W.listOf (List.toArray vs') c)::news)->vs'.Perm vs->ZkB s.heap vs'->Q .none { s with heap:=h' }):
  wpAny (model prog w) A (call (.builtin "list.sort") [.ref D]) Q E s:=by
 have z:=N (D,W.listOf vs.toArray n) List.mem_cons_self
 have ho:s.heap.get? D=some (seqObj "list" vs.toArray n):=z.1
 refine wpAny_call_entry PyProof.Rows.slot_list_sort ⟨_,z.1,rfl⟩ PyProof.Rows.entry_list_sort (ZgE (n:=n) (vs:=vs) (by exact hu) ho hv hz fun out hp hP=>⟨.none,rfl,?_⟩) (PyProof.Rows.args_list_sort _)
 obtain ⟨c,hc⟩:=sortedHeap_at (vs:=vs) (out:=out) ho
 have F4:Fr h₀ L (sortedHeap s.heap D vs out) m:=
  ksk_fr (((ksk_fr F (Heap.SameBut.update s.heap D (Obj.mapSeq fun _=>#[])) z.2.1 z.2.2).push (seqObj "tuple" vs.toArray 0)).push (seqObj "list" #[] 0)) (Heap.SameBut.update _ D (Obj.mapSeq fun _=>out)) z.2.1 z.2.2
 refine h out.toList c _ F4 ?_ hp hP
 intro p hq
 rcases List.mem_cons.mp hq with rfl | hq
 ·exact ⟨hc,z.2⟩
 ·have y:=N p (.tail _ hq)
  exact ⟨(sortedHeap_old (Nat.ne_of_lt (lt p hq)) (Heap.lt_size y.1)).trans y.1,y.2⟩
end
section
variable {X:Cx}
def ZnP:List V->Hp->VK->Prop:=fun xs H Q=>∃(p:Addr) (kvs:List (List Key×V)) (ws:List (List Int)),xs = [.ref p]/\H p=some (.dT kvs)/\kvs.map (·.1)=ws.map kW /\
  ∀(l:Addr) (zs:List V) (vs:List (List Int)),H l=none->vs.Perm ws->Words H zs vs->Zjx vs->Q (.ref l) (upd H l (.lst zs))
theorem Zf4 {H:Hp}:∀{kvs:List (List Key×V)}{xs:List (List Key×Addr×Value)}{ws:List (List Int)},KT H kvs xs->kvs.map (·.1)=ws.map kW->Words H (xs.map fun q=>V.ref q.2.1) ws
 | _,_,[],.nil,_=>.nil
 | _,_,_::_,.nil,e=>by simp at e
 | _,_,[],.cons _ _,e=>by simp at e
 | _,_,w::ws,.cons (a:=p) (b:=q) h t,e=>by
  rw [List.map_cons,List.map_cons] at e
  injection e with e1 e2
  refine .cons ⟨q.2.1,rfl,?_⟩ (Zf4 t e2)
  have:=h.2.1
  rw [e1,ZoJ] at this
  exact this
theorem Zaa (hc:X.calm=true) (hu:X.A.units+64<cLine):JM X (.builtin "sorted") ZnP:=by
 intro pins s σ H xs us Q I r h
 obtain ⟨p,kvs,ws,rfl,hp,hk,q⟩:=h
 obtain ⟨u,rfl,ru⟩:=r.one
 cases ru
 obtain ⟨z,hsm,xs,rel,ob,es,ep,o1,o2,o3,o4,o5,o6⟩:=Zj9 I.hok hp
 obtain ⟨m,fr⟩:=I.fr
 have lv:kvs.length=xs.length:=Paired.length rel
 have ln:kvs.length=ws.length:=by simpa using congrArg List.length hk
 have le:es.size=xs.length:=size_of_entries o4
 refine W.kdu_sorted (Zob (es:=es) (ep:=ep) hsm) (I.ok.hd hc) fr (news:=Wc X.base s.heap X.env.locals) Zcn ⟨ob,o1,o2,o3⟩ (by lia) fun D h' tk us fr' nw' lt' hlen hP=>?_
 have hus:us=xs.map fun q=>Value.ref q.2.1:=by
  refine List.ext_getElem? fun j=>?_
  cases e:us[j]? with
  | none=>
   have:=List.getElem?_eq_none_iff.mp e
   rw [List.getElem?_eq_none (by rw [List.length_map];lia)]
  | some v=>
   obtain ⟨en,e1,rfl⟩:=hP j v e
   rw [entry_at o4 j] at e1
   cases e2:xs[j]? with
   | none=>rw [e2] at e1;cases e1
   | some x=>
    rw [e2] at e1
    cases e1
    rw [List.getElem?_map,e2]
    rfl
 have rv:Vals (xs.map fun q=>V.ref q.2.1) us:=by
  rw [hus]
  have:∀l:List (List Key×Addr×Value),Vals (l.map fun q=>V.ref q.2.1) (l.map fun q=>Value.ref q.2.1):=by
   intro l
   induction l with
   | nil=>exact .nil
   | cons a l ih=>exact .cons rfl ih
  exact this xs
 have hw:=Zf4 rel hk
 have hD:s.heap.get? D=none:=by
  have nb:X.base.get? D=none:=(nw' (D,W.listOf us.toArray 0) List.mem_cons_self).2.2
  have nL:D≠X.env.locals:=(nw' (D,W.listOf us.toArray 0) List.mem_cons_self).2.1
  cases e:s.heap.get? D with
  | none=>rfl
  | some o=>exact absurd (lt' (D,o) (W9 nL nb e)) (Nat.lt_irrefl _)
 have fresh:H D=none:=by
  cases e:H D with
  | none=>rfl
  | some o=>
   obtain ⟨ob,e2⟩:=(I.hok D o e).there
   rw [hD] at e2
   cases e2
 have kp:∀b u,b≠X.env.locals->s.heap.get? b=some u->h'.get? b=some u:=fun b u hb e=>by
  cases q:X.base.get? b with
  | some v=>
   have e1:=fr'.keep b v q
   have e2:=fr.keep b v q
   rw [e] at e2
   cases e2
   exact e1
  | none=>exact (nw' (b,u) (List.mem_cons_of_mem _ (W9 hb q e))).1
 have kt:∀a ks,H a=some (.tup (ks.map V.int))->Za2 h' a ks:=fun a ks e=>by
  have t:=Zla I.hok e
  refine t.kept fun o eo=>kp a o (fun zz=>?_) eo
  rw [zz,I.free] at e
  cases e
 refine Zm3 (by show X.A.units+1+1<_;lia) fr' nw' lt' (fun v hv=>?_) (by lia) fun vs' c h'' fr'' nw'' pm rs=>?_
 ·obtain ⟨y,hy,ry⟩:=Paired.mem1 (Paired.flip rv) v hv
  obtain ⟨ks,_,a,e1,e2⟩:=Paired.mem1 hw y hy
  subst e1
  exact ⟨a,ks,ry,Zf e2 fresh,kt a ks e2⟩
 ·obtain ⟨ys,p1,r1⟩:=Paired.perm2 pm.symm rv
  obtain ⟨vss,p2,r2⟩:=Paired.perm2 p1 (Paired.flip hw)
  have x2:Words H ys vss:=Paired.flip r2
  have rise:Zjx vss:=by
   have key:∀{ys:List V}{out:List Value}{vs:List (List Int)},Vals ys out->Words H ys vs->out.map (Zfy h')=vs:=by
    intro ys out vs a b
    induction a generalizing vs with
    | nil=>cases b;rfl
    | cons r _ ih=>
     cases b with
     | cons f t=>
      obtain ⟨q,e1,e2⟩:=f
      subst e1
      rw [List.map_cons,ih t,show _=Value.ref q from r,(kt _ _ e2).key]
   rw [<- key r1 x2]
   unfold Zjx
   rw [List.pairwise_map]
   exact rs
  have I2:=I.laidN (o:=.lst ys) (D:=D) (h':=h'') (t':=tk) fr fr'' (fun q hq=>nw'' q (List.mem_cons_of_mem _ hq)) hD fresh ⟨by
   rw [<- p1.length_eq,List.length_map]
   lia,vs',c,r1,(nw'' _ List.mem_cons_self).1⟩
  exact ⟨.ref D,_,I2,rfl,q D ys vss fresh p2.symm x2 rise⟩
def Zoz:R2:=fun x y H Q=>∃a b:List Int,Zan H x a/\Zan H y b/\a.length+b.length<=sizeLine /\
 (a = []->Q y H)/\(b = []->Q x H)/\(∀p,H p=none->Q (.ref p) (upd H p (.tup ((a++b).map V.int))))
theorem Zlz:OpR X (binaryOp .Add) Zoz:=by
 intro pins s σ H x y v u Q I rx ry h
 obtain ⟨a,b,⟨p,rfl,hp⟩,⟨r,rfl,hr⟩,hz,q1,q2,q3⟩:=h
 cases rx
 cases ry
 obtain ⟨_,its,r1,p1⟩:=(show Yw X.prog X.w H s.heap p (.tup (a.map V.int)) from I.hok p _ hp)
 obtain ⟨_,its2,r2,p2⟩:=(show Yw X.prog X.w H s.heap r (.tup (b.map V.int)) from I.hok r _ hr)
 have l1:a.length=its.length:=by simpa using r1.length
 have l2:b.length=its2.length:=by simpa using r2.length
 by_cases e:its = []
 ·obtain ⟨⟨cls,dd,data,sl⟩,ho,hc,n,hd⟩:=id p1
  obtain ⟨⟨cls2,dd2,data2,sl2⟩,ho2,hc2,n2,hd2⟩:=id p2
  simp only at hc hd hc2 hd2
  subst hc hd hc2 hd2
  have ea:a = []:=by rw [e] at l1;exact List.length_eq_zero_iff.mp l1
  exact concat_meets ⟨_,ho,rfl⟩ ⟨_,ho2,rfl⟩ noFill_tuple_add seq_tuple_add PySem.F.slot_tuple_add PySem.F.entry_tuple_add (PySem.F.args_tuple_add_2 _ _)
   (tuple_addW0 p r its.toArray its2.toArray n n2 dd dd2 sl sl2 (by simp [e])) ⟨ho,ho2,⟨.ref r,H,I,rfl,q1 ea⟩⟩
 ·refine HT.ZlB p1 p2 e (fun z=>⟨.ref p,H,I,rfl,q2 (by rw [z] at l2;exact List.length_eq_zero_iff.mp l2)⟩) (fun z=>?_) (by rw [<- l1,<- l2];exact hz)
  refine ⟨.ref s.heap.objs.size,_,I.laid (t':=s.toks) (o:=.tup ((a++b).map V.int)) (fun b ob q=>Heap.get?_push_of_some _ q) (Nat.le_refl _) ?_,rfl,q3 _ (I.hok.fresh (Nat.le_refl _))⟩
  exact ⟨by rw [List.length_map,List.length_append];exact hz,_,by rw [List.map_append];exact r1.append r2,IsTup.new _ _⟩
end
end L2
namespace L2
open PySem PySem.Spec PyProof.Rows PyProof.V
section
variable {X:Cx}
theorem Zlt {K:PySem.W.Frag}{l tg:Expr}{tl:TE} (hk:X.K=K) (hl:PE X l tl):PI X tg l (Zox K tl):=hk ▸ ZmP hl
end
section
variable {g:TG}{tc:TT}{te:TE} {σ:St}{H:Hp}{Q:VK}{K:PySem.W.Frag}{a b:Addr}{xs ys:List V}
theorem Zm4 (hn:xs.length<=sizeLine) (Pv:Nat->List V->Hp->Prop) (h0:Pv 0 [] H) (hlen:∀i ys H,Pv i ys H->ys.length<=i) (hS:∀i ys H,Pv i ys H->WT K H a xs)
  (hs:∀i x ys H,xs[i]? = some x->Pv i ys H->g x σ H fun σ2 H2=>tc σ2 H2 fun b H3=>if b=true then te σ2 H3 fun y H4=>Pv (i+1) (ys ++ [y]) H4 else Pv (i+1) ys H3)
  (hd:∀ys H,Pv xs.length ys H -> ∀D,H D=none->Q (.ref D) (upd H D (.lst ys))):LcW (Itt K a) σ g tc te H Q:=
 Zda hn Pv h0 hlen (fun i ys H hi p=>⟨xs,xs[i],hS i ys H p,by simp [hi]⟩) (fun ys H p=>⟨xs,hS _ ys H p,Nat.le_refl _⟩) (fun i ys H hi p x H' y=>by
  obtain ⟨e,y⟩:=y
  subst e
  exact hs i x ys _ (y xs (hS i ys _ p)) p) hd
end
abbrev WS:=List (List Int)
theorem ZeX:∀(a b:List Int),lexLt a b=false->lexLt b a=false->a=b
 | [],[],_,_=>rfl
 | [],_::_,h,_=>by simp [lexLt] at h
 | _::_,[],_,h=>by simp [lexLt] at h
 | x::a,y::b,h,h'=>by
  rw [lexLt] at h h'
  by_cases e:x=y
  ·subst e
   rw [if_pos rfl] at h h'
   rw [ZeX a b h h']
  ·rw [if_neg e] at h
   rw [if_neg (Ne.symm e)] at h'
   have h1:=of_decide_eq_false h
   have h2:=of_decide_eq_false h'
   lia
def SR (r:WS):Prop:=r.Pairwise fun u v=>lexLt u v=true
theorem Zka:∀(r r':WS),SR r->SR r'->(∀w,w∈r ↔ w∈r')->r=r'
 | [],[],_,_,_=>rfl
 | [],b::_,_,_,h=>by have:=(h b).mpr List.mem_cons_self;cases this
 | a::_,[],_,_,h=>by have:=(h a).mp List.mem_cons_self;cases this
 | a::r,b::r',h1,h2,h=>by
  obtain ⟨p1,q1⟩:=List.pairwise_cons.mp h1
  obtain ⟨p2,q2⟩:=List.pairwise_cons.mp h2
  have e:a=b:=by
   rcases List.mem_cons.mp ((h a).mp List.mem_cons_self) with e | e
   ·exact e
   ·rcases List.mem_cons.mp ((h b).mpr List.mem_cons_self) with e' | e'
    ·exact e'.symm
    ·have z1:=p2 a e
     have z2:=p1 b e'
     rw [Uw _ _ z1] at z2
     cases z2
  subst e
  have no:∀{l:WS},(∀x∈l,lexLt a x=true)->a∉l:=fun {l} p m=>by
   have:=p a m
   rw [U0] at this
   cases this
  rw [Zka r r' q1 q2 fun w=>⟨fun m=>?_,fun m=>?_⟩]
  ·rcases List.mem_cons.mp ((h w).mp (List.mem_cons_of_mem _ m)) with e | e
   ·subst e;exact absurd m (no p1)
   ·exact e
  ·rcases List.mem_cons.mp ((h w).mpr (List.mem_cons_of_mem _ m)) with e | e
   ·subst e;exact absurd m (no p2)
   ·exact e
theorem SR.nodup {r:WS} (h:SR r):r.Nodup:=h.imp fun {u v} z e=>by subst e;rw [U0] at z;cases z
theorem ZoF {r:WS} (h:Zjx r) (n:r.Nodup):SR r:=(List.Pairwise.and h n).imp fun {u v} ⟨a,b⟩=>by
 cases e:lexLt u v with
 | true=>rfl
 | false=>exact absurd (ZeX _ _ e a) b
structure YY (L r:WS):Prop where
 rise:SR r
 mem:∀w,w∈r ↔ L.count w % 2=1
theorem YY.one {L r r':WS} (x:YY L r) (y:YY L r'):r=r':=Zka r r' x.rise y.rise fun w=>(x.mem w).trans (y.mem w).symm
def Um (L L':WS):Prop:=∀w,L.count w % 2=L'.count w % 2
theorem Um.refl (L:WS):Um L L:=fun _=>rfl
theorem Um.symm {L M:WS} (a:Um L M):Um M L:=fun w=>(a w).symm
theorem Um.trans {L M N:WS} (a:Um L M) (b:Um M N):Um L N:=fun w=>(a w).trans (b w)
theorem Um.app {A A' B B':WS} (a:Um A A') (b:Um B B'):Um (A++B) (A'++B'):=fun w=>by
 have:=a w;have:=b w
 rw [List.count_append,List.count_append];lia
theorem YY.par {L L' r:WS} (x:YY L r) (p:Um L L'):YY L' r:=⟨x.rise,fun w=>by rw [x.mem w,p w]⟩
theorem YY.self {L r:WS} (x:YY L r):Um r L:=fun w=>by
 by_cases h:w∈r
 ·rw [List.Nodup.count x.rise.nodup,if_pos h,(x.mem w).mp h]
 ·rw [List.count_eq_zero.mpr h]
  have:=mt (x.mem w).mpr h
  lia
theorem YY.sub {L r:WS} (x:YY L r) {w:List Int} (h:w∈r):w∈L:=by
 have:=(x.mem w).mp h
 exact List.count_pos_iff.mp (by lia)
theorem sub_len:∀{r L:WS},r.Nodup->(∀w∈r,w∈L)->r.length<=L.length
 | [],_,_,_=>Nat.zero_le _
 | a::r,L,n,h=>by
  obtain ⟨n1,n2⟩:=List.nodup_cons.mp n
  have ha:=h a List.mem_cons_self
  have:=sub_len (r:=r) (L:=L.erase a) n2 fun w hw=>(List.mem_erase_of_ne (fun (e:w=a)=>n1 (e ▸ hw))).mpr (h w (List.mem_cons_of_mem _ hw))
  rw [List.length_erase_of_mem ha] at this
  have:=List.length_pos_of_mem ha
  rw [List.length_cons];lia
theorem YY.len {L r:WS} (x:YY L r):r.length<=L.length:=sub_len x.rise.nodup fun _ h=>x.sub h
theorem Zl6:YY [] []:=⟨.nil,fun w=>by simp⟩
structure ZbZ (L ks:WS):Prop where
 nd:ks.Nodup
 mem:∀w,w∈ks ↔ L.count w % 2=1
theorem ZfC:ZbZ [] []:=⟨.nil,fun w=>by simp⟩
theorem Zkk {L ks:WS}{w:List Int} (x:ZbZ L ks) (h:w∈ks):ZbZ (L ++ [w]) (ks.filter fun k=>decide (k≠w)):=by
 refine ⟨x.nd.filter _,fun y=>?_⟩
 have m:=x.mem y
 rw [List.mem_filter,List.count_append,List.count_singleton]
 by_cases e:w=y
 ·subst e
  have:=m.mp h
  simp
  lia
 ·have e':¬y=w:=fun z=>e z.symm
  simp [e,e',m]
theorem Zli {L ks:WS}{w:List Int} (x:ZbZ L ks) (h:w∉ks):ZbZ (L ++ [w]) (ks ++ [w]):=by
 refine ⟨?_,fun y=>?_⟩
 ·rw [List.nodup_append]
  exact ⟨x.nd,by simp,fun a ha b hb e=>h (by rw [List.mem_singleton.mp hb] at e;exact e ▸ ha)⟩
 have m:=x.mem y
 rw [List.mem_append,List.mem_singleton,List.count_append,List.count_singleton]
 by_cases e:w=y
 ·subst e
  have:=mt m.mpr h
  simp
  lia
 ·have e':¬y=w:=fun z=>e z.symm
  simp [e,e',m]
theorem ZbZ.sub {L ks:WS} (x:ZbZ L ks) {w:List Int} (h:w∈ks):w∈L:=by
 have:=(x.mem w).mp h
 exact List.count_pos_iff.mp (by lia)
theorem ZbZ.len {L ks:WS} (x:ZbZ L ks):ks.length<=L.length:=sub_len x.nd fun _ h=>x.sub h
theorem ZbZ.odd {L ks r:WS} (x:ZbZ L ks) (p:r.Perm ks) (h:Zjx r):YY L r:=⟨ZoF h (p.nodup_iff.mpr x.nd),fun w=>by rw [p.mem_iff,x.mem]⟩
def prd (A B:WS):WS:=A.flatMap fun u=>B.map fun v=>u++v
theorem JC (u:List Int) (A B:WS):prd (u::A) B=B.map (fun v=>u++v)++prd A B:=by simp [prd]
theorem Zls (A B C:WS):prd (A++B) C=prd A C++prd B C:=by simp [prd]
theorem Zey {f:List Int->List Int} (hf:∀a b,f a=f b->a=b) (v:List Int):∀B:WS,(B.map f).count (f v)=B.count v
 | []=>rfl
 | b::B=>by
  rw [List.map_cons,List.count_cons,List.count_cons,Zey hf v B]
  congr 1
  by_cases e:b=v
  ·subst e;simp
  ·have:¬f b=f v:=fun z=>e (hf _ _ z)
   simp [e,this]
theorem ZeJ {f:List Int->List Int} (hf:∀a b,f a=f b->a=b) {B B':WS} (h:Um B B'):Um (B.map f) (B'.map f):=fun w=>by
 by_cases e:∃v,f v=w
 ·obtain ⟨v,rfl⟩:=e
  rw [Zey hf,Zey hf,h v]
 ·have z:∀B:WS,(B.map f).count w=0:=fun B=>List.count_eq_zero.mpr fun m=>by
   obtain ⟨v,_,q⟩:=List.mem_map.mp m
   exact e ⟨v,q⟩
  rw [z,z]
theorem ZdJ {B B':WS} (h:Um B B'):∀A:WS,Um (prd A B) (prd A B')
 | []=>.refl _
 | u::A=>by
  rw [JC,JC]
  exact (ZeJ (fun a b z=>List.append_cancel_left z) h).app (ZdJ h A)
theorem Ze2 (w v:List Int) (B:WS):∀A:WS,(prd A (v::B)).count w=(A.map fun u=>u++v).count w+(prd A B).count w
 | []=>rfl
 | u::A=>by
  rw [JC,JC,List.count_append,List.count_append,Ze2 w v B A,List.map_cons,List.map_cons,List.count_cons,List.count_cons]
  lia
theorem ZeR:∀A:WS,prd A [] = []
 | []=>rfl
 | u::A=>by rw [JC,ZeR A];rfl
theorem Ze7 {A A':WS} (h:Um A A'):∀B:WS,Um (prd A B) (prd A' B)
 | []=>by rw [ZeR,ZeR];exact .refl _
 | v::B=>fun w=>by
  have h1:=ZeJ (f:=fun u=>u++v) (fun a b z=>List.append_cancel_right z) h w
  have h2:=Ze7 h B w
  rw [Ze2,Ze2]
  lia
def Gd (n m:Nat) (L:WS):Prop:=L.length<=n /\ ∀w∈L,w.length<=m /\ ∀k∈w,0<=k
theorem YY.gd {L r:WS}{n m:Nat} (x:YY L r) (g:Gd n m L):Gd n m r:=⟨Nat.le_trans x.len g.1,fun w h=>g.2 w (x.sub h)⟩
theorem Gd.mono {n m n' m':Nat}{L:WS} (g:Gd n m L) (h1:n<=n') (h2:m<=m'):Gd n' m' L:=⟨Nat.le_trans g.1 h1,fun w h=>⟨Nat.le_trans (g.2 w h).1 h2,(g.2 w h).2⟩⟩
theorem Gd.app {n m n' m':Nat}{A B:WS} (a:Gd n m A) (b:Gd n' m' B):Gd (n+n') (max m m') (A++B):=by
 refine ⟨by rw [List.length_append];have:=a.1;have:=b.1;lia,fun w h=>?_⟩
 rcases List.mem_append.mp h with h | h
 ·exact ⟨Nat.le_trans (a.2 w h).1 (Nat.le_max_left _ _),(a.2 w h).2⟩
 ·exact ⟨Nat.le_trans (b.2 w h).1 (Nat.le_max_right _ _),(b.2 w h).2⟩
theorem Zb5 (B:WS):∀A:WS,(prd A B).length=A.length*B.length
 | []=>by simp [prd]
 | u::A=>by rw [JC,List.length_append,List.length_map,Zb5 B A,List.length_cons,Nat.succ_mul];lia
theorem Gd.prd {n m n' m':Nat}{A B:WS} (a:Gd n m A) (b:Gd n' m' B):Gd (n*n') (m+m') (L2.prd A B):=by
 refine ⟨by rw [Zb5];exact Nat.mul_le_mul a.1 b.1,fun w h=>?_⟩
 obtain ⟨u,hu,h⟩:=List.mem_flatMap.mp h
 obtain ⟨v,hv,rfl⟩:=List.mem_map.mp h
 refine ⟨by rw [List.length_append];have:=(a.2 u hu).1;have:=(b.2 v hv).1;lia,fun k hk=>?_⟩
 rcases List.mem_append.mp hk with hk | hk
 ·exact (a.2 u hu).2 k hk
 ·exact (b.2 v hv).2 k hk
theorem Zgx {n m:Nat}:Gd n m []:=⟨Nat.zero_le _,fun _ h=>nomatch h⟩
def WL (H:Hp) (a:Addr) (L:WS):Prop:=∃xs,H a=some (.lst xs)/\Words H xs L
theorem Zan.mono {H H':Hp}{v:V}{w:List Int} (k:∀t p,H t=some (.tup p)->H' t=some (.tup p)) (x:Zan H v w):Zan H' v w:=let ⟨a,e,q⟩:=x;⟨a,e,k _ _ q⟩
theorem Words.mono {H H':Hp}{xs:List V}{L:WS} (k:∀t p,H t=some (.tup p)->H' t=some (.tup p)) (x:Words H xs L):Words H' xs L:=Paired.mapP x fun _ _ q=>Zan.mono k q
theorem Words.same {H H':Hp}{xs:List V}{L:WS} (s:Ze H H') (x:Words H xs L):Words H' xs L:=Words.mono (fun t p e=>s t _ e) x
theorem Zan.same {H H':Hp}{v:V}{w:List Int} (s:Ze H H') (x:Zan H v w):Zan H' v w:=Zan.mono (fun t p e=>s t _ e) x
theorem WL.same {H H':Hp}{a:Addr}{L:WS} (s:Ze H H') (x:WL H a L):WL H' a L:=let ⟨xs,e,q⟩:=x;⟨xs,s _ _ e,Words.same s q⟩
theorem Words.len {H:Hp}{xs:List V}{L:WS} (x:Words H xs L):xs.length=L.length:=Paired.length x
theorem Words.get {H:Hp}:∀{xs:List V}{L:WS}{i:Nat}{x:V},Words H xs L->xs[i]? = some x -> ∃w,L[i]? = some w/\Zan H x w
 | _,_,_,_,.nil,e=>by simp at e
 | _,_,0,_,.cons r _,e=>by simp at e;subst e;exact ⟨_,rfl,r⟩
 | _,_,i+1,x,.cons _ t,e=>by
  obtain ⟨w,h1,h2⟩:=Words.get (i:=i) (x:=x) t (by simpa using e)
  exact ⟨w,by simpa using h1,h2⟩
theorem Words.snoc {H:Hp}{xs:List V}{L:WS}{x:V}{w:List Int} (h:Words H xs L) (e:Zan H x w):Words H (xs ++ [x]) (L ++ [w]):=Paired.snoc h e
theorem JJ.tups {b:Addr}{H H':Hp} (f:JJ b H H') (hb:∀p,H b≠some (.tup p)):∀t p,H t=some (.tup p)->H' t=some (.tup p):=fun t p e=>f t _ e fun z=>hb p (z ▸ e)
theorem Zim {K:PySem.W.Frag}{H:Hp}{xs ys:List V}{L:WS} (h1:Words H xs L) (h2:Words H ys L) {n:Nat} (hn:1<=n):∀(i:Nat) (x y:V),xs[i]? = some x->ys[i]? = some y->Eqv K H n x y:=fun i x y e1 e2=>by
 obtain ⟨w,q1,p,rfl,hp⟩:=Words.get h1 e1
 obtain ⟨w',q2,q,rfl,hq⟩:=Words.get h2 e2
 rw [q1] at q2
 cases q2
 obtain ⟨n',rfl⟩:∃n',n=n'+1:=⟨n-1,by lia⟩
 refine .tup (.inl (.inl hp)) (.inl (.inl hq)) rfl fun j u v e1 e2=>?_
 rw [e1] at e2
 cases e2
 obtain ⟨z,hz,rfl⟩:=Yc e1
 exact .flat rfl
theorem ZnK {K:PySem.W.Frag}{H:Hp}{a b:Addr}{L:WS} (h1:WL H a L) (h2:WL H b L) {n:Nat} (hn:2<=n):Eqv K H n (.ref a) (.ref b):=by
 obtain ⟨xs,e1,w1⟩:=h1
 obtain ⟨ys,e2,w2⟩:=h2
 obtain ⟨n',rfl⟩:∃n',n=n'+1:=⟨n-1,by lia⟩
 exact .lst (Zo.of e1) (Zo.of e2) (by rw [Words.len w1,Words.len w2]) (Zim w1 w2 (by lia))
section
variable {X:Cx}
theorem Zff:JM X (.type "tuple") (fun xs H Q=>∃p ys,xs = [.ref p]/\H p=some (.lst ys) /\ ∀l,H l=none->Q (.ref l) (upd H l (.tup ys))):=by
 intro pins s σ H xs us Q I r ⟨p,ys,e,hp,q⟩
 exact Zdp pins s σ H xs us Q I r ⟨p,ys,e,.inl ⟨Zo.of hp,q⟩⟩
end
def DOd (H:Hp) (d:Addr) (L:WS):Prop:=∃(kvs:List (List Key×V)) (ks:WS),H d=some (.dT kvs)/\kvs.map (·.1)=ks.map kW/\ZbZ L ks
theorem Zd3:∀{kvs:List (List Key×V)}{ks:WS}{w:List Int},kvs.map (·.1)=ks.map kW->((U7 kvs (kW w)).isSome=true ↔ w∈ks)
 | [],[],w,_=>by simp [U7]
 | [],_::_,_,e=>by simp at e
 | _::_,[],_,e=>by simp at e
 | p::kvs,k::ks,w,e=>by
  rw [List.map_cons,List.map_cons] at e
  injection e with e1 e2
  by_cases z:p.1=kW w
  ·rw [ZaM z]
   have:k=w:=Zki (e1.symm.trans z)
   simp [this]
  ·rw [ZaJ z,Zd3 e2]
   have:¬w=k:=fun q=>z (by rw [e1,q])
   simp [this]
theorem ZdV:∀{kvs:List (List Key×V)}{ks:WS}{w:List Int},kvs.map (·.1)=ks.map kW->(ZcA kvs (kW w)).map (·.1)=(ks.filter fun k=>decide (k≠w)).map kW
 | [],[],w,_=>rfl
 | [],_::_,_,e=>by simp at e
 | _::_,[],_,e=>by simp at e
 | p::kvs,k::ks,w,e=>by
  rw [List.map_cons,List.map_cons] at e
  injection e with e1 e2
  have ih:=ZdV (w:=w) e2
  unfold ZcA at ih ⊢
  by_cases z:k=w
  ·rw [List.filter_cons_of_neg (by rw [e1,z];simp),List.filter_cons_of_neg (by rw [z];simp),ih]
  ·have:¬p.1=kW w:=fun q=>z (Zki (e1.symm.trans q))
   rw [List.filter_cons_of_pos (by simp [this]),List.filter_cons_of_pos (by simp [z]),List.map_cons,List.map_cons,ih,e1]
theorem ZjQ {kvs:List (List Key×V)}{ks:WS}{w:List Int}{v:V} (e:kvs.map (·.1)=ks.map kW) (h:w∉ks):(putK kvs (kW w) v).map (·.1)=(ks ++ [w]).map kW:=by
 have a:(kvs.any fun kv=>decide (kv.1=kW w))=false:=by
  rw [Zcs]
  cases q:(U7 kvs (kW w)).isSome with
  | false=>rfl
  | true=>exact absurd ((Zd3 e).mp q) h
 unfold putK
 rw [a]
 simp [e]
theorem DOd.tups {H H':Hp}{d:Addr}{L:WS} (x:DOd H d L) (f:JJ d H H'):∀t p,H t=some (.tup p)->H' t=some (.tup p):=f.tups fun p z=>by
 obtain ⟨_,_,e,_⟩:=x
 rw [e] at z;cases z
theorem DOd.wl {H H':Hp}{d a:Addr}{L M:WS} (x:DOd H d L) (f:JJ d H H') (y:WL H a M):WL H' a M:=by
 obtain ⟨xs,e,q⟩:=y
 refine ⟨xs,f a _ e fun z=>?_,Words.mono (x.tups f) q⟩
 obtain ⟨_,_,e',_⟩:=x
 rw [z,e'] at e;cases e
end L2
namespace L2
open PySem PySem.Spec PyProof.Rows PyProof.V
section
variable {X:Cx}{C:Addr}{x m:Str}{p pos apos:Pos}{e o:Expr}{es:List Expr}{ta:TE}{t:TA}
structure MkO (K:PySem.W.Frag) (C:Addr):Prop where
 makes:PySem.W.makesIn K C=true
 init:PySem.W.findIn K (.ref C) "__init__" = some (some (.builtin "object.__init__"))
 kp:PySem.W.keepIn K (.ref C)=true
def ZmL (C:Addr):TE:=fun _ H Q=>∀x dx,H x=none->H dx=none->dx≠x->Q (.ref x) (upd (upd H dx (.own x)) x (.ins C dx []))
theorem ZiV (M:MkO X.K C) (hg:Gl X x) (hm:X.mg x=some (.ref C)) (hdb:(x==("__debug__" : Str))=false:=by decide):PE X (.Call (.Name x p) [] [] pos) (ZmL C):=by
 intro pins s σ H Q I h
 refine wpAny_Call_Name_kw (UX I hg hm ?_ hdb)
 refine PySem.W.callWith_K0 I.kIn M.kp (wpAny_call ?_)
 have Y:=PySem.W.makes_of (M:=model X.prog X.w) I.kIn M.makes
 have I2:=Inv.made (C:=C) I
 have hq:=h (s.heap.objs.size+1) s.heap.objs.size (I.hok.fresh (Nat.le_succ _)) (I.hok.fresh (Nat.le_refl _)) (Nat.ne_of_lt (Nat.lt_succ_self _))
 have hx:((s.heap.push PySem.W.emptyDict).push (PySem.W.instObj C s.heap.objs.size)).get? (s.heap.objs.size+1)=some (PySem.W.instObj C s.heap.objs.size):=by
  have:=Heap.get?_push_size (s.heap.push PySem.W.emptyDict) (o:=PySem.W.instObj C s.heap.objs.size) rfl
  rwa [Heap.size_push] at this
 refine ZiO I.kIn M.makes M.init (fun self=>PySem.W.Looks.of_pure (PySem.W.oi_bind self)) ?_
 have t1:PySem.W.Looks (model X.prog X.w) ((s.heap.push PySem.W.emptyDict).push (PySem.W.instObj C s.heap.objs.size)) (typeOf (.ref (s.heap.objs.size+1))) (.ref C):=(PySem.W.Looks.ld hx).andThen .now
 have t2:PySem.W.Looks (model X.prog X.w) ((s.heap.push PySem.W.emptyDict).push (PySem.W.instObj C s.heap.objs.size)) (isInstance (.ref (s.heap.objs.size+1)) (.type "object")) true:=t1.andThen (Y.top.keeps fun b o e=>Heap.get?_push_of_some _ (Heap.get?_push_of_some _ e))
 refine codeAny_call_builtin PySem.W.oi_plain PySem.W.entry_oi (@PySem.W.check_slot (model X.prog X.w) _ _ _ "object.__init__" "object" "__init__" (.ref (s.heap.objs.size+1)) [] [] _ PySem.W.oi_kind PySem.W.oi_split t2 (PySem.W.oi_args (.ref (s.heap.objs.size+1))) ?_)
 rw [PySem.W.oi_run]
 exact wpAny_pure (And.intro rfl ⟨V.ref (s.heap.objs.size+1),_,I2,rfl,hq⟩)
def ZaP (P:Program) (w:World) (K:PySem.W.Frag) (mg:Str->Option Value) (base:Heap) (k:Nat) (C:Addr) (m:Str) (ps:List Str) (sp:Sp):Prop:=
 ∃(f:Addr) (fd:FuncData),ZX P w K mg base J4 k f fd ps sp/\Meth K C m f/\Binds K fd ps []
theorem JV {k:Nat}{ps:List Str}{sp:Sp}{pl:Sem Bool} (h:ZaP X.prog X.w X.K X.mg X.base k C m ps sp) (c:Cls X.K C) (hr:JZ k X.A) (he:PE X o ta) (ha:PA X (e::es) t)
  (hst:starEach (e::es) X.env=(false,eval e X.env)::starEach es X.env:=by rfl) (hpl:(backTo pos (starEach es X.env)).any (·.1)=false:=by rfl)
  (ht:eval (.Call (.Attribute o m apos) (e::es) [] pos) X.env=(do
   let ov <- eval o X.env
   standAt apos.atName
   let (f,first) <- holding [ov] (getMethod ov m pl)
   callWith pos f first (backTo pos (starEach (e::es) X.env)) (backToKw pos (keywordEach [] X.env))):=by rfl):
  PE X (.Call (.Attribute o m apos) (e::es) [] pos) (Zhr C m sp [] E0 ta t):=by
 obtain ⟨f,fd,G,hm,hb⟩:=h
 exact Zln he c hm G hr hb .nil Zkr ha hst hpl ht
theorem UA {k:Nat}{ps:List Str}{sp:Sp}{pl:Sem Bool} (h:ZaP X.prog X.w X.K X.mg X.base k C m ps sp) (c:Cls X.K C) (hr:JZ k X.A) (he:PE X o ta)
  (ht:eval (.Call (.Attribute o m apos) [] [] pos) X.env=(do
   let ov <- eval o X.env
   standAt apos.atName
   let (f,first) <- holding [ov] (getMethod ov m pl)
   callWith pos f first (backTo pos (starEach [] X.env)) (backToKw pos (keywordEach [] X.env))):=by rfl):
  PE X (.Call (.Attribute o m apos) [] [] pos) (Zhr C m sp [] E0 ta Zm8):=by
 obtain ⟨f,fd,G,hm,hb⟩:=h
 exact ZjI he c hm G hr hb .nil Zkr ht
def tFs (tv:TE):TE:=fun σ H Q=>tv σ H fun v H1=>∃i:Int,v = .int i/\i.natAbs<10 ^ 12 /\ ∀z,Q (.str z) H1
theorem Zoj {a b:Str}{v:Expr}{tv:TE}{j1 j2:Nat}{p1 p2 p3 pos:Pos} (hv:PE X v tv) (ha:a.length<=1000) (hb:b.length<=1000):
  PE X (.JoinedStr [.Constant (.str a) j1 p1,.FormattedValue v (-1) none p2,.Constant (.str b) j2 p3] pos) (tFs tv):=by
 intro pins s σ H Q I h
 refine wpAny_JoinedStr ?_
 have z1:(Str.empty++a).length<=sizeLine:=by rw [strLen_append,sizeLine_eq];show 0+_<=_;lia
 refine Calls.Constant_str ⟨a,_,rfl,z1,?_⟩
 refine wpAny_FormattedValue_plain (YB (hv pins _ σ H _ (I.tok _) h) fun u s1 ⟨x,H1,I1,rx,i,e,hi,q⟩=>?_)
 subst e
 obtain ⟨t,rfl⟩:=rx
 have li:=int_text_length_le10 (k:=12) (by decide) hi
 have lg:i.natAbs.log2<1920:=by
  by_cases h0:i.natAbs=0
  ·rw [h0];decide
  ·exact Nat.lt_of_lt_of_le ((Nat.log2_lt (k:=40) h0).mpr (Nat.lt_of_lt_of_le hi (by decide))) (by decide)
 have z2:(Str.empty++a++Str.ofString (toString i)).length<=sizeLine:=by rw [strLen_append,strLen_append,PySem.ofString_length,sizeLine_eq];show 0+_+_<=_;lia
 refine wpAny_formatField_int lg ⟨_,_,rfl,z2,?_⟩
 have z3:(Str.empty++a++Str.ofString (toString i)++b).length<=sizeLine:=by rw [strLen_append,strLen_append,strLen_append,PySem.ofString_length,sizeLine_eq];show 0+_+_+_<=_;lia
 exact Calls.Constant_str ⟨b,_,rfl,z3,z3,⟨.str _,H1,((I1.tok _).tok _).tok _,⟨_,rfl⟩,q _⟩⟩
end
theorem lex_trans {x y z:List Int} (h1:lexLt x y=true) (h2:lexLt y z=true):lexLt x z=true:=by
 rcases ZeT x z y h1 with h | h
 ·exact h
 ·rw [Uw _ _ h2] at h;cases h
def tog (w:List Int):WS->WS
 | []=>[w]
 | x::r=>if w=x then r else if lexLt w x=true then w::x::r else x::tog w r
theorem ZkE (w:List Int):∀{r:WS},SR r->SR (tog w r) /\ ∀y,y∈tog w r ↔ if y=w then w∉r else y∈r
 | [],_=>⟨List.pairwise_singleton _ _,fun y=>by by_cases e:y=w<;>simp [tog,e]⟩
 | x::r,h=>by
  obtain ⟨p,q⟩:=List.pairwise_cons.mp h
  have nx:x∉r:=fun m=>by have:=p x m;rw [U0] at this;cases this
  unfold tog
  by_cases e:w=x
  ·subst e
   rw [if_pos rfl]
   refine ⟨q,fun y=>?_⟩
   by_cases e:y=w
   ·subst e;simp [nx]
   ·simp [e]
  ·rw [if_neg e]
   by_cases l:lexLt w x=true
   ·rw [if_pos l]
    have nw:w∉x::r:=fun m=>by
     rcases List.mem_cons.mp m with z | z
     ·exact e z
     ·rw [Uw _ _ (p w z)] at l;cases l
    refine ⟨List.pairwise_cons.mpr ⟨fun y hy=>?_,h⟩,fun y=>?_⟩
    ·rcases List.mem_cons.mp hy with rfl | hy
     ·exact l
     ·exact lex_trans l (p y hy)
    ·by_cases e:y=w
     ·subst e;rw [if_pos rfl];exact ⟨fun _=>nw,fun _=>List.mem_cons_self⟩
     ·rw [if_neg e,List.mem_cons];simp [e]
   ·rw [if_neg l]
    have l':lexLt x w=true:=by
     cases q:lexLt x w with
     | true=>rfl
     | false=>exact absurd (ZeX _ _ (by simpa using l) q) e
    obtain ⟨i1,i2⟩:=ZkE w q
    refine ⟨List.pairwise_cons.mpr ⟨fun y hy=>?_,i1⟩,fun y=>?_⟩
    ·have:=(i2 y).mp hy
     by_cases z:y=w
     ·rw [z];exact l'
     ·rw [if_neg z] at this;exact p y this
    ·rw [List.mem_cons,i2 y]
     by_cases z:y=w
     ·subst z;simp [e]
     ·simp [z]
def canon:WS->WS
 | []=>[]
 | w::L=>tog w (canon L)
theorem Yb:∀L:WS,YY L (canon L)
 | []=>Zl6
 | w::L=>by
  have ih:=Yb L
  obtain ⟨a,b⟩:=ZkE w ih.rise
  refine ⟨a,fun y=>?_⟩
  show y∈tog w (canon L) ↔ _
  rw [b y,List.count_cons]
  have m:=ih.mem y
  by_cases e:y=w
  ·subst e
   rw [if_pos rfl]
   simp only [beq_self_eq_true,if_true]
   constructor
   ·intro h;have:=mt m.mpr h;lia
   ·intro h z;have:=m.mp z;lia
  ·have e':¬w=y:=fun z=>e z.symm
   rw [if_neg e,m]
   simp [e']
theorem YY.canon {L r:WS} (x:YY L r):r=canon L:=x.one (Yb L)
def Jb (A B:WS):WS:=canon (A++B)
def Yl (A B:WS):WS:=canon (prd A B)
def J8 (H:Hp) (r:Addr) (n:Nat) (f:Nat->WS):Prop:=∃xs,H r=some (.lst xs)/\xs.length=n /\ ∀(j:Nat) (x:V),xs[j]? = some x -> ∃e,x = .ref e/\WL H e (f j)
theorem J8.same {H H':Hp}{r:Addr}{n:Nat}{f:Nat->WS} (s:Ze H H') (x:J8 H r n f):J8 H' r n f:=
 let ⟨xs,a,b,c⟩:=x;⟨xs,s _ _ a,b,fun j x h=>let ⟨e,p,q⟩:=c j x h;⟨e,p,q.same s⟩⟩
theorem J8.congr {H:Hp}{r:Addr}{n:Nat}{f g:Nat->WS} (x:J8 H r n f) (h:∀j,j<n->f j=g j):J8 H r n g:=by
 obtain ⟨xs,a,b,c⟩:=x
 refine ⟨xs,a,b,fun j x hx=>?_⟩
 obtain ⟨e,p,q⟩:=c j x hx
 have:=(List.getElem?_eq_some_iff.mp hx).1
 exact ⟨e,p,by rw [<- h j (by lia)];exact q⟩
theorem J8.at {H:Hp}{r:Addr}{n:Nat}{f:Nat->WS} (x:J8 H r n f) {j:Nat} (h:j<n):∃(xs:List V) (e:Addr),H r=some (.lst xs)/\xs.length=n/\xs[j]? = some (.ref e)/\WL H e (f j):=by
 obtain ⟨xs,a,b,c⟩:=x
 obtain ⟨e,p,q⟩:=c j (xs[j]'(by lia)) (by simp)
 exact ⟨xs,e,a,b,by rw [<- p];simp,q⟩
theorem Zge {H:Hp}{r e:Addr}{n:Nat}{f:Nat->WS}{L:WS} (x:J8 H r n f) (hn:0<n) (y:WL H e L):e≠r:=fun z=>by
 obtain ⟨xs,e0,a,b,c,us,d,_⟩:=x.at hn
 subst z
 obtain ⟨ys,a',w⟩:=y
 rw [a] at a'
 have hxy:xs=ys:=by injection a' with a';injection a'
 subst hxy
 obtain ⟨_,_,t,ht,hh⟩:=Words.get w c
 cases ht
 rw [d] at hh
 cases hh
theorem WL.upd {H:Hp}{e r:Addr}{L:WS}{xs ys:List V} (hr:H r=some (.lst xs)) (n:e≠r) (y:WL H e L):WL (L2.upd H r (.lst ys)) e L:=by
 obtain ⟨us,a,w⟩:=y
 refine ⟨us,by rw [Zj n];exact a,Words.mono (fun t p q=>?_) w⟩
 rw [Zj (fun z=>by subst z;rw [hr] at q;cases q)];exact q
def Mat (H:Hp) (A:List Addr) (m n:Nat) (F:Nat->Nat->WS):Prop:=A.length=m/\A.Nodup /\ ∀(i:Nat) (r:Addr),A[i]? = some r->J8 H r n (F i)
theorem Mat.same {H H':Hp}{A:List Addr}{m n:Nat}{F:Nat->Nat->WS} (s:Ze H H') (x:Mat H A m n F):Mat H' A m n F:=⟨x.1,x.2.1,fun i r h=>(x.2.2 i r h).same s⟩
theorem Mat.congr {H:Hp}{A:List Addr}{m n:Nat}{F G:Nat->Nat->WS} (x:Mat H A m n F) (h:∀i j,i<m->j<n->F i j=G i j):Mat H A m n G:=
 ⟨x.1,x.2.1,fun i r e=>(x.2.2 i r e).congr fun j hj=>h i j (by have:=(List.getElem?_eq_some_iff.mp e).1;have:=x.1;lia) hj⟩
def Zaj (F:Nat->Nat->WS) (i j:Nat) (L:WS):Nat->Nat->WS:=fun a b=>if a=i/\b=j then L else F a b
theorem Mat.put {H:Hp}{A:List Addr}{m n i j:Nat}{F:Nat->Nat->WS}{r e:Addr}{xs:List V}{L:WS} (x:Mat H A m n F) (hi:A[i]? = some r) (hr:H r=some (.lst xs)) (hj:j<n) (we:WL H e L):
  Mat (upd H r (.lst (xs.set j (.ref e)))) A m n (Zaj F i j L):=by
 have R:=x.2.2 i r hi
 have hn:0<n:=by lia
 refine ⟨x.1,x.2.1,fun i' r' h'=>?_⟩
 by_cases z:r'=r
 ·subst z
  have e1:i'=i:=by
   obtain ⟨h1,e1⟩:=List.getElem?_eq_some_iff.mp h'
   obtain ⟨h2,e2⟩:=List.getElem?_eq_some_iff.mp hi
   exact (List.getElem_inj x.2.1).mp (e1.trans e2.symm)
  subst e1
  obtain ⟨us,a,b,c⟩:=R
  rw [hr] at a
  have hxy:xs=us:=by injection a with a;injection a
  subst hxy
  refine ⟨_,Zb,by rw [List.length_set];exact b,fun j' y hy=>?_⟩
  rw [List.getElem?_set] at hy
  by_cases q:j=j'
  ·subst q
   rw [if_pos rfl,if_pos (by lia)] at hy
   cases hy
   refine ⟨e,rfl,?_⟩
   unfold Zaj
   rw [if_pos ⟨rfl,rfl⟩]
   exact we.upd hr (Zge (x.2.2 i' _ hi) hn we)
  ·rw [if_neg q] at hy
   obtain ⟨e',p',w'⟩:=c j' y hy
   refine ⟨e',p',?_⟩
   unfold Zaj
   rw [if_neg (fun z=>q z.2.symm)]
   exact w'.upd hr (Zge (x.2.2 i' _ hi) hn w')
 ·obtain ⟨us,a,b,c⟩:=x.2.2 i' r' h'
  refine ⟨us,by rw [Zj z];exact a,b,fun j' y hy=>?_⟩
  obtain ⟨e',p',w'⟩:=c j' y hy
  refine ⟨e',p',?_⟩
  unfold Zaj
  rw [if_neg (fun q=>z (by
   have:=q.1
   subst this
   rw [h'] at hi
   exact Option.some.inj hi))]
  exact w'.upd hr (Zge R hn w')
def Tab (H:Hp) (a:Addr) (n:Nat) (F:Nat->Nat->WS):Prop:=∃A,H a=some (.lst (A.map V.ref))/\Mat H A n n F
theorem Tab.same {H H':Hp}{a:Addr}{n:Nat}{F:Nat->Nat->WS} (s:Ze H H') (x:Tab H a n F):Tab H' a n F:=let ⟨A,e,q⟩:=x;⟨A,s _ _ e,q.same s⟩
theorem Tab.congr {H:Hp}{a:Addr}{n:Nat}{F G:Nat->Nat->WS} (x:Tab H a n F) (h:∀i j,i<n->j<n->F i j=G i j):Tab H a n G:=let ⟨A,e,q⟩:=x;⟨A,e,q.congr h⟩
theorem Tab.row {H:Hp}{a:Addr}{n:Nat}{F:Nat->Nat->WS} (x:Tab H a n F) {i:Nat} (h:i<n):∃(ys:List V) (r:Addr),H a=some (.lst ys)/\ys.length=n/\ys[i]? = some (.ref r)/\J8 H r n (F i):=by
 obtain ⟨A,e,q⟩:=x
 have hl:=q.1
 refine ⟨_,A[i]'(by lia),e,by rw [List.length_map];exact hl,by simp [show i<A.length by lia],q.2.2 i _ (by simp)⟩
theorem Mat.snoc {H:Hp}{A:List Addr}{m n:Nat}{F:Nat->Nat->WS}{r:Addr} (x:Mat H A m n F) (hn:r∉A) (hr:J8 H r n (F m)):Mat H (A ++ [r]) (m+1) n F:=by
 refine ⟨by rw [List.length_append,x.1];rfl,?_,fun i r' h=>?_⟩
 ·rw [List.nodup_append]
  exact ⟨x.2.1,by simp,fun a ha b hb e=>hn (by rw [List.mem_singleton.mp hb] at e;exact e ▸ ha)⟩
 ·by_cases hi:i<m
  ·rw [List.getElem?_append_left (by rw [x.1];exact hi)] at h
   exact x.2.2 i r' h
  ·rw [List.getElem?_append_right (by rw [x.1];lia)] at h
   have:i-A.length=0:=by
    have:=(List.getElem?_eq_some_iff.mp h).1
    simp at this;lia
   rw [this] at h
   cases h
   have:i=m:=by have:=x.1;lia
   subst this
   exact hr
theorem ZaZ {H:Hp}{n:Nat}{F:Nat->Nat->WS}:Mat H [] 0 n F:=⟨rfl,.nil,fun i r h=>by simp at h⟩
theorem Mat.fresh {H:Hp}{A:List Addr}{m n:Nat}{F:Nat->Nat->WS} (x:Mat H A m n F) {p:Addr} (h:H p=none):p∉A:=fun z=>by
 obtain ⟨i,hi,e⟩:=List.getElem_of_mem z
 obtain ⟨us,a,_⟩:=x.2.2 i p (by rw [<- e];simp)
 rw [h] at a;cases a
def UJ (k:Nat) (F:Nat->Nat->WS):Nat->Nat->WS:=fun i j=>
 if i=k/\j=k+1 then [[]] else if i=k∨i=k+1∨j=k∨j=k+1 then [] else F (if i<k then i else i-2) (if j<k then j else j-2)
def J3 (k:Nat) (t:Int) (F:Nat->Nat->WS):Nat->Nat->WS:=fun i j=>
 if i=k/\j=k+1 then [] else if i=k/\k+2<=j then F (k+1) j else if i=k+1/\k+2<=j then Jb (F k j) (Yl [[t]] (F (k+1) j))
 else if i<k/\j=k+1 then F i k else if i<k/\j=k then Jb (F i (k+1)) (Yl (F i k) [[t]]) else F i j
def UE (k:Nat) (t:Int) (F:Nat->Nat->WS):Nat->WS:=fun i=>Jb (F i (k+1)) (Yl (F i k) [[t]])
def ZcC (k:Nat) (t:Int) (F:Nat->Nat->WS):Nat->WS:=fun j=>Jb (F k j) (Yl [[t]] (F (k+1) j))
def ZbX (k:Nat) (t:Int) (F:Nat->Nat->WS):Nat->Nat->WS:=fun i j=>
 if i<k/\k<=j then Jb (F i (j+2)) (Yl (UE k t F i) (ZcC k t F (j+2))) else F (if i<k then i else i+2) (if j<k then j else j+2)
section
variable {X:Cx}
end
def xeS (X:Cx) (R:L2.St->Addr->Hp->Prop):Value->Shared->Prop:=fun e s'=>∃(a T C:Addr) (σ':L2.St) (H':Hp),e = .ref a/\Inv X [] σ' H' s'/\Exc s'.heap a T (.ref C)/\X.s₀.heap.get? a=none/\X.s₀.heap.get? T=none /\
 H' a=none/\H' T=none/\(∀p∈X.pn,p.1≠a/\p.1≠T)/\R σ' C H'
abbrev ES (R:L2.St->Addr->Hp->Prop) (σ:L2.St):XK:=fun c _ H'=>∃C,c = .ref C/\R σ C H'
def ZnJ (sp:Sp) (E:L2.St->XK) (t:TA):TE:=fun σ H Q=>t σ H fun vs H1=>sp vs H1 Q (E σ)
section
variable {X:Cx}{pins:List (Addr×Obj)} {σ:L2.St}{H:Hp}{s:Shared}{R:L2.St->Addr->Hp->Prop}
theorem ZoC (hex:X.ex = []):∀(pins:List (Addr×Obj)) (σ:L2.St) (H:Hp) (s:Shared) (e:Value) (s':Shared),Inv (X.wish (xeS X R)) pins σ H s->CX1 X.prog X.w X.stack H s (ES R σ) e s'->xeS X R e s':=by
 intro pins σ H s e s' I c
 obtain ⟨a,T,C,H',rfl,os,bare,un,ok,ex,na,nT,ha,hT,C',hC,hR⟩:=c
 cases hC
 have I0:=I.unwish
 have I':Inv X pins σ H' s':=I0.call' os un ok bare (fun b z=>nomatch z)
 have old:∀b,s.heap.get? b=none->X.s₀.heap.get? b=none:=fun b e=>by
  cases q:X.s₀.heap.get? b with
  | none=>rfl
  | some o=>
   obtain ⟨o',z⟩:=I0.base.there b o q (by rw [hex];exact fun y=>nomatch y)
   rw [e] at z
   cases z
 have pin:∀b,s.heap.get? b=none -> ∀p∈X.pn,p.1≠b:=fun b e p hp z=>by
  have:=(I0.pin p (List.mem_append_left _ hp)).1
  rw [z,e] at this
  cases this
 exact ⟨a,T,C,σ,H',rfl,I'.pins_of (fun p hp=>nomatch hp),ex,old a na,old T nT,ha,hT,fun p hp=>⟨pin a na p hp,pin T nT p hp⟩,hR⟩
theorem Zj2 {k:Nat}{x:Str}{ps:List Str}{sp:Sp}{p pos:Pos}{e:Expr}{es:List Expr}{t:TA}{E:L2.St->XK} (h:Ze3 X.prog X.w X.K X.mg X.base k x ps sp) (hr:JZ k X.A) (hx:∀(pins:List (Addr×Obj)) (σ:L2.St) (H:Hp) (s:Shared) (e:Value) (s':Shared),Inv X pins σ H s->CX1 X.prog X.w X.stack H s (E σ) e s'->X.xe e s') (ha:PA X (e::es) t) (hg:Gl X x:=by rfl) (hdb:(x==("__debug__" : Str))=false:=by decide)
  (he:starEach (e::es) X.env=(false,eval e X.env)::starEach es X.env:=by rfl) (hpl:(backTo pos (starEach es X.env)).any (·.1)=false:=by rfl):PE X (.Call (.Name x p) (e::es) [] pos) (ZnJ sp E t):=by
 obtain ⟨f,fd,F,hm,hk,hb⟩:=h
 intro pins s σ H Q I h
 refine wpAny_Call_Name_kw (UX I hg hm ?_ hdb)
 refine PySem.W.callWith_K (h₀:=X.base) I.ok.mod.kin hk (YB (ha pos pins s σ H _ I h) fun us s1 ⟨vs,H1,I1,r,q⟩=>⟨I1.kIn,?_⟩) he hpl
 have hl:(us ++ []).length=ps.length:=by rw [List.append_nil,<- r.length];exact F.len _ _ _ _ q
 rw [<- List.append_nil vs] at q
 refine wpAny_call (codeAny_mono (F.run X.A X.stack s1 H1 ⟨us,[]⟩ (us ++ []) (vs ++ []) Q (E σ) hr I1.env0 (hb s1 us I1.kIn hl) (r.append .nil) q) fun r s' hq=>?_)
 cases r with
 | error e=>exact hx pins σ H1 s1 e s' I1 hq
 | ok fl=>
  cases fl with
  | ret u=>exact I1.after hq
  | next=>exact False.elim hq
  | brk=>exact False.elim hq
  | cont=>exact False.elim hq
def Zn0 (R:L2.St->Addr->Hp->Prop) (tb th:TS):TS:=fun D σ H=>tb D σ H /\ ∀(C:Addr) (σ':L2.St) (H':Hp),R σ' C H'->th D σ' H'
theorem ZkY {body suite:List Stmt}{b₀:Stmt}{cx:Str}{Dc:Addr}{tb th:TS}{np hpos pos:Pos}{newId:String} (R:L2.St->Addr->Hp->Prop) (hb:∀pins,PSs ((X.nailed pins).wish (xeS (X.nailed pins) R)) body tb) (hs:∀pins a,PSs (X.suite pins a) (b₀::suite) th)
  (hg:Gl X cx) (hm:X.mg cx=some (.ref Dc)) (hcD:PySem.W.excIn X.K Dc bmV newId=true) (hR:∀ σ C H',R σ C H'->PySem.W.mroIn X.K C (.ref Dc)=some true)
  (hex:X.ex = []:=by rfl) (hst:X.stack=X.env::X.outer:=by rfl) (hfr:X.env.frame=some X.env.locals:=by rfl) (hd:(cx==("__debug__" : Str))=false:=by decide):
  PS X (.Try body [.ExceptHandler (some (.Name cx np)) none (b₀::suite) hpos] [] [] pos) (Zn0 R tb th):=by
 intro pins s σ H D I hw
 obtain ⟨hw1,hw2⟩:=hw
 refine wpAny_Try_except ?_
 refine wpAny_mono (hb pins [] s σ H D (I.nail.wish _) hw1) (fun f s1 q=>?_) (fun e s1 xe=>?_)
 ·cases f with
  | next=>obtain ⟨σ',H',I',d⟩:=q;exact wpAny_execs_nil ⟨σ',H',I'.unwish.unnail,d⟩
  | brk=>obtain ⟨σ',H',I',d⟩:=q;exact ⟨σ',H',I'.unwish.unnail,d⟩
  | cont=>obtain ⟨σ',H',I',d⟩:=q;exact ⟨σ',H',I'.unwish.unnail,d⟩
  | ret u=>obtain ⟨v,σ',H',I',r,d⟩:=q;exact ⟨v,σ',H',I'.unwish.unnail,r,d⟩
 ·obtain ⟨a,T,C,σ',H',rfl,I',ex,a0,T0,ha,hT,np',hR'⟩:=xe
  have ok:X.Ok:=I.ok
  have np1:∀p∈(X.nailed pins).pn ++ [],p.1≠a/\p.1≠T:=fun p hp=>np' p (by simpa using hp)
  refine looked (L:=X.env.locals) (outer:=X.outer) (base:=X.base) (by rw [<- hst];exact ok.frames) hfr (by rw [<- hst];exact I'.stack) ex fun h2 T2 keep slot ex2 oT=>?_
  have I2:Inv (X.nailed pins) [] σ' H' { s1 with heap:=h2 }:=I'.left hex ⟨ha,a0⟩ ⟨hT,T0⟩ np1 ⟨_,ex⟩ (by show ∀b o,_->b∉J5 X.stack->_;rw [hst];exact keep) (by show ∀b o,_->b∈J5 X.stack->_;rw [hst];exact slot)
  have old:∀{h:Heap} {σ'':L2.St}{s2:Shared},Inv (X.nailed pins) [] σ'' H' s2 -> ∀b,s2.heap.get? b=none->H' b=none/\X.s₀.heap.get? b=none /\ ∀p∈(X.nailed pins).pn,p.1≠b:=fun J b e=>by
   refine ⟨Y6 J.hok e,?_,fun p hp z=>?_⟩
   ·cases q:X.s₀.heap.get? b with
    | none=>rfl
    | some o=>
     obtain ⟨o',z⟩:=J.base.there b o q (by show b∉X.ex;rw [hex];exact fun y=>nomatch y)
     rw [e] at z
     cases z
   ·have:=(J.pin p (List.mem_append_left _ hp)).1
    rw [z,e] at this
    cases this
  have T2f:H' T2=none/\X.s₀.heap.get? T2=none /\ ∀p∈(X.nailed pins).pn,p.1≠T2:=by
   rcases oT with z | z
   ·rw [z];exact ⟨hT,T0,fun p hp=>(np' p hp).2⟩
   ·exact old (h:=s1.heap) I' T2 z
  obtain ⟨bmD,ND,nmD,qnD,bsD,hdD,snD,subD,abD,colD,ddD,j0,j1,j2,j3,j5,mD,hD,hND,hniD,TD⟩:=ZjT I2.kIn hcD
  have hbD:bmD.contains (.type "BaseException")=true:=TD.hasType PySem.F.excBase_ValueError.hasBase
  refine wpAny_handleBy_cons (codeAny_handlers_test ?_) (fun z=>nomatch z)
  refine UX (X:=X.suite pins a) (I2.suite ok a) hg hm ?_ hd
  obtain ⟨oe,vs,oT',ts,x1,x2,x3⟩:=id ex2
  refine ZiS hD x1 x2 hbD (PySem.W.looks_mroIn I2.kIn (hR σ' C H' hR')) ?_
  refine codeAny_handlers_suite ?_
  refine landed (s:={ s1 with heap:=h2 }) ex2 fun h3 keep3 ⟨T3,ex3,oT3⟩=>?_
  have np2:∀p∈(X.nailed pins).pn ++ [],p.1≠a/\p.1≠T2:=fun p hp=>⟨(np1 p hp).1,T2f.2.2 p (by simpa using hp)⟩
  have I3:Inv (X.nailed pins) [] σ' H' { s1 with heap:=h3 }:=I2.left hex ⟨ha,a0⟩ ⟨T2f.1,T2f.2.1⟩ np2 ⟨_,ex2⟩ (fun b o e _ z1 z2=>keep3 b o e z1 z2) (fun b o e hb=>by
   obtain ⟨_,o',e',dd⟩:=I2.stack.mem hb
   rw [e] at e'
   cases e'
   have n:=ex2.ne_dict e dd
   exact ⟨o.slots,keep3 b o e n.1 n.2⟩)
  refine wpAny_mono (hs pins a [] _ _ _ _ (I3.suite ok a) (hw2 C σ' H' hR')) (fun f s7 q=>?_) (fun _ _ z=>z.elim)
  cases f with
  | next=>obtain ⟨σ7,H7,I7,dq⟩:=q;exact ⟨_,H7,I7.unsuite ok,dq⟩
  | brk=>obtain ⟨σ7,H7,I7,dq⟩:=q;exact ⟨_,H7,I7.unsuite ok,dq⟩
  | cont=>obtain ⟨σ7,H7,I7,dq⟩:=q;exact ⟨_,H7,I7.unsuite ok,dq⟩
  | ret u=>obtain ⟨v,σ7,H7,I7,r,dq⟩:=q;exact ⟨v,_,H7,I7.unsuite ok,r,dq⟩
end
section
variable {X:Cx}{tg:Expr}
end
section
variable {prog:Program}{w:World}{A:Around}{E:Value->Shared->Prop}{s:Shared}
abbrev ZnU (h:Heap) (z TI TO T:Addr) (b:Bool):Prop:=
 h.get? z=some { cls:=.type "zip", dict:=none,data:=.fields #[rawInt T,.bool b,.bool false,.ref TI,.ref TO],slots:=#[] }
structure ZS (h:Heap) (z TI TO i1 i2 l1 l2:Addr) (k:Nat):Prop where
 zp:(IsZip h z TI TO .none /\ ∃a b,IsPair h TO a b) ∨ ∃T b o,ZnU h z TI TO T b/\h.get? T=some o/\o.cls = .type "tuple" /\ T≠z/\T≠TO/\T≠i1/\T≠i2
 ti:IsPair h TI (.ref i1) (.ref i2)
 j1:h.IsListIter i1 l1 k
 j2:h.IsListIter i2 l2 k
end
section
variable {prog:Program}{w:World}{A:Around}{R:Result->Shared->Prop}
end
section
variable {X:Cx}
end
section
variable {prog:Program}{w:World}{A:Around}{E:Value->Shared->Prop}{s:Shared}
end
open AutoSeq1 (wpAny_loadPart') in
section
variable {prog:Program}{w:World}{A:Around}{E:Value->Shared->Prop}{s:Shared}
end
section
variable {X:Cx}
end
end L2
namespace Qk19
open PySem L2 PyProof.Rows
def top (i:Nat):Stmt:=PySem.Challenge.pw_bendfronts_k19_side_by_side.main.body.getD i (.Pass ⟨0,0,0,0⟩)
section
variable {P:Program}{w:World}{K:PySem.W.Frag}{mg:Str->Option Value}{base:Heap}
def Zbl:Sp:=fun vs H Q _=>∃(b:Addr) (m:Int),vs = [.ref b,.int m]/\Bag H b/\1<=m/\m<1073741824 /\ ∀(d:Int) (H':Hp),0<=d->d<m->Bag H' b->JJ b H H'->Q (.int d) H'
abbrev Ux:Stmt:=top 41
theorem ZaW:Zp ["_law_bag_here", "_law_many_here", "_law_digit"] ["_law_bag_here", "_law_many_here"] (Zi Ux):={}
theorem Zlc {f:Addr}{fd:FuncData} (F:Ym K "_law_take" "_law_take" Ux f fd):ZX P w K mg base J4 1 f fd ["_law_bag_here", "_law_many_here"] Zbl:=by
 refine F.ok ZaW (fun vs H Q E h=>?_) (fun cdv A outer s H vs Q E hr h=>?_)
 ·obtain ⟨b,m,rfl,_⟩:=h
  rfl
 ·obtain ⟨b,m,rfl,⟨g,r,hg,hb⟩,h1,h2,k⟩:=h
  refine ⟨_,(Zd (YK (Zu ZbS (Zz (Zl (K:=K) rfl) (pv 0) Zg (fun _ _=>rfl)) Zg (ZD _)) (Zd (Zq (i:=2) ZaW.nd rfl (Or.inl rfl) (Zn Ur (Zz (Zl (K:=K) rfl) (pv 0) Zg (fun _ _=>rfl)) (pv 1)))
   (Zd (Yv (Zn Zb8 (Zz (Zl (K:=K) rfl) (pv 0) Zg (fun _ _=>rfl)) (pv 1)) (YO (pv 0) Zg set_list))
   (Zh (Zr (pv 2))))) Ya)
   (Zd (Yv (Zn Ur (Zn ZF (Zn Wt (Zz (Zl (K:=K) rfl) (pv 0) Zg (fun _ _=>rfl)) Zg) Zg) Zg) (YO (pv 0) Zg set_list))
   (Zh (Zr (Zn Ur (Zn Ur (Zn Zgm (Zn Zb8 (Zz (Zl (K:=K) rfl) (pv 0) Zg (fun _ _=>rfl)) Zg) Zg) Zg) (pv 1)))))),?_⟩
  refine ⟨_,rfl,b,_,_,_,rfl,rfl,Zo.of hb,Zv (j:=0) rfl,_,_,rfl,rfl,_,rfl,?_⟩
  refine YJ (fun hp=>?_) (fun hp=>?_)
  ·have hp':0<g:=of_decide_eq_true hp
   refine ⟨_,rfl,b,_,_,_,rfl,rfl,Zo.of hb,Zv (j:=0) rfl,_,rfl,_,_,rfl,rfl,(by lia:0<m),?_⟩
   refine ⟨_,rfl,b,_,_,_,rfl,rfl,Zo.of hb,Zv (j:=0) rfl,_,rfl,_,_,rfl,rfl,⟨by lia,by lia⟩,_,rfl,b,_,_,0,rfl,rfl,hb,rfl,?_⟩
   refine ⟨_,rfl,k _ _ (Int.emod_nonneg _ (by lia)) (Int.emod_lt_of_pos _ (by lia)) ⟨g / m,r,Int.ediv_nonneg (by lia) (by lia),Zb⟩ JJ.upd⟩
  ·refine ⟨_,rfl,b,_,_,_,rfl,rfl,Zo.of hb,Zv (j:=1) rfl,_,_,rfl,rfl,.inr ⟨by decide,by decide⟩,_,_,rfl,rfl,_,_,rfl,rfl,(show (0:Int)<2147483647 by decide),_,rfl,b,_,_,1,rfl,rfl,hb,rfl,?_⟩
   have e1:0<=(r*48271+11) % 2147483647:=Int.emod_nonneg _ (by decide)
   have e2:(r*48271+11) % 2147483647<2147483647:=Int.emod_lt_of_pos _ (by decide)
   refine ⟨_,rfl,b,_,_,_,rfl,rfl,Zo.of Zb,Zv (j:=1) rfl,_,_,rfl,rfl,⟨by decide,by decide⟩,_,_,rfl,rfl,⟨by decide,by decide,by lia⟩,_,_,rfl,rfl,(show (0:Int)<2147483629 by decide),_,rfl,_,_,rfl,rfl,(by lia:0<m),?_⟩
   exact k _ _ (Int.emod_nonneg _ (by lia)) (Int.emod_lt_of_pos _ (by lia)) ⟨g,_,hg,Zb⟩ JJ.upd
def Zjo (K:PySem.W.Frag):Sp:=fun vs H Q _=>∃(a:Addr) (i:Int) (ns:List Int),vs = [.ref a,.int i]/\Zo K H a (ns.map V.int)/\0<=i/\i<1000 /\ ∀(l:Addr) (H':Hp),H l=none->Ze H H'->Bag H' l->Q (.ref l) H'
abbrev Zai:Stmt:=top 40
theorem Jp:Zp ["_law_script", "_law_at", "_law_cell", "_law_great", "_law_primes"] ["_law_script", "_law_at"] (Zi Zai):={}
theorem Znp {f:Addr}{fd:FuncData} (F:Ym K "_law_bag" "_law_bag" Zai f fd) (ZL:mg "len" = none) (Zcq:mg "abs" = none):ZX P w K mg base J4 1 f fd ["_law_script", "_law_at"] (Zjo K):=by
 refine F.ok Jp (fun vs H Q E h=>?_) (fun cdv A outer s H vs Q E hr h=>?_)
 ·obtain ⟨a,i,ns,rfl,_⟩:=h
  rfl
 ·obtain ⟨a,i,ns,rfl,hS,h0,h1,k⟩:=h
  refine ⟨_,(Zd (Zq (i:=2) Jp.nd rfl (Or.inl rfl) Zg)
   (Zd (YK (Zu Zc5 (pv 1) (Zy (ZJ (K:=K) rfl) (by rfl) ZL PySem.boot_len (Za (pv 0) Zc)) (ZD _)) (Zh (Zq (i:=2) Jp.nd rfl (Or.inl rfl) (Zz (Zl (K:=K) rfl) (pv 0) (pv 1) (fun _ _=>rfl)))) Ya)
   (Zd (Zq (i:=3) Jp.nd rfl (Or.inl rfl) Zg)
   (Zd (YK (Zu Zon (Zy ZcF (by rfl) Zcq boot_abs (Za (pv 2) Zc)) (Zn Zgm Zg Zg) (ZD _)) (Zh (Zq (i:=3) Jp.nd rfl (Or.inl rfl) (Zy ZcF (by rfl) Zcq boot_abs (Za (pv 2) Zc)))) Ya)
   (Zd (Zq (i:=4) Jp.nd rfl (Or.inl rfl) (Z6 (Za Zg (Za Zg (Za Zg (Za Zg (Za Zg (Za Zg (Za Zg (Za Zg Zc))))))))))
   (Zh (Zr (Z6 (Za (pv 3) (Za (Zn Ur (Zn Zgm (Zn ZF (Zn ZF (Zn Ur (pv 2) Zg) (Zn Wt Zg (pv 1))) Zg) Zg) (Zz (Zl (K:=K) rfl) (pv 4) (Zn Ur (pv 1) Zg) (fun _ _=>rfl))) Zc)))))))))),?_⟩
  refine ⟨_,rfl,_,rfl,a,_,rfl,.inl hS,_,_,rfl,rfl,_,rfl,?_⟩
  have last:∀(c:Int),0<=c % 2147483647/\c % 2147483647<2147483647:=fun c=>⟨Int.emod_nonneg _ (by decide),Int.emod_lt_of_pos _ (by decide)⟩
  have e3:0<=i % 8:=Int.emod_nonneg _ (by decide)
  have e4:i % 8<8:=Int.emod_lt_of_pos _ (by decide)
  obtain ⟨j,hj⟩:∃j:Nat,i % 8=(j:Int):=⟨(i % 8).toNat,by lia⟩
  have hj8:j<8:=by lia
  obtain ⟨q,hq,hq0⟩:∃q:Int,([V.int 2147483629,.int 2147483587,.int 2147483579,.int 2147483563,.int 2147483549,.int 2147483543,.int 2147483497,.int 2147483489]:List V)[j]? = some (.int q)/\0<q:=by
   match j,hj8 with
   | 0,_=>exact ⟨_,rfl,by decide⟩
   | 1,_=>exact ⟨_,rfl,by decide⟩
   | 2,_=>exact ⟨_,rfl,by decide⟩
   | 3,_=>exact ⟨_,rfl,by decide⟩
   | 4,_=>exact ⟨_,rfl,by decide⟩
   | 5,_=>exact ⟨_,rfl,by decide⟩
   | 6,_=>exact ⟨_,rfl,by decide⟩
   | 7,_=>exact ⟨_,rfl,by decide⟩
  have two:∀(c:Int) (B:Prop),B->(c=0 ∨ ∃j:Nat,i=(j:Int)/\ns[j]? = some c)->B:=fun _ _ b _=>b
  refine YJ (fun hp=>?_) (fun hp=>?_)
  ·have hp':i<((ns.map V.int).length:Int):=of_decide_eq_true hp
   rw [List.length_map] at hp'
   obtain ⟨n,hn⟩:∃n:Nat,i=(n:Int):=⟨i.toNat,by lia⟩
   have hnl:n<ns.length:=by lia
   refine ⟨_,rfl,_,rfl,a,_,_,_,rfl,rfl,hS,(by rw [hn];exact Zv (v:=V.int ns[n]) (by simp [hnl])),?_⟩
   refine ⟨_,rfl,_,rfl,_,_,rfl,rfl,⟨by decide,by decide,by decide⟩,_,_,rfl,rfl,_,rfl,?_⟩
   refine YJ (fun hp=>?_) (fun hp=>?_)
   ·refine ⟨_,rfl,_,rfl,?_⟩
    have l0:=last ns[n]
    refine ⟨(by show 8<=sizeLine;decide),fun pl hpl=>?_⟩
    refine ⟨_,rfl,_,rfl,_,_,rfl,rfl,(show (0:Int)<2147483647 by decide),_,rfl,_,_,rfl,rfl,.inl ⟨by decide,by decide⟩,_,_,rfl,rfl,_,_,rfl,rfl,_,_,rfl,rfl,⟨by decide,by decide,by lia⟩,_,rfl,_,rfl,_,_,rfl,rfl,(show (0:Int)<8 by decide),pl,_,_,_,rfl,rfl,Zo.of Zb,(by rw [hj];exact Zv hq),_,_,rfl,rfl,hq0,(by show 2<=sizeLine;decide),fun l hl=>?_⟩
    have hl0:H l=none:=(Ze.laid hpl).free hl
    exact k l _ hl0 ((Ze.laid hpl).step hl) ⟨_,_,(by split<;>lia),Zb⟩
   ·have l0:=last ns[n]
    refine ⟨(by show 8<=sizeLine;decide),fun pl hpl=>?_⟩
    refine ⟨_,rfl,_,rfl,_,_,rfl,rfl,(show (0:Int)<2147483647 by decide),_,rfl,_,_,rfl,rfl,.inl ⟨by decide,by decide⟩,_,_,rfl,rfl,_,_,rfl,rfl,_,_,rfl,rfl,⟨by decide,by decide,by lia⟩,_,rfl,_,rfl,_,_,rfl,rfl,(show (0:Int)<8 by decide),pl,_,_,_,rfl,rfl,Zo.of Zb,(by rw [hj];exact Zv hq),_,_,rfl,rfl,hq0,(by show 2<=sizeLine;decide),fun l hl=>?_⟩
    have hl0:H l=none:=(Ze.laid hpl).free hl
    exact k l _ hl0 ((Ze.laid hpl).step hl) ⟨0,_,Int.le_refl _,Zb⟩
  ·refine ⟨_,rfl,_,rfl,_,_,rfl,rfl,⟨by decide,by decide,by decide⟩,_,_,rfl,rfl,_,rfl,?_⟩
   refine YJ (fun hp=>?_) (fun hp=>?_)
   ·exact absurd hp (by decide)
   ·have l0:=last 0
    refine ⟨(by show 8<=sizeLine;decide),fun pl hpl=>?_⟩
    refine ⟨_,rfl,_,rfl,_,_,rfl,rfl,(show (0:Int)<2147483647 by decide),_,rfl,_,_,rfl,rfl,.inl ⟨by decide,by decide⟩,_,_,rfl,rfl,_,_,rfl,rfl,_,_,rfl,rfl,⟨by decide,by decide,by lia⟩,_,rfl,_,rfl,_,_,rfl,rfl,(show (0:Int)<8 by decide),pl,_,_,_,rfl,rfl,Zo.of Zb,(by rw [hj];exact Zv hq),_,_,rfl,rfl,hq0,(by show 2<=sizeLine;decide),fun l hl=>?_⟩
    have hl0:H l=none:=(Ze.laid hpl).free hl
    exact k l _ hl0 ((Ze.laid hpl).step hl) ⟨0,_,Int.le_refl _,Zb⟩
theorem Znj {ls:List (Str×Int)}{i:Nat}{q:Str×Int} (hq:ls[i]? = some q) (pr:Str->Bool):isK ls pr i=pr q.1:=by
 unfold isK
 rw [hq]
 cases h:pr q.1<;>simp [h]
theorem Ub {ls:List (Str×Int)}{n:Int} (h:Wk ls n):Z7 ls=n:=by
 have g1:Zdq "born" = 2:=by decide +kernel
 have g2:Zdq "cross" = 0:=by decide +kernel
 have g3:Zdq "end" = -2:=by decide +kernel
 induction h with
 | nil=>rfl
 | born _ _ _ ih=>rw [UW,ih,g1]
 | cross _ _ _ ih=>rw [UW,ih,g2];lia
 | fin _ _ _ ih=>rw [UW,ih,g3];lia
def InB (ls:List (Str×Int)):Prop:=(∀i,Z7 (ls.take i)<=8)/\(ZU ls (fun x=>decide (x = "born")) ls.length).length<=8/\(ZU ls (fun x=>decide (x = "cross")) ls.length).length<=12
theorem ZgK {H:Hp}{b p:Addr} (h:Bag H b) (hp:H p=none):p≠b:=by
 obtain ⟨g,r,h0,e⟩:=h
 exact (Zf e hp).symm
def cnt (x:Str) (ls:List (Str×Int)):Nat:=(ls.filter fun p=>decide (p.1=x)).length
theorem ZM (x:Str) (ls:List (Str×Int)) (p:Str×Int):cnt x (ls ++ [p])=cnt x ls+if p.1=x then 1 else 0:=by
 unfold cnt
 rw [List.filter_append,List.length_append]
 by_cases e:p.1=x<;>simp [e]
theorem JW (x:Str) (ls:List (Str×Int)):(ZU ls (fun y=>decide (y=x)) ls.length).length=cnt x ls:=by
 have key:∀n,n<=ls.length->(ZU ls (fun y=>decide (y=x)) n).length=cnt x (ls.take n):=by
  intro n
  induction n with
  | zero=>intro _;rfl
  | succ n ih=>
   intro hn
   have hq:ls[n]? = some ls[n]:=by simp [show n<ls.length by lia]
   rw [YN,List.length_append,ih (by lia),List.take_add_one,hq]
   show _=cnt x (ls.take n ++ [ls[n]])
   rw [ZM,Znj hq]
   by_cases e:ls[n].1=x<;>simp [e]
 have:=key ls.length (Nat.le_refl _)
 rwa [List.take_of_length_le (Nat.le_refl _)] at this
structure Gd (ls:List (Str×Int)) (n:Int) (b c:Nat):Prop where
 wk:Wk ls n
 mx:∀i,Z7 (ls.take i)<=8
 bo:cnt "born" ls=b
 cr:cnt "cross" ls=c
theorem Ze4 {ls:List (Str×Int)}{p:Str×Int} (h:∀i,Z7 (ls.take i)<=8) (h2:Z7 (ls ++ [p])<=8):∀i,Z7 ((ls ++ [p]).take i)<=8:=fun i=>by
 by_cases hi:i<=ls.length
 ·rw [List.take_append_of_le_length hi];exact h i
 ·rw [List.take_of_length_le (by rw [List.length_append,List.length_singleton];lia)];exact h2
theorem Zgx:Gd [] 0 0 0:=⟨.nil,fun i=>by simp [Z7],rfl,rfl⟩
theorem Zhh {ls:List (Str×Int)}{n k:Int}{b c:Nat} (h:Gd ls n b c) (h0:0<=k) (h1:k<=n) (h2:n+2<=8):Gd (ls ++ [(("born" : Str),k)]) (n+2) (b+1) c:=by
 have wk:=Wk.born (k:=k) h.wk h0 h1
 refine ⟨wk,Ze4 h.mx (by rw [Ub wk];exact h2),?_,?_⟩
 ·rw [ZM,h.bo];simp
 ·rw [ZM,h.cr,if_neg (fun z=>nb1 z.symm)];rfl
theorem Za9 {ls:List (Str×Int)}{n k:Int}{b c:Nat} (h:Gd ls n b c) (h0:0<=k) (h1:k+1<n) (h2:n<=8):Gd (ls ++ [(("cross" : Str),k)]) n b (c+1):=by
 have wk:=Wk.cross (k:=k) h.wk h0 h1
 refine ⟨wk,Ze4 h.mx (by rw [Ub wk];exact h2),?_,?_⟩
 ·rw [ZM,h.bo,if_neg (fun z=>nb1 z)];rfl
 ·rw [ZM,h.cr];simp
theorem Zgd {ls:List (Str×Int)}{n k:Int}{b c:Nat} (h:Gd ls n b c) (h0:0<=k) (h1:k+1<n) (h2:n<=10):Gd (ls ++ [(("end" : Str),k)]) (n-2) b c:=by
 have wk:=Wk.fin (k:=k) h.wk h0 h1
 refine ⟨wk,Ze4 h.mx (by rw [Ub wk];lia),?_,?_⟩
 ·rw [ZM,h.bo,if_neg (fun z=>nb2 z)];rfl
 ·rw [ZM,h.cr,if_neg (fun z=>nb3 z)];rfl
theorem ZdY:∀(n:Nat),n<=4->Gd ((List.range n).map fun (k:Nat)=>((("born" : Str),2*(k:Int)):Str×Int)) (2*(n:Int)) n 0
 | 0,_=>by simpa using Zgx
 | n+1,h=>by
  rw [List.range_succ,List.map_append]
  have e:(2*((n+1:Nat):Int))=2*(n:Int)+2:=by lia
  rw [e]
  exact Zhh (ZdY n (by lia)) (by lia) (by lia) (by lia)
theorem ZeH {ls:List (Str×Int)}{b c:Nat}:∀(n:Nat),n<=4->Gd ls (2*(n:Int)) b c -> ∀m,m<=n->Gd (ls++List.replicate m ((("end" : Str),0):Str×Int)) (2*((n-m:Nat):Int)) b c
 | n,_,h,0,_=>by simpa using h
 | n,h4,h,m+1,hm=>by
  have ih:=ZeH n h4 h m (by lia)
  rw [List.replicate_succ',<- List.append_assoc]
  have e:(2*((n-(m+1):Nat):Int))=2*((n-m:Nat):Int)-2:=by lia
  rw [e]
  exact Zgd ih (by decide) (by lia) (by lia)
def CB (ls:List (Str×Int)) (m n:Int):Prop:=(cnt "born" ls:Int)<=m/\(cnt "cross" ls:Int)<=n /\ ∀i,Z7 (ls.take i)<=8
def Zez (lo:Int):Sp:=fun vs H Q _=>∃(b:Addr) (m n:Int),vs = [.ref b,.int m,.int n]/\Bag H b/\1<=m/\m<=4/\0<=n/\n<=12 /\ ∀(l:Addr) (H':Hp) (ls:List (Str×Int)),H l=none->Bag H' b->JJ b H H'->Drw H' l ls->CB ls m n->ls.length<=50->ls ≠ []->Q (.ref l) H'
def ZdS:Sp:=fun vs H Q _=>∃(b:Addr) (n:Int),vs = [.ref b,.int n]/\Bag H b/\0<=n/\n<=12 /\ ∀(l:Addr) (H':Hp) (ls:List (Str×Int)),H l=none->Bag H' b->JJ b H H'->Drw H' l ls->CB ls 4 n->ls.length<=50->ls ≠ []->Q (.ref l) H'
abbrev WJ:Stmt:=top 42
theorem ZG:Zp ["_law_bag_here", "_law_births", "_law_most", "_law_letters", "_law_many_here", "_law_left", "_law_crosses", "_law_turn", "_law_way"] ["_law_bag_here", "_law_births", "_law_most"] (Zi WJ):={}
theorem Zll {f:Addr}{fd:FuncData} (F:Ym K "_law_drawing" "_law_drawing" WJ f fd) (Zt:Yi P w K mg base 1 "_law_take" ["_law_bag_here", "_law_many_here"] Zbl) (ZT:mg "range" = none):
  ZX P w K mg base J4 2 f fd ["_law_bag_here", "_law_births", "_law_most"] (Zez 0):=by
 refine F.ok ZG (fun vs H Q E h=>?_) (fun cdv A outer s H vs Q E hr h=>?_)
 ·obtain ⟨b,m,n,rfl,_⟩:=h
  rfl
 ·obtain ⟨b,m,n,rfl,hbag,m1,m2,n1,n2,k⟩:=h
  refine ⟨_,(Zd (Zq (i:=3) ZG.nd rfl (Or.inl rfl) (Z6 Zc))
   (Zd (Zq (i:=4) ZG.nd rfl (Or.inl rfl) Zg)
   (Zd (Zq (i:=5) ZG.nd rfl (Or.inl rfl) (Zn ZF Zg (Zk Zt hr (Za (pv 0) (Za (pv 1) Zc)))))
   (Zd (Zq (i:=6) ZG.nd rfl (Or.inl rfl) (Zk Zt hr (Za (pv 0) (Za (Zn ZF (pv 2) Zg) Zc))))
   (Zd (Z5 PassesOwn.never rfl (YA (by rfl) ZT (Za Zg Zc)) (Zm (i:=7) ZG.nd rfl (Or.inl rfl)) (Zd (Zq (i:=8) ZG.nd rfl (Or.inl rfl) (Zk Zt hr (Za (pv 0) (Za Zg Zc))))
   (Zh (YK (PW.pt (Zap (Zu ZbS (pv 5) Zg (ZD _)) (Zap (Zu Zc5 (pv 4) Zg (ZD _)) (ZaU (PW.pt (ZcJ (Zu Uj (pv 4) Zg (ZD _)) (Zaq (Zu Uj (pv 8) Zg (ZD _))))))))) (Zd (Ye (YF (K:=K) rfl (JB PySem.F.plainAttrs_list PySem.F.slot_list_append PySem.F.type_list_append Z4 (pv 3) (Za (JP (Za YH (Za (Zk Zt hr (Za (pv 0) (Za (Zn ZF (pv 4) Zg) Zc))) Zc))) Zc))))
   (Zd (Zq (i:=4) ZG.nd rfl (Or.inl rfl) (Zn ZF (pv 4) Zg))
   (Zh (Zq (i:=5) ZG.nd rfl (Or.inl rfl) (Zn Gp (pv 5) Zg))))) (Zh (YK (PW.pt (Zap (Zu ZbS (pv 4) Zg (ZD _)) (ZaU (Zu Uj (pv 8) Zg (ZD _))))) (Zd (Ye (YF (K:=K) rfl (JB PySem.F.plainAttrs_list PySem.F.slot_list_append PySem.F.type_list_append Z4 (pv 3) (Za (JP (Za YH (Za (Zk Zt hr (Za (pv 0) (Za (Zn Gp (pv 4) Zg) Zc))) Zc))) Zc))))
   (Zh (Zq (i:=4) ZG.nd rfl (Or.inl rfl) (Zn Gp (pv 4) Zg)))) (Zh (YK (PW.pt (Zap (Zu ZbS (pv 4) Zg (ZD _)) (ZaU (Zu ZbS (pv 6) Zg (ZD _))))) (Zd (Ye (YF (K:=K) rfl (JB PySem.F.plainAttrs_list PySem.F.slot_list_append PySem.F.type_list_append Z4 (pv 3) (Za (JP (Za YH (Za (Zk Zt hr (Za (pv 0) (Za (Zn Gp (pv 4) Zg) Zc))) Zc))) Zc))))
   (Zh (Zq (i:=6) ZG.nd rfl (Or.inl rfl) (Zn Gp (pv 6) Zg)))) Ya))))))))
   (Zd (Zfq PassesOwn.never (Zu ZbS (pv 4) Zg (ZD _)) (Zd (Ye (YF (K:=K) rfl (JB PySem.F.plainAttrs_list PySem.F.slot_list_append PySem.F.type_list_append Z4 (pv 3) (Za (JP (Za YH (Za (Zk Zt hr (Za (pv 0) (Za (Zn Gp (pv 4) Zg) Zc))) Zc))) Zc))))
   (Zh (Zq (i:=4) ZG.nd rfl (Or.inl rfl) (Zn Gp (pv 4) Zg)))))
   (Zh (Zr (pv 3))))))))),?_⟩
  refine ⟨(by show 0<=sizeLine;decide),fun l hl=>?_⟩
  obtain ⟨g0,r0,hg0,hb0⟩:=id hbag
  have hlb:l≠b:=(Zf hb0 hl).symm
  have bag1:Bag (upd H l (.lst [])) b:=⟨g0,r0,hg0,by rw [Zj (Ne.symm hlb)];exact hb0⟩
  refine ⟨_,rfl,_,rfl,b,m,rfl,bag1,m1,by lia,fun d1 H1 p1 q1 bg1 f1=>?_⟩
  refine ⟨_,_,rfl,rfl,?_⟩
  refine ⟨_,rfl,_,rfl,_,_,rfl,rfl,b,_,rfl,bg1,by lia,by lia,fun d2 H2 p2 q2 bg2 f2=>?_⟩
  have hl2:H2 l=some (.lst []):=f2 l _ (f1 l _ Zb hlb) hlb
  have fr2:JJ b H H2:=fun c o e nb=>f2 c o (f1 c o (by rw [Zj (Zf e hl)];exact e) nb) nb
  refine ⟨30,rfl,by decide,by decide,Jr (n:=30) (fun i σ H'=>∃(xs:List V) (ls:List (Str×Int)) (c:Nat) (lf cr:Int) (tv wv:Option V),σ = [some (.ref b),some (.int m),some (.int n),some (.ref l),some (.int (2*(c:Int))),some (.int lf),some (.int cr),tv,wv]/\c<=4/\Bag H' b/\JJ b H H'/\H' l=some (.lst xs)/\Zs H' xs ls/\(∃bo cc:Nat,Gd ls (2*(c:Int)) bo cc/\(bo:Int)+lf<=m/\(cc:Int)+cr<=n/\0<=lf/\0<=cr)/\ls.length<=i/\(i=0->0<lf/\c=0)/\(0<i->ls ≠ []))
   ⟨[],[],0,_,_,none,none,rfl,by decide,bg2,fr2,hl2,.nil,⟨0,0,by simpa using Zgx,by lia,by lia,by lia,by lia⟩,Nat.le_refl _,fun _=>⟨by lia,rfl⟩,fun h=>absurd h (by decide)⟩ ?_ ?_⟩
  ·rintro i σ H3 hi ⟨xs,ls,c,lf,cr,tv,wv,rfl,hc,bg3,fr3,hl3,hL,⟨bo,cc,gd,hbo,hcc,hlf,hcr⟩,hlen,hz,hne⟩
   have hxl:xs.length<sizeLine:=by
    rw [hL.len]
    exact ZH (by lia)
   refine ⟨_,rfl,b,8,rfl,bg3,by decide,by decide,fun wy H4 _ _ bg4 f4=>?_⟩
   have hl4:H4 l=some (.lst xs):=f4 l _ hl3 hlb
   have fr4:JJ b H H4:=fr3.trans f4
   have hL4:Zs H4 xs ls:=hL.frm f4 bg3
   dsimp only [GC]
   refine Zgo (Zex (β:=decide (0<lf)) (fun Q q=>⟨_,rfl,_,_,rfl,rfl,_,rfl,q⟩) fun _=>Zex (β:=decide (2*(c:Int)<7)) (fun Q q=>⟨_,rfl,_,_,rfl,rfl,_,rfl,q⟩) fun _=>ZoL (fun Q q=>⟨_,rfl,rfl,_,rfl,q⟩) fun _=>(fun Q q=>⟨_,rfl,rfl,_,rfl,q⟩)) (fun hp=>?_) (fun hn=>?_)
   ·
    have hp1:2*(c:Int)<7:=by
     simp only [Bool.and_eq_true,decide_eq_true_eq] at hp
     exact hp.2.1
    have hp0:0<lf:=by
     simp only [Bool.and_eq_true,decide_eq_true_eq] at hp
     exact hp.1
    refine ⟨_,rfl,.inl ⟨rfl,_,Zo.of hl4⟩,_,rfl,_,rfl,_,_,rfl,rfl,b,_,rfl,bg4,by lia,by lia,fun d H5 hd0 hd1 bg5 f5=>⟨(by show 2<=sizeLine;decide),fun t ht=>?_⟩⟩
    obtain ⟨a1,a2,a3,a4,a5⟩:=Ws "born" d fr4 bg4 hl4 hL4 hlb hl f5 bg5 ht
    refine ⟨l,_,_,rfl,rfl,a1,hxl,_,rfl,_,_,rfl,rfl,_,rfl,_,_,rfl,rfl,?_⟩
    refine ⟨xs ++ [.ref t],ls ++ [((("born" : Str),d):Str×Int)],c+1,lf-1,cr,some (.int (0+(i:Int))),some (.int wy),?_,by lia,a2,a3,a4,a5,?_,by rw [List.length_append,List.length_singleton];lia,fun h=>absurd h (by lia),fun _=>by simp⟩
    ·have e:2*((c+1:Nat):Int)=2*(c:Int)+2:=by lia
     rw [e]
     rfl
    ·have e:2*((c+1:Nat):Int)=2*(c:Int)+2:=by lia
     rw [e]
     exact ⟨bo+1,cc,Zhh gd hd0 (by lia) (by lia),by lia,by lia,by lia,by lia⟩
   ·have hpos:0<i:=Nat.pos_of_ne_zero fun h=>by
     obtain ⟨q1,q2⟩:=hz h
     subst q2
     simp [q1] at hn
    refine Zgo (Zex (β:=decide (1<2*(c:Int))) (fun Q q=>⟨_,rfl,_,_,rfl,rfl,_,rfl,q⟩) fun _=>(fun Q q=>⟨_,rfl,rfl,_,rfl,q⟩)) (fun hp=>?_) (fun _=>?_)
    ·
     have hp1:1<2*(c:Int):=by
      simp only [Bool.and_eq_true,decide_eq_true_eq] at hp
      exact hp.1
     refine ⟨_,rfl,.inl ⟨rfl,_,Zo.of hl4⟩,_,rfl,_,rfl,_,_,rfl,rfl,b,_,rfl,bg4,by lia,by lia,fun d H5 hd0 hd1 bg5 f5=>⟨(by show 2<=sizeLine;decide),fun t ht=>?_⟩⟩
     obtain ⟨a1,a2,a3,a4,a5⟩:=Ws "end" d fr4 bg4 hl4 hL4 hlb hl f5 bg5 ht
     refine ⟨l,_,_,rfl,rfl,a1,hxl,_,rfl,_,_,rfl,rfl,?_⟩
     have e:2*((c-1:Nat):Int)=2*(c:Int)-2:=by lia
     refine ⟨xs ++ [.ref t],ls ++ [((("end" : Str),d):Str×Int)],c-1,lf,cr,some (.int (0+(i:Int))),some (.int wy),?_,by lia,a2,a3,a4,a5,?_,by rw [List.length_append,List.length_singleton];lia,fun h=>absurd h (by lia),fun _=>by simp⟩
     ·rw [e]
      rfl
     ·rw [e]
      exact ⟨bo,cc,Zgd gd hd0 (by lia) (by lia),by lia,by lia,by lia,by lia⟩
    ·refine Zgo (Zex (β:=decide (1<2*(c:Int))) (fun Q q=>⟨_,rfl,_,_,rfl,rfl,_,rfl,q⟩) fun _=>(fun Q q=>⟨_,rfl,_,_,rfl,rfl,_,rfl,q⟩)) (fun hp=>?_) (fun _=>?_)
     ·
      have hp1:1<2*(c:Int):=by
       simp only [Bool.and_eq_true,decide_eq_true_eq] at hp
       exact hp.1
      have hp2:0<cr:=by
       simp only [Bool.and_eq_true,decide_eq_true_eq] at hp
       exact hp.2
      refine ⟨_,rfl,.inl ⟨rfl,_,Zo.of hl4⟩,_,rfl,_,rfl,_,_,rfl,rfl,b,_,rfl,bg4,by lia,by lia,fun d H5 hd0 hd1 bg5 f5=>⟨(by show 2<=sizeLine;decide),fun t ht=>?_⟩⟩
      obtain ⟨a1,a2,a3,a4,a5⟩:=Ws "cross" d fr4 bg4 hl4 hL4 hlb hl f5 bg5 ht
      refine ⟨l,_,_,rfl,rfl,a1,hxl,_,rfl,_,_,rfl,rfl,?_⟩
      exact ⟨xs ++ [.ref t],ls ++ [((("cross" : Str),d):Str×Int)],c,_,_,_,_,rfl,hc,a2,a3,a4,a5,⟨bo,cc+1,Za9 gd hd0 (by lia) (by lia),by lia,by lia,by lia,by lia⟩,by rw [List.length_append,List.length_singleton];lia,fun h=>absurd h (by lia),fun _=>by simp⟩
     ·exact ⟨xs,ls,c,_,_,_,_,rfl,hc,bg4,fr4,hl4,hL4,⟨bo,cc,gd,by lia,by lia,by lia,by lia⟩,by lia,fun h=>absurd h (by lia),fun _=>hne hpos⟩
  ·
   rintro σ H3 ⟨xs,ls,c,lf,cr,tv,wv,rfl,hc,bg3,fr3,hl3,hL,⟨bo,cc,gd,hbo,hcc,hlf,hcr⟩,hlen,_,hne⟩
   refine ZiZ (fun σ H'=>∃(xs:List V) (ls:List (Str×Int)) (c:Nat),σ = [some (.ref b),some (.int m),some (.int n),some (.ref l),some (.int (2*(c:Int))),some (.int lf),some (.int cr),tv,wv]/\c<=4/\Bag H' b/\JJ b H H'/\H' l=some (.lst xs)/\Zs H' xs ls/\Gd ls (2*(c:Int)) bo cc/\ls.length+c<=34/\ls ≠ [])
    (fun (σ:L2.St) _=>match σ[4]? with | some (some (V.int m))=>m.toNat | _=>0) ⟨xs,ls,c,rfl,hc,bg3,fr3,hl3,hL,gd,by lia,hne (by decide)⟩ ?_ ?_
   ·rintro σ H4 ⟨xs,ls,c,rfl,hc,bg4,fr4,hl4,hL4,gd,hlen,hne'⟩
    have hxl:xs.length<sizeLine:=by
     rw [hL4.len]
     exact ZH (by lia)
    refine ⟨_,rfl,_,_,rfl,rfl,_,rfl,?_⟩
    refine YJ (fun hp=>?_) (fun hp=>?_)
    ·have hp1:0<2*(c:Int):=of_decide_eq_true hp
     refine ⟨_,rfl,.inl ⟨rfl,_,Zo.of hl4⟩,_,rfl,_,rfl,_,_,rfl,rfl,b,_,rfl,bg4,by lia,by lia,fun d H5 hd0 hd1 bg5 f5=>⟨(by show 2<=sizeLine;decide),fun t ht=>?_⟩⟩
     obtain ⟨a1,a2,a3,a4,a5⟩:=Ws "end" d fr4 bg4 hl4 hL4 hlb hl f5 bg5 ht
     refine ⟨l,_,_,rfl,rfl,a1,hxl,_,rfl,_,_,rfl,rfl,?_⟩
     have e:2*((c-1:Nat):Int)=2*(c:Int)-2:=by lia
     refine ⟨⟨xs ++ [.ref t],ls ++ [((("end" : Str),d):Str×Int)],c-1,?_,by lia,a2,a3,a4,a5,?_,by rw [List.length_append,List.length_singleton];lia,by simp⟩,?_⟩
     ·rw [e]
      rfl
     ·rw [e]
      exact Zgd gd hd0 (by lia) (by lia)
     ·show (2*(c:Int)-2).toNat<(2*(c:Int)).toNat
      lia
    ·have hp1:¬ 0<2*(c:Int):=fun z=>hp (decide_eq_true z)
     have hc0:c=0:=by lia
     subst hc0
     have gd':Gd ls 0 bo cc:=by simpa using gd
     refine ⟨_,rfl,k l H4 ls hl bg4 fr4 ⟨xs,hl4,hL4,gd'.wk,by lia⟩ ⟨by rw [gd'.bo];lia,by rw [gd'.cr];lia,gd'.mx⟩ (by lia) hne'⟩
   ·rintro σ H Q Q' f ⟨v,e,i,j,e1,e2,kk,e3,q⟩
    exact ⟨v,e,i,j,e1,e2,kk,e3,f _ _ q⟩
abbrev JY:Stmt:=top 43
theorem Ja:Zp ["_law_bag_here", "_law_most", "_law_births", "_law_letters", "_law_turn", "_law_k"] ["_law_bag_here", "_law_most"] (Zi JY):={}
theorem ZlK {f:Addr}{fd:FuncData} (F:Ym K "_law_plat" "_law_plat" JY f fd) (Zt:Yi P w K mg base 1 "_law_take" ["_law_bag_here", "_law_many_here"] Zbl) (ZT:mg "range" = none):
  ZX P w K mg base J4 2 f fd ["_law_bag_here", "_law_most"] ZdS:=by
 refine F.ok Ja (fun vs H Q E h=>?_) (fun cdv A outer s H vs Q E hr h=>?_)
 ·obtain ⟨b,n,rfl,_⟩:=h
  rfl
 ·obtain ⟨b,n,rfl,hbag,n1,n2,k⟩:=h
  refine ⟨_,(Zd (Zq (i:=2) Ja.nd rfl (Or.inl rfl) (Zn ZF Zg (Zk Zt hr (Za (pv 0) (Za Zg Zc)))))
   (Zd (Zad (i:=3) Ja.nd rfl (Or.inl rfl) (Ls:=["_law_k"]) (Fs:=[]) (fi:=[]) (ZO.of (show Yn ["_law_bag_here", "_law_most", "_law_births", "_law_letters", "_law_turn", "_law_k"] (Zi JY) _ [] []=true by decide +kernel)) rfl (YA (by rfl) ZT (Za (pv 2) Zc)) (fun cl C s3 H3 ex=>⟨(Zm (i:=0) (show ((["_law_k"]:List Str)++([]:List Str)).Nodup by decide +kernel) rfl (Or.inl rfl)),Z8,(JP (Za YH (Za (Zn Wt Zg (pv 0)) Zc)))⟩))
   (Zd (Z5 PassesOwn.never rfl (YA (by rfl) ZT (Za (Zk Zt hr (Za (pv 0) (Za (Zn ZF (pv 1) Zg) Zc))) Zc)) (Zm (i:=4) Ja.nd rfl (Or.inl rfl)) (Zd (Zq (i:=5) Ja.nd rfl (Or.inl rfl) (Zk Zt hr (Za (pv 0) (Za (Zn Gp (Zn Wt Zg (pv 2)) Zg) Zc))))
   (Zd (YK (PW.pt (Zap (Zu ZbS (pv 2) Zg (ZD _)) (ZaU (Zu Uj (Zk Zt hr (Za (pv 0) (Za Zg Zc))) Zg (ZD _))))) (Zh (Zq (i:=5) Ja.nd rfl (Or.inl rfl) (Zn ZF (Zn Wt Zg (Zn Ur (Zn Zb8 (pv 5) Zg) (Zn Gp (pv 2) Zg))) Zg))) Ya)
   (Zh (Ye (YF (K:=K) rfl (JB PySem.F.plainAttrs_list PySem.F.slot_list_append PySem.F.type_list_append Z4 (pv 3) (Za (JP (Za YH (Za (pv 5) Zc))) Zc))))))))
   (Zh (Zr (Zn Jm (pv 3) (Gy (Ls:=["_law_k"]) (Fs:=[]) (fi:=[]) (ZO.of (show Yn ["_law_bag_here", "_law_most", "_law_births", "_law_letters", "_law_turn", "_law_k"] (Zi JY) _ [] []=true by decide +kernel)) rfl (YA (by rfl) ZT (Za (pv 2) Zc)) (fun cl C s3 H3 ex=>⟨(Zm (i:=0) (show ((["_law_k"]:List Str)++([]:List Str)).Nodup by decide +kernel) rfl (Or.inl rfl)),Z8,(JP (Za YH (Za Zg Zc)))⟩)))))))),?_⟩
  refine ⟨_,rfl,b,3,rfl,hbag,by decide,by decide,fun d H1 hd0 hd1 bg1 f1=>?_⟩
  refine ⟨_,_,rfl,rfl,?_⟩
  have hc1:1<=(1+d).toNat:=by lia
  have hc2:(1+d).toNat<=3:=by lia
  refine ⟨_,rfl,_,rfl,by lia,by lia,Zc6 (n:=(1+d).toNat) (Nat.le_of_lt (ZH (by lia))) (fun i ys H'=>Ze H1 H'/\Zs H' ys ((List.range i).map fun (j:Nat)=>(("born", 2*(j:Int)):Str×Int))) ⟨Ze.refl _,.nil⟩
   (fun i ys H' p=>by rw [p.2.len];simp) (fun i ys H' hi p=>?_) (fun ys H2 p l hl=>?_)⟩
  ·refine lcG ?_
   refine ⟨_,rfl,_,_,rfl,rfl,.inl ⟨by decide,by decide⟩,(by show 2<=sizeLine;decide),fun t ht=>⟨p.1.step ht,?_⟩⟩
   rw [List.range_succ,List.map_append]
   have e:(2*(0+(i:Int)))=2*(i:Int):=by lia
   refine Zs.snoc (p.2.same (Ze.laid ht)) ?_
   rw [<- e]
   exact Zb
  ·
   obtain ⟨sm,hL0⟩:=p
   obtain ⟨g0,r0,hg0,hb0⟩:=id bg1
   have hb2:H2 b=some (.lst [.int g0,.int r0]):=sm b _ hb0
   have hlb:l≠b:=(Zf hb2 hl).symm
   have bg2:Bag (upd H2 l (.lst ys)) b:=⟨g0,r0,hg0,by rw [Zj (Ne.symm hlb)];exact hb2⟩
   have hlH:H l=none:=f1.free bg1 (sm.free hl)
   have fr2:JJ b H (upd H2 l (.lst ys)):=(f1.trans sm.frm).new hl
   have hL2:Zs (upd H2 l (.lst ys)) ys ((List.range (1+d).toNat).map fun (j:Nat)=>(("born", 2*(j:Int)):Str×Int)):=hL0.same (Ze.laid hl)
   refine ⟨_,rfl,_,rfl,_,_,rfl,rfl,b,_,rfl,bg2,by lia,by lia,fun d2 H3 he0 he1 bg3 f3=>?_⟩
   refine ⟨_,rfl,by lia,by lia,Jr (n:=d2.toNat) (fun i σ H'=>∃(xs:List V) (ls:List (Str×Int)) (tv kv:Option V),σ = [some (.ref b),some (.int n),some (.int (1+d)),some (.ref l),tv,kv]/\Bag H' b/\JJ b H H'/\H' l=some (.lst xs)/\Zs H' xs ls/\Gd ls (2*((1+d).toNat:Int)) (1+d).toNat i/\ls.length<=3+i)
    ⟨ys,_,none,none,rfl,bg3,fr2.trans f3,f3 l _ Zb hlb,hL2.frm f3 bg2,ZdY _ (by lia),by rw [List.length_map,List.length_range];lia⟩ ?_ ?_⟩
   ·rintro i σ H4 hi ⟨xs,ls,tv,kv,rfl,bg4,fr4,hl4,hL4,hW,hlen⟩
    have hxl:xs.length<sizeLine:=by
     rw [hL4.len]
     exact ZH (by lia)
    refine ⟨_,rfl,_,rfl,_,_,rfl,rfl,.inl ⟨by decide,by decide⟩,_,_,rfl,rfl,b,_,rfl,bg4,by lia,by lia,fun k1 H5 hk0 hk1 bg5 f5=>?_⟩
    have hl5:H5 l=some (.lst xs):=f5 l _ hl4 hlb
    have fr5:JJ b H H5:=fr4.trans f5
    have hL5:Zs H5 xs ls:=hL4.frm f5 bg4
    refine ⟨_,rfl,_,_,rfl,rfl,_,rfl,?_⟩
    refine YJ (fun hp=>?_) (fun hp=>?_)
    ·have hp1:1<1+d:=of_decide_eq_true hp
     refine ⟨_,rfl,b,2,rfl,bg5,by decide,by decide,fun d3 H6 _ _ bg6 f6=>⟨rfl,_,rfl,?_⟩⟩
     have hl6:H6 l=some (.lst xs):=f6 l _ hl5 hlb
     have fr6:JJ b H H6:=fr5.trans f6
     have hL6:Zs H6 xs ls:=hL5.frm f6 bg5
     refine YJ (fun hq=>?_) (fun hq=>?_)
     ·refine ⟨_,rfl,_,_,rfl,rfl,⟨by decide,by decide⟩,_,rfl,_,_,rfl,rfl,_,_,rfl,rfl,(show (0:Int)<1+d-1 by lia),_,_,rfl,rfl,.inl ⟨by decide,by decide⟩,_,_,rfl,rfl,?_⟩
      have z0:0<=k1 / 2 % (1+d-1):=Int.emod_nonneg _ (by lia)
      have z1:k1 / 2 % (1+d-1)<1+d-1:=Int.emod_lt_of_pos _ (by lia)
      refine ⟨_,rfl,.inl ⟨rfl,_,Zo.of hl6⟩,_,rfl,(by show 2<=sizeLine;decide),fun t ht=>?_⟩
      obtain ⟨a1,a2,a3,a4,a5⟩:=Ws "cross" (2*(k1 / 2 % (1+d-1))+1) fr6 bg6 hl6 hL6 hlb hlH (JJ.refl b H6) bg6 ht
      refine ⟨l,_,_,rfl,rfl,a1,hxl,?_⟩
      exact ⟨xs ++ [.ref t],_,_,_,rfl,a2,a3,a4,a5,Za9 hW (by lia) (by lia) (by lia),by rw [List.length_append,List.length_singleton];lia⟩
     ·refine ⟨_,rfl,.inl ⟨rfl,_,Zo.of hl6⟩,_,rfl,(by show 2<=sizeLine;decide),fun t ht=>?_⟩
      obtain ⟨a1,a2,a3,a4,a5⟩:=Ws "cross" k1 fr6 bg6 hl6 hL6 hlb hlH (JJ.refl b H6) bg6 ht
      refine ⟨l,_,_,rfl,rfl,a1,hxl,?_⟩
      exact ⟨xs ++ [.ref t],_,_,_,rfl,a2,a3,a4,a5,Za9 hW (by lia) (by lia) (by lia),by rw [List.length_append,List.length_singleton];lia⟩
    ·refine ⟨_,rfl,.inl ⟨rfl,_,Zo.of hl5⟩,_,rfl,(by show 2<=sizeLine;decide),fun t ht=>?_⟩
     obtain ⟨a1,a2,a3,a4,a5⟩:=Ws "cross" k1 fr5 bg5 hl5 hL5 hlb hlH (JJ.refl b H5) bg5 ht
     refine ⟨l,_,_,rfl,rfl,a1,hxl,?_⟩
     exact ⟨xs ++ [.ref t],_,_,_,rfl,a2,a3,a4,a5,Za9 hW (by lia) (by lia) (by lia),by rw [List.length_append,List.length_singleton];lia⟩
   ·rintro σ H4 ⟨xs,ls,tv,kv,rfl,bg4,fr4,hl4,hL4,hW,hlen⟩
    refine ⟨_,rfl,_,rfl,_,rfl,by lia,by lia,Zc6 (n:=(1+d).toNat) (Nat.le_of_lt (ZH (by lia))) (fun i ys H'=>Ze H4 H'/\Zs H' ys (List.replicate i ((("end" : Str),0):Str×Int))) ⟨Ze.refl _,.nil⟩
     (fun i ys H' p=>by rw [p.2.len];simp) (fun i ys H' hi p=>?_) (fun zs H5 p D hD=>?_)⟩
    ·refine lcG ?_
     refine ⟨(by show 2<=sizeLine;decide),fun t ht=>⟨p.1.step ht,?_⟩⟩
     rw [List.replicate_succ']
     exact Zs.snoc (p.2.same (Ze.laid ht)) Zb
    ·obtain ⟨sm5,hZ⟩:=p
     have hl5:H5 l=some (.lst xs):=sm5 l _ hl4
     have hZl:=hZ.len
     rw [List.length_replicate] at hZl
     have hXl:=hL4.len
     refine ⟨l,D,xs,zs,rfl,rfl,(by rw [Zj (Zf hl5 hD)];exact hl5),Zb,Nat.le_of_lt (ZH (by lia)),fun p hp=>?_⟩
     have sm6:Ze H4 (upd (upd H5 D (.lst zs)) p (.lst (xs++zs))):=(sm5.step hD).step hp
     have hpH:H p=none:=fr4.free bg4 ((sm5.step hD).free hp)
     obtain ⟨g4,r4,hg4,hb4⟩:=id bg4
     refine k p _ (ls++List.replicate (1+d).toNat ((("end" : Str),0):Str×Int)) hpH ⟨g4,r4,hg4,sm6 b _ hb4⟩ (fr4.trans sm6.frm) ⟨xs++zs,Zb,?_,?_,?_⟩ ?_ ?_ ?_
     ·exact (hL4.same sm6).append (hZ.same ((Ze.laid hD).step hp))
     ·have:=(ZeH _ (by lia) hW (1+d).toNat (Nat.le_refl _)).wk
      simpa using this
     ·rw [List.length_append,List.length_replicate]
      lia
     ·have g:=ZeH _ (by lia) hW (1+d).toNat (Nat.le_refl _)
      exact ⟨by rw [g.bo];lia,by rw [g.cr];lia,g.mx⟩
     ·rw [List.length_append,List.length_replicate]
      lia
     ·intro z
      have:=congrArg List.length z
      rw [List.length_append,List.length_replicate,List.length_nil] at this
      lia
abbrev Zam:Stmt:=top 44
theorem Zf3:Zp ["_law_bag_here", "_law_most"] ["_law_bag_here", "_law_most"] (Zi Zam):={}
theorem ZnD {f:Addr}{fd:FuncData} (F:Ym K "_law_any" "_law_any" Zam f fd) (Zt:Yi P w K mg base 1 "_law_take" ["_law_bag_here", "_law_many_here"] Zbl) (UQ:Yi P w K mg base 2 "_law_plat" ["_law_bag_here", "_law_most"] ZdS)
  (Yz:Yi P w K mg base 2 "_law_drawing" ["_law_bag_here", "_law_births", "_law_most"] (Zez 0)):ZX P w K mg base J4 3 f fd ["_law_bag_here", "_law_most"] ZdS:=by
 refine F.ok Zf3 (fun vs H Q E h=>?_) (fun cdv A outer s H vs Q E hr h=>?_)
 ·obtain ⟨b,n,rfl,_⟩:=h
  rfl
 ·obtain ⟨b,n,rfl,hbag,n1,n2,k⟩:=h
  refine ⟨_,(Zd (YK (Zu Uj (Zk Zt hr (Za (pv 0) (Za Zg Zc))) Zg (ZD _)) (Zh (Zr (Zk UQ hr (Za (pv 0) (Za (pv 1) Zc))))) Ya)
   (Zh (Zr (Zk Yz hr (Za (pv 0) (Za Zg (Za (pv 1) Zc))))))),?_⟩
  refine ⟨_,rfl,b,3,rfl,hbag,by decide,by decide,fun d H1 _ _ bg1 f1=>⟨rfl,_,rfl,?_⟩⟩
  refine YJ (fun _=>?_) (fun _=>?_)
  ·exact ⟨_,rfl,_,rfl,b,n,rfl,bg1,n1,n2,fun l H2 ls hl bg2 f2 dr ib ll ne=>k l H2 ls (f1.free bg1 hl) bg2 (f1.trans f2) dr ib ll ne⟩
  ·exact ⟨_,rfl,_,rfl,b,4,n,rfl,bg1,by decide,by decide,n1,by lia,fun l H2 ls hl bg2 f2 dr ib ll ne=>k l H2 ls (f1.free bg1 hl) bg2 (f1.trans f2) dr ib ll ne⟩
abbrev ZbB:Stmt:=top 8
theorem Jn:Zp ["drawing", "rows", "born", "kind", "k", "row"] ["drawing"] (Zi ZbB):={}
theorem Zgf {f:Addr}{fd:FuncData} (F:Ym K "threads" "threads" ZbB f fd) (ZbD:mg "list" = none):ZX P w K mg base J4 1 f fd ["drawing"] Zd1:=by
 refine F.ok Jn (fun vs H Q E h=>?_) (fun cdv A outer s H vs Q E hr h=>?_)
 ·obtain ⟨l,xs,ls,rfl,_⟩:=h
  rfl
 ·obtain ⟨l,xs,ls,rfl,hl,hL,hlen,hW,k⟩:=h
  refine ⟨_,(Zd (Zq (i:=1) Jn.nd rfl (Or.inl rfl) (Z6 (Za (Z6 Zc) Zc)))
   (Zd (Zq (i:=2) Jn.nd rfl (Or.inl rfl) Zg)
   (Zd (Z5 PassesOwn.never rfl (ZC (K:=K) rfl (pv 0)) (Yx (K:=K) (n:=2) rfl rfl (Zx (Zm (i:=3) Jn.nd rfl (Or.inl rfl)) (Zx (Zm (i:=4) Jn.nd rfl (Or.inl rfl)) Yy))) (Zd (Zq (i:=5) Jn.nd rfl (Or.inl rfl) (Zbu (Zc4 (K:=K) rfl) (by rfl) ZbD boot_list (Za (Zz (Zl (K:=K) rfl) (pv 1) (ZaH GK Zg) (fun _ _=>rfl)) Zc)))
   (Zd (YK (Zu Uj (pv 3) YH (ZD _)) (Zd (Yv (Z6 (Za (pv 2) (Za (Zn ZF (pv 2) Zg) Zc))) (ZjA (pv 5) (Z9 (pv 4)) (Z9 (pv 4))))
   (Zh (Zj6 (i:=2) Jn.nd rfl (Or.inl rfl) Zg Zks))) (Zh (YK (Zu Uj (pv 3) YH (ZD _)) (Zh (Yv (JP (Za (Zz (Zl (K:=K) rfl) (pv 5) (Zn ZF (pv 4) Zg) (fun _ _=>rfl)) (Za (Zz (Zl (K:=K) rfl) (pv 5) (pv 4) (fun _ _=>rfl)) Zc))) (Yx (K:=K) (n:=2) rfl rfl (Zx (YO (pv 5) (pv 4) set_list) (Zx (YO (pv 5) (Zn ZF (pv 4) Zg) set_list) Yy))))) (Zh (ZkI (pv 5) (Z9 (pv 4)) (Z9 (Zn ZF (pv 4) Zg)))))))
   (Zh (Ye (YF (K:=K) rfl (JB PySem.F.plainAttrs_list PySem.F.slot_list_append PySem.F.type_list_append Z4 (pv 1) (Za (pv 5) Zc))))))))
   (Zh (Zr (pv 1)))))),?_⟩
  have hxl:=hL.len
  refine ⟨(by show 0<=sizeLine;decide),fun e0 he0=>⟨(by show 1<=sizeLine;decide),fun R hR=>?_⟩⟩
  have hRH:H R=none:=(Ze.laid he0).free hR
  have hRe:e0≠R:=Zf (Zb (H:=H) (a:=e0) (o:=.lst [])) hR
  have sm0:Ze H (upd (upd H e0 (.lst [])) R (.lst [.ref e0])):=(Ze.laid he0).step hR
  refine ⟨_,rfl,l,rfl,⟨_,Zo.of (sm0 l _ hl)⟩,Yd (K:=K) (a:=l) (xs:=xs) (fun i σ H'=>∃(ys:List V) (v3 v4 v5:Option V),σ = [some (.ref l),some (.ref R),some (.int (rb (ls.take i)).2),v3,v4,v5]/\Ze H H'/\H' R=some (.lst ys)/\ZV H' ys (rowsOf ls (i+1))/\(∀t,V.ref t∈ys->H t=none/\t≠R)/\ys.Nodup)
   ⟨[.ref e0],none,none,none,rfl,sm0,Zb,?_,?_,by simp⟩ (fun i σ H' _ ⟨_,_,_,_,_,sm,_⟩=>Zo.of (sm l _ hl)) ?_ ?_⟩
  ·refine Paired.cons ⟨e0,rfl,?_⟩ .nil
   rw [Zj hRe,Zb]
   rfl
  ·intro t ht
   have:t=e0:=V.ref.inj (List.mem_singleton.mp ht)
   subst this
   exact ⟨he0,hRe⟩
  ·rintro i x σ H' hx ⟨ys,v3,v4,v5,rfl,sm,hR',rv,ap,nd⟩
   obtain ⟨⟨qx,qk⟩,tl,hq,rfl,htl⟩:=hL.get hx
   have htl':=sm tl _ htl
   have hi:i<ls.length:=(List.getElem?_eq_some_iff.mp hq).1
   obtain ⟨ztk,cases3⟩:=ZfL hW hq
   have rv':=rv
   rw [WV] at rv'
   obtain ⟨ys0,t,rfl,ht⟩:=rv'.last
   have hyl:(ys0 ++ [V.ref t]).length<sizeLine:=by
    rw [rv.len]
    unfold rowsOf
    rw [List.length_map,List.length_range]
    exact ZH (by lia)
   have rl:((rb (ls.take i)).1.map V.int).length=(rb (ls.take i)).1.length:=List.length_map _
   obtain ⟨m,hm⟩:=YS hW i
   have r8:(rb (ls.take i)).1.length<=900:=by
    have z1:=YQ hm
    have z2:=ZhD hm
    rw [List.length_take] at z2
    lia
   refine ⟨tl,_,rfl,WT.of htl',rfl,_,_,rfl,_,_,rfl,rfl,?_⟩
   refine ⟨_,rfl,1,rfl,R,_,_,_,rfl,rfl,Zo.of hR',ZaX _ _,t,_,rfl,.inl (Zo.of ht),fun w hw=>?_⟩
   have hwR:w≠R:=(Zf hR' hw).symm
   refine ⟨_,rfl,rfl,_,rfl,?_⟩
   rcases cases3 with ⟨e,b0,b1⟩ | ⟨e,b0,b1⟩ | ⟨e,b0,b1⟩
   ·have e:qx = "born" := e
    subst e
    refine YJ (fun _=>?_) (fun hn=>absurd (by simp) hn)
    refine ⟨_,rfl,_,rfl,_,_,rfl,rfl,(by show 2<=sizeLine;decide),fun nl hnl=>?_⟩
    have hwn:w≠nl:=Zf (Zb (H:=H') (a:=w)) hnl
    refine ⟨_,rfl,_,rfl,_,rfl,_,rfl,_,rfl,w,nl,_,_,qk,qk,rfl,rfl,rfl,rfl,(by rw [Zj hwn];exact Zb),Zb,hwn,b0,Int.le_refl _,(by rw [rl];exact b1),(by rw [rl];exact Nat.le_of_lt (ZH (by show _+2<=1000;lia))),?_⟩
    refine ⟨_,rfl,_,_,rfl,rfl,?_⟩
    have hR2:(upd (upd (upd H' w (.lst ((rb (ls.take i)).1.map V.int))) nl (.lst [.int (rb (ls.take i)).2,.int ((rb (ls.take i)).2+1)])) w (.lst (((rb (ls.take i)).1.map V.int).take qk.toNat ++ [.int (rb (ls.take i)).2,.int ((rb (ls.take i)).2+1)]++((rb (ls.take i)).1.map V.int).drop qk.toNat))) R=some (.lst (ys0 ++ [.ref t])):=by
     rw [Zj (Ne.symm hwR)]
     exact (Ze.laid hnl) R _ ((Ze.laid hw) R _ hR')
    refine ⟨_,rfl,.inl ⟨rfl,_,Zo.of hR2⟩,_,rfl,R,_,_,rfl,rfl,hR2,hyl,?_⟩
    obtain ⟨z1,z2,z3,z4⟩:=ZbC (G:=upd (upd (upd (upd H' w (.lst ((rb (ls.take i)).1.map V.int))) nl (.lst [.int (rb (ls.take i)).2,.int ((rb (ls.take i)).2+1)])) w (.lst (((rb (ls.take i)).1.map V.int).take qk.toNat ++ [.int (rb (ls.take i)).2,.int ((rb (ls.take i)).2+1)]++((rb (ls.take i)).1.map V.int).drop qk.toNat))) R (.lst ((ys0 ++ [.ref t]) ++ [.ref w]))) hRH sm rv ap nd hw hwR (fun c o e n=>by
      rw [Zj n,Zj (Zf e hw)]
      exact (Ze.laid hnl) c _ ((Ze.laid hw) c _ e)) (by
      rw [Zj hwR,Zb,ztk,ZA,Yj]
      simp [List.map_append,List.map_take,List.map_drop])
    refine ⟨ys0 ++ [.ref t] ++ [.ref w],some (.str "born"),some (.int qk),some (.ref w),?_,z1,Zb,z2,z3,z4⟩
    rw [ztk,ZA,Yj]
    rfl
   ·have e:qx = "cross" := e
    subst e
    refine YJ (fun hn=>absurd (V.str.inj (of_decide_eq_true hn)) nb1) (fun _=>?_)
    refine ⟨_,rfl,rfl,_,rfl,?_⟩
    refine YJ (fun _=>?_) (fun hn=>absurd (by simp) hn)
    obtain ⟨kk,rfl⟩:=Int.eq_ofNat_of_zero_le b0
    have k1:kk+1<(rb (ls.take i)).1.length:=by have b1:(kk:Int)+1<_:=b1;lia
    have ec:((kk:Int)+1)=((kk+1:Nat):Int):=by lia
    have a1:atI ((rb (ls.take i)).1.map V.int) ((kk:Int)+1)=some (V.int ((rb (ls.take i)).1.getD (kk+1) 0)):=by rw [ec];exact Zv (map_getD _ k1)
    have a0:atI ((rb (ls.take i)).1.map V.int) (kk:Int)=some (V.int ((rb (ls.take i)).1.getD kk 0)):=Zv (map_getD _ (by lia))
    refine ⟨_,rfl,_,rfl,_,_,rfl,rfl,w,_,_,_,rfl,rfl,Zo.of Zb,a1,_,rfl,_,rfl,w,_,_,_,rfl,rfl,Zo.of Zb,a0,(by show 2<=sizeLine;decide),fun tt htt=>?_⟩
    have hwt:w≠tt:=Zf (Zb (H:=H') (a:=w)) htt
    refine ⟨tt,_,rfl,WT.of Zb,rfl,_,_,rfl,_,rfl,_,rfl,w,_,_,kk,rfl,rfl,(by rw [Zj hwt];exact Zb),(by rw [rl];exact JU (by lia)),?_⟩
    refine ⟨_,_,rfl,_,rfl,_,rfl,_,_,rfl,rfl,w,_,_,kk+1,rfl,rfl,Zb,(by rw [List.length_set,rl,ec];exact JU k1),rfl,?_⟩
    rw [Zhf,Zlj]
    have hR2:(upd (upd (upd H' w (.lst ((rb (ls.take i)).1.map V.int))) tt (.tup [.int ((rb (ls.take i)).1.getD (kk+1) 0),.int ((rb (ls.take i)).1.getD kk 0)])) w (.lst ((swp (rb (ls.take i)).1 kk).map V.int))) R=some (.lst (ys0 ++ [.ref t])):=by
     rw [Zj (Ne.symm hwR)]
     exact (Ze.laid htt) R _ ((Ze.laid hw) R _ hR')
    refine ⟨_,rfl,.inl ⟨rfl,_,Zo.of hR2⟩,_,rfl,R,_,_,rfl,rfl,hR2,hyl,?_⟩
    obtain ⟨z1,z2,z3,z4⟩:=ZbC (G:=upd (upd (upd (upd H' w (.lst ((rb (ls.take i)).1.map V.int))) tt (.tup [.int ((rb (ls.take i)).1.getD (kk+1) 0),.int ((rb (ls.take i)).1.getD kk 0)])) w (.lst ((swp (rb (ls.take i)).1 kk).map V.int))) R (.lst ((ys0 ++ [.ref t]) ++ [.ref w]))) hRH sm rv ap nd hw hwR (fun c o e n=>by
      rw [Zj n,Zj (Zf e hw)]
      exact (Ze.laid htt) c _ ((Ze.laid hw) c _ e)) (by
      rw [Zj hwR,Zb,ztk,ZA,Z3]
      rfl)
    refine ⟨ys0 ++ [.ref t] ++ [.ref w],some (.str "cross"),some (.int kk),some (.ref w),?_,z1,Zb,z2,z3,z4⟩
    rw [ztk,ZA,Z3]
    rfl
   ·have e:qx = "end" := e
    subst e
    refine YJ (fun hn=>absurd (V.str.inj (of_decide_eq_true hn)) nb2) (fun _=>?_)
    refine ⟨_,rfl,rfl,_,rfl,?_⟩
    refine YJ (fun hn=>absurd (V.str.inj (of_decide_eq_true hn)) nb3) (fun _=>?_)
    have b1':qk+1<((rb (ls.take i)).1.length:Int):=b1
    refine ⟨_,rfl,_,rfl,_,rfl,_,rfl,_,_,rfl,rfl,_,rfl,w,_,qk,qk+2,rfl,rfl,rfl,Zb,b0,by lia,(by rw [rl];lia),?_⟩
    rw [Zhf]
    have hR2:(upd H' w (.lst (((rb (ls.take i)).1.map V.int).take qk.toNat++((rb (ls.take i)).1.map V.int).drop (qk+2).toNat))) R=some (.lst (ys0 ++ [.ref t])):=(Ze.laid hw) R _ hR'
    refine ⟨_,rfl,.inl ⟨rfl,_,Zo.of hR2⟩,_,rfl,R,_,_,rfl,rfl,hR2,hyl,?_⟩
    have e2:(qk+2).toNat=qk.toNat+2:=by have b0':0<=qk:=b0;lia
    obtain ⟨z1,z2,z3,z4⟩:=ZbC (G:=upd (upd H' w (.lst (((rb (ls.take i)).1.map V.int).take qk.toNat++((rb (ls.take i)).1.map V.int).drop (qk+2).toNat))) R (.lst ((ys0 ++ [.ref t]) ++ [.ref w]))) hRH sm rv ap nd hw hwR (fun c o e n=>by
      rw [Zj n]
      exact (Ze.laid hw) c _ e) (by
      rw [Zj hwR,Zb,ztk,ZA,YG,e2,List.map_append,List.map_take,List.map_drop])
    refine ⟨ys0 ++ [.ref t] ++ [.ref w],some (.str "end"),some (.int qk),some (.ref w),?_,z1,Zb,z2,z3,z4⟩
    rw [ztk,ZA,YG]
    rfl
  ·rintro σ H' ⟨ys,v3,v4,v5,rfl,sm,hR',rv,ap,nd⟩
   rw [hxl] at rv
   exact ⟨_,rfl,k R H' ys hRH sm hR' rv ap nd⟩
def WH (pr:Str->Bool):Sp:=fun vs H Q _=>∃(l:Addr) (xs:List V) (ls:List (Str×Int)),vs = [.ref l]/\H l=some (.lst xs)/\Zs H xs ls/\ls.length<=60/\(∀p∈ls,Kd p.1) /\ ∀(p:Addr) (H':Hp),H p=none->Ze H H'->H' p=some (.lst ((ZU ls pr ls.length).map V.int))->Q (.ref p) H'
def U5:Sp:=fun vs H Q _=>∃(l:Addr) (kd:Str) (xs:List V) (ls:List (Str×Int)),vs = [.ref l,.str kd]/\H l=some (.lst xs)/\Zs H xs ls/\ls.length<=60 /\ ∀(p:Addr) (H':Hp),H p=none->Ze H H'->H' p=some (.lst ((ZU ls (fun x=>decide (x=kd)) ls.length).map V.int))->Q (.ref p) H'
abbrev Wg:Stmt:=top 2
theorem Zdk:Zp ["drawing", "kind"] ["drawing", "kind"] (Zi Wg):={}
theorem ZgJ {f:Addr}{fd:FuncData} (F:Ym K "letters_of" "letters_of" Wg f fd) (ZQ:mg "enumerate" = none):ZX P w K mg base J4 1 f fd ["drawing", "kind"] U5:=by
 refine F.ok Zdk (fun vs H Q E h=>?_) (fun cdv A outer s H vs Q E hr h=>?_)
 ·obtain ⟨l,kd,xs,ls,rfl,_⟩:=h
  rfl
 ·obtain ⟨l,kd,xs,ls,rfl,hl,hL,hlen,k⟩:=h
  refine ⟨_,(Zh (Zr (Gy (Ls:=["t", "letter"]) (Fs:=["kind"]) (fi:=[1]) (ZO.of (show Yn ["drawing", "kind"] (Zi Wg) _ ["kind"] [1]=true by decide +kernel)) rfl (US (K:=K) rfl (by rfl) ZQ (Za (pv 0) Zc)) (fun cl C s3 H3 ex=>⟨(Yx (K:=K) (n:=2) rfl rfl (Zx (Zm (i:=0) (show ((["t", "letter"]:List Str)++(["kind"]:List Str)).Nodup by decide +kernel) rfl (Or.inl rfl)) (Zx (Zm (i:=1) (show ((["t", "letter"]:List Str)++(["kind"]:List Str)).Nodup by decide +kernel) rfl (Or.inl rfl)) Yy))),(Zd4 (Zu Uj (Zz (Zaz (K:=K) rfl) (pv 1) Zg (fun _ _=>rfl)) (pv 2) (ZD _))),(pv 0)⟩)))),?_⟩
  have hxl:=hL.len
  refine ⟨_,rfl,l,rfl,⟨_,Zo.of hl⟩,ZkG (xs:=xs) (Nat.le_of_lt (ZH (by lia))) (fun i ys H'=>Ze H H'/\ys=(ZU ls (fun x=>decide (x=kd)) i).map V.int) ⟨Ze.refl _,rfl⟩
   (fun i ys H' p=>by rw [p.2,List.length_map];exact Jk _ _ _) (fun i ys H' p=>Zo.of (p.1 l _ hl)) (fun i x p ys H' hx pv hp=>?_) (fun ys H' pv D hD=>?_)⟩
  ·obtain ⟨sm,rfl⟩:=pv
   obtain ⟨q,t,hq,rfl,ht⟩:=hL.get hx
   have ht':(upd H' p (.tup [.int i,.ref t])) t=some (.tup [.str q.1,.int q.2]):=by rw [Zj (Zf (sm t _ ht) hp)];exact sm t _ ht
   refine ⟨p,_,rfl,WT.of Zb,rfl,_,_,rfl,_,_,rfl,rfl,?_⟩
   refine ⟨_,rfl,t,_,_,_,rfl,rfl,WT.of ht',Zv (j:=0) rfl,_,rfl,rfl,_,rfl,?_⟩
   refine YJ (fun hc=>?_) (fun hc=>?_)
   ·have e:q.1=kd:=V.str.inj (of_decide_eq_true hc)
    exact ⟨_,rfl,sm.step hp,Zfr hq (by simpa using e)⟩
   ·have e:¬q.1=kd:=fun z=>hc (decide_eq_true (congrArg V.str z))
    exact ⟨sm.step hp,Zhk hq (by simpa using e)⟩
  ·obtain ⟨sm,rfl⟩:=pv
   rw [hxl]
   exact k D _ (sm.free hD) (sm.step hD) Zb
abbrev Zby:Stmt:=top 5
theorem Zgi:Zp ["drawing"] ["drawing"] (Zi Zby):={}
theorem Zle {f:Addr}{fd:FuncData} (F:Ym K "ends_of" "ends_of" Zby f fd) (Y4:Yi P w K mg base 1 "letters_of" ["drawing", "kind"] U5):ZX P w K mg base J4 2 f fd ["drawing"] (WH fun x=>decide (x = "end")):=by
 refine F.ok Zgi (fun vs H Q E h=>?_) (fun cdv A outer s H vs Q E hr h=>?_)
 ·obtain ⟨l,xs,ls,rfl,_⟩:=h
  rfl
 ·obtain ⟨l,xs,ls,rfl,hl,hL,hlen,_,k⟩:=h
  refine ⟨_,(Zh (Zr (Zk Y4 hr (Za (pv 0) (Za YH Zc))))),?_⟩
  exact ⟨_,rfl,l,_,xs,ls,rfl,hl,hL,hlen,k⟩
abbrev GP:Stmt:=top 6
theorem Zfi:Zp ["drawing"] ["drawing"] (Zi GP):={}
theorem Zi2 {f:Addr}{fd:FuncData} (F:Ym K "names_of" "names_of" GP f fd) (ZQ:mg "enumerate" = none):ZX P w K mg base J4 1 f fd ["drawing"] (WH fun x=>!decide (x = "born")):=by
 refine F.ok Zfi (fun vs H Q E h=>?_) (fun cdv A outer s H vs Q E hr h=>?_)
 ·obtain ⟨l,xs,ls,rfl,_⟩:=h
  rfl
 ·obtain ⟨l,xs,ls,rfl,hl,hL,hlen,_,k⟩:=h
  refine ⟨_,(Zh (Zr (Gy (Ls:=["t", "letter"]) (Fs:=[]) (fi:=[]) (ZO.of (show Yn ["drawing"] (Zi GP) _ [] []=true by decide +kernel)) rfl (US (K:=K) rfl (by rfl) ZQ (Za (pv 0) Zc)) (fun cl C s3 H3 ex=>⟨(Yx (K:=K) (n:=2) rfl rfl (Zx (Zm (i:=0) (show ((["t", "letter"]:List Str)++([]:List Str)).Nodup by decide +kernel) rfl (Or.inl rfl)) (Zx (Zm (i:=1) (show ((["t", "letter"]:List Str)++([]:List Str)).Nodup by decide +kernel) rfl (Or.inl rfl)) Yy))),(Zd4 (Zu ZhS (Zz (Zaz (K:=K) rfl) (pv 1) Zg (fun _ _=>rfl)) YH (ZD _))),(pv 0)⟩)))),?_⟩
  have hxl:=hL.len
  refine ⟨_,rfl,l,rfl,⟨_,Zo.of hl⟩,ZkG (xs:=xs) (Nat.le_of_lt (ZH (by lia))) (fun i ys H'=>Ze H H'/\ys=(ZU ls (fun x=>!decide (x = "born")) i).map V.int) ⟨Ze.refl _,rfl⟩
   (fun i ys H' p=>by rw [p.2,List.length_map];exact Jk _ _ _) (fun i ys H' p=>Zo.of (p.1 l _ hl)) (fun i x p ys H' hx pv hp=>?_) (fun ys H' pv D hD=>?_)⟩
  ·obtain ⟨sm,rfl⟩:=pv
   obtain ⟨q,t,hq,rfl,ht⟩:=hL.get hx
   have ht':(upd H' p (.tup [.int i,.ref t])) t=some (.tup [.str q.1,.int q.2]):=by rw [Zj (Zf (sm t _ ht) hp)];exact sm t _ ht
   refine ⟨p,_,rfl,WT.of Zb,rfl,_,_,rfl,_,_,rfl,rfl,?_⟩
   refine ⟨_,rfl,t,_,_,_,rfl,rfl,WT.of ht',Zv (j:=0) rfl,rfl,_,rfl,?_⟩
   refine YJ (fun hc=>?_) (fun hc=>?_)
   ·have e:¬q.1 = "born" := fun z=>by
     have:(!decide (V.str q.1=V.str "born"))=true:=hc
     rw [decide_eq_true (congrArg V.str z)] at this
     cases this
    exact ⟨_,rfl,sm.step hp,Zfr hq (by simpa using e)⟩
   ·have e:q.1 = "born" := by
     by_cases z:q.1 = "born"
     ·exact z
     ·exact absurd (show (!decide (V.str q.1=V.str "born"))=true by rw [decide_eq_false (fun y=>z (V.str.inj y))];rfl) hc
    exact ⟨sm.step hp,Zhk hq (by simpa using e)⟩
  ·obtain ⟨sm,rfl⟩:=pv
   rw [hxl]
   exact k D _ (sm.free hD) (sm.step hD) Zb
def Zbp:Sp:=fun vs H Q _=>∃(l:Addr) (xs:List V) (ls:List (Str×Int)),vs = [.ref l]/\H l=some (.lst xs)/\Zs H xs ls/\ls.length<=60/\(∀p∈ls,Kd p.1) /\ ∀(p:Addr) (H':Hp),H p=none->Ze H H'->H' p=some (.lst ((List.range (ls.length+1)).map fun (j:Nat)=>V.int (Z7 (ls.take j))))->Q (.ref p) H'
abbrev Zbm:Stmt:=top 3
theorem GL:Zp ["drawing", "counts", "kind", "k"] ["drawing"] (Zi Zbm):={}
theorem ZgP {f WX:Addr}{fd:FuncData} (F:Ym K "strands" "strands" Zbm f fd) (Zes:mg "GAINS" = some (.ref WX)) (gd:Zhe K WX [("born", 2),("cross", 0),("end", -2)]):ZX P w K mg base J4 1 f fd ["drawing"] Zbp:=by
 refine F.ok GL (fun vs H Q E h=>?_) (fun cdv A outer s H vs Q E hr h=>?_)
 ·obtain ⟨l,xs,ls,rfl,_⟩:=h
  rfl
 ·obtain ⟨l,xs,ls,rfl,hl,hL,hlen,hk,k⟩:=h
  refine ⟨_,(Zd (Zq (i:=1) GL.nd rfl (Or.inl rfl) (Z6 (Za Zg Zc)))
   (Zd (Z5 PassesOwn.never rfl (ZC (K:=K) rfl (pv 0)) (Yx (K:=K) (n:=2) rfl rfl (Zx (Zm (i:=2) GL.nd rfl (Or.inl rfl)) (Zx (Zm (i:=3) GL.nd rfl (Or.inl rfl)) Yy))) (Zh (Ye (YF (K:=K) rfl (JB PySem.F.plainAttrs_list PySem.F.slot_list_append PySem.F.type_list_append Z4 (pv 1) (Za (Zn ZF (Zz (Zl (K:=K) rfl) (pv 1) (ZaH GK Zg) (fun _ _=>rfl)) (Zz (Ziq (K:=K) rfl) (Zhl (v:=.ref WX) (by rfl) Zes rfl) (pv 2) (fun _ _=>rfl))) Zc))))))
   (Zh (Zr (pv 1))))),?_⟩
  have hxl:=hL.len
  refine ⟨(by show 1<=sizeLine;decide),fun c hc=>?_⟩
  have hlc:l≠c:=Zf hl hc
  refine ⟨_,rfl,l,rfl,⟨_,Zo.of (by rw [Zj hlc];exact hl)⟩,Yd (K:=K) (a:=l) (xs:=xs) (fun i σ H'=>∃(v1 v2:Option V),σ = [some (.ref l),some (.ref c),v1,v2]/\Ze H H'/\H' c=some (.lst ((List.range i).map (fun (j:Nat)=>V.int (Z7 (ls.take j))) ++ [V.int (Z7 (ls.take i))])))
   ⟨none,none,rfl,Ze.laid hc,Zb⟩ (fun i σ H' _ ⟨_,_,_,sm,_⟩=>Zo.of (sm l _ hl)) ?_ ?_⟩
  ·rintro i x σ H' hx ⟨v1,v2,rfl,sm,hcl⟩
   obtain ⟨q,t,hq,rfl,ht⟩:=hL.get hx
   have hi:i<ls.length:=(List.getElem?_eq_some_iff.mp hq).1
   have ht':=sm t _ ht
   have kd:=hk q (List.mem_of_getElem? hq)
   refine ⟨t,_,rfl,WT.of ht',rfl,_,_,rfl,_,_,rfl,rfl,?_⟩
   refine ⟨_,rfl,.inl ⟨rfl,_,Zo.of hcl⟩,_,rfl,1,rfl,c,_,_,_,rfl,rfl,Zo.of hcl,ZaX _ _,_,rfl,WX,_,_,_,rfl,rfl,gd,Ziu kd,_,_,rfl,rfl,c,_,_,rfl,rfl,hcl,?_,?_⟩
   ·rw [List.length_append,List.length_map,List.length_range,List.length_singleton]
    exact ZH (by lia)
   ·refine ⟨_,_,rfl,sm.put hc,?_⟩
    rw [Zb,List.range_succ,List.map_append]
    have e:ls.take (i+1)=ls.take i ++ [q]:=by rw [List.take_add_one,hq];rfl
    rw [e,UW]
    rfl
  ·rintro σ H' ⟨v1,v2,rfl,sm,hcl⟩
   refine ⟨_,rfl,k c H' hc sm ?_⟩
   rw [hcl,<- hxl,List.range_succ,List.map_append]
   rfl
theorem ZhH {H:Hp}:∀{xs:List V}{ls:List (Str×Int)}{i:Nat}{q:Str×Int},Zs H xs ls->ls[i]? = some q -> ∃t,xs[i]? = some (.ref t)/\H t=some (.tup [.str q.1,.int q.2])
 | _,_,_,_,.nil,e=>by simp at e
 | _,_,0,_,.cons ⟨t,e1,q⟩ _,e=>by simp at e;subst e;exact ⟨t,by simp [e1],q⟩
 | _,_,i+1,q,.cons _ r,e=>by
  obtain ⟨t,h1,h2⟩:=ZhH (i:=i) (q:=q) r (by simpa using e)
  exact ⟨t,by simpa using h1,h2⟩
def Zca:Sp:=fun vs H Q _=>∃(l n:Addr) (xs:List V) (ls:List (Str×Int)) (ns:List Int),vs = [.ref l,.ref n]/\H l=some (.lst xs)/\Zs H xs ls/\ls.length<=60/\Wk ls 0/\H n=some (.lst (ns.map V.int))/\ns.length<=60/\(∀t∈ns,0<=t /\ ∃q,ls[t.toNat]? = some q/\q.1 ≠ "born") /\
 ∀(p:Addr) (H':Hp) (ys:List V),H p=none->Ze H H'->H' p=some (.lst ys)->Jd H' ys (ns.map fun t=>JK ls t.toNat)->Q (.ref p) H'
abbrev Gi:Stmt:=top 9
theorem YW:Zp ["drawing", "numbers", "rows", "found", "t", "k"] ["drawing", "numbers"] (Zi Gi):={}
theorem ZjP {f:Addr}{fd:FuncData} (F:Ym K "pairs_ahead" "pairs_ahead" Gi f fd) (Jt:Yi P w K mg base 1 "threads" ["drawing"] Zd1):ZX P w K mg base J4 2 f fd ["drawing", "numbers"] Zca:=by
 refine F.ok YW (fun vs H Q E h=>?_) (fun cdv A outer s H vs Q E hr h=>?_)
 ·obtain ⟨l,n,xs,ls,ns,rfl,_⟩:=h
  rfl
 ·obtain ⟨l,n,xs,ls,ns,rfl,hl,hL,hlen,hW,hn,hnl,hns,k⟩:=h
  refine ⟨_,(Zd (Zq (i:=2) YW.nd rfl (Or.inl rfl) (Zk Jt hr (Za (pv 0) Zc)))
   (Zd (Zq (i:=3) YW.nd rfl (Or.inl rfl) (Z6 Zc))
   (Zd (Z5 PassesOwn.never rfl (ZC (K:=K) rfl (pv 1)) (Zm (i:=4) YW.nd rfl (Or.inl rfl)) (Zd (Zq (i:=5) YW.nd rfl (Or.inl rfl) (Zz (Zaz (K:=K) rfl) (Zz (Zl (K:=K) rfl) (pv 0) (pv 4) (fun _ _=>rfl)) Zg (fun _ _=>rfl)))
   (Zh (Ye (YF (K:=K) rfl (JB PySem.F.plainAttrs_list PySem.F.slot_list_append PySem.F.type_list_append Z4 (pv 3) (Za (JP (Za (Zz (Zl (K:=K) rfl) (Zz (Zl (K:=K) rfl) (pv 2) (pv 4) (fun _ _=>rfl)) (pv 5) (fun _ _=>rfl)) (Za (Zz (Zl (K:=K) rfl) (Zz (Zl (K:=K) rfl) (pv 2) (pv 4) (fun _ _=>rfl)) (Zn ZF (pv 5) Zg) (fun _ _=>rfl)) Zc))) Zc)))))))
   (Zh (Zr (pv 3)))))),?_⟩
  refine ⟨_,rfl,l,xs,ls,rfl,hl,hL,hlen,hW,fun R H1 ys fR s1 eR rv ap nd=>?_⟩
  refine ⟨(by show 0<=sizeLine;decide),fun fA hfA=>?_⟩
  have hl1:=s1 l _ hl
  have hL1:=hL.same s1
  have hn1:=s1 n _ hn
  refine ⟨_,rfl,n,rfl,⟨_,Zo.of ((Ze.laid hfA) n _ hn1)⟩,Yd (K:=K) (a:=n) (xs:=ns.map V.int) (fun i σ H'=>∃(zs:List V) (v4 v5:Option V),σ = [some (.ref l),some (.ref n),some (.ref R),some (.ref fA),v4,v5]/\Ze H1 H'/\H' fA=some (.lst zs)/\Jd H' zs ((ns.take i).map fun t=>JK ls t.toNat))
   ⟨[],none,none,rfl,Ze.laid hfA,Zb,.nil⟩ (fun i σ H' _ ⟨_,_,_,_,sm,_⟩=>Zo.of (sm n _ hn1)) ?_ ?_⟩
  ·rintro i x σ H' hx ⟨zs,v4,v5,rfl,sm,hf,pv⟩
   obtain ⟨t,ht,rfl⟩:=Yc hx
   obtain ⟨t0,⟨qx,qk⟩,hq,hb⟩:=hns t (List.mem_of_getElem? ht)
   obtain ⟨tn,rfl⟩:=Int.eq_ofNat_of_zero_le t0
   rw [Int.toNat_natCast] at hq
   have htl:tn<ls.length:=(List.getElem?_eq_some_iff.mp hq).1
   obtain ⟨k0,k1,pe⟩:=ZbH hW hq hb
   obtain ⟨kn,rfl⟩:=Int.eq_ofNat_of_zero_le (show 0<=qk from k0)
   simp only [Int.toNat_natCast] at k1 pe
   obtain ⟨ta,hxt,hta⟩:=ZhH hL1 hq
   obtain ⟨ra,hra,hrr⟩:=rv.at (ZdR ls (i:=tn) (n:=ls.length+1) (by lia))
   have e1:((kn:Int)+1)=((kn+1:Nat):Int):=by lia
   refine ⟨_,rfl,_,rfl,l,_,_,_,rfl,rfl,Zo.of (sm l _ hl1),Zv hxt,ta,_,_,_,rfl,rfl,WT.of (sm ta _ hta),Zv (j:=1) rfl,?_⟩
   refine ⟨_,rfl,.inl ⟨rfl,_,Zo.of hf⟩,_,rfl,_,rfl,R,_,_,_,rfl,rfl,Zo.of (sm R _ eR),Zv hra,_,rfl,ra,_,_,_,rfl,rfl,Zo.of (sm ra _ hrr),Zv (map_getD _ (by lia)),?_⟩
   refine ⟨_,rfl,_,rfl,R,_,_,_,rfl,rfl,Zo.of (sm R _ eR),Zv hra,_,rfl,_,_,rfl,rfl,ra,_,_,_,rfl,rfl,Zo.of (sm ra _ hrr),(by rw [e1];exact Zv (map_getD _ k1)),(by show 2<=sizeLine;decide),fun tt htt=>?_⟩
   have hft:fA≠tt:=Zf hf htt
   have zl:zs.length<sizeLine:=by
    rw [pv.len,List.length_map,List.length_take]
    exact ZH (by lia)
   refine ⟨fA,_,_,rfl,rfl,(by rw [Zj hft];exact hf),zl,?_⟩
   refine ⟨zs ++ [.ref tt],some (.int tn),some (.int kn),rfl,(sm.step htt).put hfA,Zb,?_⟩
   rw [Yu _ ht]
   refine Jd.snoc (pv.mono fun a p e=>?_) ?_
   ·rw [Zj (ZfD e hf (by intro z;cases z)),Zj (Zf e htt)]
    exact e
   ·rw [Zj (Ne.symm hft),Zb,Int.toNat_natCast,pe]
  ·rintro σ H' ⟨zs,v4,v5,rfl,sm,hf,pv⟩
   refine ⟨_,rfl,k fA H' zs (s1.free hfA) (s1.trans sm) hf ?_⟩
   rw [List.length_map,List.take_of_length_le (Nat.le_refl _)] at pv
   exact pv
def ZeP:Sp:=fun vs H Q _=>∃(l:Addr) (xs:List V) (ls:List (Str×Int)),vs = [.ref l]/\H l=some (.lst xs)/\Zs H xs ls/\ls.length<=60/\Wk ls 0 /\
 ∀(p:Addr) (H':Hp) (ys:List V),H p=none->Ze H H'->H' p=some (.lst ys)->Jd H' ys (YI ls)->Q (.ref p) H'
abbrev Uy:Stmt:=top 10
theorem Ze0:Zp ["drawing"] ["drawing"] (Zi Uy):={}
theorem Zeh {f:Addr}{fd:FuncData} (F:Ym K "end_pairs" "end_pairs" Uy f fd) (YM:Yi P w K mg base 2 "pairs_ahead" ["drawing", "numbers"] Zca) (Z0:Yi P w K mg base 2 "ends_of" ["drawing"] (WH fun x=>decide (x = "end"))):ZX P w K mg base J4 3 f fd ["drawing"] ZeP:=by
 refine F.ok Ze0 (fun vs H Q E h=>?_) (fun cdv A outer s H vs Q E hr h=>?_)
 ·obtain ⟨l,xs,ls,rfl,_⟩:=h
  rfl
 ·obtain ⟨l,xs,ls,rfl,hl,hL,hlen,hW,k⟩:=h
  refine ⟨_,(Zh (Zr (Zk YM hr (Za (pv 0) (Za (Zk Z0 hr (Za (pv 0) Zc)) Zc))))),?_⟩
  refine ⟨_,rfl,_,rfl,l,xs,ls,rfl,hl,hL,hlen,hW.kd,fun n H1 hn s1 e1=>?_⟩
  refine ⟨l,n,xs,ls,ZU ls isE ls.length,rfl,s1 l _ hl,hL.same s1,hlen,hW,e1,Nat.le_trans (Jk _ _ _) hlen,fun t ht=>?_,fun p H2 ys hp s2 e2 pv=>k p H2 ys (s1.free hp) (s1.trans s2) e2 pv⟩
  obtain ⟨a,_,q,hq,z⟩:=ZcG ht
  refine ⟨a,q,hq,fun z2=>?_⟩
  have z:q.1 = "end" := of_decide_eq_true z
  rw [z2] at z
  exact nb2 z.symm
def Zlr:Sp:=fun vs H Q _=>∃x:Int,vs = [.int x]/\0<=x/\Q (.int (bw x)) H
abbrev Up:Stmt:=top 11
theorem ZeF:Zp ["thread"] ["thread"] (Zi Up):={}
theorem ZoB {f:Addr}{fd:FuncData} (F:Ym K "born_with" "born_with" Up f fd):ZX P w K mg base J4 1 f fd ["thread"] Zlr:=by
 refine F.ok ZeF (fun vs H Q E h=>?_) (fun cdv A outer s H vs Q E hr h=>?_)
 ·obtain ⟨x,rfl,_⟩:=h
  rfl
 ·obtain ⟨x,rfl,h0,k⟩:=h
  refine ⟨_,(Zh (Zr (Zn Zm6 (pv 0) Zg))),?_⟩
  refine ⟨_,rfl,_,_,rfl,rfl,?_⟩
  show Q (.int (Builtin.bitXor x 1)) H
  rw [ZmO h0]
  exact k
def tab {α:Type} (N:Nat) (g:Int -> α):List α:=(List.range N).map fun (x:Nat)=>g (x:Int)
theorem YU {α:Type} (N:Nat) (g:Int -> α):(tab N g).length=N:=by simp [tab]
theorem ZeU {α:Type}{N:Nat} (g:Int -> α) {j:Nat} (h:j<N):(tab N g)[j]? = some (g (j:Int)):=by
 unfold tab
 rw [List.getElem?_map]
 simp [h]
theorem ZY {α:Type}{N:Nat}{g g':Int -> α} (h:∀x:Int,0<=x->x<(N:Int)->g x=g' x):tab N g=tab N g':=by
 unfold tab
 refine List.map_congr_left fun x hx=>?_
 have:=List.mem_range.mp hx
 exact h x (by lia) (by lia)
theorem UY {α:Type}{N:Nat} (g:Int -> α) (j:Nat) (v:α):(tab N g).set j v=tab N (fun x=>if x=(j:Int) then v else g x):=by
 apply List.ext_getElem?
 intro i
 rw [List.getElem?_set,YU]
 by_cases hi:i<N
 ·rw [ZeU _ hi,ZeU _ hi]
  by_cases e:j=i
  ·subst e;simp [hi]
  ·rw [if_neg e,if_neg (by lia)]
 ·rw [show (tab N g)[i]? = none from List.getElem?_eq_none_iff.mpr (by rw [YU];lia),show (tab N (fun x=>if x=(j:Int) then v else g x))[i]? = none from List.getElem?_eq_none_iff.mpr (by rw [YU];lia)]
  by_cases e:j=i
  ·subst e;rw [if_pos rfl,if_neg hi]
  ·rw [if_neg e]
theorem Zhi {α β:Type} (N:Nat) (g:Int -> α) (f:α -> β):(tab N g).map f=tab N (fun x=>f (g x)):=by
 unfold tab
 rw [List.map_map]
 rfl
theorem Zbb {α:Type} (N:Nat) (v:α):(List.replicate N [v]).flatten=tab N (fun _=>v):=by
 unfold tab
 induction N with
 | zero=>rfl
 | succ n ih=>rw [List.replicate_succ',List.flatten_append,ih,List.range_succ,List.map_append];simp
theorem Zfm:∀{ps:List (Int×Int)}{u l x:Int},u∉ZR ps->l∉ZR ps->u≠l->mOf (ps ++ [(u,l)]) x=if x=l then u else if x=u then l else mOf ps x
 | [],u,l,x,_,_,ne=>by
  simp only [List.nil_append,mOf]
  by_cases h1:x=u
  ·subst h1;simp [ne]
  ·simp [h1]
 | p::r,u,l,x,hu,hl,ne=>by
  have e:ZR (p::r)=p.1::p.2::ZR r:=by simp [ZR]
  rw [e] at hu hl
  simp only [List.mem_cons,not_or] at hu hl
  have ih:=Zfm (x:=x) hu.2.2 hl.2.2 ne
  simp only [List.cons_append,mOf,ih]
  by_cases h1:x=p.1
  ·subst h1;simp [Ne.symm hu.1,Ne.symm hl.1]
  ·by_cases h2:x=p.2
   ·subst h2;simp [h1,Ne.symm hu.2.1,Ne.symm hl.2.1]
   ·simp [h1,h2]
theorem ZgW {ps:List (Int×Int)}{i:Nat}{p:Int×Int} (h:ps[i]? = some p):ZR (ps.take (i+1))=ZR (ps.take i) ++ [p.1,p.2]:=by
 rw [List.take_add_one,h,GG]
 simp [ZR]
theorem Zi8 {ps:List (Int×Int)} (nd:(ZR ps).Nodup) {i:Nat}{p:Int×Int} (h:ps[i]? = some p):p.1∉ZR (ps.take i)/\p.2∉ZR (ps.take i)/\p.1≠p.2:=by
 have e:ps=ps.take (i+1)++ps.drop (i+1):=(List.take_append_drop _ _).symm
 rw [e,GG,ZgW h] at nd
 have nd:=(List.nodup_append.mp nd).1
 obtain ⟨_,n2,n3⟩:=List.nodup_append.mp nd
 refine ⟨fun z=>n3 _ z _ (by simp) rfl,fun z=>n3 _ z _ (by simp) rfl,?_⟩
 have:=List.nodup_cons.mp n2
 simpa using this.1
theorem Zhy {ls:List (Str×Int)} (hW:Wk ls 0) {p:Int×Int} (h:p∈YI ls):(0<=p.1/\p.1<(ZZ ls:Int))/\(0<=p.2/\p.2<(ZZ ls:Int)):=
 ⟨WG.mp ((Uq hW).mem_iff.mp (List.mem_flatMap.mpr ⟨p,h,by simp⟩)),WG.mp ((Uq hW).mem_iff.mp (List.mem_flatMap.mpr ⟨p,h,by simp⟩))⟩
theorem Jq {ls:List (Str×Int)} (hW:Wk ls 0):(ZR (YI ls)).Nodup:=(Uq hW).nodup_iff.mpr (Zc8 _)
def Zer:Sp:=fun vs H Q _=>∃(l:Addr) (xs:List V) (ls:List (Str×Int)),vs = [.ref l]/\H l=some (.lst xs)/\Zs H xs ls/\ls.length<=60/\Wk ls 0 /\
 ∀(p:Addr) (H':Hp),H p=none->Ze H H'->H' p=some (.lst ((tab (ZZ ls) (mOf (YI ls))).map V.int))->Q (.ref p) H'
abbrev UI:Stmt:=top 12
theorem JG:Zp ["drawing", "pairs", "mates", "upper", "lower"] ["drawing"] (Zi UI):={}
theorem Zjd {f:Addr}{fd:FuncData} (F:Ym K "end_mates" "end_mates" UI f fd) (Js:Yi P w K mg base 3 "end_pairs" ["drawing"] ZeP) (ZL:mg "len" = none):ZX P w K mg base J4 4 f fd ["drawing"] Zer:=by
 refine F.ok JG (fun vs H Q E h=>?_) (fun cdv A outer s H vs Q E hr h=>?_)
 ·obtain ⟨l,xs,ls,rfl,_⟩:=h
  rfl
 ·obtain ⟨l,xs,ls,rfl,hl,hL,hlen,hW,k⟩:=h
  refine ⟨_,(Zd (Zq (i:=1) JG.nd rfl (Or.inl rfl) (Zk Js hr (Za (pv 0) Zc)))
   (Zd (Zq (i:=2) JG.nd rfl (Or.inl rfl) (Zn Zcw (Z6 (Za Zg Zc)) (Zn Wt Zg (Zy (ZJ (K:=K) rfl) (by rfl) ZL PySem.boot_len (Za (pv 1) Zc)))))
   (Zd (Z5 PassesOwn.never rfl (ZC (K:=K) rfl (pv 1)) (Yx (K:=K) (n:=2) rfl rfl (Zx (Zm (i:=3) JG.nd rfl (Or.inl rfl)) (Zx (Zm (i:=4) JG.nd rfl (Or.inl rfl)) Yy))) (Zd (Yv (pv 4) (YO (pv 2) (pv 3) set_list))
   (Zh (Yv (pv 3) (YO (pv 2) (pv 4) set_list)))))
   (Zh (Zr (pv 2)))))),?_⟩
  refine ⟨_,rfl,l,xs,ls,rfl,hl,hL,hlen,hW,fun pA H1 ys fp s1 ep pv=>?_⟩
  have n120:=Jv hlen
  have yl:2*ys.length=ZZ ls:=by rw [pv.len];rfl
  refine ⟨(by show 1<=sizeLine;decide),fun l0 hl0=>?_⟩
  have ep0:=(Ze.laid (o:=.lst [.int 0]) hl0) pA _ ep
  refine ⟨_,rfl,pA,_,rfl,.inl (Zo.of ep0),_,_,rfl,rfl,.inl ⟨by decide,by decide⟩,?_⟩
  have e2:((2:Int)*(ys.length:Int))=((ZZ ls:Nat):Int):=by lia
  refine ⟨l0,_,_,rfl,rfl,Zb,by lia,by lia,?_,fun mA hmA=>?_⟩
  ·rw [e2]
   show 1*_<=sizeLine
   exact Nat.le_of_lt (ZH (by lia))
  have hm1:H1 mA=none:=(Ze.laid hl0).free hmA
  have sm1:Ze H1 (upd (upd H1 l0 (.lst [.int 0])) mA (.lst (List.replicate ((2:Int)*(ys.length:Int)).toNat [V.int 0]).flatten)):=(Ze.laid hl0).step hmA
  refine ⟨_,rfl,pA,rfl,⟨_,Zo.of (sm1 pA _ ep)⟩,Yd (K:=K) (a:=pA) (xs:=ys) (fun i σ H'=>∃(v3 v4:Option V),σ = [some (.ref l),some (.ref pA),some (.ref mA),v3,v4]/\Ze H1 H'/\H' mA=some (.lst ((tab (ZZ ls) (mOf ((YI ls).take i))).map V.int)))
   ⟨none,none,rfl,sm1,?_⟩ (fun i σ H' _ ⟨_,_,_,sm,_⟩=>Zo.of (sm pA _ ep)) ?_ ?_⟩
  ·rw [Zb,e2,Int.toNat_natCast,Zbb,Zhi]
   rfl
  ·rintro i x σ H' hx ⟨v3,v4,rfl,sm,hm⟩
   obtain ⟨p,t,hp,rfl,ht⟩:=pv.get hx
   obtain ⟨u,lw⟩:=p
   obtain ⟨⟨d1,d2⟩,d3,d4⟩:=Zhy hW (List.mem_of_getElem? hp)
   obtain ⟨n1,n2,n3⟩:=Zi8 (Jq hW) hp
   obtain ⟨un,rfl⟩:=Int.eq_ofNat_of_zero_le (show 0<=u from d1)
   obtain ⟨wn,rfl⟩:=Int.eq_ofNat_of_zero_le (show 0<=lw from d3)
   have d2:(un:Int)<_:=d2
   have d4:(wn:Int)<_:=d4
   refine ⟨t,_,rfl,WT.of (sm t _ ht),rfl,_,_,rfl,_,_,rfl,rfl,?_⟩
   refine ⟨_,rfl,_,rfl,_,rfl,mA,_,_,un,rfl,rfl,hm,(by rw [List.length_map,YU];exact JU (by lia)),?_⟩
   refine ⟨_,rfl,_,rfl,_,rfl,mA,_,_,wn,rfl,rfl,Zb,(by rw [List.length_set,List.length_map,YU];exact JU (by lia)),?_⟩
   refine ⟨some (.int un),some (.int wn),rfl,(sm.put hm1).put hm1,?_⟩
   rw [Zb,<- List.map_set,<- List.map_set,UY,UY,List.take_add_one,hp]
   congr 2
   refine congrArg (List.map V.int) (ZY fun x _ _=>?_)
   rw [show (some ((un:Int),(wn:Int))).toList = [((un:Int),(wn:Int))] from rfl,Zfm n1 n2 n3]
  ·rintro σ H' ⟨v3,v4,rfl,sm,hm⟩
   refine ⟨_,rfl,k mA H' (s1.free hm1) (s1.trans sm) ?_⟩
   rw [pv.len,List.take_of_length_le (Nat.le_refl _)] at hm
   exact hm
theorem Zhc {N:Nat} (m:Int->Int) {x:Int} (h0:0<=x) (h1:x<(N:Int)):atI ((tab N m).map V.int) x=some (V.int (m x)):=by
 obtain ⟨n,rfl⟩:=Int.eq_ofNat_of_zero_le h0
 refine Zv ?_
 rw [List.getElem?_map,ZeU _ (by lia)]
 rfl
def ZgC:Sp:=fun vs H Q _=>∃(f:Int) (mA:Addr) (m:Int->Int) (N:Nat),vs = [.int f,.ref mA]/\H mA=some (.lst ((tab N m).map V.int))/\Y2 m N/\N<=200/\0<=f/\f<(N:Int) /\
 ∀(p:Addr) (H':Hp) (T:List Int),H p=none->Ze H H'->H' p=some (.lst (T.map V.int))->Yt m f T->Q (.ref p) H'
abbrev UG:Stmt:=top 13
theorem Ue:Zp ["first", "mates", "tour", "onward"] ["first", "mates"] (Zi UG):={}
theorem ZlV {f:Addr}{fd:FuncData} (F:Ym K "tour_from" "tour_from" UG f fd) (YZ:Yi P w K mg base 1 "born_with" ["thread"] Zlr):ZX P w K mg base J4 2 f fd ["first", "mates"] ZgC:=by
 refine F.ok Ue (fun vs H Q E h=>?_) (fun cdv A outer s H vs Q E hr h=>?_)
 ·obtain ⟨f,mA,m,N,rfl,_⟩:=h
  rfl
 ·obtain ⟨f,mA,m,N,rfl,hm,M,hN,h0,h1,k⟩:=h
  refine ⟨_,(Zd (Zq (i:=2) Ue.nd rfl (Or.inl rfl) (Z6 (Za (pv 0) (Za (Zz (Zl (K:=K) rfl) (pv 1) (pv 0) (fun _ _=>rfl)) Zc))))
   (Zd (Zfq PassesOwn.never (Zu ZhS (Zk YZ hr (Za (Zz (Zl (K:=K) rfl) (pv 2) (ZaH GK Zg) (fun _ _=>rfl)) Zc)) (pv 0) (ZD _)) (Zd (Zq (i:=3) Ue.nd rfl (Or.inl rfl) (Zk YZ hr (Za (Zz (Zl (K:=K) rfl) (pv 2) (ZaH GK Zg) (fun _ _=>rfl)) Zc)))
   (Zd (Ye (YF (K:=K) rfl (JB PySem.F.plainAttrs_list PySem.F.slot_list_append PySem.F.type_list_append Z4 (pv 2) (Za (pv 3) Zc))))
   (Zh (Ye (YF (K:=K) rfl (JB PySem.F.plainAttrs_list PySem.F.slot_list_append PySem.F.type_list_append Z4 (pv 2) (Za (Zz (Zl (K:=K) rfl) (pv 1) (pv 3) (fun _ _=>rfl)) Zc))))))))
   (Zh (Zr (pv 2))))),?_⟩
  have dom:=Yo M h0 h1
  have mdom:∀i,0<=m (gt m f i)/\m (gt m f i)<N:=fun i=>⟨M.lo _ (dom i).1 (dom i).2,M.hi _ (dom i).1 (dom i).2⟩
  have ol:∀i,(orb m f (i+1)).map V.int=((orb m f i).map V.int ++ [V.int (gt m f i)]) ++ [V.int (m (gt m f i))]:=fun i=>by simp [orb]
  refine ⟨_,rfl,_,rfl,_,rfl,mA,_,_,_,rfl,rfl,Zo.of hm,Zhc m h0 h1,(by show 2<=sizeLine;decide),fun tA htA=>?_⟩
  refine ⟨fun mm σ H'=>∃(i:Nat) (v3:Option V),mm+i=N /\ σ = [some (.int f),some (.ref mA),some (.ref tA),v3]/\Ze H H'/\H' tA=some (.lst ((orb m f (i+1)).map V.int))/\(∀j,1<=j->j<i+1->gt m f j≠f),
   ⟨N,0,none,rfl,rfl,Ze.laid htA,Zb,fun j a b=>by lia⟩,?_⟩
  rintro mm σ H' ⟨i,v3,hi,rfl,sm,ht,nf⟩
  have short:=Zbz M h0 h1 nf
  refine ⟨_,rfl,1,rfl,tA,_,_,V.int (m (gt m f i)),rfl,rfl,Zo.of ht,(by rw [ol];exact ZaX _ _),_,rfl,(mdom i).1,_,rfl,rfl,_,rfl,?_⟩
  refine YJ (fun hc=>?_) (fun hc=>?_)
  ·have ne:gt m f (i+1)≠f:=fun z=>by
    have hc:(!decide (V.int (bw (m (gt m f i)))=V.int f))=true:=hc
    rw [decide_eq_true (show V.int (bw (m (gt m f i)))=V.int f from congrArg V.int z)] at hc
    cases hc
   have nf':∀j,1<=j->j<i+2->gt m f j≠f:=fun j a b=>by
    by_cases e:j=i+1
    ·rw [e];exact ne
    ·exact nf j a (by lia)
   have short2:=Zbz M h0 h1 nf'
   refine ⟨fun σ' H''=>∃v3:Option V,σ' = [some (.int f),some (.ref mA),some (.ref tA),v3]/\Ze H H''/\H'' tA=some (.lst ((orb m f (i+2)).map V.int)),fun σ' H'' ⟨v,e,a,b⟩=>⟨mm-1,by lia,i+1,v,by lia,e,a,b,nf'⟩,?_⟩
   refine ⟨_,rfl,1,rfl,tA,_,_,V.int (m (gt m f i)),rfl,rfl,Zo.of ht,(by rw [ol];exact ZaX _ _),_,rfl,(mdom i).1,?_⟩
   refine ⟨_,rfl,.inl ⟨rfl,_,Zo.of ht⟩,_,rfl,tA,_,_,rfl,rfl,ht,(by rw [List.length_map,U3];exact ZH (by lia)),?_⟩
   have hma:tA≠mA:=fun z=>by rw [z,hm] at htA;cases htA
   refine ⟨_,rfl,.inl ⟨rfl,_,Zo.of Zb⟩,_,rfl,_,rfl,mA,_,_,_,rfl,rfl,Zo.of (by rw [Zj (Ne.symm hma)];exact sm mA _ hm),Zhc m (dom (i+1)).1 (dom (i+1)).2,tA,_,_,rfl,rfl,Zb,(by rw [List.length_append,List.length_map,U3];exact ZH (by show _+1<=1000;lia)),?_⟩
   refine ⟨_,rfl,(sm.put htA).put htA,?_⟩
   rw [Zb,ol (i+1)]
   rfl
  ·have e:gt m f (i+1)=f:=by
    by_cases z:gt m f (i+1)=f
    ·exact z
    ·exact absurd (show (!decide (V.int (gt m f (i+1))=V.int f))=true by rw [decide_eq_false (fun y=>z (V.int.inj y))];rfl) hc
   exact ⟨_,rfl,k tA H' (orb m f (i+1)) htA sm ht ⟨i+1,by lia,e,nf,rfl⟩⟩
def ZaB:Sp:=fun vs H Q _=>∃(l:Addr) (xs:List V) (ls:List (Str×Int)),vs = [.ref l]/\H l=some (.lst xs)/\Zs H xs ls/\ls.length<=60/\Wk ls 0 /\
 ∀(p:Addr) (H':Hp) (ys:List V) (ts:List (List Int)),H p=none->Ze H H'->H' p=some (.lst ys)->ZV H' ys ts->(∀t,V.ref t∈ys->H t=none)->WO (mOf (YI ls)) (ZZ ls) ts->Q (.ref p) H'
theorem Za6 {N:Nat} (g:Int->V) {x:Int} (h0:0<=x) (h1:x<(N:Int)):atI (tab N g) x=some (g x):=by
 obtain ⟨n,rfl⟩:=Int.eq_ofNat_of_zero_le h0
 exact Zv (ZeU _ (by lia))
abbrev ZeY:Stmt:=top 14
theorem WD:Zp ["drawing", "mates", "gone", "found", "first", "tour", "thread"] ["drawing"] (Zi ZeY):={}
theorem ZjR {f:Addr}{fd:FuncData} (F:Ym K "tours" "tours" ZeY f fd) (UM:Yi P w K mg base 4 "end_mates" ["drawing"] Zer) (UO:Yi P w K mg base 2 "tour_from" ["first", "mates"] ZgC) (ZL:mg "len" = none) (ZT:mg "range" = none):ZX P w K mg base J4 5 f fd ["drawing"] ZaB:=by
 refine F.ok WD (fun vs H Q E h=>?_) (fun cdv A outer s H vs Q E hr h=>?_)
 ·obtain ⟨l,xs,ls,rfl,_⟩:=h
  rfl
 ·obtain ⟨l,xs,ls,rfl,hl,hL,hlen,hW,k⟩:=h
  have n120:=Jv hlen
  have M:=Yh hW
  generalize hm':mOf (YI ls)=m at *
  generalize hn':ZZ ls=N at *
  refine ⟨_,(Zd (Zq (i:=1) WD.nd rfl (Or.inl rfl) (Zk UM hr (Za (pv 0) Zc)))
   (Zd (Zq (i:=2) WD.nd rfl (Or.inl rfl) (Zn Zcw (Z6 (Za J7 Zc)) (Zy (ZJ (K:=K) rfl) (by rfl) ZL PySem.boot_len (Za (pv 1) Zc))))
   (Zd (Zq (i:=3) WD.nd rfl (Or.inl rfl) (Z6 Zc))
   (Zd (Z5 PassesOwn.never rfl (YA (by rfl) ZT (Za (Zy (ZJ (K:=K) rfl) (by rfl) ZL PySem.boot_len (Za (pv 1) Zc)) Zc)) (Zm (i:=4) WD.nd rfl (Or.inl rfl)) (Zh (YK (Zev (ZcU (Zz (Zl (K:=K) rfl) (pv 2) (pv 4) (fun _ _=>rfl)))) (Zd (Zq (i:=5) WD.nd rfl (Or.inl rfl) (Zk UO hr (Za (pv 4) (Za (pv 1) Zc))))
   (Zd (Z5 PassesOwn.never rfl (ZC (K:=K) rfl (pv 5)) (Zm (i:=6) WD.nd rfl (Or.inl rfl)) (Zh (Yv J7 (YO (pv 2) (pv 6) set_list))))
   (Zh (Ye (YF (K:=K) rfl (JB PySem.F.plainAttrs_list PySem.F.slot_list_append PySem.F.type_list_append Z4 (pv 3) (Za (pv 5) Zc))))))) Ya)))
   (Zh (Zr (pv 3))))))),?_⟩
  refine ⟨_,rfl,l,xs,ls,rfl,hl,hL,hlen,hW,fun mA H1 fm s1 em=>?_⟩
  rw [hm',hn'] at em
  refine ⟨(by show 1<=sizeLine;decide),fun l0 hl0=>?_⟩
  refine ⟨_,rfl,mA,_,rfl,.inl (Zo.of ((Ze.laid hl0) mA _ em)),?_⟩
  have el:((((tab N m).map V.int).length:Nat):Int)=((N:Nat):Int):=by rw [List.length_map,YU]
  rw [el]
  refine ⟨l0,_,_,rfl,rfl,Zb,by lia,by lia,(by show 1*_<=sizeLine;exact Nat.le_of_lt (ZH (by lia))),fun gA hgA=>?_⟩
  obtain ⟨H2,hH2⟩:∃H2,H2=upd (upd H1 l0 (.lst [.bl false])) gA (.lst (List.replicate ((N:Nat):Int).toNat [V.bl false]).flatten):=⟨_,rfl⟩
  rw [<- hH2]
  have s12:Ze H1 H2:=by rw [hH2];exact (Ze.laid hl0).step hgA
  have hg1:H1 gA=none:=(Ze.laid hl0).free hgA
  have hg2:H2 gA=some (.lst (tab N fun _=>V.bl false)):=by rw [hH2,Zb,Int.toNat_natCast,Zbb]
  refine ⟨(by show 0<=sizeLine;decide),fun fA hfA=>?_⟩
  have hf1:H1 fA=none:=s12.free hfA
  have hgf:gA≠fA:=Zf hg2 hfA
  refine ⟨_,rfl,mA,_,rfl,.inl (Zo.of ((s12.step hfA) mA _ em)),_,rfl,?_⟩
  rw [el]
  refine ⟨by lia,by lia,Jr (n:=((N:Nat):Int).toNat) (fun i σ H'=>∃(ys:List V) (ts:List (List Int)) (v4 v5 v6:Option V),σ = [some (.ref l),some (.ref mA),some (.ref gA),some (.ref fA),v4,v5,v6]/\Ze H1 H'/\H' gA=some (.lst (tab N fun x=>V.bl (decide (x∈ts.flatten))))/\H' fA=some (.lst ys)/\ZV H' ys ts/\WO m i ts/\(∀t,V.ref t∈ys->t≠gA/\t≠fA/\H1 t=none))
   ⟨[],[],none,none,none,rfl,s12.step hfA,?_,Zb,.nil,.nil,fun t ht=>by cases ht⟩ ?_ ?_⟩
  ·rw [Zj hgf,hg2]
   exact congrArg (fun z=>some (HO.lst z)) (ZY fun x _ _=>by simp)
  ·rintro i σ H' hi ⟨ys,ts,v4,v5,v6,rfl,sm,hg,hf,rv,tr,ap⟩
   rw [Int.toNat_natCast] at hi
   have e0:(0:Int)+(i:Int)=(i:Int):=Int.zero_add _
   have good:=tr.good M (by lia)
   refine ⟨_,rfl,_,rfl,gA,_,_,_,rfl,rfl,Zo.of hg,Za6 _ (by lia) (by lia),_,rfl,?_⟩
   rw [e0]
   by_cases hin:(i:Int)∈ts.flatten
   ·rw [decide_eq_true hin]
    refine Zbr ?_
    exact ⟨ys,ts,_,v5,v6,rfl,sm,hg,hf,rv,tr.skip hin,ap⟩
   ·rw [decide_eq_false hin]
    refine Ul ?_
    refine ⟨_,rfl,_,rfl,_,mA,m,N,rfl,sm mA _ em,M,by lia,by lia,by lia,fun tA H3 T htA s3 eT isT=>?_⟩
    have tdom:=isT.dom M (by lia) (by lia)
    have tlen:=isT.len M (by lia) (by lia)
    have htg:tA≠gA:=(Zf hg htA).symm
    have htf:tA≠fA:=(Zf hf htA).symm
    refine ⟨_,rfl,tA,rfl,⟨_,Zo.of eT⟩,Yd (K:=K) (a:=tA) (xs:=T.map V.int) (fun j σ H''=>∃v6:Option V,σ = [some (.ref l),some (.ref mA),some (.ref gA),some (.ref fA),some (.int (i:Int)),some (.ref tA),v6]/\JJ gA H3 H''/\H'' gA=some (.lst (tab N fun x=>V.bl (decide (x∈ts.flatten∨x∈T.take j)))))
     ⟨_,rfl,JJ.refl _ _,?_⟩ (fun j σ H'' _ ⟨_,_,fr,_⟩=>Zo.of (fr tA _ eT htg)) ?_ ?_⟩
    ·rw [s3 gA _ hg]
     exact congrArg (fun z=>some (HO.lst z)) (ZY fun x _ _=>by simp)
    ·rintro j x σ H'' hx ⟨v6,rfl,fr,hg''⟩
     obtain ⟨t,ht,rfl⟩:=Yc hx
     obtain ⟨d0,d1⟩:=tdom t (List.mem_of_getElem? ht)
     obtain ⟨tn,rfl⟩:=Int.eq_ofNat_of_zero_le d0
     refine ⟨_,rfl,_,rfl,gA,_,_,tn,rfl,rfl,hg'',(by rw [YU];exact JU (by lia)),?_⟩
     refine ⟨_,rfl,fr.trans JJ.upd,?_⟩
     rw [Zb,UY]
     refine congrArg (fun z=>some (HO.lst z)) (ZY fun x _ _=>?_)
     rw [List.take_add_one,ht]
     by_cases e:x=(tn:Int)
     ·rw [if_pos e]
      congr 1
      exact (decide_eq_true (.inr (by rw [e];simp))).symm
     ·rw [if_neg e]
      congr 1
      exact decide_eq_decide.mpr (by simp [e])
    ·rintro σ H'' ⟨v6,rfl,fr,hg''⟩
     have hf'':=fr fA _ (s3 fA _ hf) (Ne.symm hgf)
     refine ⟨_,rfl,.inl ⟨rfl,_,Zo.of hf''⟩,_,rfl,fA,_,_,rfl,rfl,hf'',(by rw [rv.len];have:=tr.len M (by lia);exact ZH (by lia)),?_⟩
     have keep:∀c o,H' c=some o->c≠gA->c≠fA->(upd H'' fA (.lst (ys ++ [.ref tA]))) c=some o:=fun c o e n1 n2=>by
      rw [Zj n2]
      exact fr c o (s3 c o e) n1
     refine ⟨ys ++ [.ref tA],ts ++ [T],_,_,_,rfl,fun c o e=>keep c o (sm c o e) (Zf e hg1) (Zf e hf1),?_,Zb,?_,tr.add hin isT,fun t ht=>?_⟩
     ·rw [Zj hgf,hg'',List.length_map,List.take_of_length_le (Nat.le_refl _)]
      refine congrArg (fun z=>some (HO.lst z)) (ZY fun x _ _=>?_)
      congr 1
      exact decide_eq_decide.mpr (by rw [List.flatten_append];simp)
     ·refine ZV.snoc (rv.mono fun t o ht e=>keep t o e (ap t ht).1 (ap t ht).2.1) ?_
      rw [Zj htf]
      exact fr tA _ eT htg
     ·rcases List.mem_append.mp ht with z | z
      ·exact ap t z
      ·have:t=tA:=V.ref.inj (List.mem_singleton.mp z)
       subst this
       exact ⟨htg,htf,sm.free htA⟩
  ·rintro σ H' ⟨ys,ts,v4,v5,v6,rfl,sm,hg,hf,rv,tr,ap⟩
   rw [Int.toNat_natCast] at tr
   exact ⟨_,rfl,k fA H' ys ts (s1.free hf1) (s1.trans sm) hf rv (fun t ht=>s1.free (ap t ht).2.2) tr⟩
theorem ZeB {α β:Type} (f:α -> β):∀xs:List α,evn (xs.map f)=(evn xs).map f
 | []=>rfl
 | [x]=>rfl
 | x::y::r=>by simp [evn,ZeB f r]
theorem ZhY {α:Type}{x:α}:∀{xs:List α},x∈evn xs->x∈xs
 | [],h=>h
 | [y],h=>h
 | y::z::r,h=>by
  simp only [evn,List.mem_cons] at h ⊢
  rcases h with h | h
  ·exact .inl h
  ·exact .inr (.inr (ZhY h))
def JI (ts:List (List Int)):List Int:=(ts.map evn).flatten
def Zbf:Sp:=fun vs H Q _=>∃(l:Addr) (xs:List V) (ls:List (Str×Int)),vs = [.ref l]/\H l=some (.lst xs)/\Zs H xs ls/\ls.length<=60/\Wk ls 0 /\
 ∀(p:Addr) (H':Hp) (ts:List (List Int)),H p=none->Ze H H'->WO (mOf (YI ls)) (ZZ ls) ts->H' p=some (.lst (tab (ZZ ls) fun x=>V.bl (decide (x∈JI ts))))->Q (.ref p) H'
abbrev Zav:Stmt:=top 16
theorem WZ:Zp ["drawing", "rightward", "tour", "thread"] ["drawing"] (Zi Zav):={}
theorem ZfM {f:Addr}{fd:FuncData} (F:Ym K "to_right" "to_right" Zav f fd) (Z0:Yi P w K mg base 2 "ends_of" ["drawing"] (WH fun x=>decide (x = "end"))) (We:Yi P w K mg base 5 "tours" ["drawing"] ZaB) (ZL:mg "len" = none):ZX P w K mg base J4 6 f fd ["drawing"] Zbf:=by
 refine F.ok WZ (fun vs H Q E h=>?_) (fun cdv A outer s H vs Q E hr h=>?_)
 ·obtain ⟨l,xs,ls,rfl,_⟩:=h
  rfl
 ·obtain ⟨l,xs,ls,rfl,hl,hL,hlen,hW,k⟩:=h
  have n120:=Jv hlen
  have M:=Yh hW
  have nt:2*(ZU ls isE ls.length).length=ZZ ls:=by unfold ZZ YI WR;rw [List.length_map]
  generalize hn':ZZ ls=N at *
  refine ⟨_,(Zd (Zq (i:=1) WZ.nd rfl (Or.inl rfl) (Zn Zcw (Z6 (Za J7 Zc)) (Zn Wt Zg (Zy (ZJ (K:=K) rfl) (by rfl) ZL PySem.boot_len (Za (Zk Z0 hr (Za (pv 0) Zc)) Zc)))))
   (Zd (Z5 PassesOwn.never rfl (ZC (K:=K) rfl (Zk We hr (Za (pv 0) Zc))) (Zm (i:=2) WZ.nd rfl (Or.inl rfl)) (Zh (Z5 PassesOwn.never rfl (ZC (K:=K) rfl (Zm0 (K:=K) rfl (pv 2))) (Zm (i:=3) WZ.nd rfl (Or.inl rfl)) (Zh (Yv J7 (YO (pv 1) (pv 3) set_list))))))
   (Zh (Zr (pv 1))))),?_⟩
  refine ⟨(by show 1<=sizeLine;decide),fun l0 hl0=>?_⟩
  have s0:Ze H (upd H l0 (.lst [.bl false])):=Ze.laid hl0
  refine ⟨_,rfl,l,xs,ls,rfl,s0 l _ hl,hL.same s0,hlen,hW.kd,fun eA H1 fe s1 ee=>?_⟩
  refine ⟨eA,_,rfl,.inl (Zo.of ee),_,_,rfl,rfl,.inl ⟨by decide,by decide⟩,?_⟩
  have el:((2:Int)*((((ZU ls (fun x=>decide (x = "end")) ls.length).map V.int).length:Nat):Int))=((N:Nat):Int):=by
   rw [List.length_map]
   have:(ZU ls (fun x=>decide (x = "end")) ls.length).length=(ZU ls isE ls.length).length:=rfl
   lia
  show Zl8 (V.ref l0) (V.int ((2:Int)*((((ZU ls (fun x=>decide (x = "end")) ls.length).map V.int).length:Nat):Int))) H1 _
  rw [el]
  refine ⟨l0,_,_,rfl,rfl,s1 l0 _ Zb,by lia,by lia,(by show 1*_<=sizeLine;exact Nat.le_of_lt (ZH (by lia))),fun rA hrA=>?_⟩
  obtain ⟨H2,hH2⟩:∃H2,H2=upd H1 rA (.lst (List.replicate ((N:Nat):Int).toNat [V.bl false]).flatten):=⟨_,rfl⟩
  rw [<- hH2]
  have s02:Ze H H2:=by rw [hH2];exact (s0.trans s1).step hrA
  have hrH:H rA=none:=(s0.trans s1).free hrA
  have hr2:H2 rA=some (.lst (tab N fun _=>V.bl false)):=by rw [hH2,Zb,Int.toNat_natCast,Zbb]
  refine ⟨_,rfl,l,xs,ls,rfl,s02 l _ hl,hL.same s02,hlen,hW,fun tsA H3 ys ts ft s3 et rv ap tr=>?_⟩
  rw [hn'] at tr
  have good:=tr.good M (Int.le_refl _)
  have htr:tsA≠rA:=(Zf hr2 ft).symm
  refine ⟨tsA,rfl,⟨_,Zo.of et⟩,Yd (K:=K) (a:=tsA) (xs:=ys) (fun i σ H'=>∃(v2 v3:Option V),σ = [some (.ref l),some (.ref rA),v2,v3]/\JJ rA H3 H'/\H' rA=some (.lst (tab N fun x=>V.bl (decide (x∈JI (ts.take i))))))
   ⟨none,none,rfl,JJ.refl _ _,?_⟩ (fun i σ H' _ ⟨_,_,_,fr,_⟩=>Zo.of (fr tsA _ et htr)) ?_ ?_⟩
  ·rw [s3 rA _ hr2]
   exact congrArg (fun z=>some (HO.lst z)) (ZY fun x _ _=>by simp [JI])
  ·rintro i x σ H' hx ⟨v2,v3,rfl,fr,hr'⟩
   obtain ⟨q,T,hT,rfl,hq⟩:=rv.atX hx
   have hqr:q≠rA:=(Zf hr2 (ap q (List.mem_of_getElem? hx))).symm
   have hq':=fr q _ hq hqr
   have tdom:∀x∈T,0<=x/\x<(N:Int):=fun x hx=>good.2.1 x (List.mem_flatten.mpr ⟨T,List.mem_of_getElem? hT,hx⟩)
   refine ⟨_,rfl,q,_,rfl,Zo.of hq',fun vA hvA=>?_⟩
   have hvr:vA≠rA:=(Zf hr' hvA).symm
   rw [ZeB]
   refine ⟨vA,rfl,⟨_,Zo.of Zb⟩,Yd (K:=K) (a:=vA) (xs:=(evn T).map V.int) (fun j σ H''=>∃v3:Option V,σ = [some (.ref l),some (.ref rA),some (.ref q),v3]/\JJ rA H3 H''/\H'' vA=some (.lst ((evn T).map V.int))/\H'' rA=some (.lst (tab N fun x=>V.bl (decide (x∈JI (ts.take i)∨x∈(evn T).take j)))))
    ⟨_,rfl,fr.new hvA,Zb,?_⟩ (fun j σ H'' _ ⟨_,_,_,h,_⟩=>Zo.of h) ?_ ?_⟩
   ·rw [Zj (Ne.symm hvr),hr']
    exact congrArg (fun z=>some (HO.lst z)) (ZY fun x _ _=>by simp)
   ·rintro j x σ H'' hx ⟨v3,rfl,fr',hv'',hr''⟩
    obtain ⟨t,ht,rfl⟩:=Yc hx
    obtain ⟨d0,d1⟩:=tdom t (ZhY (List.mem_of_getElem? ht))
    obtain ⟨tn,rfl⟩:=Int.eq_ofNat_of_zero_le d0
    refine ⟨_,rfl,_,rfl,rA,_,_,tn,rfl,rfl,hr'',(by rw [YU];exact JU (by lia)),?_⟩
    refine ⟨_,rfl,fr'.trans JJ.upd,(by rw [Zj hvr];exact hv''),?_⟩
    rw [Zb,UY]
    refine congrArg (fun z=>some (HO.lst z)) (ZY fun x _ _=>?_)
    rw [List.take_add_one,ht]
    by_cases e:x=(tn:Int)
    ·rw [if_pos e]
     congr 1
     exact (decide_eq_true (.inr (by rw [e];simp))).symm
    ·rw [if_neg e]
     congr 1
     exact decide_eq_decide.mpr (by simp [e])
   ·rintro σ H'' ⟨v3,rfl,fr',hv'',hr''⟩
    refine ⟨_,_,rfl,fr',?_⟩
    rw [hr'',List.length_map,List.take_of_length_le (Nat.le_refl _)]
    refine congrArg (fun z=>some (HO.lst z)) (ZY fun x _ _=>?_)
    congr 1
    refine decide_eq_decide.mpr ?_
    rw [List.take_add_one,hT]
    simp [JI]
  ·rintro σ H' ⟨v2,v3,rfl,fr,hr'⟩
   refine ⟨_,rfl,k rA H' ts hrH (fun c o e=>fr c o (s3 c o (s02 c o e)) (Zf e hrH)) tr ?_⟩
   rw [rv.len,List.take_of_length_le (Nat.le_refl _)] at hr'
   exact hr'
theorem Zmc {ls:List (Str×Int)} (hW:Wk ls 0):∀d i,i+d<=ls.length->(rb (ls.take i)).2<=(rb (ls.take (i+d))).2
 | 0,i,_=>Int.le_refl _
 | d+1,i,h=>by
  refine Int.le_trans (Zmc hW d i (by lia)) ?_
  have hq:ls[i+d]? = some ls[i+d]:=by simp [show i+d<ls.length by lia]
  obtain ⟨tk,c⟩:=ZfL hW hq
  show _<=(rb (ls.take (i+d+1))).2
  rw [tk,ZA]
  generalize hp:ls[i+d]=p at c
  obtain ⟨px,pk⟩:=p
  rcases c with ⟨e,_⟩ | ⟨e,_⟩ | ⟨e,_⟩
  ·have e:px = "born" := e
   subst e
   rw [Yj]
   show _<=(rb (ls.take (i+d))).2+2
   lia
  ·have e:px = "cross" := e
   subst e
   rw [Z3]
   exact Int.le_refl _
  ·have e:px = "end" := e
   subst e
   rw [YG]
   exact Int.le_refl _
theorem ZhI {ls:List (Str×Int)} (hW:Wk ls 0) {t:Nat} (ht:t<=ls.length) {x:Int} (hx:x∈rowAt ls t):0<=x/\x<(ZZ ls:Int):=by
 obtain ⟨h0,h1,h2⟩:=WU hW t ht
 have a:=WG.mp (h2.mem_iff.mp (List.mem_append_left _ hx))
 obtain ⟨g0,g1,g2⟩:=WU hW ls.length (Nat.le_refl _)
 have e:rowAt ls ls.length = []:=by
  unfold rowAt
  rw [List.take_of_length_le (Nat.le_refl _)]
  have:=YQ hW
  exact List.length_eq_zero_iff.mp (by lia)
 rw [e,List.nil_append] at g2
 have hl:=g2.length_eq
 rw [ZaV,U6] at hl
 have le:=Zmc hW (ls.length-t) t (by lia)
 rw [show t+(ls.length-t)=ls.length by lia] at le
 have hn:ZZ ls=(rb (ls.take ls.length)).2.toNat:=hl
 rw [hn]
 lia
theorem Zkg {ls:List (Str×Int)} (hW:Wk ls 0) {t:Nat}{q:Str×Int} (hq:ls[t]? = some q) (hb:q.1 ≠ "born"):(0<=(JK ls t).1/\(JK ls t).1<(ZZ ls:Int))/\(0<=(JK ls t).2/\(JK ls t).2<(ZZ ls:Int)):=by
 obtain ⟨k0,k1,pe⟩:=ZbH hW hq hb
 have ht:t<ls.length:=(List.getElem?_eq_some_iff.mp hq).1
 rw [pe]
 refine ⟨ZhI hW (Nat.le_of_lt ht) ?_,ZhI hW (Nat.le_of_lt ht) ?_⟩
 ·show (rowAt ls t).getD q.2.toNat 0∈_
  rw [show (rowAt ls t).getD q.2.toNat 0=(rowAt ls t)[q.2.toNat]'(by lia) by simp [show q.2.toNat<(rowAt ls t).length by lia]]
  exact List.getElem_mem _
 ·show (rowAt ls t).getD (q.2.toNat+1) 0∈_
  rw [show (rowAt ls t).getD (q.2.toNat+1) 0=(rowAt ls t)[q.2.toNat+1]'k1 by simp [k1]]
  exact List.getElem_mem _
def Gj (R:List Int) (p:Int×Int):Int:=if decide (p.1∈R)=decide (p.2∈R) then 1 else -1
def Zgp (ls:List (Str×Int)) (i:Nat):List (Int×Int):=(ZU ls isC i).map fun t=>JK ls t.toNat
def twI (ls:List (Str×Int)) (R:List Int) (i:Nat):Int:=((Zgp ls i).map (Gj R)).sum-((WR ls i).length:Int)
def ZaQ:Sp:=fun vs H Q _=>∃(l:Addr) (xs:List V) (ls:List (Str×Int)),vs = [.ref l]/\H l=some (.lst xs)/\Zs H xs ls/\ls.length<=60/\Wk ls 0 /\
 ∀(H':Hp) (ts:List (List Int)),Ze H H'->WO (mOf (YI ls)) (ZZ ls) ts->Q (.int (twI ls (JI ts) ls.length)) H'
abbrev Zc3:Stmt:=top 20
theorem Wl:Zp ["drawing", "rightward", "total", "upper", "lower"] ["drawing"] (Zi Zc3):={}
theorem ZiQ {f:Addr}{fd:FuncData} (F:Ym K "twists" "twists" Zc3 f fd) (Z0:Yi P w K mg base 2 "ends_of" ["drawing"] (WH fun x=>decide (x = "end"))) (WK:Yi P w K mg base 2 "crossings_of" ["drawing"] (WH fun x=>decide (x = "cross"))) (Zal:Yi P w K mg base 6 "to_right" ["drawing"] Zbf) (YM:Yi P w K mg base 2 "pairs_ahead" ["drawing", "numbers"] Zca) (ZL:mg "len" = none):ZX P w K mg base J4 7 f fd ["drawing"] ZaQ:=by
 refine F.ok Wl (fun vs H Q E h=>?_) (fun cdv A outer s H vs Q E hr h=>?_)
 ·obtain ⟨l,xs,ls,rfl,_⟩:=h
  rfl
 ·obtain ⟨l,xs,ls,rfl,hl,hL,hlen,hW,k⟩:=h
  refine ⟨_,(Zd (Zq (i:=1) Wl.nd rfl (Or.inl rfl) (Zk Zal hr (Za (pv 0) Zc)))
   (Zd (Zq (i:=2) Wl.nd rfl (Or.inl rfl) (ZaH GK (Zy (ZJ (K:=K) rfl) (by rfl) ZL PySem.boot_len (Za (Zk Z0 hr (Za (pv 0) Zc)) Zc))))
   (Zd (Z5 PassesOwn.never rfl (ZC (K:=K) rfl (Zk YM hr (Za (pv 0) (Za (Zk WK hr (Za (pv 0) Zc)) Zc)))) (Yx (K:=K) (n:=2) rfl rfl (Zx (Zm (i:=3) Wl.nd rfl (Or.inl rfl)) (Zx (Zm (i:=4) Wl.nd rfl (Or.inl rfl)) Yy))) (Zh (Zj6 (i:=2) Wl.nd rfl (Or.inl rfl) (Za4 (Zu Uj (Zz (Zl (K:=K) rfl) (pv 1) (pv 3) (fun _ _=>rfl)) (Zz (Zl (K:=K) rfl) (pv 1) (pv 4) (fun _ _=>rfl)) (ZD _)) Zg (ZaH GK Zg)) Zks)))
   (Zh (Zr (pv 2)))))),?_⟩
  refine ⟨_,rfl,l,xs,ls,rfl,hl,hL,hlen,hW,fun rA H1 ts fr s1 tr er=>?_⟩
  refine ⟨_,rfl,l,xs,ls,rfl,s1 l _ hl,hL.same s1,hlen,hW.kd,fun eA H2 fe s2 ee=>?_⟩
  have s12:=s1.trans s2
  refine ⟨eA,_,rfl,.inl (Zo.of ee),_,rfl,?_⟩
  refine ⟨_,rfl,_,rfl,l,xs,ls,rfl,s12 l _ hl,hL.same s12,hlen,hW.kd,fun cA H3 fc s3 ec=>?_⟩
  have s13:=s12.trans s3
  refine ⟨l,cA,xs,ls,ZU ls isC ls.length,rfl,s13 l _ hl,hL.same s13,hlen,hW,ec,Nat.le_trans (Jk _ _ _) hlen,fun t ht=>?_,fun pA H4 ys fp s4 ep pv=>?_⟩
  ·obtain ⟨a,_,q,hq,z⟩:=ZcG ht
   refine ⟨a,q,hq,fun z2=>?_⟩
   have z:q.1 = "cross" := of_decide_eq_true z
   rw [z2] at z
   exact nb1 z.symm
  have er4:=s4 rA _ (s3 rA _ (s2 rA _ er))
  refine ⟨pA,rfl,⟨_,Zo.of ep⟩,Yd (K:=K) (a:=pA) (xs:=ys) (fun i σ H'=>∃(v3 v4:Option V),σ = [some (.ref l),some (.ref rA),some (.int ((((Zgp ls ls.length).take i).map (Gj (JI ts))).sum-((YI ls).length:Int))),v3,v4]/\H'=H4)
   ⟨none,none,?_,rfl⟩ (fun i σ H' _ ⟨_,_,_,e⟩=>by rw [e];exact Zo.of ep) ?_ ?_⟩
  ·have e : -((((ZU ls (fun x=>decide (x = "end")) ls.length).map V.int).length:Nat):Int)=(((Zgp ls ls.length).take 0).map (Gj (JI ts))).sum-((YI ls).length:Int):=by
    unfold YI WR
    rw [List.length_map,List.length_map]
    simp
    rfl
   rw [<- e]
   rfl
  ·rintro i x σ H' hx ⟨v3,v4,rfl,rfl⟩
   obtain ⟨p,t,hp,rfl,ht⟩:=pv.get hx
   obtain ⟨u,lw⟩:=p
   have dm:(0<=u/\u<(ZZ ls:Int))/\(0<=lw/\lw<(ZZ ls:Int)):=by
    obtain ⟨y,hy,e⟩:=List.mem_map.mp (List.mem_of_getElem? hp)
    obtain ⟨a,_,q,hq,z⟩:=ZcG hy
    have:=Zkg hW hq (fun z2=>by
     have z:q.1 = "cross" := of_decide_eq_true z
     rw [z2] at z
     exact nb1 z.symm)
    rw [e] at this
    exact this
   refine ⟨t,_,rfl,WT.of ht,rfl,_,_,rfl,_,_,rfl,rfl,?_⟩
   have tk:(((Zgp ls ls.length).take (i+1)).map (Gj (JI ts))).sum=(((Zgp ls ls.length).take i).map (Gj (JI ts))).sum+Gj (JI ts) (u,lw):=by
    rw [Yu (ns:=Zgp ls ls.length) _ hp,List.sum_append]
    simp
   refine ⟨_,rfl,_,rfl,_,rfl,rA,_,_,_,rfl,rfl,Zo.of er4,Za6 _ dm.1.1 dm.1.2,_,rfl,_,rfl,rA,_,_,_,rfl,rfl,Zo.of er4,Za6 _ dm.2.1 dm.2.2,rfl,_,rfl,?_⟩
   refine YJ (fun hc=>?_) (fun hc=>?_)
   ·have e:decide (u∈JI ts)=decide (lw∈JI ts):=V.bl.inj (of_decide_eq_true hc)
    refine ⟨_,_,rfl,rfl,some (.int u),some (.int lw),?_,rfl⟩
    rw [tk,show Gj (JI ts) (u,lw)=1 from if_pos e]
    rw [show ∀a b:Int,a+1-b=a-b+1 from fun a b=>by lia]
    rfl
   ·have e:¬decide (u∈JI ts)=decide (lw∈JI ts):=fun z=>hc (decide_eq_true (congrArg V.bl z))
    refine ⟨1,rfl,_,_,rfl,rfl,some (.int u),some (.int lw),?_,rfl⟩
    rw [tk,show Gj (JI ts) (u,lw) = -1 from if_neg e]
    rw [show ∀a b:Int,a + -1-b=a-b + -1 from fun a b=>by lia]
    rfl
  ·rintro σ H' ⟨v3,v4,rfl,rfl⟩
   refine ⟨_,rfl,?_⟩
   have:=k H' ts (s13.trans s4) tr
   rw [pv.len]
   rw [show ((ZU ls isC ls.length).map fun t=>JK ls t.toNat).length=(Zgp ls ls.length).length from rfl,List.take_of_length_le (Nat.le_refl _)]
   exact this
def Wh (ps:List (Int×Int)) (x:Int):Int:=if x∈ps.map (·.1) then 1 else -1
inductive DV (H:Hp):List (Key×V)->List (Int×Int)->Prop
 | nil:DV H [] []
 | snoc {kvs:List (Key×V)}{ps:List (Int×Int)}{u l:Int}{a b:Addr}:DV H kvs ps->H a=some (.tup [.int l,.int 1])->H b=some (.tup [.int u,.int (-1)])->DV H (kvs ++ [(Sum.inl u,.ref a),(Sum.inl l,.ref b)]) (ps ++ [(u,l)])
theorem few {ls:List (Str×Int)} (hW:Wk ls 0):∀i,i<=ls.length->(rb (ls.take i)).2+2*((WR ls i).length:Int)<=2*(i:Int)
 | 0,_=>by simp [WR,ZU,rb]
 | i+1,hi=>by
  have ih:=few hW i (by lia)
  have hq:ls[i]? = some ls[i]:=by simp [show i<ls.length by lia]
  obtain ⟨tk,c⟩:=ZfL hW hq
  rw [ZdH,tk,ZA]
  have kk:∀pr:Str->Bool,isK ls pr i=pr ls[i].1:=fun pr=>by
   unfold isK
   rw [hq]
   cases h:pr ls[i].1<;>simp [h]
  rw [kk]
  generalize ls[i]=p at c
  obtain ⟨px,pk⟩:=p
  rcases c with ⟨e,_⟩ | ⟨e,_⟩ | ⟨e,_⟩
  ·have e:px = "born" := e
   subst e
   have hf:isE "born" = false:=by unfold isE;decide +kernel
   rw [Yj,hf]
   simp only [Bool.false_eq_true,if_false,List.append_nil]
   lia
  ·have e:px = "cross" := e
   subst e
   have hf:isE "cross" = false:=by unfold isE;decide +kernel
   rw [Z3,hf]
   simp only [Bool.false_eq_true,if_false,List.append_nil]
   lia
  ·have e:px = "end" := e
   subst e
   have hf:isE "end" = true:=by unfold isE;simp
   rw [YG,hf]
   simp only [if_true,List.length_append,List.length_singleton]
   lia
theorem ZlU {ls:List (Str×Int)} (hW:Wk ls 0):ZZ ls<=ls.length:=by
 have h:=few hW ls.length (Nat.le_refl _)
 obtain ⟨g0,g1,g2⟩:=WU hW ls.length (Nat.le_refl _)
 have e:rowAt ls ls.length = []:=by
  unfold rowAt
  rw [List.take_of_length_le (Nat.le_refl _)]
  have:=YQ hW
  exact List.length_eq_zero_iff.mp (by lia)
 rw [e,List.nil_append] at g2
 have hl:=g2.length_eq
 rw [ZaV,U6] at hl
 show 2*(WR ls ls.length).length<=_
 lia
def ev2 (y:Int):Int:=if y % 2=0 then 1 else -1
def fl (dn:Int->Int):List Int->Int
 | x::y::r=>dn x+ev2 y+fl dn r
 | _=>0
theorem Zhg (dn:Int->Int) (x y:Int):∀(n:Nat) (A:List Int),A.length=2*n->fl dn (A ++ [x,y])=fl dn A+dn x+ev2 y
 | 0,A,h=>by
  have:A = []:=List.length_eq_zero_iff.mp (by lia)
  subst this
  simp [fl]
 | n+1,[],h=>by simp at h
 | n+1,[a],h=>by simp at h;lia
 | n+1,a::b::r,h=>by
  have ih:=Zhg dn x y n r (by simp at h;lia)
  simp only [List.cons_append,fl,ih]
  lia
def ZnA (i:Int):Int:=if i<0 then -i else i
def ZcB:Sp:=fun vs H Q _=>∃(l:Addr) (xs:List V) (ls:List (Str×Int)),vs = [.ref l]/\H l=some (.lst xs)/\Zs H xs ls/\ls.length<=60/\Wk ls 0 /\
 ∀(p:Addr) (H':Hp),H p=none->Ze H H'->H' p=some (.lst (tab (ZZ ls) fun x=>V.bl (decide (x∈(YI ls).map (·.1)))))->Q (.ref p) H'
abbrev JR:Stmt:=top 17
theorem YV:Zp ["drawing", "uppers", "upper", "lower"] ["drawing"] (Zi JR):={}
theorem Zin {f:Addr}{fd:FuncData} (F:Ym K "uppers_at_ends" "uppers_at_ends" JR f fd) (Z0:Yi P w K mg base 2 "ends_of" ["drawing"] (WH fun x=>decide (x = "end"))) (Js:Yi P w K mg base 3 "end_pairs" ["drawing"] ZeP) (ZL:mg "len" = none):ZX P w K mg base J4 4 f fd ["drawing"] ZcB:=by
 refine F.ok YV (fun vs H Q E h=>?_) (fun cdv A outer s H vs Q E hr h=>?_)
 ·obtain ⟨l,xs,ls,rfl,_⟩:=h
  rfl
 ·obtain ⟨l,xs,ls,rfl,hl,hL,hlen,hW,k⟩:=h
  have n120:=Jv hlen
  have nt:2*(ZU ls isE ls.length).length=ZZ ls:=by unfold ZZ YI WR;rw [List.length_map]
  refine ⟨_,(Zd (Zq (i:=1) YV.nd rfl (Or.inl rfl) (Zn Zcw (Z6 (Za J7 Zc)) (Zn Wt Zg (Zy (ZJ (K:=K) rfl) (by rfl) ZL PySem.boot_len (Za (Zk Z0 hr (Za (pv 0) Zc)) Zc)))))
   (Zd (Z5 PassesOwn.never rfl (ZC (K:=K) rfl (Zk Js hr (Za (pv 0) Zc))) (Yx (K:=K) (n:=2) rfl rfl (Zx (Zm (i:=2) YV.nd rfl (Or.inl rfl)) (Zx (Zm (i:=3) YV.nd rfl (Or.inl rfl)) Yy))) (Zh (Yv J7 (YO (pv 1) (pv 2) set_list))))
   (Zh (Zr (pv 1))))),?_⟩
  refine ⟨(by show 1<=sizeLine;decide),fun l0 hl0=>?_⟩
  have s0:Ze H (upd H l0 (.lst [.bl false])):=Ze.laid hl0
  refine ⟨_,rfl,l,xs,ls,rfl,s0 l _ hl,hL.same s0,hlen,hW.kd,fun eA H1 fe s1 ee=>?_⟩
  refine ⟨eA,_,rfl,.inl (Zo.of ee),_,_,rfl,rfl,.inl ⟨by decide,by decide⟩,?_⟩
  have el:((2:Int)*((((ZU ls (fun x=>decide (x = "end")) ls.length).map V.int).length:Nat):Int))=((ZZ ls:Nat):Int):=by
   rw [List.length_map]
   have:(ZU ls (fun x=>decide (x = "end")) ls.length).length=(ZU ls isE ls.length).length:=rfl
   lia
  show Zl8 (V.ref l0) (V.int ((2:Int)*((((ZU ls (fun x=>decide (x = "end")) ls.length).map V.int).length:Nat):Int))) H1 _
  rw [el]
  refine ⟨l0,_,_,rfl,rfl,s1 l0 _ Zb,by lia,by lia,(by show 1*_<=sizeLine;exact Nat.le_of_lt (ZH (by lia))),fun rA hrA=>?_⟩
  obtain ⟨H2,hH2⟩:∃H2,H2=upd H1 rA (.lst (List.replicate ((ZZ ls:Nat):Int).toNat [V.bl false]).flatten):=⟨_,rfl⟩
  rw [<- hH2]
  have s02:Ze H H2:=by rw [hH2];exact (s0.trans s1).step hrA
  have hrH:H rA=none:=(s0.trans s1).free hrA
  have hr2:H2 rA=some (.lst (tab (ZZ ls) fun _=>V.bl false)):=by rw [hH2,Zb,Int.toNat_natCast,Zbb]
  refine ⟨_,rfl,l,xs,ls,rfl,s02 l _ hl,hL.same s02,hlen,hW,fun pA H3 ys fp s3 ep pv=>?_⟩
  have hpr:pA≠rA:=(Zf hr2 fp).symm
  refine ⟨pA,rfl,⟨_,Zo.of ep⟩,Yd (K:=K) (a:=pA) (xs:=ys) (fun i σ H'=>∃(v2 v3:Option V),σ = [some (.ref l),some (.ref rA),v2,v3]/\JJ rA H3 H'/\H' rA=some (.lst (tab (ZZ ls) fun x=>V.bl (decide (x∈((YI ls).take i).map (·.1))))))
   ⟨none,none,rfl,JJ.refl _ _,?_⟩ (fun i σ H' _ ⟨_,_,_,fr,_⟩=>Zo.of (fr pA _ ep hpr)) ?_ ?_⟩
  ·rw [s3 rA _ hr2]
   exact congrArg (fun z=>some (HO.lst z)) (ZY fun x _ _=>by simp)
  ·rintro i x σ H' hx ⟨v2,v3,rfl,fr,hr'⟩
   obtain ⟨p,t,hp,rfl,ht⟩:=pv.get hx
   obtain ⟨u,lw⟩:=p
   obtain ⟨⟨d1,d2⟩,d3,d4⟩:=Zhy hW (List.mem_of_getElem? hp)
   obtain ⟨un,rfl⟩:=Int.eq_ofNat_of_zero_le (show 0<=u from d1)
   have d2:(un:Int)<_:=d2
   have htr:t≠rA:=ZfD ht (s3 rA _ hr2) (by intro z;cases z)
   refine ⟨t,_,rfl,WT.of (fr t _ ht htr),rfl,_,_,rfl,_,_,rfl,rfl,?_⟩
   refine ⟨_,rfl,_,rfl,rA,_,_,un,rfl,rfl,hr',(by rw [YU];exact JU (by lia)),?_⟩
   refine ⟨_,_,rfl,fr.trans JJ.upd,?_⟩
   rw [Zb,UY,Yu (ns:=YI ls) _ hp]
   refine congrArg (fun z=>some (HO.lst z)) (ZY fun x _ _=>?_)
   by_cases e:x=(un:Int)
   ·rw [if_pos e]
    congr 1
    exact (decide_eq_true (by rw [e];simp)).symm
   ·rw [if_neg e]
    congr 1
    exact decide_eq_decide.mpr (by simp [e])
  ·rintro σ H' ⟨v2,v3,rfl,fr,hr'⟩
   refine ⟨_,rfl,k rA H' hrH (fun c o e=>fr c o (s3 c o (s02 c o e)) (Zf e hrH)) ?_⟩
   rw [pv.len,List.take_of_length_le (Nat.le_refl _)] at hr'
   exact hr'
def stA (dn:Int->Int) (T:List Int) (i:Nat):Int:=if i % 2=0 then dn (T.getD i 0) else ev2 (T.getD i 0)
theorem Zkh (dn:Int->Int) (T:List Int):∀n,2*n<=T.length->((List.range (2*n)).map (stA dn T)).sum=fl dn (T.take (2*n))
 | 0,_=>by simp [fl]
 | n+1,h=>by
  have ih:=Zkh dn T n (by lia)
  have e:2*(n+1)=2*n+1+1:=by lia
  have h1:T[2*n]? = some (T.getD (2*n) 0):=by simp [show 2*n<T.length by lia]
  have h2:T[2*n+1]? = some (T.getD (2*n+1) 0):=by simp [show 2*n+1<T.length by lia]
  rw [e,List.range_succ,List.range_succ,List.take_add_one,List.take_add_one,h1,h2]
  have e2:T.take (2*n)++(some (T.getD (2*n) 0)).toList++(some (T.getD (2*n+1) 0)).toList=T.take (2*n) ++ [T.getD (2*n) 0,T.getD (2*n+1) 0]:=by simp
  rw [e2,Zhg dn _ _ n _ (by rw [List.length_take];lia),<- ih]
  have a1:stA dn T (2*n)=dn (T.getD (2*n) 0):=if_pos (by lia)
  have a2:stA dn T (2*n+1)=ev2 (T.getD (2*n+1) 0):=if_neg (by lia)
  rw [List.map_append,List.map_append,List.sum_append,List.sum_append]
  simp only [List.map_cons,List.map_nil,List.sum_cons,List.sum_nil,a1,a2]
  lia
def Zej:Sp:=fun vs H Q _=>∃(tA uA:Addr) (T:List Int) (N:Nat) (ps:List Int) (n:Nat),vs = [.ref tA,.ref uA]/\H tA=some (.lst (T.map V.int))/\H uA=some (.lst (tab N fun x=>V.bl (decide (x∈ps))))/\T.length=2*n/\T.length<=200/\(∀x∈T,0<=x/\x<(N:Int)) /\
 ∀(p:Addr) (H':Hp) (ss:List Int),H p=none->Ze H H'->H' p=some (.lst (ss.map V.int))->ss.sum=fl (fun x=>if x∈ps then 1 else -1) T->ss=(List.range T.length).map (stA (fun x=>if x∈ps then 1 else -1) T)->Q (.ref p) H'
abbrev GH:Stmt:=top 18
theorem Jj:Zp ["tour", "uppers", "steps", "at", "thread", "upper"] ["tour", "uppers"] (Zi GH):={}
theorem Zjy {f:Addr}{fd:FuncData} (F:Ym K "steps_down" "steps_down" GH f fd) (YZ:Yi P w K mg base 1 "born_with" ["thread"] Zlr) (ZQ:mg "enumerate" = none):ZX P w K mg base J4 2 f fd ["tour", "uppers"] Zej:=by
 refine F.ok Jj (fun vs H Q E h=>?_) (fun cdv A outer s H vs Q E hr h=>?_)
 ·obtain ⟨tA,uA,T,N,ps,n,rfl,_⟩:=h
  rfl
 ·obtain ⟨tA,uA,T,N,ps,n,rfl,hT,hU,hn,hlen,dom,k⟩:=h
  obtain ⟨dn,hdn⟩:∃dn:Int->Int,dn=fun x=>if x∈ps then 1 else -1:=⟨_,rfl⟩
  rw [<- hdn] at k
  refine ⟨_,(Zd (Zq (i:=2) Jj.nd rfl (Or.inl rfl) (Z6 Zc))
   (Zd (Z5 PassesOwn.never rfl (US (K:=K) rfl (by rfl) ZQ (Za (pv 0) Zc)) (Yx (K:=K) (n:=2) rfl rfl (Zx (Zm (i:=3) Jj.nd rfl (Or.inl rfl)) (Zx (Zm (i:=4) Jj.nd rfl (Or.inl rfl)) Yy))) (Zd (Zq (i:=5) Jj.nd rfl (Or.inl rfl) (Za4 (Zi6 (Zn ZnS (pv 3) Zg) (fun _=>rfl)) (Zce Zc5 (pv 4) (Zk YZ hr (Za (pv 4) Zc)) (ZD _)) (Zz (Zl (K:=K) rfl) (pv 1) (pv 4) (fun _ _=>rfl))))
   (Zh (Ye (YF (K:=K) rfl (JB PySem.F.plainAttrs_list PySem.F.slot_list_append PySem.F.type_list_append Z4 (pv 2) (Za (Za4 (ZcU (pv 5)) Zg (ZaH GK Zg)) Zc)))))))
   (Zh (Zr (pv 2))))),?_⟩
  refine ⟨(by show 0<=sizeLine;decide),fun sA hsA=>?_⟩
  refine ⟨_,rfl,tA,rfl,⟨_,Zo.of ((Ze.laid hsA) tA _ hT)⟩,Zep (K:=K) (a:=tA) (xs:=T.map V.int) (fun i σ H'=>∃(v3 v4 v5:Option V),σ = [some (.ref tA),some (.ref uA),some (.ref sA),v3,v4,v5]/\Ze H H'/\H' sA=some (.lst (((List.range i).map (stA dn T)).map V.int)))
   ⟨none,none,none,rfl,Ze.laid hsA,Zb⟩ (fun i σ H' _ ⟨_,_,_,_,sm,_⟩=>Zo.of (sm tA _ hT)) ?_ ?_⟩
  ·rintro i x p σ H' hx ⟨v3,v4,v5,rfl,sm,hs⟩ hp
   obtain ⟨t,ht,rfl⟩:=Yc hx
   have hi:i<T.length:=(List.getElem?_eq_some_iff.mp ht).1
   obtain ⟨d0,d1⟩:=dom t (List.mem_of_getElem? ht)
   have td:T.getD i 0=t:=by simp [ht]
   obtain ⟨G0,hG0⟩:∃G0,G0=upd H' p (.tup [.int i,.int t]):=⟨_,rfl⟩
   have sp:Ze H' G0:=by rw [hG0];exact Ze.laid hp
   have ep:G0 p=some (.tup [.int i,.int t]):=by rw [hG0];exact Zb
   rw [<- hG0]
   have sg0:Ze H G0:=sm.trans sp
   have l2:(((List.range i).map (stA dn T)).map V.int).length<sizeLine:=by
    rw [List.length_map,List.length_map,List.length_range]
    exact ZH (by lia)
   have tail:∀v:Int,v=stA dn T i->(upd G0 sA (.lst (((List.range i).map (stA dn T)).map V.int ++ [V.int v]))) sA=some (.lst (((List.range (i+1)).map (stA dn T)).map V.int)):=fun v e=>by
    rw [Zb,List.range_succ,List.map_append,List.map_append,e]
    rfl
   have hbit:Builtin.bitAnd (i:Int) 1=(i:Int) % 2:=ZkZ (by lia)
   refine ⟨p,_,rfl,WT.of ep,rfl,_,_,rfl,_,_,rfl,rfl,?_⟩
   refine ⟨_,rfl,_,_,rfl,rfl,_,rfl,?_⟩
   show if (Builtin.bitAnd (i:Int) 1 != 0)=true then _ else _
   rw [hbit]
   refine YJ (fun hc=>?_) (fun hc=>?_)
   ·have odd:¬i % 2=0:=fun z=>by
     rw [bne_iff_ne] at hc
     lia
    have se:stA dn T i=ev2 t:=by unfold stA;rw [if_neg odd,td]
    refine ⟨_,rfl,_,rfl,_,rfl,d0,_,_,rfl,rfl,?_⟩
    refine ⟨_,rfl,.inl ⟨rfl,_,Zo.of (sp sA _ hs)⟩,_,rfl,_,rfl,?_⟩
    refine YJ (fun hd=>?_) (fun hd=>?_)
    ·have e:(1:Int)=stA dn T i:=by
      have hd:t<bw t:=of_decide_eq_true hd
      rw [se]
      unfold ev2
      unfold bw at hd
      split at hd
      ·rw [if_pos (by assumption)]
      ·lia
     exact ⟨sA,_,_,rfl,rfl,sp sA _ hs,l2,_,_,_,rfl,sg0.put hsA,tail _ e⟩
    ·have e:(-1:Int)=stA dn T i:=by
      have hd:¬t<bw t:=fun z=>hd (decide_eq_true z)
      rw [se]
      unfold ev2
      unfold bw at hd
      split at hd
      ·lia
      ·rw [if_neg (by assumption)]
     exact ⟨1,rfl,sA,_,_,rfl,rfl,sp sA _ hs,l2,_,_,_,rfl,sg0.put hsA,tail _ e⟩
   ·have evn0:i % 2=0:=by
     by_cases z:i % 2=0
     ·exact z
     ·exact absurd (by rw [bne_iff_ne];lia) hc
    have se:stA dn T i=dn t:=by unfold stA;rw [if_pos evn0,td]
    rw [hdn] at se
    refine ⟨_,rfl,_,rfl,uA,_,_,_,rfl,rfl,Zo.of (sg0 uA _ hU),Za6 _ d0 d1,?_⟩
    refine ⟨_,rfl,.inl ⟨rfl,_,Zo.of (sp sA _ hs)⟩,_,rfl,_,rfl,?_⟩
    refine YJ (fun hd=>?_) (fun hd=>?_)
    ·have e:(1:Int)=stA dn T i:=by
      rw [hdn,se]
      exact (if_pos (of_decide_eq_true hd)).symm
     exact ⟨sA,_,_,rfl,rfl,sp sA _ hs,l2,_,_,_,rfl,sg0.put hsA,tail _ e⟩
    ·have e:(-1:Int)=stA dn T i:=by
      rw [hdn,se]
      exact (if_neg (fun z=>hd (decide_eq_true z))).symm
     exact ⟨1,rfl,sA,_,_,rfl,rfl,sp sA _ hs,l2,_,_,_,rfl,sg0.put hsA,tail _ e⟩
  ·rintro σ H' ⟨v3,v4,v5,rfl,sm,hs⟩
   rw [List.length_map] at hs
   refine ⟨_,rfl,k sA H' _ hsA sm hs ?_ (by rw [hdn])⟩
   rw [hn,Zkh dn T n (by lia),List.take_of_length_le (by lia)]
def GS (dn:Int->Int) (T:List Int):Int:=ZnA (fl dn T) / 2
def Zb2:Sp:=fun vs H Q _=>∃(l:Addr) (xs:List V) (ls:List (Str×Int)),vs = [.ref l]/\H l=some (.lst xs)/\Zs H xs ls/\ls.length<=60/\Wk ls 0 /\
 ∀(p:Addr) (H':Hp) (ts:List (List Int)),H p=none->Ze H H'->WO (mOf (YI ls)) (ZZ ls) ts->H' p=some (.lst ((ts.map (GS (Wh (YI ls)))).map V.int))->Q (.ref p) H'
theorem Zir {m:Int->Int}{i:Nat}{ts:List (List Int)} (a:WO m i ts):∀T∈ts,∃n,T.length=2*n:=by
 induction a with
 | nil=>intro T h;cases h
 | add a h t ih=>
  intro T hT
  rcases List.mem_append.mp hT with z | z
  ·exact ih T z
  ·rw [List.mem_singleton.mp z]
   obtain ⟨L,_,_,_,rfl⟩:=t
   exact ⟨L,U3 _ _ _⟩
 | skip a h ih=>exact ih
abbrev Zb7:Stmt:=top 19
theorem ZfO:Zp ["drawing", "uppers"] ["drawing"] (Zi Zb7):={}
theorem ZjS {f:Addr}{fd:FuncData} (F:Ym K "turns" "turns" Zb7 f fd) (JS:Yi P w K mg base 4 "uppers_at_ends" ["drawing"] ZcB) (GO:Yi P w K mg base 2 "steps_down" ["tour", "uppers"] Zej) (We:Yi P w K mg base 5 "tours" ["drawing"] ZaB) (Zcq:mg "abs" = none) (Zkz:mg "sum" = none):ZX P w K mg base J4 6 f fd ["drawing"] Zb2:=by
 refine F.ok ZfO (fun vs H Q E h=>?_) (fun cdv A outer s H vs Q E hr h=>?_)
 ·obtain ⟨l,xs,ls,rfl,_⟩:=h
  rfl
 ·obtain ⟨l,xs,ls,rfl,hl,hL,hlen,hW,k⟩:=h
  have n60:=ZlU hW
  have M:=Yh hW
  refine ⟨_,(Zd (Zq (i:=1) ZfO.nd rfl (Or.inr rfl) (Zk JS hr (Za (pv 0) Zc)))
   (Zh (Zr (Gy (Ls:=["tour"]) (Fs:=["uppers"]) (fi:=[1]) (ZO.of (show Yn ["drawing", "uppers"] (Zi Zb7) _ ["uppers"] [1]=true by decide +kernel)) rfl (ZC (K:=K) rfl (Zk We hr (Za (pv 0) Zc))) (fun cl C s3 H3 ex=>⟨(Zm (i:=0) (show ((["tour"]:List Str)++(["uppers"]:List Str)).Nodup by decide +kernel) rfl (Or.inl rfl)),Z8,(Zn Zb8 (Zy ZcF (by rfl) Zcq boot_abs (Za (Zy (Zie (K:=K) rfl rfl) (by rfl) Zkz boot_sum (Za (Zk GO hr (Za (pv 0) (Za (pv 1) Zc))) Zc)) Zc)) Zg)⟩))))),?_⟩
  refine ⟨_,rfl,l,xs,ls,rfl,hl,hL,hlen,hW,fun uA H1 fu s1 eu=>?_⟩
  refine ⟨_,rfl,l,xs,ls,rfl,s1 l _ hl,hL.same s1,hlen,hW,fun tsA H2 ys ts ft s2 et rv ap tr=>?_⟩
  have good:=tr.good M (Int.le_refl _)
  have tl:=tr.len M (Int.le_refl _)
  refine ⟨tsA,rfl,⟨_,Zo.of et⟩,Y9 (K:=K) (a:=tsA) (xs:=ys) (by rw [rv.len];exact Nat.le_of_lt (ZH (by lia))) (fun i zs G=>Ze H2 G/\zs=((ts.take i).map (GS (Wh (YI ls)))).map V.int) ⟨Ze.refl _,rfl⟩ (fun i zs G p=>by rw [p.2,List.length_map,List.length_map,List.length_take];lia) (fun i zs G p=>Zo.of (p.1 tsA _ et)) (fun i x zs G hx p=>?_) (fun zs G p D hD=>?_)⟩
  ·obtain ⟨sG,rfl⟩:=p
   obtain ⟨q,T,hT,rfl,hq⟩:=rv.atX hx
   obtain ⟨n,hn⟩:=Zir tr T (List.mem_of_getElem? hT)
   have inT:∀x∈T,x∈ts.flatten:=fun x hx=>List.mem_flatten.mpr ⟨T,List.mem_of_getElem? hT,hx⟩
   have sub:T.length<=ts.flatten.length:=by
    obtain ⟨a,b,e⟩:=List.append_of_mem (List.mem_of_getElem? hT)
    rw [e,List.flatten_append,List.flatten_cons,List.length_append,List.length_append]
    lia
   have fs:=W5 (ZZ ls) ts.flatten good.1 good.2.1
   refine lcG ?_
   refine ⟨_,rfl,_,rfl,q,uA,T,ZZ ls,(YI ls).map (·.1),n,rfl,sG q _ hq,sG uA _ (s2 uA _ eu),hn,by lia,fun x hx=>good.2.1 x (inT x hx),fun pA G1 ss fp sp ep es _=>?_⟩
   refine ⟨pA,_,rfl,Zo.of ep,_,rfl,_,_,rfl,rfl,⟨by decide,by decide⟩,sG.trans sp,?_⟩
   rw [Yu (ns:=ts) _ hT,List.map_append]
   refine congrArg (fun z=>_ ++ [V.int z]) ?_
   show (if ss.sum<0 then -ss.sum else ss.sum) / 2=_
   rw [es]
   rfl
  ·obtain ⟨sG,rfl⟩:=p
   refine k D _ ts (s1.free (s2.free (sG.free hD))) ((s1.trans (s2.trans sG)).step hD) tr ?_
   rw [Zb,rv.len,List.take_of_length_le (Nat.le_refl _)]
def ixT (ts:List (List Int)) (x:Int):Int:=(ts.findIdx fun T=>decide (x∈T):Nat)
def Zdd:Sp:=fun vs H Q _=>∃(l:Addr) (xs:List V) (ls:List (Str×Int)),vs = [.ref l]/\H l=some (.lst xs)/\Zs H xs ls/\ls.length<=60/\Wk ls 0 /\
 ∀(p:Addr) (H':Hp) (ts:List (List Int)),H p=none->Ze H H'->WO (mOf (YI ls)) (ZZ ls) ts->H' p=some (.lst ((tab (ZZ ls) (ixT ts)).map V.int))->Q (.ref p) H'
theorem ZfK:∀{ts:List (List Int)},ts.flatten.Nodup -> ∀{j k:Nat}{S T:List Int}{x:Int},ts[j]? = some S->ts[k]? = some T->j<k->x∈S->x∈T->False
 | U::ts,nd,0,k+1,S,T,x,hS,hT,_,h1,h2=>by
  rw [List.flatten_cons,List.nodup_append] at nd
  simp at hS
  exact nd.2.2 x (hS ▸ h1) x (List.mem_flatten.mpr ⟨T,List.mem_of_getElem? (by simpa using hT),h2⟩) rfl
 | U::ts,nd,j+1,k+1,S,T,x,hS,hT,hjk,h1,h2=>by
  rw [List.flatten_cons,List.nodup_append] at nd
  exact ZfK nd.2.1 (j:=j) (k:=k) (by simpa using hS) (by simpa using hT) (by lia) h1 h2
theorem ZoE {ts:List (List Int)} (nd:ts.flatten.Nodup) {k:Nat}{T:List Int}{x:Int} (hT:ts[k]? = some T) (hx:x∈T):ixT ts x=(k:Int):=by
 have hk:=(List.getElem?_eq_some_iff.mp hT).1
 have e:ts.findIdx (fun T=>decide (x∈T))=k:=by
  rw [List.findIdx_eq hk]
  obtain ⟨_,rfl⟩:=List.getElem?_eq_some_iff.mp hT
  refine ⟨decide_eq_true hx,fun j hj=>?_⟩
  cases z:decide (x∈ts[j]'(by lia)) with
  | false=>rfl
  | true=>exact absurd rfl fun _:(0:Nat)=0=>ZfK nd (j:=j) (k:=k) (List.getElem?_eq_getElem (by lia)) hT hj (of_decide_eq_true z) hx
 unfold ixT
 rw [e]
abbrev ZcP:Stmt:=top 15
theorem Gx:Zp ["drawing", "numbers", "number", "tour", "thread"] ["drawing"] (Zi ZcP):={}
theorem ZiN {f:Addr}{fd:FuncData} (F:Ym K "pieces" "pieces" ZcP f fd) (Z0:Yi P w K mg base 2 "ends_of" ["drawing"] (WH fun x=>decide (x = "end"))) (We:Yi P w K mg base 5 "tours" ["drawing"] ZaB) (ZL:mg "len" = none) (ZQ:mg "enumerate" = none):ZX P w K mg base J4 6 f fd ["drawing"] Zdd:=by
 refine F.ok Gx (fun vs H Q E h=>?_) (fun cdv A outer s H vs Q E hr h=>?_)
 ·obtain ⟨l,xs,ls,rfl,_⟩:=h
  rfl
 ·obtain ⟨l,xs,ls,rfl,hl,hL,hlen,hW,k⟩:=h
  have n120:=Jv hlen
  have M:=Yh hW
  have nt:2*(ZU ls isE ls.length).length=ZZ ls:=by unfold ZZ YI WR;rw [List.length_map]
  generalize hn':ZZ ls=N at *
  refine ⟨_,(Zd (Zq (i:=1) Gx.nd rfl (Or.inl rfl) (Zn Zcw (Z6 (Za Zg Zc)) (Zn Wt Zg (Zy (ZJ (K:=K) rfl) (by rfl) ZL PySem.boot_len (Za (Zk Z0 hr (Za (pv 0) Zc)) Zc)))))
   (Zd (Z5 PassesOwn.never rfl (US (K:=K) rfl (by rfl) ZQ (Za (Zk We hr (Za (pv 0) Zc)) Zc)) (Yx (K:=K) (n:=2) rfl rfl (Zx (Zm (i:=2) Gx.nd rfl (Or.inl rfl)) (Zx (Zm (i:=3) Gx.nd rfl (Or.inl rfl)) Yy))) (Zh (Z5 PassesOwn.never rfl (ZC (K:=K) rfl (pv 3)) (Zm (i:=4) Gx.nd rfl (Or.inl rfl)) (Zh (Yv (pv 2) (YO (pv 1) (pv 4) set_list))))))
   (Zh (Zr (pv 1))))),?_⟩
  refine ⟨(by show 1<=sizeLine;decide),fun l0 hl0=>?_⟩
  have s0:Ze H (upd H l0 (.lst [.int 0])):=Ze.laid hl0
  refine ⟨_,rfl,l,xs,ls,rfl,s0 l _ hl,hL.same s0,hlen,hW.kd,fun eA H1 fe s1 ee=>?_⟩
  refine ⟨eA,_,rfl,.inl (Zo.of ee),_,_,rfl,rfl,.inl ⟨by decide,by decide⟩,?_⟩
  have el:((2:Int)*((((ZU ls (fun x=>decide (x = "end")) ls.length).map V.int).length:Nat):Int))=((N:Nat):Int):=by
   rw [List.length_map]
   have:(ZU ls (fun x=>decide (x = "end")) ls.length).length=(ZU ls isE ls.length).length:=rfl
   lia
  show Zl8 (V.ref l0) (V.int ((2:Int)*((((ZU ls (fun x=>decide (x = "end")) ls.length).map V.int).length:Nat):Int))) H1 _
  rw [el]
  refine ⟨l0,_,_,rfl,rfl,s1 l0 _ Zb,by lia,by lia,(by show 1*_<=sizeLine;exact Nat.le_of_lt (ZH (by lia))),fun rA hrA=>?_⟩
  obtain ⟨H2,hH2⟩:∃H2,H2=upd H1 rA (.lst (List.replicate ((N:Nat):Int).toNat [V.int 0]).flatten):=⟨_,rfl⟩
  rw [<- hH2]
  have s02:Ze H H2:=by rw [hH2];exact (s0.trans s1).step hrA
  have hrH:H rA=none:=(s0.trans s1).free hrA
  have hr2:H2 rA=some (.lst (tab N fun _=>V.int 0)):=by rw [hH2,Zb,Int.toNat_natCast,Zbb]
  refine ⟨_,rfl,l,xs,ls,rfl,s02 l _ hl,hL.same s02,hlen,hW,fun tsA H3 ys ts ft s3 et rv ap tr=>?_⟩
  rw [hn'] at tr
  have good:=tr.good M (Int.le_refl _)
  have htr:tsA≠rA:=(Zf hr2 ft).symm
  refine ⟨tsA,rfl,⟨_,Zo.of et⟩,Zep (K:=K) (a:=tsA) (xs:=ys) (fun i σ H'=>∃(v2 v3 v4:Option V),σ = [some (.ref l),some (.ref rA),v2,v3,v4]/\JJ rA H3 H'/\H' rA=some (.lst (tab N fun x=>V.int (if x∈(ts.take i).flatten then ixT ts x else 0))))
   ⟨none,none,none,rfl,JJ.refl _ _,?_⟩ (fun i σ H' _ ⟨_,_,_,_,fr,_⟩=>Zo.of (fr tsA _ et htr)) ?_ ?_⟩
  ·rw [s3 rA _ hr2]
   exact congrArg (fun z=>some (HO.lst z)) (ZY fun x _ _=>by simp)
  ·rintro i x p σ H' hx ⟨v2,v3,v4,rfl,fr,hr'⟩ hp
   obtain ⟨q,T,hT,rfl,hq⟩:=rv.atX hx
   have hqr:q≠rA:=(Zf hr2 (ap q (List.mem_of_getElem? hx))).symm
   have hq':=fr q _ hq hqr
   have tdom:∀x∈T,0<=x/\x<(N:Int):=fun x hx=>good.2.1 x (List.mem_flatten.mpr ⟨T,List.mem_of_getElem? hT,hx⟩)
   obtain ⟨G0,hG0⟩:∃G0,G0=upd H' p (.tup [.int i,.ref q]):=⟨_,rfl⟩
   have sp:Ze H' G0:=by rw [hG0];exact Ze.laid hp
   have ep:G0 p=some (.tup [.int i,.ref q]):=by rw [hG0];exact Zb
   rw [<- hG0]
   refine ⟨p,_,rfl,WT.of ep,rfl,_,_,rfl,_,_,rfl,rfl,?_⟩
   refine ⟨_,rfl,q,rfl,⟨_,Zo.of (sp q _ hq')⟩,Yd (K:=K) (a:=q) (xs:=T.map V.int) (fun j σ H''=>∃v4:Option V,σ = [some (.ref l),some (.ref rA),some (.int i),some (.ref q),v4]/\JJ rA H3 H''/\H'' rA=some (.lst (tab N fun x=>V.int (if x∈(ts.take i).flatten∨x∈T.take j then ixT ts x else 0))))
    ⟨_,rfl,fr.trans sp.frm,?_⟩ (fun j σ H'' _ ⟨_,_,f',_⟩=>Zo.of (f' q _ hq hqr)) ?_ ?_⟩
   ·rw [sp rA _ hr']
    exact congrArg (fun z=>some (HO.lst z)) (ZY fun x _ _=>by simp)
   ·rintro j x σ H'' hx' ⟨v4,rfl,f',hr''⟩
    obtain ⟨t,ht,rfl⟩:=Yc hx'
    obtain ⟨d0,d1⟩:=tdom t (List.mem_of_getElem? ht)
    have it:=ZoE good.1 hT (List.mem_of_getElem? ht)
    obtain ⟨tn,rfl⟩:=Int.eq_ofNat_of_zero_le d0
    refine ⟨_,rfl,_,rfl,_,rfl,rA,_,_,tn,rfl,rfl,hr'',(by rw [YU];exact JU (by lia)),?_⟩
    refine ⟨_,rfl,f'.trans JJ.upd,?_⟩
    rw [Zb,UY]
    refine congrArg (fun z=>some (HO.lst z)) (ZY fun x _ _=>?_)
    rw [List.take_add_one,ht]
    by_cases e:x=(tn:Int)
    ·rw [if_pos e,if_pos (.inr (by rw [e];simp)),e,it]
    ·rw [if_neg e]
     simp [e]
   ·rintro σ H'' ⟨v4,rfl,f',hr''⟩
    refine ⟨_,_,_,rfl,f',?_⟩
    rw [hr'',List.length_map,List.take_of_length_le (Nat.le_refl _),List.take_add_one,hT]
    exact congrArg (fun z=>some (HO.lst z)) (ZY fun x _ _=>by simp)
  ·rintro σ H' ⟨v2,v3,v4,rfl,fr,hr'⟩
   refine ⟨_,rfl,k rA H' ts hrH (fun c o e=>fr c o (s3 c o (s02 c o e)) (Zf e hrH)) tr ?_⟩
   rw [rv.len,List.take_of_length_le (Nat.le_refl _)] at hr'
   rw [hr',Zhi]
   refine congrArg (fun z=>some (HO.lst z)) (ZY fun x h0 h1=>?_)
   obtain ⟨j,rfl⟩:=Int.eq_ofNat_of_zero_le h0
   rw [if_pos (tr.mem j (by lia))]
theorem take_snoc {α:Type}{l:List α}{j:Nat}{x:α} (h:l[j]? = some x):l.take (j+1)=l.take j ++ [x]:=by rw [List.take_add_one,h];rfl
def ZhN:Sp:=fun vs H Q _=>∃(d l:Addr) (L ws:WS),vs = [.ref d,.ref l]/\DOd H d L/\WL H l ws/\L.length+ws.length<=2000000 /\ ∀H',JJ d H H'->DOd H' d (L++ws)->Q .non H'
abbrev ZkH:Stmt:=top 30
theorem Zkv:Zp ["odd", "words", "word"] ["odd", "words"] (Zi ZkH):={}
theorem Znw {f:Addr}{fd:FuncData} (F:Ym K "put" "put" ZkH f fd):ZX P w K mg base J4 1 f fd ["odd", "words"] ZhN:=by
 refine F.ok Zkv (fun vs H Q E h=>?_) (fun cdv A outer s H vs Q E hr h=>?_)
 ·obtain ⟨d,l,L,ws,rfl,_⟩:=h
  rfl
 ·obtain ⟨d,l,L,ws,rfl,hd,hl,hz,k⟩:=h
  refine ⟨_,(Zh (Z5 PassesOwn.never rfl (ZC (K:=K) rfl (pv 1)) (Zm (i:=2) Zkv.nd rfl (Or.inl rfl)) (Zh (YK (Zna (ZmK (ZkL hr) (pv 2) (pv 0))) (Zh (ZjJ (ZkL hr) (pv 0) (pv 2))) (Zh (Yv J7 (YO (pv 0) (pv 2) (set_dict (ZkL hr))))))))),?_⟩
  obtain ⟨xs,el,hw⟩:=id hl
  have hdl:l≠d:=fun z=>by
   obtain ⟨_,_,e,_⟩:=hd
   rw [z,e] at el;cases el
  have lx:=Words.len hw
  refine ⟨_,rfl,l,rfl,⟨_,Zo.of el⟩,Yd (K:=K) (a:=l) (xs:=xs) (fun j σ G=>∃v2:Option V,σ = [some (.ref d),some (.ref l),v2]/\JJ d H G/\DOd G d (L++ws.take j)) ⟨none,rfl,JJ.refl _ _,by simpa using hd⟩ (fun j σ G _ ⟨_,_,fr,_⟩=>Zo.of (fr l _ el hdl)) ?_ ?_⟩
  ·rintro j x σ G hx ⟨v2,rfl,fr,dg⟩
   obtain ⟨w,hj,p,rfl,hp⟩:=Words.get hw hx
   have ep:G p=some (.tup ((kW w).map kV)):=by rw [ZoJ];exact hd.tups fr p _ hp
   obtain ⟨kvs,ks,ed,ek,ok⟩:=dg
   have hlen:=ok.len
   have lk:kvs.length=ks.length:=by simpa using congrArg List.length ek
   rw [List.length_append,List.length_take] at hlen
   refine ⟨_,rfl,_,rfl,d,_,rfl,Zjl.t ed ep,_,rfl,YJ (fun hp=>?_) (fun hp=>?_)⟩
   ·refine ⟨_,rfl,_,rfl,d,kvs,kW w,p,rfl,ed,rfl,ep,hp,?_⟩
    refine ⟨_,rfl,fr.trans JJ.upd,_,_,Zb,ZdV ek,?_⟩
    rw [take_snoc hj,<- List.append_assoc]
    exact Zkk ok ((Zd3 ek).mp hp)
   ·have nk:w∉ks:=fun z=>hp ((Zd3 ek).mpr z)
    refine ⟨_,rfl,_,rfl,d,_,rfl,Zjw.t ed ep (by rw [sizeLine_eq];lia),?_⟩
    refine ⟨_,rfl,fr.trans JJ.upd,_,_,Zb,ZjQ ek nk,?_⟩
    rw [take_snoc hj,<- List.append_assoc]
    exact Zli ok nk
  ·rintro σ G ⟨v2,rfl,fr,dg⟩
   refine k G fr ?_
   rwa [List.take_of_length_le (by lia)] at dg
def Zb4:Sp:=fun vs H Q _=>∃(a b:Addr) (L M:WS),vs = [.ref a,.ref b]/\WL H a L/\WL H b M/\L.length+M.length<=2000000 /\ ∀(p:Addr) (H':Hp) (r:WS),H p=none->Ze H H'->WL H' p r->YY (L++M) r->Q (.ref p) H'
abbrev ZeI:Stmt:=top 31
theorem Zfx:Zp ["one", "other", "odd"] ["one", "other"] (Zi ZeI):={}
theorem Zjr {f:Addr}{fd:FuncData} (F:Ym K "added" "added" ZeI f fd) (ZcT:Yi P w K mg base 1 "put" ["odd", "words"] ZhN) (Jf:mg "sorted" = none):ZX P w K mg base J4 2 f fd ["one", "other"] Zb4:=by
 refine F.ok Zfx (fun vs H Q E h=>?_) (fun cdv A outer s H vs Q E hr h=>?_)
 ·obtain ⟨a,b,L,M,rfl,_⟩:=h
  rfl
 ·obtain ⟨a,b,L,M,rfl,ha,hb,hz,k⟩:=h
  refine ⟨_,(Zd (Zq (i:=2) Zfx.nd rfl (Or.inl rfl) ZfE)
   (Zd (Ye (Zk ZcT hr (Za (pv 2) (Za (pv 0) Zc))))
   (Zd (Ye (Zk ZcT hr (Za (pv 2) (Za (pv 1) Zc))))
   (Zh (Zr (Zy (Zaa rfl hr.units) (by rfl) Jf boot_sorted (Za (pv 2) Zc))))))),?_⟩
  intro d hd
  have s0:Ze H (upd H d (.dT [])):=Ze.laid hd
  have d0:DOd (upd H d (.dT [])) d []:=⟨[],[],Zb,rfl,ZfC⟩
  refine ⟨_,rfl,_,rfl,d,a,[],L,rfl,d0,ha.same s0,by simp;lia,fun H1 f1 d1=>?_⟩
  refine ⟨_,rfl,_,rfl,d,b,_,M,rfl,d1,d0.wl f1 (hb.same s0),by simpa using hz,fun H2 f2 d2=>?_⟩
  have sm:Ze H H2:=fun c o e=>by
   have nd:=Zf e hd
   exact f2 c o (f1 c o (s0 c o e) nd) nd
  obtain ⟨kvs,ks,ed,ek,ok⟩:=d2
  refine ⟨_,rfl,d,kvs,ks,rfl,ed,ek,fun l zs vs hl pm hw rs=>?_⟩
  have s3:Ze H2 (upd H2 l (.lst zs)):=Ze.laid hl
  exact k l _ vs (sm.free hl) (sm.trans s3) ⟨zs,Zb,Words.same s3 hw⟩ (by simpa using ok.odd pm rs)
def Zgu:Sp:=fun vs H Q _=>∃(a b:Addr) (L M:WS),vs = [.ref a,.ref b]/\WL H a L/\WL H b M/\L2.Gd 1000 100000 L/\L2.Gd 1000 100000 M /\ ∀(p:Addr) (H':Hp) (r:WS),H p=none->Ze H H'->WL H' p r->YY (prd L M) r->Q (.ref p) H'
theorem Zj7 {L:WS}{j:Nat}{w:List Int} (h:L[j]? = some w) (M:WS):prd (L.take (j+1)) M=prd (L.take j) M++M.map fun v=>w++v:=by
 rw [take_snoc h,Zls,JC]
 simp [prd]
abbrev Wa:Stmt:=top 32
theorem Gn:Zp ["one", "other", "odd", "word"] ["one", "other"] (Zi Wa):={}
theorem ZlJ {f:Addr}{fd:FuncData} (F:Ym K "multiplied" "multiplied" Wa f fd) (ZcT:Yi P w K mg base 1 "put" ["odd", "words"] ZhN) (Jf:mg "sorted" = none):ZX P w K mg base J4 2 f fd ["one", "other"] Zgu:=by
 refine F.ok Gn (fun vs H Q E h=>?_) (fun cdv A outer s H vs Q E hr h=>?_)
 ·obtain ⟨a,b,L,M,rfl,_⟩:=h
  rfl
 ·obtain ⟨a,b,L,M,rfl,ha,hb,gL,gM,k⟩:=h
  refine ⟨_,(Zd (Zq (i:=2) Gn.nd rfl (Or.inl rfl) ZfE)
   (Zd (Z5 PassesOwn.never rfl (ZC (K:=K) rfl (pv 0)) (Zm (i:=3) Gn.nd rfl (Or.inr rfl)) (Zh (Ye (Zk ZcT hr (Za (pv 2) (Za (Gy (Ls:=["behind"]) (Fs:=["word"]) (fi:=[3]) (ZO.of (show Yn ["one", "other", "odd", "word"] (Zi Wa) _ ["word"] [3]=true by decide +kernel)) rfl (ZC (K:=K) rfl (pv 1)) (fun cl C s3 H3 ex=>⟨(Zm (i:=0) (show ((["behind"]:List Str)++(["word"]:List Str)).Nodup by decide +kernel) rfl (Or.inl rfl)),Z8,(Zn Zlz (pv 1) (pv 0))⟩)) Zc))))))
   (Zh (Zr (Zy (Zaa rfl hr.units) (by rfl) Jf boot_sorted (Za (pv 2) Zc)))))),?_⟩
  intro d hd
  have s0:Ze H (upd H d (.dT [])):=Ze.laid hd
  have d0:DOd (upd H d (.dT [])) d []:=⟨[],[],Zb,rfl,ZfC⟩
  obtain ⟨xs,ea,wa⟩:=id ha
  obtain ⟨ys,eb,wb⟩:=id hb
  have lx:=Words.len wa
  have ly:=Words.len wb
  have nL:=gL.1
  have nM:=gM.1
  refine ⟨_,rfl,a,rfl,⟨_,Zo.of (s0 a _ ea)⟩,Yd (K:=K) (a:=a) (xs:=xs) (fun j σ G=>∃v3:Option V,σ = [some (.ref a),some (.ref b),some (.ref d),v3]/\Ze H G/\DOd G d (prd (L.take j) M)) ⟨none,rfl,s0,by simpa [prd] using d0⟩ (fun j σ G _ ⟨_,_,sg,_⟩=>Zo.of (sg a _ ea)) ?_ ?_⟩
  ·rintro j x σ G hx ⟨v3,rfl,sg,dg⟩
   obtain ⟨w,hj,wx⟩:=Words.get wa hx
   have gw:=gL.2 w (List.mem_of_getElem? hj)
   refine ⟨_,rfl,_,rfl,b,rfl,⟨_,Zo.of (sg b _ eb)⟩,Y9 (K:=K) (xs:=ys) (by rw [sizeLine_eq];lia) (fun i zs G'=>Ze G G'/\Words G' zs ((M.take i).map fun v=>w++v)) ⟨Ze.refl _,.nil⟩
    (fun i zs G' ⟨_,z⟩=>by rw [Words.len z,List.length_map,List.length_take];lia) (fun i zs G' ⟨s',_⟩=>Zo.of (s' b _ (sg b _ eb))) ?_ ?_⟩
   ·rintro i y zs G' hy ⟨s',wz⟩
    obtain ⟨v,hv,wy⟩:=Words.get wb hy
    have gv:=gM.2 v (List.mem_of_getElem? hv)
    have wx':Zan G' x w:=(wx.same sg).same s'
    have wy':Zan G' y v:=(wy.same sg).same s'
    have em:(M.take (i+1)).map (fun v=>w++v)=(M.take i).map (fun v=>w++v) ++ [w++v]:=by rw [take_snoc hv,List.map_append];rfl
    dsimp only [GC,Us]
    refine Ul ⟨_,rfl,_,rfl,w,v,wx',wy',by rw [sizeLine_eq];lia,fun z=>⟨s',?_⟩,fun z=>⟨s',?_⟩,fun p hp=>⟨s'.step hp,?_⟩⟩
    ·rw [em];refine Words.snoc wz ?_;rw [z];exact wy'
    ·rw [em];refine Words.snoc wz ?_;rw [z,List.append_nil];exact wx'
    ·rw [em];exact Words.snoc (Words.same (Ze.laid hp) wz) ⟨p,rfl,Zb⟩
   ·rintro zs G' ⟨s',wz⟩ D hD
    rw [List.take_of_length_le (by lia)] at wz
    have s2:Ze G' (upd G' D (.lst zs)):=Ze.laid hD
    have s3:Ze G (upd G' D (.lst zs)):=s'.trans s2
    have dg2:DOd (upd G' D (.lst zs)) d (prd (L.take j) M):=let ⟨kvs,ks,e,r⟩:=dg;⟨kvs,ks,s3 d _ e,r⟩
    refine ⟨d,D,_,_,rfl,dg2,⟨zs,Zb,Words.same s2 wz⟩,?_,fun G2 f2 d2=>?_⟩
    ·have h1:(L.take j).length*M.length<=1000*1000:=Nat.mul_le_mul (by rw [List.length_take];lia) nM
     rw [Zb5,List.length_map]
     lia
    ·refine ⟨_,rfl,fun c o e=>f2 c o (s3 c o (sg c o e)) (Zf e hd),?_⟩
     rw [Zj7 hj]
     exact d2
  ·rintro σ G ⟨v3,rfl,sg,dg⟩
   rw [List.take_of_length_le (by lia)] at dg
   obtain ⟨kvs,ks,ed,ek,ok⟩:=dg
   refine ⟨_,rfl,d,kvs,ks,rfl,ed,ek,fun l zs vs hl pm hw rs=>?_⟩
   have s3:Ze G (upd G l (.lst zs)):=Ze.laid hl
   exact k l _ vs (sg.free hl) (sg.trans s3) ⟨zs,Zb,Words.same s3 hw⟩ (ok.odd pm rs)
def Zb6:Stmt->List Stmt
 | .ClassDef _ _ _ body ..=>body
 | _=>[]
def ZbJ (H:Hp) (C x:Addr):Prop:=∃(dx:Addr) (fs:List (Str×V)),H x=some (.ins C dx fs)/\fs = []
theorem ZfH {H H':Hp}{C x:Addr} (s:Ze H H') (h:ZbJ H C x):ZbJ H' C x:=let ⟨dx,fs,e,q⟩:=h;⟨dx,fs,s _ _ e,q⟩
def Za1 (C:Addr):Sp:=fun vs H Q _=>∃x:Addr,vs = [.ref x] /\ ∀(p:Addr) (H':Hp),H p=none->Ze H H'->WL H' p []->Q (.ref p) H'
def Zgj (C:Addr):Sp:=fun vs H Q _=>∃x:Addr,vs = [.ref x] /\ ∀(p:Addr) (H':Hp),H p=none->Ze H H'->WL H' p [[]]->Q (.ref p) H'
def Zcf:Sp:=fun vs H Q _=>∃(x a b:Addr) (L M:WS),vs = [.ref x,.ref a,.ref b]/\WL H a L/\WL H b M/\L.length+M.length<=2000000 /\ ∀(p:Addr) (H':Hp),H p=none->Ze H H'->WL H' p (Jb L M)->Q (.ref p) H'
def ZaT:Sp:=fun vs H Q _=>∃(x a b:Addr) (L M:WS),vs = [.ref x,.ref a,.ref b]/\WL H a L/\WL H b M/\L2.Gd 1000 100000 L/\L2.Gd 1000 100000 M /\ ∀(p:Addr) (H':Hp),H p=none->Ze H H'->WL H' p (Yl L M)->Q (.ref p) H'
abbrev JT:Stmt:=(Zb6 (top 35)).getD 0 (.Pass ⟨0,0,0,0⟩)
theorem ZaY:Zp ["self"] ["self"] (Zi JT):={}
theorem Zh9 {C:Addr}{f:Addr}{fd:FuncData} (F:Ym K "nought" "WordWay.nought" JT f fd):ZX P w K mg base J4 1 f fd ["self"] (Za1 C):=by
 refine F.ok ZaY (fun vs H Q E h=>?_) (fun cdv A outer s H vs Q E hr h=>?_)
 ·obtain ⟨x,rfl,_⟩:=h
  rfl
 ·obtain ⟨x,rfl,k⟩:=h
  refine ⟨_,(Zh (Zr (Z6 Zc))),?_⟩
  exact ⟨(by show 0<=sizeLine;decide),fun p hp=>k p _ hp (Ze.laid hp) ⟨[],Zb,.nil⟩⟩
abbrev WM:Stmt:=(Zb6 (top 35)).getD 1 (.Pass ⟨0,0,0,0⟩)
theorem ZbV:Zp ["self"] ["self"] (Zi WM):={}
theorem Zl3 {C:Addr}{f:Addr}{fd:FuncData} (F:Ym K "unit" "WordWay.unit" WM f fd):ZX P w K mg base J4 1 f fd ["self"] (Zgj C):=by
 refine F.ok ZbV (fun vs H Q E h=>?_) (fun cdv A outer s H vs Q E hr h=>?_)
 ·obtain ⟨x,rfl,_⟩:=h
  rfl
 ·obtain ⟨x,rfl,k⟩:=h
  refine ⟨_,(Zh (Zr (Z6 (Za (JP Zc) Zc)))),?_⟩
  refine ⟨(by show 0<=sizeLine;decide),fun t ht=>⟨(by show 1<=sizeLine;decide),fun p hp=>k p _ ((Ze.laid ht).free hp) ((Ze.laid ht).step hp) ⟨_,Zb,.cons ⟨t,rfl,Ze.laid hp t _ Zb⟩ .nil⟩⟩⟩
abbrev Wx:Stmt:=(Zb6 (top 35)).getD 2 (.Pass ⟨0,0,0,0⟩)
theorem ZbU:Zp ["self", "one", "other"] ["self", "one", "other"] (Zi Wx):={}
theorem Zjs {f:Addr}{fd:FuncData} (F:Ym K "plus" "WordWay.plus" Wx f fd) (UZ:Yi P w K mg base 2 "added" ["one", "other"] Zb4):ZX P w K mg base J4 3 f fd ["self", "one", "other"] Zcf:=by
 refine F.ok ZbU (fun vs H Q E h=>?_) (fun cdv A outer s H vs Q E hr h=>?_)
 ·obtain ⟨x,a,b,L,M,rfl,_⟩:=h
  rfl
 ·obtain ⟨x,a,b,L,M,rfl,ha,hb,hz,k⟩:=h
  refine ⟨_,(Zh (Zr (Zk UZ hr (Za (pv 1) (Za (pv 2) Zc))))),?_⟩
  exact ⟨_,rfl,_,rfl,a,b,L,M,rfl,ha,hb,hz,fun p H' r fp s' wr od=>k p H' fp s' (by have:=od.canon;subst this;exact wr)⟩
abbrev J2:Stmt:=(Zb6 (top 35)).getD 3 (.Pass ⟨0,0,0,0⟩)
theorem Zbi:Zp ["self", "one", "other"] ["self", "one", "other"] (Zi J2):={}
theorem ZiB {f:Addr}{fd:FuncData} (F:Ym K "times" "WordWay.times" J2 f fd) (Ua:Yi P w K mg base 2 "multiplied" ["one", "other"] Zgu):ZX P w K mg base J4 3 f fd ["self", "one", "other"] ZaT:=by
 refine F.ok Zbi (fun vs H Q E h=>?_) (fun cdv A outer s H vs Q E hr h=>?_)
 ·obtain ⟨x,a,b,L,M,rfl,_⟩:=h
  rfl
 ·obtain ⟨x,a,b,L,M,rfl,ha,hb,gL,gM,k⟩:=h
  refine ⟨_,(Zh (Zr (Zk Ua hr (Za (pv 1) (Za (pv 2) Zc))))),?_⟩
  exact ⟨_,rfl,_,rfl,a,b,L,M,rfl,ha,hb,gL,gM,fun p H' r fp s' wr od=>k p H' fp s' (by have:=od.canon;subst this;exact wr)⟩
theorem WW (xs:List V) (k:Nat):ZcQ xs none (some (k:Int))=xs.take k:=by
 unfold ZcQ
 rw [HT.ZfA,HT.Zhm,List.drop_zero,Nat.sub_zero,List.take_eq_take_iff]
 lia
theorem ZcE (xs:List V) (k:Nat):ZcQ xs (some (k:Int)) none=xs.drop k:=by
 unfold ZcQ
 rw [HT.ZfA,HT.Zhm]
 by_cases h:k<=xs.length
 ·rw [Nat.min_eq_left h,List.take_of_length_le (by rw [List.length_drop];lia)]
 ·rw [Nat.min_eq_right (by lia),Nat.sub_self,List.take_zero,List.drop_of_length_le (by lia)]
def Zm1 (k:Nat) (f:Nat->WS):Nat->WS:=fun j=>if j<k then f j else if j<k+2 then [] else f (j-2)
theorem Zjg {α:Type}{xs:List α}{a b:α}{k:Nat} (hk:k<=xs.length) {j:Nat}{x:α} (h:(xs.take k ++ [a,b]++xs.drop k)[j]? = some x):(j<k/\xs[j]? = some x)∨(j=k/\x=a)∨(j=k+1/\x=b)∨(k+2<=j/\xs[j-2]? = some x):=by
 have lt:(xs.take k).length=k:=by rw [List.length_take];lia
 by_cases h1:j<k
 ·rw [List.append_assoc,List.getElem?_append_left (by lia),List.getElem?_take,if_pos h1] at h
  exact .inl ⟨h1,h⟩
 ·by_cases h2:j<k+2
  ·rw [List.getElem?_append_left (by rw [List.length_append,lt];simp;lia),List.getElem?_append_right (by lia),lt] at h
   by_cases h3:j=k
   ·subst h3;rw [Nat.sub_self] at h;cases h;exact .inr (.inl ⟨rfl,rfl⟩)
   ·have:j=k+1:=by lia
    subst this
    rw [show k+1-k=1 by lia] at h
    cases h
    exact .inr (.inr (.inl ⟨rfl,rfl⟩))
  ·rw [List.getElem?_append_right (by rw [List.length_append,lt];simp;lia),List.length_append,lt,List.getElem?_drop] at h
   refine .inr (.inr (.inr ⟨by lia,?_⟩))
   rw [<- h]
   congr 1
   simp
   lia
theorem ZhE {α:Type}{xs:List α}{a b:α}{k:Nat} (hk:k<=xs.length):(xs.take k ++ [a,b]++xs.drop k).length=xs.length+2:=by
 simp;lia
theorem ZlG {H:Hp}{A:List Addr}{n k:Nat}{F:Nat->Nat->WS}{r0 r1:Addr}{w:Nat} (x:Mat H A n w F) (y:Mat H [r0,r1] 2 w fun _ _=>[]) (hk:k<=n) (h0:r0∉A) (h1:r1∉A):
  Mat H (A.take k ++ [r0,r1]++A.drop k) (n+2) w fun i j=>if i<k then F i j else if i<k+2 then [] else F (i-2) j:=by
 have hl:=x.1
 refine ⟨by rw [ZhE (by lia),hl],?_,fun i r h=>?_⟩
 ·have p:(A.take k ++ [r0,r1]++A.drop k).Perm ([r0,r1]++A):=by
   refine (List.Perm.append_right _ List.perm_append_comm).trans ?_
   rw [List.append_assoc,List.take_append_drop]
  rw [p.nodup_iff,List.nodup_append]
  refine ⟨y.2.1,x.2.1,fun a ha b hb e=>?_⟩
  subst e
  rcases List.mem_cons.mp ha with rfl | ha
  ·exact h0 hb
  ·rw [List.mem_singleton.mp ha] at hb;exact h1 hb
 ·rcases Zjg (by lia) h with ⟨a,b⟩ | ⟨a,b⟩ | ⟨a,b⟩ | ⟨a,b⟩
  ·exact (x.2.2 i r b).congr fun j _=>by dsimp only;rw [if_pos a]
  ·subst a b
   exact (y.2.2 0 r rfl).congr fun j _=>by dsimp only;rw [if_neg (by lia),if_pos (by lia)]
  ·subst a b
   exact (y.2.2 1 r rfl).congr fun j _=>by dsimp only;rw [if_neg (by lia),if_pos (by lia)]
  ·exact (x.2.2 (i-2) r b).congr fun j _=>by dsimp only;rw [if_neg (by lia),if_neg (by lia)]
def Sep (a:Addr) (H:Hp) (A:List Addr):Prop:=∀r∈A,r≠a /\ ∀(xs:List V) (e:Addr),H r=some (.lst xs)->V.ref e∈xs->e≠a
theorem Zfh {H:Hp}{A:List Addr}{m n:Nat}{F:Nat->Nat->WS}{a:Addr}{us vs:List V} (x:Mat H A m n F) (s:Sep a H A) (ha:H a=some (.lst us)):Mat (upd H a (.lst vs)) A m n F:=by
 refine ⟨x.1,x.2.1,fun i r h=>?_⟩
 obtain ⟨xs,e1,l,c⟩:=x.2.2 i r h
 obtain ⟨n1,n2⟩:=s r (List.mem_of_getElem? h)
 refine ⟨xs,by rw [Zj n1];exact e1,l,fun j y hy=>?_⟩
 obtain ⟨e,p,q⟩:=c j y hy
 refine ⟨e,p,q.upd ha (n2 xs e e1 (by rw [<- p];exact List.mem_of_getElem? hy))⟩
theorem Zlx {G H:Hp}{A:List Addr}{m n:Nat}{F:Nat->Nat->WS}{a:Addr} (x:Mat G A m n F) (s:Ze G H) (ha:G a=none):Sep a H A:=fun r hr=>by
 obtain ⟨i,hi,rfl⟩:=List.getElem_of_mem hr
 obtain ⟨xs,e1,l,c⟩:=x.2.2 i A[i] (by simp)
 refine ⟨Zf e1 ha,fun ys e h he=>?_⟩
 rw [s _ _ e1] at h
 have hxy:xs=ys:=by injection h with h;injection h
 subst hxy
 obtain ⟨j,hj⟩:=List.mem_iff_getElem?.mp he
 obtain ⟨e',p,us,q,_⟩:=c j _ hj
 cases p
 exact Zf q ha
def ZlY (B G:Hp) (Z:List Addr):Prop:=∀r∈Z,B r=none /\ ∃ws,G r=some (.lst ws) /\ ∀e,V.ref e∈ws->B e=none
theorem ZdL {B G G':Hp}{Z:List Addr} (s:Ze G G') (h:ZlY B G Z):ZlY B G' Z:=fun r hr=>let ⟨a,ws,b,c⟩:=h r hr;⟨a,ws,s _ _ b,c⟩
theorem ZlR {B H:Hp}{A:List Addr}{a:Addr}{o:HO} (x:ZlY B H A) (ha:B a=some o):Sep a H A:=fun r hr=>by
 obtain ⟨h1,ws,h2,h3⟩:=x r hr
 refine ⟨(fun z=>by rw [z,ha] at h1;cases h1),fun xs e hx he z=>?_⟩
 rw [h2] at hx
 have hxy:ws=xs:=by injection hx with hx;injection hx
 subst hxy
 have:=h3 e he
 rw [z,ha] at this;cases this
def ZeN (C:Addr):Sp:=fun vs H Q _=>∃(tA x:Addr) (n k:Nat) (F:Nat->Nat->WS),vs = [.ref tA,.int (k:Int),.ref x]/\ZbJ H C x/\Tab H tA n F/\k<=n/\n<=500 /\ ∀(p:Addr) (H':Hp),H p=none->Ze H H'->Tab H' p (n+2) (UJ k F)->Q (.ref p) H'
abbrev Y0:Stmt:=top 25
theorem Uh:Zp ["table", "k", "way", "rows"] ["table", "k", "way"] (Zi Y0):={}
theorem ZkD {C:Addr}{f:Addr}{fd:FuncData} (F:Ym K "behind_birth" "behind_birth" Y0 f fd) (c_way:Cls K C) (J1:ZaP P w K mg base 1 C "nought" ["self"] (Za1 C)) (ZgQ:ZaP P w K mg base 1 C "unit" ["self"] (Zgj C)) (ZT:mg "range" = none) (ZL:mg "len" = none):ZX P w K mg base J4 2 f fd ["table", "k", "way"] (ZeN C):=by
 refine F.ok Uh (fun vs H Q E h=>?_) (fun cdv A outer s H vs Q E hr h=>?_)
 ·obtain ⟨tA,x,n,k,F,rfl,_⟩:=h
  rfl
 ·obtain ⟨tA,x,n,k,F,rfl,hw,hT,hk,hn,fin⟩:=h
  refine ⟨_,(Zd (Zad (i:=3) Uh.nd rfl (Or.inl rfl) (Ls:=["row"]) (Fs:=["k", "way"]) (fi:=[1,2]) (ZO.of (show Yn ["table", "k", "way", "rows"] (Zi Y0) _ ["k", "way"] [1,2]=true by decide +kernel)) rfl (ZC (K:=K) rfl (pv 0)) (fun cl C s3 H3 ex=>⟨(Zm (i:=0) (show ((["row"]:List Str)++(["k", "way"]:List Str)).Nodup by decide +kernel) rfl (Or.inl rfl)),Z8,(Zn Jm (Zn Jm (Yp (Yq (K:=K) rfl) (pv 0) YT (Z9 (pv 1))) (Z6 (Za (UA J1 c_way (hr.mono (by decide)) (pv 2)) (Za (UA J1 c_way (hr.mono (by decide)) (pv 2)) Zc)))) (Yp (Yq (K:=K) rfl) (pv 0) (Z9 (pv 1)) YT))⟩))
   (Zd (Yv (Gy (Ls:=["new"]) (Fs:=["way", "table"]) (fi:=[2,0]) (ZO.of (show Yn ["table", "k", "way", "rows"] (Zi Y0) _ ["way", "table"] [2,0]=true by decide +kernel)) rfl (YA (by rfl) ZT (Za Zg Zc)) (fun cl C s3 H3 ex=>⟨(Zm (i:=0) (show ((["new"]:List Str)++(["way", "table"]:List Str)).Nodup by decide +kernel) rfl (Or.inl rfl)),Z8,(Gy (Ls:=["j"]) (Fs:=["way"]) (fi:=[1]) (ZO.of (by rfl)) rfl (YA (by rfl) ZT (Za (Zn ZF (Zy (ZJ (K:=K) rfl) (by rfl) ZL PySem.boot_len (Za (pv 2) Zc)) Zg) Zc)) (fun cl C s3 H3 ex=>⟨(Zm (i:=0) (show ((["j"]:List Str)++(["way"]:List Str)).Nodup by decide +kernel) rfl (Or.inl rfl)),Z8,(UA J1 c_way (hr.mono (by decide)) (pv 1))⟩))⟩)) (ZjA (pv 3) (Z9 (pv 1)) (Z9 (pv 1))))
   (Zd (Yv (UA ZgQ c_way (hr.mono (by decide)) (pv 2)) (YO (Zz (Zl (K:=K) rfl) (pv 3) (pv 1) (fun _ _=>rfl)) (Zn ZF (pv 1) Zg) set_list))
   (Zh (Zr (pv 3)))))),?_⟩
  obtain ⟨dx,fs,ew,rfl⟩:=id hw
  obtain ⟨A,et,mt⟩:=id hT
  have lA:=mt.1
  have z2:2<=sizeLine:=by decide
  refine ⟨_,rfl,tA,rfl,⟨_,Zo.of et⟩,Y9 (K:=K) (xs:=A.map V.ref) (by rw [List.length_map,sizeLine_eq];lia) (fun i zs G=>Ze H G /\ ∃Z:List Addr,zs=Z.map V.ref/\Mat G Z i (n+2) fun i j=>Zm1 k (F i) j) ⟨Ze.refl _,[],rfl,ZaZ⟩
   (fun i zs G ⟨_,Z,e,m⟩=>by rw [e,List.length_map,m.1];exact Nat.le_refl _) (fun i zs G ⟨s',_⟩=>Zo.of (s' tA _ et)) ?_ ?_⟩
  ·rintro i v zs G hv ⟨sG,Z,rfl,mZ⟩
   rw [List.getElem?_map] at hv
   obtain ⟨r,hr',rfl⟩:=Option.map_eq_some_iff.mp hv
   obtain ⟨xs,ex,lx,hx⟩:=mt.2.2 i r hr'
   dsimp only [GC,Us]
   refine Ul ?_
   refine ⟨_,rfl,_,rfl,_,rfl,r,xs,rfl,Zo.of (sG r _ ex),fun p1 f1=>?_⟩
   rw [WW]
   have s1:Ze G (upd G p1 (.lst (xs.take k))):=Ze.laid f1
   refine ⟨_,rfl,x,dx,[],rfl,s1 x _ (sG x _ ew),rfl,x,rfl,fun q1 G1 fq1 t1 wq1=>?_⟩
   have S1:=(sG.trans s1).trans t1
   refine ⟨_,rfl,x,dx,[],rfl,S1 x _ ew,rfl,x,rfl,fun q2 G2 fq2 t2 wq2=>?_⟩
   have S2:=S1.trans t2
   refine ⟨z2,fun q3 f3=>?_⟩
   have s3:Ze G2 (upd G2 q3 (.lst [.ref q1,.ref q2])):=Ze.laid f3
   refine ⟨p1,q3,_,_,rfl,rfl,s3 _ _ (t2 _ _ (t1 _ _ Zb)),Zb,(by rw [List.length_take,sizeLine_eq];simp;lia),fun p4 f4=>?_⟩
   have S4:=(S2.trans s3).step (o:=.lst (xs.take k ++ [.ref q1,.ref q2])) f4
   refine ⟨_,rfl,_,rfl,_,rfl,r,xs,rfl,Zo.of (S4 r _ ex),fun p5 f5=>?_⟩
   rw [ZcE]
   have S5:=S4.step (o:=.lst (xs.drop k)) f5
   refine ⟨p4,p5,_,_,rfl,rfl,Ze.laid f5 _ _ Zb,Zb,(by rw [List.length_append,List.length_take,List.length_drop,sizeLine_eq];simp;lia),fun D fD=>?_⟩
   have S6:=S5.step (o:=.lst (xs.take k ++ [.ref q1,.ref q2]++xs.drop k)) fD
   have U:Ze G2 _:=((s3.step (o:=.lst (xs.take k ++ [.ref q1,.ref q2])) f4).step (o:=.lst (xs.drop k)) f5).step (o:=.lst (xs.take k ++ [.ref q1,.ref q2]++xs.drop k)) fD
   have W1:=((s1.trans t1).trans t2).trans U
   refine ⟨S6,Z ++ [D],by rw [List.map_append];rfl,(mZ.same W1).snoc ((mZ.same (((((s1.trans t1).trans t2).trans s3).step f4).step f5)).fresh fD) ⟨_,Zb,by rw [ZhE (by lia),lx],fun j y hy=>?_⟩⟩
   unfold Zm1
   rcases Zjg (by lia) hy with ⟨a,b⟩ | ⟨a,b⟩ | ⟨a,b⟩ | ⟨a,b⟩
   ·obtain ⟨e,p,q⟩:=hx j y b
    exact ⟨e,p,by dsimp only;rw [if_pos a];exact q.same S6⟩
   ·subst a b
    exact ⟨q1,rfl,by dsimp only;rw [if_neg (by lia),if_pos (by lia)];exact (wq1.same t2).same U⟩
   ·subst a b
    exact ⟨q2,rfl,by dsimp only;rw [if_neg (by lia),if_pos (by lia)];exact wq2.same U⟩
   ·obtain ⟨e,p,q⟩:=hx (j-2) y b
    exact ⟨e,p,by dsimp only;rw [if_neg (by lia),if_neg (by lia)];exact q.same S6⟩
  rintro zs G ⟨sG,Z,rfl,mZ⟩ rA fA
  rw [List.length_map,lA] at mZ
  obtain ⟨G1,hG1⟩:∃G1,upd G rA (.lst (Z.map V.ref))=G1:=⟨_,rfl⟩
  have sA:Ze G G1:=by rw [<- hG1];exact Ze.laid fA
  have eA:G1 rA=some (.lst (Z.map V.ref)):=by rw [<- hG1];exact Zb
  rw [hG1]
  have S1:=sG.trans sA
  have mZ1:=mZ.same sA
  have fAH:H rA=none:=sG.free fA
  have e2:(((A.map V.ref).length:Int)+2).toNat=n+2:=by rw [List.length_map];lia
  refine ⟨2,rfl,by decide,by decide,Zc6 (n:=2) z2 (fun i zs G=>Ze G1 G /\ ∃Z2:List Addr,zs=Z2.map V.ref/\(Mat G Z2 i (n+2) fun _ _=>[])/\ZlY G1 G Z2) ⟨Ze.refl _,[],rfl,ZaZ,fun r h=>nomatch h⟩ (fun i zs G ⟨_,Z2,e,m,_⟩=>by rw [e,List.length_map,m.1];exact Nat.le_refl _) ?_ ?_⟩
  ·rintro i zs G2 hi ⟨s2,Z2,rfl,mZ2,nw⟩
   dsimp only [GC,Us]
   refine Ul ?_
   refine ⟨_,rfl,tA,_,rfl,.inl (Zo.of (s2 _ _ (S1 _ _ et))),_,_,rfl,rfl,_,rfl,by rw [List.length_map];lia,by rw [List.length_map];lia,?_⟩
   rw [e2]
   refine Zc6 (n:=n+2) (by rw [sizeLine_eq];lia) (fun j ws G=>Ze G2 G/\ws.length=j /\ ∀(j':Nat) (y:V),ws[j']? = some y -> ∃e,y = .ref e/\WL G e []/\G1 e=none) ⟨Ze.refl _,rfl,fun j' y h=>by simp at h⟩ (fun j ws G ⟨_,e,_⟩=>by rw [e];exact Nat.le_refl _) ?_ ?_
   ·rintro j ws G3 hj ⟨s3,lw,hw3⟩
    dsimp only [GC,Us]
    refine Ul ⟨_,rfl,x,dx,[],rfl,s3 _ _ (s2 _ _ (S1 _ _ ew)),rfl,x,rfl,fun q G4 fq t4 wq=>⟨s3.trans t4,by rw [List.length_append,lw];rfl,fun j' y hy=>?_⟩⟩
    by_cases z:j'<ws.length
    ·rw [List.getElem?_append_left z] at hy
     obtain ⟨e,p,q,q'⟩:=hw3 j' y hy
     exact ⟨e,p,q.same t4,q'⟩
    ·rw [List.getElem?_append_right (by lia)] at hy
     have:j'-ws.length=0:=by
      have:=(List.getElem?_eq_some_iff.mp hy).1
      simp at this;lia
     rw [this] at hy
     cases hy
     exact ⟨q,rfl,wq,(s2.trans s3).free fq⟩
   ·rintro ws G3 ⟨s3,lw,hw3⟩ D fD
    have sD:Ze G3 (upd G3 D (.lst ws)):=Ze.laid fD
    refine ⟨(s2.trans s3).trans sD,Z2 ++ [D],by rw [List.map_append];rfl,(mZ2.same (s3.trans sD)).snoc ((mZ2.same s3).fresh fD) ⟨ws,Zb,lw,fun j y hy=>?_⟩,fun r hr=>?_⟩
    ·obtain ⟨e,p,q,_⟩:=hw3 j y hy
     exact ⟨e,p,q.same sD⟩
    ·rcases List.mem_append.mp hr with hr | hr
     ·exact ZdL (s3.trans sD) nw r hr
     ·rw [List.mem_singleton.mp hr]
      refine ⟨(s2.trans s3).free fD,ws,Zb,fun e he=>?_⟩
      obtain ⟨j,hj⟩:=List.mem_iff_getElem?.mp he
      obtain ⟨e',p,_,q⟩:=hw3 j _ hj
      cases p
      exact q
  rintro zs G2 ⟨s2,Z2,rfl,mZ2,nw⟩ nA fnA
  obtain ⟨r0,r1,rfl⟩:∃r0 r1,Z2 = [r0,r1]:=by
   match Z2,mZ2.1 with
   | [a,b],_=>exact ⟨a,b,rfl⟩
  obtain ⟨G3,hG3⟩:∃G3,upd G2 nA (.lst ([r0,r1].map V.ref))=G3:=⟨_,rfl⟩
  have s3:Ze G2 G3:=by rw [<- hG3];exact Ze.laid fnA
  have enA:G3 nA=some (.lst ([r0,r1].map V.ref)):=by rw [<- hG3];exact Zb
  rw [hG3]
  have s13:=s2.trans s3
  have lZ:=mZ1.1
  have nrA:rA≠nA:=fun z=>by
   have:=s2 _ _ eA
   rw [z,fnA] at this;cases this
  refine ⟨_,rfl,_,rfl,_,rfl,_,rfl,_,rfl,rA,nA,_,_,_,_,rfl,rfl,rfl,rfl,s13 _ _ eA,enA,nrA,by lia,by lia,by rw [List.length_map];lia,by rw [List.length_map,sizeLine_eq];simp;lia,?_⟩
  rw [Int.toNat_natCast,<- List.map_take,<- List.map_drop,<- List.map_append,<- List.map_append]
  have old:∀r∈Z,G1 r≠none:=fun r hr z=>by
   obtain ⟨i,hi,rfl⟩:=List.getElem_of_mem hr
   obtain ⟨xs,e1,_⟩:=mZ1.2.2 i Z[i] (by simp)
   rw [z] at e1;cases e1
  have fr0:r0∉Z:=fun z=>old r0 z (nw r0 (by simp)).1
  have fr1:r1∉Z:=fun z=>old r1 z (nw r1 (by simp)).1
  have m3:=ZlG (mZ1.same s13) (mZ2.same s3) hk fr0 fr1
  have sp:Sep rA G3 (Z.take k ++ [r0,r1]++Z.drop k):=fun r hr=>by
   rw [List.append_assoc,List.mem_append,List.mem_append] at hr
   have o:=Zlx mZ (sA.trans s13) fA
   rcases hr with hr | hr | hr
   ·exact o r (List.mem_of_mem_take hr)
   ·exact ZlR (ZdL s3 nw) eA r hr
   ·exact o r (List.mem_of_mem_drop hr)
  obtain ⟨G4,hG4⟩:∃G4,upd G3 rA (.lst ((Z.take k ++ [r0,r1]++Z.drop k).map V.ref))=G4:=⟨_,rfl⟩
  rw [hG4]
  have m4:=Zfh (vs:=(Z.take k ++ [r0,r1]++Z.drop k).map V.ref) m3 sp (s13 _ _ eA)
  rw [hG4] at m4
  have e4:G4 rA=some (.lst ((Z.take k ++ [r0,r1]++Z.drop k).map V.ref)):=by rw [<- hG4];exact Zb
  have S4:Ze H G4:=by rw [<- hG4];exact (S1.trans s13).put fAH
  refine ⟨_,rfl,x,dx,[],rfl,S4 _ _ ew,rfl,x,rfl,fun u G5 fu t5 wu=>?_⟩
  have m5:=m4.same t5
  have hk0:(Z.take k ++ [r0,r1]++Z.drop k)[k]? = some r0:=by
   rw [List.append_assoc,List.getElem?_append_right (by rw [List.length_take];lia),List.length_take]
   rw [show k-min k Z.length=0 by lia]
   rfl
  obtain ⟨xs,ex,lx,_⟩:=m5.2.2 k r0 hk0
  refine ⟨_,rfl,_,rfl,rA,_,_,_,rfl,rfl,Zo.of (t5 _ _ e4),Zv (v:=V.ref r0) (by rw [List.getElem?_map,hk0];rfl),?_⟩
  refine ⟨_,rfl,_,_,rfl,rfl,r0,xs,_,k+1,rfl,rfl,ex,?_,?_⟩
  ·rw [lx]
   show ixN (n+2) ((k:Int)+1)=some (k+1)
   rw [show (k:Int)+1=((k+1:Nat):Int) by lia]
   exact JU (by lia)
  have m6:=m5.put hk0 ex (show k+1<n+2 by lia) wu
  have fr0H:H r0=none:=S1.free (nw r0 (by simp)).1
  refine ⟨_,rfl,fin rA _ fAH ((S4.trans t5).put fr0H) ⟨_,?_,m6.congr fun i j hi hj=>?_⟩⟩
  ·rw [Zj (fun z=>by have:=(nw r0 (by simp)).1;rw [<- z,eA] at this;cases this)]
   exact t5 _ _ e4
  ·unfold Zaj UJ Zm1
   dsimp only
   by_cases a:i=k/\j=k+1
   ·rw [if_pos a,if_pos a]
   ·rw [if_neg a,if_neg a]
    by_cases b:i<k
    ·rw [if_pos b]
     by_cases c:j<k
     ·rw [if_pos c,if_neg (by lia),if_pos b,if_pos c]
     ·rw [if_neg c]
      by_cases d:j<k+2
      ·rw [if_pos d,if_pos (by lia)]
      ·rw [if_neg d,if_neg (by lia),if_pos b,if_neg c]
    ·rw [if_neg b]
     by_cases b':i<k+2
     ·rw [if_pos b',if_pos (by lia)]
     ·rw [if_neg b']
      by_cases c:j<k
      ·rw [if_pos c,if_neg (by lia),if_neg b,if_pos c]
      ·rw [if_neg c]
       by_cases d:j<k+2
       ·rw [if_pos d,if_pos (by lia)]
       ·rw [if_neg d,if_neg (by lia),if_neg b,if_neg c]
theorem YC {α:Type}{xs:List α}{i:Int}{j:Nat}{v:α} (e:i=(j:Int)) (h:xs[j]? = some v):atI xs i=some v:=by rw [e];exact Zv h
theorem Zbt {n:Nat}{i:Int}{j:Nat} (e:i=(j:Int)) (h:j<n):ixN n i=some j:=by rw [e];exact JU h
structure Wr (H G:Hp) (rA:Addr) (Z:List Addr) (n:Nat) (F:Nat->Nat->WS):Prop where
 sm:Ze H G
 eA:G rA=some (.lst (Z.map V.ref))
 mat:Mat G Z n n F
 fr:∀r∈Z,H r=none/\r≠rA
 fA:H rA=none
theorem Zcc {H G G':Hp}{rA:Addr}{Z:List Addr}{n:Nat}{F:Nat->Nat->WS} (w:Wr H G rA Z n F) (s:Ze G G'):Wr H G' rA Z n F:=⟨w.sm.trans s,s _ _ w.eA,w.mat.same s,w.fr,w.fA⟩
theorem Wu {H G:Hp}{rA:Addr}{Z:List Addr}{n:Nat}{F F':Nat->Nat->WS} (w:Wr H G rA Z n F) (h:∀i j,i<n->j<n->F i j=F' i j):Wr H G rA Z n F':=⟨w.sm,w.eA,w.mat.congr h,w.fr,w.fA⟩
theorem Zbe {H G:Hp}{rA e:Addr}{Z:List Addr}{n i j:Nat}{F:Nat->Nat->WS}{L:WS} (w:Wr H G rA Z n F) (hi:i<n) (hj:j<n) (we:WL G e L):
  ∃(r:Addr) (xs:List V),(Z.map V.ref)[i]? = some (.ref r)/\G r=some (.lst xs)/\xs.length=n/\Wr H (upd G r (.lst (xs.set j (.ref e)))) rA Z n (Zaj F i j L):=by
 have hl:=w.mat.1
 have hz:Z[i]? = some (Z[i]'(by lia)):=by simp
 obtain ⟨xs,a,b,c⟩:=w.mat.2.2 i _ hz
 have f:=w.fr _ (List.mem_of_getElem? hz)
 refine ⟨Z[i]'(by lia),xs,by rw [List.getElem?_map,hz];rfl,a,b,w.sm.put f.1,?_,w.mat.put hz a hj we,w.fr,w.fA⟩
 rw [Zj (Ne.symm f.2)];exact w.eA
theorem Zg0 {H G:Hp}{rA:Addr}{Z:List Addr}{n:Nat}{F:Nat->Nat->WS} (w:Wr H G rA Z n F):Tab G rA n F:=⟨Z,w.eA,w.mat⟩
theorem Ug {G:Hp}{tA:Addr}{n i j:Nat}{F:Nat->Nat->WS} (x:Tab G tA n F) (hi:i<n) (hj:j<n):∃(ys:List V) (r:Addr) (xs:List V) (e:Addr),G tA=some (.lst ys)/\ys[i]? = some (.ref r)/\G r=some (.lst xs)/\xs[j]? = some (.ref e)/\WL G e (F i j):=by
 obtain ⟨ys,r,a,_,b,c⟩:=x.row hi
 obtain ⟨xs,e,d,_,e1,e2⟩:=c.at hj
 exact ⟨ys,r,xs,e,a,b,d,e1,e2⟩
theorem Zj3 {H G:Hp}{Z:List Addr}{n:Nat}{F:Nat->Nat->WS}{rA:Addr} (sm:Ze H G) (m:Mat G Z n n F) (fr:∀r∈Z,H r=none) (fA:G rA=none):Wr H (upd G rA (.lst (Z.map V.ref))) rA Z n F:=
 ⟨sm.step fA,Zb,m.same (Ze.laid fA),fun r hr=>⟨fr r hr,fun z=>m.fresh fA (z ▸ hr)⟩,sm.free fA⟩
def TGd (n b:Nat) (F:Nat->Nat->WS):Prop:=∀i j,i<n->j<n->L2.Gd 200 b (F i j)
theorem Wi {t:Int} (h:0<=t) {n m:Nat} (hn:1<=n) (hm:1<=m):L2.Gd n m [[t]]:=⟨hn,fun w hw=>by
 rw [List.mem_singleton.mp hw]
 exact ⟨hm,fun k hk=>by rw [List.mem_singleton.mp hk];exact h⟩⟩
theorem WA {A B:WS}{n m n' m':Nat} (a:L2.Gd n m A) (b:L2.Gd n' m' B):L2.Gd (n*n') (m+m') (Yl A B):=(Yb _).gd (a.prd b)
theorem ZhZ {A B:WS}{n m n' m':Nat} (a:L2.Gd n m A) (b:L2.Gd n' m' B):L2.Gd (n+n') (max m m') (Jb A B):=(Yb _).gd (a.app b)
def cr1 (k:Nat) (t:Int) (F:Nat->Nat->WS) (c:Nat):Nat->Nat->WS:=fun i j=>
 if i=k/\j=k+1 then [] else if i=k/\k+2<=j/\j<k+2+c then F (k+1) j else if i=k+1/\k+2<=j/\j<k+2+c then Jb (F k j) (Yl [[t]] (F (k+1) j)) else F i j
def cr2 (k n:Nat) (t:Int) (F:Nat->Nat->WS) (c:Nat):Nat->Nat->WS:=fun i j=>
 if i<c/\j=k+1 then F i k else if i<c/\j=k then Jb (F i (k+1)) (Yl (F i k) [[t]]) else cr1 k t F (n-(k+2)) i j
theorem Zjh (k c:Nat) (t:Int) (F:Nat->Nat->WS) (i j:Nat):Zaj (Zaj (cr1 k t F c) k (k+2+c) (F (k+1) (k+2+c))) (k+1) (k+2+c) (Jb (F k (k+2+c)) (Yl [[t]] (F (k+1) (k+2+c)))) i j=cr1 k t F (c+1) i j:=by
 unfold Zaj cr1
 by_cases e:j=k+2+c
 ·subst e
  by_cases a:i=k+1
  ·subst a
   rw [if_pos ⟨rfl,rfl⟩,if_neg (by lia),if_neg (by lia),if_pos (by lia)]
  ·rw [if_neg (by lia)]
   by_cases b:i=k
   ·subst b
    rw [if_pos ⟨rfl,rfl⟩,if_neg (by lia),if_pos (by lia)]
   ·rw [if_neg (by lia),if_neg (by lia),if_neg (by lia),if_neg (by lia),if_neg (by lia),if_neg (by lia),if_neg (by lia)]
 ·rw [if_neg (by lia),if_neg (by lia)]
  have h1:(i=k/\k+2<=j/\j<k+2+c) ↔ (i=k/\k+2<=j/\j<k+2+(c+1)):=by lia
  have h2:(i=k+1/\k+2<=j/\j<k+2+c) ↔ (i=k+1/\k+2<=j/\j<k+2+(c+1)):=by lia
  simp only [h1,h2]
theorem Zjp (k n c:Nat) (t:Int) (F:Nat->Nat->WS) (i j:Nat):Zaj (Zaj (cr2 k n t F c) c (k+1) (F c k)) c k (Jb (F c (k+1)) (Yl (F c k) [[t]])) i j=cr2 k n t F (c+1) i j:=by
 unfold Zaj cr2
 grind
theorem Zlu (k n:Nat) (t:Int) (F:Nat->Nat->WS) (i j:Nat) (hj:j<n):cr2 k n t F k i j=J3 k t F i j:=by
 unfold cr2 cr1 J3
 grind
def ZeA (C:Addr):Sp:=fun vs H Q _=>∃(tA nA x:Addr) (n k:Nat) (t:Int) (F:Nat->Nat->WS),vs = [.ref tA,.int (k:Int),.ref nA,.ref x]/\ZbJ H C x/\Tab H tA n F/\WL H nA [[t]]/\0<=t/\k+1<n/\n<=500/\TGd n 50000 F /\
 ∀(p:Addr) (H':Hp),H p=none->Ze H H'->Tab H' p n (J3 k t F)->Q (.ref p) H'
abbrev YR:Stmt:=top 26
theorem YE:Zp ["table", "k", "name", "way", "rows", "j", "i"] ["table", "k", "name", "way"] (Zi YR):={}
theorem Zku {C:Addr}{f:Addr}{fd:FuncData} (F:Ym K "behind_crossing" "behind_crossing" YR f fd) (c_way:Cls K C) (J1:ZaP P w K mg base 1 C "nought" ["self"] (Za1 C)) (GI:ZaP P w K mg base 3 C "plus" ["self", "one", "other"] Zcf) (Wj:ZaP P w K mg base 3 C "times" ["self", "one", "other"] ZaT) (ZT:mg "range" = none) (ZL:mg "len" = none) (ZbD:mg "list" = none):ZX P w K mg base J4 4 f fd ["table", "k", "name", "way"] (ZeA C):=by
 refine F.ok YE (fun vs H Q E h=>?_) (fun cdv A outer s H vs Q E hr h=>?_)
 ·obtain ⟨tA,nA,x,n,k,t,F,rfl,_⟩:=h
  rfl
 ·obtain ⟨tA,nA,x,n,k,t,F,rfl,hw,hT,hN,ht,hk,hn,tg,fin⟩:=h
  refine ⟨_,(Zd (Zad (i:=4) YE.nd rfl (Or.inl rfl) (Ls:=["row"]) (Fs:=[]) (fi:=[]) (ZO.of (show Yn ["table", "k", "name", "way", "rows", "j", "i"] (Zi YR) _ [] []=true by decide +kernel)) rfl (ZC (K:=K) rfl (pv 0)) (fun cl C s3 H3 ex=>⟨(Zm (i:=0) (show ((["row"]:List Str)++([]:List Str)).Nodup by decide +kernel) rfl (Or.inl rfl)),Z8,(Zbu (Zc4 (K:=K) rfl) (by rfl) ZbD boot_list (Za (pv 0) Zc))⟩))
   (Zd (Yv (UA J1 c_way (hr.mono (by decide)) (pv 3)) (YO (Zz (Zl (K:=K) rfl) (pv 4) (pv 1) (fun _ _=>rfl)) (Zn ZF (pv 1) Zg) set_list))
   (Zd (Z5 PassesOwn.never rfl (ZdC (by rfl) ZT (Za (Zn ZF (pv 1) Zg) (Za (Zy (ZJ (K:=K) rfl) (by rfl) ZL PySem.boot_len (Za (pv 0) Zc)) Zc))) (Zm (i:=5) YE.nd rfl (Or.inl rfl)) (Zd (Yv (Zz (Zl (K:=K) rfl) (Zz (Zl (K:=K) rfl) (pv 0) (Zn ZF (pv 1) Zg) (fun _ _=>rfl)) (pv 5) (fun _ _=>rfl)) (YO (Zz (Zl (K:=K) rfl) (pv 4) (pv 1) (fun _ _=>rfl)) (pv 5) set_list))
   (Zh (Yv (JV GI c_way (hr.mono (by decide)) (pv 3) (Za (Zz (Zl (K:=K) rfl) (Zz (Zl (K:=K) rfl) (pv 0) (pv 1) (fun _ _=>rfl)) (pv 5) (fun _ _=>rfl)) (Za (JV Wj c_way (hr.mono (by decide)) (pv 3) (Za (pv 2) (Za (Zz (Zl (K:=K) rfl) (Zz (Zl (K:=K) rfl) (pv 0) (Zn ZF (pv 1) Zg) (fun _ _=>rfl)) (pv 5) (fun _ _=>rfl)) Zc))) Zc))) (YO (Zz (Zl (K:=K) rfl) (pv 4) (Zn ZF (pv 1) Zg) (fun _ _=>rfl)) (pv 5) set_list)))))
   (Zd (Z5 PassesOwn.never rfl (YA (by rfl) ZT (Za (pv 1) Zc)) (Zm (i:=6) YE.nd rfl (Or.inl rfl)) (Zd (Yv (Zz (Zl (K:=K) rfl) (Zz (Zl (K:=K) rfl) (pv 0) (pv 6) (fun _ _=>rfl)) (pv 1) (fun _ _=>rfl)) (YO (Zz (Zl (K:=K) rfl) (pv 4) (pv 6) (fun _ _=>rfl)) (Zn ZF (pv 1) Zg) set_list))
   (Zh (Yv (JV GI c_way (hr.mono (by decide)) (pv 3) (Za (Zz (Zl (K:=K) rfl) (Zz (Zl (K:=K) rfl) (pv 0) (pv 6) (fun _ _=>rfl)) (Zn ZF (pv 1) Zg) (fun _ _=>rfl)) (Za (JV Wj c_way (hr.mono (by decide)) (pv 3) (Za (Zz (Zl (K:=K) rfl) (Zz (Zl (K:=K) rfl) (pv 0) (pv 6) (fun _ _=>rfl)) (pv 1) (fun _ _=>rfl)) (Za (pv 2) Zc))) Zc))) (YO (Zz (Zl (K:=K) rfl) (pv 4) (pv 6) (fun _ _=>rfl)) (pv 1) set_list)))))
   (Zh (Zr (pv 4))))))),?_⟩
  obtain ⟨dx,fs,ew,rfl⟩:=id hw
  obtain ⟨A,et,mt⟩:=id hT
  have lA:=mt.1
  refine ⟨_,rfl,tA,rfl,⟨_,Zo.of et⟩,Y9 (K:=K) (xs:=A.map V.ref) (by rw [List.length_map,sizeLine_eq];lia) (fun i zs G=>Ze H G /\ ∃Z:List Addr,zs=Z.map V.ref/\Mat G Z i n F /\ ∀r∈Z,H r=none) ⟨Ze.refl _,[],rfl,ZaZ,fun r h=>nomatch h⟩
   (fun i zs G ⟨_,Z,e,m,_⟩=>by rw [e,List.length_map,m.1];exact Nat.le_refl _) (fun i zs G ⟨s',_⟩=>Zo.of (s' tA _ et)) ?_ ?_⟩
  ·rintro i v zs G hv ⟨sG,Z,rfl,mZ,nw⟩
   rw [List.getElem?_map] at hv
   obtain ⟨r,hr',rfl⟩:=Option.map_eq_some_iff.mp hv
   obtain ⟨xs,ex,lx,hx⟩:=(mt.2.2 i r hr').same sG
   dsimp only [GC,Us]
   refine Ul ⟨_,rfl,r,xs,rfl,.inl (Zo.of ex),fun D fD=>⟨sG.step fD,Z ++ [D],by rw [List.map_append];rfl,(mZ.same (Ze.laid fD)).snoc (mZ.fresh fD) ⟨xs,Zb,lx,fun j y hy=>?_⟩,fun r' hr''=>?_⟩⟩
   ·obtain ⟨e,p,q⟩:=hx j y hy
    exact ⟨e,p,q.same (Ze.laid fD)⟩
   ·rcases List.mem_append.mp hr'' with z | z
    ·exact nw r' z
    ·rw [List.mem_singleton.mp z];exact sG.free fD
  rintro zs G ⟨sG,Z,rfl,mZ,nw⟩ rA fA
  rw [List.length_map,lA] at mZ
  have W0:=Zj3 sG mZ nw fA
  obtain ⟨G1,hG1⟩:∃G1,upd G rA (.lst (Z.map V.ref))=G1:=⟨_,rfl⟩
  rw [hG1] at W0 ⊢
  refine ⟨_,rfl,x,dx,[],rfl,W0.sm _ _ ew,rfl,x,rfl,fun u G2 fu t2 wu=>?_⟩
  obtain ⟨r,xs,h1,h2,h3,W1⟩:=Zbe (i:=k) (j:=k+1) (Zcc W0 t2) (by lia) (by lia) wu
  refine ⟨_,rfl,_,rfl,rA,_,_,_,rfl,rfl,Zo.of (t2 _ _ W0.eA),Zv h1,_,rfl,_,_,rfl,rfl,r,xs,_,k+1,rfl,rfl,h2,Zbt (by lia) (by lia),?_⟩
  obtain ⟨G3,hG3⟩:∃G3,upd G2 r (.lst (xs.set (k+1) (.ref u)))=G3:=⟨_,rfl⟩
  rw [hG3] at W1 ⊢
  have e2:(((A.map V.ref).length:Int)-((k:Int)+2)).toNat=n-(k+2):=by rw [List.length_map];lia
  refine ⟨_,rfl,_,_,rfl,rfl,_,rfl,tA,_,rfl,.inl (Zo.of (W1.sm _ _ et)),_,_,rfl,⟨by lia,by lia,by lia,by rw [List.length_map];lia⟩,?_⟩
  rw [e2]
  refine Jr (n:=n-(k+2)) (fun c σ G=>∃v5 v6:Option V,σ = [some (.ref tA),some (.int (k:Int)),some (.ref nA),some (.ref x),some (.ref rA),v5,v6]/\Wr H G rA Z n (cr1 k t F c)) ⟨none,none,rfl,Wu W1 fun i j _ _=>by unfold Zaj cr1;grind⟩ ?_ ?_
  ·rintro c σ G hc ⟨v5,v6,rfl,W⟩
   obtain ⟨ys,r1,xs1,e1,a1,a2,a3,a4,a5⟩:=Ug (hT.same W.sm) (i:=k+1) (j:=k+2+c) (by lia) (by lia)
   obtain ⟨r,xs,h1,h2,h3,W2⟩:=Zbe (i:=k) (j:=k+2+c) W (by lia) (by lia) a5
   refine ⟨_,rfl,_,rfl,_,_,rfl,rfl,tA,_,_,_,rfl,rfl,Zo.of a1,YC (by lia) a2,_,rfl,r1,_,_,_,rfl,rfl,Zo.of a3,YC (by lia) a4,?_⟩
   refine ⟨_,rfl,_,rfl,rA,_,_,_,rfl,rfl,Zo.of W.eA,Zv h1,_,rfl,r,xs,_,k+2+c,rfl,rfl,h2,Zbt (by lia) (by lia),?_⟩
   obtain ⟨G4,hG4⟩:∃G4,upd G r (.lst (xs.set (k+2+c) (.ref e1)))=G4:=⟨_,rfl⟩
   rw [hG4] at W2 ⊢
   obtain ⟨ys,r1,xs1,e1,a1,a2,a3,a4,a5⟩:=Ug (hT.same W2.sm) (i:=k+1) (j:=k+2+c) (by lia) (by lia)
   obtain ⟨ys',r2,xs2,e2,b1,b2,b3,b4,b5⟩:=Ug (hT.same W2.sm) (i:=k) (j:=k+2+c) (by lia) (by lia)
   have g1:=tg (k+1) (k+2+c) (by lia) (by lia)
   have g2:=tg k (k+2+c) (by lia) (by lia)
   refine ⟨_,rfl,x,dx,[],rfl,W2.sm _ _ ew,rfl,_,rfl,_,rfl,tA,_,_,_,rfl,rfl,Zo.of b1,Zv b2,_,rfl,r2,_,_,_,rfl,rfl,Zo.of b3,YC (by lia) b4,?_⟩
   refine ⟨_,rfl,x,dx,[],rfl,W2.sm _ _ ew,rfl,_,rfl,_,rfl,_,rfl,_,_,rfl,rfl,tA,_,_,_,rfl,rfl,Zo.of a1,YC (by lia) a2,_,rfl,r1,_,_,_,rfl,rfl,Zo.of a3,YC (by lia) a4,?_⟩
   refine ⟨x,nA,e1,_,_,rfl,hN.same W2.sm,a5,Wi ht (by decide) (by decide),g1.mono (by decide) (by decide),fun p G5 fp t5 wp=>?_⟩
   have g3:=WA (Wi ht (n:=1) (m:=1) (by decide) (by decide)) g1
   have l2:=g2.1
   have l3:=g3.1
   refine ⟨x,e2,p,_,_,rfl,b5.same t5,wp,by lia,fun q G6 fq t6 wq=>?_⟩
   have W3:=Zcc W2 (t5.trans t6)
   obtain ⟨r',xs',h1',h2',h3',W4⟩:=Zbe (i:=k+1) (j:=k+2+c) W3 (by lia) (by lia) wq
   refine ⟨_,rfl,_,rfl,_,_,rfl,rfl,rA,_,_,_,rfl,rfl,Zo.of W3.eA,YC (by lia) h1',_,rfl,r',xs',_,k+2+c,rfl,rfl,h2',Zbt (by lia) (by lia),?_⟩
   exact ⟨_,_,rfl,Wu W4 fun i j _ _=>Zjh k c t F i j⟩
  rintro σ G ⟨v5,v6,rfl,W⟩
  refine ⟨_,rfl,_,rfl,by lia,by lia,?_⟩
  rw [Int.toNat_natCast]
  refine Jr (n:=k) (fun c σ G=>∃v5 v6:Option V,σ = [some (.ref tA),some (.int (k:Int)),some (.ref nA),some (.ref x),some (.ref rA),v5,v6]/\Wr H G rA Z n (cr2 k n t F c)) ⟨_,_,rfl,Wu W fun i j _ _=>by unfold cr2;grind⟩ ?_ ?_
  ·rintro c σ G hc ⟨v5,v6,rfl,W⟩
   obtain ⟨ys,r1,xs1,e1,a1,a2,a3,a4,a5⟩:=Ug (hT.same W.sm) (i:=c) (j:=k) (by lia) (by lia)
   obtain ⟨r,xs,h1,h2,h3,W2⟩:=Zbe (i:=c) (j:=k+1) W (by lia) (by lia) a5
   refine ⟨_,rfl,_,rfl,tA,_,_,_,rfl,rfl,Zo.of a1,YC (by lia) a2,_,rfl,r1,_,_,_,rfl,rfl,Zo.of a3,Zv a4,?_⟩
   refine ⟨_,rfl,_,rfl,rA,_,_,_,rfl,rfl,Zo.of W.eA,YC (by lia) h1,_,rfl,_,_,rfl,rfl,r,xs,_,k+1,rfl,rfl,h2,Zbt (by lia) (by lia),?_⟩
   obtain ⟨G4,hG4⟩:∃G4,upd G r (.lst (xs.set (k+1) (.ref e1)))=G4:=⟨_,rfl⟩
   rw [hG4] at W2 ⊢
   obtain ⟨ys,r1,xs1,e1,a1,a2,a3,a4,a5⟩:=Ug (hT.same W2.sm) (i:=c) (j:=k) (by lia) (by lia)
   obtain ⟨ys',r2,xs2,e2,b1,b2,b3,b4,b5⟩:=Ug (hT.same W2.sm) (i:=c) (j:=k+1) (by lia) (by lia)
   have g1:=tg c k (by lia) (by lia)
   have g2:=tg c (k+1) (by lia) (by lia)
   refine ⟨_,rfl,x,dx,[],rfl,W2.sm _ _ ew,rfl,_,rfl,_,rfl,tA,_,_,_,rfl,rfl,Zo.of b1,YC (by lia) b2,_,rfl,_,_,rfl,rfl,r2,_,_,_,rfl,rfl,Zo.of b3,YC (by lia) b4,?_⟩
   refine ⟨_,rfl,x,dx,[],rfl,W2.sm _ _ ew,rfl,_,rfl,_,rfl,tA,_,_,_,rfl,rfl,Zo.of a1,YC (by lia) a2,_,rfl,r1,_,_,_,rfl,rfl,Zo.of a3,Zv a4,_,rfl,?_⟩
   refine ⟨x,e1,nA,_,_,rfl,a5,hN.same W2.sm,g1.mono (by decide) (by decide),Wi ht (by decide) (by decide),fun p G5 fp t5 wp=>?_⟩
   have g3:=WA g1 (Wi ht (n:=1) (m:=1) (by decide) (by decide))
   have l2:=g2.1
   have l3:=g3.1
   refine ⟨x,e2,p,_,_,rfl,b5.same t5,wp,by lia,fun q G6 fq t6 wq=>?_⟩
   have W3:=Zcc W2 (t5.trans t6)
   obtain ⟨r',xs',h1',h2',h3',W4⟩:=Zbe (i:=c) (j:=k) W3 (by lia) (by lia) wq
   refine ⟨_,rfl,_,rfl,rA,_,_,_,rfl,rfl,Zo.of W3.eA,YC (by lia) h1',_,rfl,r',xs',_,k,rfl,rfl,h2',Zbt (by lia) (by lia),?_⟩
   exact ⟨_,_,rfl,Wu W4 fun i j _ _=>Zjp k n c t F i j⟩
  rintro σ G ⟨v5,v6,rfl,W⟩
  exact ⟨_,rfl,fin rA G W.fA W.sm ((Zg0 W).congr fun i j _ hj=>Zlu k n t F i j hj)⟩
def upE (k i:Nat):Nat:=if i<k then i else i+2
def en (k:Nat) (t:Int) (F:Nat->Nat->WS) (c d:Nat):Nat->Nat->WS:=fun i j=>
 if k<=j/\(i<c∨(i=c/\j<k+d)) then Jb (F i (j+2)) (Yl (UE k t F i) (ZcC k t F (j+2))) else F (upE k i) (upE k j)
theorem Zlm (k:Nat) (t:Int) (F:Nat->Nat->WS) (c d i j:Nat) (hc:c<k):Zaj (en k t F c d) c (k+d) (Jb (F c (k+d+2)) (Yl (UE k t F c) (ZcC k t F (k+d+2)))) i j=en k t F c (d+1) i j:=by
 unfold Zaj en
 by_cases e:i=c/\j=k+d
 ·obtain ⟨rfl,rfl⟩:=e
  rw [if_pos ⟨rfl,rfl⟩,if_pos (by lia)]
 ·rw [if_neg e]
  have h1:(k<=j/\(i<c∨i=c/\j<k+d)) ↔ (k<=j/\(i<c∨i=c/\j<k+(d+1))):=by lia
  simp only [h1]
theorem Zk4 (k n:Nat) (t:Int) (F:Nat->Nat->WS) (c i j:Nat) (hj:j<n-2):en k t F c (n-2-k) i j=en k t F (c+1) 0 i j:=by
 unfold en
 have h1:(k<=j/\(i<c∨i=c/\j<k+(n-2-k))) ↔ (k<=j/\(i<c+1∨i=c+1/\j<k+0)):=by lia
 simp only [h1]
theorem Znb (k:Nat) (t:Int) (F:Nat->Nat->WS) (i j:Nat):en k t F k 0 i j=ZbX k t F i j:=by
 unfold en ZbX upE
 have h1:(k<=j/\(i<k∨i=k/\j<k+0)) ↔ (i<k/\k<=j):=by lia
 simp only [h1]
theorem Zht (xs:List V) (k:Nat):ZcQ xs (some ((k:Int)+2)) none=xs.drop (k+2):=by
 rw [show (k:Int)+2=((k+2:Nat):Int) by lia]
 exact ZcE xs (k+2)
theorem Zjv {α:Type}{l:List α}{k i:Nat}{x:α} (hk:k<=l.length) (h:(l.take k++l.drop (k+2))[i]? = some x):l[upE k i]? = some x:=by
 have lt:(l.take k).length=k:=by rw [List.length_take];lia
 unfold upE
 by_cases a:i<k
 ·rw [if_pos a]
  rw [List.getElem?_append_left (by lia),List.getElem?_take,if_pos a] at h
  exact h
 ·rw [if_neg a]
  rw [List.getElem?_append_right (by lia),lt,List.getElem?_drop] at h
  rw [<- h]
  congr 1
  lia
theorem ZhA {α:Type}{l:List α}{k n:Nat} (hl:l.length=n) (hk:k+1<n):(l.take k++l.drop (k+2)).length=n-2:=by
 rw [List.length_append,List.length_take,List.length_drop];lia
def ZkO (C:Addr):Sp:=fun vs H Q _=>∃(tA nA x:Addr) (n k:Nat) (t:Int) (F:Nat->Nat->WS),vs = [.ref tA,.int (k:Int),.ref nA,.ref x]/\ZbJ H C x/\Tab H tA n F/\WL H nA [[t]]/\0<=t/\k+1<n/\n<=500/\TGd n 50000 F /\
 ∀(p:Addr) (H':Hp),H p=none->Ze H H'->Tab H' p (n-2) (ZbX k t F)->Q (.ref p) H'
theorem ZfV {G G':Hp}{zs:List V}{f:Nat->WS}{e:Addr} (h:∀(j:Nat) (y:V),zs[j]? = some y -> ∃e,y = .ref e/\WL G e (f j)) (s:Ze G G') (w:WL G' e (f zs.length)):∀(j:Nat) (y:V),(zs ++ [V.ref e])[j]? = some y -> ∃e,y = .ref e/\WL G' e (f j):=fun j y hy=>by
 by_cases z:j<zs.length
 ·rw [List.getElem?_append_left z] at hy
  obtain ⟨e,p,q⟩:=h j y hy
  exact ⟨e,p,q.same s⟩
 ·rw [List.getElem?_append_right (by lia)] at hy
  have:j-zs.length=0:=by
   have:=(List.getElem?_eq_some_iff.mp hy).1
   simp at this;lia
  rw [this] at hy
  cases hy
  have:j=zs.length:=by lia
  subst this
  exact ⟨e,rfl,w⟩
theorem Zlq {n k i:Nat}{t:Int}{F:Nat->Nat->WS} (tg:TGd n 50000 F) (ht:0<=t) (hk:k+1<n) (hi:i<n):L2.Gd 400 50001 (UE k t F i):=
 (ZhZ (tg i (k+1) hi (by lia)) (WA (tg i k hi (by lia)) (Wi ht (n:=1) (m:=1) (by decide) (by decide)))).mono (by decide) (by decide)
theorem Zno {n k j:Nat}{t:Int}{F:Nat->Nat->WS} (tg:TGd n 50000 F) (ht:0<=t) (hk:k+1<n) (hj:j<n):L2.Gd 400 50001 (ZcC k t F j):=
 (ZhZ (tg k j (by lia) hj) (WA (Wi ht (n:=1) (m:=1) (by decide) (by decide)) (tg (k+1) j (by lia) hj))).mono (by decide) (by decide)
abbrev Y5:Stmt:=top 27
theorem YL:Zp ["table", "k", "name", "way", "onto", "off", "rows", "i", "j"] ["table", "k", "name", "way"] (Zi Y5):={}
theorem ZmQ {C:Addr}{f:Addr}{fd:FuncData} (F:Ym K "behind_end" "behind_end" Y5 f fd) (c_way:Cls K C) (GI:ZaP P w K mg base 3 C "plus" ["self", "one", "other"] Zcf) (Wj:ZaP P w K mg base 3 C "times" ["self", "one", "other"] ZaT) (ZT:mg "range" = none) (ZL:mg "len" = none) (Zdz:mg "zip" = none):ZX P w K mg base J4 4 f fd ["table", "k", "name", "way"] (ZkO C):=by
 refine F.ok YL (fun vs H Q E h=>?_) (fun cdv A outer s H vs Q E hr h=>?_)
 ·obtain ⟨tA,nA,x,n,k,t,F,rfl,_⟩:=h
  rfl
 ·obtain ⟨tA,nA,x,n,k,t,F,rfl,hw,hT,hN,ht,hk,hn,tg,fin⟩:=h
  refine ⟨_,(Zd (Zad (i:=4) YL.nd rfl (Or.inl rfl) (Ls:=["row"]) (Fs:=["way", "name", "k"]) (fi:=[3,2,1]) (ZO.of (show Yn ["table", "k", "name", "way", "onto", "off", "rows", "i", "j"] (Zi Y5) _ ["way", "name", "k"] [3,2,1]=true by decide +kernel)) rfl (ZC (K:=K) rfl (Yp (Yq (K:=K) rfl) (pv 0) YT (Z9 (pv 1)))) (fun cl C s3 H3 ex=>⟨(Zm (i:=0) (show ((["row"]:List Str)++(["way", "name", "k"]:List Str)).Nodup by decide +kernel) rfl (Or.inl rfl)),Z8,(JV GI c_way (hr.mono (by decide)) (pv 1) (Za (Zz (Zl (K:=K) rfl) (pv 0) (Zn ZF (pv 3) Zg) (fun _ _=>rfl)) (Za (JV Wj c_way (hr.mono (by decide)) (pv 1) (Za (Zz (Zl (K:=K) rfl) (pv 0) (pv 3) (fun _ _=>rfl)) (Za (pv 2) Zc))) Zc)))⟩))
   (Zd (Zad (i:=5) YL.nd rfl (Or.inl rfl) (Ls:=["upper", "lower"]) (Fs:=["way", "name"]) (fi:=[3,2]) (ZO.of (show Yn ["table", "k", "name", "way", "onto", "off", "rows", "i", "j"] (Zi Y5) _ ["way", "name"] [3,2]=true by decide +kernel)) rfl (ZhO (K:=K) rfl (by rfl) Zdz (Za (Zz (Zl (K:=K) rfl) (pv 0) (pv 1) (fun _ _=>rfl)) (Za (Zz (Zl (K:=K) rfl) (pv 0) (Zn ZF (pv 1) Zg) (fun _ _=>rfl)) Zc))) (fun cl C s3 H3 ex=>⟨(Yx (K:=K) (n:=2) rfl rfl (Zx (Zm (i:=0) (show ((["upper", "lower"]:List Str)++(["way", "name"]:List Str)).Nodup by decide +kernel) rfl (Or.inl rfl)) (Zx (Zm (i:=1) (show ((["upper", "lower"]:List Str)++(["way", "name"]:List Str)).Nodup by decide +kernel) rfl (Or.inl rfl)) Yy))),Z8,(JV GI c_way (hr.mono (by decide)) (pv 2) (Za (pv 0) (Za (JV Wj c_way (hr.mono (by decide)) (pv 2) (Za (pv 3) (Za (pv 1) Zc))) Zc)))⟩))
   (Zd (Zad (i:=6) YL.nd rfl (Or.inl rfl) (Ls:=["row"]) (Fs:=["k"]) (fi:=[1]) (ZO.of (show Yn ["table", "k", "name", "way", "onto", "off", "rows", "i", "j"] (Zi Y5) _ ["k"] [1]=true by decide +kernel)) rfl (ZC (K:=K) rfl (Zn Jm (Yp (Yq (K:=K) rfl) (pv 0) YT (Z9 (pv 1))) (Yp (Yq (K:=K) rfl) (pv 0) (Z9 (Zn ZF (pv 1) Zg)) YT))) (fun cl C s3 H3 ex=>⟨(Zm (i:=0) (show ((["row"]:List Str)++(["k"]:List Str)).Nodup by decide +kernel) rfl (Or.inl rfl)),Z8,(Zn Jm (Yp (Yq (K:=K) rfl) (pv 0) YT (Z9 (pv 1))) (Yp (Yq (K:=K) rfl) (pv 0) (Z9 (Zn ZF (pv 1) Zg)) YT))⟩))
   (Zd (Z5 PassesOwn.never rfl (YA (by rfl) ZT (Za (pv 1) Zc)) (Zm (i:=7) YL.nd rfl (Or.inl rfl)) (Zh (Z5 PassesOwn.never rfl (ZdC (by rfl) ZT (Za (pv 1) (Za (Zy (ZJ (K:=K) rfl) (by rfl) ZL PySem.boot_len (Za (pv 6) Zc)) Zc))) (Zm (i:=8) YL.nd rfl (Or.inl rfl)) (Zh (Yv (JV GI c_way (hr.mono (by decide)) (pv 3) (Za (Zz (Zl (K:=K) rfl) (Zz (Zl (K:=K) rfl) (pv 6) (pv 7) (fun _ _=>rfl)) (pv 8) (fun _ _=>rfl)) (Za (JV Wj c_way (hr.mono (by decide)) (pv 3) (Za (Zz (Zl (K:=K) rfl) (pv 4) (pv 7) (fun _ _=>rfl)) (Za (Zz (Zl (K:=K) rfl) (pv 5) (Zn ZF (pv 8) Zg) (fun _ _=>rfl)) Zc))) Zc))) (YO (Zz (Zl (K:=K) rfl) (pv 6) (pv 7) (fun _ _=>rfl)) (pv 8) set_list))))))
   (Zh (Zr (pv 6))))))),?_⟩
  obtain ⟨dx,fs,ew,rfl⟩:=id hw
  obtain ⟨A,et,mt⟩:=id hT
  have lA:=mt.1
  have g1:=Wi ht (n:=1000) (m:=100000) (by decide) (by decide)
  refine ⟨_,rfl,_,rfl,_,rfl,tA,_,rfl,Zo.of et,fun p1 f1=>?_⟩
  rw [WW]
  have s1:Ze H (upd H p1 (.lst ((A.map V.ref).take k))):=Ze.laid f1
  refine ⟨p1,rfl,⟨_,Zo.of Zb⟩,Y9 (K:=K) (xs:=(A.map V.ref).take k) (by rw [List.length_take,List.length_map,sizeLine_eq];lia) (fun i zs G=>Ze (upd H p1 (.lst ((A.map V.ref).take k))) G/\zs.length=i /\ ∀(j:Nat) (y:V),zs[j]? = some y -> ∃e,y = .ref e/\WL G e (UE k t F j)) ⟨Ze.refl _,rfl,fun j y h=>by simp at h⟩
   (fun i zs G ⟨_,e,_⟩=>by rw [e];exact Nat.le_refl _) (fun i zs G ⟨s',_⟩=>Zo.of (s' p1 _ Zb)) ?_ ?_⟩
  ·rintro i v zs G hv ⟨sG,lz,hz⟩
   have hik:i<k:=by have:=(List.getElem?_eq_some_iff.mp hv).1;rw [List.length_take] at this;lia
   rw [List.getElem?_take,if_pos hik,List.getElem?_map] at hv
   obtain ⟨r,hr',rfl⟩:=Option.map_eq_some_iff.mp hv
   have S:=s1.trans sG
   have R:=(mt.2.2 i r hr').same S
   obtain ⟨xs,e1,ex,lx,a1,a2⟩:=R.at (j:=k) (by lia)
   obtain ⟨xs',e2,ex',lx',b1,b2⟩:=R.at (j:=k+1) (by lia)
   have q1:=tg i k (by lia) (by lia)
   have q2:=tg i (k+1) (by lia) (by lia)
   have q3:=WA q1 (Wi ht (n:=1) (m:=1) (by decide) (by decide))
   have l2:=q2.1
   have l3:=q3.1
   dsimp only [GC,Us]
   refine Ul ⟨_,rfl,x,dx,[],rfl,S _ _ ew,rfl,_,rfl,_,rfl,_,_,rfl,rfl,r,_,_,_,rfl,rfl,Zo.of ex',YC (by lia) b1,?_⟩
   refine ⟨_,rfl,x,dx,[],rfl,S _ _ ew,rfl,_,rfl,_,rfl,r,_,_,_,rfl,rfl,Zo.of ex,Zv a1,_,rfl,?_⟩
   refine ⟨x,e1,nA,_,_,rfl,a2,hN.same S,q1.mono (by decide) (by decide),g1,fun p G2 fp t2 wp=>?_⟩
   refine ⟨x,e2,p,_,_,rfl,b2.same t2,wp,by lia,fun q G3 fq t3 wq=>?_⟩
   exact ⟨(sG.trans t2).trans t3,by rw [List.length_append,lz];rfl,ZfV hz (t2.trans t3) (by rw [lz];exact wq)⟩
  rintro zs G ⟨sG,lz,hz⟩ oA fo
  rw [List.length_take,List.length_map,lA,Nat.min_eq_left (by lia)] at lz
  have so:Ze G (upd G oA (.lst zs)):=Ze.laid fo
  have rO:J8 (upd G oA (.lst zs)) oA k (UE k t F):=⟨zs,Zb,lz,fun j y hy=>let ⟨e,p,q⟩:=hz j y hy;⟨e,p,q.same so⟩⟩
  have S1:=(s1.trans sG).trans so
  obtain ⟨G1,hG1⟩:∃G1,upd G oA (.lst zs)=G1:=⟨_,rfl⟩
  rw [hG1] at rO S1 ⊢
  obtain ⟨ys,r0,a1,a2,a3,a4⟩:=(hT.same S1).row (i:=k) (by lia)
  obtain ⟨ys',r1,b1,b2,b3,b4⟩:=(hT.same S1).row (i:=k+1) (by lia)
  obtain ⟨us,c1,c2,c3⟩:=id a4
  obtain ⟨vs,d1,d2,d3⟩:=id b4
  refine ⟨_,rfl,_,rfl,tA,_,_,_,rfl,rfl,Zo.of a1,Zv a3,_,rfl,_,rfl,_,_,rfl,rfl,tA,_,_,_,rfl,rfl,Zo.of b1,YC (by lia) b3,?_⟩
  refine ⟨r0,r1,rfl,⟨_,Zo.of c1⟩,⟨_,Zo.of d1⟩,ZjM (K:=K) (xs:=us) (ys:=vs) (by rw [c2,sizeLine_eq];lia) (by lia) (fun i zs G=>Ze G1 G/\zs.length=i /\ ∀(j:Nat) (y:V),zs[j]? = some y -> ∃e,y = .ref e/\WL G e (ZcC k t F j)) ⟨Ze.refl _,rfl,fun j y h=>by simp at h⟩
   (fun i zs G ⟨_,e,_⟩=>by rw [e];exact Nat.le_refl _) (fun i zs G ⟨s',_⟩=>⟨Zo.of (s' _ _ c1),Zo.of (s' _ _ d1)⟩) ?_ ?_⟩
  ·rintro i y z p zs G2 hy hz' ⟨s2,lz2,hz2⟩ fp
   have hin:i<n:=by have:=(List.getElem?_eq_some_iff.mp hy).1;lia
   obtain ⟨e1,rfl,w1⟩:=c3 i y hy
   obtain ⟨e2,rfl,w2⟩:=d3 i z hz'
   have sp:=s2.step (o:=.tup [.ref e1,.ref e2]) fp
   have S:=S1.trans sp
   have q1:=tg (k+1) i (by lia) (by lia)
   have q2:=tg k i (by lia) (by lia)
   have q3:=WA (Wi ht (n:=1) (m:=1) (by decide) (by decide)) q1
   have l2:=q2.1
   have l3:=q3.1
   refine ⟨p,_,rfl,WT.of Zb,rfl,_,_,rfl,_,_,rfl,rfl,?_⟩
   refine lcT ⟨_,rfl,x,dx,[],rfl,S _ _ ew,rfl,_,rfl,_,rfl,x,dx,[],rfl,S _ _ ew,rfl,_,rfl,_,rfl,?_⟩
   refine ⟨x,nA,e2,_,_,rfl,hN.same S,w2.same sp,g1,q1.mono (by decide) (by decide),fun p' G3 fp' t3 wp=>?_⟩
   refine ⟨x,e1,p',_,_,rfl,(w1.same sp).same t3,wp,by lia,fun q G4 fq t4 wq=>?_⟩
   exact ⟨(sp.trans t3).trans t4,by rw [List.length_append,lz2];rfl,ZfV hz2 (((Ze.laid fp).trans t3).trans t4) (by rw [lz2];exact wq)⟩
  rintro zs2 G2 ⟨s2,lz2,hz2⟩ fA ff
  rw [c2] at lz2
  have sf:Ze G2 (upd G2 fA (.lst zs2)):=Ze.laid ff
  have rF:J8 (upd G2 fA (.lst zs2)) fA n (ZcC k t F):=⟨zs2,Zb,lz2,fun j y hy=>let ⟨e,p,q⟩:=hz2 j y hy;⟨e,p,q.same sf⟩⟩
  have S2:=(S1.trans s2).trans sf
  have rO2:=rO.same (s2.trans sf)
  obtain ⟨G3,hG3⟩:∃G3,upd G2 fA (.lst zs2)=G3:=⟨_,rfl⟩
  rw [hG3] at rF S2 rO2 ⊢
  have et3:=S2 _ _ et
  refine ⟨_,rfl,_,rfl,_,rfl,tA,_,rfl,Zo.of et3,fun q1 fq1=>?_⟩
  rw [WW]
  have t1:Ze G3 (upd G3 q1 (.lst ((A.map V.ref).take k))):=Ze.laid fq1
  refine ⟨_,rfl,_,rfl,_,_,rfl,rfl,_,rfl,tA,_,rfl,Zo.of (t1 _ _ et3),fun q2 fq2=>?_⟩
  rw [Zht]
  refine ⟨q1,q2,_,_,rfl,rfl,Ze.laid fq2 _ _ Zb,Zb,(by rw [List.length_take,List.length_drop,List.length_map,sizeLine_eq];lia),fun q3 fq3=>?_⟩
  obtain ⟨G4,hG4⟩:∃G4,upd (upd (upd G3 q1 (.lst ((A.map V.ref).take k))) q2 (.lst ((A.map V.ref).drop (k+2)))) q3 (.lst ((A.map V.ref).take k++(A.map V.ref).drop (k+2)))=G4:=⟨_,rfl⟩
  have t4:Ze G3 G4:=by rw [<- hG4];exact (t1.step fq2).step fq3
  have eq3:G4 q3=some (.lst ((A.map V.ref).take k++(A.map V.ref).drop (k+2))):=by rw [<- hG4];exact Zb
  rw [hG4]
  have S4:=S2.trans t4
  have lg:((A.map V.ref).take k++(A.map V.ref).drop (k+2)).length=n-2:=ZhA (by rw [List.length_map];exact lA) hk
  refine ⟨q3,rfl,⟨_,Zo.of eq3⟩,Y9 (K:=K) (xs:=(A.map V.ref).take k++(A.map V.ref).drop (k+2)) (by rw [lg,sizeLine_eq];lia) (fun i zs G=>Ze G4 G /\ ∃Z:List Addr,zs=Z.map V.ref/\(Mat G Z i (n-2) fun i j=>F (upE k i) (upE k j)) /\ ∀r∈Z,G3 r=none) ⟨Ze.refl _,[],rfl,ZaZ,fun r h=>nomatch h⟩
   (fun i zs G ⟨_,Z,e,m,_⟩=>by rw [e,List.length_map,m.1];exact Nat.le_refl _) (fun i zs G ⟨s',_⟩=>Zo.of (s' q3 _ eq3)) ?_ ?_⟩
  ·rintro i v zs G hv ⟨sG,Z,rfl,mZ,nw⟩
   have hv':=Zjv (by rw [List.length_map];lia) hv
   rw [List.getElem?_map] at hv'
   obtain ⟨r,hr',rfl⟩:=Option.map_eq_some_iff.mp hv'
   have S:=S4.trans sG
   obtain ⟨xs,ex,lx,hx⟩:=(mt.2.2 _ r hr').same S
   dsimp only [GC,Us]
   refine Ul ⟨_,rfl,_,rfl,_,rfl,r,xs,rfl,Zo.of ex,fun u1 fu1=>?_⟩
   rw [WW]
   refine ⟨_,rfl,_,rfl,_,_,rfl,rfl,_,rfl,r,xs,rfl,Zo.of (Ze.laid fu1 _ _ ex),fun u2 fu2=>?_⟩
   rw [Zht]
   refine ⟨u1,u2,_,_,rfl,rfl,Ze.laid fu2 _ _ Zb,Zb,(by rw [List.length_take,List.length_drop,sizeLine_eq];lia),fun D fD=>?_⟩
   have sD:Ze G _:=((Ze.laid (o:=.lst (xs.take k)) fu1).step (o:=.lst (xs.drop (k+2))) fu2)
   have sE:=sD.step (o:=.lst (xs.take k++xs.drop (k+2))) fD
   refine ⟨sG.trans sE,Z ++ [D],by rw [List.map_append];rfl,(mZ.same sE).snoc ((mZ.same sD).fresh fD) ⟨_,Zb,ZhA lx hk,fun j y hy=>?_⟩,fun r' hr''=>?_⟩
   ·obtain ⟨e,p,q⟩:=hx _ y (Zjv (by lia) hy)
    exact ⟨e,p,q.same sE⟩
   ·rcases List.mem_append.mp hr'' with z | z
    ·exact nw r' z
    ·rw [List.mem_singleton.mp z];exact ((t4.trans sG).trans sD).free fD
  rintro zs3 G5 ⟨s5,Z,rfl,mZ,nw⟩ rA fA'
  rw [lg] at mZ
  have W0:=Zj3 (t4.trans s5) mZ nw fA'
  obtain ⟨G6,hG6⟩:∃G6,upd G5 rA (.lst (Z.map V.ref))=G6:=⟨_,rfl⟩
  rw [hG6] at W0 ⊢
  refine ⟨_,rfl,_,rfl,by lia,by lia,?_⟩
  rw [Int.toNat_natCast]
  refine Jr (n:=k) (fun c σ G=>∃v7 v8:Option V,σ = [some (.ref tA),some (.int (k:Int)),some (.ref nA),some (.ref x),some (.ref oA),some (.ref fA),some (.ref rA),v7,v8]/\Wr G3 G rA Z (n-2) (en k t F c 0)) ⟨none,none,rfl,Wu W0 fun i j _ _=>by unfold en;rw [if_neg (by lia)]⟩ ?_ ?_
  ·rintro c σ G hc ⟨v7,v8,rfl,W⟩
   have lZ:(Z.map V.ref).length=n-2:=by rw [List.length_map];exact W.mat.1
   have e2:(((Z.map V.ref).length:Int)-(k:Int)).toNat=n-2-k:=by rw [lZ];lia
   refine ⟨_,rfl,_,rfl,rA,_,rfl,.inl (Zo.of W.eA),_,_,rfl,⟨by lia,by lia,by lia,by rw [lZ];lia⟩,?_⟩
   rw [e2]
   refine Jr (n:=n-2-k) (fun d σ G=>∃v8:Option V,σ = [some (.ref tA),some (.int (k:Int)),some (.ref nA),some (.ref x),some (.ref oA),some (.ref fA),some (.ref rA),some (.int (0+(c:Int))),v8]/\Wr G3 G rA Z (n-2) (en k t F c d)) ⟨v8,rfl,W⟩ ?_ ?_
   ·rintro d σ G hd ⟨v8,rfl,W⟩
    obtain ⟨ys,r1,xs1,e1,a1,a2,a3,a4,a5⟩:=Ug (Zg0 W) (i:=c) (j:=k+d) (by lia) (by lia)
    have a5':WL G e1 (F c (k+d+2)):=by
     unfold en upE at a5
     rw [if_neg (by lia),if_pos (by lia),if_neg (by lia)] at a5
     exact a5
    obtain ⟨xo,eo,b1,b2,b3,b4⟩:=(rO2.same W.sm).at (j:=c) (by lia)
    obtain ⟨xf,ef,c1',c2',c3',c4'⟩:=(rF.same W.sm).at (j:=k+d+2) (by lia)
    have g2:=Zlq tg ht hk (i:=c) (by lia)
    have g3:=Zno tg ht hk (j:=k+d+2) (by lia)
    have g4:=WA g2 g3
    have l4:=g4.1
    have l1:=(tg c (k+d+2) (by lia) (by lia)).1
    have ewG:=W.sm _ _ (S2 _ _ ew)
    refine ⟨_,rfl,x,dx,[],rfl,ewG,rfl,_,rfl,_,rfl,rA,_,_,_,rfl,rfl,Zo.of a1,YC (by lia) a2,_,rfl,r1,_,_,_,rfl,rfl,Zo.of a3,YC (by lia) a4,?_⟩
    refine ⟨_,rfl,x,dx,[],rfl,ewG,rfl,_,rfl,_,rfl,oA,_,_,_,rfl,rfl,Zo.of b1,YC (by lia) b3,_,rfl,_,rfl,_,_,rfl,rfl,fA,_,_,_,rfl,rfl,Zo.of c1',YC (by lia) c3',?_⟩
    refine ⟨x,eo,ef,_,_,rfl,b4,c4',g2.mono (by decide) (by decide),g3.mono (by decide) (by decide),fun p G7 fp t7 wp=>?_⟩
    refine ⟨x,e1,p,_,_,rfl,a5'.same t7,wp,by lia,fun q G8 fq t8 wq=>?_⟩
    have W3:=Zcc W (t7.trans t8)
    obtain ⟨r',xs',h1',h2',h3',W4⟩:=Zbe (i:=c) (j:=k+d) W3 (by lia) (by lia) wq
    refine ⟨_,rfl,_,rfl,rA,_,_,_,rfl,rfl,Zo.of W3.eA,YC (by lia) h1',_,rfl,r',xs',_,k+d,rfl,rfl,h2',Zbt (by lia) (by lia),?_⟩
    exact ⟨_,rfl,Wu W4 fun i j _ _=>Zlm k t F c d i j hc⟩
   ·rintro σ G ⟨v8,rfl,W⟩
    exact ⟨_,_,rfl,Wu W fun i j _ hj=>Zk4 k n t F c i j hj⟩
  rintro σ G ⟨v7,v8,rfl,W⟩
  exact ⟨_,rfl,fin rA G (S2.free W.fA) (S2.trans W.sm) ((Zg0 W).congr fun i j _ _=>Znb k t F i j)⟩
def nxN (x:Str) (n:Nat):Nat:=if x = "born" then n+2 else if x = "cross" then n else n-2
def nxF (x:Str) (k:Nat) (t:Int) (F:Nat->Nat->WS):Nat->Nat->WS:=if x = "born" then UJ k F else if x = "cross" then J3 k t F else ZbX k t F
def Fit (x:Str) (k n:Nat):Prop:=(x = "born" /\ k<=n)∨(x = "cross" /\ k+1<n)∨(x = "end" /\ k+1<n)
def ZmM (C:Addr):Sp:=fun vs H Q _=>∃(tA lA nA x:Addr) (n k:Nat) (kd:Str) (t:Int) (F:Nat->Nat->WS),vs = [.ref tA,.ref lA,.ref nA,.ref x]/\ZbJ H C x/\Tab H tA n F/\H lA=some (.tup [.str kd,.int (k:Int)])/\WL H nA [[t]]/\0<=t/\n<=400/\TGd n 50000 F/\Fit kd k n /\
 ∀(p:Addr) (H':Hp),H p=none->Ze H H'->Tab H' p (nxN kd n) (nxF kd k t F)->Q (.ref p) H'
abbrev Wz:Stmt:=top 28
theorem J6:Zp ["table", "letter", "name", "way", "kind", "k"] ["table", "letter", "name", "way"] (Zi Wz):={}
theorem Zoc {C:Addr}{f:Addr}{fd:FuncData} (F:Ym K "table_behind" "table_behind" Wz f fd) (WE:Yi P w K mg base 2 "behind_birth" ["table", "k", "way"] (ZeN C)) (JA:Yi P w K mg base 4 "behind_crossing" ["table", "k", "name", "way"] (ZeA C)) (GR:Yi P w K mg base 4 "behind_end" ["table", "k", "name", "way"] (ZkO C)):ZX P w K mg base J4 5 f fd ["table", "letter", "name", "way"] (ZmM C):=by
 refine F.ok J6 (fun vs H Q E h=>?_) (fun cdv A outer s H vs Q E hr h=>?_)
 ·obtain ⟨tA,lA,nA,x,n,k,kd,t,F,rfl,_⟩:=h
  rfl
 ·obtain ⟨tA,lA,nA,x,n,k,kd,t,F,rfl,hw,hT,hl,hN,ht,hn,tg,ft,fin⟩:=h
  refine ⟨_,(Zd (Yv (pv 1) (Yx (K:=K) (n:=2) rfl rfl (Zx (Zm (i:=4) J6.nd rfl (Or.inl rfl)) (Zx (Zm (i:=5) J6.nd rfl (Or.inl rfl)) Yy))))
   (Zd (YK (Zu Uj (pv 4) YH (ZD _)) (Zh (Zr (Zk WE hr (Za (pv 0) (Za (pv 5) (Za (pv 3) Zc)))))) Ya)
   (Zd (YK (Zu Uj (pv 4) YH (ZD _)) (Zh (Zr (Zk JA hr (Za (pv 0) (Za (pv 5) (Za (pv 2) (Za (pv 3) Zc))))))) Ya)
   (Zh (Zr (Zk GR hr (Za (pv 0) (Za (pv 5) (Za (pv 2) (Za (pv 3) Zc)))))))))),?_⟩
  refine ⟨_,rfl,lA,_,rfl,WT.of hl,rfl,_,_,rfl,_,_,rfl,rfl,?_⟩
  refine ⟨_,rfl,rfl,_,rfl,YJ (fun c=>?_) (fun c=>?_)⟩
  ·have e:kd = "born" := V.str.inj (of_decide_eq_true c)
   subst e
   rcases ft with ⟨_,h⟩ | ⟨h,_⟩ | ⟨h,_⟩
   ·exact ⟨_,rfl,_,rfl,_,rfl,tA,x,n,k,F,rfl,hw,hT,h,by lia,fun p H' fp s' tb=>fin p H' fp s' tb⟩
   ·exact absurd h (by decide)
   ·exact absurd h (by decide)
  ·have e:kd ≠ "born" := fun z=>c (decide_eq_true (congrArg V.str z))
   refine ⟨_,rfl,rfl,_,rfl,YJ (fun c=>?_) (fun c=>?_)⟩
   ·have e:kd = "cross" := V.str.inj (of_decide_eq_true c)
    subst e
    rcases ft with ⟨h,_⟩ | ⟨_,h⟩ | ⟨h,_⟩
    ·exact absurd h (by decide)
    ·exact ⟨_,rfl,_,rfl,_,rfl,_,rfl,tA,nA,x,n,k,t,F,rfl,hw,hT,hN,ht,h,by lia,tg,fun p H' fp s' tb=>fin p H' fp s' tb⟩
    ·exact absurd h (by decide)
   ·have e':kd ≠ "cross" := fun z=>c (decide_eq_true (congrArg V.str z))
    rcases ft with ⟨h,_⟩ | ⟨h,_⟩ | ⟨h,h2⟩
    ·exact absurd h e
    ·exact absurd h e'
    ·subst h
     exact ⟨_,rfl,_,rfl,_,rfl,_,rfl,tA,nA,x,n,k,t,F,rfl,hw,hT,hN,ht,h2,by lia,tg,fun p H' fp s' tb=>fin p H' fp s' tb⟩
def Few (n:Nat) (F:Nat->Nat->WS):Prop:=∀i j,i<n->j<n->(F i j).length<=200
def ZmJ (C:Addr):Sp:=fun vs H Q E=>∃(tA:Addr) (n:Nat) (F:Nat->Nat->WS),vs = [.ref tA]/\Tab H tA n F/\n<=500/\(∀i j,i<n->j<n->(F i j).length<10000000)/\(Few n F->Q .non H)/\(¬Few n F->E (.ref C) none H)
abbrev Ge:Stmt:=top 36
theorem Wq:Zp ["table", "row", "one"] ["table"] (Zi Ge):={}
theorem ZoI {f ZI:Addr}{fd:FuncData}{tk:Tok} (F:Ym K "check_words" "check_words" Ge f fd) (Wm:mg "TooMany" = some (.ref ZI)) (Ju:PySem.W.excIn K ZI bmV "ValueError.__new__" = true) (GU:mg "MOST_WORDS" = some (.int 200 tk)) (ZL:mg "len" = none):ZX P w K mg base (CX1 P w) 1 f fd ["table"] (ZmJ ZI):=by
 refine F.okX Wq (fun vs H Q E h=>?_) (fun cdv A outer s H vs Q E hr h=>?_)
 ·obtain ⟨tA,n,F,rfl,_⟩:=h
  rfl
 ·obtain ⟨tA,n,F,rfl,hT,hn,hz,k,kx⟩:=h
  refine ⟨_,(Zh (Z5 PassesOwn.leaving rfl (ZC (K:=K) rfl (pv 0)) (Zm (i:=1) Wq.nd rfl (Or.inl rfl)) (Zh (Z5 PassesOwn.leaving rfl (ZC (K:=K) rfl (pv 1)) (Zm (i:=2) Wq.nd rfl (Or.inl rfl)) (Zh (YK (Zu ZbS (Zy (ZJ (K:=K) rfl) (by rfl) ZL PySem.boot_len (Za (pv 2) Zc)) (Zhl (v:=.int 200) (by rfl) GU ⟨_,rfl⟩) (ZD _)) (Zh (ZkM (by rfl) Wm Ju (Za (Zoj (Zy (ZJ (K:=K) rfl) (by rfl) ZL PySem.boot_len (Za (pv 2) Zc)) (by decide) (by decide)) Zc))) Ya)))))),?_⟩
  obtain ⟨A,et,mt⟩:=id hT
  have lA:=mt.1
  refine ⟨_,rfl,tA,rfl,⟨_,Zo.of et⟩,Yd (K:=K) (a:=tA) (xs:=A.map V.ref) (fun i σ G=>∃v1 v2:Option V,σ = [some (.ref tA),v1,v2]/\G=H /\ ∀i' j,i'<i->j<n->(F i' j).length<=200) ⟨none,none,rfl,rfl,fun i' j h=>by lia⟩ (fun i σ G _ ⟨_,_,_,e,_⟩=>by rw [e];exact Zo.of et) ?_ ?_⟩
  ·rintro i v σ G hv ⟨v1,v2,rfl,rfl,ok⟩
   rw [List.getElem?_map] at hv
   obtain ⟨r,hr',rfl⟩:=Option.map_eq_some_iff.mp hv
   have hi:i<n:=by have:=(List.getElem?_eq_some_iff.mp hr').1;lia
   obtain ⟨xs,ex,lx,hx⟩:=mt.2.2 i r hr'
   refine ⟨_,rfl,r,rfl,⟨_,Zo.of ex⟩,Yd (K:=K) (a:=r) (xs:=xs) (fun j σ G'=>∃v2:Option V,σ = [some (.ref tA),some (.ref r),v2]/\G'=G /\ ∀j',j'<j->(F i j').length<=200) ⟨v2,rfl,rfl,fun j' h=>by lia⟩ (fun j σ G' _ ⟨_,_,e,_⟩=>by rw [e];exact Zo.of ex) ?_ ?_⟩
   ·rintro j y σ G' hy ⟨v2,rfl,rfl,ok2⟩
    have hj:j<n:=by have:=(List.getElem?_eq_some_iff.mp hy).1;lia
    obtain ⟨e,rfl,us,eu,wu⟩:=hx j y hy
    have lu:=wu.len
    have hzz:=hz i j hi hj
    refine ⟨_,rfl,e,_,rfl,.inl (Zo.of eu),_,_,rfl,rfl,_,rfl,YJ (fun c=>?_) (fun c=>?_)⟩
    ·have c':(200:Int)<(us.length:Int):=of_decide_eq_true c
     refine ⟨_,rfl,e,_,rfl,.inl (Zo.of eu),_,rfl,by lia,fun z=>⟨(by show 1<=sizeLine;decide),kx fun fw=>?_⟩⟩
     have:=fw i j hi hj
     lia
    ·have c':¬(200:Int)<(us.length:Int):=fun z=>c (decide_eq_true z)
     refine ⟨_,rfl,rfl,fun j' h=>?_⟩
     by_cases z:j'=j
     ·subst z;lia
     ·exact ok2 j' (by lia)
   ·rintro σ G' ⟨v2,rfl,rfl,ok2⟩
    refine ⟨_,_,rfl,rfl,fun i' j h hj=>?_⟩
    by_cases z:i'=i
    ·subst z;exact ok2 j (by lia)
    ·exact ok i' j (by lia) hj
  ·rintro σ G ⟨v1,v2,rfl,rfl,ok⟩
   exact k fun i j hi hj=>ok i j (by rw [List.length_map];lia) hj
def stT (s:Nat×(Nat->Nat->WS)×Int) (p:Str×Int):Nat×(Nat->Nat->WS)×Int:=(nxN p.1 s.1,nxF p.1 p.2.toNat s.2.2 s.2.1,s.2.2+1)
def ZgZ (ls:List (Str×Int)):Nat×(Nat->Nat->WS)×Int:=ls.foldl stT (0,fun _ _=>[],0)
def tN (ls:List (Str×Int)):Nat:=(ZgZ ls).1
def tF (ls:List (Str×Int)):Nat->Nat->WS:=(ZgZ ls).2.1
theorem Zf5 (ls:List (Str×Int)) (p:Str×Int):ZgZ (ls ++ [p])=stT (ZgZ ls) p:=by unfold ZgZ;rw [List.foldl_append];rfl
theorem Zod (ls:List (Str×Int)):(ZgZ ls).2.2=ls.length:=by
 have key:∀(ls:List (Str×Int)) (s:Nat×(Nat->Nat->WS)×Int),(ls.foldl stT s).2.2=s.2.2+ls.length:=by
  intro ls
  induction ls with
  | nil=>intro s;simp
  | cons p ls ih=>intro s;rw [List.foldl_cons,ih];show s.2.2+1+_=_;rw [List.length_cons];lia
 have:=key ls (0,fun _ _=>[],0)
 unfold ZgZ
 rw [this]
 show (0:Int)+_=_
 lia
theorem Wf (ls:List (Str×Int)) (p:Str×Int):tN (ls ++ [p])=nxN p.1 (tN ls):=by unfold tN;rw [Zf5];rfl
theorem J9 (ls:List (Str×Int)) (p:Str×Int):tF (ls ++ [p])=nxF p.1 p.2.toNat ls.length (tF ls):=by unfold tF;rw [Zf5,<- Zod ls];rfl
theorem GA {ls:List (Str×Int)}{n:Int} (h:Wk ls n):(tN ls:Int)=n:=by
 induction h with
 | nil=>rfl
 | born h h0 h1 ih=>rw [Wf];unfold nxN;rw [if_pos rfl];lia
 | cross h h0 h1 ih=>rw [Wf];unfold nxN;rw [if_neg (by dsimp only;decide),if_pos rfl];lia
 | fin h h0 h1 ih=>rw [Wf];unfold nxN;rw [if_neg (by dsimp only;decide),if_neg (by dsimp only;decide)];lia
theorem Zck {ls:List (Str×Int)}{m:Int} (h:Wk ls m):∀(i:Nat) (p:Str×Int),ls[i]? = some p->0<=p.2/\Fit p.1 p.2.toNat (tN (ls.take i)):=by
 have key:∀{ls:List (Str×Int)}{q:Str×Int}{n:Int},Wk ls n->(∀(i:Nat) (p:Str×Int),ls[i]? = some p->0<=p.2/\Fit p.1 p.2.toNat (tN (ls.take i)))->(0<=q.2/\Fit q.1 q.2.toNat (tN ls)) -> ∀(i:Nat) (p:Str×Int),(ls ++ [q])[i]? = some p->0<=p.2/\Fit p.1 p.2.toNat (tN ((ls ++ [q]).take i)):=by
  intro ls q n _ ih hq i p hp
  by_cases z:i<ls.length
  ·rw [List.getElem?_append_left z] at hp
   rw [List.take_append_of_le_length (by lia)]
   exact ih i p hp
  ·rw [List.getElem?_append_right (by lia)] at hp
   have:i-ls.length=0:=by
    have:=(List.getElem?_eq_some_iff.mp hp).1
    simp at this;lia
   rw [this] at hp
   cases hp
   have:i=ls.length:=by lia
   subst this
   rw [List.take_left']
   ·exact hq
   ·rfl
 induction h with
 | nil=>intro i p h;simp at h
 | born h h0 h1 ih=>exact key h ih ⟨h0,.inl ⟨rfl,by have:=GA h;dsimp only;lia⟩⟩
 | cross h h0 h1 ih=>exact key h ih ⟨h0,.inr (.inl ⟨rfl,by have:=GA h;dsimp only;lia⟩)⟩
 | fin h h0 h1 ih=>exact key h ih ⟨h0,.inr (.inr ⟨rfl,by have:=GA h;dsimp only;lia⟩)⟩
def WB (B:Nat) (L:WS):Prop:=∀w∈L,w.length+2<=B /\ ∀k∈w,0<=k
theorem ZgA {B:Nat}:WB B []:=fun w h=>nomatch h
theorem Jy {B B':Nat}{L:WS} (h:WB B L) (hB:B<=B'):WB B' L:=fun w hw=>⟨by have:=(h w hw).1;lia,(h w hw).2⟩
theorem Za7 {B:Nat}{L M:WS} (h:WB B L) (h':WB B M):WB B (Jb L M):=fun w hw=>by
 rcases List.mem_append.mp ((Yb _).sub hw) with z | z
 ·exact h w z
 ·exact h' w z
theorem Uv {a b B:Nat}{L M:WS} (h:∀w∈L,w.length<=a /\ ∀k∈w,0<=k) (h':∀w∈M,w.length<=b /\ ∀k∈w,0<=k) (hB:a+b+2<=B):WB B (Yl L M):=fun w hw=>by
 obtain ⟨u,hu,z⟩:=List.mem_flatMap.mp ((Yb _).sub hw)
 obtain ⟨v,hv,rfl⟩:=List.mem_map.mp z
 refine ⟨by rw [List.length_append];have:=(h u hu).1;have:=(h' v hv).1;lia,fun k hk=>?_⟩
 rcases List.mem_append.mp hk with z | z
 ·exact (h u hu).2 k z
 ·exact (h' v hv).2 k z
theorem ZaC {t:Int} (ht:0<=t):∀w ∈ [[t]],w.length<=1 /\ ∀k∈w,0<=k:=fun w hw=>by
 rw [List.mem_singleton.mp hw]
 exact ⟨by simp,fun k hk=>by rw [List.mem_singleton.mp hk];exact ht⟩
theorem Zl7 {x:Str}{k:Nat}{t:Int}{F:Nat->Nat->WS}{B:Nat} (hB:2<=B) (ht:0<=t) (h:∀i j,WB B (F i j)) (i j:Nat):
  WB (if x = "cross" then B+1 else if x = "end" ∨ x ≠ "born" then 2*B else B) (nxF x k t F i j):=by
 have lo:∀i j,∀w∈F i j,w.length<=B-2 /\ ∀k∈w,0<=k:=fun i j w hw=>⟨by have:=(h i j w hw).1;lia,(h i j w hw).2⟩
 unfold nxF
 by_cases e:x = "born"
 ·subst e
  rw [if_pos rfl,if_neg (by decide),if_neg (by decide)]
  unfold UJ
  split
  ·intro w hw
   rw [List.mem_singleton.mp hw]
   exact ⟨by simpa using hB,fun k hk=>nomatch hk⟩
  ·split
   ·exact ZgA
   ·exact h _ _
 ·rw [if_neg e]
  by_cases e2:x = "cross"
  ·subst e2
   rw [if_pos rfl,if_pos rfl]
   unfold J3
   repeat' split
   ·exact ZgA
   ·exact Jy (h _ _) (by lia)
   ·exact Za7 (Jy (h _ _) (by lia)) (Uv (ZaC ht) (lo _ _) (by lia))
   ·exact Jy (h _ _) (by lia)
   ·exact Za7 (Jy (h _ _) (by lia)) (Uv (lo _ _) (ZaC ht) (by lia))
   ·exact Jy (h _ _) (by lia)
  ·rw [if_neg e2,if_neg e2,if_pos (.inr e)]
   unfold ZbX
   split
   ·refine Za7 (Jy (h _ _) (by lia)) (Uv (a:=B-1) (b:=B-1) (fun w hw=>?_) (fun w hw=>?_) (by lia))
    ·have:=Za7 (B:=B+1) (Jy (h i (k+1)) (by lia)) (Uv (B:=B+1) (lo i k) (ZaC ht) (by lia)) w hw
     exact ⟨by have:=this.1;lia,this.2⟩
    ·have:=Za7 (B:=B+1) (Jy (h k (j+2)) (by lia)) (Uv (B:=B+1) (ZaC ht) (lo (k+1) (j+2)) (by lia)) w hw
     exact ⟨by have:=this.1;lia,this.2⟩
   ·exact Jy (h _ _) (by lia)
theorem ZmC {ls:List (Str×Int)}{n:Int} (h:Wk ls n):n+2*(cnt "end" ls:Int)=2*(cnt "born" ls:Int):=by
 induction h with
 | nil=>rfl
 | born h h0 h1 ih=>rw [ZM,ZM,if_neg (by dsimp only;decide),if_pos rfl];lia
 | cross h h0 h1 ih=>rw [ZM,ZM,if_neg (by dsimp only;decide),if_neg (by dsimp only;decide)];lia
 | fin h h0 h1 ih=>rw [ZM,ZM,if_pos rfl,if_neg (by dsimp only;decide)];lia
def bdW (ls:List (Str×Int)):Nat:=2 ^ cnt "end" ls*(2+cnt "cross" ls)
theorem ZlO (ls:List (Str×Int)):2<=bdW ls:=by
 unfold bdW
 have:1<=2 ^ cnt "end" ls:=Nat.one_le_two_pow
 calc 2=1*2:=rfl
  _<=2 ^ cnt "end" ls*(2+cnt "cross" ls):=Nat.mul_le_mul this (by lia)
theorem ZmT {ls:List (Str×Int)}{n:Int} (h:Wk ls n):∀i j,WB (bdW ls) (tF ls i j):=by
 have key:∀{ls:List (Str×Int)}{x:Str}{k:Int},Kd x->(∀i j,WB (bdW ls) (tF ls i j)) -> ∀i j,WB (bdW (ls ++ [(x,k)])) (tF (ls ++ [(x,k)]) i j):=by
  intro ls x k kd ih i j
  rw [J9]
  refine Jy (Zl7 (ZlO ls) (by lia) ih i j) ?_
  unfold bdW
  rw [ZM,ZM]
  dsimp only
  have p1:1<=2 ^ cnt "end" ls:=Nat.one_le_two_pow
  rcases kd with rfl | rfl | rfl
  ·rw [if_neg (by decide),if_neg (by decide),if_neg (by decide),if_neg (by decide)]
   exact Nat.le_refl _
  ·rw [if_pos rfl,if_neg (by decide),if_pos rfl]
   simp only [Nat.add_zero]
   rw [<- Nat.add_assoc,Nat.mul_add _ _ 1]
   lia
  ·rw [if_neg (by decide),if_pos (by decide),if_pos rfl,if_neg (by decide),Nat.pow_succ]
   rw [Nat.mul_comm (2 ^ _) 2,Nat.mul_assoc]
   exact Nat.le_refl _
 induction h with
 | nil=>intro i j;exact ZgA
 | born h h0 h1 ih=>exact key (.inl rfl) ih
 | cross h h0 h1 ih=>exact key (.inr (.inl rfl)) ih
 | fin h h0 h1 ih=>exact key (.inr (.inr rfl)) ih
theorem ZfX (x:Str) (ls:List (Str×Int)) (i:Nat):cnt x (ls.take i)<=cnt x ls:=by
 unfold cnt
 exact List.Sublist.length_le ((List.take_sublist i ls).filter _)
theorem YS {ls:List (Str×Int)}{m:Int} (h:Wk ls m):∀i,∃n,Wk (ls.take i) n:=by
 have key:∀{ls:List (Str×Int)}{q:Str×Int}{m:Int},(∀i,∃n,Wk (ls.take i) n)->Wk (ls ++ [q]) m -> ∀i,∃n,Wk ((ls ++ [q]).take i) n:=by
  intro ls q m ih h i
  by_cases z:i<=ls.length
  ·rw [List.take_append_of_le_length z];exact ih i
  ·rw [List.take_of_length_le (by rw [List.length_append,List.length_singleton];lia)];exact ⟨m,h⟩
 induction h with
 | nil=>intro i;exact ⟨0,by simpa using Wk.nil⟩
 | born h h0 h1 ih=>exact key ih (Wk.born h h0 h1)
 | cross h h0 h1 ih=>exact key ih (Wk.cross h h0 h1)
 | fin h h0 h1 ih=>exact key ih (Wk.fin h h0 h1)
theorem ZgH {ls:List (Str×Int)} (hW:Wk ls 0) (hb:InB ls) (a i j:Nat):WB 4000 (tF (ls.take a) i j):=by
 obtain ⟨n,h⟩:=YS hW a
 refine Jy (ZmT h i j) ?_
 have b1:=hb.2.1
 have b2:=hb.2.2
 rw [JW] at b1 b2
 have k:=ZmC hW
 have c1:=ZfX "end" ls a
 have c2:=ZfX "cross" ls a
 unfold bdW
 have e4:2 ^ cnt "end" (ls.take a)<=2 ^ 8:=Nat.pow_le_pow_right (by decide) (by lia)
 calc 2 ^ cnt "end" (ls.take a)*(2+cnt "cross" (ls.take a))<=2 ^ 8*14:=Nat.mul_le_mul e4 (by lia)
  _<=4000:=by decide
theorem Znz {ls:List (Str×Int)} (hW:Wk ls 0) (hb:InB ls) {a:Nat} (fw:Few (tN (ls.take a)) (tF (ls.take a))):TGd (tN (ls.take a)) 50000 (tF (ls.take a)):=fun i j hi hj=>
 ⟨fw i j hi hj,fun w hw=>⟨by have:=(ZgH hW hb a i j w hw).1;lia,(ZgH hW hb a i j w hw).2⟩⟩
theorem tab_keep {G:Hp}{r b:Addr}{n:Nat}{F:Nat->Nat->WS}{us vs:List V} (x:Tab G r n F) (hr:r≠b) (nw:∀L,¬WL G b L) (nr:0<n -> ∀f,¬J8 G b n f) (hb:G b=some (.lst us)):Tab (upd G b (.lst vs)) r n F:=by
 obtain ⟨A,e,m⟩:=x
 refine ⟨A,by rw [Zj hr];exact e,Zfh m (fun r' h'=>?_) hb⟩
 obtain ⟨i,hi,rfl⟩:=List.getElem_of_mem h'
 have R:=m.2.2 i A[i] (by simp)
 have hn:0<n:=by have:=m.1;lia
 refine ⟨fun z=>nr hn (F i) (z ▸ R),fun xs e' hx he z=>?_⟩
 obtain ⟨ys,a,_,c⟩:=R
 rw [a] at hx
 have hxy:ys=xs:=by injection hx with hx;injection hx
 subst hxy
 obtain ⟨j,hj⟩:=List.mem_iff_getElem?.mp he
 obtain ⟨e'',p,q⟩:=c j _ hj
 cases p
 subst z
 exact nw _ q
structure Tbs (G:Hp) (b:Addr) (ls:List (Str×Int)) (T:List Addr):Prop where
 at_:G b=some (.lst (T.map V.ref))
 ne:0<T.length
 tab:∀(a:Nat) (r:Addr),T[a]? = some r->Tab G r (tN (ls.take a)) (tF (ls.take a))/\r≠b
theorem ZaI {G G':Hp}{b:Addr}{ls:List (Str×Int)}{T:List Addr} (s:Ze G G') (x:Tbs G b ls T):Tbs G' b ls T:=⟨s _ _ x.at_,x.ne,fun a r h=>⟨(x.tab a r h).1.same s,(x.tab a r h).2⟩⟩
theorem ZiX {G:Hp}{b:Addr}{ls:List (Str×Int)}{T:List Addr} (x:Tbs G b ls T) (L:WS):¬WL G b L:=fun ⟨xs,e,w⟩=>by
 rw [x.at_] at e
 have hxy:T.map V.ref=xs:=by injection e with e;injection e
 subst hxy
 have h0:T[0]? = some (T[0]'x.ne):=by simp
 obtain ⟨_,_,t,ht,hh⟩:=Words.get (i:=0) w (by rw [List.getElem?_map,h0];rfl)
 cases ht
 obtain ⟨A,e,_⟩:=(x.tab 0 _ h0).1
 rw [e] at hh
 cases hh
theorem Znd {ls:List (Str×Int)} (hW:Wk ls 0) (h:0<ls.length):tN (ls.take 1)=2:=by
 obtain ⟨p,hp⟩:∃p,ls[0]? = some p:=⟨ls[0],by simp [h]⟩
 have e:ls.take 1 = [] ++ [p]:=by rw [show (1:Nat)=0+1 from rfl,List.take_add_one,hp];rfl
 rw [e,Wf]
 have ft:=(Zck hW 0 p hp).2
 rcases ft with ⟨a,_⟩ | ⟨_,b⟩ | ⟨_,b⟩
 ·unfold nxN;rw [if_pos a];rfl
 ·exact absurd b (by show ¬_+1<0;lia)
 ·exact absurd b (by show ¬_+1<0;lia)
theorem ZiD {G:Hp}{b:Addr}{ls:List (Str×Int)}{T:List Addr} (hW:Wk ls 0) (x:Tbs G b ls T) (hl:T.length<=ls.length) {n:Nat} (hn:2<=n) (f:Nat->WS):¬J8 G b n f:=fun R=>by
 obtain ⟨xs,e,a,l,c,w⟩:=R.at (j:=1) (by lia)
 rw [x.at_] at a
 have hxy:T.map V.ref=xs:=by injection a with a;injection a
 subst hxy
 rw [List.length_map] at l
 rw [List.getElem?_map] at c
 obtain ⟨r,h1,h2⟩:=Option.map_eq_some_iff.mp c
 cases h2
 have tb:=(x.tab 1 _ h1).1
 rw [Znd hW (by lia)] at tb
 obtain ⟨ys,r0,b1,_,b3,b4⟩:=tb.row (i:=0) (by lia)
 obtain ⟨us,u1,u2⟩:=w
 rw [b1] at u1
 have hxy:ys=us:=by injection u1 with u1;injection u1
 subst hxy
 obtain ⟨_,_,t,ht,hh⟩:=Words.get (i:=0) u2 b3
 cases ht
 obtain ⟨zs,q,_⟩:=b4
 rw [q] at hh
 cases hh
theorem ZkW {ls:List (Str×Int)}{n:Int} (h:Wk ls n):tN ls % 2=0:=by
 have a:=GA h
 have b:=ZmC h
 lia
theorem ZjD {G:Hp}{b p:Addr}{ls:List (Str×Int)}{T:List Addr} (hW:Wk ls 0) (x:Tbs G b ls T) (hl:T.length<=ls.length) (tb:Tab G p (tN (ls.take T.length)) (tF (ls.take T.length))) (hp:p≠b):Tbs (upd G b (.lst (T.map V.ref ++ [.ref p]))) b ls (T ++ [p]):=by
 have keep:∀(a:Nat) (r:Addr),Tab G r (tN (ls.take a)) (tF (ls.take a))->r≠b->Tab (upd G b (.lst (T.map V.ref ++ [.ref p]))) r (tN (ls.take a)) (tF (ls.take a)):=fun a r t n=>by
  refine tab_keep t n (ZiX x) (fun h0 f=>ZiD hW x hl ?_ f) x.at_
  obtain ⟨m,h⟩:=YS hW a
  have:=ZkW h
  lia
 refine ⟨by rw [List.map_append];exact Zb,by rw [List.length_append];have:=x.ne;lia,fun a r h=>?_⟩
 by_cases z:a<T.length
 ·rw [List.getElem?_append_left z] at h
  exact ⟨keep a r (x.tab a r h).1 (x.tab a r h).2,(x.tab a r h).2⟩
 ·rw [List.getElem?_append_right (by lia)] at h
  have:a-T.length=0:=by
   have:=(List.getElem?_eq_some_iff.mp h).1
   simp at this;lia
  rw [this] at h
  cases h
  have:a=T.length:=by lia
  subst this
  exact ⟨keep _ _ tb hp,hp⟩
def Jc (ls:List (Str×Int)) (m:Nat):Prop:=∀a,a<=m->Few (tN (ls.take a)) (tF (ls.take a))
theorem ZfQ {α:Type}{l:List α}{i:Nat}{x:α} (hl:l.length=i+1) (h:l[i]? = some x):atI l (-1)=some x:=by
 unfold atI ixN
 rw [if_neg (by decide),if_pos (by lia),hl,show ((-1:Int)+((i+1:Nat):Int)).toNat=i by lia]
 exact h
theorem Zmx {ls:List (Str×Int)} (hW:Wk ls 0) (hI:InB ls) (a:Nat):tN (ls.take a)<=8:=by
 obtain ⟨m,hm⟩:=YS hW a
 have h1:=GA hm
 have h2:=Ub hm
 have h3:=hI.1 a
 lia
theorem Zke {x:Str}{k n b:Nat}{t:Int}{F:Nat->Nat->WS} (tg:TGd n b F) (ft:Fit x k n):∀i j,i<nxN x n->j<nxN x n->(nxF x k t F i j).length<10000000:=by
 have pl:∀A B:WS,(Jb A B).length<=A.length+B.length:=fun A B=>by have:=(Yb (A++B)).len;rw [List.length_append] at this;exact this
 have tl:∀A B:WS,(Yl A B).length<=A.length*B.length:=fun A B=>by have:=(Yb (prd A B)).len;rw [Zb5] at this;exact this
 have F200:∀i j,i<n->j<n->(F i j).length<=200:=fun i j hi hj=>(tg i j hi hj).1
 intro i j hi hj
 unfold nxN at hi hj
 unfold nxF
 rcases ft with ⟨rfl,hk⟩ | ⟨rfl,hk⟩ | ⟨rfl,hk⟩
 ·rw [if_pos rfl] at hi hj ⊢
  unfold UJ
  split
  ·decide
  ·split
   ·decide
   ·have:=F200 (if i<k then i else i-2) (if j<k then j else j-2) (by split<;>lia) (by split<;>lia)
    lia
 ·rw [if_neg (by decide),if_pos rfl] at hi hj ⊢
  unfold J3
  repeat' split
  ·decide
  ·have:=F200 (k+1) j (by lia) (by lia);lia
  ·have h1:=F200 k j (by lia) (by lia)
   have h2:=F200 (k+1) j (by lia) (by lia)
   have h3:=tl [[t]] (F (k+1) j)
   have h4:=pl (F k j) (Yl [[t]] (F (k+1) j))
   simp only [List.length_singleton,Nat.one_mul] at h3
   lia
  ·have:=F200 i k (by lia) (by lia);lia
  ·have h1:=F200 i (k+1) (by lia) (by lia)
   have h2:=F200 i k (by lia) (by lia)
   have h3:=tl (F i k) [[t]]
   have h4:=pl (F i (k+1)) (Yl (F i k) [[t]])
   simp only [List.length_singleton,Nat.mul_one] at h3
   lia
  ·have:=F200 i j (by lia) (by lia);lia
 ·rw [if_neg (by decide),if_neg (by decide)] at hi hj ⊢
  unfold ZbX
  split
  ·rename_i hc
   have a1:=F200 i (k+1) (by lia) (by lia)
   have a2:=F200 i k (by lia) (by lia)
   have a3:=tl (F i k) [[t]]
   simp only [List.length_singleton,Nat.mul_one] at a3
   have a4:(UE k t F i).length<=400:=by have:=pl (F i (k+1)) (Yl (F i k) [[t]]);unfold UE;lia
   have b1:=F200 k (j+2) (by lia) (by lia)
   have b2:=F200 (k+1) (j+2) (by lia) (by lia)
   have b3:=tl [[t]] (F (k+1) (j+2))
   simp only [List.length_singleton,Nat.one_mul] at b3
   have b4:(ZcC k t F (j+2)).length<=400:=by have:=pl (F k (j+2)) (Yl [[t]] (F (k+1) (j+2)));unfold ZcC;lia
   have c1:=tl (UE k t F i) (ZcC k t F (j+2))
   have c2:(UE k t F i).length*(ZcC k t F (j+2)).length<=400*400:=Nat.mul_le_mul a4 b4
   have c3:=F200 i (j+2) (by lia) (by lia)
   have c4:=pl (F i (j+2)) (Yl (UE k t F i) (ZcC k t F (j+2)))
   lia
  ·have:=F200 (if i<k then i else i+2) (if j<k then j else j+2) (by split<;>lia) (by split<;>lia)
   lia
def ZnT (C W:Addr):Sp:=fun vs H Q E=>∃(l:Addr) (xs:List V) (ls:List (Str×Int)),vs = [.ref l]/\H l=some (.lst xs)/\Zs H xs ls/\Wk ls 0/\InB ls/\ls.length<=60 /\
 (Jc ls ls.length -> ∀(p:Addr) (H':Hp) (T:List Addr),H p=none->Ze H H'->Tbs H' p ls T->T.length=ls.length+1->Q (.ref p) H')/\(¬Jc ls ls.length -> ∀H',Ze H H'->E (.ref C) none H')
abbrev Uc:Stmt:=top 37
theorem Jg:Zp ["drawing", "way", "tables", "t", "letter"] ["drawing"] (Zi Uc):={}
theorem ZoH {f C Zw:Addr}{fd:FuncData} (F:Ym K "sum_tables" "sum_tables" Uc f fd) (Zbs:mg "WordWay" = some (.ref Zw)) (k_WordWay:MkO K Zw) (WN:Yi P w K mg base 5 "table_behind" ["table", "letter", "name", "way"] (ZmM Zw)) (Gk:Ze3 P w K mg base 1 "check_words" ["table"] (ZmJ C)) (ZQ:mg "enumerate" = none):ZX P w K mg base (CX1 P w) 6 f fd ["drawing"] (ZnT C Zw):=by
 refine F.okX Jg (fun vs H Q E h=>?_) (fun cdv A outer s H vs Q E hr h=>?_)
 ·obtain ⟨l,xs,ls,rfl,_⟩:=h
  rfl
 ·obtain ⟨l,xs,ls,rfl,hl,hL,hW,hI,hlen,k,kx⟩:=h
  refine ⟨_,(Zd (Zq (i:=1) Jg.nd rfl (Or.inl rfl) (ZiV k_WordWay (by rfl) Zbs))
   (Zd (Zq (i:=2) Jg.nd rfl (Or.inl rfl) (Z6 (Za (Z6 Zc) Zc)))
   (Zd (Z5 PassesOwn.leaving rfl (US (K:=K) rfl (by rfl) ZQ (Za (pv 0) Zc)) (Yx (K:=K) (n:=2) rfl rfl (Zx (Zm (i:=3) Jg.nd rfl (Or.inl rfl)) (Zx (Zm (i:=4) Jg.nd rfl (Or.inl rfl)) Yy))) (Zd (Ye (YF (K:=K) rfl (JB PySem.F.plainAttrs_list PySem.F.slot_list_append PySem.F.type_list_append Z4 (pv 2) (Za (Zk WN hr (Za (Zz (Zl (K:=K) rfl) (pv 2) (ZaH GK Zg) (fun _ _=>rfl)) (Za (pv 4) (Za (Z6 (Za (JP (Za (pv 3) Zc)) Zc)) (Za (pv 1) Zc))))) Zc))))
   (Zh (Ye (Zg7 Gk (hr.mono (by decide)) Zmu (Za (Zz (Zl (K:=K) rfl) (pv 2) (ZaH GK Zg) (fun _ _=>rfl)) Zc))))))
   (Zh (Zr (pv 2)))))),?_⟩
  have lx:=hL.len
  intro x dx hx hdx ndx
  obtain ⟨H1,e1⟩:∃H1,upd (upd H dx (.own x)) x (.ins Zw dx [])=H1:=⟨_,rfl⟩
  have s1:Ze H H1:=by rw [<- e1];exact (Ze.laid hdx).put hx
  have ew:H1 x=some (.ins Zw dx []):=by rw [<- e1];exact Zb
  rw [e1]
  refine ⟨(by show 0<=sizeLine;decide),fun t0 ft0=>⟨(by show 1<=sizeLine;decide),fun tb ftb=>?_⟩⟩
  have s2:Ze H1 (upd H1 t0 (.lst [])):=Ze.laid ft0
  have n0:t0≠tb:=fun z=>by rw [<- z,Zb] at ftb;cases ftb
  obtain ⟨H2,e2⟩:∃H2,upd (upd H1 t0 (.lst [])) tb (.lst [.ref t0])=H2:=⟨_,rfl⟩
  have s3:Ze (upd H1 t0 (.lst [])) H2:=by rw [<- e2];exact Ze.laid ftb
  have etb:H2 tb=some (.lst ([t0].map V.ref)):=by rw [<- e2];exact Zb
  rw [e2]
  have s12:=(s1.trans s2).trans s3
  have ftH:H tb=none:=(s1.trans s2).free ftb
  have z0:Few 0 (tF (ls.take 0)):=fun i j hi=>by lia
  have T0:Tbs H2 tb ls [t0]:=⟨etb,by simp,fun a r h=>by
   match a,h with
   | 0,h=>
    cases h
    exact ⟨⟨[],s3 _ _ Zb,ZaZ⟩,n0⟩⟩
  refine ⟨_,rfl,l,rfl,⟨_,Zo.of (s12 _ _ hl)⟩,Zep (K:=K) (a:=l) (xs:=xs) (fun i σ G=>∃(v3 v4:Option V) (T:List Addr),σ = [some (.ref l),some (.ref x),some (.ref tb),v3,v4]/\Ze H G/\ZbJ G Zw x/\Tbs G tb ls T/\T.length=i+1/\Jc ls i)
   ⟨none,none,[t0],rfl,s12,⟨dx,[],s3 _ _ (s2 _ _ ew),rfl⟩,T0,rfl,fun a ha=>by rw [show a=0 by lia];exact z0⟩ (fun i σ G _ ⟨_,_,_,_,sg,_⟩=>Zo.of (sg _ _ hl)) ?_ ?_⟩
  ·rintro i y p σ G hy ⟨v3,v4,T,rfl,sg,wy,tbs,lT,few⟩ fp
   obtain ⟨⟨kd,kk⟩,q,hq,rfl,ht⟩:=hL.get hy
   have hi:i<ls.length:=(List.getElem?_eq_some_iff.mp hq).1
   obtain ⟨k0,ft⟩:=Zck hW i _ hq
   dsimp only at k0 ft
   obtain ⟨kn,rfl⟩:=Int.eq_ofNat_of_zero_le k0
   rw [Int.toNat_natCast] at ft
   obtain ⟨G0,eG0⟩:∃G0,upd G p (.tup [.int i,.ref q])=G0:=⟨_,rfl⟩
   have sp:Ze G G0:=by rw [<- eG0];exact Ze.laid fp
   have ep:G0 p=some (.tup [.int i,.ref q]):=by rw [<- eG0];exact Zb
   rw [eG0]
   refine ⟨p,_,rfl,WT.of ep,rfl,_,_,rfl,_,_,rfl,rfl,?_⟩
   have tbs0:=ZaI sp tbs
   have hTi:T[i]? = some (T[i]'(by lia)):=by simp
   have hlast:atI (T.map V.ref) (-1)=some (.ref (T[i]'(by lia))):=ZfQ (by rw [List.length_map];exact lT) (by rw [List.getElem?_map,hTi];rfl)
   refine ⟨_,rfl,.inl ⟨rfl,_,Zo.of tbs0.at_⟩,_,rfl,1,rfl,tb,_,_,_,rfl,rfl,Zo.of tbs0.at_,hlast,_,rfl,_,rfl,(by show 1<=sizeLine;decide),fun u1 fu1=>⟨(by show 1<=sizeLine;decide),fun u2 fu2=>?_⟩⟩
   obtain ⟨G2,eG2⟩:∃G2,upd (upd G0 u1 (.tup [.int i])) u2 (.lst [.ref u1])=G2:=⟨_,rfl⟩
   have su:Ze G0 G2:=by rw [<- eG2];exact (Ze.laid fu1).step fu2
   have wn:WL G2 u2 [[(i:Int)]]:=by rw [<- eG2];exact ⟨_,Zb,.cons ⟨u1,rfl,Ze.laid fu2 _ _ Zb⟩ .nil⟩
   rw [eG2]
   have tbs2:=ZaI su tbs0
   have wy2:=ZfH (sp.trans su) wy
   have n8:=Zmx hW hI i
   have tg:=Znz hW hI (few i (Nat.le_refl _))
   have eqt:ls.take (i+1)=ls.take i ++ [(kd,(kn:Int))]:=by rw [List.take_add_one,hq];rfl
   have li:(ls.take i).length=i:=by rw [List.length_take];lia
   refine ⟨_,rfl,T[i]'(by lia),q,u2,x,tN (ls.take i),kn,kd,(i:Int),tF (ls.take i),rfl,wy2,(tbs2.tab i _ hTi).1,(sg.trans (sp.trans su)) _ _ ht,wn,by lia,by lia,tg,ft,fun p' G3 fp' t3 tab'=>?_⟩
   have e1':nxN kd (tN (ls.take i))=tN (ls.take (i+1)):=by rw [eqt,Wf]
   have e2':nxF kd kn (i:Int) (tF (ls.take i))=tF (ls.take (i+1)):=by rw [eqt,J9,li];rfl
   have lens:=Zke (t:=(i:Int)) tg ft
   rw [e1',e2'] at tab' lens
   have tbs3:=ZaI t3 tbs2
   have np':p'≠tb:=fun z=>by have:=tbs2.at_;rw [<- z,fp'] at this;cases this
   have push:=ZjD hW tbs3 (by lia) (by rw [lT];exact tab') np'
   refine ⟨tb,_,_,rfl,rfl,tbs3.at_,by rw [List.length_map,lT,sizeLine_eq];lia,?_⟩
   obtain ⟨G4,eG4⟩:∃G4,upd G3 tb (.lst (T.map V.ref ++ [.ref p']))=G4:=⟨_,rfl⟩
   have S4:Ze H G4:=by rw [<- eG4];exact ((sg.trans (sp.trans su)).trans t3).put ftH
   have wy4:ZbJ G4 Zw x:=by
    obtain ⟨dx',fs',ew',rfl⟩:=ZfH t3 wy2
    refine ⟨dx',[],?_,rfl⟩
    rw [<- eG4,Zj (fun z=>by rw [z,tbs3.at_] at ew';cases ew')]
    exact ew'
   rw [eG4] at push ⊢
   have h5:(T ++ [p'])[i+1]? = some p':=by rw [List.getElem?_append_right (by lia),lT];simp
   refine ⟨_,rfl,1,rfl,tb,_,_,_,rfl,rfl,Zo.of push.at_,ZfQ (by rw [List.length_map,List.length_append,lT];rfl) (by rw [List.getElem?_map,h5];rfl),?_⟩
   refine ⟨p',_,_,rfl,(push.tab (i+1) p' h5).1,(by have:=Zmx hW hI (i+1);lia),lens,fun fw=>?_,fun nf=>kx (fun all=>nf (all (i+1) (by lia))) G4 S4⟩
   refine ⟨_,_,T ++ [p'],rfl,S4,wy4,push,by rw [List.length_append,lT];rfl,fun a ha=>?_⟩
   by_cases z:a=i+1
   ·rw [z];exact fw
   ·exact few a (by lia)
  ·rintro σ G ⟨v3,v4,T,rfl,sg,wy,tbs,lT,few⟩
   rw [lx] at lT few
   exact ⟨_,rfl,k few tb G T ftH sg tbs lT⟩
def WQ (ls:List (Str×Int)):List Int:=ZU ls (fun x=>!decide (x = "born")) ls.length
theorem Zay {ls:List (Str×Int)}{pr:Str->Bool}{n j:Nat}{t:Int} (h:(ZU ls pr n)[j]? = some t):∃(a:Nat) (p:Str×Int),t=(a:Int)/\a<n/\ls[a]? = some p/\pr p.1=true:=by
 have m:=List.mem_of_getElem? h
 unfold ZU at m
 obtain ⟨a,ha,e⟩:=List.mem_filterMap.mp m
 rw [List.mem_range] at ha
 by_cases z:isK ls pr a=true
 ·rw [if_pos z] at e
  cases e
  unfold isK at z
  cases q:ls[a]? with
  | none=>rw [q] at z;simp at z
  | some p=>rw [q] at z;exact ⟨a,p,rfl,ha,q,by simpa using z⟩
 ·rw [if_neg z] at e;cases e
theorem canon_id {L:WS} (h:SR L):canon L=L:=by
 refine (YY.canon ⟨h,fun y=>?_⟩).symm
 have nd:L.Nodup:=h.imp fun {a b} lt e=>by rw [e,U0] at lt;cases lt
 by_cases m:y∈L
 ·exact ⟨fun _=>by have h1:=List.nodup_iff_count.mp nd y;have h2:=List.count_pos_iff.mpr m;lia,fun _=>m⟩
 ·refine ⟨fun z=>absurd z m,fun z=>?_⟩
  rw [List.count_eq_zero.mpr m] at z;cases z
theorem ZgD (ls:List (Str×Int)):∀i j,SR (tF ls i j):=by
 have key:∀(ls:List (Str×Int)) (s:Nat×(Nat->Nat->WS)×Int),(∀i j,SR (s.2.1 i j)) -> ∀i j,SR ((ls.foldl stT s).2.1 i j):=by
  intro ls
  induction ls with
  | nil=>intro s h;exact h
  | cons p ls ih=>
   intro s h
   rw [List.foldl_cons]
   refine ih _ fun i j=>?_
   show SR (nxF p.1 p.2.toNat s.2.2 s.2.1 i j)
   have pl:∀A B,SR (Jb A B):=fun A B=>(Yb _).rise
   unfold nxF
   split
   ·unfold UJ
    repeat' split
    all_goals first | exact h _ _ | exact List.pairwise_singleton _ _ | exact List.Pairwise.nil
   ·split
    ·unfold J3
     repeat' split
     all_goals first | exact h _ _ | exact pl _ _ | exact List.Pairwise.nil
    ·unfold ZbX
     split
     ·exact pl _ _
     ·exact h _ _
 exact key ls _ fun i j=>List.Pairwise.nil
def dW (ls:List (Str×Int)) (t:Nat):WS:=
 match ls[t]? with
 | some p=>if p.1 = "end" then Jb (tF (ls.take t) p.2.toNat (p.2.toNat+1)) [[]] else tF (ls.take t) p.2.toNat (p.2.toNat+1)
 | none=>[]
theorem ZeO {ls:List (Str×Int)}{t k:Nat} (h:ls[t]? = some ((("end" : Str),(k:Int)):Str×Int)):dW ls t=Jb (tF (ls.take t) k (k+1)) [[]]:=by
 unfold dW
 rw [h]
 exact if_pos rfl
theorem Zhv {ls:List (Str×Int)}{t k:Nat}{x:Str} (h:ls[t]? = some (x,(k:Int))) (e:x ≠ "end"):dW ls t=tF (ls.take t) k (k+1):=by
 unfold dW
 rw [h]
 exact if_neg e
def DsE (H:Hp) (ls:List (Str×Int)) (es:List Addr):Prop:=∀(j:Nat) (e:Addr),es[j]? = some e -> ∃t:Nat,(WQ ls)[j]? = some (t:Int)/\WL H e (dW ls t)
theorem DsE.same {H H':Hp}{ls:List (Str×Int)}{es:List Addr} (s:Ze H H') (x:DsE H ls es):DsE H' ls es:=fun j e h=>let ⟨t,a,b⟩:=x j e h;⟨t,a,b.same s⟩
theorem DsE.snoc {H:Hp}{ls:List (Str×Int)}{es:List Addr}{e:Addr}{t:Nat} (x:DsE H ls es) (h:(WQ ls)[es.length]? = some (t:Int)) (w:WL H e (dW ls t)):DsE H ls (es ++ [e]):=fun j e' h'=>by
 by_cases z:j<es.length
 ·rw [List.getElem?_append_left z] at h'
  exact x j e' h'
 ·rw [List.getElem?_append_right (by lia)] at h'
  have:j-es.length=0:=by
   have:=(List.getElem?_eq_some_iff.mp h').1
   simp at this;lia
  rw [this] at h'
  cases h'
  rw [show j=es.length by lia]
  exact ⟨t,h,w⟩
theorem DsE.upd {H:Hp}{r:Addr}{ls:List (Str×Int)}{es:List Addr}{xs ys:List V} (hr:H r=some (.lst xs)) (n:r∉es) (x:DsE H ls es):DsE (L2.upd H r (.lst ys)) ls es:=fun j e h=>let ⟨t,a,b⟩:=x j e h;⟨t,a,b.upd hr fun z=>n (z ▸ List.mem_of_getElem? h)⟩
theorem DsE.there {H:Hp}{ls:List (Str×Int)}{es:List Addr}{e:Addr} (x:DsE H ls es) (h:e∈es):H e≠none:=fun z=>by
 obtain ⟨j,hj⟩:=List.mem_iff_getElem?.mp h
 obtain ⟨t,_,us,b,_⟩:=x j e hj
 rw [z] at b;cases b
def ZeG (C:Addr):Sp:=fun vs H Q E=>∃(l:Addr) (xs:List V) (ls:List (Str×Int)),vs = [.ref l]/\H l=some (.lst xs)/\Zs H xs ls/\Wk ls 0/\InB ls/\ls.length<=60 /\
 (Jc ls ls.length -> ∀(p:Addr) (H':Hp) (es:List Addr),H p=none->Ze H H'->H' p=some (.lst (es.map V.ref))->es.length=(WQ ls).length->DsE H' ls es->es.Nodup->(∀e∈es,H e=none)->p∉es->Q (.ref p) H')/\(¬Jc ls ls.length -> ∀H',Ze H H'->E (.ref C) none H')
abbrev Ze5:Stmt:=top 38
theorem Gw:Zp ["drawing", "tables", "found", "t", "kind", "k"] ["drawing"] (Zi Ze5):={}
theorem Zjb {f C W:Addr}{fd:FuncData} (F:Ym K "deeds" "deeds" Ze5 f fd) (GW:Ze3 P w K mg base 6 "sum_tables" ["drawing"] (ZnT C W)) (Yk:Yi P w K mg base 1 "names_of" ["drawing"] (WH fun x=>!decide (x = "born"))) (UZ:Yi P w K mg base 2 "added" ["one", "other"] Zb4):ZX P w K mg base (CX1 P w) 7 f fd ["drawing"] (ZeG C):=by
 refine F.okX Gw (fun vs H Q E h=>?_) (fun cdv A outer s H vs Q E hr h=>?_)
 ·obtain ⟨l,xs,ls,rfl,_⟩:=h
  rfl
 ·obtain ⟨l,xs,ls,rfl,hl,hL,hW,hI,hlen,k,kx⟩:=h
  refine ⟨_,(Zd (Zq (i:=1) Gw.nd rfl (Or.inl rfl) (Zg7 GW (hr.mono (by decide)) Zmu (Za (pv 0) Zc)))
   (Zd (Zq (i:=2) Gw.nd rfl (Or.inl rfl) (Z6 Zc))
   (Zd (Z5 PassesOwn.leaving rfl (ZC (K:=K) rfl (Zk Yk hr (Za (pv 0) Zc))) (Zm (i:=3) Gw.nd rfl (Or.inl rfl)) (Zd (Yv (Zz (Zl (K:=K) rfl) (pv 0) (pv 3) (fun _ _=>rfl)) (Yx (K:=K) (n:=2) rfl rfl (Zx (Zm (i:=4) Gw.nd rfl (Or.inl rfl)) (Zx (Zm (i:=5) Gw.nd rfl (Or.inl rfl)) Yy))))
   (Zh (Ye (YF (K:=K) rfl (JB PySem.F.plainAttrs_list PySem.F.slot_list_append PySem.F.type_list_append Z4 (pv 2) (Za (Zk UZ hr (Za (Zz (Zl (K:=K) rfl) (Zz (Zl (K:=K) rfl) (Zz (Zl (K:=K) rfl) (pv 1) (pv 3) (fun _ _=>rfl)) (pv 5) (fun _ _=>rfl)) (Zn ZF (pv 5) Zg) (fun _ _=>rfl)) (Za (Za4 (Zu Uj (pv 4) YH (ZD _)) (Z6 (Za (JP Zc) Zc)) (Z6 Zc)) Zc))) Zc)))))))
   (Zh (Zr (pv 2)))))),?_⟩
  refine ⟨_,rfl,l,xs,ls,rfl,hl,hL,hW,hI,hlen,fun few tA G0 T0 ftA s0 tbs0 lT0=>?_,fun nf H' s'=>kx nf H' s'⟩
  refine ⟨(by show 0<=sizeLine;decide),fun fA ffA=>?_⟩
  obtain ⟨G1,eG1⟩:∃G1,upd G0 fA (.lst [])=G1:=⟨_,rfl⟩
  have s1:Ze G0 G1:=by rw [<- eG1];exact Ze.laid ffA
  have ef1:G1 fA=some (.lst ([].map V.ref)):=by rw [<- eG1];exact Zb
  rw [eG1]
  have S1:=s0.trans s1
  refine ⟨_,rfl,l,xs,ls,rfl,S1 _ _ hl,hL.same S1,hlen,fun p hp=>hW.kd p hp,fun nA G2 fnA s2 enA=>?_⟩
  have nn:nA≠fA:=fun z=>by rw [z,ef1] at fnA;cases fnA
  have ffH:H fA=none:=s0.free ffA
  refine ⟨nA,rfl,⟨_,Zo.of enA⟩,Yd (K:=K) (a:=nA) (xs:=(WQ ls).map V.int) (fun j σ G=>∃(v3 v4 v5:Option V) (es:List Addr),σ = [some (.ref l),some (.ref tA),some (.ref fA),v3,v4,v5]/\Ze G0 G/\G nA=some (.lst ((WQ ls).map V.int))/\G fA=some (.lst (es.map V.ref))/\es.length=j/\DsE G ls es/\es.Nodup/\(∀e∈es,G0 e=none)/\fA∉es)
   ⟨none,none,none,[],rfl,s1.trans s2,enA,s2 _ _ ef1,rfl,(fun j e h=>by simp at h),.nil,(fun e h=>nomatch h),(fun h=>nomatch h)⟩ (fun j σ G _ ⟨_,_,_,_,_,_,e,_⟩=>Zo.of e) ?_ ?_⟩
  ·rintro j x σ G hx ⟨v3,v4,v5,es,rfl,sg,en,ef,le,ds,nd,fr,nf⟩
   rw [List.getElem?_map] at hx
   obtain ⟨t,ht,rfl⟩:=Option.map_eq_some_iff.mp hx
   obtain ⟨a,⟨kd,kk⟩,rfl,ha,hp,hkd⟩:=Zay ht
   obtain ⟨k0,ft⟩:=Zck hW a _ hp
   dsimp only at k0 ft hkd
   obtain ⟨kn,rfl⟩:=Int.eq_ofNat_of_zero_le k0
   rw [Int.toNat_natCast] at ft
   have nb:kd ≠ "born" := by simpa using hkd
   have hk:kn+1<tN (ls.take a):=by
    rcases ft with ⟨z,_⟩ | ⟨_,z⟩ | ⟨_,z⟩
    ·exact absurd z nb
    ·exact z
    ·exact z
   obtain ⟨x,hx'⟩:∃x,xs[a]? = some x:=⟨xs[a]'(by have:=hL.len;lia),by simp⟩
   obtain ⟨q0,q,hq,rfl,etq⟩:=hL.get hx'
   rw [hp] at hq
   cases hq
   have SG:=s0.trans sg
   have tbs:=ZaI sg tbs0
   have hTa:T0[a]? = some (T0[a]'(by lia)):=by simp
   obtain ⟨ys,r,b1,_,b3,b4⟩:=(tbs.tab a _ hTa).1.row (i:=kn) (by lia)
   obtain ⟨us,e,c1,_,c3,c4⟩:=b4.at (j:=kn+1) hk
   have f200:=few a (by lia) kn (kn+1) (by lia) hk
   have app:∀(p':Addr) (G3:Hp),G p'=none->Ze G G3->WL G3 p' (dW ls a)->Zha (.ref fA) [.ref p'] G3 (fun _ G4=>∃(v3 v4 v5:Option V) (es:List Addr),[some (.ref l),some (.ref tA),some (.ref fA),some (.int (a:Int)),some (.str kd),some (.int (kn:Int))] = [some (.ref l),some (.ref tA),some (.ref fA),v3,v4,v5]/\Ze G0 G4/\G4 nA=some (.lst ((WQ ls).map V.int))/\G4 fA=some (.lst (es.map V.ref))/\es.length=j+1/\DsE G4 ls es/\es.Nodup/\(∀e∈es,G0 e=none)/\fA∉es):=fun p' G3 fp t3 wp=>by
    have np:p'≠fA:=fun z=>by rw [z,ef] at fp;cases fp
    have e3:=t3 _ _ ef
    have nin:p'∉es:=fun z=>ds.there z fp
    have hj:=(List.getElem?_eq_some_iff.mp ht).1
    have hnl:=Jk ls (fun x=>!decide (x = "born")) ls.length
    refine ⟨fA,_,_,rfl,rfl,e3,by rw [List.length_map,le,sizeLine_eq];unfold WQ at hj;lia,_,_,_,es ++ [p'],rfl,(sg.trans t3).put ffA,by rw [Zj nn];exact t3 _ _ en,by rw [List.map_append];exact Zb,by rw [List.length_append,le];rfl,DsE.snoc ((ds.same t3).upd e3 nf) (by rw [le];exact ht) (wp.upd e3 np),?_,?_,?_⟩
    ·rw [List.nodup_append]
     exact ⟨nd,by simp,fun x hx y hy z=>nin (by rw [List.mem_singleton.mp hy] at z;rw [<- z];exact hx)⟩
    ·intro e he
     rcases List.mem_append.mp he with z | z
     ·exact fr e z
     ·rw [List.mem_singleton.mp z];exact sg.free fp
    ·intro z
     rcases List.mem_append.mp z with z | z
     ·exact nf z
     ·exact np (List.mem_singleton.mp z).symm
   by_cases ek:kd = "end"
   ·subst ek
    refine ⟨_,rfl,_,rfl,l,_,_,_,rfl,rfl,Zo.of (SG _ _ hl),Zv hx',q,_,rfl,WT.of (SG _ _ etq),rfl,_,_,rfl,_,_,rfl,rfl,?_⟩
    refine ⟨_,rfl,.inl ⟨rfl,_,Zo.of ef⟩,_,rfl,_,rfl,tA,_,_,_,rfl,rfl,Zo.of tbs.at_,Zv (by rw [List.getElem?_map,hTa];rfl),_,rfl,_,_,_,_,rfl,rfl,Zo.of b1,Zv b3,_,rfl,_,_,rfl,rfl,r,_,_,_,rfl,rfl,Zo.of c1,Zv (j:=kn+1) c3,_,rfl,rfl,_,rfl,Ul ?_⟩
    refine ⟨(by show 0<=sizeLine;decide),fun u1 fu1=>⟨(by show 1<=sizeLine;decide),fun u2 fu2=>?_⟩⟩
    have su:Ze G (upd (upd G u1 (.tup [])) u2 (.lst [.ref u1])):=(Ze.laid fu1).step fu2
    refine ⟨e,u2,_,[[]],rfl,c4.same su,⟨_,Zb,.cons ⟨u1,rfl,Ze.laid fu2 _ _ Zb⟩ .nil⟩,by simp;lia,fun p' G3 rr fp t3 wr od=>app p' G3 (su.free fp) (su.trans t3) ?_⟩
    rw [ZeO hp]
    have:=od.canon
    subst this
    exact wr
   ·refine ⟨_,rfl,_,rfl,l,_,_,_,rfl,rfl,Zo.of (SG _ _ hl),Zv hx',q,_,rfl,WT.of (SG _ _ etq),rfl,_,_,rfl,_,_,rfl,rfl,?_⟩
    refine ⟨_,rfl,.inl ⟨rfl,_,Zo.of ef⟩,_,rfl,_,rfl,tA,_,_,_,rfl,rfl,Zo.of tbs.at_,Zv (by rw [List.getElem?_map,hTa];rfl),_,rfl,_,_,_,_,rfl,rfl,Zo.of b1,Zv b3,_,rfl,_,_,rfl,rfl,r,_,_,_,rfl,rfl,Zo.of c1,Zv (j:=kn+1) c3,_,rfl,rfl,_,rfl,YJ (fun c=>absurd (V.str.inj (of_decide_eq_true c)) ek) fun _=>?_⟩
    refine ⟨(by show 0<=sizeLine;decide),fun u2 fu2=>?_⟩
    have su:Ze G (upd G u2 (.lst [])):=Ze.laid fu2
    refine ⟨e,u2,_,[],rfl,c4.same su,⟨_,Zb,.nil⟩,by simp;lia,fun p' G3 rr fp t3 wr od=>app p' G3 (su.free fp) (su.trans t3) ?_⟩
    rw [Zhv hp ek]
    have:=od.canon
    rw [List.append_nil,canon_id (ZgD _ _ _)] at this
    subst this
    exact wr
  ·rintro σ G ⟨v3,v4,v5,es,rfl,sg,en,ef,le,ds,nd,fr,nf⟩
   rw [List.length_map] at le
   exact ⟨_,rfl,k few fA G es ffH (s0.trans sg) ef le ds nd (fun e h=>s0.free (fr e h)) nf⟩
def Uk (t:Int) (A:WS):WS:=A.map (List.map (· + t))
theorem Zg9 (t:Int) (A B:WS):Uk t (A++B)=Uk t A++Uk t B:=List.map_append
theorem Zlg (t:Int):∀a b:List Int,a.map (· + t)=b.map (· + t)->a=b:=fun a b h=>by
 have:=congrArg (List.map (· - t)) h
 simpa [List.map_map,Function.comp_def] using this
theorem Zi1 (t:Int) {A B:WS} (h:Um A B):Um (Uk t A) (Uk t B):=ZeJ (Zlg t) h
theorem Zi4 (t:Int) (B:WS):∀A:WS,Uk t (prd A B)=prd (Uk t A) (Uk t B)
 | []=>rfl
 | u::A=>by
  rw [JC,Zg9,Zi4 t B A]
  show _=prd (u.map (· + t)::Uk t A) (Uk t B)
  rw [JC]
  congr 1
  unfold Uk
  rw [List.map_map,List.map_map]
  exact List.map_congr_left fun v _=>by simp
theorem ZjF (A B:WS):Um (Jb A B) (A++B):=(Yb _).self
theorem Zja (A B:WS):Um (Yl A B) (prd A B):=(Yb _).self
theorem ZdB {t:Int}{A B A' B':WS} (a:Um A' (Uk t A)) (b:Um B' (Uk t B)):Um (Jb A' B') (Uk t (Jb A B)):=
 (ZjF _ _).trans ((a.app b).trans (by rw [<- Zg9];exact Zi1 t (ZjF _ _).symm))
theorem Zf0 {t:Int}{A B A' B':WS} (a:Um A' (Uk t A)) (b:Um B' (Uk t B)):Um (Yl A' B') (Uk t (Yl A B)):=
 (Zja _ _).trans (((Ze7 a _).trans (ZdJ b _)).trans (by rw [<- Zi4];exact Zi1 t (Zja _ _).symm))
def Inn (t:Int) (k a:Nat) (G D:Nat->Nat->WS):Prop:=∀i j,i<j->j<a->Um (G (k+i) (k+j)) (Uk t (D i j))
theorem Inn.at {t:Int}{k a:Nat}{G D:Nat->Nat->WS} (h:Inn t k a G D) {i j x y:Nat} (hij:i<j) (hj:j<a) (hx:x=k+i) (hy:y=k+j):Um (G x y) (Uk t (D i j)):=by
 rw [hx,hy];exact h i j hij hj
theorem ZjG {t:Int}{k a q:Nat}{G D:Nat->Nat->WS} (h:Inn t k a G D) (hq:q<=a):Inn t k (a+2) (UJ (k+q) G) (UJ q D):=by
 intro i j hij hj
 unfold UJ
 by_cases c1:i=q/\j=q+1
 ·rw [if_pos (by lia),if_pos c1];exact .refl _
 ·rw [if_neg (show ¬(k+i=k+q/\k+j=k+q+1) by lia),if_neg c1]
  by_cases c2:i=q∨i=q+1∨j=q∨j=q+1
  ·rw [if_pos (by lia),if_pos c2];exact .refl _
  ·rw [if_neg (show ¬(k+i=k+q∨k+i=k+q+1∨k+j=k+q∨k+j=k+q+1) by lia),if_neg c2]
   refine h.at ?_ ?_ ?_ ?_<;>(repeat' split)<;>lia
theorem mt1 (t s:Int):Um [[s+t]] (Uk t [[s]]):=.refl _
theorem Zih {t s:Int}{k a q:Nat}{G D:Nat->Nat->WS} (h:Inn t k a G D) (hq:q+1<a):Inn t k a (J3 (k+q) (s+t) G) (J3 q s D):=by
 intro i j hij hj
 unfold J3
 by_cases c1:i=q/\j=q+1
 ·rw [if_pos (by lia),if_pos c1];exact .refl _
 rw [if_neg (show ¬(k+i=k+q/\k+j=k+q+1) by lia),if_neg c1]
 by_cases c2:i=q/\q+2<=j
 ·rw [if_pos (by lia),if_pos c2]
  exact h.at (by lia) hj (by lia) rfl
 rw [if_neg (show ¬(k+i=k+q/\k+q+2<=k+j) by lia),if_neg c2]
 by_cases c3:i=q+1/\q+2<=j
 ·rw [if_pos (by lia),if_pos c3]
  exact ZdB (h.at (by lia) hj rfl rfl) (Zf0 (mt1 t s) (h.at (by lia) hj (by lia) rfl))
 rw [if_neg (show ¬(k+i=k+q+1/\k+q+2<=k+j) by lia),if_neg c3]
 by_cases c4:i<q/\j=q+1
 ·rw [if_pos (by lia),if_pos c4]
  exact h.at (by lia) (by lia) rfl rfl
 rw [if_neg (show ¬(k+i<k+q/\k+j=k+q+1) by lia),if_neg c4]
 by_cases c5:i<q/\j=q
 ·rw [if_pos (by lia),if_pos c5]
  exact ZdB (h.at (by lia) (by lia) rfl (by lia)) (Zf0 (h.at (by lia) (by lia) rfl rfl) (mt1 t s))
 rw [if_neg (show ¬(k+i<k+q/\k+j=k+q) by lia),if_neg c5]
 exact h i j hij hj
theorem ZlQ {t s:Int}{k a q:Nat}{G D:Nat->Nat->WS} (h:Inn t k a G D) (hq:q+1<a):Inn t k (a-2) (ZbX (k+q) (s+t) G) (ZbX q s D):=by
 intro i j hij hj
 unfold ZbX
 by_cases c:i<q/\q<=j
 ·rw [if_pos (by lia),if_pos c]
  refine ZdB (h.at (by lia) (by lia) rfl (by lia)) (Zf0 ?_ ?_)
  ·exact ZdB (h.at (by lia) (by lia) rfl (by lia)) (Zf0 (h.at (by lia) (by lia) rfl rfl) (mt1 t s))
  ·exact ZdB (h.at (by lia) (by lia) rfl (by lia)) (Zf0 (mt1 t s) (h.at (by lia) (by lia) (by lia) (by lia)))
 ·rw [if_neg (show ¬(k+i<k+q/\k+q<=k+j) by lia),if_neg c]
  refine h.at ?_ ?_ ?_ ?_<;>(repeat' split)<;>lia
def sh (k:Nat) (ls:List (Str×Int)):List (Str×Int):=ls.map fun p=>(p.1,(k:Int)+p.2)
theorem Y3 (k:Nat) (ls:List (Str×Int)) (x:Str) (q:Int):sh k (ls ++ [(x,q)])=sh k ls ++ [(x,(k:Int)+q)]:=by unfold sh;rw [List.map_append];rfl
theorem WC (k:Nat) (ls:List (Str×Int)):(sh k ls).length=ls.length:=List.length_map _
theorem Zek (k:Nat) (ls:List (Str×Int)) (i:Nat):(sh k ls).take i=sh k (ls.take i):=List.map_take.symm
theorem Zmg {k:Nat}{ls:List (Str×Int)}{i:Nat}{p:Str×Int} (h:ls[i]? = some p):(sh k ls)[i]? = some (p.1,(k:Int)+p.2):=by unfold sh;rw [List.getElem?_map,h];rfl
theorem Zci {X Y Z:List Int}{k q:Nat} (hX:X.length=k) (hq:q<=Y.length):(X++Y++Z).take (k+q)=X++Y.take q:=by
 rw [<- hX,List.append_assoc,List.take_length_add_append,List.take_append_of_le_length hq]
theorem Zcu {X Y Z:List Int}{k q:Nat} (hX:X.length=k) (hq:q<=Y.length):(X++Y++Z).drop (k+q)=Y.drop q++Z:=by
 rw [<- hX,List.append_assoc,List.drop_length_add_append,List.drop_append_of_le_length hq]
theorem Zcd {X Y Z:List Int}{k q:Nat} (hX:X.length=k) (hq:q<Y.length):(X++Y++Z).getD (k+q) 0=Y.getD q 0:=by
 rw [List.getD_eq_getElem?_getD,List.getD_eq_getElem?_getD,List.append_assoc,List.getElem?_append_right (by lia),hX,Nat.add_sub_cancel_left,List.getElem?_append_left hq]
theorem Gs (f:Int->Int) {Y:List Int}{q:Nat} (hq:q<Y.length):(Y.map f).getD q 0=f (Y.getD q 0):=by
 have e:Y[q]? = some Y[q]:=by simp [hq]
 rw [List.getD_eq_getElem?_getD,List.getD_eq_getElem?_getD,List.getElem?_map,e]
 rfl
theorem Zhb (f:Int->Int) {Y:List Int}{q:Nat} (hq:q+1<Y.length):swp (Y.map f) q=(swp Y q).map f:=by
 rw [ZaA _ _ (by rw [List.length_map];exact hq),ZaA _ _ hq,Gs f hq,Gs f (show q<Y.length by lia)]
 simp [List.map_take,List.map_drop]
theorem ZlL {X Y Z:List Int}{k q:Nat} (hX:X.length=k) (hq:q+1<Y.length):swp (X++Y++Z) (k+q)=X++swp Y q++Z:=by
 rw [ZaA _ _ (by simp;lia),ZaA _ _ hq,Zci hX (by lia),Zcd hX (by lia),show k+q+1=k+(q+1) by lia,Zcd hX hq,show k+q+2=k+(q+2) by lia,Zcu hX (by lia)]
 simp
theorem ZoO (m:Nat):nxN "born" m=m+2:=if_pos rfl
theorem Zoy (m:Nat):nxN "cross" m=m:=(if_neg nb1).trans (if_pos rfl)
theorem Zn3 (m:Nat):nxN "end" m=m-2:=(if_neg nb2).trans (if_neg nb3)
theorem ZmD (k:Nat) (t:Int) (F:Nat->Nat->WS):nxF "born" k t F=UJ k F:=if_pos rfl
theorem Zmf (k:Nat) (t:Int) (F:Nat->Nat->WS):nxF "cross" k t F=J3 k t F:=(if_neg nb1).trans (if_pos rfl)
theorem Zmk (k:Nat) (t:Int) (F:Nat->Nat->WS):nxF "end" k t F=ZbX k t F:=(if_neg nb2).trans (if_neg nb3)
structure Put (P J:List (Str×Int)) (k:Nat) (n m:Int):Prop where
 wk:Wk (P++sh k J) (n+m)
 row:(rb (P++sh k J)).1=(rb P).1.take k++(rb J).1.map (· + (rb P).2)++(rb P).1.drop k
 cnt:(rb (P++sh k J)).2=(rb J).2+(rb P).2
 inn:Inn P.length k (tN J) (tF (P++sh k J)) (tF J)
theorem Zcv {P:List (Str×Int)}{n:Int} (hP:Wk P n) {k:Nat} (hk:(k:Int)<=n) {J:List (Str×Int)}{m:Int} (hJ:Wk J m):Put P J k n m:=by
 have lP:=YQ hP
 have lX:((rb P).1.take k).length=k:=by rw [List.length_take];lia
 have nm:∀J:List (Str×Int),((P++sh k J).length:Int)=(J.length:Int)+(P.length:Int):=fun J=>by rw [List.length_append,WC];lia
 induction hJ with
 | nil=>exact ⟨by simpa [sh] using hP,by simp [sh,rb],by simp [sh,rb],fun i j _ hj=>absurd hj (Nat.not_lt_zero _)⟩
 | @born J m q h h0 h1 ih=>
  obtain ⟨q,rfl⟩:=Int.eq_ofNat_of_zero_le h0
  have lJ:=YQ h
  have tJ:=GA h
  have eq:((k:Int)+(q:Int)).toNat=k+q:=by lia
  refine ⟨?_,?_,?_,?_⟩
  ·rw [Y3,<- List.append_assoc,<- Int.add_assoc];exact .born ih.wk (by lia) (by lia)
  ·rw [Y3,<- List.append_assoc,ZA,ZA,Yj,Yj]
   dsimp only
   rw [eq,Int.toNat_natCast,ih.row,ih.cnt,Zci lX (by rw [List.length_map];lia),Zcu lX (by rw [List.length_map];lia)]
   simp [List.map_take,List.map_drop,Int.add_assoc,Int.add_comm,Int.add_left_comm]
  ·rw [Y3,<- List.append_assoc,ZA,ZA,Yj,Yj]
   dsimp only
   rw [ih.cnt];lia
  ·rw [Y3,<- List.append_assoc,J9,J9,Wf]
   dsimp only
   rw [ZoO,ZmD,ZmD,eq,Int.toNat_natCast]
   exact ZjG ih.inn (by lia)
 | @cross J m q h h0 h1 ih=>
  obtain ⟨q,rfl⟩:=Int.eq_ofNat_of_zero_le h0
  have lJ:=YQ h
  have tJ:=GA h
  have eq:((k:Int)+(q:Int)).toNat=k+q:=by lia
  refine ⟨?_,?_,?_,?_⟩
  ·rw [Y3,<- List.append_assoc];exact .cross ih.wk (by lia) (by lia)
  ·rw [Y3,<- List.append_assoc,ZA,ZA,Z3,Z3]
   dsimp only
   rw [eq,Int.toNat_natCast,ih.row,ZlL lX (by rw [List.length_map];lia),Zhb _ (by lia)]
  ·rw [Y3,<- List.append_assoc,ZA,ZA,Z3,Z3]
   exact ih.cnt
  ·rw [Y3,<- List.append_assoc,J9,J9,Wf]
   dsimp only
   rw [Zoy,Zmf,Zmf,eq,Int.toNat_natCast,nm]
   exact Zih ih.inn (by lia)
 | @fin J m q h h0 h1 ih=>
  obtain ⟨q,rfl⟩:=Int.eq_ofNat_of_zero_le h0
  have lJ:=YQ h
  have tJ:=GA h
  have eq:((k:Int)+(q:Int)).toNat=k+q:=by lia
  refine ⟨?_,?_,?_,?_⟩
  ·rw [Y3,<- List.append_assoc,show n+(m-2)=n+m-2 by lia];exact .fin ih.wk (by lia) (by lia)
  ·rw [Y3,<- List.append_assoc,ZA,ZA,YG,YG]
   dsimp only
   rw [eq,Int.toNat_natCast,ih.row,show k+q+2=k+(q+2) by lia,Zci lX (by rw [List.length_map];lia),Zcu lX (by rw [List.length_map];lia)]
   simp [List.map_take,List.map_drop]
  ·rw [Y3,<- List.append_assoc,ZA,ZA,YG,YG]
   exact ih.cnt
  ·rw [Y3,<- List.append_assoc,J9,J9,Wf]
   dsimp only
   rw [Zn3,Zmk,Zmk,eq,Int.toNat_natCast,nm]
   exact ZlQ ih.inn (by lia)
def JH (c M x:Int):Int:=if x<c then x else x+M
theorem Zd9 (A:List (Str×Int)):∀C:List (Str×Int),(rb A).2<=(rb (A++C)).2:=by
 have key:∀(C:List (Str×Int)) (s:List Int×Int),s.2<=(C.foldl stp s).2:=by
  intro C
  induction C with
  | nil=>intro s;exact Int.le_refl _
  | cons p C ih=>
   intro s
   rw [List.foldl_cons]
   refine Int.le_trans ?_ (ih _)
   unfold stp
   (repeat' split)<;>dsimp only<;>lia
 intro C
 unfold rb
 rw [List.foldl_append]
 exact key C _
structure Rst (P I S:List (Str×Int)) (k:Nat) (m:Int):Prop where
 wk:Wk (P++sh k I++S) m
 row:(rb (P++sh k I++S)).1=(rb (P++S)).1.map (JH (rb P).2 (rb I).2)
 cnt:(rb (P++sh k I++S)).2=(rb (P++S)).2+(rb I).2
theorem Zgz {P I:List (Str×Int)}{n:Int} (hP:Wk P n) (hr:∀x∈(rb P).1,x<(rb P).2) {k:Nat} (hk:(k:Int)<=n) (hI:Wk I 0):∀(l:Nat) (S:List (Str×Int)),S.length=l -> ∀m,Wk (P++S) m->Rst P I S k m
 | 0,S,hS,m,hW=>by
  have:S = []:=List.length_eq_zero_iff.mp hS
  subst this
  have p:=Zcv hP hk hI
  rw [List.append_nil] at hW
  have e:n=m:=by rw [<- YQ hP,YQ hW]
  have r0:(rb I).1 = []:=List.length_eq_zero_iff.mp (by have:=YQ hI;lia)
  refine ⟨?_,?_,?_⟩
  ·have:=p.wk
   rw [List.append_nil,<- e]
   simpa using this
  ·rw [List.append_nil,List.append_nil,p.row,r0]
   simp only [List.map_nil,List.append_nil,List.take_append_drop]
   refine (List.map_id _).symm.trans (List.map_congr_left fun x hx=>?_)
   unfold JH
   rw [if_pos (hr x hx)]
   rfl
  ·rw [List.append_nil,List.append_nil,p.cnt];lia
 | l+1,S,hS,m,hW=>by
  obtain ⟨S',p,rfl⟩:∃S' p,S=S' ++ [p]:=⟨S.dropLast,S.getLast (by intro z;rw [z] at hS;cases hS),(List.dropLast_concat_getLast _).symm⟩
  rw [<- List.append_assoc] at hW
  obtain ⟨n',hn,c⟩:=Zi3 hW
  have ih:=Zgz hP hr hk hI l S' (by simpa using hS) n' hn
  have lr:=YQ hn
  have gr:=Zd9 P S'
  obtain ⟨px,pk⟩:=p
  dsimp only at c
  have mm:=(YQ hW)
  rw [ZA] at mm
  rcases c with ⟨rfl,a,b⟩ | ⟨rfl,a,b⟩ | ⟨rfl,a,b⟩
  ·obtain ⟨q,rfl⟩:=Int.eq_ofNat_of_zero_le a
   rw [Yj] at mm
   have em:m=n'+2:=by
    rw [<- mm,<- lr]
    simp only [List.length_append,List.length_take,List.length_drop,List.length_cons,List.length_nil]
    lia
   refine ⟨?_,?_,?_⟩
   ·rw [<- List.append_assoc,em];exact .born ih.wk (by lia) (by lia)
   ·rw [<- List.append_assoc,<- List.append_assoc,ZA,ZA,Yj,Yj]
    dsimp only
    rw [ih.row,ih.cnt]
    have e1:JH (rb P).2 (rb I).2 (rb (P++S')).2=(rb (P++S')).2+(rb I).2:=if_neg (by lia)
    have e2:JH (rb P).2 (rb I).2 ((rb (P++S')).2+1)=(rb (P++S')).2+(rb I).2+1:=(if_neg (by lia)).trans (by lia)
    simp only [List.map_append,List.map_take,List.map_drop,List.map_cons,List.map_nil,e1,e2]
   ·rw [<- List.append_assoc,<- List.append_assoc,ZA,ZA,Yj,Yj]
    dsimp only
    rw [ih.cnt];lia
  ·obtain ⟨q,rfl⟩:=Int.eq_ofNat_of_zero_le a
   rw [Z3] at mm
   have em:m=n':=by
    rw [<- mm,<- lr]
    simp only [swp,List.length_set]
   refine ⟨?_,?_,?_⟩
   ·rw [<- List.append_assoc,em];exact .cross ih.wk (by lia) (by lia)
   ·rw [<- List.append_assoc,<- List.append_assoc,ZA,ZA,Z3,Z3]
    dsimp only
    rw [ih.row,Zhb _ (by lia)]
   ·rw [<- List.append_assoc,<- List.append_assoc,ZA,ZA,Z3,Z3]
    exact ih.cnt
  ·obtain ⟨q,rfl⟩:=Int.eq_ofNat_of_zero_le a
   rw [YG] at mm
   have em:m=n'-2:=by
    rw [<- mm,<- lr]
    simp only [List.length_append,List.length_take,List.length_drop]
    lia
   refine ⟨?_,?_,?_⟩
   ·rw [<- List.append_assoc,em];exact .fin ih.wk (by lia) (by lia)
   ·rw [<- List.append_assoc,<- List.append_assoc,ZA,ZA,YG,YG]
    dsimp only
    rw [ih.row]
    simp only [List.map_append,List.map_take,List.map_drop]
   ·rw [<- List.append_assoc,<- List.append_assoc,ZA,ZA,YG,YG]
    exact ih.cnt
theorem ZjU (A C:List (Str×Int)) (pr:Str->Bool) {i:Nat} (h:i<A.length):isK (A++C) pr i=isK A pr i:=by unfold isK;rw [List.getElem?_append_left h]
theorem Zjk (A C:List (Str×Int)) (pr:Str->Bool) (i:Nat):isK (A++C) pr (A.length+i)=isK C pr i:=by unfold isK;rw [List.getElem?_append_right (by lia),Nat.add_sub_cancel_left]
theorem ZdK (A C:List (Str×Int)) (pr:Str->Bool):∀n,n<=A.length->ZU (A++C) pr n=ZU A pr n
 | 0,_=>rfl
 | n+1,h=>by rw [YN,YN,ZdK A C pr n (by lia),ZjU A C pr (by lia)]
theorem ZdD (A C:List (Str×Int)) (pr:Str->Bool):∀d,ZU (A++C) pr (A.length+d)=ZU A pr A.length++(ZU C pr d).map (· + (A.length:Int))
 | 0=>by rw [Nat.add_zero,ZdK A C pr _ (Nat.le_refl _)];simp [ZU]
 | d+1=>by
  rw [<- Nat.add_assoc,YN,ZdD A C pr d,Zjk,YN,List.map_append,List.append_assoc]
  congr 2
  split
  ·simp;lia
  ·rfl
theorem WI (A C:List (Str×Int)) (pr:Str->Bool):ZU (A++C) pr (A++C).length=ZU A pr A.length++(ZU C pr C.length).map (· + (A.length:Int)):=by
 rw [List.length_append];exact ZdD A C pr _
theorem ZmY (k:Nat) (ls:List (Str×Int)) (pr:Str->Bool) (i:Nat):isK (sh k ls) pr i=isK ls pr i:=by
 unfold isK sh
 rw [List.getElem?_map]
 cases ls[i]?<;>rfl
theorem Zeb (k:Nat) (ls:List (Str×Int)) (pr:Str->Bool):∀n,ZU (sh k ls) pr n=ZU ls pr n
 | 0=>rfl
 | n+1=>by rw [YN,YN,Zeb k ls pr n,ZmY]
theorem W7 {ls:List (Str×Int)}{pr:Str->Bool}{n:Nat}{t:Int} (h:t∈ZU ls pr n):∃(a:Nat) (p:Str×Int),t=(a:Int)/\a<n/\ls[a]? = some p/\pr p.1=true:=by
 obtain ⟨j,hj⟩:=List.mem_iff_getElem?.mp h
 exact Zay hj
def prs (pr:Str->Bool) (ls:List (Str×Int)):List (Int×Int):=(ZU ls pr ls.length).map fun t=>JK ls t.toNat
def pm (f:Int->Int) (p:Int×Int):Int×Int:=(f p.1,f p.2)
theorem getD_mem {r:List Int}{k:Nat} (h:k<r.length):r.getD k 0∈r:=by
 have e:r[k]? = some r[k]:=by simp [h]
 rw [List.getD_eq_getElem?_getD,e]
 exact List.getElem_mem h
theorem Zkn {ls:List (Str×Int)} (hW:Wk ls 0) {i:Nat} (hi:i<=ls.length):∀x∈(rb (ls.take i)).1,0<=x/\x<(rb (ls.take i)).2:=fun x hx=>by
 obtain ⟨h0,_,h2⟩:=WU hW i hi
 have:=WG.mp (h2.mem_iff.mp (List.mem_append_left _ hx))
 lia
theorem Zbv {ls:List (Str×Int)} (hW:Wk ls 0):(rb ls).2=(ZZ ls:Int):=by
 obtain ⟨h0,h1,h2⟩:=WU hW ls.length (Nat.le_refl _)
 have e:rowAt ls ls.length = []:=by
  unfold rowAt
  rw [List.take_of_length_le (Nat.le_refl _)]
  have:=YQ hW
  exact List.length_eq_zero_iff.mp (by lia)
 rw [e,List.nil_append] at h2
 have hl:=h2.length_eq
 rw [ZaV,U6,List.take_of_length_le (Nat.le_refl _)] at hl
 rw [List.take_of_length_le (Nat.le_refl _)] at h0
 show _=((2*(WR ls ls.length).length:Nat):Int)
 lia
section
variable {P I R:List (Str×Int)}{k:Nat}{n:Int}
structure GF (P I R:List (Str×Int)) (k:Nat) (n:Int):Prop where
 p:Wk P n
 k:(k:Int)<=n
 i:Wk I 0
 o:Wk (P++R) 0
theorem GF.lt (h:GF P I R k n):∀x∈(rb P).1,x<(rb P).2:=fun x hx=>by
 have:=Zkn h.o (i:=P.length) (by rw [List.length_append];lia) x (by rw [List.take_left'];exact hx;rfl)
 rw [List.take_left' rfl] at this
 exact this.2
theorem GF.rst (h:GF P I R k n) (s:Nat):∃m,Rst P I (R.take s) k m:=by
 obtain ⟨m,hm⟩:=YS h.o (P.length+s)
 rw [List.take_length_add_append] at hm
 exact ⟨m,Zgz h.p h.lt h.k h.i _ _ rfl m hm⟩
theorem GF.b (h:GF P I R k n):Wk (P++sh k I++R) 0:=(Zgz h.p h.lt h.k h.i _ R rfl 0 h.o).wk
theorem GF.pr1 (h:GF P I R k n) {a:Nat}{p:Str×Int} (hp:P[a]? = some p) (nb:p.1 ≠ "born"):JK (P++sh k I++R) a=pm (JH (rb P).2 (rb I).2) (JK (P++R) a):=by
 have ha:a<P.length:=(List.getElem?_eq_some_iff.mp hp).1
 have t1:(P++sh k I++R).take a=P.take a:=by rw [List.append_assoc,List.take_append_of_le_length (by lia)]
 have t2:(P++R).take a=P.take a:=by rw [List.take_append_of_le_length (by lia)]
 have g1:(P++sh k I++R)[a]? = some p:=by rw [List.append_assoc,List.getElem?_append_left ha];exact hp
 have g2:(P++R)[a]? = some p:=by rw [List.getElem?_append_left ha];exact hp
 obtain ⟨_,k1,e1⟩:=ZbH h.b g1 nb
 obtain ⟨_,k2,e2⟩:=ZbH h.o g2 nb
 have rw1:rowAt (P++sh k I++R) a=rowAt (P++R) a:=by unfold rowAt;rw [t1,t2]
 have lt:∀x∈rowAt (P++R) a,JH (rb P).2 (rb I).2 x=x:=fun x hx=>by
  have:=Zkn h.o (i:=a) (by rw [List.length_append];lia) x hx
  rw [t2] at this
  have g:=Zd9 (P.take a) (P.drop a)
  rw [List.take_append_drop] at g
  exact if_pos (by lia)
 rw [e1,e2,rw1]
 unfold pm
 dsimp only
 rw [lt _ (getD_mem (by lia)),lt _ (getD_mem k2)]
theorem GF.pr2 (h:GF P I R k n) {q:Nat}{p:Str×Int} (hp:I[q]? = some p) (nb:p.1 ≠ "born"):JK (P++sh k I++R) (P.length+q)=pm (· + (rb P).2) (JK I q):=by
 have hq:q<I.length:=(List.getElem?_eq_some_iff.mp hp).1
 obtain ⟨k0,k1,e1⟩:=ZbH h.i hp nb
 obtain ⟨px,pk⟩:=p
 dsimp only at k0 k1 e1 nb
 obtain ⟨κ,rfl⟩:=Int.eq_ofNat_of_zero_le k0
 rw [Int.toNat_natCast] at k1 e1
 have g1:(P++sh k I++R)[P.length+q]? = some (px,(k:Int)+(κ:Int)):=by
  rw [List.append_assoc,List.getElem?_append_right (by lia),Nat.add_sub_cancel_left,List.getElem?_append_left (by rw [WC];exact hq),Zmg hp]
 obtain ⟨_,_,e2⟩:=ZbH h.b g1 nb
 dsimp only at e2
 rw [show ((k:Int)+(κ:Int)).toNat=k + κ by lia] at e2
 obtain ⟨m,hm⟩:=YS h.i q
 have pt:=Zcv h.p h.k hm
 have lX:((rb P).1.take k).length=k:=by have:=YQ h.p;have:=h.k;rw [List.length_take];lia
 have row:rowAt (P++sh k I++R) (P.length+q)=(rb P).1.take k++(rowAt I q).map (· + (rb P).2)++(rb P).1.drop k:=by
  unfold rowAt
  rw [List.append_assoc,List.take_length_add_append,List.take_append_of_le_length (by rw [WC];lia),Zek,pt.row]
 rw [e2,e1,row,Zcd lX (by rw [List.length_map];lia),show k + κ + 1=k+(κ + 1) by lia,Zcd lX (by rw [List.length_map];lia),Gs _ (by lia),Gs _ k1]
 rfl
theorem GF.pr3 (h:GF P I R k n) {s:Nat}{p:Str×Int} (hp:R[s]? = some p) (nb:p.1 ≠ "born"):JK (P++sh k I++R) ((P++sh k I).length+s)=pm (JH (rb P).2 (rb I).2) (JK (P++R) (P.length+s)):=by
 have g1:(P++sh k I++R)[(P++sh k I).length+s]? = some p:=by rw [List.getElem?_append_right (by lia),Nat.add_sub_cancel_left];exact hp
 have g2:(P++R)[P.length+s]? = some p:=by rw [List.getElem?_append_right (by lia),Nat.add_sub_cancel_left];exact hp
 obtain ⟨_,k1,e1⟩:=ZbH h.b g1 nb
 obtain ⟨_,k2,e2⟩:=ZbH h.o g2 nb
 obtain ⟨m,rs⟩:=h.rst s
 have rw1:rowAt (P++sh k I++R) ((P++sh k I).length+s)=(rowAt (P++R) (P.length+s)).map (JH (rb P).2 (rb I).2):=by
  unfold rowAt
  rw [List.take_length_add_append,List.take_length_add_append]
  exact rs.row
 rw [e1,e2,rw1,Gs _ (by lia),Gs _ k2]
 rfl
theorem GF.prs (h:GF P I R k n) {pr:Str->Bool} (hb:pr "born" = false):∃X Y,prs pr (P++R)=X++Y/\prs pr (P++sh k I++R)=X.map (pm (JH (rb P).2 (rb I).2))++(Qk19.prs pr I).map (pm (· + (rb P).2))++Y.map (pm (JH (rb P).2 (rb I).2)):=by
 have nb:∀{p:Str×Int},pr p.1=true->p.1 ≠ "born" := fun hp z=>by rw [z,hb] at hp;cases hp
 refine ⟨(ZU P pr P.length).map fun t=>JK (P++R) t.toNat,(ZU R pr R.length).map fun t=>JK (P++R) (t+(P.length:Int)).toNat,?_,?_⟩
 ·unfold Qk19.prs
  rw [WI,List.map_append,List.map_map]
  rfl
 ·unfold Qk19.prs
  rw [WI,WI,List.map_append,List.map_append,List.map_map,List.map_map,List.map_map,List.map_map,List.map_map,Zeb,WC]
  congr 1
  ·congr 1
   ·refine List.map_congr_left fun t ht=>?_
    obtain ⟨a,p,rfl,_,hp,hk⟩:=W7 ht
    exact h.pr1 hp (nb hk)
   ·refine List.map_congr_left fun t ht=>?_
    obtain ⟨a,p,rfl,_,hp,hk⟩:=W7 ht
    show JK _ ((a:Int)+(P.length:Int)).toNat=pm _ (JK I (a:Int).toNat)
    rw [show ((a:Int)+(P.length:Int)).toNat=P.length+a by lia,Int.toNat_natCast]
    exact h.pr2 hp (nb hk)
  ·refine List.map_congr_left fun t ht=>?_
   obtain ⟨a,p,rfl,_,hp,hk⟩:=W7 ht
   show JK _ ((a:Int)+((P++sh k I).length:Int)).toNat=pm _ (JK _ ((a:Int)+(P.length:Int)).toNat)
   rw [show ((a:Int)+((P++sh k I).length:Int)).toNat=(P++sh k I).length+a by lia,show ((a:Int)+(P.length:Int)).toNat=P.length+a by lia]
   exact h.pr3 hp (nb hk)
end
section
variable {m m' ρ:Int->Int}{N f:Int}
theorem Zd6 (M:Y2 m N) (hm:∀x,0<=x->x<N->m' (ρ x) = ρ (m x)) (hb:∀x,ρ (bw x)=bw (ρ x)) (h0:0<=f) (h1:f<N):∀j,gt m' (ρ f) j = ρ (gt m f j)
 | 0=>rfl
 | j+1=>by
  have d:=Yo M h0 h1 j
  show bw (m' (gt m' (ρ f) j)) = ρ (bw (m (gt m f j)))
  rw [Zd6 M hm hb h0 h1 j,hm _ d.1 d.2,hb]
theorem Zhd (M:Y2 m N) (hm:∀x,0<=x->x<N->m' (ρ x) = ρ (m x)) (hb:∀x,ρ (bw x)=bw (ρ x)) (h0:0<=f) (h1:f<N):∀j,orb m' (ρ f) j=(orb m f j).map ρ
 | 0=>rfl
 | j+1=>by
  have d:=Yo M h0 h1 j
  show orb m' (ρ f) j ++ [gt m' (ρ f) j,m' (gt m' (ρ f) j)]=(orb m f j ++ [gt m f j,m (gt m f j)]).map ρ
  rw [Zhd M hm hb h0 h1 j,Zd6 M hm hb h0 h1 j,hm _ d.1 d.2,List.map_append]
  rfl
theorem ZhM (M:Y2 m N) (hm:∀x,0<=x->x<N->m' (ρ x) = ρ (m x)) (hb:∀x,ρ (bw x)=bw (ρ x)) (inj:∀x y,ρ x = ρ y->x=y) (h0:0<=f) (h1:f<N) {T:List Int} (a:Yt m f T):Yt m' (ρ f) (T.map ρ):=by
 obtain ⟨L,hL,e,nx,rfl⟩:=a
 refine ⟨L,hL,?_,fun j j1 jL z=>?_,(Zhd M hm hb h0 h1 L).symm⟩
 ·rw [Zd6 M hm hb h0 h1,e]
 ·rw [Zd6 M hm hb h0 h1] at z
  exact nx j j1 jL (inj _ _ z)
end
def U8 (ρ:Int->Int) (ts:List (List Int)):List (List Int):=ts.map (List.map ρ)
theorem ZcV (ρ:Int->Int) (ts:List (List Int)):(U8 ρ ts).flatten=ts.flatten.map ρ:=List.map_flatten.symm
theorem Ze1 (ρ:Int->Int) (ts us:List (List Int)):U8 ρ (ts++us)=U8 ρ ts++U8 ρ us:=List.map_append
theorem UT {ρ:Int->Int} (inj:∀x y,ρ x = ρ y->x=y) {ts:List (List Int)}{x:Int}:ρ x∈(U8 ρ ts).flatten ↔ x∈ts.flatten:=by
 rw [ZcV,List.mem_map]
 constructor
 ·rintro ⟨y,hy,e⟩;rw [<- inj _ _ e];exact hy
 ·exact fun h=>⟨x,h,rfl⟩
theorem Zb3 {c M:Int} (hM:0<=M):∀x y,JH c M x=JH c M y->x=y:=fun x y=>by unfold JH;(repeat' split)<;>lia
theorem ZnI {c M:Int} (hc:c % 2=0) (hM:M % 2=0):∀x,JH c M (bw x)=bw (JH c M x):=fun x=>by unfold JH bw;(repeat' split)<;>lia
theorem ZeL (c:Int):∀x y,(fun x=>x+c) x=(fun x=>x+c) y->x=y:=fun x y h=>by dsimp only at h;lia
theorem Zng {c:Int} (hc:c % 2=0):∀x,(fun x=>x+c) (bw x)=bw ((fun x=>x+c) x):=fun x=>by dsimp only;unfold bw;(repeat' split)<;>lia
section
variable {mO mI mB:Int->Int}{N M c:Nat}
structure Mix (mO mI mB:Int->Int) (N M c:Nat):Prop where
 O:Y2 mO N
 I:Y2 mI M
 le:c<=N
 ev:c % 2=0
 o:∀x,0<=x->x<(N:Int)->mB (JH c M x)=JH c M (mO x)
 i:∀x,0<=x->x<(M:Int)->mB (x+c)=mI x+c
theorem Mix.bw (h:Mix mO mI mB N M c):∀x,JH c M (bw x)=L2.bw (JH c M x):=ZnI (by have:=h.ev;lia) h.I.ev
theorem Mix.tO (h:Mix mO mI mB N M c) {i:Nat} (hi:i<N) {T:List Int} (a:Yt mO i T):Yt mB (JH c M i) (T.map (JH c M)):=ZhM h.O h.o h.bw (Zb3 (by lia)) (by lia) (by lia) a
theorem Mix.tI (h:Mix mO mI mB N M c) {i:Nat} (hi:i<M) {T:List Int} (a:Yt mI i T):Yt mB ((c+i:Nat):Int) (T.map (· + (c:Int))):=by
 have:=ZhM (ρ:=fun x=>x+(c:Int)) h.I h.i (Zng (by have:=h.ev;lia)) (ZeL c) (by lia) (by lia) a
 rw [show ((c+i:Nat):Int)=(i:Int)+(c:Int) by lia]
 exact this
theorem Mix.A (h:Mix mO mI mB N M c) {i:Nat}{ts:List (List Int)} (a:WO mO i ts):i<=c->WO mB i (U8 (JH c M) ts):=by
 have le:=h.le
 have inj:∀x y,JH (c:Int) (M:Int) x=JH c M y->x=y:=Zb3 (by lia)
 induction a with
 | nil=>intro _;exact .nil
 | @add i ts T a ni it ih=>
  intro hi
  have e:JH c M (i:Int)=i:=if_pos (by lia)
  rw [Ze1]
  refine .add (ih (by lia)) (fun z=>ni ?_) ?_
  ·rw [<- e] at z;exact (UT inj).mp z
  ·have:=h.tO (i:=i) (by lia) it
   rwa [e] at this
 | @skip i ts a hi' ih=>
  intro hi
  have e:JH c M (i:Int)=i:=if_pos (by lia)
  refine .skip (ih (by lia)) ?_
  rw [<- e];exact (UT inj).mpr hi'
theorem Zef {x:Int}{i:Nat} (hi:i<M) (e:JH c M x=((c+i:Nat):Int)):False:=by unfold JH at e;split at e<;>lia
theorem Mix.B (h:Mix mO mI mB N M c) {ts:List (List Int)} (b:WO mO c ts) {i:Nat}{us:List (List Int)} (a:WO mI i us):i<=M->WO mB (c+i) (U8 (JH c M) ts++U8 (· + (c:Int)) us):=by
 induction a with
 | nil=>intro _;have:=h.A b (Nat.le_refl _);simpa [U8] using this
 | @add i us T a ni it ih=>
  intro hi
  rw [Ze1,<- List.append_assoc]
  refine .add (i:=c+i) (ih (by lia)) (fun z=>?_) (h.tI (by lia) it)
  rw [List.flatten_append,List.mem_append] at z
  rcases z with z | z
  ·rw [ZcV] at z
   obtain ⟨x,_,e⟩:=List.mem_map.mp z
   exact Zef (by lia) e
  ·rw [show ((c+i:Nat):Int)=(fun x=>x+(c:Int)) (i:Int) by dsimp only;lia] at z
   exact ni ((UT (ZeL c)).mp z)
 | @skip i us a hi' ih=>
  intro hi
  refine .skip (i:=c+i) (ih (by lia)) ?_
  rw [List.flatten_append,List.mem_append,show ((c+i:Nat):Int)=(fun x=>x+(c:Int)) (i:Int) by dsimp only;lia]
  exact .inr ((UT (ZeL c)).mpr hi')
theorem Mix.C (h:Mix mO mI mB N M c) {ts us:List (List Int)} (b:WO mO c ts) (a:WO mI M us):∀(d:Nat) (ts':List (List Int)),WO mO (c+d) ts'->c+d<=N -> ∃tl,ts'=ts++tl/\WO mB (c+M+d) (U8 (JH c M) ts++U8 (· + (c:Int)) us++U8 (JH c M) tl)
 | 0,ts',hts,_=>⟨[],by rw [List.append_nil];exact hts.uniq b,by simpa [U8] using h.B b a (Nat.le_refl _)⟩
 | d+1,ts',hts,hd=>by
  have inj:∀x y,JH (c:Int) (M:Int) x=JH c M y->x=y:=Zb3 (by lia)
  have e:JH c M ((c+d:Nat):Int)=((c+M+d:Nat):Int):=(if_neg (by lia)).trans (by lia)
  have gI:=a.good h.I (Int.le_refl _)
  have noI:((c+M+d:Nat):Int)∉(U8 (· + (c:Int)) us).flatten:=fun z=>by
   rw [ZcV] at z
   obtain ⟨x,hx,q⟩:=List.mem_map.mp z
   have:=gI.2.1 x hx
   lia
  have mem:∀(ts0 tl:List (List Int)),ts0=ts++tl->(((c+M+d:Nat):Int)∈(U8 (JH c M) ts++U8 (· + (c:Int)) us++U8 (JH c M) tl).flatten ↔ ((c+d:Nat):Int)∈ts0.flatten):=fun ts0 tl z=>by
   rw [List.flatten_append,List.flatten_append,List.mem_append,List.mem_append,or_iff_left noI,z,List.flatten_append,List.mem_append,<- e,UT inj,UT inj]
  generalize hj:c+(d+1)=j at hts
  cases hts with
  | nil=>lia
  | @add i0 ts0 T b0 ni it=>
   have:i0=c+d:=by lia
   subst this
   obtain ⟨tl,z,tr⟩:=Mix.C h b a d ts0 b0 (by lia)
   refine ⟨tl ++ [T],by rw [z,List.append_assoc],?_⟩
   rw [Ze1,<- List.append_assoc]
   refine .add (i:=c+M+d) tr (fun y=>ni ((mem ts0 tl z).mp y)) ?_
   have:=h.tO (i:=c+d) (by lia) it
   rwa [e] at this
  | @skip i0 _ b0 hi=>
   have:i0=c+d:=by lia
   subst this
   obtain ⟨tl,z,tr⟩:=Mix.C h b a d ts' b0 (by lia)
   exact ⟨tl,z,.skip (i:=c+M+d) tr ((mem ts' tl z).mpr hi)⟩
theorem Mix.all (h : Mix mO mI mB N M c) {ts us tb : List (List Int)} (a : WO mO N ts) (b : WO mI M us) (d : WO mB (N + M) tb) : ∃ t1 t2, ts = t1 ++ t2 /\ tb = U8 (JH c M) t1 ++ U8 (· + (c : Int)) us ++ U8 (JH c M) t2 /\ (c = N -> t2 = []) := by
  have le := h.le
  obtain ⟨t1, h1⟩ : ∃ t1, WO mO c t1 := by
    have key : ∀ {i : Nat} {ts : List (List Int)}, WO mO i ts -> c <= i -> ∃ t1, WO mO c t1 := by
      intro i ts a
      induction a with
      | nil => intro z; have : c = 0 := by lia
               rw [this]; exact ⟨[], .nil⟩
      | @add i ts T a ni it ih =>
        intro z
        by_cases q : c = i + 1
        · rw [q]; exact ⟨_, .add a ni it⟩
        · exact ih (by lia)
      | @skip i ts a hi ih =>
        intro z
        by_cases q : c = i + 1
        · rw [q]; exact ⟨_, .skip a hi⟩
        · exact ih (by lia)
    exact key a le
  obtain ⟨tl, e, tr⟩ := h.C h1 b (N - c) ts (by rw [show c + (N - c) = N by lia]; exact a) (by lia)
  rw [show c + M + (N - c) = N + M by lia] at tr
  refine ⟨t1, tl, e, d.uniq tr, fun z => ?_⟩
  rw [<- z] at a
  have := a.uniq h1
  rw [this] at e
  have := congrArg List.length e
  rw [List.length_append] at this
  exact List.length_eq_zero_iff.mp (by lia)
end
theorem ZeK {ls:List (Str×Int)} (hW:Wk ls 0) {x:Int} (h0:0<=x) (h1:x<(ZZ ls:Int)):∃u l,(u,l)∈YI ls/\(x=u∨x=l):=by
 have:x∈ZR (YI ls):=(Uq hW).mem_iff.mpr (by
  obtain ⟨n,rfl⟩:=Int.eq_ofNat_of_zero_le h0
  unfold Zbg
  exact List.mem_map.mpr ⟨n,List.mem_range.mpr (by lia),rfl⟩)
 obtain ⟨⟨u,l⟩,hp,hx⟩:=List.mem_flatMap.mp this
 refine ⟨u,l,hp,?_⟩
 rcases List.mem_cons.mp hx with z | z
 ·exact .inl z
 ·exact .inr (List.mem_singleton.mp z)
theorem ZhF {ps:List (Int×Int)}{u l b:Int} (nd:(ZR ps).Nodup) (h:(u,l)∈ps) (h2:(l,b)∈ps):False:=by
 induction ps with
 | nil=>cases h
 | cons p r ih=>
  have e:ZR (p::r)=p.1::p.2::ZR r:=by simp [ZR]
  have fr:=nd
  rw [e] at nd
  obtain ⟨n1,nd2⟩:=List.nodup_cons.mp nd
  obtain ⟨n2,nd3⟩:=List.nodup_cons.mp nd2
  have inr:∀{a c:Int},(a,c)∈r->a∈ZR r/\c∈ZR r:=fun {a c} z=>⟨List.mem_flatMap.mpr ⟨(a,c),z,by simp⟩,List.mem_flatMap.mpr ⟨(a,c),z,by simp⟩⟩
  rcases List.mem_cons.mp h with z | z
  ·rcases List.mem_cons.mp h2 with y | y
   ·subst z
    have:(u,l)=(l,b):=y.symm
    have e1:u=l:=congrArg Prod.fst this
    exact ZcW fr (List.mem_cons_self) e1
   ·subst z
    exact n2 (inr y).1
  ·rcases List.mem_cons.mp h2 with y | y
   ·subst y
    exact n1 (List.mem_cons_of_mem _ (inr z).2)
   ·exact ih nd3 z y
theorem ZhC {x:Int}:∀{T:List Int},x∈evn T->x∈T
 | [],h=>by cases h
 | [a],h=>h
 | a::b::r,h=>by
  rcases List.mem_cons.mp (show x∈a::evn r from h) with z | z
  ·rw [z];exact List.mem_cons_self
  ·exact List.mem_cons_of_mem _ (List.mem_cons_of_mem _ (ZhC z))
theorem Zk6 {ts:List (List Int)}{x:Int} (h:x∈JI ts):x∈ts.flatten:=by
 unfold JI at h
 obtain ⟨U,hU,hx⟩:=List.mem_flatten.mp h
 obtain ⟨T,hT,rfl⟩:=List.mem_map.mp hU
 exact List.mem_flatten.mpr ⟨T,hT,ZhC hx⟩
theorem Znh {r:WS} (h:SR r):YY r r:=⟨h,fun w=>by
 by_cases z:w∈r
 ·rw [List.Nodup.count h.nodup,if_pos z];simp [z]
 ·rw [List.count_eq_zero.mpr z];simp [z]⟩
theorem ZiW {r L:WS} (h:SR r) (p:Um r L):r=canon L:=((Znh h).par p).canon
theorem ZhQ {ls:List (Str×Int)}{n:Int} (h:Wk ls n):∀i j,j<=i->i<tN ls->tF ls i j = []:=by
 have key:∀{ls:List (Str×Int)}{x:Str}{k:Int},Fit x k.toNat (tN ls)->(∀i j,j<=i->i<tN ls->tF ls i j = []) -> ∀i j,j<=i->i<tN (ls ++ [(x,k)])->tF (ls ++ [(x,k)]) i j = []:=by
  intro ls x k ft ih i j hij hi
  rw [Wf] at hi
  rw [J9]
  unfold nxN at hi
  unfold nxF
  dsimp only at hi ⊢
  rcases ft with ⟨rfl,hk⟩ | ⟨rfl,hk⟩ | ⟨rfl,hk⟩
  ·rw [if_pos rfl] at hi ⊢
   unfold UJ
   rw [if_neg (by lia)]
   split
   ·rfl
   ·exact ih _ _ (by (repeat' split)<;>lia) (by split<;>lia)
  ·rw [if_neg (by decide),if_pos rfl] at hi ⊢
   unfold J3
   rw [if_neg (by lia),if_neg (by lia),if_neg (by lia),if_neg (by lia),if_neg (by lia)]
   exact ih i j hij hi
  ·rw [if_neg (by decide),if_neg (by decide)] at hi ⊢
   unfold ZbX
   rw [if_neg (by lia)]
   exact ih _ _ (by (repeat' split)<;>lia) (by split<;>lia)
 induction h with
 | nil=>intro i j _ hi;cases hi
 | born h h0 h1 ih=>exact key (.inl ⟨rfl,by have:=GA h;lia⟩) ih
 | cross h h0 h1 ih=>exact key (.inr (.inl ⟨rfl,by have:=GA h;lia⟩)) ih
 | fin h h0 h1 ih=>exact key (.inr (.inr ⟨rfl,by have:=GA h;lia⟩)) ih
section
variable {P I R:List (Str×Int)}{k:Nat}{n:Int}
theorem GF.c (h:GF P I R k n):(rb P).2=((rb P).2.toNat:Int)/\(rb P).2.toNat % 2=0/\(rb P).2.toNat<=ZZ (P++R):=by
 obtain ⟨a,b,_⟩:=WU h.o P.length (by rw [List.length_append];lia)
 rw [List.take_left' rfl] at a b
 have g:=Zd9 P R
 rw [Zbv h.o] at g
 lia
theorem GF.YI (h:GF P I R k n):∃X Y,YI (P++R)=X++Y/\YI (P++sh k I++R)=X.map (pm (JH (rb P).2.toNat (ZZ I)))++(L2.YI I).map (pm (· + ((rb P).2.toNat:Int)))++Y.map (pm (JH (rb P).2.toNat (ZZ I))):=by
 obtain ⟨X,Y,a,b⟩:=h.prs (pr:=isE) (by decide +kernel)
 rw [Zbv h.i,h.c.1] at b
 exact ⟨X,Y,a,b⟩
theorem GF.num (h:GF P I R k n):ZZ (P++sh k I++R)=ZZ (P++R)+ZZ I:=by
 obtain ⟨X,Y,a,b⟩:=h.YI
 unfold ZZ
 rw [a,b]
 simp only [List.length_append,List.length_map]
 lia
theorem GF.inO (h:GF P I R k n) {u l:Int} (z:(u,l)∈L2.YI (P++R)):(JH (rb P).2.toNat (ZZ I) u,JH (rb P).2.toNat (ZZ I) l)∈L2.YI (P++sh k I++R):=by
 obtain ⟨X,Y,a,b⟩:=h.YI
 rw [a] at z
 rw [b]
 rcases List.mem_append.mp z with z | z
 ·exact List.mem_append_left _ (List.mem_append_left _ (List.mem_map.mpr ⟨_,z,rfl⟩))
 ·exact List.mem_append_right _ (List.mem_map.mpr ⟨_,z,rfl⟩)
theorem GF.inI (h:GF P I R k n) {u l:Int} (z:(u,l)∈L2.YI I):(u+((rb P).2.toNat:Int),l+((rb P).2.toNat:Int))∈L2.YI (P++sh k I++R):=by
 obtain ⟨X,Y,a,b⟩:=h.YI
 rw [b]
 exact List.mem_append_left _ (List.mem_append_right _ (List.mem_map.mpr ⟨_,z,rfl⟩))
theorem GF.mix (h:GF P I R k n):Mix (mOf (L2.YI (P++R))) (mOf (L2.YI I)) (mOf (L2.YI (P++sh k I++R))) (ZZ (P++R)) (ZZ I) (rb P).2.toNat:=by
 have ndB:=Jq h.b
 refine ⟨Yh h.o,Yh h.i,h.c.2.2,h.c.2.1,fun x h0 h1=>?_,fun x h0 h1=>?_⟩
 ·obtain ⟨u,l,hp,hx⟩:=ZeK h.o h0 h1
  obtain ⟨m1,m2⟩:=Zbh (Jq h.o) hp
  obtain ⟨m3,m4⟩:=Zbh ndB (h.inO hp)
  rcases hx with z | z
  ·rw [z,m1,m3]
  ·rw [z,m2,m4]
 ·obtain ⟨u,l,hp,hx⟩:=ZeK h.i h0 h1
  obtain ⟨m1,m2⟩:=Zbh (Jq h.i) hp
  obtain ⟨m3,m4⟩:=Zbh ndB (h.inI hp)
  rcases hx with z | z
  ·rw [z,m1,m3]
  ·rw [z,m2,m4]
theorem Zj8 {ps qs:List (Int×Int)} {ρ:Int->Int} (nd:(ZR ps).Nodup) (nd':(ZR qs).Nodup) (hm:∀u l,(u,l)∈ps->(ρ u,ρ l)∈qs) {u l x:Int} (hp:(u,l)∈ps) (hx:x=u∨x=l):Wh qs (ρ x)=Wh ps x:=by
 unfold Wh
 rcases hx with z | z
 ·rw [z,if_pos (List.mem_map.mpr ⟨_,hm _ _ hp,rfl⟩),if_pos (List.mem_map.mpr ⟨_,hp,rfl⟩)]
 ·rw [z,if_neg ?_,if_neg ?_]
  ·intro y
   obtain ⟨⟨a,b⟩,hab,e⟩:=List.mem_map.mp y
   dsimp only at e
   subst e
   exact ZhF nd hp hab
  ·intro y
   obtain ⟨⟨a,b⟩,hab,e⟩:=List.mem_map.mp y
   dsimp only at e
   subst e
   exact ZhF nd' (hm _ _ hp) hab
theorem GF.dnO (h:GF P I R k n) {x:Int} (h0:0<=x) (h1:x<(ZZ (P++R):Int)):Wh (L2.YI (P++sh k I++R)) (JH (rb P).2.toNat (ZZ I) x)=Wh (L2.YI (P++R)) x:=by
 obtain ⟨u,l,hp,hx⟩:=ZeK h.o h0 h1
 exact Zj8 (Jq h.o) (Jq h.b) (fun u l z=>h.inO z) hp hx
theorem GF.dnI (h:GF P I R k n) {x:Int} (h0:0<=x) (h1:x<(ZZ I:Int)):Wh (L2.YI (P++sh k I++R)) (x+((rb P).2.toNat:Int))=Wh (L2.YI I) x:=by
 obtain ⟨u,l,hp,hx⟩:=ZeK h.i h0 h1
 exact Zj8 (ρ:=fun x=>x+((rb P).2.toNat:Int)) (Jq h.i) (Jq h.b) (fun u l z=>h.inI z) hp hx
theorem Zmz {dn dn' ρ:Int->Int}:∀(T:List Int),(∀x∈T,dn' (ρ x)=dn x/\ev2 (ρ x)=ev2 x)->fl dn' (T.map ρ)=fl dn T
 | [],_=>rfl
 | [x],_=>rfl
 | x::y::r,h=>by
  show dn' (ρ x)+ev2 (ρ y)+fl dn' (r.map ρ)=dn x+ev2 y+fl dn r
  rw [(h x (by simp)).1,(h y (by simp)).2,Zmz r fun z hz=>h z (by simp [hz])]
theorem ZkN {dn dn' ρ:Int->Int}{ts:List (List Int)} (h:∀x∈ts.flatten,dn' (ρ x)=dn x/\ev2 (ρ x)=ev2 x):(U8 ρ ts).map (GS dn')=ts.map (GS dn):=by
 unfold U8
 rw [List.map_map]
 refine List.map_congr_left fun T hT=>?_
 show ZnA (fl dn' (T.map ρ)) / 2=ZnA (fl dn T) / 2
 rw [Zmz T fun x hx=>h x (List.mem_flatten.mpr ⟨T,hT,hx⟩)]
theorem Zhn {c M:Int} (hM:M % 2=0) (x:Int):ev2 (JH c M x)=ev2 x:=by unfold ev2 JH;(repeat' split)<;>lia
theorem Zk9 {c:Int} (hc:c % 2=0) (x:Int):ev2 (x+c)=ev2 x:=by unfold ev2;(repeat' split)<;>lia
theorem ZgO (ρ:Int->Int) (ts:List (List Int)):JI (U8 ρ ts)=(JI ts).map ρ:=by
 unfold JI U8
 rw [List.map_map,List.map_flatten,List.map_map]
 congr 1
 exact List.map_congr_left fun T _=>ZeB ρ T
theorem Zcx (ts us:List (List Int)):JI (ts++us)=JI ts++JI us:=by unfold JI;simp
theorem GF.all (h : GF P I R k n) {tO tI tB : List (List Int)} (a : WO (mOf (L2.YI (P ++ R))) (ZZ (P ++ R)) tO) (b : WO (mOf (L2.YI I)) (ZZ I) tI) (d : WO (mOf (L2.YI (P ++ sh k I ++ R))) (ZZ (P ++ sh k I ++ R)) tB) :
    (∃ t1 t2, tO = t1 ++ t2 /\ tB = U8 (JH (rb P).2.toNat (ZZ I)) t1 ++ U8 (· + ((rb P).2.toNat : Int)) tI ++ U8 (JH (rb P).2.toNat (ZZ I)) t2 /\ (R = [] -> t2 = []) /\
      tB.map (GS (Wh (L2.YI (P ++ sh k I ++ R)))) = t1.map (GS (Wh (L2.YI (P ++ R)))) ++ tI.map (GS (Wh (L2.YI I))) ++ t2.map (GS (Wh (L2.YI (P ++ R))))) /\
    twI (P ++ sh k I ++ R) (JI tB) (P ++ sh k I ++ R).length = twI I (JI tI) I.length + twI (P ++ R) (JI tO) (P ++ R).length := by
  have mx := h.mix
  rw [h.num] at d
  obtain ⟨t1, t2, e1, e2, e3⟩ := mx.all a b d
  have gO := a.good mx.O (Int.le_refl _)
  have gI := b.good mx.I (Int.le_refl _)
  have mM : ((ZZ I : Nat) : Int) % 2 = 0 := mx.I.ev
  have mc : (((rb P).2.toNat : Nat) : Int) % 2 = 0 := by have := mx.ev; lia
  have inj : ∀ x y, JH ((rb P).2.toNat : Int) (ZZ I : Int) x = JH ((rb P).2.toNat : Int) (ZZ I : Int) y -> x = y := Zb3 (by lia)
  refine ⟨⟨t1, t2, e1, e2, fun z => e3 ?_, ?_⟩, ?_⟩
  · subst z
    have := Zbv h.o
    rw [List.append_nil] at this ⊢
    lia
  · rw [e2, List.map_append, List.map_append]
    congr 1
    · congr 1
      · exact ZkN fun x hx => by
          have := gO.2.1 x (by rw [e1, List.flatten_append]; exact List.mem_append_left _ hx)
          exact ⟨h.dnO this.1 this.2, Zhn mM x⟩
      · exact ZkN fun x hx => by
          have := gI.2.1 x hx
          exact ⟨h.dnI this.1 this.2, Zk9 mc x⟩
    · exact ZkN fun x hx => by
        have := gO.2.1 x (by rw [e1, List.flatten_append]; exact List.mem_append_right _ hx)
        exact ⟨h.dnO this.1 this.2, Zhn mM x⟩
  · have eR : JI tB = (JI t1).map (JH (rb P).2.toNat (ZZ I)) ++ (JI tI).map (· + ((rb P).2.toNat : Int)) ++ (JI t2).map (JH (rb P).2.toNat (ZZ I)) := by rw [e2, Zcx, Zcx, ZgO, ZgO, ZgO]
    have eO : JI tO = JI t1 ++ JI t2 := by rw [e1, Zcx]
    have inO : ∀ x : Int, JH (rb P).2.toNat (ZZ I) x ∈ JI tB ↔ x ∈ JI tO := fun x => by
      have back : ∀ L : List Int, JH (rb P).2.toNat (ZZ I) x ∈ L.map (JH (rb P).2.toNat (ZZ I)) ↔ x ∈ L := fun L => by
        rw [List.mem_map]
        exact ⟨fun ⟨y, hy, e⟩ => by rw [<- inj _ _ e]; exact hy, fun z => ⟨x, z, rfl⟩⟩
      have no : JH (rb P).2.toNat (ZZ I) x ∉ (JI tI).map (· + ((rb P).2.toNat : Int)) := fun z => by
        obtain ⟨y, hy, e⟩ := List.mem_map.mp z
        have := gI.2.1 y (Zk6 hy)
        exact Zef (c := (rb P).2.toNat) (M := ZZ I) (x := x) (i := y.toNat) (by lia) (by rw [<- e]; lia)
      rw [eR, eO, List.mem_append, List.mem_append, or_iff_left no, List.mem_append, back, back]
    have inI : ∀ y : Int, 0 <= y -> y < (ZZ I : Int) -> (y + ((rb P).2.toNat : Int) ∈ JI tB ↔ y ∈ JI tI) := fun y h0 h1 => by
      have no : ∀ L : List Int, y + ((rb P).2.toNat : Int) ∉ L.map (JH (rb P).2.toNat (ZZ I)) := fun L z => by
        obtain ⟨x, _, e⟩ := List.mem_map.mp z
        exact Zef (c := (rb P).2.toNat) (M := ZZ I) (x := x) (i := y.toNat) (by lia) (by rw [e]; lia)
      have mid : y + ((rb P).2.toNat : Int) ∈ (JI tI).map (· + ((rb P).2.toNat : Int)) ↔ y ∈ JI tI := by
        rw [List.mem_map]
        exact ⟨fun ⟨x, hx, e⟩ => by have : x = y := by lia
                                    rw [<- this]; exact hx, fun z => ⟨y, z, rfl⟩⟩
      rw [eR, List.mem_append, List.mem_append, or_iff_left (no _), or_iff_right (no _), mid]
    obtain ⟨X, Y, x1, x2⟩ := h.prs (pr := isC) (by decide +kernel)
    rw [Zbv h.i, h.c.1] at x2
    have sgO : ∀ p : Int × Int, Gj (JI tB) (pm (JH (rb P).2.toNat (ZZ I)) p) = Gj (JI tO) p := fun p => by
      unfold Gj pm
      dsimp only
      rw [decide_eq_decide.mpr (inO p.1), decide_eq_decide.mpr (inO p.2)]
    have sgI : ∀ p ∈ Qk19.prs isC I, Gj (JI tB) (pm (· + ((rb P).2.toNat : Int)) p) = Gj (JI tI) p := fun p hp => by
      unfold Qk19.prs at hp
      obtain ⟨t, ht, rfl⟩ := List.mem_map.mp hp
      obtain ⟨a, q, rfl, _, hq, hk⟩ := W7 ht
      have dm := Zkg h.i hq (fun z => by rw [z] at hk; exact absurd hk (by decide +kernel))
      rw [Int.toNat_natCast]
      unfold Gj pm
      dsimp only
      rw [decide_eq_decide.mpr (inI _ dm.1.1 dm.1.2), decide_eq_decide.mpr (inI _ dm.2.1 dm.2.2)]
    have lens : (WR (P ++ sh k I ++ R) (P ++ sh k I ++ R).length).length = (WR I I.length).length + (WR (P ++ R) (P ++ R).length).length := by
      have := h.num
      unfold ZZ L2.YI at this
      lia
    unfold twI
    rw [lens]
    show ((Qk19.prs isC (P ++ sh k I ++ R)).map (Gj (JI tB))).sum - _ = ((Qk19.prs isC I).map (Gj (JI tI))).sum - _ + (((Qk19.prs isC (P ++ R)).map (Gj (JI tO))).sum - _)
    rw [x1, x2, List.map_append, List.map_append, List.map_map, List.map_map, List.map_map, List.map_append, List.sum_append, List.sum_append, List.sum_append]
    have s1 : ∀ Z : List (Int × Int), Z.map (Gj (JI tB) ∘ pm (JH (rb P).2.toNat (ZZ I))) = Z.map (Gj (JI tO)) := fun Z => List.map_congr_left fun p _ => sgO p
    have s2 : (Qk19.prs isC I).map (Gj (JI tB) ∘ pm (· + ((rb P).2.toNat : Int))) = (Qk19.prs isC I).map (Gj (JI tI)) := List.map_congr_left fun p hp => sgI p hp
    rw [s1, s1, s2]
    lia
end
theorem ZjY (t:Int):∀a b:List Int,lexLt (a.map (· + t)) (b.map (· + t))=lexLt a b
 | [],[]=>rfl
 | [],_::_=>rfl
 | _::_,[]=>rfl
 | a::as,b::bs=>by
  show (if a+t=b+t then lexLt (as.map (· + t)) (bs.map (· + t)) else decide (a+t<b+t))=if a=b then lexLt as bs else decide (a<b)
  rw [ZjY t as bs]
  by_cases e:a=b
  ·rw [if_pos e,if_pos (by lia)]
  ·rw [if_neg e,if_neg (by lia)]
   exact decide_eq_decide.mpr (by lia)
theorem Zoi (t:Int) {A:WS} (h:SR A):SR (Uk t A):=List.pairwise_map.mpr (h.imp fun {a b} z=>by rw [ZjY];exact z)
theorem Zmr {t:Int}{r A:WS} (h:SR r) (hA:SR A) (p:Um r (Uk t A)):r=Uk t A:=by rw [ZiW h p,canon_id (Zoi t hA)]
section
variable {P I R:List (Str×Int)}{k:Nat}{n:Int}
theorem GF.tab (h:GF P I R k n) {q i j:Nat} (hq:q<=I.length) (hij:i<j) (hj:j<tN (I.take q)):tF ((P++sh k I++R).take (P.length+q)) (k+i) (k+j)=Uk P.length (tF (I.take q) i j):=by
 obtain ⟨m,hm⟩:=YS h.i q
 have pt:=Zcv h.p h.k hm
 rw [List.append_assoc,List.take_length_add_append,List.take_append_of_le_length (by rw [WC];exact hq),Zek]
 exact Zmr (ZgD _ _ _) (ZgD _ _ _) (pt.inn i j hij hj)
theorem GF.deed (h:GF P I R k n) {q:Nat}{p:Str×Int} (hp:I[q]? = some p) (nb:p.1 ≠ "born"):dW (P++sh k I++R) (P.length+q)=Uk P.length (dW I q):=by
 have hq:q<I.length:=(List.getElem?_eq_some_iff.mp hp).1
 obtain ⟨px,pk⟩:=p
 dsimp only at nb
 obtain ⟨k0,ft⟩:=Zck h.i q _ hp
 dsimp only at k0 ft
 obtain ⟨κ,rfl⟩:=Int.eq_ofNat_of_zero_le k0
 rw [Int.toNat_natCast] at ft
 have hk:κ + 1<tN (I.take q):=by
  rcases ft with ⟨z,_⟩ | ⟨_,z⟩ | ⟨_,z⟩
  ·exact absurd z nb
  ·exact z
  ·exact z
 have g1:(P++sh k I++R)[P.length+q]? = some (px,((k + κ:Nat):Int)):=by
  rw [List.append_assoc,List.getElem?_append_right (by lia),Nat.add_sub_cancel_left,List.getElem?_append_left (by rw [WC];exact hq),Zmg hp]
  exact congrArg (fun z=>some (px,z)) (by dsimp only;lia)
 have es:=h.tab (q:=q) (i:=κ) (j:=κ + 1) (by lia) (by lia) hk
 rw [<- Nat.add_assoc] at es
 by_cases e:px = "end"
 ·subst e
  rw [ZeO g1,ZeO hp,es]
  exact Zmr (Yb _).rise (Yb _).rise (ZdB (A:=tF (I.take q) κ (κ + 1)) (B:=[[]]) (.refl _) (.refl _))
 ·rw [Zhv g1 e,Zhv hp e,es]
end
theorem UP (A C:List (Str×Int)):Z7 (A++C)=Z7 A+Z7 C:=by unfold Z7;rw [List.map_append,List.sum_append]
theorem Zl4 (k:Nat) (A:List (Str×Int)):Z7 (sh k A)=Z7 A:=by unfold Z7 sh;rw [List.map_map];rfl
theorem ZaR (x:Str) (A C:List (Str×Int)):cnt x (A++C)=cnt x A+cnt x C:=by unfold cnt;rw [List.filter_append,List.length_append]
theorem ZnG (x:Str) (k:Nat) (A:List (Str×Int)):cnt x (sh k A)=cnt x A:=by unfold cnt sh;rw [List.filter_map,List.length_map];rfl
theorem ZhX {ls:List (Str×Int)}{n:Int} (h:Wk ls n):ls.length=cnt "born" ls+cnt "cross" ls+cnt "end" ls/\2*(cnt "born" ls:Int)=n+2*(cnt "end" ls:Int):=by
 induction h with
 | nil=>exact ⟨rfl,rfl⟩
 | born h h0 h1 ih=>
  rw [ZM,ZM,ZM,List.length_append,List.length_singleton,if_pos rfl,if_neg (by dsimp only;decide +kernel),if_neg (by dsimp only;decide +kernel)]
  lia
 | cross h h0 h1 ih=>
  rw [ZM,ZM,ZM,List.length_append,List.length_singleton,if_neg (by dsimp only;decide +kernel),if_pos rfl,if_neg (by dsimp only;decide +kernel)]
  lia
 | fin h h0 h1 ih=>
  rw [ZM,ZM,ZM,List.length_append,List.length_singleton,if_neg (by dsimp only;decide +kernel),if_neg (by dsimp only;decide +kernel),if_pos rfl]
  lia
theorem sh0 (A:List (Str×Int)):sh 0 A=A:=by
 unfold sh
 refine (List.map_congr_left fun p _=>?_).trans (List.map_id A)
 show (p.1,((0:Nat):Int)+p.2)=p
 rw [show ((0:Nat):Int)+p.2=p.2 by lia]
section
variable {A C:List (Str×Int)}
theorem beh (hA:Wk A 0) (hC:Wk C 0):GF A C [] 0 0:=⟨hA,by decide,hC,by rw [List.append_nil];exact hA⟩
theorem Znu (hA:Wk A 0) (hC:Wk C 0):Wk (A++C) 0:=by have:=(beh hA hC).b;rwa [sh0,List.append_nil] at this
theorem ZlN (hA:Wk A 0) (hC:Wk C 0) (q:Nat):(rb (A++C.take q)).1=(rb (C.take q)).1.map (· + (ZZ A:Int)):=by
 obtain ⟨m,hm⟩:=YS hC q
 have:=(Zcv hA (k:=0) (by decide) hm).row
 rw [sh0,Zbv hA] at this
 have e:(rb A).1 = []:=List.length_eq_zero_iff.mp (by have:=YQ hA;lia)
 rw [this,e]
 simp
theorem Zfc (hA:Wk A 0) (hC:Wk C 0):∀q,rowsOf (A++C) (A.length+1+q)=rowsOf A (A.length+1)++((rowsOf C (q+1)).map (List.map (· + (ZZ A:Int)))).drop 1
 | 0=>by
  unfold rowsOf
  rw [Nat.add_zero]
  simp only [List.range_succ,List.range_zero,List.nil_append,List.map_cons,List.map_nil,List.drop_succ_cons,List.drop_zero,List.append_nil]
  rw [List.map_append,List.map_append]
  congr 1
  ·exact List.map_congr_left fun j hj=>by have:=List.mem_range.mp hj;rw [List.take_append_of_le_length (by lia)]
  ·simp only [List.map_cons,List.map_nil]
   rw [List.take_append_of_le_length (Nat.le_refl _)]
 | q+1=>by
  rw [show A.length+1+(q+1)=A.length+1+q+1 by lia,WV,Zfc hA hC q,WV C (q+1),List.map_append,List.append_assoc]
  congr 1
  rw [show A.length+1+q=A.length+(q+1) by lia,List.take_length_add_append,ZlN hA hC,List.drop_append_of_le_length (by unfold rowsOf;simp)]
  rfl
theorem Zh0:∀q,(List.range (A.length+1+q)).map (fun (j:Nat)=>V.int (Z7 ((A++C).take j)))=(List.range (A.length+1)).map (fun (j:Nat)=>V.int (Z7 (A.take j)))++((List.range (q+1)).map fun (j:Nat)=>V.int (Z7 A+Z7 (C.take j))).drop 1
 | 0=>by
  rw [Nat.add_zero]
  simp only [List.range_succ,List.range_zero,List.nil_append,List.map_cons,List.map_nil,List.drop_succ_cons,List.drop_zero,List.append_nil,List.map_append]
  congr 1
  ·exact List.map_congr_left fun j hj=>by have:=List.mem_range.mp hj;rw [List.take_append_of_le_length (by lia)]
  ·rw [List.take_append_of_le_length (Nat.le_refl _)]
 | q+1=>by
  rw [show A.length+1+(q+1)=A.length+1+q+1 by lia,List.range_succ,List.map_append,Zh0 q,List.range_succ (n:=q+1),List.map_append,List.append_assoc]
  congr 1
  rw [List.drop_append_of_le_length (by simp),List.map_cons,List.map_nil,show A.length+1+q=A.length+(q+1) by lia,List.take_length_add_append,UP]
  rfl
theorem Zk7:WQ (A++C)=WQ A++(WQ C).map (· + (A.length:Int)):=WI A C _
theorem Zg4 (hA:Wk A 0) (hC:Wk C 0) {tA tC tB:List (List Int)} (a:WO (mOf (YI A)) (ZZ A) tA) (b:WO (mOf (YI C)) (ZZ C) tC) (d:WO (mOf (YI (A++C))) (ZZ (A++C)) tB):
  tB=tA++U8 (· + (ZZ A:Int)) tC/\tB.map (GS (Wh (YI (A++C))))=tA.map (GS (Wh (YI A)))++tC.map (GS (Wh (YI C)))/\twI (A++C) (JI tB) (A++C).length=twI A (JI tA) A.length+twI C (JI tC) C.length/\ZZ (A++C)=ZZ A+ZZ C:=by
 have st:=beh hA hC
 have all:=st.all (tO:=tA) (tI:=tC) (tB:=tB) (by rw [List.append_nil];exact a) b (by rw [sh0,List.append_nil];exact d)
 have nu:=st.num
 rw [sh0] at all nu
 simp only [List.append_nil] at all nu
 obtain ⟨⟨t1,t2,e1,e2,e3,e4⟩,tw⟩:=all
 have z:=e3 trivial
 subst z
 rw [List.append_nil] at e1
 subst e1
 have ec:(rb A).2.toNat=ZZ A:=by have:=Zbv hA;lia
 refine ⟨?_,by simpa using e4,by lia,nu⟩
 rw [e2,ec]
 simp only [U8,List.map_nil,List.append_nil]
 congr 1
 refine (List.map_congr_left fun T hT=>?_).trans (List.map_id tA)
 refine (List.map_congr_left fun x hx=>?_).trans (List.map_id T)
 have g:=(a.good (Yh hA) (Int.le_refl _)).2.1 x (List.mem_flatten.mpr ⟨T,hT,hx⟩)
 exact if_pos (by lia)
theorem ZlI (hA:Wk A 0) (hC:Wk C 0):Jc (A++C) (A++C).length ↔ (Jc A A.length/\Jc C C.length):=by
 have same:∀q,q<=C.length->(Few (tN ((A++C).take (A.length+q))) (tF ((A++C).take (A.length+q))) ↔ Few (tN (C.take q)) (tF (C.take q))):=fun q hq=>by
  have st:=beh hA hC
  obtain ⟨m,hm⟩:=YS hC q
  have pt:=Zcv hA (k:=0) (by decide) hm
  have e0:(A++C).take (A.length+q)=A++C.take q:=List.take_length_add_append _
  have wk:=pt.wk
  rw [sh0] at wk
  have eN:tN (A++C.take q)=tN (C.take q):=by have:=GA wk;have:=GA hm;lia
  have eF:∀i j,i<tN (C.take q)->j<tN (C.take q)->(tF (A++C.take q) i j).length=(tF (C.take q) i j).length:=fun i j hi hj=>by
   by_cases z:i<j
   ·have:=st.tab (q:=q) hq z hj
    rw [sh0,List.append_nil,e0,Nat.zero_add,Nat.zero_add] at this
    rw [this]
    unfold Uk
    exact List.length_map _
   ·rw [ZhQ wk i j (by lia) (by lia),ZhQ hm i j (by lia) hi]
  rw [e0]
  unfold Few
  rw [eN]
  exact ⟨fun h i j hi hj=>by rw [<- eF i j hi hj];exact h i j hi hj,fun h i j hi hj=>by rw [eF i j hi hj];exact h i j hi hj⟩
 constructor
 ·intro h
  refine ⟨fun a ha=>?_,fun q hq=>(same q hq).mp (h _ (by rw [List.length_append];lia))⟩
  have:=h a (by rw [List.length_append];lia)
  rwa [List.take_append_of_le_length ha] at this
 ·rintro ⟨h1,h2⟩ a ha
  rw [List.length_append] at ha
  by_cases z:a<=A.length
  ·rw [List.take_append_of_le_length z];exact h1 a z
  ·have:=(same (a-A.length) (by lia)).mpr (h2 _ (by lia))
   rwa [show A.length+(a-A.length)=a by lia] at this
theorem ZnF {t:Nat} (h:t<A.length):dW (A++C) t=dW A t:=by
 unfold dW
 rw [List.getElem?_append_left h,List.take_append_of_le_length (by lia)]
theorem Znn (hA:Wk A 0) (hC:Wk C 0) {q:Nat}{p:Str×Int} (hp:C[q]? = some p) (nb:p.1 ≠ "born"):dW (A++C) (A.length+q)=Uk A.length (dW C q):=by
 have:=(beh hA hC).deed hp nb
 rwa [sh0,List.append_nil] at this
theorem ZjE {m1 n1 m2 n2:Int} (hA:Wk A 0) (cA:CB A m1 n1) (cC:CB C m2 n2) (hm:m1+m2<=8) (hn:n1+n2<=12):InB (A++C):=by
 refine ⟨fun i=>?_,?_,?_⟩
 ·rw [List.take_append,UP]
  by_cases z:i<=A.length
  ·rw [show i-A.length=0 by lia,List.take_zero]
   have:=cA.2.2 i
   show Z7 (A.take i)+0<=8
   lia
  ·rw [List.take_of_length_le (by lia),Ub hA]
   have:=cC.2.2 (i-A.length)
   lia
 ·rw [JW,ZaR];have:=cA.1;have:=cC.1;lia
 ·rw [JW,ZaR];have:=cA.2.1;have:=cC.2.1;lia
end
theorem Zmh {A:List (Str×Int)}{m n:Int} (h:CB A m n) (hm:m<=8) (hn:n<=12):InB A:=⟨h.2.2,by rw [JW];have:=h.1;lia,by rw [JW];have:=h.2.1;lia⟩
theorem Wy {ls:List (Str×Int)} (hW:Wk ls 0) (h:InB ls):ls.length<=28:=by
 have l:=ZhX hW
 have a:=h.2.1
 have b:=h.2.2
 rw [JW] at a b
 lia
theorem ZjK {tA tC : List (List Int)} {c : Nat} {x : Int} : (x ∈ tA.flatten -> ixT (tA ++ U8 (· + (c : Int)) tC) x = ixT tA x) /\ (x + c ∉ tA.flatten -> ixT (tA ++ U8 (· + (c : Int)) tC) (x + c) = ixT tC x + tA.length) := by
  have key : ∀ (P : List Int -> Bool) (l : List (List Int)), (∀ T ∈ l, P T = false) -> ∀ r, (l ++ r).findIdx P = l.length + r.findIdx P := by
    intro P l
    induction l with
    | nil => intro _ r; simp
    | cons a l ih =>
      intro h r
      rw [List.cons_append, List.findIdx_cons, h a List.mem_cons_self, ih fun T hT => h T (List.mem_cons_of_mem _ hT)]
      simp
      lia
  have key2 : ∀ (P : List Int -> Bool) (l : List (List Int)), (∃ T ∈ l, P T = true) -> ∀ r, (l ++ r).findIdx P = l.findIdx P := by
    intro P l
    induction l with
    | nil => rintro ⟨T, hT, _⟩; cases hT
    | cons a l ih =>
      rintro ⟨T, hT, hP⟩ r
      rw [List.cons_append, List.findIdx_cons, List.findIdx_cons]
      cases ha : P a with
      | true => rfl
      | false =>
        rcases List.mem_cons.mp hT with z | z
        · rw [z, ha] at hP; cases hP
        · rw [ih ⟨T, z, hP⟩ r]
  constructor
  · intro h
    obtain ⟨T, hT, hx⟩ := List.mem_flatten.mp h
    unfold ixT
    rw [key2 _ tA ⟨T, hT, by simpa using hx⟩]
  · intro h
    unfold ixT
    rw [key _ tA fun T hT => by
      have : x + c ∉ T := fun z => h (List.mem_flatten.mpr ⟨T, hT, z⟩)
      simpa using this]
    have : (U8 (· + (c : Int)) tC).findIdx (fun T => decide (x + (c : Int) ∈ T)) = tC.findIdx (fun T => decide (x ∈ T)) := by
      unfold U8
      rw [List.findIdx_map]
      congr 1
      funext T
      refine decide_eq_decide.mpr ?_
      rw [List.mem_map]
      exact ⟨fun ⟨y, hy, e⟩ => by have : y = x := by lia
                                  rw [<- this]; exact hy, fun z => ⟨x, z, rfl⟩⟩
    rw [this]
    lia
theorem Zma {A C:List (Str×Int)} (hA:Wk A 0) (hC:Wk C 0) {tA tC tB:List (List Int)} (a:WO (mOf (YI A)) (ZZ A) tA) (b:WO (mOf (YI C)) (ZZ C) tC) (d:WO (mOf (YI (A++C))) (ZZ (A++C)) tB):
  tab (ZZ (A++C)) (ixT tB)=tab (ZZ A) (ixT tA)++(tab (ZZ C) (ixT tC)).map (· + (tA.length:Int)):=by
 obtain ⟨e,_,_,nu⟩:=Zg4 hA hC a b d
 rw [nu,e]
 unfold tab
 rw [List.range_eq_range',List.range_eq_range',List.range_eq_range',<- List.range'_append_1,List.map_append,Nat.zero_add]
 congr 1
 ·refine List.map_congr_left fun x hx=>?_
  have hx:=(List.mem_range'_1.mp hx).2
  exact ZjK.1 (a.mem x (by lia))
 ·rw [List.map_map,List.range'_eq_map_range,List.range'_eq_map_range,List.map_map,List.map_map]
  refine List.map_congr_left fun x hx=>?_
  have hx:=List.mem_range.mp hx
  have g:=(a.good (Yh hA) (Int.le_refl _)).2.1
  have:=(ZjK (tA:=tA) (tC:=tC) (c:=ZZ A) (x:=(x:Int))).2 (fun z=>by have:=g _ z;lia)
  show ixT _ ((ZZ A+x:Nat):Int)=ixT tC ((0+x:Nat):Int)+_
  rw [show ((ZZ A+x:Nat):Int)=(x:Int)+(ZZ A:Int) by lia,Nat.zero_add]
  exact this
theorem Zos (x:Str) (ls:List (Str×Int)):((ls.map fun p=>V.str p.1).countP fun z=>eqV z (.str x))=cnt x ls:=by
 unfold cnt
 rw [List.countP_map,List.countP_eq_length_filter]
 congr 2
theorem Zh5:∀ls:List (Str×Int),(∀p∈ls,Kd p.1)->2*(cnt "born" ls:Int)-2*(cnt "end" ls:Int)=Z7 ls
 | [],_=>rfl
 | p::r,h=>by
  have ih:=Zh5 r fun q hq=>h q (List.mem_cons_of_mem _ hq)
  have e:Z7 (p::r)=Zdq p.1+Z7 r:=by unfold Z7;simp
  have c:∀x,cnt x (p::r)=(if p.1=x then 1 else 0)+cnt x r:=fun x=>by
   unfold cnt
   rw [List.filter_cons]
   by_cases z:p.1=x
   ·simp [z];lia
   ·simp [z]
  have g1:Zdq "born" = 2:=by decide +kernel
  have g2:Zdq "cross" = 0:=by decide +kernel
  have g3:Zdq "end" = -2:=by decide +kernel
  rw [e,c,c]
  rcases h p List.mem_cons_self with z | z | z
  ·rw [z,g1,if_pos rfl,if_neg (by decide +kernel)];lia
  ·rw [z,g2,if_neg (by decide +kernel),if_neg (by decide +kernel)];lia
  ·rw [z,g3,if_neg (by decide +kernel),if_pos rfl];lia
def ZgF:Sp:=fun vs H Q _=>∃(l:Addr) (xs:List V) (ls:List (Str×Int)),vs = [.ref l]/\H l=some (.lst xs)/\Zs H xs ls/\ls.length<=60/\(∀p∈ls,Kd p.1) /\ ∀H',Ze H H'->Q (.int (Z7 ls)) H'
abbrev WY:Stmt:=top 46
theorem Za5:Zp ["_law_letters", "_law_words"] ["_law_letters"] (Zi WY):={}
theorem Zlb {f:Addr}{fd:FuncData} (F:Ym K "_law_many" "_law_many" WY f fd):ZX P w K mg base J4 1 f fd ["_law_letters"] ZgF:=by
 refine F.ok Za5 (fun vs H Q E h=>?_) (fun cdv A outer s H vs Q E hr h=>?_)
 ·obtain ⟨l,xs,ls,rfl,_⟩:=h
  rfl
 ·obtain ⟨l,xs,ls,rfl,hl,hL,hlen,kd,k⟩:=h
  refine ⟨_,(Zd (Zad (i:=1) Za5.nd rfl (Or.inl rfl) (Ls:=["_law_letter"]) (Fs:=[]) (fi:=[]) (ZO.of (show Yn ["_law_letters", "_law_words"] (Zi WY) _ [] []=true by decide +kernel)) rfl (ZC (K:=K) rfl (pv 0)) (fun cl C s3 H3 ex=>⟨(Zm (i:=0) (show ((["_law_letter"]:List Str)++([]:List Str)).Nodup by decide +kernel) rfl (Or.inl rfl)),Z8,(Zz (Zaz (K:=K) rfl) (pv 0) Zg (fun _ _=>rfl))⟩))
   (Zh (Zr (Zn Gp (Zn Wt Zg (YF (K:=K) rfl (JB PySem.F.plainAttrs_list PySem.F.slot_list_count PySem.F.type_list_count (U4 (K:=K) rfl) (pv 1) (Za YH Zc)))) (Zn Wt Zg (YF (K:=K) rfl (JB PySem.F.plainAttrs_list PySem.F.slot_list_count PySem.F.type_list_count (U4 (K:=K) rfl) (pv 1) (Za YH Zc)))))))),?_⟩
  have hxl:=hL.len
  refine ⟨_,rfl,l,rfl,⟨_,Zo.of hl⟩,Y9 (K:=K) (a:=l) (xs:=xs) (by rw [sizeLine_eq];lia) (fun j zs G=>Ze H G/\zs=(ls.take j).map fun p=>V.str p.1) ⟨Ze.refl _,rfl⟩ (fun j zs G q=>by rw [q.2,List.length_map,List.length_take];exact Nat.min_le_left _ _) (fun j zs G q=>Zo.of (q.1 _ _ hl)) (fun j x zs G hx q=>?_) (fun zs G q wA hwA=>?_)⟩
  ·obtain ⟨sq,rfl⟩:=q
   obtain ⟨p,ta,hp,rfl,hta⟩:=hL.get hx
   refine lcG ?_
   refine ⟨_,rfl,ta,_,_,_,rfl,rfl,WT.of (sq _ _ hta),Zv (j:=0) rfl,sq,?_⟩
   rw [Yu _ hp]
  ·obtain ⟨sq,rfl⟩:=q
   rw [hxl,List.take_of_length_le (Nat.le_refl _)]
   have fl:((ls.map fun p=>V.str p.1).all W8)=true:=by rw [List.all_map,List.all_eq_true];intro _ _;rfl
   refine ⟨_,rfl,.inl ⟨rfl,_,Zo.of Zb⟩,wA,_,_,rfl,rfl,Zo.of Zb,rfl,fl,_,_,rfl,rfl,.inl ⟨by decide,by decide⟩,_,rfl,.inl ⟨rfl,_,Zo.of Zb⟩,wA,_,_,rfl,rfl,Zo.of Zb,rfl,fl,_,_,rfl,rfl,.inl ⟨by decide,by decide⟩,_,_,rfl,rfl,?_⟩
   dsimp only
   rw [Zos,Zos,Zh5 ls kd]
   exact k _ (sq.step hwA)
def ZeC:Sp:=fun vs H Q _=>∃(l:Addr) (xs:List V) (ls:List (Str×Int)),vs = [.ref l]/\H l=some (.lst xs)/\Zs H xs ls/\Wk ls 0/\InB ls/\ls.length<=60 /\
 (Jc ls ls.length -> ∀(p:Addr) (H':Hp) (es:List Addr),H p=none->Ze H H'->H' p=some (.lst (es.map V.ref))->es.length=(WQ ls).length->DsE H' ls es->Q (.ref p) H')/\(¬Jc ls ls.length -> ∀H',Ze H H'->Q .non H')
abbrev Uo:Stmt:=top 47
theorem ZeW:Zp ["_law_drawing_here"] ["_law_drawing_here"] (Zi Uo):={}
theorem Zk5 {f ZI:Addr}{fd:FuncData} (F:Ym K "_law_told" "_law_told" Uo f fd) (Wm:mg "TooMany" = some (.ref ZI)) (Ju:PySem.W.excIn K ZI bmV "ValueError.__new__" = true) (Gq:PySem.W.mroIn K ZI (.ref ZI)=some true)
  (Zd7:Ze3 P w K mg base 7 "deeds" ["drawing"] (ZeG ZI)):ZX P w K mg base J4 8 f fd ["_law_drawing_here"] ZeC:=by
 refine F.ok ZeW (fun vs H Q E h=>?_) (fun cdv A outer s H vs Q E hr h=>?_)
 ·obtain ⟨l,xs,ls,rfl,_⟩:=h
  rfl
 ·obtain ⟨l,xs,ls,rfl,hl,hL,hW,hI,hlen,k,kn⟩:=h
  let R_try:L2.St->Addr->Hp->Prop:=fun _ C H'=>C=ZI/\Ze H H' /\ ¬Jc ls ls.length
  have hR_try:∀ σ C H',R_try σ C H'->PySem.W.mroIn K C (.ref ZI)=some true:=fun σ C H' z=>by rw [z.1];exact Gq
  refine ⟨_,(Zh (ZkY R_try (fun pins=>(Zh (Zr (Zj2 Zd7 (hr.mono (by decide)) (ZoC rfl) (Za (pv 0) Zc))))) (fun pins a_x=>(Zh (Zr Zbj))) (by rfl) Wm Ju hR_try)),?_⟩
  refine ⟨?_,fun C σ' H1 hR=>?_⟩
  ·exact ⟨_,rfl,l,xs,ls,rfl,hl,hL,hW,hI,hlen,(fun few p H' es a b c d e _ _ _=>k few p H' es a b c d e),fun nf H1 s1=>⟨ZI,rfl,rfl,s1,nf⟩⟩
  ·exact kn hR.2.2 H1 hR.2.1
def DsA (H:Hp) (es:List Addr) (As:List WS):Prop:=es.length=As.length /\ ∀(j:Nat) (e:Addr) (A:WS),es[j]? = some e->As[j]? = some A->WL H e A
def Sml (As:List WS):Prop:=As.length<=60 /\ ∀A∈As,A.length<=300 /\ ∀w∈A,w.length<=4000
def Zcb:Sp:=fun vs H Q _=>∃(d:Addr) (t:Int) (es:List Addr) (As:List WS),vs = [.ref d,.int t]/\H d=some (.lst (es.map V.ref))/\DsA H es As/\Sml As /\ ∀(p:Addr) (H':Hp) (fs:List Addr),H p=none->Ze H H'->H' p=some (.lst (fs.map V.ref))->DsA H' fs (As.map (Uk t))->Q (.ref p) H'
abbrev Wd:Stmt:=top 45
theorem Gm:Zp ["_law_sums", "_law_many_here", "_law_found", "_law_one"] ["_law_sums", "_law_many_here"] (Zi Wd):={}
theorem Zkd {f:Addr}{fd:FuncData} (F:Ym K "_law_moved" "_law_moved" Wd f fd) (ZeD:mg "tuple" = none):ZX P w K mg base J4 1 f fd ["_law_sums", "_law_many_here"] Zcb:=by
 refine F.ok Gm (fun vs H Q E h=>?_) (fun cdv A outer s H vs Q E hr h=>?_)
 ·obtain ⟨d,t,es,As,rfl,_⟩:=h
  rfl
 ·obtain ⟨d,t,es,As,rfl,hd,⟨le,hds⟩,⟨s60,sml⟩,k⟩:=h
  refine ⟨_,(Zd (Zq (i:=2) Gm.nd rfl (Or.inl rfl) (Z6 Zc))
   (Zd (Z5 PassesOwn.never rfl (ZC (K:=K) rfl (pv 0)) (Zm (i:=3) Gm.nd rfl (Or.inl rfl)) (Zh (Ye (YF (K:=K) rfl (JB PySem.F.plainAttrs_list PySem.F.slot_list_append PySem.F.type_list_append Z4 (pv 2) (Za (Gy (Ls:=["_law_word"]) (Fs:=["_law_many_here"]) (fi:=[1]) (ZO.of (show Yn ["_law_sums", "_law_many_here", "_law_found", "_law_one"] (Zi Wd) _ ["_law_many_here"] [1]=true by decide +kernel)) rfl (ZC (K:=K) rfl (pv 3)) (fun cl C s3 H3 ex=>⟨(Zm (i:=0) (show ((["_law_word"]:List Str)++(["_law_many_here"]:List Str)).Nodup by decide +kernel) rfl (Or.inl rfl)),Z8,(Zbu Zff (by rfl) ZeD boot_tuple (Za (Gy (Ls:=["_law_name"]) (Fs:=["_law_many_here"]) (fi:=[1]) (ZO.of (by rfl)) rfl (Zlt (K:=K) rfl (pv 0)) (fun cl C s3 H3 ex=>⟨(Zm (i:=0) (show ((["_law_name"]:List Str)++(["_law_many_here"]:List Str)).Nodup by decide +kernel) rfl (Or.inl rfl)),Z8,(Zn ZF (pv 0) (pv 1))⟩)) Zc))⟩)) Zc))))))
   (Zh (Zr (pv 2))))),?_⟩
  refine ⟨(by show 0<=sizeLine;decide),fun fA ffA=>?_⟩
  have s1:Ze H (upd H fA (.lst [])):=Ze.laid ffA
  refine ⟨_,rfl,d,rfl,⟨_,Zo.of (s1 _ _ hd)⟩,Yd (K:=K) (a:=d) (xs:=es.map V.ref) (fun i σ G=>∃(v3:Option V) (fs:List Addr),σ = [some (.ref d),some (.int t),some (.ref fA),v3]/\Ze H G/\G fA=some (.lst (fs.map V.ref))/\fA∉fs/\DsA G fs ((As.take i).map (Uk t))) ⟨none,[],rfl,s1,Zb,by simp,rfl,by simp⟩ (fun i σ G _ ⟨_,_,_,sg,_⟩=>Zo.of (sg _ _ hd)) ?_ ?_⟩
  ·rintro i x σ G hx ⟨v3,fs,rfl,sg,ef,nf,lf,dfs⟩
   rw [List.getElem?_map] at hx
   obtain ⟨e,he,rfl⟩:=Option.map_eq_some_iff.mp hx
   have hi:=(List.getElem?_eq_some_iff.mp he).1
   have hA:As[i]? = some (As[i]'(by lia)):=by simp
   generalize As[i]'(by lia)=Ai at hA
   obtain ⟨us,eu,wu⟩:=(hds i e _ he hA).same sg
   have sm:=sml Ai (List.mem_of_getElem? hA)
   refine ⟨_,rfl,.inl ⟨rfl,_,Zo.of ef⟩,_,rfl,e,rfl,⟨_,Zo.of eu⟩,Y9 (K:=K) (a:=e) (xs:=us) (by rw [wu.len,sizeLine_eq];lia) (fun m zs G'=>Ze G G'/\Words G' zs (Uk t (Ai.take m))) ⟨Ze.refl _,.nil⟩ (fun m zs G' ⟨_,z⟩=>by rw [z.len];unfold Uk;rw [List.length_map,List.length_take];exact Nat.min_le_left _ _) (fun m zs G' ⟨s',_⟩=>Zo.of (s' _ _ eu)) ?_ ?_⟩
   ·rintro m x zs G' hx ⟨s',wz⟩
    obtain ⟨wd,hwd,pw,rfl,hpw⟩:=Words.get wu hx
    have lw:=sm.2 wd (List.mem_of_getElem? hwd)
    refine lcG ?_
    refine ⟨_,rfl,pw,rfl,⟨_,WT.of (s' _ _ hpw)⟩,Zm4 (K:=K) (xs:=wd.map V.int) (by rw [List.length_map,sizeLine_eq];lia) (fun i zs G2=>Ze G' G2/\zs=((wd.take i).map (· + t)).map V.int) ⟨Ze.refl _,rfl⟩ (fun i zs G2 ⟨_,z⟩=>by rw [z,List.length_map,List.length_map,List.length_take];exact Nat.min_le_left _ _) (fun i zs G2 ⟨s2,_⟩=>WT.of (s2 _ _ (s' _ _ hpw))) ?_ ?_⟩
    ·rintro i x zs G2 hx ⟨s2,rfl⟩
     obtain ⟨n,hn,rfl⟩:=Yc hx
     refine lcG ?_
     refine ⟨_,rfl,_,rfl,_,_,rfl,rfl,s2,?_⟩
     rw [List.take_add_one,hn]
     simp
    ·rintro zs G2 ⟨s2,rfl⟩ D hD
     rw [List.length_map,List.take_of_length_le (Nat.le_refl _)]
     refine ⟨D,_,rfl,Zb,fun q hq=>⟨(s'.trans s2).trans ((Ze.laid hD).step hq),?_⟩⟩
     rw [List.take_add_one,hwd]
     unfold Uk
     rw [List.map_append]
     exact Words.snoc (Words.same (s2.trans ((Ze.laid hD).step hq)) wz) ⟨q,rfl,Zb⟩
   ·rintro zs G' ⟨s',wz⟩ D hD
    rw [wu.len,List.take_of_length_le (Nat.le_refl _)] at wz
    have s2:Ze G' (upd G' D (.lst zs)):=Ze.laid hD
    have eD:(upd G' D (.lst zs)) D=some (.lst zs):=Zb
    obtain ⟨G2,eG2⟩:∃G2,upd G' D (.lst zs)=G2:=⟨_,rfl⟩
    rw [eG2] at s2 eD ⊢
    have ef2:=s2 _ _ (s' _ _ ef)
    have nD:D≠fA:=fun z=>by rw [z,s' _ _ ef] at hD;cases hD
    rw [List.length_map,List.length_take] at lf
    refine ⟨fA,_,_,rfl,rfl,ef2,by rw [List.length_map,sizeLine_eq];lia,_,fs ++ [D],rfl,((sg.trans s').trans s2).put ffA,by rw [List.map_append];exact Zb,?_,?_,?_⟩
    ·intro z
     rcases List.mem_append.mp z with z | z
     ·exact nf z
     ·exact nD (List.mem_singleton.mp z).symm
    ·rw [List.length_append,List.length_map,List.length_take,lf,List.length_singleton];lia
    ·intro j e' A' h1 h2
     by_cases c:j<fs.length
     ·rw [List.getElem?_append_left c] at h1
      have h2':((As.take i).map (Uk t))[j]? = some A':=by
       rw [List.getElem?_map,List.getElem?_take] at h2 ⊢
       rwa [if_pos (by lia)] at h2 ⊢
      exact (((dfs j e' A' h1 h2').same s').same s2).upd ef2 fun z=>nf (z ▸ List.mem_of_getElem? h1)
     ·rw [List.getElem?_append_right (by lia)] at h1
      have:j-fs.length=0:=by
       have:=(List.getElem?_eq_some_iff.mp h1).1
       simp at this;lia
      rw [this] at h1
      cases h1
      have ej:j=i:=by lia
      subst ej
      rw [List.getElem?_map,List.getElem?_take,if_pos (by lia),hA] at h2
      cases h2
      exact WL.upd ef2 nD ⟨zs,eD,Words.same s2 wz⟩
  ·rintro σ G ⟨v3,fs,rfl,sg,ef,nf,ds⟩
   rw [List.length_map,le,List.take_of_length_le (Nat.le_refl _)] at ds
   exact ⟨_,rfl,k fA G fs ffA sg ef ds⟩
theorem Zkm {K:PySem.W.Frag}{G:Hp}{us vs:List V}{rs:List (List Int)} (a:ZV G us rs) (b:ZV G vs rs):∀(i:Nat) (x y:V),us[i]? = some x->vs[i]? = some y->Eqv K G 60 x y:=fun i x y h1 h2=>by
 obtain ⟨p,r,hr,rfl,hp⟩:=a.atX h1
 obtain ⟨q,r',hr',rfl,hq⟩:=b.atX h2
 rw [hr] at hr'
 cases hr'
 refine .lst (Zo.of hp) (Zo.of hq) rfl fun j u v g1 g2=>?_
 obtain ⟨t,_,rfl⟩:=Yc g1
 rw [g1] at g2
 cases g2
 exact .flat rfl
theorem Zfn {G:Hp}:∀{us vs:List V}{rs ss:List (List Int)},ZV G us rs->ZV G vs ss->ZV G (us++vs) (rs++ss)
 | _,_,_,_,.nil,b=>b
 | _,_,_,_,.cons h t,b=>.cons h (Zfn t b)
theorem Zia {G:Hp}{us:List V}{rs:List (List Int)} (h:ZV G us rs):ZV G (us.drop 1) (rs.drop 1):=by
 cases h with
 | nil=>exact .nil
 | cons a t=>exact t
theorem UD {K:PySem.W.Frag}{G:Hp}{n:Nat}{ns:List Int}:∀(i:Nat) (x y:V),(ns.map V.int)[i]? = some x->(ns.map V.int)[i]? = some y->Eqv K G n x y:=fun i x y a b=>by
 obtain ⟨t,_,rfl⟩:=Yc a
 rw [a] at b
 cases b
 exact .flat rfl
theorem ZfB {G:Hp}{ls:List (Str×Int)}{es:List Addr} (le:es.length=(WQ ls).length) (d:DsE G ls es):DsA G es ((WQ ls).map fun t=>dW ls t.toNat):=by
 refine ⟨by rw [List.length_map];exact le,fun j e A h1 h2=>?_⟩
 obtain ⟨t,a,b⟩:=d j e h1
 rw [List.getElem?_map,a] at h2
 cases h2
 exact b
theorem ZhW {K:PySem.W.Frag}{G:Hp}{es fs:List Addr}{As:List WS} (a:DsA G es As) (b:DsA G fs As):∀(i:Nat) (x y:V),(es.map V.ref)[i]? = some x->(fs.map V.ref)[i]? = some y->Eqv K G 60 x y:=fun i x y h1 h2=>by
 rw [List.getElem?_map] at h1 h2
 obtain ⟨e,he,rfl⟩:=Option.map_eq_some_iff.mp h1
 obtain ⟨f,hf,rfl⟩:=Option.map_eq_some_iff.mp h2
 have hi:=(List.getElem?_eq_some_iff.mp he).1
 have hA:As[i]? = some (As[i]'(by have:=a.1;lia)):=by simp
 exact ZnK (a.2 i e _ he hA) (b.2 i f _ hf hA) (by decide)
theorem J0 {G G':Hp} (s:Ze G G') {es:List Addr}{As:List WS} (a:DsA G es As):DsA G' es As:=⟨a.1,fun j e A h1 h2=>(a.2 j e A h1 h2).same s⟩
theorem Zlv {G:Hp}{es fs:List Addr}{As Bs:List WS} (a:DsA G es As) (b:DsA G fs Bs):DsA G (es++fs) (As++Bs):=by
 have la:=a.1
 refine ⟨by rw [List.length_append,List.length_append,a.1,b.1],fun j e A h1 h2=>?_⟩
 by_cases c:j<es.length
 ·rw [List.getElem?_append_left c] at h1
  rw [List.getElem?_append_left (by lia)] at h2
  exact a.2 j e A h1 h2
 ·rw [List.getElem?_append_right (by lia)] at h1
  rw [List.getElem?_append_right (by lia),<- la] at h2
  exact b.2 _ e A h1 h2
theorem Zkx {ls:List (Str×Int)} (hW:Wk ls 0) (hI:InB ls) (hl:ls.length<=60) (few:Jc ls ls.length):Sml ((WQ ls).map fun t=>dW ls t.toNat):=by
 refine ⟨by rw [List.length_map];exact Nat.le_trans (Jk _ _ _) hl,fun A hA=>?_⟩
 obtain ⟨t,ht,rfl⟩:=List.mem_map.mp hA
 obtain ⟨a,⟨kd,kk⟩,rfl,ha,hp,hkd⟩:=W7 ht
 rw [Int.toNat_natCast]
 obtain ⟨k0,ft⟩:=Zck hW a _ hp
 dsimp only at k0 ft hkd
 obtain ⟨kn,rfl⟩:=Int.eq_ofNat_of_zero_le k0
 rw [Int.toNat_natCast] at ft
 have hk:kn+1<tN (ls.take a):=by
  rcases ft with ⟨z,_⟩ | ⟨_,z⟩ | ⟨_,z⟩
  ·exact absurd z (by simpa using hkd)
  ·exact z
  ·exact z
 have f200:=few a (by lia) kn (kn+1) (by lia) hk
 have wb:=ZgH hW hI a kn (kn+1)
 by_cases e:kd = "end"
 ·subst e
  rw [ZeO hp]
  have od:=Yb (tF (ls.take a) kn (kn+1) ++ [[]])
  have:=od.len
  rw [List.length_append,List.length_singleton] at this
  refine ⟨by unfold Jb;lia,fun w hw=>?_⟩
  rcases List.mem_append.mp (od.sub hw) with z | z
  ·have:=(wb w z).1;lia
  ·rw [List.mem_singleton.mp z];decide
 ·rw [Zhv hp e]
  exact ⟨by lia,fun w hw=>by have:=(wb w hw).1;lia⟩
theorem ZnB {A C:List (Str×Int)} (wA:Wk A 0) (wC:Wk C 0):((WQ (A++C)).map fun t=>dW (A++C) t.toNat)=((WQ A).map fun t=>dW A t.toNat)++((WQ C).map fun t=>dW C t.toNat).map (Uk A.length):=by
 rw [Zk7,List.map_append,List.map_map,List.map_map]
 congr 1
 ·refine List.map_congr_left fun t ht=>?_
  obtain ⟨a,p,rfl,ha,_,_⟩:=W7 ht
  rw [Int.toNat_natCast]
  exact ZnF ha
 ·refine List.map_congr_left fun t ht=>?_
  obtain ⟨a,p,rfl,ha,hp,hk⟩:=W7 ht
  show dW (A++C) ((a:Int)+(A.length:Int)).toNat=Uk A.length (dW C (a:Int).toNat)
  rw [show ((a:Int)+(A.length:Int)).toNat=A.length+a by lia,Int.toNat_natCast]
  exact Znn wA wC hp (by simpa using hk)
def ZcY:Sp:=fun vs H Q _=>∃(a c:Addr) (xs ys:List V) (A C:List (Str×Int)),vs = [.ref a,.ref c]/\H a=some (.lst xs)/\Zs H xs A/\H c=some (.lst ys)/\Zs H ys C/\Wk A 0/\Wk C 0/\InB A/\InB C/\InB (A++C) /\ ∀H',Ze H H'->Q (.bl true) H'
abbrev Je:Stmt:=top 48
theorem Y1:Zp ["_law_one", "_law_other", "_law_both", "_law_born", "_law_later", "_law_first", "_law_second"] ["_law_one", "_law_other"] (Zi Je):={}
theorem ZiF {f:Addr}{fd:FuncData} (F:Ym K "_law_behind" "_law_behind" Je f fd) (Gz:Yi P w K mg base 1 "strands" ["drawing"] Zbp) (Yk:Yi P w K mg base 1 "names_of" ["drawing"] (WH fun x=>!decide (x = "born"))) (GD:Yi P w K mg base 6 "pieces" ["drawing"] Zdd) (Jt:Yi P w K mg base 1 "threads" ["drawing"] Zd1) (JF:Yi P w K mg base 6 "turns" ["drawing"] Zb2) (Jh:Yi P w K mg base 7 "twists" ["drawing"] ZaQ)
  (Yf:Yi P w K mg base 8 "_law_told" ["_law_drawing_here"] ZeC) (Y7:Yi P w K mg base 1 "_law_moved" ["_law_sums", "_law_many_here"] Zcb) (ZL:mg "len" = none):ZX P w K mg base J4 9 f fd ["_law_one", "_law_other"] ZcY:=by
 refine F.ok Y1 (fun vs H Q E h=>?_) (fun cdv A outer s H vs Q E hr h=>?_)
 ·obtain ⟨a,c,xs,ys,A,C,rfl,_⟩:=h
  rfl
 ·obtain ⟨a,c,xs,ys,A,C,rfl,ha,hA,hc,hC,wA,wC,iA,iC,iB,k⟩:=h
  refine ⟨_,(Zd (Zq (i:=2) Y1.nd rfl (Or.inl rfl) (Zn Jm (pv 0) (pv 1)))
   (Zd (YK (PW.pt (ZcJ (Zu (U1 (K:=K) rfl hr.units) (Zk Gz hr (Za (pv 2) Zc)) (Zn Jm (Zk Gz hr (Za (pv 0) Zc)) (Yp (Yq (K:=K) rfl) (Zk Gz hr (Za (pv 1) Zc)) (Z9 Zg) YT)) (ZD _)) (Zaq (Zu (U1 (K:=K) rfl hr.units) (Yp (Yq (K:=K) rfl) (Zk Yk hr (Za (pv 2) Zc)) YT (Z9 (Zy (ZJ (K:=K) rfl) (by rfl) ZL PySem.boot_len (Za (Zk Yk hr (Za (pv 0) Zc)) Zc)))) (Zk Yk hr (Za (pv 0) Zc)) (ZD _))))) (Zh (Zr J7)) Ya)
   (Zd (Zq (i:=3) Y1.nd rfl (Or.inr rfl) (Zy (ZJ (K:=K) rfl) (by rfl) ZL PySem.boot_len (Za (Zk GD hr (Za (pv 0) Zc)) Zc)))
   (Zd (Zad (i:=4) Y1.nd rfl (Or.inl rfl) (Ls:=["_law_row"]) (Fs:=["_law_born"]) (fi:=[3]) (ZO.of (show Yn ["_law_one", "_law_other", "_law_both", "_law_born", "_law_later", "_law_first", "_law_second"] (Zi Je) _ ["_law_born"] [3]=true by decide +kernel)) rfl (ZC (K:=K) rfl (Zk Jt hr (Za (pv 1) Zc))) (fun cl C s3 H3 ex=>⟨(Zm (i:=0) (show ((["_law_row"]:List Str)++(["_law_born"]:List Str)).Nodup by decide +kernel) rfl (Or.inl rfl)),Z8,(Gy (Ls:=["_law_thread"]) (Fs:=["_law_born"]) (fi:=[1]) (ZO.of (by rfl)) rfl (ZC (K:=K) rfl (pv 0)) (fun cl C s3 H3 ex=>⟨(Zm (i:=0) (show ((["_law_thread"]:List Str)++(["_law_born"]:List Str)).Nodup by decide +kernel) rfl (Or.inl rfl)),Z8,(Zn ZF (pv 0) (pv 1))⟩))⟩))
   (Zd (YK (Zu (U1 (K:=K) rfl hr.units) (Zk Jt hr (Za (pv 2) Zc)) (Zn Jm (Zk Jt hr (Za (pv 0) Zc)) (Yp (Yq (K:=K) rfl) (pv 4) (Z9 Zg) YT)) (ZD _)) (Zh (Zr J7)) Ya)
   (Zd (YK (Zu (U1 (K:=K) rfl hr.units) (Zk GD hr (Za (pv 2) Zc)) (Zn Jm (Zk GD hr (Za (pv 0) Zc)) (Gy (Ls:=["_law_piece"]) (Fs:=["_law_one"]) (fi:=[0]) (ZO.of (show Yn ["_law_one", "_law_other", "_law_both", "_law_born", "_law_later", "_law_first", "_law_second"] (Zi Je) _ ["_law_one"] [0]=true by decide +kernel)) rfl (ZC (K:=K) rfl (Zk GD hr (Za (pv 1) Zc))) (fun cl C s3 H3 ex=>⟨(Zm (i:=0) (show ((["_law_piece"]:List Str)++(["_law_one"]:List Str)).Nodup by decide +kernel) rfl (Or.inl rfl)),Z8,(Zn ZF (pv 0) (Zy (ZJ (K:=K) rfl) (by rfl) ZL PySem.boot_len (Za (Zk JF hr (Za (pv 1) Zc)) Zc)))⟩))) (ZD _)) (Zh (Zr J7)) Ya)
   (Zd (YK (PW.pt (ZcJ (Zu (U1 (K:=K) rfl hr.units) (Zk JF hr (Za (pv 2) Zc)) (Zn Jm (Zk JF hr (Za (pv 0) Zc)) (Zk JF hr (Za (pv 1) Zc))) (ZD _)) (Zaq (Zu ZhS (Zk Jh hr (Za (pv 2) Zc)) (Zn ZF (Zk Jh hr (Za (pv 0) Zc)) (Zk Jh hr (Za (pv 1) Zc))) (ZD _))))) (Zh (Zr J7)) Ya)
   (Zd (ZkA (i:=5) (j:=6) rfl Y1.nd rfl rfl (by decide) (by rfl) (by rfl) (Za (Zk Yf hr (Za (pv 0) Zc)) (Za (Zk Yf hr (Za (pv 1) Zc)) Zc)) (by rfl))
   (Zd (YK (PW.pt (ZcJ (Zu ZcL (pv 5) Zbj (ZD _)) (Zaq (Zu ZcL (pv 6) Zbj (ZD _))))) (Zh (Zr (Zce ZcL (Zk Yf hr (Za (pv 2) Zc)) Zbj (ZD _)))) Ya)
   (Zh (Zr (Zce (ZhB (K:=K) rfl hr.units) (Zk Yf hr (Za (pv 2) Zc)) (Zn Jm (pv 5) (Zk Y7 hr (Za (pv 6) (Za (Zy (ZJ (K:=K) rfl) (by rfl) ZL PySem.boot_len (Za (pv 0) Zc)) Zc)))) (ZD _))))))))))))),?_⟩
  have la:=hA.len
  have lc:=hC.len
  have sA:=Wy wA iA
  have sC:=Wy wC iC
  have wB:=Znu wA wC
  have lB:(A++C).length<=60:=by rw [List.length_append];lia
  refine ⟨_,rfl,_,rfl,a,c,xs,ys,rfl,rfl,ha,hc,by rw [sizeLine_eq];lia,fun b fb=>?_⟩
  have s0:Ze H (upd H b (.lst (xs++ys))):=Ze.laid fb
  have eb:(upd H b (.lst (xs++ys))) b=some (.lst (xs++ys)):=Zb
  obtain ⟨G0,eG0⟩:∃G0,upd H b (.lst (xs++ys))=G0:=⟨_,rfl⟩
  rw [eG0] at s0 eb ⊢
  have LB:Zs G0 (xs++ys) (A++C):=(hA.same s0).append (hC.same s0)
  have fB:=ZlI wA wC
  refine ⟨_,rfl,b,_,_,rfl,eb,LB,lB,wB.kd,fun p1 G1 f1 s1 e1=>?_⟩
  have S1:=s0.trans s1
  refine ⟨_,rfl,a,xs,A,rfl,S1 _ _ ha,hA.same S1,by lia,wA.kd,fun p2 G2 f2 s2 e2=>?_⟩
  have S2:=S1.trans s2
  refine ⟨_,rfl,c,ys,C,rfl,S2 _ _ hc,hC.same S2,by lia,wC.kd,fun p3 G3 f3 s3 e3=>?_⟩
  have S3:=S2.trans s3
  refine ⟨1,rfl,p3,_,rfl,Zo.of e3,fun q3 fq3=>?_⟩
  rw [show ZcQ ((List.range (C.length+1)).map fun (j:Nat)=>V.int (Z7 (C.take j))) (some 1) none=_ from ZcE _ 1]
  obtain ⟨G4,eG4⟩:∃G4,upd G3 q3 (.lst (((List.range (C.length+1)).map fun (j:Nat)=>V.int (Z7 (C.take j))).drop 1))=G4:=⟨_,rfl⟩
  have s4:Ze G3 G4:=by rw [<- eG4];exact Ze.laid fq3
  have eq3:G4 q3=some (.lst (((List.range (C.length+1)).map fun (j:Nat)=>V.int (Z7 (C.take j))).drop 1)):=by rw [<- eG4];exact Zb
  rw [eG4]
  refine ⟨p2,q3,_,_,rfl,rfl,s4 _ _ (s3 _ _ e2),eq3,by rw [List.length_drop,List.length_map,List.length_map,List.length_range,List.length_range,sizeLine_eq];lia,fun r3 fr3=>?_⟩
  have s5:=Ze.laid (H:=G4) (o:=.lst (((List.range (A.length+1)).map fun (j:Nat)=>V.int (Z7 (A.take j)))++(((List.range (C.length+1)).map fun (j:Nat)=>V.int (Z7 (C.take j))).drop 1))) fr3
  have bs:((List.range ((A++C).length+1)).map fun (j:Nat)=>V.int (Z7 ((A++C).take j)))=((List.range (A.length+1)).map fun (j:Nat)=>V.int (Z7 (A.take j)))++(((List.range (C.length+1)).map fun (j:Nat)=>V.int (Z7 (C.take j))).drop 1):=by
   have:=Zh0 (A:=A) (C:=C) C.length
   rw [Ub wA] at this
   simp only [Int.zero_add] at this
   rw [List.length_append,<- this,show A.length+C.length+1=A.length+1+C.length by lia]
  rw [<- bs] at s5 ⊢
  obtain ⟨G5,eG5⟩:∃G5,upd G4 r3 (.lst ((List.range ((A++C).length+1)).map fun (j:Nat)=>V.int (Z7 ((A++C).take j))))=G5:=⟨_,rfl⟩
  have er3:G5 r3=some (.lst ((List.range ((A++C).length+1)).map fun (j:Nat)=>V.int (Z7 ((A++C).take j)))):=by rw [<- eG5];exact Zb
  rw [eG5] at s5 ⊢
  have s15:=((s2.trans s3).trans s4).trans s5
  have S5:=S1.trans s15
  refine ⟨p1,r3,_,_,rfl,rfl,Zo.of (s15 _ _ e1),Zo.of er3,rfl,(fun i x y g1 g2=>by rw [g1] at g2;cases g2;rw [List.getElem?_map] at g1;obtain ⟨_,_,rfl⟩:=Option.map_eq_some_iff.mp g1;exact .flat rfl),_,rfl,Zbr ?_⟩
  have S05:=s1.trans s15
  refine ⟨_,rfl,b,_,_,rfl,S05 _ _ eb,LB.same S05,lB,wB.kd,fun p6 G6 f6 s6 e6=>?_⟩
  have S6:=S5.trans s6
  refine ⟨_,rfl,a,xs,A,rfl,S6 _ _ ha,hA.same S6,by lia,wA.kd,fun p7 G7 f7 s7 e7=>⟨p7,_,rfl,.inl (Zo.of e7),_,rfl,p6,_,rfl,Zo.of (s7 _ _ e6),fun q7 fq7=>?_⟩⟩
  rw [WW]
  have en:(((ZU (A++C) (fun x=>!decide (x = "born")) (A++C).length).map V.int).take ((ZU A (fun x=>!decide (x = "born")) A.length).map V.int).length)=(ZU A (fun x=>!decide (x = "born")) A.length).map V.int:=by
   rw [WI,List.map_append,List.take_left' rfl]
  rw [en]
  obtain ⟨G8,eG8⟩:∃G8,upd G7 q7 (.lst ((ZU A (fun x=>!decide (x = "born")) A.length).map V.int))=G8:=⟨_,rfl⟩
  have s8:Ze G7 G8:=by rw [<- eG8];exact Ze.laid fq7
  have eq7:G8 q7=some (.lst ((ZU A (fun x=>!decide (x = "born")) A.length).map V.int)):=by rw [<- eG8];exact Zb
  rw [eG8]
  have S8:=(S6.trans s7).trans s8
  refine ⟨_,rfl,a,xs,A,rfl,S8 _ _ ha,hA.same S8,by lia,wA.kd,fun p9 G9 f9 s9 e9=>?_⟩
  refine ⟨q7,p9,_,_,rfl,rfl,Zo.of (s9 _ _ eq7),Zo.of e9,rfl,UD,_,rfl,Zbr ?_⟩
  have S9:=S8.trans s9
  have S09:=(((S05.trans s6).trans s7).trans s8).trans s9
  refine ⟨_,rfl,a,xs,A,rfl,S9 _ _ ha,hA.same S9,by lia,wA,fun p10 G10 tA f10 s10 trA e10=>⟨p10,_,rfl,.inl (Zo.of e10),?_⟩⟩
  rw [List.length_map,YU]
  have S10:=S9.trans s10
  refine ⟨_,rfl,c,ys,C,rfl,S10 _ _ hc,hC.same S10,by lia,wC,fun R G11 rs f11 s11 e11 rv _ _=>⟨R,rfl,⟨_,Zo.of e11⟩,Y9 (K:=K) (a:=R) (xs:=rs) (by rw [rv.len];unfold rowsOf;rw [List.length_map,List.length_range,sizeLine_eq];lia) (fun m zs G=>Ze G11 G/\ZV G zs (((rowsOf C (C.length+1)).take m).map (List.map (· + (ZZ A:Int))))) ⟨Ze.refl _,.nil⟩ (fun m zs G ⟨_,z⟩=>by rw [z.len,List.length_map,List.length_take];exact Nat.min_le_left _ _) (fun m zs G ⟨s',_⟩=>Zo.of (s' _ _ e11)) ?_ ?_⟩⟩
  ·rintro m x zs G hx ⟨sg,rz⟩
   obtain ⟨pr,r,hr1,rfl,hpr⟩:=rv.atX hx
   have lr:r.length<=900:=by
    have hm:=(List.getElem?_eq_some_iff.mp hr1).1
    have e:(rowsOf C (C.length+1))[m]? = some (rowAt C m):=ZdR C (by unfold rowsOf at hm;simpa using hm)
    rw [e] at hr1
    cases hr1
    obtain ⟨m',hm'⟩:=YS wC m
    have z1:=YQ hm'
    have z2:=ZhD hm'
    rw [List.length_take] at z2
    unfold rowAt
    lia
   refine lcG ?_
   refine ⟨_,rfl,pr,rfl,⟨_,Zo.of (sg _ _ hpr)⟩,Y9 (K:=K) (a:=pr) (xs:=r.map V.int) (by rw [List.length_map,sizeLine_eq];lia) (fun i zs G2=>Ze G G2/\zs=((r.take i).map (· + (ZZ A:Int))).map V.int) ⟨Ze.refl _,rfl⟩ (fun i zs G2 ⟨_,z⟩=>by rw [z,List.length_map,List.length_map,List.length_take];exact Nat.min_le_left _ _) (fun i zs G2 ⟨s2,_⟩=>Zo.of (s2 _ _ (sg _ _ hpr))) ?_ ?_⟩
   ·rintro i x zs G2 hx ⟨s2,rfl⟩
    obtain ⟨n,hn,rfl⟩:=Yc hx
    refine lcG ?_
    refine ⟨_,rfl,_,rfl,_,_,rfl,rfl,s2,?_⟩
    rw [List.take_add_one,hn]
    simp
   ·rintro zs2 G2 ⟨s2,rfl⟩ D hD
    rw [List.length_map,List.take_of_length_le (Nat.le_refl _)]
    refine ⟨(sg.trans s2).trans (Ze.laid hD),?_⟩
    rw [Yu _ hr1]
    exact ZV.snoc (rz.same (s2.trans (Ze.laid hD))) Zb
  rintro zs G ⟨sg,rz⟩ D hD
  rw [rv.len,List.take_of_length_le (Nat.le_refl _)] at rz
  obtain ⟨G12,eG12⟩:∃G12,upd G D (.lst zs)=G12:=⟨_,rfl⟩
  have s12:Ze G11 G12:=by rw [<- eG12];exact sg.trans (Ze.laid hD)
  have eD:G12 D=some (.lst zs):=by rw [<- eG12];exact Zb
  have rz12:ZV G12 zs ((rowsOf C (C.length+1)).map (List.map (· + (ZZ A:Int)))):=by rw [<- eG12];exact rz.same (Ze.laid hD)
  rw [eG12]
  have S12:=(S10.trans s11).trans s12
  have S012:=((S09.trans s10).trans s11).trans s12
  refine ⟨_,rfl,b,_,_,rfl,S012 _ _ eb,LB.same S012,lB,wB,fun R2 G13 rs2 f13 s13 e13 rv2 _ _=>?_⟩
  have S13:=S12.trans s13
  refine ⟨_,rfl,a,xs,A,rfl,S13 _ _ ha,hA.same S13,by lia,wA,fun R3 G14 rs3 f14 s14 e14 rv3 _ _=>?_⟩
  have eD14:=s14 _ _ (s13 _ _ eD)
  refine ⟨_,rfl,1,rfl,D,_,rfl,Zo.of eD14,fun q14 fq14=>?_⟩
  rw [show ZcQ zs (some 1) none=_ from ZcE _ 1]
  obtain ⟨G15,eG15⟩:∃G15,upd G14 q14 (.lst (zs.drop 1))=G15:=⟨_,rfl⟩
  have s15':Ze G14 G15:=by rw [<- eG15];exact Ze.laid fq14
  have eq14:G15 q14=some (.lst (zs.drop 1)):=by rw [<- eG15];exact Zb
  rw [eG15]
  have lz:=rz12.len
  have l3:=rv3.len
  have l2:=rv2.len
  have lro:∀(ls:List (Str×Int)) n,(rowsOf ls n).length=n:=fun ls n=>by unfold rowsOf;rw [List.length_map,List.length_range]
  rw [List.length_map,lro] at lz
  rw [lro] at l3 l2
  refine ⟨R3,q14,_,_,rfl,rfl,s15' _ _ e14,eq14,by rw [List.length_drop,sizeLine_eq];lia,fun r15 fr15=>?_⟩
  obtain ⟨G16,eG16⟩:∃G16,upd G15 r15 (.lst (rs3++zs.drop 1))=G16:=⟨_,rfl⟩
  have s16:Ze G15 G16:=by rw [<- eG16];exact Ze.laid fr15
  have er15:G16 r15=some (.lst (rs3++zs.drop 1)):=by rw [<- eG16];exact Zb
  rw [eG16]
  have s1316:=(s14.trans s15').trans s16
  have rowsB:ZV G16 (rs3++zs.drop 1) (rowsOf (A++C) ((A++C).length+1)):=by
   have:=Zfc wA wC C.length
   rw [show A.length+1+C.length=(A++C).length+1 by rw [List.length_append];lia] at this
   rw [this]
   exact Zfn (rv3.same (s15'.trans s16)) (Zia (rz12.same (s13.trans s1316)))
  refine ⟨R2,r15,_,_,rfl,rfl,Zo.of (s1316 _ _ e13),Zo.of er15,by rw [rowsB.len,l2,lro],Zkm (rv2.same s1316) rowsB,_,rfl,Zbr ?_⟩
  have S16:=S13.trans s1316
  have S016:=(S012.trans s13).trans s1316
  refine ⟨_,rfl,b,_,_,rfl,S016 _ _ eb,LB.same S016,lB,wB,fun p17 G17 tB f17 s17 trB e17=>?_⟩
  have S17:=S16.trans s17
  refine ⟨_,rfl,a,xs,A,rfl,S17 _ _ ha,hA.same S17,by lia,wA,fun p18 G18 tA2 f18 s18 trA2 e18=>?_⟩
  have S18:=S17.trans s18
  refine ⟨_,rfl,c,ys,C,rfl,S18 _ _ hc,hC.same S18,by lia,wC,fun p19 G19 tC f19 s19 trC e19=>⟨p19,rfl,⟨_,Zo.of e19⟩,Y9 (K:=K) (a:=p19) (xs:=(tab (ZZ C) (ixT tC)).map V.int) (by have:=Jv (ls:=C) (by lia);rw [List.length_map,YU,sizeLine_eq];lia) (fun m zs G=>Ze G19 G/\zs=(((tab (ZZ C) (ixT tC)).take m).map (· + (tA.length:Int))).map V.int) ⟨Ze.refl _,rfl⟩ (fun m zs G ⟨_,z⟩=>by rw [z,List.length_map,List.length_map,List.length_take];exact Nat.min_le_left _ _) (fun m zs G ⟨s',_⟩=>Zo.of (s' _ _ e19)) ?_ ?_⟩⟩
  ·rintro m x zs G hx ⟨sg,rfl⟩
   obtain ⟨n,hn,rfl⟩:=Yc hx
   have SG:=(S18.trans s19).trans sg
   refine lcG ?_
   refine ⟨_,rfl,_,rfl,a,xs,A,rfl,SG _ _ ha,hA.same SG,by lia,wA,fun p20 G20 tA3 f20 s20 trA3 e20=>⟨p20,_,rfl,.inl (Zo.of e20),_,_,rfl,rfl,sg.trans s20,?_⟩⟩
   rw [List.length_map,List.length_map,trA3.uniq trA,List.take_add_one,hn]
   simp
  rintro zs4 G ⟨sg,rfl⟩ D2 hD2
  rw [List.length_map,List.take_of_length_le (Nat.le_refl _)]
  obtain ⟨G20,eG20⟩:∃G20,upd G D2 (.lst (((tab (ZZ C) (ixT tC)).map (· + (tA.length:Int))).map V.int))=G20:=⟨_,rfl⟩
  have s20:Ze G19 G20:=by rw [<- eG20];exact sg.trans (Ze.laid hD2)
  have eD2:G20 D2=some (.lst (((tab (ZZ C) (ixT tC)).map (· + (tA.length:Int))).map V.int)):=by rw [<- eG20];exact Zb
  rw [eG20]
  have n1:=Jv (ls:=A) (by lia)
  have n2:=Jv (ls:=C) (by lia)
  refine ⟨p18,D2,_,_,rfl,rfl,s20 _ _ (s19 _ _ e18),eD2,by rw [List.length_map,List.length_map,List.length_map,YU,YU,sizeLine_eq];lia,fun r20 fr20=>?_⟩
  have bt:=Zma wA wC trA trC trB
  rw [<- List.map_append,trA2.uniq trA,<- bt]
  obtain ⟨G21,eG21⟩:∃G21,upd G20 r20 (.lst ((tab (ZZ (A++C)) (ixT tB)).map V.int))=G21:=⟨_,rfl⟩
  have s21:Ze G20 G21:=by rw [<- eG21];exact Ze.laid fr20
  have er20:G21 r20=some (.lst ((tab (ZZ (A++C)) (ixT tB)).map V.int)):=by rw [<- eG21];exact Zb
  rw [eG21]
  have s1721:=((s18.trans s19).trans s20).trans s21
  refine ⟨p17,r20,_,_,rfl,rfl,Zo.of (s1721 _ _ e17),Zo.of er20,rfl,UD,_,rfl,Zbr ?_⟩
  have S21:=S17.trans s1721
  have S021:=(S016.trans s17).trans s1721
  obtain ⟨_,bt2,bt3,_⟩:=Zg4 wA wC trA trC trB
  refine ⟨_,rfl,b,_,_,rfl,S021 _ _ eb,LB.same S021,lB,wB,fun p22 G22 tB2 f22 s22 trB2 e22=>?_⟩
  have S22:=S21.trans s22
  refine ⟨_,rfl,a,xs,A,rfl,S22 _ _ ha,hA.same S22,by lia,wA,fun p23 G23 tA4 f23 s23 trA4 e23=>?_⟩
  have S23:=S22.trans s23
  refine ⟨_,rfl,c,ys,C,rfl,S23 _ _ hc,hC.same S23,by lia,wC,fun p24 G24 tC2 f24 s24 trC2 e24=>?_⟩
  rw [trB2.uniq trB,bt2] at e22
  rw [trA4.uniq trA] at e23
  rw [trC2.uniq trC] at e24
  have lA:=trA.len (Yh wA) (Int.le_refl _)
  have lC:=trC.len (Yh wC) (Int.le_refl _)
  refine ⟨p23,p24,_,_,rfl,rfl,s24 _ _ e23,e24,by rw [List.length_map,List.length_map,List.length_map,List.length_map,sizeLine_eq];lia,fun r24 fr24=>?_⟩
  rw [<- List.map_append]
  obtain ⟨G25,eG25⟩:∃G25,upd G24 r24 (.lst ((tA.map (GS (Wh (YI A)))++tC.map (GS (Wh (YI C)))).map V.int))=G25:=⟨_,rfl⟩
  have s25:Ze G24 G25:=by rw [<- eG25];exact Ze.laid fr24
  have er24:G25 r24=some (.lst ((tA.map (GS (Wh (YI A)))++tC.map (GS (Wh (YI C)))).map V.int)):=by rw [<- eG25];exact Zb
  rw [eG25]
  have s2225:=(s23.trans s24).trans s25
  refine ⟨p22,r24,_,_,rfl,rfl,Zo.of (s2225 _ _ e22),Zo.of er24,rfl,UD,_,rfl,Zbr ?_⟩
  have S25:=S22.trans s2225
  have S025:=(S021.trans s22).trans s2225
  refine ⟨_,rfl,b,_,_,rfl,S025 _ _ eb,LB.same S025,lB,wB,fun G26 tB3 s26 trB3=>?_⟩
  have S26:=S25.trans s26
  refine ⟨_,rfl,a,xs,A,rfl,S26 _ _ ha,hA.same S26,by lia,wA,fun G27 tA5 s27 trA5=>?_⟩
  have S27:=S26.trans s27
  refine ⟨_,rfl,c,ys,C,rfl,S27 _ _ hc,hC.same S27,by lia,wC,fun G28 tC3 s28 trC3=>?_⟩
  rw [trB3.uniq trB,trA5.uniq trA,trC3.uniq trC,bt3]
  refine ⟨_,_,rfl,rfl,rfl,_,rfl,YJ (fun z=>absurd z (by simp)) (fun _=>?_)⟩
  have S28:=S27.trans s28
  have S028:=((S025.trans s26).trans s27).trans s28
  have nB1:¬Jc A A.length -> ¬Jc (A++C) (A++C).length:=fun z y=>z (fB.mp y).1
  have nB2:¬Jc C C.length -> ¬Jc (A++C) (A++C).length:=fun z y=>z (fB.mp y).2
  refine ⟨_,rfl,a,xs,A,rfl,S28 _ _ ha,hA.same S28,wA,iA,by lia,(fun fwA p29 G29 es f29 s29 e29 le29 ds29=>?_),(fun nfA G29 s29=>?_)⟩
  ·have S29:=S28.trans s29
   refine ⟨_,rfl,c,ys,C,rfl,S29 _ _ hc,hC.same S29,wC,iC,by lia,(fun fwC p30 G30 es2 f30 s30 e30 le30 ds30=>?_),(fun nfC G30 s30=>?_)⟩
   ·have S030:=(S028.trans s29).trans s30
    refine ⟨_,_,rfl,?_⟩
    refine ⟨_,rfl,rfl,_,rfl,YJ (fun z=>absurd z (by simp)) fun _=>?_⟩
    refine ⟨_,rfl,rfl,_,rfl,YJ (fun z=>absurd z (by simp)) fun _=>?_⟩
    refine ⟨_,rfl,b,_,_,rfl,S030 _ _ eb,LB.same S030,wB,iB,lB,(fun fwB p31 G31 es3 f31 s31 e31 le31 ds31=>?_),fun nf=>absurd (fB.mpr ⟨fwA,fwC⟩) nf⟩
    have S031:=S030.trans s31
    have aA:=J0 (s30.trans s31) (ZfB le29 ds29)
    have aC:=J0 s31 (ZfB le30 ds30)
    have aB:=ZfB le31 ds31
    rw [ZnB wA wC] at aB
    refine ⟨_,rfl,_,rfl,_,rfl,a,xs,rfl,.inl (Zo.of (S031 _ _ (s0 _ _ ha))),?_⟩
    refine ⟨p30,_,es2,_,rfl,s31 _ _ e30,aC,Zkx wC iC (by lia) fwC,fun p32 G32 fs f32 s32 e32 aM=>?_⟩
    rw [la] at aM
    have l1:=aA.1
    have l2':=aM.1
    rw [List.length_map] at l1
    rw [List.length_map,List.length_map] at l2'
    have q1:(WQ A).length<=A.length:=Jk _ _ _
    have q2:(WQ C).length<=C.length:=Jk _ _ _
    refine ⟨p29,p32,_,_,rfl,rfl,s32 _ _ (s31 _ _ (s30 _ _ e29)),e32,by rw [List.length_map,List.length_map,sizeLine_eq];lia,fun r33 fr33=>?_⟩
    rw [<- List.map_append]
    have s33:Ze G32 (upd G32 r33 (.lst ((es++fs).map V.ref))):=Ze.laid fr33
    have aAM:=J0 s33 (Zlv (J0 s32 aA) aM)
    refine ⟨p31,r33,_,_,rfl,rfl,Zo.of (s33 _ _ (s32 _ _ e31)),Zo.of Zb,by rw [List.length_map,List.length_map,aB.1,aAM.1],ZhW (J0 (s32.trans s33) aB) aAM,?_⟩
    exact k _ (((s0.trans S031).trans s32).trans s33)
   ·have S030:=(S028.trans s29).trans s30
    refine ⟨_,_,rfl,?_⟩
    refine ⟨_,rfl,rfl,_,rfl,YJ (fun z=>absurd z (by simp)) fun _=>?_⟩
    refine ⟨_,rfl,rfl,_,rfl,Ul ?_⟩
    exact ⟨_,rfl,b,_,_,rfl,S030 _ _ eb,LB.same S030,wB,iB,lB,fun fw=>absurd fw (nB2 nfC),fun _ G' s'=>⟨rfl,k G' ((s0.trans S030).trans s')⟩⟩
  ·have S29:=S28.trans s29
   refine ⟨_,rfl,c,ys,C,rfl,S29 _ _ hc,hC.same S29,wC,iC,by lia,(fun fwC p30 G30 es2 f30 s30 e30 le30 ds30=>?_),(fun nfC G30 s30=>?_)⟩
   all_goals
    have S030:=(S028.trans s29).trans s30
    refine ⟨_,_,rfl,?_⟩
    refine ⟨_,rfl,rfl,_,rfl,Ul (Ul ?_)⟩
    exact ⟨_,rfl,b,_,_,rfl,S030 _ _ eb,LB.same S030,wB,iB,lB,fun fw=>absurd fw (nB1 nfA),fun _ G' s'=>⟨rfl,k G' ((s0.trans S030).trans s')⟩⟩
theorem Zbo {H:Hp}{xs:List V}{ls:List (Str×Int)} (h:Zs H xs ls):∀t,Zs H (xs.take t) (ls.take t):=by
 induction h with
 | nil=>intro t;rw [List.take_nil,List.take_nil];exact .nil
 | cons a _ ih=>
  intro t
  cases t with
  | zero=>exact .nil
  | succ n=>exact .cons a (ih n)
theorem Zh7 {H:Hp}{xs:List V}{ls:List (Str×Int)} (h:Zs H xs ls):∀t,Zs H (xs.drop t) (ls.drop t):=by
 induction h with
 | nil=>intro t;rw [List.drop_nil,List.drop_nil];exact .nil
 | cons a b ih=>
  intro t
  cases t with
  | zero=>exact .cons a b
  | succ n=>exact ih n
theorem Zlh:∀{a b:List Int},a.Perm b->a.Pairwise (· <= ·)->b.Pairwise (· <= ·)->a=b:=fun {a b} h h1 h2=>h.eq_of_pairwise (fun x y _ _ p q=>Int.le_antisymm p q) h1 h2
theorem ZkR {ls:List (Str×Int)} (hW:Wk ls 0) (h:InB ls):ZZ ls<=16:=by
 have l:=ZhX hW
 have a:=h.2.1
 rw [JW] at a
 have e:(YI ls).length=cnt "end" ls:=by
  unfold YI WR
  rw [List.length_map]
  exact JW "end" ls
 unfold ZZ
 lia
theorem Zl2 {G:Hp}{es:List Addr}{As:List WS} (h:DsA G es As) (a b:Nat):DsA G ((es.take b).drop a) ((As.take b).drop a):=by
 refine ⟨by rw [List.length_drop,List.length_drop,List.length_take,List.length_take,h.1],fun j e A h1 h2=>?_⟩
 rw [List.getElem?_drop,List.getElem?_take] at h1 h2
 split at h1
 ·rename_i c
  rw [if_pos c] at h2
  exact h.2 _ e A h1 h2
 ·cases h1
section
variable {P I R:List (Str×Int)}{k:Nat}{n:Int}
theorem Zeq:WQ (P++sh k I++R)=WQ P++(WQ I).map (· + (P.length:Int))++(WQ R).map (· + ((P++sh k I).length:Int)):=by
 unfold WQ
 rw [WI,WI,WC,Zeb]
theorem ZlS {m:Nat}{x:Int} (h:(WQ (P++sh k I++R))[m]? = some x):((P.length:Int)<=x/\x<(P.length:Int)+(I.length:Int)) ↔ ((WQ P).length<=m/\m<(WQ P).length+(WQ I).length):=by
 rw [Zeq] at h
 have l2:((WQ I).map (· + (P.length:Int))).length=(WQ I).length:=List.length_map _
 by_cases c1:m<(WQ P).length
 ·rw [List.append_assoc,List.getElem?_append_left c1] at h
  obtain ⟨a,p,rfl,ha,_,_⟩:=Zay h
  lia
 ·by_cases c2:m<(WQ P).length+(WQ I).length
  ·rw [List.append_assoc,List.getElem?_append_right (by lia),List.getElem?_append_left (by lia),List.getElem?_map] at h
   obtain ⟨y,hy,rfl⟩:=Option.map_eq_some_iff.mp h
   obtain ⟨a,p,rfl,ha,_,_⟩:=Zay hy
   lia
  ·rw [List.getElem?_append_right (by rw [List.length_append];lia),List.getElem?_map] at h
   obtain ⟨y,hy,rfl⟩:=Option.map_eq_some_iff.mp h
   obtain ⟨a,p,rfl,ha,_,_⟩:=Zay hy
   rw [List.length_append,WC]
   lia
theorem GF.ds (h:GF P I R k n):((((WQ (P++sh k I++R)).map fun t=>dW (P++sh k I++R) t.toNat).take ((WQ P).length+(WQ I).length)).drop (WQ P).length)=((WQ I).map fun t=>dW I t.toNat).map (Uk P.length):=by
 rw [Zeq,List.map_append,List.map_append,List.map_map,List.map_map,List.take_append_of_le_length (by simp),List.take_of_length_le (by simp),List.drop_left' (by simp),List.map_map]
 refine List.map_congr_left fun t ht=>?_
 obtain ⟨a,p,rfl,ha,hp,hk⟩:=W7 ht
 show dW _ ((a:Int)+(P.length:Int)).toNat=Uk P.length (dW I (a:Int).toNat)
 rw [show ((a:Int)+(P.length:Int)).toNat=P.length+a by lia,Int.toNat_natCast]
 exact h.deed hp (by simpa using hk)
end
def ZcO:Sp:=fun vs H Q _=>∃(i o:Addr) (t k:Nat) (xs ys:List V) (I O:List (Str×Int)),vs = [.ref i,.ref o,.int (t:Int),.int (k:Int)]/\H i=some (.lst xs)/\Zs H xs I/\H o=some (.lst ys)/\Zs H ys O/\Wk I 0/\Wk O 0/\InB I/\t<=O.length/\(k:Int)<=Z7 (O.take t)/\InB (O.take t++sh k I++O.drop t)/\InB O /\ ∀H',Ze H H'->Q (.bl true) H'
abbrev Ji:Stmt:=top 49
theorem Jx:Zp ["_law_one", "_law_other", "_law_t", "_law_k", "_law_both", "_law_inner", "_law_whole", "_law_found"] ["_law_one", "_law_other", "_law_t", "_law_k"] (Zi Ji):={}
theorem ZiM {f:Addr}{fd:FuncData} (F:Ym K "_law_within" "_law_within" Ji f fd) (Yk:Yi P w K mg base 1 "names_of" ["drawing"] (WH fun x=>!decide (x = "born"))) (JF:Yi P w K mg base 6 "turns" ["drawing"] Zb2) (Jh:Yi P w K mg base 7 "twists" ["drawing"] ZaQ)
  (Yf:Yi P w K mg base 8 "_law_told" ["_law_drawing_here"] ZeC) (Y7:Yi P w K mg base 1 "_law_moved" ["_law_sums", "_law_many_here"] Zcb) (ZL:mg "len" = none) (Jf:mg "sorted" = none) (Zdz:mg "zip" = none):ZX P w K mg base J4 9 f fd ["_law_one", "_law_other", "_law_t", "_law_k"] ZcO:=by
 refine F.ok Jx (fun vs H Q E h=>?_) (fun cdv A outer s H vs Q E hr h=>?_)
 ·obtain ⟨i,o,t,k,xs,ys,I,O,rfl,_⟩:=h
  rfl
 ·obtain ⟨i,o,t,k,xs,ys,I,O,rfl,hi,hI,ho,hO,wI,wO,iI,ht,hk,iB,iO,kk⟩:=h
  refine ⟨_,(Zd (Zq (i:=4) Jx.nd rfl (Or.inl rfl) (Zn Jm (Zn Jm (Yp (Yq (K:=K) rfl) (pv 1) YT (Z9 (pv 2))) (Gy (Ls:=["_law_word", "_law_at"]) (Fs:=["_law_k"]) (fi:=[3]) (ZO.of (show Yn ["_law_one", "_law_other", "_law_t", "_law_k", "_law_both", "_law_inner", "_law_whole", "_law_found"] (Zi Ji) _ ["_law_k"] [3]=true by decide +kernel)) rfl (ZC (K:=K) rfl (pv 0)) (fun cl C s3 H3 ex=>⟨(Yx (K:=K) (n:=2) rfl rfl (Zx (Zm (i:=0) (show ((["_law_word", "_law_at"]:List Str)++(["_law_k"]:List Str)).Nodup by decide +kernel) rfl (Or.inl rfl)) (Zx (Zm (i:=1) (show ((["_law_word", "_law_at"]:List Str)++(["_law_k"]:List Str)).Nodup by decide +kernel) rfl (Or.inl rfl)) Yy))),Z8,(JP (Za (pv 0) (Za (Zn ZF (pv 2) (pv 1)) Zc)))⟩))) (Yp (Yq (K:=K) rfl) (pv 1) (Z9 (pv 2)) YT)))
   (Zd (YK (PW.pt (ZcJ (Zu (U1 (K:=K) rfl hr.units) (Zy (ZaF (K:=K) rfl) (by rfl) Jf boot_sorted (Za (Zk JF hr (Za (pv 4) Zc)) Zc)) (Zy (ZaF (K:=K) rfl) (by rfl) Jf boot_sorted (Za (Zn Jm (Zk JF hr (Za (pv 0) Zc)) (Zk JF hr (Za (pv 1) Zc))) Zc)) (ZD _)) (Zaq (Zu ZhS (Zk Jh hr (Za (pv 4) Zc)) (Zn ZF (Zk Jh hr (Za (pv 0) Zc)) (Zk Jh hr (Za (pv 1) Zc))) (ZD _))))) (Zh (Zr J7)) Ya)
   (Zd (ZkA (i:=5) (j:=6) rfl Jx.nd rfl rfl (by decide) (by rfl) (by rfl) (Za (Zk Yf hr (Za (pv 0) Zc)) (Za (Zk Yf hr (Za (pv 4) Zc)) Zc)) (by rfl))
   (Zd (YK (PW.pt (ZcJ (Zu ZcL (pv 5) Zbj (ZD _)) (Zaq (Zu ZcL (pv 6) Zbj (ZD _))))) (Zh (Zr J7)) Ya)
   (Zd (Zad (i:=7) Jx.nd rfl (Or.inl rfl) (Ls:=["_law_name", "_law_deed"]) (Fs:=["_law_t", "_law_one"]) (fi:=[2,0]) (ZO.of (show Yn ["_law_one", "_law_other", "_law_t", "_law_k", "_law_both", "_law_inner", "_law_whole", "_law_found"] (Zi Ji) _ ["_law_t", "_law_one"] [2,0]=true by decide +kernel)) rfl (ZhO (K:=K) rfl (by rfl) Zdz (Za (Zk Yk hr (Za (pv 4) Zc)) (Za (pv 6) Zc))) (fun cl C s3 H3 ex=>⟨(Yx (K:=K) (n:=2) rfl rfl (Zx (Zm (i:=0) (show ((["_law_name", "_law_deed"]:List Str)++(["_law_t", "_law_one"]:List Str)).Nodup by decide +kernel) rfl (Or.inl rfl)) (Zx (Zm (i:=1) (show ((["_law_name", "_law_deed"]:List Str)++(["_law_t", "_law_one"]:List Str)).Nodup by decide +kernel) rfl (Or.inl rfl)) Yy))),(Zd4 (Zkj ZoK Zc5 (pv 2) (pv 0) (Zn ZF (pv 2) (Zy (ZJ (K:=K) rfl) (by rfl) ZL PySem.boot_len (Za (pv 3) Zc))))),(pv 1)⟩))
   (Zh (Zr (Zce (ZhB (K:=K) rfl hr.units) (pv 7) (Zk Y7 hr (Za (pv 5) (Za (pv 2) Zc))) (ZD _))))))))),?_⟩
  have li:=hI.len
  have lo:=hO.len
  have sI:=Wy wI iI
  have lO:=Wy wO iO
  obtain ⟨n,hn⟩:=YS wO t
  have en:=Ub hn
  have st:GF (O.take t) I (O.drop t) k n:=⟨hn,by lia,wI,by rw [List.take_append_drop];exact wO⟩
  have wB:=st.b
  have lP:(O.take t).length=t:=by rw [List.length_take];lia
  refine ⟨_,rfl,_,rfl,_,rfl,o,ys,rfl,Zo.of ho,fun c1 fc1=>?_⟩
  rw [WW]
  obtain ⟨G1,eG1⟩:∃G1,upd H c1 (.lst (ys.take t))=G1:=⟨_,rfl⟩
  have s1:Ze H G1:=by rw [<- eG1];exact Ze.laid fc1
  have ec1:G1 c1=some (.lst (ys.take t)):=by rw [<- eG1];exact Zb
  rw [eG1]
  refine ⟨_,rfl,i,rfl,⟨_,Zo.of (s1 _ _ hi)⟩,Y9 (K:=K) (a:=i) (xs:=xs) (by rw [sizeLine_eq];lia) (fun m zs G=>Ze G1 G/\Zs G zs (sh k (I.take m))) ⟨Ze.refl _,.nil⟩ (fun m zs G ⟨_,z⟩=>by rw [z.len,WC,List.length_take];exact Nat.min_le_left _ _) (fun m zs G ⟨s',_⟩=>Zo.of (s' _ _ (s1 _ _ hi))) ?_ ?_⟩
  ·rintro m x zs G hx ⟨sg,lz⟩
   obtain ⟨⟨qx,qk⟩,tq,hq,rfl,htq⟩:=hI.get hx
   refine ⟨tq,_,rfl,WT.of (sg _ _ (s1 _ _ htq)),rfl,_,_,rfl,_,_,rfl,rfl,?_⟩
   dsimp only [Us]
   refine Ul ?_
   refine ⟨_,rfl,_,rfl,_,rfl,_,_,rfl,rfl,(by show 2<=sizeLine;decide),fun d fd=>⟨sg.step fd,?_⟩⟩
   rw [List.take_add_one,hq]
   show Zs _ _ (sh k (I.take m ++ [(qx,qk)]))
   rw [Y3]
   exact Zs.snoc (lz.same (Ze.laid fd)) Zb
  rintro zs G ⟨sg,lz⟩ D hD
  rw [li,List.take_of_length_le (Nat.le_refl _)] at lz
  obtain ⟨G2,eG2⟩:∃G2,upd G D (.lst zs)=G2:=⟨_,rfl⟩
  have s2:Ze G1 G2:=by rw [<- eG2];exact sg.trans (Ze.laid hD)
  have eD:G2 D=some (.lst zs):=by rw [<- eG2];exact Zb
  have lz2:Zs G2 zs (sh k I):=by rw [<- eG2];exact lz.same (Ze.laid hD)
  rw [eG2]
  have lzz:=lz2.len
  rw [WC] at lzz
  refine ⟨c1,D,_,_,rfl,rfl,s2 _ _ ec1,eD,by rw [List.length_take,sizeLine_eq];lia,fun c3 fc3=>?_⟩
  obtain ⟨G3,eG3⟩:∃G3,upd G2 c3 (.lst (ys.take t++zs))=G3:=⟨_,rfl⟩
  have s3:Ze G2 G3:=by rw [<- eG3];exact Ze.laid fc3
  have ec3:G3 c3=some (.lst (ys.take t++zs)):=by rw [<- eG3];exact Zb
  rw [eG3]
  have S3:=(s1.trans s2).trans s3
  refine ⟨_,rfl,_,rfl,_,rfl,o,ys,rfl,Zo.of (S3 _ _ ho),fun c4 fc4=>?_⟩
  rw [ZcE]
  obtain ⟨G4,eG4⟩:∃G4,upd G3 c4 (.lst (ys.drop t))=G4:=⟨_,rfl⟩
  have s4:Ze G3 G4:=by rw [<- eG4];exact Ze.laid fc4
  have ec4:G4 c4=some (.lst (ys.drop t)):=by rw [<- eG4];exact Zb
  rw [eG4]
  refine ⟨c3,c4,_,_,rfl,rfl,s4 _ _ ec3,ec4,by rw [List.length_append,List.length_take,List.length_drop,sizeLine_eq];lia,fun b fb=>?_⟩
  obtain ⟨G5,eG5⟩:∃G5,upd G4 b (.lst (ys.take t++zs++ys.drop t))=G5:=⟨_,rfl⟩
  have s5:Ze G4 G5:=by rw [<- eG5];exact Ze.laid fb
  have eb:G5 b=some (.lst (ys.take t++zs++ys.drop t)):=by rw [<- eG5];exact Zb
  rw [eG5]
  have S5:=(S3.trans s4).trans s5
  have LB:Zs G5 (ys.take t++zs++ys.drop t) (O.take t++sh k I++O.drop t):=((Zbo (hO.same S5) t).append (lz2.same ((s3.trans s4).trans s5))).append (Zh7 (hO.same S5) t)
  have lB:(O.take t++sh k I++O.drop t).length<=60:=by have:=Wy wB iB;lia
  refine ⟨_,rfl,b,_,_,rfl,eb,LB,lB,wB,fun p6 G6 tB f6 s6 trB e6=>?_⟩
  have nB:=trB.len (Yh wB) (Int.le_refl _)
  have nB16:=ZkR wB iB
  refine ⟨p6,_,rfl,Zo.of e6,by rw [List.length_map];lia,fun l7 ns7 f7 pm7 pw7=>?_⟩
  obtain ⟨G7,eG7⟩:∃G7,upd G6 l7 (.lst (ns7.map V.int))=G7:=⟨_,rfl⟩
  have s7:Ze G6 G7:=by rw [<- eG7];exact Ze.laid f7
  have e7:G7 l7=some (.lst (ns7.map V.int)):=by rw [<- eG7];exact Zb
  rw [eG7]
  have s57:=s6.trans s7
  have S7:=S5.trans s57
  refine ⟨_,rfl,i,xs,I,rfl,S7 _ _ hi,hI.same S7,by lia,wI,fun p8 G8 tI f8 s8 trI e8=>?_⟩
  have S8:=S7.trans s8
  refine ⟨_,rfl,o,ys,O,rfl,S8 _ _ ho,hO.same S8,by lia,wO,fun p9 G9 tO f9 s9 trO e9=>?_⟩
  have nI:=trI.len (Yh wI) (Int.le_refl _)
  have nO:=trO.len (Yh wO) (Int.le_refl _)
  have nI16:=ZkR wI iI
  have nO16:=ZkR wO iO
  obtain ⟨⟨t1,t2,q1,_,_,q4⟩,q5⟩:=st.all (tO:=tO) (tI:=tI) (tB:=tB) (by rw [List.take_append_drop];exact trO) trI trB
  rw [List.take_append_drop] at q4 q5
  refine ⟨p8,p9,_,_,rfl,rfl,s9 _ _ e8,e9,by rw [List.length_map,List.length_map,List.length_map,List.length_map,sizeLine_eq];lia,fun r9 fr9=>?_⟩
  rw [<- List.map_append]
  obtain ⟨G10,eG10⟩:∃G10,upd G9 r9 (.lst ((tI.map (GS (Wh (YI I)))++tO.map (GS (Wh (YI O)))).map V.int))=G10:=⟨_,rfl⟩
  have s10:Ze G9 G10:=by rw [<- eG10];exact Ze.laid fr9
  have er9:G10 r9=some (.lst ((tI.map (GS (Wh (YI I)))++tO.map (GS (Wh (YI O)))).map V.int)):=by rw [<- eG10];exact Zb
  rw [eG10]
  refine ⟨r9,_,rfl,Zo.of er9,by rw [List.length_append,List.length_map,List.length_map];lia,fun l11 ns11 f11 pm11 pw11=>?_⟩
  have en7:ns11=ns7:=by
   refine Zlh (pm11.trans (List.Perm.trans ?_ pm7.symm)) pw11 pw7
   rw [q4,q1,List.map_append,<- List.append_assoc]
   exact List.Perm.append_right _ List.perm_append_comm
  rw [en7]
  obtain ⟨G11,eG11⟩:∃G11,upd G10 l11 (.lst (ns7.map V.int))=G11:=⟨_,rfl⟩
  have s11:Ze G10 G11:=by rw [<- eG11];exact Ze.laid f11
  have e11:G11 l11=some (.lst (ns7.map V.int)):=by rw [<- eG11];exact Zb
  rw [eG11]
  have s711:=((s8.trans s9).trans s10).trans s11
  refine ⟨l7,l11,_,_,rfl,rfl,Zo.of (s711 _ _ e7),Zo.of e11,rfl,UD,_,rfl,Zbr ?_⟩
  have S11:=S7.trans s711
  have S511:=s57.trans s711
  refine ⟨_,rfl,b,_,_,rfl,S511 _ _ eb,LB.same S511,lB,wB,fun G12 tB2 s12 trB2=>?_⟩
  have S12:=S11.trans s12
  refine ⟨_,rfl,i,xs,I,rfl,S12 _ _ hi,hI.same S12,by lia,wI,fun G13 tI2 s13 trI2=>?_⟩
  have S13:=S12.trans s13
  refine ⟨_,rfl,o,ys,O,rfl,S13 _ _ ho,hO.same S13,by lia,wO,fun G14 tO2 s14 trO2=>?_⟩
  rw [trB2.uniq trB,trI2.uniq trI,trO2.uniq trO,q5]
  refine ⟨_,_,rfl,rfl,rfl,_,rfl,YJ (fun z=>absurd z (by simp)) (fun _=>?_)⟩
  have S14:=S13.trans s14
  have S514:=((S511.trans s12).trans s13).trans s14
  refine ⟨_,rfl,i,xs,I,rfl,S14 _ _ hi,hI.same S14,wI,iI,by lia,(fun fwI p15 G15 es f15 s15 e15 le15 ds15=>?_),(fun nfI G15 s15=>?_)⟩
  ·have S515:=S514.trans s15
   refine ⟨_,rfl,b,_,_,rfl,S515 _ _ eb,LB.same S515,wB,iB,lB,(fun fwB p16 G16 es2 f16 s16 e16 le16 ds16=>?_),(fun nfB G16 s16=>?_)⟩
   ·have S516:=S515.trans s16
    refine ⟨_,_,rfl,?_⟩
    refine ⟨_,rfl,rfl,_,rfl,YJ (fun z=>absurd z (by simp)) fun _=>?_⟩
    refine ⟨_,rfl,rfl,_,rfl,YJ (fun z=>absurd z (by simp)) fun _=>?_⟩
    have aI:=J0 s16 (ZfB le15 ds15)
    have aB:=ZfB le16 ds16
    obtain ⟨a0,ea0⟩:∃a0,(WQ (O.take t)).length=a0:=⟨_,rfl⟩
    obtain ⟨b0,eb0⟩:∃b0,(WQ I).length=b0:=⟨_,rfl⟩
    have q0:(WQ (O.take t++sh k I++O.drop t)).length<=(O.take t++sh k I++O.drop t).length:=Jk _ _ _
    refine ⟨_,rfl,b,_,_,rfl,S516 _ _ eb,LB.same S516,lB,wB.kd,fun p17 G17 f17 s17 e17=>⟨_,rfl,p17,p16,rfl,⟨_,Zo.of e17⟩,⟨_,Zo.of (s17 _ _ e16)⟩,ZjM (K:=K) (a:=p17) (b:=p16) (xs:=(WQ (O.take t++sh k I++O.drop t)).map V.int) (ys:=es2.map V.ref) (by rw [List.length_map,sizeLine_eq];lia) (by rw [List.length_map,List.length_map,le16];exact Nat.le_refl _) (fun m zs G=>Ze G17 G/\zs=((es2.take (min m (a0+b0))).drop a0).map V.ref) ⟨Ze.refl _,by simp⟩ (fun m zs G ⟨_,z⟩=>by rw [z,List.length_map,List.length_drop,List.length_take];lia) (fun m zs G ⟨s',_⟩=>⟨Zo.of (s' _ _ e17),Zo.of (s' _ _ (s17 _ _ e16))⟩) ?_ ?_⟩⟩
    ·rintro m x y q zs G hx hy ⟨sg,rfl⟩ fq
     obtain ⟨nm,hnm,rfl⟩:=Yc hx
     rw [List.getElem?_map] at hy
     obtain ⟨e,he,rfl⟩:=Option.map_eq_some_iff.mp hy
     have hm:=(List.getElem?_eq_some_iff.mp he).1
     have md:=ZlS hnm
     rw [lP,ea0,eb0] at md
     obtain ⟨G',eG'⟩:∃G',upd G q (.tup [.int nm,.ref e])=G':=⟨_,rfl⟩
     have sq:Ze G G':=by rw [<- eG'];exact Ze.laid fq
     have eq:G' q=some (.tup [.int nm,.ref e]):=by rw [<- eG'];exact Zb
     rw [eG']
     have SG:=((S5.trans S516).trans s17).trans (sg.trans sq)
     have stay:¬(a0<=m/\m<a0+b0)->((es2.take (min m (a0+b0))).drop a0).map V.ref=((es2.take (min (m+1) (a0+b0))).drop a0).map V.ref:=fun z=>by
      by_cases c:a0<=m
      ·rw [show min m (a0+b0)=a0+b0 by lia,show min (m+1) (a0+b0)=a0+b0 by lia]
      ·rw [List.drop_eq_nil_of_le (by rw [List.length_take];lia),List.drop_eq_nil_of_le (by rw [List.length_take];lia)]
     refine ⟨q,_,rfl,WT.of eq,rfl,_,_,rfl,_,_,rfl,rfl,?_⟩
     refine ⟨_,rfl,_,rfl,_,_,rfl,rfl,_,rfl,YJ (fun c=>?_) (fun c=>?_)⟩
     ·have c1:(t:Int)<=nm:=of_decide_eq_true c
      refine ⟨_,rfl,_,rfl,i,xs,rfl,.inl (Zo.of (SG _ _ hi)),_,_,rfl,rfl,_,_,rfl,rfl,_,rfl,YJ (fun d=>?_) (fun d=>?_)⟩
      ·have d1:nm<(t:Int)+(xs.length:Int):=of_decide_eq_true d
       rw [li] at d1
       have mm:=md.mp ⟨c1,d1⟩
       refine ⟨_,rfl,sg.trans sq,?_⟩
       rw [show min m (a0+b0)=m by lia,show min (m+1) (a0+b0)=m+1 by lia,List.take_add_one,he,List.drop_append_of_le_length (by rw [List.length_take];lia),List.map_append]
       rfl
      ·refine ⟨sg.trans sq,stay fun z=>d (decide_eq_true ?_)⟩
       have:=(md.mpr z).2
       rw [li]
       exact this
     ·refine ⟨_,rfl,Zbr ⟨sg.trans sq,stay fun z=>c (decide_eq_true (md.mpr z).1)⟩⟩
    ·rintro zs2 G ⟨sg,rfl⟩ D2 hD2
     have lle:(WQ (O.take t++sh k I++O.drop t)).length=a0+b0+(WQ (O.drop t)).length:=by rw [Zeq,List.length_append,List.length_append,List.length_map,List.length_map,ea0,eb0]
     rw [List.length_map,show min (WQ (O.take t++sh k I++O.drop t)).length (a0+b0)=a0+b0 by lia]
     obtain ⟨G18,eG18⟩:∃G18,upd G D2 (.lst (((es2.take (a0+b0)).drop a0).map V.ref))=G18:=⟨_,rfl⟩
     have s18:Ze G17 G18:=by rw [<- eG18];exact sg.trans (Ze.laid hD2)
     have eD2:G18 D2=some (.lst (((es2.take (a0+b0)).drop a0).map V.ref)):=by rw [<- eG18];exact Zb
     rw [eG18]
     have s1618:=s17.trans s18
     have aF:=Zl2 aB a0 (a0+b0)
     have sds:=st.ds
     rw [ea0,eb0,lP] at sds
     rw [sds] at aF
     refine ⟨_,rfl,_,rfl,_,rfl,p15,_,es,_,rfl,s1618 _ _ (s16 _ _ e15),J0 s1618 aI,Zkx wI iI (by lia) fwI,fun p19 G19 fs f19 s19 e19 aM=>?_⟩
     have aF19:=J0 (s1618.trans s19) aF
     refine ⟨D2,p19,_,_,rfl,rfl,Zo.of (s19 _ _ eD2),Zo.of e19,by rw [List.length_map,List.length_map,aF19.1,aM.1],ZhW aF19 aM,?_⟩
     exact kk _ (((S5.trans S516).trans s1618).trans s19)
   ·refine ⟨_,_,rfl,?_⟩
    refine ⟨_,rfl,rfl,_,rfl,YJ (fun z=>absurd z (by simp)) fun _=>?_⟩
    refine ⟨_,rfl,rfl,_,rfl,Ul ?_⟩
    exact kk G16 ((S5.trans S515).trans s16)
  ·have S515:=S514.trans s15
   refine ⟨_,rfl,b,_,_,rfl,S515 _ _ eb,LB.same S515,wB,iB,lB,(fun fwB p16 G16 es2 f16 s16 e16 le16 ds16=>?_),(fun nfB G16 s16=>?_)⟩
   all_goals
    refine ⟨_,_,rfl,?_⟩
    refine ⟨_,rfl,rfl,_,rfl,Ul (Ul ?_)⟩
    exact kk G16 ((S5.trans S515).trans s16)
theorem ZmI {I O:List (Str×Int)}{k t:Nat}{m1 n1 m2 n2:Int} (wI:Wk I 0) (ht:t<=O.length) (cI:CB I m1 n1) (cO:CB O m2 n2) (hm:m1+m2<=8) (hn:n1+n2<=12) (h:∀j,j<=I.length->Z7 (O.take t)+Z7 (I.take j)<=8):InB (O.take t++sh k I++O.drop t):=by
 have lP:(O.take t).length=t:=by rw [List.length_take];lia
 have cc:∀x,cnt x (O.take t++sh k I++O.drop t)=cnt x O+cnt x I:=fun x=>by
  rw [ZaR,ZaR,ZnG]
  have:cnt x (O.take t)+cnt x (O.drop t)=cnt x O:=by rw [<- ZaR,List.take_append_drop]
  lia
 refine ⟨fun i=>?_,?_,?_⟩
 ·rw [List.take_append,List.take_append,UP,UP,Zek,Zl4,lP,List.length_append,WC,lP]
  by_cases c1:i<=t
  ·rw [show i-t=0 by lia,show i-(t+I.length)=0 by lia,List.take_zero,List.take_zero,List.take_take,Nat.min_eq_left c1]
   have:=cO.2.2 i
   show Z7 (O.take i)+0+0<=8
   lia
  ·rw [List.take_of_length_le (l:=O.take t) (by lia)]
   by_cases c2:i<=t+I.length
   ·rw [show i-(t+I.length)=0 by lia,List.take_zero]
    have:=h (i-t) (by lia)
    show _+0<=8
    lia
   ·rw [List.take_of_length_le (l:=I) (by lia),Ub wI]
    have:=cO.2.2 (t+(i-(t+I.length)))
    rw [List.take_add,UP] at this
    lia
 ·rw [JW,cc];have:=cI.1;have:=cO.1;lia
 ·rw [JW,cc];have:=cI.2.1;have:=cO.2.1;lia
theorem ZaL {H H':Hp}{b:Addr} (s:Ze H H') (x:Bag H b):Bag H' b:=let ⟨g,r,h,e⟩:=x;⟨g,r,h,s _ _ e⟩
def ZhK (K:PySem.W.Frag):Sp:=fun vs H Q _=>∃(a:Addr) (ns:List Int),vs = [.ref a]/\Zo K H a (ns.map V.int)/\ns.length<=63 /\ ∀H',Q (.bl true) H'
abbrev ZbL:Stmt:=top 50
theorem Gh:Zp ["_law_script", "_law_at", "_law_bag_here", "_law_one", "_law_other", "_law_words", "_law_t", "_law_many_here", "_law_k", "_law_most"] ["_law_script"] (Zi ZbL):={}
theorem Znm {f:Addr}{fd:FuncData} (F:Ym K "law" "law" ZbL f fd) (Zak:Yi P w K mg base 1 "_law_bag" ["_law_script", "_law_at"] (Zjo K)) (Zt:Yi P w K mg base 1 "_law_take" ["_law_bag_here", "_law_many_here"] Zbl) (Yz:Yi P w K mg base 2 "_law_drawing" ["_law_bag_here", "_law_births", "_law_most"] (Zez 0)) (Zau:Yi P w K mg base 3 "_law_any" ["_law_bag_here", "_law_most"] ZdS)
  (JX:Yi P w K mg base 9 "_law_behind" ["_law_one", "_law_other"] ZcY) (Gf:Yi P w K mg base 9 "_law_within" ["_law_one", "_law_other", "_law_t", "_law_k"] ZcO) (Ga:Yi P w K mg base 1 "_law_many" ["_law_letters"] ZgF) (ZT:mg "range" = none) (ZL:mg "len" = none) (Zhz:mg "max" = none) (ZjC:mg "min" = none):ZX P w K mg base J4 12 f fd ["_law_script"] (ZhK K):=by
 refine F.ok Gh (fun vs H Q E h=>?_) (fun cdv A outer s H vs Q E hr h=>?_)
 ·obtain ⟨a,ns,rfl,_⟩:=h
  rfl
 ·obtain ⟨a,ns,rfl,hS,hlen,k⟩:=h
  refine ⟨_,(Zd (Z5 PassesOwn.never rfl (YA (by rfl) ZT (Za (Zy (ZiG rfl) (by rfl) Zhz boot_max (Za Zg (Za (Zy (Zid rfl) (by rfl) ZjC boot_min (Za (Zy (ZJ (K:=K) rfl) (by rfl) ZL PySem.boot_len (Za (pv 0) Zc)) (Za Zg Zc))) Zc))) Zc)) (Zm (i:=1) Gh.nd rfl (Or.inl rfl)) (Zd (Zq (i:=2) Gh.nd rfl (Or.inl rfl) (Zk Zak hr (Za (pv 0) (Za (pv 1) Zc))))
   (Zd (Zq (i:=3) Gh.nd rfl (Or.inr rfl) (Zk Yz hr (Za (pv 2) (Za Zg (Za Zg Zc)))))
   (Zd (Zq (i:=4) Gh.nd rfl (Or.inl rfl) (Zk Zau hr (Za (pv 2) (Za Zg Zc))))
   (Zd (YK (PW.pt (ZcJ (Zev (ZcU (Zk JX hr (Za (pv 3) (Za (pv 4) Zc))))) (Zaq (Zev (ZcU (Zk JX hr (Za (pv 4) (Za (pv 3) Zc)))))))) (Zh (Zr J7)) Ya)
   (Zd (Zad (i:=5) Gh.nd rfl (Or.inl rfl) (Ls:=["_law_letter"]) (Fs:=[]) (fi:=[]) (ZO.of (show Yn ["_law_script", "_law_at", "_law_bag_here", "_law_one", "_law_other", "_law_words", "_law_t", "_law_many_here", "_law_k", "_law_most"] (Zi ZbL) _ [] []=true by decide +kernel)) rfl (ZC (K:=K) rfl (Zn Jm (pv 3) (pv 4))) (fun cl C s3 H3 ex=>⟨(Zm (i:=0) (show ((["_law_letter"]:List Str)++([]:List Str)).Nodup by decide +kernel) rfl (Or.inl rfl)),Z8,(Zz (Zaz (K:=K) rfl) (pv 0) Zg (fun _ _=>rfl))⟩))
   (Zd (Zq (i:=6) Gh.nd rfl (Or.inl rfl) (Zk Zt hr (Za (pv 2) (Za (Zn ZF (Zy (ZJ (K:=K) rfl) (by rfl) ZL PySem.boot_len (Za (pv 4) Zc)) Zg) Zc))))
   (Zd (Zq (i:=7) Gh.nd rfl (Or.inl rfl) (Zk Ga hr (Za (Yp (Yq (K:=K) rfl) (pv 4) YT (Z9 (pv 6))) Zc)))
   (Zd (Zq (i:=8) Gh.nd rfl (Or.inl rfl) (Zk Zt hr (Za (pv 2) (Za (Zn ZF (pv 7) Zg) Zc))))
   (Zd (Zq (i:=9) Gh.nd rfl (Or.inl rfl) (Zy (Zgw (K:=K) rfl rfl) (by rfl) Zhz boot_max (Za (Gy (Ls:=["_law_place"]) (Fs:=["_law_one"]) (fi:=[3]) (ZO.of (show Yn ["_law_script", "_law_at", "_law_bag_here", "_law_one", "_law_other", "_law_words", "_law_t", "_law_many_here", "_law_k", "_law_most"] (Zi ZbL) _ ["_law_one"] [3]=true by decide +kernel)) rfl (YA (by rfl) ZT (Za (Zn ZF (Zy (ZJ (K:=K) rfl) (by rfl) ZL PySem.boot_len (Za (pv 3) Zc)) Zg) Zc)) (fun cl C s3 H3 ex=>⟨(Zm (i:=0) (show ((["_law_place"]:List Str)++(["_law_one"]:List Str)).Nodup by decide +kernel) rfl (Or.inl rfl)),Z8,(Zk Ga hr (Za (Yp (Yq (K:=K) rfl) (pv 1) YT (Z9 (pv 0))) Zc))⟩)) Zc)))
   (Zh (YK (PW.pt (Zap (Zu Zc5 (Zn ZF (pv 7) (pv 9)) Zg (ZD _)) (Zap (Zu Zc5 (YF (K:=K) rfl (JB PySem.F.plainAttrs_list PySem.F.slot_list_count PySem.F.type_list_count (U4 (K:=K) rfl) (pv 5) (Za YH Zc))) Zg (ZD _)) (ZaU (Zu Zc5 (YF (K:=K) rfl (JB PySem.F.plainAttrs_list PySem.F.slot_list_count PySem.F.type_list_count (U4 (K:=K) rfl) (pv 5) (Za YH Zc))) Zg (ZD _)))))) (Zh (YK (Zev (ZcU (Zk Gf hr (Za (pv 3) (Za (pv 4) (Za (pv 6) (Za (pv 8) Zc))))))) (Zh (Zr J7)) Ya)) Ya))))))))))))
   (Zh (Zr J7))),?_⟩
  refine ⟨_,rfl,a,_,rfl,.inl hS,_,_,rfl,_,_,rfl,_,rfl,?_,?_,Jr (fun i σ H'=>∃v1 v2 v3 v4 v5 v6 v7 v8 v9:Option V,σ = [some (.ref a),v1,v2,v3,v4,v5,v6,v7,v8,v9]/\Ze H H') ⟨none,none,none,none,none,none,none,none,none,rfl,Ze.refl _⟩ ?_ ?_⟩
  ·split<;>(try split)<;>lia
  ·rw [List.length_map]
   split<;>(try split)<;>lia
  ·rintro i σ H0 hi ⟨v1,v2,v3,v4,v5,v6,v7,v8,v9,rfl,sm⟩
   have hi':i<900:=by
    rw [List.length_map] at hi
    revert hi
    split<;>(try split)<;>lia
   refine ⟨_,rfl,_,rfl,a,_,ns,rfl,sm.seq hS,by lia,by lia,fun b H1 hb s1 bg1=>?_⟩
   refine ⟨_,rfl,b,2,5,rfl,bg1,by decide,by decide,by decide,by decide,fun l1 H2 I hl1 bg2 f2 ⟨xs,e1,L1,wI,_⟩ cI _ _=>?_⟩
   refine ⟨_,rfl,b,5,rfl,bg2,by decide,by decide,fun l2 H3 O hl2 bg3 f3 ⟨ys,e2,L2',wO,_⟩ cO _ _=>?_⟩
   have nl1:l1≠b:=fun z=>by obtain ⟨_,_,_,e⟩:=bg2;rw [z,e] at e1;have:=ZgK bg1 hl1;exact this z
   have e13:=f3 _ _ e1 nl1
   have L13:=L1.frm f3 bg2
   have iI:=Zmh cI (by decide) (by decide)
   have iO:=Zmh cO (by decide) (by decide)
   have iIO:=ZjE wI cI cO (by decide) (by decide)
   have iOI:=ZjE wO cO cI (by decide) (by decide)
   have le1:=L13.len
   have le2:=L2'.len
   have sI:=Wy wI iI
   have sO:=Wy wO iO
   have nl2:l2≠b:=fun z=>ZgK bg2 hl2 z
   refine ⟨_,rfl,_,rfl,l1,l2,xs,ys,I,O,rfl,e13,L13,e2,L2',wI,wO,iI,iO,iIO,fun H4 s4=>⟨true,rfl,Zbr ?_⟩⟩
   refine ⟨_,rfl,_,rfl,l2,l1,ys,xs,O,I,rfl,s4 _ _ e2,L2'.same s4,s4 _ _ e13,L13.same s4,wO,wI,iO,iI,iOI,fun H5 s5=>⟨true,rfl,Zbr ?_⟩⟩
   have s35:=s4.trans s5
   have bg5:=ZaL s35 bg3
   have e15:=s35 _ _ e13
   have e25:=s35 _ _ e2
   have L15:=L13.same s35
   have L25:=L2'.same s35
   refine ⟨_,rfl,_,rfl,l1,l2,xs,ys,rfl,rfl,e15,e25,by rw [sizeLine_eq];lia,fun c hc=>?_⟩
   obtain ⟨H6,eH6⟩:∃H6,upd H5 c (.lst (xs++ys))=H6:=⟨_,rfl⟩
   have s6:Ze H5 H6:=by rw [<- eH6];exact Ze.laid hc
   have ec:H6 c=some (.lst (xs++ys)):=by rw [<- eH6];exact Zb
   rw [eH6]
   have LB:Zs H6 (xs++ys) (I++O):=(L15.same s6).append (L25.same s6)
   refine ⟨c,rfl,⟨_,Zo.of ec⟩,Y9 (K:=K) (a:=c) (xs:=xs++ys) (by rw [List.length_append,sizeLine_eq];lia) (fun j zs G=>Ze H6 G/\zs=((I++O).take j).map fun p=>V.str p.1) ⟨Ze.refl _,rfl⟩ (fun j zs G q=>by rw [q.2,List.length_map,List.length_take];exact Nat.min_le_left _ _) (fun j zs G q=>Zo.of (q.1 _ _ ec)) (fun j x zs G hx q=>?_) (fun zs G q wA hwA=>?_)⟩
   ·obtain ⟨sq,rfl⟩:=q
    obtain ⟨p,ta,hp,rfl,hta⟩:=LB.get hx
    refine lcG ?_
    refine ⟨_,rfl,ta,_,_,_,rfl,rfl,WT.of (sq _ _ hta),Zv (j:=0) rfl,sq,?_⟩
    rw [Yu _ hp]
   obtain ⟨sq,rfl⟩:=q
   rw [LB.len,List.take_of_length_le (Nat.le_refl _)]
   obtain ⟨H7,eH7⟩:∃H7,upd G wA (.lst ((I++O).map fun p=>V.str p.1))=H7:=⟨_,rfl⟩
   have s7:Ze H6 H7:=by rw [<- eH7];exact sq.trans (Ze.laid hwA)
   have ew:H7 wA=some (.lst ((I++O).map fun p=>V.str p.1)):=by rw [<- eH7];exact Zb
   rw [eH7]
   have s57:=s6.trans s7
   have bg7:=ZaL s57 bg5
   have nwb:wA≠b:=ZgK (ZaL (s6.trans sq) bg5) hwA
   refine ⟨_,rfl,_,rfl,l2,_,rfl,.inl (Zo.of (s57 _ _ e25)),_,_,rfl,rfl,b,_,rfl,bg7,by lia,by lia,fun t H8 t0 t1 bg8 f8=>?_⟩
   obtain ⟨tn,rfl⟩:=Int.eq_ofNat_of_zero_le t0
   have htn:tn<=O.length:=by lia
   have e18:=f8 _ _ (s57 _ _ e15) nl1
   have e28:=f8 _ _ (s57 _ _ e25) nl2
   have L18:=(L15.same s57).frm f8 bg7
   have L28:=(L25.same s57).frm f8 bg7
   have ew8:=f8 _ _ ew nwb
   refine ⟨_,rfl,_,rfl,_,rfl,l2,ys,rfl,Zo.of e28,fun c9 hc9=>?_⟩
   rw [WW]
   obtain ⟨H9,eH9⟩:∃H9,upd H8 c9 (.lst (ys.take tn))=H9:=⟨_,rfl⟩
   have s9:Ze H8 H9:=by rw [<- eH9];exact Ze.laid hc9
   have ec9:H9 c9=some (.lst (ys.take tn)):=by rw [<- eH9];exact Zb
   rw [eH9]
   refine ⟨c9,_,O.take tn,rfl,ec9,Zbo (L28.same s9) tn,by rw [List.length_take];lia,fun p hp=>wO.kd p (List.mem_of_mem_take hp),fun H10 s10=>?_⟩
   obtain ⟨nO,hnO⟩:=YS wO tn
   have g0:0<=Z7 (O.take tn):=by rw [Ub hnO];exact hnO.nonneg
   have g8:=cO.2.2 tn
   have s810:=s9.trans s10
   have bg10:=ZaL s810 bg8
   refine ⟨_,rfl,_,rfl,_,_,rfl,rfl,b,_,rfl,bg10,by lia,by lia,fun kk H11 k0 k1 bg11 f11=>?_⟩
   obtain ⟨kn,rfl⟩:=Int.eq_ofNat_of_zero_le k0
   have e1b:=f11 _ _ (s810 _ _ e18) nl1
   have e2b:=f11 _ _ (s810 _ _ e28) nl2
   have L1b:=(L18.same s810).frm f11 bg10
   have L2b:=(L28.same s810).frm f11 bg10
   have ewb:=f11 _ _ (s810 _ _ ew8) nwb
   refine ⟨_,rfl,l1,_,rfl,.inl (Zo.of e1b),_,_,rfl,rfl,_,rfl,by lia,by lia,?_⟩
   rw [show ((xs.length:Int)+1).toNat=I.length+1 by lia]
   refine Zc6 (n:=I.length+1) (by rw [sizeLine_eq];lia) (fun j zs G=>Ze H11 G/\zs=((List.range j).map fun (m:Nat)=>Z7 (I.take m)).map V.int) ⟨Ze.refl _,rfl⟩ (fun j zs G q=>by rw [q.2,List.length_map,List.length_map,List.length_range];exact Nat.le_refl _) (fun j zs G hj q=>?_) (fun zs G q D hD=>?_)
   ·obtain ⟨sq,rfl⟩:=q
    refine lcG ?_
    refine ⟨_,rfl,_,rfl,_,rfl,l1,xs,rfl,Zo.of (sq _ _ e1b),fun c12 hc12=>?_⟩
    rw [show ((0:Int)+(j:Int))=(j:Int) from Int.zero_add _,WW]
    have s12:Ze G (upd G c12 (.lst (xs.take j))):=Ze.laid hc12
    refine ⟨c12,_,I.take j,rfl,Zb,Zbo ((L1b.same sq).same s12) j,by rw [List.length_take];lia,fun p hp=>wI.kd p (List.mem_of_mem_take hp),fun H13 s13=>⟨(sq.trans s12).trans s13,?_⟩⟩
    rw [List.range_succ,List.map_append,List.map_append]
    rfl
   obtain ⟨sq,rfl⟩:=q
   obtain ⟨H12,eH12⟩:∃H12,upd G D (.lst (((List.range (I.length+1)).map fun (m:Nat)=>Z7 (I.take m)).map V.int))=H12:=⟨_,rfl⟩
   have s12:Ze H11 H12:=by rw [<- eH12];exact sq.trans (Ze.laid hD)
   have eD:H12 D=some (.lst (((List.range (I.length+1)).map fun (m:Nat)=>Z7 (I.take m)).map V.int)):=by rw [<- eH12];exact Zb
   rw [eH12]
   refine ⟨D,_,rfl,Zo.of eD,by rw [List.length_map,List.length_range];lia,fun M hM hle=>?_⟩
   have keep:Ze H H12:=fun cc oo ee=>by
    have nb:=Zf (sm cc oo ee) hb
    exact s12 _ _ (f11 _ _ (s810 _ _ (f8 _ _ (s57 _ _ (s35 _ _ (f3 _ _ (f2 _ _ (s1 _ _ (sm cc oo ee)) nb) nb))) nb)) nb)
   have fl:(((I++O).map fun p=>V.str p.1).all W8)=true:=by rw [List.all_map,List.all_eq_true];intro _ _;rfl
   have fin:∀G:Hp,Ze H G -> ∃v1 v2 v3 v4 v5 v6 v7 v8 v9:Option V,[some (.ref a),some (.int (0+(i:Int))),some (.ref b),some (.ref l1),some (.ref l2),some (.ref wA),some (.int (tn:Int)),some (.int (Z7 (O.take tn))),some (.int (kn:Int)),some (.int M)] = [some (.ref a),v1,v2,v3,v4,v5,v6,v7,v8,v9]/\Ze H G:=fun G z=>⟨_,_,_,_,_,_,_,_,_,rfl,z⟩
   have ew12:=s12 _ _ ewb
   refine ⟨_,rfl,_,rfl,_,_,rfl,rfl,_,_,rfl,rfl,_,rfl,YJ (fun c=>?_) (fun c=>?_)⟩
   ·have c9':Z7 (O.take tn)+M<9:=of_decide_eq_true c
    refine ⟨_,rfl,.inl ⟨rfl,_,Zo.of ew12⟩,wA,_,_,rfl,rfl,Zo.of ew12,rfl,fl,_,_,rfl,rfl,_,rfl,YJ (fun c=>?_) (fun c=>?_)⟩
    ·refine ⟨_,rfl,.inl ⟨rfl,_,Zo.of ew12⟩,wA,_,_,rfl,rfl,Zo.of ew12,rfl,fl,_,_,rfl,rfl,_,rfl,YJ (fun c=>?_) (fun c=>?_)⟩
     ·have inB:InB (O.take tn++sh kn I++O.drop tn):=ZmI wI htn cI cO (by decide) (by decide) fun j hj=>by
       have:=hle (Z7 (I.take j)) (List.mem_map.mpr ⟨j,List.mem_range.mpr (by lia),rfl⟩)
       lia
      refine ⟨_,rfl,_,rfl,_,rfl,_,rfl,l1,l2,tn,kn,xs,ys,I,O,rfl,s12 _ _ e1b,L1b.same s12,s12 _ _ e2b,L2b.same s12,wI,wO,iI,htn,by lia,inB,iO,fun H13 s13=>⟨true,rfl,Zbr ?_⟩⟩
      exact fin H13 (keep.trans s13)
     ·exact fin H12 keep
    ·exact Zbr (fin H12 keep)
   ·exact Zbr (fin H12 keep)
  ·rintro σ H0 ⟨v1,v2,v3,v4,v5,v6,v7,v8,v9,rfl,sm⟩
   exact k H0
abbrev Wv:Stmt:=top 4
theorem ZbY:Zp ["drawing"] ["drawing"] (Zi Wv):={}
theorem Zen {f:Addr}{fd:FuncData} (F:Ym K "crossings_of" "crossings_of" Wv f fd) (Y4:Yi P w K mg base 1 "letters_of" ["drawing", "kind"] U5):ZX P w K mg base J4 2 f fd ["drawing"] (WH fun x=>decide (x = "cross")):=by
 refine F.ok ZbY (fun vs H Q E h=>?_) (fun cdv A outer s H vs Q E hr h=>?_)
 ·obtain ⟨l,xs,ls,rfl,_⟩:=h
  rfl
 ·obtain ⟨l,xs,ls,rfl,hl,hL,hlen,_,k⟩:=h
  refine ⟨_,(Zh (Zr (Zk Y4 hr (Za (pv 0) (Za YH Zc))))),?_⟩
  exact ⟨_,rfl,l,_,xs,ls,rfl,hl,hL,hlen,k⟩
end
theorem ZP {P:Program}{w:World}{K:PySem.W.Frag}{mg:Str->Option Value}{base:Heap}{k:Nat}{x:Str}{ps:List Str}{sp:Sp}{f:Addr}{fd:FuncData} (G:ZX P w K mg base J4 k f fd ps sp) (m:mg x=some (.ref f)) (kp:PySem.W.keepIn K (.ref f)=true) (b:Binds K fd ps []):Yi P w K mg base k x ps sp:=⟨f,fd,G,m,kp,b⟩
theorem Zb1 {P:Program}{w:World}{K:PySem.W.Frag}{mg:Str->Option Value}{base:Heap}{k:Nat}{C:Addr}{m:Str}{ps:List Str}{sp:Sp}{f:Addr}{fd:FuncData} (G:ZX P w K mg base J4 k f fd ps sp) (a:PySem.W.findIn K (.ref C) m=some (some (.ref f))) (fn:PySem.W.isFn K (.ref f)=true) (kp:PySem.W.keepIn K (.ref f)=true) (b:Binds K fd ps []):ZaP P w K mg base k C m ps sp:=⟨f,fd,G,⟨a,fn,kp⟩,b⟩
theorem ZeZ {P:Program}{w:World}{K:PySem.W.Frag}{mg:Str->Option Value}{base:Heap}{k:Nat}{x:Str}{ps:List Str}{sp:Sp}{f:Addr}{fd:FuncData} (G:ZX P w K mg base (CX1 P w) k f fd ps sp) (m:mg x=some (.ref f)) (kp:PySem.W.keepIn K (.ref f)=true) (b:Binds K fd ps []):Ze3 P w K mg base k x ps sp:=⟨f,fd,G,m,kp,b⟩
section
theorem us1 {α:Type}{P:List α -> Prop} (h:∀a,P [a]):∀us:List α,us.length=1->P us
 | [_],_=>h _
theorem us2 {α:Type}{P:List α -> Prop} (h:∀a b,P [a,b]):∀us:List α,us.length=2->P us
 | [_,_],_=>h _ _
theorem us3 {α:Type}{P:List α -> Prop} (h:∀a b c,P [a,b,c]):∀us:List α,us.length=3->P us
 | [_,_,_],_=>h _ _ _
theorem us4 {α:Type}{P:List α -> Prop} (h:∀a b c d,P [a,b,c,d]):∀us:List α,us.length=4->P us
 | [_,_,_,_],_=>h _ _ _ _
theorem all_mk {l:PySem.W.OpenLaw}{w:World}{K:PySem.W.Frag}{h:Heap}{mg:Str->Option Value}{fa:Addr} (X:K.In h) (G:h.Ns mainGlobals mg) (hfa:mg "law" = some (.ref fa))
  {f0 f1 f2 f3 f4 f5 f6 f7 f8 f9 f10 f11 f12 f13 f14 f15 f16 f17 f18 f19 f20 f21 f22 f23 f24 f25 f26 f27 f28 f29 f30 f31 f32 f33 f34 f35 f36 f37 f38 f39 f40 f41 f42:Addr}{d0 d1 d2 d3 d4 d5 d6 d7 d8 d9 d10 d11 d12 d13 d14 d15 d16 d17 d18 d19 d20 d21 d22 d23 d24 d25 d26 d27 d28 d29 d30 d31 d32 d33 d34 d35 d36 d37 d38 d39 d40 d41 d42:FuncData}
  {WX:Addr} (Zcm:PySem.W.nsIn K mainGlobals "GAINS" = some (some (.ref WX))) (ZcR:Zhe K WX [("born", 2),("cross", 0),("end", -2)])
  {t_MOST_WORDS:Tok} (Gb:PySem.W.nsIn K mainGlobals "MOST_WORDS" = some (some (.int 200 t_MOST_WORDS)))
  {ZI:Addr} (Zat:PySem.W.nsIn K mainGlobals "TooMany" = some (some (.ref ZI)))
  {Zw:Addr} (Zas:PySem.W.nsIn K mainGlobals "WordWay" = some (some (.ref Zw)))
  (Ju:PySem.W.excIn K ZI [.type "ValueError", .type "Exception", .type "BaseException", .type "object"] "ValueError.__new__" = true)
  (c_way:L2.Cls K Zw)
  (k_WordWay:L2.MkO K Zw)
  (Gq:PySem.W.mroIn K ZI (.ref ZI)=some true)
  (a0:PySem.W.nsIn K mainGlobals "letters_of" = some (some (.ref f0))) (l0:Ym K "letters_of" "letters_of" Wg f0 d0)
  (a1:PySem.W.nsIn K mainGlobals "strands" = some (some (.ref f1))) (l1:Ym K "strands" "strands" Zbm f1 d1)
  (a2:PySem.W.nsIn K mainGlobals "crossings_of" = some (some (.ref f2))) (l2:Ym K "crossings_of" "crossings_of" Wv f2 d2)
  (a3:PySem.W.nsIn K mainGlobals "ends_of" = some (some (.ref f3))) (l3:Ym K "ends_of" "ends_of" Zby f3 d3)
  (a4:PySem.W.nsIn K mainGlobals "names_of" = some (some (.ref f4))) (l4:Ym K "names_of" "names_of" GP f4 d4)
  (a5:PySem.W.nsIn K mainGlobals "put" = some (some (.ref f5))) (l5:Ym K "put" "put" ZkH f5 d5)
  (a6:PySem.W.nsIn K mainGlobals "added" = some (some (.ref f6))) (l6:Ym K "added" "added" ZeI f6 d6)
  (a7:PySem.W.nsIn K mainGlobals "multiplied" = some (some (.ref f7))) (l7:Ym K "multiplied" "multiplied" Wa f7 d7)
  (a8:PySem.W.findIn K (.ref Zw) "nought" = some (some (.ref f8))) (l8:Ym K "nought" "WordWay.nought" JT f8 d8) (n8:PySem.W.isFn K (.ref f8)=true)
  (a9:PySem.W.findIn K (.ref Zw) "unit" = some (some (.ref f9))) (l9:Ym K "unit" "WordWay.unit" WM f9 d9) (n9:PySem.W.isFn K (.ref f9)=true)
  (a10:PySem.W.findIn K (.ref Zw) "plus" = some (some (.ref f10))) (l10:Ym K "plus" "WordWay.plus" Wx f10 d10) (n10:PySem.W.isFn K (.ref f10)=true)
  (a11:PySem.W.findIn K (.ref Zw) "times" = some (some (.ref f11))) (l11:Ym K "times" "WordWay.times" J2 f11 d11) (n11:PySem.W.isFn K (.ref f11)=true)
  (a12:PySem.W.nsIn K mainGlobals "behind_birth" = some (some (.ref f12))) (l12:Ym K "behind_birth" "behind_birth" Y0 f12 d12)
  (a13:PySem.W.nsIn K mainGlobals "behind_crossing" = some (some (.ref f13))) (l13:Ym K "behind_crossing" "behind_crossing" YR f13 d13)
  (a14:PySem.W.nsIn K mainGlobals "behind_end" = some (some (.ref f14))) (l14:Ym K "behind_end" "behind_end" Y5 f14 d14)
  (a15:PySem.W.nsIn K mainGlobals "table_behind" = some (some (.ref f15))) (l15:Ym K "table_behind" "table_behind" Wz f15 d15)
  (a16:PySem.W.nsIn K mainGlobals "check_words" = some (some (.ref f16))) (l16:Ym K "check_words" "check_words" Ge f16 d16)
  (a17:PySem.W.nsIn K mainGlobals "sum_tables" = some (some (.ref f17))) (l17:Ym K "sum_tables" "sum_tables" Uc f17 d17)
  (a18:PySem.W.nsIn K mainGlobals "deeds" = some (some (.ref f18))) (l18:Ym K "deeds" "deeds" Ze5 f18 d18)
  (a19:PySem.W.nsIn K mainGlobals "threads" = some (some (.ref f19))) (l19:Ym K "threads" "threads" ZbB f19 d19)
  (a20:PySem.W.nsIn K mainGlobals "pairs_ahead" = some (some (.ref f20))) (l20:Ym K "pairs_ahead" "pairs_ahead" Gi f20 d20)
  (a21:PySem.W.nsIn K mainGlobals "end_pairs" = some (some (.ref f21))) (l21:Ym K "end_pairs" "end_pairs" Uy f21 d21)
  (a22:PySem.W.nsIn K mainGlobals "born_with" = some (some (.ref f22))) (l22:Ym K "born_with" "born_with" Up f22 d22)
  (a23:PySem.W.nsIn K mainGlobals "end_mates" = some (some (.ref f23))) (l23:Ym K "end_mates" "end_mates" UI f23 d23)
  (a24:PySem.W.nsIn K mainGlobals "tour_from" = some (some (.ref f24))) (l24:Ym K "tour_from" "tour_from" UG f24 d24)
  (a25:PySem.W.nsIn K mainGlobals "tours" = some (some (.ref f25))) (l25:Ym K "tours" "tours" ZeY f25 d25)
  (a26:PySem.W.nsIn K mainGlobals "pieces" = some (some (.ref f26))) (l26:Ym K "pieces" "pieces" ZcP f26 d26)
  (a27:PySem.W.nsIn K mainGlobals "to_right" = some (some (.ref f27))) (l27:Ym K "to_right" "to_right" Zav f27 d27)
  (a28:PySem.W.nsIn K mainGlobals "uppers_at_ends" = some (some (.ref f28))) (l28:Ym K "uppers_at_ends" "uppers_at_ends" JR f28 d28)
  (a29:PySem.W.nsIn K mainGlobals "steps_down" = some (some (.ref f29))) (l29:Ym K "steps_down" "steps_down" GH f29 d29)
  (a30:PySem.W.nsIn K mainGlobals "turns" = some (some (.ref f30))) (l30:Ym K "turns" "turns" Zb7 f30 d30)
  (a31:PySem.W.nsIn K mainGlobals "twists" = some (some (.ref f31))) (l31:Ym K "twists" "twists" Zc3 f31 d31)
  (a32:PySem.W.nsIn K mainGlobals "_law_bag" = some (some (.ref f32))) (l32:Ym K "_law_bag" "_law_bag" Zai f32 d32)
  (a33:PySem.W.nsIn K mainGlobals "_law_take" = some (some (.ref f33))) (l33:Ym K "_law_take" "_law_take" Ux f33 d33)
  (a34:PySem.W.nsIn K mainGlobals "_law_drawing" = some (some (.ref f34))) (l34:Ym K "_law_drawing" "_law_drawing" WJ f34 d34)
  (a35:PySem.W.nsIn K mainGlobals "_law_plat" = some (some (.ref f35))) (l35:Ym K "_law_plat" "_law_plat" JY f35 d35)
  (a36:PySem.W.nsIn K mainGlobals "_law_any" = some (some (.ref f36))) (l36:Ym K "_law_any" "_law_any" Zam f36 d36)
  (a37:PySem.W.nsIn K mainGlobals "_law_moved" = some (some (.ref f37))) (l37:Ym K "_law_moved" "_law_moved" Wd f37 d37)
  (a38:PySem.W.nsIn K mainGlobals "_law_many" = some (some (.ref f38))) (l38:Ym K "_law_many" "_law_many" WY f38 d38)
  (a39:PySem.W.nsIn K mainGlobals "_law_told" = some (some (.ref f39))) (l39:Ym K "_law_told" "_law_told" Uo f39 d39)
  (a40:PySem.W.nsIn K mainGlobals "_law_behind" = some (some (.ref f40))) (l40:Ym K "_law_behind" "_law_behind" Je f40 d40)
  (a41:PySem.W.nsIn K mainGlobals "_law_within" = some (some (.ref f41))) (l41:Ym K "_law_within" "_law_within" Ji f41 d41)
  (a42:PySem.W.nsIn K mainGlobals "law" = some (some (.ref f42))) (l42:Ym K "law" "law" ZbL f42 d42)
  (ZkP:PySem.W.nsIn K mainGlobals "len" = some none)
  (Zec:PySem.W.nsIn K mainGlobals "range" = some none)
  (Zkt:PySem.W.nsIn K mainGlobals "abs" = some none)
  (GX:PySem.W.nsIn K mainGlobals "isinstance" = some none)
  (Zkb:PySem.W.nsIn K mainGlobals "int" = some none)
  (Zgs:PySem.W.nsIn K mainGlobals "bool" = some none)
  (ZjW:PySem.W.nsIn K mainGlobals "all" = some none)
  (Zj4:PySem.W.nsIn K mainGlobals "any" = some none)
  (Zc2:PySem.W.nsIn K mainGlobals "sorted" = some none)
  (ZjH:PySem.W.nsIn K mainGlobals "max" = some none)
  (Zjq:PySem.W.nsIn K mainGlobals "min" = some none)
  (ZgY:PySem.W.nsIn K mainGlobals "list" = some none)
  (ZjN:PySem.W.nsIn K mainGlobals "zip" = some none)
  (UK:PySem.W.nsIn K mainGlobals "enumerate" = some none)
  (GV:PySem.W.nsIn K mainGlobals "ValueError" = some none)
  (Zgl:PySem.W.nsIn K mainGlobals "dict" = some none)
  (ZkT:PySem.W.nsIn K mainGlobals "sum" = some none)
  (Zj0:PySem.W.nsIn K mainGlobals "set" = some none)
  (Zeo:PySem.W.nsIn K mainGlobals "tuple" = some none):
  ∃fd:FuncData,(∀(s:Shared) (v:Value),BindsTo s fd ⟨[v],[]⟩ [("_law_script", v)]) /\ ∀base:Heap,K.In base->base.Ns mainGlobals mg->ZX l.prog w K mg base J4 12 fa fd ["_law_script"] (ZhK K):=by
 have e:=hfa.symm.trans (PySem.W.mg_of X G a42)
 cases e
 have ZL:mg "len" = none:=PySem.W.mg_none_of X G ZkP
 have ZT:mg "range" = none:=PySem.W.mg_none_of X G Zec
 have Zcq:mg "abs" = none:=PySem.W.mg_none_of X G Zkt
 have Zk1:mg "isinstance" = none:=PySem.W.mg_none_of X G GX
 have ZpL:mg "int" = none:=PySem.W.mg_none_of X G Zkb
 have Zpi:mg "bool" = none:=PySem.W.mg_none_of X G Zgs
 have ZpD:mg "all" = none:=PySem.W.mg_none_of X G ZjW
 have ZpG:mg "any" = none:=PySem.W.mg_none_of X G Zj4
 have Jf:mg "sorted" = none:=PySem.W.mg_none_of X G Zc2
 have Zhz:mg "max" = none:=PySem.W.mg_none_of X G ZjH
 have ZjC:mg "min" = none:=PySem.W.mg_none_of X G Zjq
 have ZbD:mg "list" = none:=PySem.W.mg_none_of X G ZgY
 have Zdz:mg "zip" = none:=PySem.W.mg_none_of X G ZjN
 have ZQ:mg "enumerate" = none:=PySem.W.mg_none_of X G UK
 have Zld:mg "ValueError" = none:=PySem.W.mg_none_of X G GV
 have Zpr:mg "dict" = none:=PySem.W.mg_none_of X G Zgl
 have Zkz:mg "sum" = none:=PySem.W.mg_none_of X G ZkT
 have ZpF:mg "set" = none:=PySem.W.mg_none_of X G Zj0
 have ZeD:mg "tuple" = none:=PySem.W.mg_none_of X G Zeo
 have GU:=PySem.W.mg_of X G Gb
 have Zes:mg "GAINS" = some (.ref WX):=PySem.W.mg_of X G Zcm
 have Wm:mg "TooMany" = some (.ref ZI):=PySem.W.mg_of X G Zat
 have Zbs:mg "WordWay" = some (.ref Zw):=PySem.W.mg_of X G Zas
 have ZaG:=l0
 have Zel:=ZaG.binds (ps:=["drawing", "kind"]) fun _ _ _ _ _ _=>us2 fun _ _=>rfl
 have ZdO:=l1
 have Zil:=ZdO.binds (ps:=["drawing"]) fun _ _ _ _ _ _=>us1 fun _=>rfl
 have Uu:=l2
 have Zcy:=Uu.binds (ps:=["drawing"]) fun _ _ _ _ _ _=>us1 fun _=>rfl
 have ZdF:=l3
 have ZiH:=ZdF.binds (ps:=["drawing"]) fun _ _ _ _ _ _=>us1 fun _=>rfl
 have ZcK:=l4
 have Zgv:=ZcK.binds (ps:=["drawing"]) fun _ _ _ _ _ _=>us1 fun _=>rfl
 have Zmp:=l5
 have Zoo:=Zmp.binds (ps:=["odd", "words"]) fun _ _ _ _ _ _=>us2 fun _ _=>rfl
 have ZhG:=l6
 have ZkX:=ZhG.binds (ps:=["one", "other"]) fun _ _ _ _ _ _=>us2 fun _ _=>rfl
 have Zba:=l7
 have Zew:=Zba.binds (ps:=["one", "other"]) fun _ _ _ _ _ _=>us2 fun _ _=>rfl
 have Gv:=l8
 have ZbF:=Gv.binds (ps:=["self"]) fun _ _ _ _ _ _=>us1 fun _=>rfl
 have Ut:=l9
 have Zc0:=Ut.binds (ps:=["self"]) fun _ _ _ _ _ _=>us1 fun _=>rfl
 have Uz:=l10
 have Zcp:=Uz.binds (ps:=["self", "one", "other"]) fun _ _ _ _ _ _=>us3 fun _ _ _=>rfl
 have Ui:=l11
 have ZbW:=Ui.binds (ps:=["self", "one", "other"]) fun _ _ _ _ _ _=>us3 fun _ _ _=>rfl
 have UR:=l12
 have Zc1:=UR.binds (ps:=["table", "k", "way"]) fun _ _ _ _ _ _=>us3 fun _ _ _=>rfl
 have W6:=l13
 have ZaD:=W6.binds (ps:=["table", "k", "name", "way"]) fun _ _ _ _ _ _=>us4 fun _ _ _ _=>rfl
 have ZaS:=l14
 have Zee:=ZaS.binds (ps:=["table", "k", "name", "way"]) fun _ _ _ _ _ _=>us4 fun _ _ _ _=>rfl
 have UC:=l15
 have Zcg:=UC.binds (ps:=["table", "letter", "name", "way"]) fun _ _ _ _ _ _=>us4 fun _ _ _ _=>rfl
 have Zac:=l16
 have Zdu:=Zac.binds (ps:=["table"]) fun _ _ _ _ _ _=>us1 fun _=>rfl
 have Za3:=l17
 have Zem:=Za3.binds (ps:=["drawing"]) fun _ _ _ _ _ _=>us1 fun _=>rfl
 have Zh2:=l18
 have Zlk:=Zh2.binds (ps:=["drawing"]) fun _ _ _ _ _ _=>us1 fun _=>rfl
 have ZdQ:=l19
 have Zii:=ZdQ.binds (ps:=["drawing"]) fun _ _ _ _ _ _=>us1 fun _=>rfl
 have Zae:=l20
 have Zdv:=Zae.binds (ps:=["drawing", "numbers"]) fun _ _ _ _ _ _=>us2 fun _ _=>rfl
 have ZbG:=l21
 have ZfS:=ZbG.binds (ps:=["drawing"]) fun _ _ _ _ _ _=>us1 fun _=>rfl
 have ZbI:=l22
 have ZfY:=ZbI.binds (ps:=["thread"]) fun _ _ _ _ _ _=>us1 fun _=>rfl
 have ZbO:=l23
 have Ze8:=ZbO.binds (ps:=["drawing"]) fun _ _ _ _ _ _=>us1 fun _=>rfl
 have ZbQ:=l24
 have Zfe:=ZbQ.binds (ps:=["first", "mates"]) fun _ _ _ _ _ _=>us2 fun _ _=>rfl
 have Zhj:=l25
 have Zlw:=Zhj.binds (ps:=["drawing"]) fun _ _ _ _ _ _=>us1 fun _=>rfl
 have Zfg:=l26
 have Zko:=Zfg.binds (ps:=["drawing"]) fun _ _ _ _ _ _=>us1 fun _=>rfl
 have Zcl:=l27
 have ZgV:=Zcl.binds (ps:=["drawing"]) fun _ _ _ _ _ _=>us1 fun _=>rfl
 have GB:=l28
 have ZbE:=GB.binds (ps:=["drawing"]) fun _ _ _ _ _ _=>us1 fun _=>rfl
 have ZaO:=l29
 have Zei:=ZaO.binds (ps:=["tour", "uppers"]) fun _ _ _ _ _ _=>us2 fun _ _=>rfl
 have Zhp:=l30
 have ZlF:=Zhp.binds (ps:=["drawing"]) fun _ _ _ _ _ _=>us1 fun _=>rfl
 have ZfT:=l31
 have Zi9:=ZfT.binds (ps:=["drawing"]) fun _ _ _ _ _ _=>us1 fun _=>rfl
 have Zco:=l32
 have Zga:=Zco.binds (ps:=["_law_script", "_law_at"]) fun _ _ _ _ _ _=>us2 fun _ _=>rfl
 have ZbN:=l33
 have ZfZ:=ZbN.binds (ps:=["_law_bag_here", "_law_many_here"]) fun _ _ _ _ _ _=>us2 fun _ _=>rfl
 have UH:=l34
 have ZcD:=UH.binds (ps:=["_law_bag_here", "_law_births", "_law_most"]) fun _ _ _ _ _ _=>us3 fun _ _ _=>rfl
 have ZbK:=l35
 have Zfu:=ZbK.binds (ps:=["_law_bag_here", "_law_most"]) fun _ _ _ _ _ _=>us2 fun _ _=>rfl
 have Zdb:=l36
 have Zgh:=Zdb.binds (ps:=["_law_bag_here", "_law_most"]) fun _ _ _ _ _ _=>us2 fun _ _=>rfl
 have ZaK:=l37
 have ZeQ:=ZaK.binds (ps:=["_law_sums", "_law_many_here"]) fun _ _ _ _ _ _=>us2 fun _ _=>rfl
 have ZbR:=l38
 have ZfF:=ZbR.binds (ps:=["_law_letters"]) fun _ _ _ _ _ _=>us1 fun _=>rfl
 have ZbM:=l39
 have Zf7:=ZbM.binds (ps:=["_law_drawing_here"]) fun _ _ _ _ _ _=>us1 fun _=>rfl
 have Zah:=l40
 have Zdl:=Zah.binds (ps:=["_law_one", "_law_other"]) fun _ _ _ _ _ _=>us2 fun _ _=>rfl
 have Zag:=l41
 have Zdj:=Zag.binds (ps:=["_law_one", "_law_other", "_law_t", "_law_k"]) fun _ _ _ _ _ _=>us4 fun _ _ _ _=>rfl
 have Zmd:=l42
 have ZpE:=Zmd.binds (ps:=["_law_script"]) fun _ _ _ _ _ _=>us1 fun _=>rfl
 obtain ⟨oc,od,kV,dc,pm,an,cd,ct,sl,rfl,_,_⟩:=l42.ex
 refine ⟨PySem.W.fnOf "law" "law" (ZaN ZbL) (GY ZbL) (Zi ZbL) .none kV dc pm an cd ct,fun s v=>.of_eq rfl,fun base _ _=>?_⟩
 have Y4:Yi l.prog w K mg base 1 "letters_of" ["drawing", "kind"] U5:=ZP (ZgJ ZaG ZQ) (PySem.W.mg_of X G a0) l0.kp Zel
 have Gz:Yi l.prog w K mg base 1 "strands" ["drawing"] Zbp:=ZP (ZgP ZdO Zes ZcR) (PySem.W.mg_of X G a1) l1.kp Zil
 have WK:Yi l.prog w K mg base 2 "crossings_of" ["drawing"] (WH fun x=>decide (x = "cross")):=ZP (Zen Uu Y4) (PySem.W.mg_of X G a2) l2.kp Zcy
 have Z0:Yi l.prog w K mg base 2 "ends_of" ["drawing"] (WH fun x=>decide (x = "end")):=ZP (Zle ZdF Y4) (PySem.W.mg_of X G a3) l3.kp ZiH
 have Yk:Yi l.prog w K mg base 1 "names_of" ["drawing"] (WH fun x=>!decide (x = "born")):=ZP (Zi2 ZcK ZQ) (PySem.W.mg_of X G a4) l4.kp Zgv
 have ZcT:Yi l.prog w K mg base 1 "put" ["odd", "words"] ZhN:=ZP (Znw Zmp) (PySem.W.mg_of X G a5) l5.kp Zoo
 have UZ:Yi l.prog w K mg base 2 "added" ["one", "other"] Zb4:=ZP (Zjr ZhG ZcT Jf) (PySem.W.mg_of X G a6) l6.kp ZkX
 have Ua:Yi l.prog w K mg base 2 "multiplied" ["one", "other"] Zgu:=ZP (ZlJ Zba ZcT Jf) (PySem.W.mg_of X G a7) l7.kp Zew
 have J1:ZaP l.prog w K mg base 1 Zw "nought" ["self"] (Za1 Zw):=Zb1 (Zh9 Gv) a8 n8 l8.kp ZbF
 have ZgQ:ZaP l.prog w K mg base 1 Zw "unit" ["self"] (Zgj Zw):=Zb1 (Zl3 Ut) a9 n9 l9.kp Zc0
 have GI:ZaP l.prog w K mg base 3 Zw "plus" ["self", "one", "other"] Zcf:=Zb1 (Zjs Uz UZ) a10 n10 l10.kp Zcp
 have Wj:ZaP l.prog w K mg base 3 Zw "times" ["self", "one", "other"] ZaT:=Zb1 (ZiB Ui Ua) a11 n11 l11.kp ZbW
 have WE:Yi l.prog w K mg base 2 "behind_birth" ["table", "k", "way"] (ZeN Zw):=ZP (ZkD UR c_way J1 ZgQ ZT ZL) (PySem.W.mg_of X G a12) l12.kp Zc1
 have JA:Yi l.prog w K mg base 4 "behind_crossing" ["table", "k", "name", "way"] (ZeA Zw):=ZP (Zku W6 c_way J1 GI Wj ZT ZL ZbD) (PySem.W.mg_of X G a13) l13.kp ZaD
 have GR:Yi l.prog w K mg base 4 "behind_end" ["table", "k", "name", "way"] (ZkO Zw):=ZP (ZmQ ZaS c_way GI Wj ZT ZL Zdz) (PySem.W.mg_of X G a14) l14.kp Zee
 have WN:Yi l.prog w K mg base 5 "table_behind" ["table", "letter", "name", "way"] (ZmM Zw):=ZP (Zoc UC WE JA GR) (PySem.W.mg_of X G a15) l15.kp Zcg
 have Gk:Ze3 l.prog w K mg base 1 "check_words" ["table"] (ZmJ ZI):=ZeZ (ZoI Zac Wm Ju GU ZL) (PySem.W.mg_of X G a16) l16.kp Zdu
 have GW:Ze3 l.prog w K mg base 6 "sum_tables" ["drawing"] (ZnT ZI Zw):=ZeZ (ZoH Za3 Zbs k_WordWay WN Gk ZQ) (PySem.W.mg_of X G a17) l17.kp Zem
 have Zd7:Ze3 l.prog w K mg base 7 "deeds" ["drawing"] (ZeG ZI):=ZeZ (Zjb Zh2 GW Yk UZ) (PySem.W.mg_of X G a18) l18.kp Zlk
 have Jt:Yi l.prog w K mg base 1 "threads" ["drawing"] Zd1:=ZP (Zgf ZdQ ZbD) (PySem.W.mg_of X G a19) l19.kp Zii
 have YM:Yi l.prog w K mg base 2 "pairs_ahead" ["drawing", "numbers"] Zca:=ZP (ZjP Zae Jt) (PySem.W.mg_of X G a20) l20.kp Zdv
 have Js:Yi l.prog w K mg base 3 "end_pairs" ["drawing"] ZeP:=ZP (Zeh ZbG YM Z0) (PySem.W.mg_of X G a21) l21.kp ZfS
 have YZ:Yi l.prog w K mg base 1 "born_with" ["thread"] Zlr:=ZP (ZoB ZbI) (PySem.W.mg_of X G a22) l22.kp ZfY
 have UM:Yi l.prog w K mg base 4 "end_mates" ["drawing"] Zer:=ZP (Zjd ZbO Js ZL) (PySem.W.mg_of X G a23) l23.kp Ze8
 have UO:Yi l.prog w K mg base 2 "tour_from" ["first", "mates"] ZgC:=ZP (ZlV ZbQ YZ) (PySem.W.mg_of X G a24) l24.kp Zfe
 have We:Yi l.prog w K mg base 5 "tours" ["drawing"] ZaB:=ZP (ZjR Zhj UM UO ZL ZT) (PySem.W.mg_of X G a25) l25.kp Zlw
 have GD:Yi l.prog w K mg base 6 "pieces" ["drawing"] Zdd:=ZP (ZiN Zfg Z0 We ZL ZQ) (PySem.W.mg_of X G a26) l26.kp Zko
 have Zal:Yi l.prog w K mg base 6 "to_right" ["drawing"] Zbf:=ZP (ZfM Zcl Z0 We ZL) (PySem.W.mg_of X G a27) l27.kp ZgV
 have JS:Yi l.prog w K mg base 4 "uppers_at_ends" ["drawing"] ZcB:=ZP (Zin GB Z0 Js ZL) (PySem.W.mg_of X G a28) l28.kp ZbE
 have GO:Yi l.prog w K mg base 2 "steps_down" ["tour", "uppers"] Zej:=ZP (Zjy ZaO YZ ZQ) (PySem.W.mg_of X G a29) l29.kp Zei
 have JF:Yi l.prog w K mg base 6 "turns" ["drawing"] Zb2:=ZP (ZjS Zhp JS GO We Zcq Zkz) (PySem.W.mg_of X G a30) l30.kp ZlF
 have Jh:Yi l.prog w K mg base 7 "twists" ["drawing"] ZaQ:=ZP (ZiQ ZfT Z0 WK Zal YM ZL) (PySem.W.mg_of X G a31) l31.kp Zi9
 have Zak:Yi l.prog w K mg base 1 "_law_bag" ["_law_script", "_law_at"] (Zjo K):=ZP (Znp Zco ZL Zcq) (PySem.W.mg_of X G a32) l32.kp Zga
 have Zt:Yi l.prog w K mg base 1 "_law_take" ["_law_bag_here", "_law_many_here"] Zbl:=ZP (Zlc ZbN) (PySem.W.mg_of X G a33) l33.kp ZfZ
 have Yz:Yi l.prog w K mg base 2 "_law_drawing" ["_law_bag_here", "_law_births", "_law_most"] (Zez 0):=ZP (Zll UH Zt ZT) (PySem.W.mg_of X G a34) l34.kp ZcD
 have UQ:Yi l.prog w K mg base 2 "_law_plat" ["_law_bag_here", "_law_most"] ZdS:=ZP (ZlK ZbK Zt ZT) (PySem.W.mg_of X G a35) l35.kp Zfu
 have Zau:Yi l.prog w K mg base 3 "_law_any" ["_law_bag_here", "_law_most"] ZdS:=ZP (ZnD Zdb Zt UQ Yz) (PySem.W.mg_of X G a36) l36.kp Zgh
 have Y7:Yi l.prog w K mg base 1 "_law_moved" ["_law_sums", "_law_many_here"] Zcb:=ZP (Zkd ZaK ZeD) (PySem.W.mg_of X G a37) l37.kp ZeQ
 have Ga:Yi l.prog w K mg base 1 "_law_many" ["_law_letters"] ZgF:=ZP (Zlb ZbR) (PySem.W.mg_of X G a38) l38.kp ZfF
 have Yf:Yi l.prog w K mg base 8 "_law_told" ["_law_drawing_here"] ZeC:=ZP (Zk5 ZbM Wm Ju Gq Zd7) (PySem.W.mg_of X G a39) l39.kp Zf7
 have JX:Yi l.prog w K mg base 9 "_law_behind" ["_law_one", "_law_other"] ZcY:=ZP (ZiF Zah Gz Yk GD Jt JF Jh Yf Y7 ZL) (PySem.W.mg_of X G a40) l40.kp Zdl
 have Gf:Yi l.prog w K mg base 9 "_law_within" ["_law_one", "_law_other", "_law_t", "_law_k"] ZcO:=ZP (ZiM Zag Yk JF Jh Yf Y7 ZL Jf Zdz) (PySem.W.mg_of X G a41) l41.kp Zdj
 exact Znm Zmd Zak Zt Yz Zau JX Gf Ga ZT ZL Zhz ZjC
theorem walk {l:PySem.W.OpenLaw}{q:Program}{loose:List Str}{XP:(Str->Option Value)->Heap->Prop}{YP:World->Heap->Prop}{d:DefRec}{K:Params->PySem.W.Frag} (hn:l.most=some 63) (hdf:d.params.defaults = [])
  (hY:∀(w:World) (h:Heap),YP w h->(K w.params).In h)
  (F:∀(w:World) (mg:Str->Option Value) (fa:Addr) (h:Heap),(K w.params).In h->h.Ns mainGlobals mg->mg d.name=some (.ref fa) ->
   ∃fd:FuncData,(∀(s:Shared) (u:Value),BindsTo s fd ⟨[u],[]⟩ [("_law_script", u)]) /\ ∀base:Heap,(K w.params).In base->base.Ns mainGlobals mg->ZX l.prog w (K w.params) mg base J4 12 fa fd ["_law_script"] (ZhK (K w.params))):
  PySem.W.WalkO q loose XP YP l.row.toRowW d [] (fun f vs=>PySem.call f vs):=
 L2.ZlD (n:=63) (k:=12) (x := "_law_script") (CX:=fun _=>J4) (sp:=fun w=>ZhK (K w.params)) hn (by decide) hdf ⟨rfl,by decide,by decide⟩ hY F (fun _ _ a ns hl _ hS=>⟨a,ns,rfl,hS,hl,fun _=>rfl⟩) fun _ _ _ _ _ z=>z
end
end Qk19
namespace PySem.W.Fast
def tw14224792112311825600:=0
def tw18072083164286842080:=0
def tw14377775907215780416:=0
def tw5369699790103636896:=0
def tw2864741213346832352:=0
def tw9769997831777336321:=0
def tw14658730072719813857:=0
def tw8680764472072744257:=0
def tw13983265283519303105:=0
def tw8306712041623257921:=0
def tw807618079685940065:=0
def tw13288962389922672481:=0
def tw6829762774748144481:=0
def tw344222930599298050:=0
def tw12617193171277304930:=0
def tw12109594976907235490:=0
def tw9017223403958355234:=0
def tw14083033355762893154:=0
def tw2917606636284423618:=0
def tw394822694060718626:=0
def tw6445029021558463042:=0
def tw9453276546487613122:=0
def tw15644960452320293634:=0
def tw17834762498200259426:=0
def tw7943316717383395202:=0
def tw2566248094062110626:=0
def tw16940364224247695555:=0
def tw12901455465859492099:=0
def tw7793188978461215011:=0
def tw4134749375143784835:=0
def tw5482755274251170275:=0
def tw14202931414979418595:=0
def tw15052703564369443427:=0
def tw3380425017859941987:=0
def tw11905732347067439811:=0
def tw16871241220065075907:=0
def tw2063992490922325731:=0
def tw8845167045095271139:=0
def tw6860238695086499587:=0
def tw1849663323486216963:=0
def tw16313588171619259331:=0
def tw16903268476409169891:=0
def tw745893949928153156:=0
def tw12956984398398520708:=0
def tw5870654440107142756:=0
def tw6290060228994210788:=0
def tw17417434196740690949:=0
def tw16045534358078386405:=0
def tw13434605038809978117:=0
def tw9926314602128316677:=0
def tw7426759470934769989:=0
def tw8044524951633056613:=0
def tw8395769187639440261:=0
def tw8664448389534479269:=0
def tw16406805579016366053:=0
def tw13901863587755497510:=0
def tw16373376968086531174:=0
def tw3403059647914188998:=0
def tw9928542884361661734:=0
def tw3994631144628271590:=0
def tw15396570671411966566:=0
def tw3276881471868604358:=0
def tw17924411740350205319:=0
def tw11621053005086478823:=0
def tw8008383377068827111:=0
def tw14347971351626278439:=0
def tw1433741286644037479:=0
def tw9641108677341198344:=0
def tw16929770873582000328:=0
def tw16459830234394483048:=0
def tw2943489161885623688:=0
def tw13979641123716331368:=0
def tw608266650299407272:=0
def tw11511966080749919176:=0
def tw9928803063598102569:=0
def tw12643818883717769257:=0
def tw8621354153001500745:=0
def tw17909090036662353033:=0
def tw1812768560558770345:=0
def tw1828700196345471433:=0
def tw12907037440929794601:=0
def tw7965394415589428073:=0
def tw7042294006452320298:=0
def tw13084131335023379530:=0
def tw1188931742446997738:=0
def tw5142884691459309002:=0
def tw15931869559041766890:=0
def tw175171449523154474:=0
def tw14482400321042915946:=0
def tw13713413063569751690:=0
def tw12732894507968253610:=0
def tw17025310491550538538:=0
def tw11252264521118027562:=0
def tw12445529277450442698:=0
def tw6666632799882316811:=0
def tw2389830947388346379:=0
def tw1033859841074630891:=0
def tw14440064374751885675:=0
def tw12657443770167758283:=0
def tw16246846674006199787:=0
def tw8730192753554910827:=0
def tw14109848547731677835:=0
def tw4304217125686716235:=0
def tw2466907349658220363:=0
def tw18136122453251509195:=0
def tw8770715942532395180:=0
def tw18128898112333377708:=0
def tw15292085848926539020:=0
def tw9217200415192644012:=0
def tw13020600213944290060:=0
def tw15050866057989496620:=0
def tw12508789158334835789:=0
def tw6185103531638527085:=0
def tw8632030716976518381:=0
def tw11806258946498681357:=0
def tw17347254659719334733:=0
def tw16446595162141690030:=0
def tw15108323040597453006:=0
def tw5778622616519824622:=0
def tw4082495879868760398:=0
def tw1742512837916850702:=0
def tw3908813103273286350:=0
def tw18137669998784598798:=0
def tw8567300059716149070:=0
def tw14196073190605946734:=0
def tw12186782111557568398:=0
def tw17437152559492013103:=0
def tw12040474259198890031:=0
def tw1359194767946191951:=0
def tw2256440148934552815:=0
def tw6203407634514225647:=0
def tw6713808940112737807:=0
def tw11148030864951243279:=0
def tw2290206501681686063:=0
def tw15553607871725905551:=0
def tw13222283030451456719:=0
def tw11752500169870145231:=0
def tw3886134897511333583:=0
def tw1732721101218094831:=0
def tw16440325444038730639:=0
def tw13601026990698245007:=0
def tw9552917180419565519:=0
def tw11015396047076973584:=0
def tw13158455625847406640:=0
def tw13765975499637528656:=0
def tw15586783056847128720:=0
def tw14076627061628849328:=0
def tw7865694480323817744:=0
def tw10533383113102850512:=0
def tw10300801245966515760:=0
def tw10400232127378354832:=0
def tw1485503749537757840:=0
def tw8355665431994004144:=0
def tw6081269487922193136:=0
def tw10860012322716455792:=0
def tw13423667640728007632:=0
def tw1670746266752355312:=0
def tw12170565566444177425:=0
def tw3485991340455681105:=0
def tw4484118715561552017:=0
def tw1022598731934523633:=0
def tw9596668236713458993:=0
def tw8347865746485236017:=0
def tw1967260475114188145:=0
def tw13488440191014084305:=0
def tw1229513072123620049:=0
def tw5981879740785686353:=0
def tw14650613288807505777:=0
def tw8624013097231979377:=0
def tw5359081032988302354:=0
def tw12947420161478823026:=0
def tw11182732074982092914:=0
def tw8023497808842416274:=0
def tw3220050489234424978:=0
def tw1261421642925395122:=0
def tw1818808256017100018:=0
def tw5941062055242571250:=0
def tw9478200961419502162:=0
def tw16255366907114855026:=0
def tw13604720925700311666:=0
def tw13319177460899993298:=0
def tw11997761308241484658:=0
def tw24581168826339314:=0
def tw3125639889365618771:=0
def tw8906129710237738227:=0
def tw12316287242641999123:=0
def tw1427459349865464115:=0
def tw6643928966242094579:=0
def tw15500784862216753971:=0
def tw372071453785382803:=0
def tw7227841217579331636:=0
def tw4718976474188180692:=0
def tw17468261107270789428:=0
def tw13786369587209200148:=0
def tw16266665042353716820:=0
def tw16085179230685889172:=0
def tw18408804684930797268:=0
def tw15548871301455587220:=0
def tw17068860326904935509:=0
def tw1389177201664451829:=0
def tw13799621506678845717:=0
def tw8572615598620944693:=0
def tw6982096768432560469:=0
def tw14724837808283214229:=0
def tw12472915740961156565:=0
def tw8912170225656112661:=0
def tw2191201130720716405:=0
def tw5149671564824648405:=0
def tw8129796711619846933:=0
def tw1489865724185753429:=0
def tw11800467909343899541:=0
def tw4665904957915992021:=0
def tw15187965848283370485:=0
def tw10748862201809495190:=0
def tw18159154149760861334:=0
def tw4330652199432564246:=0
def tw14367266567185129014:=0
def tw13676095978972899990:=0
def tw2663650215081605846:=0
def tw592012238710511350:=0
def tw7372439908070771767:=0
def tw18204798453987602615:=0
def tw9099238202501000183:=0
def tw5687192749517303832:=0
def tw8788419764823217176:=0
def tw13825936360704750776:=0
def tw6656949067891868856:=0
def tw12461152958884654296:=0
def tw7908011202556324184:=0
def tw9993692843824036216:=0
def tw4760114305374903736:=0
def tw15270239578458358232:=0
def tw9331858099450701464:=0
def tw8386142030090933112:=0
def tw3049377240927814648:=0
def tw9539400637522896953:=0
def tw10759531732095980761:=0
def tw6078341233133510073:=0
def tw9053944496039345817:=0
def tw5811379731540411033:=0
def tw4629309175886037018:=0
def tw4723690392700331098:=0
def tw9549382590147951866:=0
def tw17185359459886160154:=0
def tw12436809774440327514:=0
def tw12424364556536989018:=0
def tw13157511091777770938:=0
def tw17011447212516294362:=0
def tw2616853561093798650:=0
def tw3232297506512956250:=0
def tw12055474245466528602:=0
def tw7670607718386948155:=0
def tw1954547930537943323:=0
def tw5866288880314653339:=0
def tw15849128149403916955:=0
def tw18086326736174753499:=0
def tw6980296249745268475:=0
def tw13626303594666902331:=0
def tw15710090902093547355:=0
def tw8844800124787099515:=0
def tw14328121500047962396:=0
def tw8977678284337816860:=0
def tw10508883867752004252:=0
def tw11849243405956742876:=0
def tw1906831752108858076:=0
def tw11423675858485776156:=0
def tw12698127792790140924:=0
def tw1451206426513819709:=0
def tw7724089960367835325:=0
def tw15548523100874018013:=0
def tw15598368495817869597:=0
def tw13926665796235357693:=0
def tw13069897207627089469:=0
def tw2314187791285766749:=0
def tw11367495547642326717:=0
def tw2489264170369203901:=0
def tw8717579450059505373:=0
def tw16625886031798263773:=0
def tw12714617342513516541:=0
def tw976005360034537534:=0
def tw7455045602083728478:=0
def tw4514694897576363134:=0
def tw17162235537696635134:=0
def tw3691919807054302526:=0
def tw7781845337399991710:=0
def tw15382697162266583582:=0
def tw8741972049453961758:=0
def tw367832308897306142:=0
def tw16712880402557561566:=0
def tw8754438448269307774:=0
def tw5044037494543702079:=0
def tw8458947338425586047:=0
def tw7109907412373855711:=0
def tw14612234216940223167:=0
def tw6722532776783219519:=0
def tw15565212745234301759:=0
def tw12081276580273273417:=0
end PySem.W.Fast
open PySem PySem.W PyProof.Rows
set_option maxRecDepth 100000 in
set_option maxHeartbeats 0 in
theorem PySem.Challenge.cw_bendfronts_k19_side_by_side_holds : PySem.Challenge.rw_bendfronts_k19_side_by_side.Holds := by
 w_on; o_law; k_head; (case hw => w_witness2)
 k_fill
 refine Qk19.walk (l := PySem.Challenge.rw_bendfronts_k19_side_by_side) rfl rfl (fun w h Y => PySem.W.kIn_of Y) ?F
 case F =>
  intro w mg fa h KX G hmg
  refine' Qk19.all_mk KX G hmg ?Zcm ?ZcR ?Gb ?Zat ?Zas ?Ju ?c_way ?k_WordWay ?Gq ?a0 ?l0 ?a1 ?l1 ?a2 ?l2 ?a3 ?l3 ?a4 ?l4 ?a5 ?l5 ?a6 ?l6 ?a7 ?l7 ?a8 ?l8 ?n8 ?a9 ?l9 ?n9 ?a10 ?l10 ?n10 ?a11 ?l11 ?n11 ?a12 ?l12 ?a13 ?l13 ?a14 ?l14 ?a15 ?l15 ?a16 ?l16 ?a17 ?l17 ?a18 ?l18 ?a19 ?l19 ?a20 ?l20 ?a21 ?l21 ?a22 ?l22 ?a23 ?l23 ?a24 ?l24 ?a25 ?l25 ?a26 ?l26 ?a27 ?l27 ?a28 ?l28 ?a29 ?l29 ?a30 ?l30 ?a31 ?l31 ?a32 ?l32 ?a33 ?l33 ?a34 ?l34 ?a35 ?l35 ?a36 ?l36 ?a37 ?l37 ?a38 ?l38 ?a39 ?l39 ?a40 ?l40 ?a41 ?l41 ?a42 ?l42 ?ZkP ?Zec ?Zkt ?GX ?Zkb ?Zgs ?ZjW ?Zj4 ?Zc2 ?ZjH ?Zjq ?ZgY ?ZjN ?UK ?GV ?Zgl ?ZkT ?Zj0 ?Zeo
  (case Zcm => k_is)
  (case ZcR => first | (unfold L2.Zhe; decide +kernel) | k_is | rfl | decide +kernel)
  (case Gb => first | k_is | rfl)
  (case Zat => k_is)
  (case Zas => k_is)
  (case Ju => k_exc)
  (case c_way => exact ⟨by first | k_is | rfl | decide +kernel, by first | k_is | rfl | decide +kernel, by first | k_is | rfl | decide +kernel, by first | k_is | rfl | decide +kernel⟩)
  (case k_WordWay => exact ⟨by first | k_is | rfl | decide +kernel, by first | k_is | rfl | decide +kernel, by first | k_is | rfl | decide +kernel⟩)
  (case Gq => first | k_is | rfl | decide +kernel)
  (case a0 => k_is)
  (case l0 => exact L2.ZE (by k_is) (by k_is) (by k_is))
  (case a1 => k_is)
  (case l1 => exact L2.ZE (by k_is) (by k_is) (by k_is))
  (case a2 => k_is)
  (case l2 => exact L2.ZE (by k_is) (by k_is) (by k_is))
  (case a3 => k_is)
  (case l3 => exact L2.ZE (by k_is) (by k_is) (by k_is))
  (case a4 => k_is)
  (case l4 => exact L2.ZE (by k_is) (by k_is) (by k_is))
  (case a5 => k_is)
  (case l5 => exact L2.ZE (by k_is) (by k_is) (by k_is))
  (case a6 => k_is)
  (case l6 => exact L2.ZE (by k_is) (by k_is) (by k_is))
  (case a7 => k_is)
  (case l7 => exact L2.ZE (by k_is) (by k_is) (by k_is))
  (case a8 => first | k_is | rfl | decide +kernel)
  (case l8 => exact L2.ZE (by k_is) (by k_is) (by k_is))
  (case n8 => first | k_is | rfl | decide +kernel)
  (case a9 => first | k_is | rfl | decide +kernel)
  (case l9 => exact L2.ZE (by k_is) (by k_is) (by k_is))
  (case n9 => first | k_is | rfl | decide +kernel)
  (case a10 => first | k_is | rfl | decide +kernel)
  (case l10 => exact L2.ZE (by k_is) (by k_is) (by k_is))
  (case n10 => first | k_is | rfl | decide +kernel)
  (case a11 => first | k_is | rfl | decide +kernel)
  (case l11 => exact L2.ZE (by k_is) (by k_is) (by k_is))
  (case n11 => first | k_is | rfl | decide +kernel)
  (case a12 => k_is)
  (case l12 => exact L2.ZE (by k_is) (by k_is) (by k_is))
  (case a13 => k_is)
  (case l13 => exact L2.ZE (by k_is) (by k_is) (by k_is))
  (case a14 => k_is)
  (case l14 => exact L2.ZE (by k_is) (by k_is) (by k_is))
  (case a15 => k_is)
  (case l15 => exact L2.ZE (by k_is) (by k_is) (by k_is))
  (case a16 => k_is)
  (case l16 => exact L2.ZE (by k_is) (by k_is) (by k_is))
  (case a17 => k_is)
  (case l17 => exact L2.ZE (by k_is) (by k_is) (by k_is))
  (case a18 => k_is)
  (case l18 => exact L2.ZE (by k_is) (by k_is) (by k_is))
  (case a19 => k_is)
  (case l19 => exact L2.ZE (by k_is) (by k_is) (by k_is))
  (case a20 => k_is)
  (case l20 => exact L2.ZE (by k_is) (by k_is) (by k_is))
  (case a21 => k_is)
  (case l21 => exact L2.ZE (by k_is) (by k_is) (by k_is))
  (case a22 => k_is)
  (case l22 => exact L2.ZE (by k_is) (by k_is) (by k_is))
  (case a23 => k_is)
  (case l23 => exact L2.ZE (by k_is) (by k_is) (by k_is))
  (case a24 => k_is)
  (case l24 => exact L2.ZE (by k_is) (by k_is) (by k_is))
  (case a25 => k_is)
  (case l25 => exact L2.ZE (by k_is) (by k_is) (by k_is))
  (case a26 => k_is)
  (case l26 => exact L2.ZE (by k_is) (by k_is) (by k_is))
  (case a27 => k_is)
  (case l27 => exact L2.ZE (by k_is) (by k_is) (by k_is))
  (case a28 => k_is)
  (case l28 => exact L2.ZE (by k_is) (by k_is) (by k_is))
  (case a29 => k_is)
  (case l29 => exact L2.ZE (by k_is) (by k_is) (by k_is))
  (case a30 => k_is)
  (case l30 => exact L2.ZE (by k_is) (by k_is) (by k_is))
  (case a31 => k_is)
  (case l31 => exact L2.ZE (by k_is) (by k_is) (by k_is))
  (case a32 => k_is)
  (case l32 => exact L2.ZE (by k_is) (by k_is) (by k_is))
  (case a33 => k_is)
  (case l33 => exact L2.ZE (by k_is) (by k_is) (by k_is))
  (case a34 => k_is)
  (case l34 => exact L2.ZE (by k_is) (by k_is) (by k_is))
  (case a35 => k_is)
  (case l35 => exact L2.ZE (by k_is) (by k_is) (by k_is))
  (case a36 => k_is)
  (case l36 => exact L2.ZE (by k_is) (by k_is) (by k_is))
  (case a37 => k_is)
  (case l37 => exact L2.ZE (by k_is) (by k_is) (by k_is))
  (case a38 => k_is)
  (case l38 => exact L2.ZE (by k_is) (by k_is) (by k_is))
  (case a39 => k_is)
  (case l39 => exact L2.ZE (by k_is) (by k_is) (by k_is))
  (case a40 => k_is)
  (case l40 => exact L2.ZE (by k_is) (by k_is) (by k_is))
  (case a41 => k_is)
  (case l41 => exact L2.ZE (by k_is) (by k_is) (by k_is))
  (case a42 => k_is)
  (case l42 => exact L2.ZE (by k_is) (by k_is) (by k_is))
  (case ZkP => k_is)
  (case Zec => k_is)
  (case Zkt => k_is)
  (case GX => k_is)
  (case Zkb => k_is)
  (case Zgs => k_is)
  (case ZjW => k_is)
  (case Zj4 => k_is)
  (case Zc2 => k_is)
  (case ZjH => k_is)
  (case Zjq => k_is)
  (case ZgY => k_is)
  (case ZjN => k_is)
  (case UK => k_is)
  (case GV => k_is)
  (case Zgl => k_is)
  (case ZkT => k_is)
  (case Zj0 => k_is)
  (case Zeo => k_is)

import PyProof.Rows.All
import Wide.All
import OpenK.AllK
import Wide.FinOn
import Lean
import PyProof.EqAt
import PyProof.EqKinds
import PyProof.TupleCall
import PyProof.AttrMissHeap
import PyProof.FactsAll.zip_1
import KE.KDictOf
import PyProof.Draws
import KE.KRevIter
import PyProof.FactsAll.range
import PyProof.Rows.RuleM_int
import KE.BitLaws
import PyProof.DictItems
import PySem.Challenge.RW_bendfronts_k25_partners_of_settings
set_option Elab.async false
set_option linter.all false
set_option maxRecDepth 100000
namespace L2
open PySem PySem.Spec PyProof.Rows
abbrev Key:=Sum Int Str
def Zdg:Key->Value->Bool
 | .inl k,v=>Value.isInt k v
 | .inr x,v=>Value.isStrOf x v
def ZnD (w:World):Key->Int
 | .inl k=>hashInt k
 | .inr x=>hashStr w x
theorem Yx:∀{k:Key}{v:Value},Zdg k v=true->(∃i t,k=Sum.inl i/\v=Value.int i t)∨(∃x t,k=Sum.inr x/\v=Value.str x t)
 | .inl i,v,h=>by
  obtain ⟨t,e⟩:=Value.isInt_shape (k:=i) (v:=v) h
  exact .inl ⟨i,t,rfl,e⟩
 | .inr x,v,h=>by
  obtain ⟨t,e⟩:=Value.isStrOf_shape (x:=x) (v:=v) h
  exact .inr ⟨x,t,rfl,e⟩
theorem ZgX (i:Int) (t:Tok):Zdg (.inl i) (.int i t)=true:=by simp [Zdg,Value.isInt]
theorem ZgO (x:Str) (t:Tok):Zdg (.inr x) (.str x t)=true:=by simp [Zdg,Value.isStrOf]
theorem Zlc (a b:Int):decide ((Sum.inl a:Key)=Sum.inl b)=(a==b):=by
 by_cases e:a=b
 ·subst e;simp
 ·have h:¬(Sum.inl a:Key)=Sum.inl b:=fun q=>e (Sum.inl.inj q)
  rw [decide_eq_false h]
  exact (beq_eq_false_iff_ne.mpr e).symm
theorem Zmp (a b:Str):decide ((Sum.inr a:Key)=Sum.inr b)=decide (a=b):=by
 by_cases e:a=b
 ·subst e;simp
 ·have h:¬(Sum.inr a:Key)=Sum.inr b:=fun q=>e (Sum.inr.inj q)
  rw [decide_eq_false h,decide_eq_false e]
theorem Zld (a:Int) (b:Str):decide ((Sum.inl a:Key)=Sum.inr b)=false:=decide_eq_false (fun q=>nomatch q)
theorem Zlb (a:Str) (b:Int):decide ((Sum.inr a:Key)=Sum.inl b)=false:=decide_eq_false (fun q=>nomatch q)
def YI (prog:Program) (w:World):PySem.KeyKind prog w Key where
 is:=Zdg
 hash:=ZnD w
 inj:=fun v a b ha hb=>by
  rcases Yx ha with ⟨i,t,rfl,rfl⟩ | ⟨x,t,rfl,rfl⟩
  ·rcases Yx hb with ⟨j,u,rfl,e⟩ | ⟨y,u,rfl,e⟩
   ·injection e with e1 _;rw [e1]
   ·exact nomatch e
  ·rcases Yx hb with ⟨j,u,rfl,e⟩ | ⟨y,u,rfl,e⟩
   ·exact nomatch e
   ·injection e with e1 _;rw [e1]
 byValue:=fun k v h=>by
  rcases Yx h with ⟨i,t,rfl,rfl⟩ | ⟨x,t,rfl,rfl⟩<;>rfl
 pyHash:=fun hv h=>by
  rcases Yx hv with ⟨i,t,rfl,rfl⟩ | ⟨x,t,rfl,rfl⟩
  ·exact wpAny_pyHash_int h
  ·exact wpAny_pyHash_str h
 eqBool:=fun hu hv h=>by
  rcases Yx hu with ⟨i,t,rfl,rfl⟩ | ⟨x,t,rfl,rfl⟩
  ·rcases Yx hv with ⟨j,u,rfl,rfl⟩ | ⟨y,u,rfl,rfl⟩
   ·rw [Zlc] at h;exact wpAny_eqBool_int h
   ·rw [Zld] at h;exact SeqAt.EqAt.int_str i t y u _ _ _ _ h
  ·rcases Yx hv with ⟨j,u,rfl,rfl⟩ | ⟨y,u,rfl,rfl⟩
   ·rw [Zlb] at h;exact SeqAt.EqAt.str_int x t j u _ _ _ _ h
   ·rw [Zmp] at h;exact wpAny_eqBool_str h
 «strs»:=fun k x t v h=>by
  rcases Yx h with ⟨i,u,rfl,e⟩ | ⟨y,u,rfl,e⟩
  ·exact nomatch e
  ·injection e with e1 _
   subst e1
   cases v<;>rfl
theorem Zei (prog:Program) (w:World) (i:Int) (t:Tok):(YI prog w).is (.inl i) (.int i t)=true:=ZgX i t
theorem Ze1 (prog:Program) (w:World) (x:Str) (t:Tok):(YI prog w).is (.inr x) (.str x t)=true:=ZgO x t
inductive V where
 | non | bl (b:Bool) | int (i:Int) | str (x:Str) | byt (b:Array UInt8) | flt (b:UInt64) | ref (a:Addr) | ty (n:String)
 deriving DecidableEq
def RelV:V->Value->Prop
 | .non,u=>u=Value.none
 | .bl b,u=>u=Value.bool b
 | .int i,u=>∃t,u=Value.int i t
 | .str x,u=>∃t,u=Value.str x t
 | .byt b,u=>∃t,u=Value.bytes b t
 | .flt b,u=>∃t,u=Value.float b t
 | .ref a,u=>u=Value.ref a
 | .ty n,u=>u=Value.type n
abbrev Vals:List V->List Value->Prop:=Paired RelV
theorem Vals.length {xs:List V}{us:List Value} (r:Vals xs us):xs.length=us.length:=Paired.length r
theorem Vals.get:∀{xs:List V}{us:List Value}{i:Nat}{x:V},Vals xs us->xs[i]? = some x -> ∃u,us[i]? = some u/\RelV x u
 | _,_,_,_,.nil,e=>by simp at e
 | _,_,0,_,.cons r _,e=>by simp at e;subst e;exact ⟨_,rfl,r⟩
 | _,_,i+1,x,.cons _ t,e=>by
  obtain ⟨u,h1,h2⟩:=Vals.get (i:=i) (x:=x) t (by simpa using e)
  exact ⟨u,by simpa using h1,h2⟩
theorem Vals.set {x:V}{u:Value} (r:RelV x u):∀{xs:List V}{us:List Value} (i:Nat),Vals xs us->Vals (xs.set i x) (us.set i u)
 | _,_,_,.nil=>.nil
 | _,_,0,.cons _ t=>.cons r t
 | _,_,i+1,.cons q t=>.cons q (Vals.set r i t)
theorem Vals.append:∀{xs ys:List V}{us ws:List Value},Vals xs us->Vals ys ws->Vals (xs++ys) (us++ws)
 | _,_,_,_,.nil,s=>s
 | _,_,_,_,.cons r t,s=>.cons r (Vals.append t s)
theorem Vals.take:∀{xs:List V}{us:List Value} (n:Nat),Vals xs us->Vals (xs.take n) (us.take n)
 | _,_,0,_=>.nil
 | _,_,_+1,.nil=>.nil
 | _,_,n+1,.cons r t=>.cons r (Vals.take n t)
theorem Vals.drop:∀{xs:List V}{us:List Value} (n:Nat),Vals xs us->Vals (xs.drop n) (us.drop n)
 | _,_,0,r=>r
 | _,_,_+1,.nil=>.nil
 | _,_,n+1,.cons _ t=>Vals.drop n t
def U9:Option V->Option Value->Prop
 | some v,some u=>RelV v u
 | none,none=>True
 | _,_=>False
def KV {κ:Type}:List (κ × V)->List (κ × Value)->Prop:=Paired fun (p:κ × V) (q:κ × Value)=>p.1=q.1/\RelV p.2 q.2
def kV:Key->V
 | .inl i=>.int i
 | .inr x=>.str x
inductive HO where
 | lst (xs:List V)
 | tup (xs:List V)
 | dK (kvs:List (Key×V)) | dT (kvs:List (List Key×V))
 | set (S:Int->Bool) (n:Nat)
 | ins (C dx:Addr) (fs:List (Str×V))
 | own (x:Addr)
 | xd (fs:List (Str×V))
 | met (f x:Addr)
 | rng (lo hi:Int)
 | frz (o:Obj) (u:HO)
 | tbl (ps:Array Value)
 | ext (φ:Heap->Prop)
abbrev Hp:=Addr->Option HO
def upd (H:Hp) (a:Addr) (o:HO):Hp:=fun b=>if b=a then some o else H b
theorem Zb {H:Hp}{a:Addr}{o:HO}:upd H a o a=some o:=by unfold upd;rw [if_pos rfl]
theorem Zi {H:Hp}{a b:Addr}{o:HO} (h:b≠a):upd H a o b=H b:=by unfold upd;rw [if_neg h]
theorem J7 {H:Hp}{a:Addr}{o u:HO}:upd (upd H a o) a u=upd H a u:=by
 funext b;unfold upd;split<;>rfl
theorem Zie {H:Hp}{a b:Addr}{o u:HO} (h:H a=some o) (h':H b=some u) (d:o≠u):a≠b:=by
 intro e;subst e;rw [h] at h';exact d (Option.some.inj h')
theorem Zf {H:Hp}{a b:Addr}{o:HO} (h:H a=some o) (h':H b=none):a≠b:=by
 intro e;subst e;rw [h] at h';cases h'
section
variable (P:Program) (w:World)
def Yp (H:Hp) (h:Heap) (a:Addr):HO->Prop
 | .lst xs=>xs.length<=sizeLine /\ ∃(its:List Value) (n:Nat),Vals xs its/\h.get? a=some { cls:=.type "list", data:=.seq its.toArray n }
 | .tup xs=>xs.length<=sizeLine /\ ∃its:List Value,Vals xs its/\IsTup h a its.toArray
 | .dK kvs=>kvs.length<=sizeLine/\(a==sysModules)=false /\ ∃vs,KV kvs vs/\h.DictOf (YI P w) a vs
 | .dT kvs=>kvs.length<=sizeLine/\(a==sysModules)=false /\ ∃xs:List (List Key×Addr×Value),
   Paired (fun (p:List Key×V) (q:List Key×Addr×Value)=>p.1=q.1/\H q.2.1=some (.tup (p.1.map kV))/\RelV p.2 q.2.2) kvs xs /\
   ∃o es ep,h.get? a=some o/\o.ExactDict/\o.data = .dict es ep/\es.toList=xs.map (entryOfKey (tupleKind (YI P w)))/\(xs.map (·.1)).Nodup
 | .set S n=>h.SetOf (intKind P w) a S n
 | .ins C dx fs=>H dx=some (.own a)/\fs.length<=1000/\dx≠a/\h.get? a=some (PySem.W.instObj C dx) /\
   ∃mA,h.Ns1 dx mA/\(∀f,U9 (fs.lookup f) (mA f))/\PySem.Within mA (fs.map (·.1))
 | .own _=>∃o,h.get? a=some o
 | .xd fs=>∃mA,h.Ns1 a mA /\ ∀f,U9 (fs.lookup f) (mA f)
 | .rng lo hi=>∃t u v,h.get? a=some { cls:=.type "range", data:=.fields #[.int lo t,.int hi u,.int 1 v] }
 | .frz o u=>h.get? a=some o/\Yp H h a u
 | .tbl ps=>h.get? a=some { cls:=.none,data:=.fields ps }
 | .met f x=>h.get? a=some (PySem.W.methodObj (.ref f) (.ref x))
 | .ext φ=>φ h/\(∃o,h.get? a=some o) /\ ∀h1 h2:Heap,φ h1->(∀o,h1.get? a=some o->h2.get? a=some o) -> φ h2
def Uv (H:Hp) (h:Heap):Prop:=∀a o,H a=some o->Yp P w H h a o
end
section
variable {P:Program}{w:World}{H H':Hp}{h h':Heap}{a:Addr}{o:HO}
theorem Yp.lt (x:Yp P w H h a o):a<h.objs.size:=by
 cases o with
 | lst xs=>obtain ⟨_,_,_,_,e⟩:=x;exact Heap.lt_size e
 | tup xs=>obtain ⟨_,_,_,p⟩:=x;exact p.lt
 | dK kvs=>obtain ⟨_,_,_,_,o,_,_,e,_⟩:=x;exact Heap.lt_size e
 | dT kvs=>obtain ⟨_,_,_,_,o,_,_,e,_⟩:=x;exact Heap.lt_size e
 | set S n=>obtain ⟨o,_,_,_,e,_⟩:=x;exact Heap.lt_size e
 | ins C dx fs=>obtain ⟨_,_,_,e,_⟩:=x;exact Heap.lt_size e
 | own y=>obtain ⟨_,e⟩:=x;exact Heap.lt_size e
 | xd fs=>obtain ⟨_,⟨_,_,_,e,_⟩,_⟩:=x;exact Heap.lt_size e
 | rng lo hi=>obtain ⟨_,_,_,e⟩:=x;exact Heap.lt_size e
 | frz ob u=>obtain ⟨e,_⟩:=x;exact Heap.lt_size e
 | tbl ps=>exact Heap.lt_size (show h.get? a=some _ from x)
 | met f y=>exact Heap.lt_size (show h.get? a=some _ from x)
 | ext φ=>obtain ⟨_,⟨_,e⟩,_⟩:=x;exact Heap.lt_size e
theorem Paired.mapP {α β:Type}{F G:α -> β -> Prop}:∀{l₁:List α}{l₂:List β},Paired F l₁ l₂->(∀a b,F a b->G a b)->Paired G l₁ l₂
 | _,_,.nil,_=>.nil
 | _,_,.cons r t,f=>.cons (f _ _ r) (Paired.mapP t f)
theorem Yp.stay (x:Yp P w H h a o) (k:∀b u,(b=a∨H b=some (.own a))->h.get? b=some u->h'.get? b=some u)
  (ho:∀b,H b=some (.own a)->H' b=some (.own a)) (ht:∀b xs,H b=some (.tup xs)->H' b=some (.tup xs)):Yp P w H' h' a o:=by
 induction o with
 | lst xs=>obtain ⟨z,its,n,r,e⟩:=x;exact ⟨z,its,n,r,k _ _ (.inl rfl) e⟩
 | tup xs=>obtain ⟨z,its,r,ob,e,c⟩:=x;exact ⟨z,its,r,ob,k _ _ (.inl rfl) e,c⟩
 | dK kvs=>obtain ⟨z,y,vs,r,ob,es,ep,e,c⟩:=x;exact ⟨z,y,vs,r,ob,es,ep,k _ _ (.inl rfl) e,c⟩
 | dT kvs=>
  obtain ⟨z,y,xs,r,ob,es,ep,e,c⟩:=x
  exact ⟨z,y,xs,Paired.mapP r fun p q z=>⟨z.1,ht _ _ z.2.1,z.2.2⟩,ob,es,ep,k _ _ (.inl rfl) e,c⟩
 | set S n=>obtain ⟨ob,es,ep,t,e,c⟩:=x;exact ⟨ob,es,ep,t,k _ _ (.inl rfl) e,c⟩
 | ins C dx fs=>
  obtain ⟨d,z,ne,e,mA,⟨od,es,ep,e2,c⟩,r⟩:=x
  exact ⟨ho _ d,z,ne,k _ _ (.inl rfl) e,mA,⟨od,es,ep,k _ _ (.inr d) e2,c⟩,r⟩
 | own y=>obtain ⟨ob,e⟩:=x;exact ⟨ob,k _ _ (.inl rfl) e⟩
 | xd fs=>obtain ⟨mA,⟨od,es,ep,e,c⟩,r⟩:=x;exact ⟨mA,⟨od,es,ep,k _ _ (.inl rfl) e,c⟩,r⟩
 | rng lo hi=>obtain ⟨t,u,v,e⟩:=x;exact ⟨t,u,v,k _ _ (.inl rfl) e⟩
 | frz ob u ih=>obtain ⟨e,q⟩:=x;exact ⟨k _ _ (.inl rfl) e,ih q⟩
 | tbl ps=>
  have e:h.get? a=some { cls:=.none,data:=.fields ps }:=x
  show h'.get? a=some { cls:=.none,data:=.fields ps }
  exact k a _ (.inl rfl) e
 | met f y=>
  have e:h.get? a=some (PySem.W.methodObj (.ref f) (.ref y)):=x
  show h'.get? a=some (PySem.W.methodObj (.ref f) (.ref y))
  exact k a _ (.inl rfl) e
 | ext φ=>obtain ⟨p,⟨o,e⟩,st⟩:=x;exact ⟨st _ _ p fun o q=>k _ _ (.inl rfl) q,⟨o,k _ _ (.inl rfl) e⟩,st⟩
theorem Uv.lt (x:Uv P w H h) (e:H a=some o):a<h.objs.size:=(x a o e).lt
theorem Uv.fresh (x:Uv P w H h) (e:h.objs.size<=a):H a=none:=by
 cases q:H a with
 | none=>rfl
 | some u=>exact absurd (Nat.lt_of_lt_of_le (x.lt q) e) (Nat.lt_irrefl _)
theorem Uv.kept (x:Uv P w H h) (k:∀b u,h.get? b=some u->h'.get? b=some u):Uv P w H h':=fun a o e=>
 (x a o e).stay (fun b u _ q=>k b u q) (fun _ q=>q) fun _ _ q=>q
theorem Uv.laid (x:Uv P w H h) (k:∀b u,h.get? b=some u->h'.get? b=some u) (hp:h.objs.size<=a) (new:Yp P w (upd H a o) h' a o):Uv P w (upd H a o) h':=fun b u e=>by
 have hn:=x.fresh hp
 by_cases hb:b=a
 ·subst hb;rw [Zb] at e;cases e;exact new
 ·rw [Zi hb] at e
  exact (x b u e).stay (fun c v _ q=>k c v q) (fun c q=>by rw [Zi (Zf q hn)];exact q) fun c xs q=>by rw [Zi (Zf q hn)];exact q
end
def Rd (H:Hp) (a:Addr) (u:HO):Prop:=H a=some u ∨ ∃o,H a=some (.frz o u)
theorem Rd.ok {P:Program}{w:World}{H:Hp}{h:Heap}{a:Addr}{u:HO} (r:Rd H a u) (x:Uv P w H h):Yp P w H h a u:=by
 rcases r with r | ⟨o,r⟩
 ·exact x a u r
 ·obtain ⟨_,q⟩:=x a _ r
  exact q
def Mut:Option HO->Prop
 | some (.lst _)=>True
 | some (.dK _)=>True
 | some (.dT _)=>True
 | some (.set _ _)=>True
 | some (.ins _ _ _)=>True
 | some (.ext _)=>True
 | _=>False
section
variable {P:Program}{w:World}{H:Hp}{h h':Heap}{x e:Addr}{o':HO}
theorem Uv.write (ok:Uv P w H h) (mu:Mut (H x)) (he:e=x∨H e=some (.own x)) (k:∀b u,b≠e->h.get? b=some u->h'.get? b=some u) (heo:∃u,h'.get? e=some u)
  (new:Yp P w (upd H x o') h' x o'):Uv P w (upd H x o') h':=fun b u q=>by
 have nown:∀c y,H c=some (.own y)->c≠x:=fun c y r z=>by subst z;rw [r] at mu;exact mu
 have ntup:∀c xs,H c=some (.tup xs)->c≠x:=fun c xs r z=>by subst z;rw [r] at mu;exact mu
 by_cases hb:b=x
 ·subst hb;rw [Zb] at q;cases q;exact new
 ·rw [Zi hb] at q
  by_cases hbe:b=e
  ·have q':H b=some (.own x):=by
    rcases he with z | z
    ·exact absurd (hbe.trans z) hb
    ·rw [hbe];exact z
   rw [q] at q';cases q'
   obtain ⟨v,hv⟩:=heo
   exact ⟨v,by rw [hbe];exact hv⟩
  ·refine (ok b u q).stay (fun c v hc r=>k c v ?_ r) (fun c r=>by rw [Zi (nown c b r)];exact r) fun c xs r=>by rw [Zi (ntup c xs r)];exact r
   rcases hc with rfl | hc
   ·exact hbe
   ·rintro rfl
    rcases he with z | z
    ·exact nown c b hc z
    ·rw [hc] at z;cases z;exact hb rfl
end
structure Un (fs ex:List Addr) (H H':Hp) (h h':Heap):Prop where
 keep:∀b o,h.get? b=some o->H b=none->b∉fs->b∉ex->h'.get? b=some o
 slot:∀b o,h.get? b=some o->H b=none->b∈fs->b∉ex -> ∃sl,h'.get? b=some { o with slots:=sl }
 free:∀b o,h.get? b=some o->H b=none->b∉ex->H' b=none
 there:∀b o,h.get? b=some o->b∉ex -> ∃o',h'.get? b=some o'
 tups:∀b xs,H b=some (.tup xs)->H' b=some (.tup xs)
 frzs:∀b o u,H b=some (.frz o u)->H' b=some (.frz o u)
 tbls:∀b ps,H b=some (.tbl ps) -> ∃more,H' b=some (.tbl (ps++more))
section
variable {fs fs' ex ex':List Addr}{H H1 H2:Hp}{h h1 h2 h':Heap}{a x e:Addr}{o:HO}
theorem Un.any (u:Un fs ex H H1 h h1) {b:Addr}{ob:Obj} (q:h.get? b=some ob) (n:H b=none) (hx:b∉ex):∃sl,h1.get? b=some { ob with slots:=sl }:=by
 by_cases hb:b∈fs
 ·exact u.slot b ob q n hb hx
 ·exact ⟨ob.slots,u.keep b ob q n hb hx⟩
theorem Un.kept (k:∀b u,h.get? b=some u->h'.get? b=some u):Un fs ex H H h h':=
 ⟨fun b ob q _ _ _=>k b ob q,fun b ob q _ _ _=>⟨ob.slots,k b ob q⟩,fun _ _ _ n _=>n,fun b ob q _=>⟨ob,k b ob q⟩,fun _ _ q=>q,fun _ _ _ q=>q,fun _ ps q=>⟨#[],by rw [q];simp⟩⟩
theorem Un.refl:Un fs ex H H h h:=Un.kept fun _ _ q=>q
theorem Un.laid (k:∀b u,h.get? b=some u->h'.get? b=some u) (hp:h.objs.size<=a) (hn:H a=none):Un fs ex H (upd H a o) h h' where
 keep:=fun b u q _ _ _=>k b u q
 slot:=fun b u q _ _ _=>⟨u.slots,k b u q⟩
 free:=fun b u q n _=>by rw [Zi (Nat.ne_of_lt (Nat.lt_of_lt_of_le (Heap.lt_size q) hp))];exact n
 there:=fun b u q _=>⟨u,k b u q⟩
 tups:=fun b xs q=>by rw [Zi (Zf q hn)];exact q
 frzs:=fun b u xs q=>by rw [Zi (Zf q hn)];exact q
 tbls:=fun b ps q=>⟨#[],by rw [Zi (Zf q hn),q];simp⟩
theorem Un.write (mu:Mut (H x)) (he:e=x∨H e=some (.own x)) (k:∀b u,b≠e->h.get? b=some u->h'.get? b=some u) (heo:∃u,h'.get? e=some u):Un fs ex H (upd H x o) h h':=by
 have hx:∀b,H b=none->b≠x:=fun b n z=>by subst z;rw [n] at mu;exact mu
 have hb:∀b,H b=none->b≠e:=fun b n z=>by
  subst z
  rcases he with r | r
  ·exact hx b n r
  ·rw [n] at r;cases r
 have hm:∀b u,H b=some u -> ¬Mut (some u)->b≠x:=fun b u q nm z=>by subst z;rw [q] at mu;exact nm mu
 refine ⟨fun b u q n _ _=>k b u (hb b n) q,fun b u q n _ _=>⟨u.slots,k b u (hb b n) q⟩,fun b u q n _=>by rw [Zi (hx b n)];exact n,fun b u q _=>?_,
  fun b xs q=>by rw [Zi (hm b _ q fun z=>z)];exact q,fun b u xs q=>by rw [Zi (hm b _ q fun z=>z)];exact q,fun b ps q=>⟨#[],by rw [Zi (hm b _ q fun z=>z),q];simp⟩⟩
 by_cases hbe:b=e
 ·subst hbe;exact heo
 ·exact ⟨u,k b u hbe q⟩
end
def trk (h:Heap) (H:Hp):List Addr:=(List.range h.objs.size).filter fun a=>(H a).isSome
def ZdD (h:Heap) (H:Hp):Heap:=PySem.W.hideAll h (trk h H)
theorem ZgU (h:Heap) (H:Hp):(ZdD h H).objs.size=h.objs.size:=PySem.W.hideAll_size _ _
theorem ZhR {h:Heap}{H:Hp}{b:Addr}{o:Obj} (e:h.get? b=some o) (n:H b=none):(ZdD h H).get? b=some o:=
 PySem.W.hideAll_get _ e fun hm=>by
  have q:(H b).isSome=true:=(List.mem_filter.mp hm).2
  rw [n] at q;simp at q
theorem Zkv {h:Heap}{H:Hp}{b:Addr}{o:Obj} (e:(ZdD h H).get? b=some o):h.get? b=some o/\H b=none:=by
 have e':h.get? b=some o:=PySem.W.of_hideAll (trk h H) e
 refine ⟨e',?_⟩
 cases q:H b with
 | none=>rfl
 | some x=>
  have hm:b∈trk h H:=List.mem_filter.mpr ⟨List.mem_range.mpr (Heap.lt_size e'),by simp [q]⟩
  have z:(ZdD h H).get? b=none:=PySem.W.hideAll_none (trk h H) hm
  rw [z] at e;cases e
def WB (g h:Heap) (L:Addr):List (Addr×Obj):=(List.range h.objs.size).filterMap fun a=>if a=L∨(g.get? a).isSome=true then none else (h.get? a).map fun o=>(a,o)
theorem UN {g h:Heap}{L a:Addr}{o:Obj} (h1:a≠L) (h2:g.get? a=none) (h3:h.get? a=some o):(a,o)∈WB g h L:=
 List.mem_filterMap.mpr ⟨a,List.mem_range.mpr (Heap.lt_size h3),by simp [h1,h2,h3]⟩
theorem Zcn {g h:Heap}{L:Addr}{p:Addr×Obj} (hp:p∈WB g h L):p.1≠L/\g.get? p.1=none/\h.get? p.1=some p.2:=by
 obtain ⟨b,_,e⟩:=List.mem_filterMap.mp hp
 split at e
 ·cases e
 ·rename_i hn
  cases q:h.get? b with
  | none=>rw [q] at e;simp at e
  | some u=>
   rw [q] at e
   simp only [Option.map_some,Option.some.injEq] at e
   subst e
   refine ⟨fun z=>hn (.inl z),?_,q⟩
   show g.get? b=none
   cases r:g.get? b with
   | none=>rfl
   | some v=>exact (hn (.inr (by simp [r]))).elim
def rest (g h:Heap) (L d:Addr):List (Addr×Obj):=(WB g h L).filter fun p=>decide (p.1≠d)
theorem Ze4 {g h:Heap}{L:Addr}:News g L h (WB g h L):=fun p hp=>let ⟨a,b,c⟩:=Zcn hp;⟨c,a,b⟩
structure Mod (K:PySem.W.Frag) (mg:Str->Option Value) (base:Heap):Prop where
 kin:K.In base
 glob:base.Ns mainGlobals mg
 blt:∃mb,base.Ns builtinsNs mb /\ ∀x:Str,x ≠ "__name__" -> mb x=bootBuiltins x
 nolimit:base.NoLimit
structure Cx where
 prog:Program
 w:World
 K:PySem.W.Frag
 mg:Str->Option Value
 base:Heap
 A:Around
 N:List Str
 s₀:Shared
 H₀:Hp
 env:Env
 outer:List Env
 stack:List Env
 ex:List Addr
 fn:Str->Bool
 calm:Bool
 pn:List (Addr×Obj)
 xe:Value->Shared->Prop
def frs (l:List Env):List Addr:=l.filterMap (·.frame)
abbrev Cx.fs (X:Cx):List Addr:=frs X.outer
def Vis (sc:Scope) (x:Str):Prop:=sc.names.lookup x=some .local∨sc.names.lookup x=some .cell∨sc.names.lookup x=some .free
def Loc (sc:Scope) (x:Str):Prop:=sc.names.lookup x=some .local∨sc.names.lookup x=some .cell
def Look (env:Env) (h:Heap) (m:Str->Option Value) (x:Str) (u:Value):Prop:=
 (env.kindOf x=some .local/\m x=some u)∨((env.kindOf x=some .cell∨env.kindOf x=some .free) /\ ∃c,env.cells.lookup x=some c/\h.IsCell c (some u))
structure Cx.Ok (X:Cx):Prop where
 mod:Mod X.K X.mg X.base
 kind:X.env.scope.kind = .function
 glob:X.env.globals=mainGlobals
 blt:X.env.builtins=builtinsNs
 above:X.s₀.heap.objs.size<=X.env.locals
 inj:∀x y c,X.env.cells.lookup x=some c->X.env.cells.lookup y=some c->x=y
 has:∀x,(X.env.kindOf x=some .cell∨X.env.kindOf x=some .free) -> ∃c,X.env.cells.lookup x=some c
 cab:∀x c,X.fn x=true->X.env.cells.lookup x=some c->X.s₀.heap.objs.size<=c
 hd:X.calm=true->X.A.handled=none
 frames:X.A.frames=some X.stack
 stk:X.stack=X.outer∨(X.stack=X.env::X.outer/\X.env.frame=some X.env.locals)
 exf:∀b∈X.ex,b≠X.env.locals /\ ∀x c,X.env.cells.lookup x=some c->c≠b
 bs:∀b o,X.base.get? b=some o->X.s₀.heap.get? b=some o/\X.H₀ b=none
 bsz:X.base.objs.size<=X.s₀.heap.objs.size
 noex:∀b o,X.base.get? b=some o->b∉X.ex
 exfs:∀b∈X.ex,b∉X.fs
 funs:X.s₀.heap.FunFrames X.base X.outer
 frf:∀b∈X.fs,X.H₀ b=none
structure Inv (X:Cx) (pins:List (Addr×Obj)) (σ:List (Option V)) (H:Hp) (s:Shared):Prop where
 ok:X.Ok
 os:s.os=X.s₀.os
 bare:AllBare s.gens
 base:Un X.fs X.ex X.H₀ H X.s₀.heap s.heap
 loc:∃m,s.heap.Ns X.env.locals m /\ ∀(i:Nat) (x:Str) (v:V),X.N[i]? = some x -> σ[i]? = some (some v)->Vis X.env.scope x -> ∃u,RelV v u/\Look X.env s.heap m x u
 cell:∀x c,X.env.cells.lookup x=some c -> ∃v,s.heap.IsCell c v
 free:H X.env.locals=none
 freeC:∀x c,X.env.cells.lookup x=some c->H c=none
 pin:∀p∈X.pn++pins,s.heap.get? p.1=some p.2/\H p.1=none/\p.1≠X.env.locals/\p.1∉X.fs /\ ∀v,p.2.data ≠ .cell v
 hok:Uv X.prog X.w H s.heap
 len:σ.length=X.N.length
section
variable {X:Cx}{pins:List (Addr×Obj)} {σ:List (Option V)}{H H':Hp}{s:Shared}{h':Heap}
theorem Cx.Ok.nofr (ok:X.Ok) {b:Addr}{o:Obj} (e:X.base.get? b=some o):b∉X.fs:=fun hb=>by
 have:=(ok.funs.mem hb).1
 rw [e] at this;cases this
theorem Inv.bs (I:Inv X pins σ H s):∀b o,X.base.get? b=some o->s.heap.get? b=some o/\H b=none:=fun b o e=>
 ⟨I.base.keep b o (I.ok.bs b o e).1 (I.ok.bs b o e).2 (I.ok.nofr e) (I.ok.noex b o e),I.base.free b o (I.ok.bs b o e).1 (I.ok.bs b o e).2 (I.ok.noex b o e)⟩
theorem Inv.bk (I:Inv X pins σ H s):∀b o,X.base.get? b=some o->s.heap.get? b=some o:=fun b o e=>(I.bs b o e).1
theorem Inv.mod (I:Inv X pins σ H s):Mod X.K X.mg X.base:=I.ok.mod
theorem Inv.kIn (I:Inv X pins σ H s):X.K.In s.heap:=I.ok.mod.kin.keeps I.bk
theorem Inv.fr (I:Inv X pins σ H s):∃m,Fr X.base X.env.locals s.heap m:=
 let ⟨m,hn,_⟩:=I.loc
 ⟨m,hn,I.bk,Nat.le_trans I.ok.bsz I.ok.above⟩
theorem Inv.lt (I:Inv X pins σ H s):X.env.locals<s.heap.objs.size:=let ⟨_,hn,_⟩:=I.loc;hn.lt
theorem Inv.sz (I:Inv X pins σ H s):X.s₀.heap.objs.size<=s.heap.objs.size:=Nat.le_trans I.ok.above (Nat.le_of_lt I.lt)
theorem Inv.nofs (I:Inv X pins σ H s) {a:Addr} (h:s.heap.objs.size<=a):a∉X.fs:=fun hb=>by
 obtain ⟨_,o,ho,_⟩:=I.ok.funs.mem hb
 exact absurd (Nat.lt_of_lt_of_le (Heap.lt_size ho) (Nat.le_trans I.sz h)) (Nat.lt_irrefl _)
theorem Inv.cne (I:Inv X pins σ H s):∀x c,X.env.cells.lookup x=some c->c≠X.env.locals:=fun x c e z=>by
 obtain ⟨v,o,ho,hd⟩:=I.cell x c e
 obtain ⟨m,⟨o',es,ep,ho',hd',_⟩,_⟩:=I.loc
 rw [z,ho'] at ho;cases ho;rw [hd'] at hd;cases hd
theorem Inv.funs (I:Inv X pins σ H s):s.heap.FunFrames X.base X.outer:=by
 have all:∀(l:List Env),(∀b∈frs l,b∈X.fs)->X.s₀.heap.FunFrames X.base l->s.heap.FunFrames X.base l:=by
  intro l
  induction l with
  | nil=>intro _ _;trivial
  | cons env r ih=>
   intro hs hl
   obtain ⟨hk,⟨L,o,hf,hn,ho,hd⟩,hr⟩:=hl
   have hL:L∈X.fs:=hs L (by unfold frs;rw [List.filterMap_cons,hf];exact List.mem_cons_self)
   obtain ⟨sl,e⟩:=I.base.slot L o ho (I.ok.frf L hL) hL fun z=>I.ok.exfs L z hL
   exact ⟨hk,⟨L,_,hf,hn,e,hd⟩,ih (fun b hb=>hs b (by unfold frs;rw [List.filterMap_cons,hf];exact List.mem_cons_of_mem _ hb)) hr⟩
 exact all X.outer (fun _ hb=>hb) I.ok.funs
theorem Inv.stack (I:Inv X pins σ H s):s.heap.FunFrames X.base X.stack:=by
 rcases I.ok.stk with e | ⟨e,hf⟩
 ·rw [e];exact I.funs
 ·rw [e]
  obtain ⟨m,hn,_⟩:=I.loc
  refine .cons (by rw [I.ok.kind];decide) hf hn ?_ I.funs
  exact Heap.get?_none_of_le (Nat.le_trans I.ok.bsz I.ok.above)
theorem Inv.stkSub (I:Inv X pins σ H s):∀b∈frs X.stack,b∈X.env.locals::X.fs:=fun b hb=>by
 rcases I.ok.stk with e | ⟨e,hf⟩
 ·rw [e] at hb;exact List.mem_cons_of_mem _ hb
 ·rw [e] at hb
  unfold frs at hb
  rw [List.filterMap_cons,hf] at hb
  exact hb
theorem Inv.stkFree (I:Inv X pins σ H s):∀b∈frs X.stack,H b=none:=fun b hb=>by
 rcases List.mem_cons.mp (I.stkSub b hb) with e | hb
 ·rw [e];exact I.free
 ·obtain ⟨_,o,ho,_⟩:=I.ok.funs.mem hb
  exact I.base.free b o ho (I.ok.frf b hb) fun z=>I.ok.exfs b z hb
theorem Inv.step {g':Array GenState}{t':Nat}{d':Drawn}{ch:List Addr} (I:Inv X pins σ H s)
  (hch:∀b∈ch,(b∈X.ex∨X.s₀.heap.objs.size<=b)/\b≠X.env.locals/\(∀x c,X.env.cells.lookup x=some c->c≠b) /\ ∀p∈X.pn++pins,p.1≠b)
  (keep:∀b o,b≠X.env.locals->b∉X.fs->b∉ch->s.heap.get? b=some o->H b=none->h'.get? b=some o)
  (slot:∀b o,b≠X.env.locals->b∈X.fs->b∉ch->s.heap.get? b=some o->H b=none -> ∃sl,h'.get? b=some { o with slots:=sl }) (free:∀b o,b∉ch->s.heap.get? b=some o->H b=none->H' b=none)
  (there:∀b o,b∉ch->s.heap.get? b=some o -> ∃o',h'.get? b=some o')
  (tups:∀b xs,H b=some (.tup xs)->H' b=some (.tup xs)) (frzs:∀b o u,H b=some (.frz o u)->H' b=some (.frz o u)) (tbls:∀b ps,H b=some (.tbl ps) -> ∃more,H' b=some (.tbl (ps++more)))
  (ns:∀m,s.heap.Ns X.env.locals m->h'.Ns X.env.locals m) (hok:Uv X.prog X.w H' h') (hg:AllBare g'):
  Inv X pins σ H' { s with heap:=h',gens:=g',drawn:=d',toks:=t' }:=by
 have neL:∀b o,X.s₀.heap.get? b=some o->b≠X.env.locals:=fun b o e=>Nat.ne_of_lt (Nat.lt_of_lt_of_le (Heap.lt_size e) I.ok.above)
 have neC:∀b o,X.s₀.heap.get? b=some o->b∉X.ex->b∉ch:=fun b o e hx hb=>by
  rcases (hch b hb).1 with z | z
  ·exact hx z
  ·exact absurd (Nat.lt_of_lt_of_le (Heap.lt_size e) z) (Nat.lt_irrefl _)
 have cellK:∀x c,X.env.cells.lookup x=some c -> ∀v,s.heap.IsCell c v->h'.IsCell c v:=fun x c e v ⟨o,ho,hd⟩=>by
  have nch:c∉ch:=fun z=>(hch c z).2.2.1 x c e rfl
  by_cases hc:c∈X.fs
  ·obtain ⟨sl,q⟩:=slot c o (I.cne x c e) hc nch ho (I.freeC x c e)
   exact ⟨_,q,hd⟩
  ·exact ⟨o,keep c o (I.cne x c e) hc nch ho (I.freeC x c e),hd⟩
 refine ⟨I.ok,I.os,hg,⟨fun b o e n hb hx=>?_,fun b o e n hb hx=>?_,fun b o e n hx=>?_,fun b o e hx=>?_,fun b xs e=>tups b xs (I.base.tups b xs e),fun b o xs e=>frzs b o xs (I.base.frzs b o xs e),fun b ps e=>?_⟩,?_,fun x c e=>?_,?_,fun x c e=>?_,fun p hp=>?_,hok,I.len⟩
 ·exact keep b o (neL b o e) hb (neC b o e hx) (I.base.keep b o e n hb hx) (I.base.free b o e n hx)
 ·obtain ⟨sl,e1⟩:=I.base.slot b o e n hb hx
  obtain ⟨sl',e2⟩:=slot b _ (neL b o e) hb (neC b o e hx) e1 (I.base.free b o e n hx)
  exact ⟨sl',e2⟩
 ·obtain ⟨o',e1⟩:=I.base.there b o e hx
  exact free b o' (neC b o e hx) e1 (I.base.free b o e n hx)
 ·obtain ⟨o',e1⟩:=I.base.there b o e hx
  exact there b o' (neC b o e hx) e1
 ·obtain ⟨m1,e1⟩:=I.base.tbls b ps e
  obtain ⟨m2,e2⟩:=tbls b _ e1
  exact ⟨m1++m2,by rw [e2,Array.append_assoc]⟩
 ·obtain ⟨m,hn,hl⟩:=I.loc
  refine ⟨m,ns m hn,fun i x v e1 e2 e3=>?_⟩
  obtain ⟨u,r,l⟩:=hl i x v e1 e2 e3
  refine ⟨u,r,?_⟩
  rcases l with l | ⟨k,c,e,z⟩
  ·exact .inl l
  ·exact .inr ⟨k,c,e,cellK x c e _ z⟩
 ·obtain ⟨v,z⟩:=I.cell x c e
  exact ⟨v,cellK x c e v z⟩
 ·obtain ⟨m,⟨o,_,_,ho,_⟩,_⟩:=I.loc
  exact free _ o (fun z=>(hch _ z).2.1 rfl) ho I.free
 ·obtain ⟨v,o,ho,hd⟩:=I.cell x c e
  exact free c o (fun z=>(hch c z).2.2.1 x c e rfl) ho (I.freeC x c e)
 ·obtain ⟨e,n,ne,nf,d⟩:=I.pin p hp
  have nch:p.1∉ch:=fun z=>(hch p.1 z).2.2.2 p hp rfl
  exact ⟨keep p.1 p.2 ne nf nch e n,free p.1 p.2 nch e n,ne,nf,d⟩
theorem Inv.un {t':Nat} (I:Inv X pins σ H s) (u:Un X.fs [] H H' s.heap h') (hok:Uv X.prog X.w H' h'):Inv X pins σ H' { s with heap:=h',toks:=t' }:=by
 obtain ⟨m,⟨o,es,ep,ho,r⟩,_⟩:=id I.loc
 obtain ⟨sl,hL⟩:=u.any ho I.free (by simp)
 exact I.step (g':=s.gens) (d':=s.drawn) (ch:=[]) (fun _ z=>nomatch z) (fun b o _ hb _ e n=>u.keep b o e n hb (by simp)) (fun b o _ hb _ e n=>u.slot b o e n hb (by simp)) (fun b o _ e n=>u.free b o e n (by simp)) (fun b o _ e=>u.there b o e (by simp)) u.tups u.frzs u.tbls (fun m' hm=>by
  obtain ⟨o',es',ep',ho',r'⟩:=hm
  rw [ho] at ho';cases ho'
  exact ⟨_,es',ep',hL,r'⟩) hok I.bare
theorem Inv.call {g':Array GenState}{t':Nat}{d':Drawn}{ch:List Addr} (I:Inv X pins σ H s) (u:Un (frs X.stack) ch H H' s.heap h') (hok:Uv X.prog X.w H' h') (hg:AllBare g')
  (hch:∀b∈ch,(b∈X.ex∨X.s₀.heap.objs.size<=b)/\b≠X.env.locals/\(∀x c,X.env.cells.lookup x=some c->c≠b) /\ ∀p∈X.pn++pins,p.1≠b):
  Inv X pins σ H' { s with heap:=h',gens:=g',drawn:=d',toks:=t' }:=by
 obtain ⟨m,⟨o,es,ep,ho,r⟩,_⟩:=id I.loc
 obtain ⟨sl,hL⟩:=u.any ho I.free fun z=>(hch _ z).2.1 rfl
 exact I.step (ch:=ch) hch (fun b o hL hb hc e n=>u.keep b o e n (fun z=>(List.mem_cons.mp (I.stkSub b z)).elim hL hb) hc) (fun b o _ _ hc e n=>u.any e n hc) (fun b o hc e n=>u.free b o e n hc) (fun b o hc e=>u.there b o e hc) u.tups u.frzs u.tbls (fun m' hm=>by
  obtain ⟨o',es',ep',ho',r'⟩:=hm
  rw [ho] at ho';cases ho'
  exact ⟨_,es',ep',hL,r'⟩) hok hg
theorem Inv.turned {t':Nat}{it:Addr} (I:Inv X pins σ H s) (k:∀b o,b≠it->s.heap.get? b=some o->h'.get? b=some o) (hn:H it=none) (hL:it≠X.env.locals)
  (h1:it∈X.ex∨X.s₀.heap.objs.size<=it) (h2:∀x c,X.env.cells.lookup x=some c->c≠it) (h3:∀p∈X.pn++pins,p.1≠it):Inv X pins σ H { s with heap:=h',toks:=t' }:=by
 have nit:∀b u,H b=some u->b≠it:=fun b u e z=>by rw [z,hn] at e;cases e
 refine I.step (g':=s.gens) (d':=s.drawn) (ch:=[it]) (fun b hb=>?_) (fun b o _ _ hc e _=>k b o (fun z=>hc (by simp [z])) e) (fun b o _ _ hc e _=>⟨o.slots,k b o (fun z=>hc (by simp [z])) e⟩) (fun _ _ _ _ n=>n)
  (fun b o hc e=>⟨o,k b o (fun z=>hc (by simp [z])) e⟩) (fun _ _ e=>e) (fun _ _ _ e=>e) (fun b ps e=>⟨#[],by rw [e];simp⟩) (fun m hm=>?_) (fun b u e=>?_) I.bare
 ·have e:b=it:=by simpa using hb
  subst e
  exact ⟨h1,hL,h2,h3⟩
 ·obtain ⟨o,es,ep,ho,r⟩:=hm
  exact ⟨o,es,ep,k _ o (Ne.symm hL) ho,r⟩
 ·refine (I.hok b u e).stay (fun c v hc q=>k c v ?_ q) (fun _ q=>q) fun _ _ q=>q
  rcases hc with z | z
  ·rw [z];exact nit b u e
  ·exact nit c _ z
theorem Inv.tok (I:Inv X pins σ H s) (t:Nat):Inv X pins σ H { s with toks:=t }:=I.un (h':=s.heap) (t':=t) Un.refl I.hok
theorem Inv.kept {t':Nat} (I:Inv X pins σ H s) (k:∀b u,s.heap.get? b=some u->h'.get? b=some u):Inv X pins σ H { s with heap:=h',toks:=t' }:=I.un (Un.kept k) (I.hok.kept k)
theorem Inv.laid {a:Addr}{o:HO}{t':Nat} (I:Inv X pins σ H s) (k:∀b u,s.heap.get? b=some u->h'.get? b=some u) (hp:s.heap.objs.size<=a) (new:Yp X.prog X.w (upd H a o) h' a o):
  Inv X pins σ (upd H a o) { s with heap:=h',toks:=t' }:=I.un (Un.laid k hp (I.hok.fresh hp)) (I.hok.laid k hp new)
theorem Inv.write {x e:Addr}{o:HO}{t':Nat} (I:Inv X pins σ H s) (mu:Mut (H x)) (he:e=x∨H e=some (.own x)) (k:∀b u,b≠e->s.heap.get? b=some u->h'.get? b=some u) (heo:∃u,h'.get? e=some u)
  (new:Yp X.prog X.w (upd H x o) h' x o):Inv X pins σ (upd H x o) { s with heap:=h',toks:=t' }:=I.un (Un.write mu he k heo) (I.hok.write mu he k heo new)
theorem Inv.pins_of {pins':List (Addr×Obj)} (I:Inv X pins σ H s) (h:∀p∈pins',s.heap.get? p.1=some p.2/\H p.1=none/\p.1≠X.env.locals/\p.1∉X.fs /\ ∀v,p.2.data ≠ .cell v):Inv X pins' σ H s:=
 ⟨I.ok,I.os,I.bare,I.base,I.loc,I.cell,I.free,I.freeC,fun p hp=>(List.mem_append.mp hp).elim (fun z=>I.pin p (List.mem_append_left _ z)) (h p),I.hok,I.len⟩
theorem ZeG {N:List Str} (hN:N.Nodup) {i j:Nat}{x:Str} (a:N[i]? = some x) (b:N[j]? = some x):i=j:=by
 obtain ⟨h1,e1⟩:=List.getElem?_eq_some_iff.mp a
 obtain ⟨h2,e2⟩:=List.getElem?_eq_some_iff.mp b
 exact (List.getElem_inj hN).mp (e1.trans e2.symm)
theorem ZaV {M:Model}{A:Around}{E:Value->Shared->Prop}{i:Nat}{x:Str}{v:V}{u:Value}{Q:Unit->Shared->Prop} (I:Inv X pins σ H s) (hN:X.N.Nodup) (hi:X.N[i]? = some x) (hx:Loc X.env.scope x) (r:RelV v u)
  (h:∀s',Inv X pins (σ.set i (some v)) H s'->(∃a,Heap.SameBut a s.heap s'.heap/\(a=X.env.locals∨X.env.cells.lookup x=some a))->Q () s') (hf:X.fn x=true∨X.env.scope.names.lookup x=some .local:=by first | exact .inl rfl | exact .inr rfl | assumption):wpAny M A (storeName X.env x u) Q E s:=by
 obtain ⟨m,hn,hl⟩:=id I.loc
 have hcls:(X.env.scope.kind == .class||(X.env.scope.kind == .module&&X.env.locals != X.env.globals))=false:=by rw [I.ok.kind];rfl
 have hiσ:i < σ.length:=by rw [I.len];exact (List.getElem?_eq_some_iff.mp hi).1
 have cne:=I.cne
 have tracked:∀{a:Addr}{h':Heap},(∃o,s.heap.get? a=some o/\H a=none)->Heap.SameBut a s.heap h'->Uv X.prog X.w H h':=fun {a h'} ha hs b ob e=>by
  obtain ⟨_,_,hfree⟩:=ha
  refine (I.hok b ob e).stay (fun c w' hc q=>(hs.2 c ?_).trans q) (fun _ q=>q) fun _ _ q=>q
  rintro rfl
  rcases hc with rfl | hc
  ·rw [hfree] at e;cases e
  ·rw [hfree] at hc;cases hc
 rcases hx with hk | hk
 ·refine wpAny_storeName_local hk hn (fun h' hn' hs=>?_) hcls
  obtain ⟨oL,_,_,hoL,_⟩:=id hn
  refine h _ ⟨I.ok,I.os,I.bare,⟨fun b o e n hb hx=>?_,fun b o e n hb hx=>?_,I.base.free,fun b o e hx=>?_,I.base.tups,I.base.frzs,I.base.tbls⟩,⟨_,hn',fun j y v' e1 e2 e3=>?_⟩,fun y c e=>?_,I.free,I.freeC,fun p hp=>?_,tracked ⟨oL,hoL,I.free⟩ hs,by simpa using I.len⟩ ⟨_,hs,.inl rfl⟩
  ·exact (hs.2 b (Nat.ne_of_lt (Nat.lt_of_lt_of_le (Heap.lt_size e) I.ok.above))).trans (I.base.keep b o e n hb hx)
  ·obtain ⟨sl,e1⟩:=I.base.slot b o e n hb hx
   exact ⟨sl,(hs.2 b (Nat.ne_of_lt (Nat.lt_of_lt_of_le (Heap.lt_size e) I.ok.above))).trans e1⟩
  ·obtain ⟨o',e1⟩:=I.base.there b o e hx
   exact ⟨o',(hs.2 b (Nat.ne_of_lt (Nat.lt_of_lt_of_le (Heap.lt_size e) I.ok.above))).trans e1⟩
  ·by_cases hj:j=i
   ·subst hj
    rw [hi] at e1;cases e1
    rw [List.getElem?_set_self hiσ] at e2
    cases e2
    exact ⟨u,r,.inl ⟨hk,by simp⟩⟩
   ·rw [List.getElem?_set_ne (Ne.symm hj)] at e2
    obtain ⟨u',r',q⟩:=hl j y v' e1 e2 e3
    refine ⟨u',r',?_⟩
    rcases q with ⟨k,e⟩ | ⟨k,c,e,z⟩
    ·refine .inl ⟨k,?_⟩
     have:y≠x:=fun e=>hj (ZeG hN e1 (e ▸ hi))
     simp [this,e]
    ·exact .inr ⟨k,c,e,z.sameBut hs (cne y c e)⟩
  ·obtain ⟨w',z⟩:=I.cell y c e
   exact ⟨w',z.sameBut hs (cne y c e)⟩
  ·obtain ⟨e,n,ne,nf,d⟩:=I.pin p hp
   exact ⟨(hs.2 p.1 ne).trans e,n,ne,nf,d⟩
 ·have hfn:X.fn x=true:=by
   rcases hf with z | z
   ·exact z
   ·rw [z] at hk;cases hk
  obtain ⟨c,hc⟩:=I.ok.has x (.inl hk)
  obtain ⟨w',z⟩:=I.cell x c hc
  refine wpAny_storeName_cell I.ok.kind hk hc z (fun h' hc' hs=>?_)
  obtain ⟨oc,hoc,hocd⟩:=id z
  refine h { s with heap:=h' } ⟨I.ok,I.os,I.bare,⟨fun b o e n hb hx=>?_,fun b o e n hb hx=>?_,I.base.free,fun b o e hx=>?_,I.base.tups,I.base.frzs,I.base.tbls⟩,⟨m,hn.sameBut hs (Ne.symm (cne x c hc)),fun j y v' e1 e2 e3=>?_⟩,fun y c' e=>?_,I.free,I.freeC,fun p hp=>?_,tracked ⟨oc,hoc,I.freeC x c hc⟩ hs,by simpa using I.len⟩ ⟨c,hs,.inr hc⟩
  ·exact (hs.2 b (Nat.ne_of_lt (Nat.lt_of_lt_of_le (Heap.lt_size e) (I.ok.cab x c hfn hc)))).trans (I.base.keep b o e n hb hx)
  ·obtain ⟨sl,e1⟩:=I.base.slot b o e n hb hx
   exact ⟨sl,(hs.2 b (Nat.ne_of_lt (Nat.lt_of_lt_of_le (Heap.lt_size e) (I.ok.cab x c hfn hc)))).trans e1⟩
  ·obtain ⟨o',e1⟩:=I.base.there b o e hx
   exact ⟨o',(hs.2 b (Nat.ne_of_lt (Nat.lt_of_lt_of_le (Heap.lt_size e) (I.ok.cab x c hfn hc)))).trans e1⟩
  ·by_cases hj:j=i
   ·subst hj
    rw [hi] at e1;cases e1
    rw [List.getElem?_set_self hiσ] at e2
    cases e2
    exact ⟨u,r,.inr ⟨.inl hk,c,hc,hc'⟩⟩
   ·rw [List.getElem?_set_ne (Ne.symm hj)] at e2
    obtain ⟨u',r',q⟩:=hl j y v' e1 e2 e3
    refine ⟨u',r',?_⟩
    rcases q with q | ⟨k,c',e,z'⟩
    ·exact .inl q
    ·refine .inr ⟨k,c',e,z'.sameBut hs ?_⟩
     rintro rfl
     exact hj (ZeG hN e1 (I.ok.inj _ _ _ e hc ▸ hi))
  ·by_cases hcc:c'=c
   ·subst hcc;exact ⟨_,hc'⟩
   ·obtain ⟨w2,z2⟩:=I.cell y c' e
    exact ⟨w2,z2.sameBut hs hcc⟩
  ·obtain ⟨e,n,ne,nf,d⟩:=I.pin p hp
   refine ⟨(hs.2 p.1 ?_).trans e,n,ne,nf,d⟩
   intro q
   rw [q,hoc] at e
   have q':oc=p.2:=Option.some.inj e
   exact d w' (by rw [<- q'];exact hocd)
theorem Zct {M:Model}{A:Around}{E:Value->Shared->Prop}{i:Nat}{x:Str}{v:V}{u:Value}{Q:Unit->Shared->Prop} (I:Inv X pins σ H s) (hN:X.N.Nodup) (hi:X.N[i]? = some x) (hx:Loc X.env.scope x) (r:RelV v u)
  (h:∀s',Inv X pins (σ.set i (some v)) H s'->Q () s') (hf:X.fn x=true∨X.env.scope.names.lookup x=some .local:=by first | exact .inl rfl | exact .inr rfl | assumption):wpAny M A (storeName X.env x u) Q E s:=
 ZaV I hN hi hx r (fun s' I' _=>h s' I') hf
theorem Inv.call' {s':Shared}{ch:List Addr} (I:Inv X pins σ H s) (ho:s'.os=s.os) (u:Un (frs X.stack) ch H H' s.heap s'.heap) (hok:Uv X.prog X.w H' s'.heap) (hg:AllBare s'.gens)
  (hch:∀b∈ch,(b∈X.ex∨X.s₀.heap.objs.size<=b)/\b≠X.env.locals/\(∀x c,X.env.cells.lookup x=some c->c≠b) /\ ∀p∈X.pn++pins,p.1≠b):Inv X pins σ H' s':=by
 obtain ⟨h',g',d',t',o'⟩:=s'
 have e:o'=s.os:=ho
 subst e
 exact I.call (g':=g') (t':=t') (d':=d') u hok hg hch
end
abbrev XK:=Value->Option Addr->Hp->Prop
abbrev St:=List (Option V)
abbrev VK:=V->Hp->Prop
abbrev TE:=St->Hp->VK->Prop
abbrev TT:=St->Hp->(Bool->Hp->Prop)->Prop
abbrev TA:=St->Hp->(List V->Hp->Prop)->Prop
structure Ends where
 nx:St->Hp->Prop
 rt:VK
 bk:St->Hp->Prop:=fun _ _=>False
 ct:St->Hp->Prop:=fun _ _=>False
abbrev TS:=Ends->St->Hp->Prop
def EP (X:Cx) (pins:List (Addr×Obj)) (σ:St) (Q:VK) (u:Value) (s':Shared):Prop:=∃v H',Inv X pins σ H' s'/\RelV v u/\Q v H'
def TP (X:Cx) (pins:List (Addr×Obj)) (σ:St) (Q:Bool->Hp->Prop) (b:Bool) (s':Shared):Prop:=∃H',Inv X pins σ H' s'/\Q b H'
def AP (X:Cx) (pins:List (Addr×Obj)) (σ:St) (Q:List V->Hp->Prop) (us:List Value) (s':Shared):Prop:=∃vs H',Inv X pins σ H' s'/\Vals vs us/\Q vs H'
def SP (X:Cx) (pins:List (Addr×Obj)) (D:Ends) (f:Flow) (s':Shared):Prop:=
 match f with
 | .next=>∃ σ' H',Inv X pins σ' H' s'/\D.nx σ' H'
 | .brk=>∃ σ' H',Inv X pins σ' H' s'/\D.bk σ' H'
 | .cont=>∃ σ' H',Inv X pins σ' H' s'/\D.ct σ' H'
 | .ret u=>∃v σ' H',Inv X pins σ' H' s'/\RelV v u/\D.rt v H'
def PE (X:Cx) (e:Expr) (t:TE):Prop:=
 ∀(pins:List (Addr×Obj)) (s:Shared) (σ:St) (H:Hp) (Q:VK),Inv X pins σ H s->t σ H Q->wpAny (model X.prog X.w) X.A (eval e X.env) (EP X pins σ Q) X.xe s
def PT (X:Cx) (e:Expr) (t:TT):Prop:=
 ∀(pins:List (Addr×Obj)) (s:Shared) (σ:St) (H:Hp) (Q:Bool->Hp->Prop),Inv X pins σ H s->t σ H Q->wpAny (model X.prog X.w) X.A (isTrue e X.env (eval e X.env)) (TP X pins σ Q) X.xe s
def PW (X:Cx) (e:Expr) (t:TT):Prop:=
 ∀(whole:Sem Value) (pins:List (Addr×Obj)) (s:Shared) (σ:St) (H:Hp) (Q:Bool->Hp->Prop),Inv X pins σ H s->t σ H Q->wpAny (model X.prog X.w) X.A (isTrue e X.env whole) (TP X pins σ Q) X.xe s
theorem PW.pt {X:Cx}{e:Expr}{t:TT} (h:PW X e t):PT X e t:=h _
def PA (X:Cx) (es:List Expr) (t:TA):Prop:=
 ∀(pos:Pos) (pins:List (Addr×Obj)) (s:Shared) (σ:St) (H:Hp) (Q:List V->Hp->Prop),Inv X pins σ H s->t σ H Q->wpAny (model X.prog X.w) X.A (spliced (backTo pos (starEach es X.env))) (AP X pins σ Q) X.xe s
def PS (X:Cx) (st:Stmt) (t:TS):Prop:=
 ∀(pins:List (Addr×Obj)) (s:Shared) (σ:St) (H:Hp) (D:Ends),Inv X pins σ H s->t D σ H->wpAny (model X.prog X.w) X.A (exec st X.env) (SP X pins D) X.xe s
def PSs (X:Cx) (st:List Stmt) (t:TS):Prop:=
 ∀(pins:List (Addr×Obj)) (s:Shared) (σ:St) (H:Hp) (D:Ends),Inv X pins σ H s->t D σ H->wpAny (model X.prog X.w) X.A (execs st X.env) (SP X pins D) X.xe s
theorem YR {α:Type}{t:Sem α}{Q Q':α -> Shared->Prop}{M:Model}{A:Around}{E:Value->Shared->Prop}{s:Shared} (h:wpAny M A t Q E s) (hQ:∀a s,Q a s->Q' a s):wpAny M A t Q' E s:=wpAny_mono h hQ fun _ _ x=>x
section
variable {X:Cx}
def ZdP (i:Nat):TE:=fun σ H Q=>∃v,σ[i]? = some (some v)/\Q v H
def tC (v:V):TE:=fun _ H Q=>Q v H
theorem ZlJ {i:Nat}{x:Str}{pos:Pos} (hN:X.N[i]? = some x) (hv:Vis X.env.scope x) (hd:(x==("__debug__" : Str))=false:=by decide) (hcd:(x==("__classdict__" : Str))=false:=by decide):PE X (.Name x pos) (ZdP i):=by
 intro pins s σ H Q I h
 obtain ⟨v,e,h⟩:=h
 obtain ⟨m,hn,hl⟩:=I.loc
 obtain ⟨u,r,l⟩:=hl i x v hN e hv
 have fin:EP X pins σ Q u s:=⟨v,H,I,r,h⟩
 rcases l with ⟨hk,hm⟩ | ⟨hk,c,hc,hcell⟩
 ·exact wpAny_Name (wpAny_loadName_local I.ok.kind hk hn hm fin) hd
 ·rcases hk with hk | hk
  ·exact wpAny_Name (wpAny_loadName_cell I.ok.kind hk hc hcell fin) hd
  ·exact wpAny_Name (wpAny_loadName_free I.ok.kind hk hc hcell fin hcd) hd
theorem Zd {i j pos}:PE X (.Constant (.int i) j pos) (tC (.int i)):=fun _ _ _ H _ I h=>wpAny_Constant_int ⟨.int i,H,I.tok _,⟨_,rfl⟩,h⟩
theorem ZaJ {b j pos}:PE X (.Constant (.bool b) j pos) (tC (.bl b)):=fun _ _ _ H _ I h=>Constant_bool ⟨.bl b,H,I,rfl,h⟩
theorem Gm {j pos}:PE X (.Constant .none j pos) (tC .non):=fun _ _ _ H _ I h=>Constant_none ⟨.non,H,I,rfl,h⟩
theorem ZK {x j pos}:PE X (.Constant (.str x) j pos) (tC (.str x)):=fun _ _ _ H _ I h=>Calls.Constant_str ⟨.str x,H,I.tok _,⟨_,rfl⟩,h⟩
def Gl (X:Cx) (x:Str):Prop:=X.env.kindOf x=some .globalImplicit
theorem Zea {E:Value->Shared->Prop}{pins:List (Addr×Obj)}{s:Shared} {σ:St}{H:Hp}{x:Str}{u:Value}{pos:Pos}{Q:Value->Shared->Prop} (I:Inv X pins σ H s) (hg:Gl X x) (hm:X.mg x=some u) (h:Q u s)
  (hd:(x==("__debug__" : Str))=false:=by decide):wpAny (model X.prog X.w) X.A (eval (.Name x pos) X.env) Q E s:=
 Calls.Name_function_global I.ok.kind hg (Calls.loadGlobal_global (by rw [I.ok.glob];exact I.mod.glob.keeps I.bk) hm h) hd
theorem GI {E:Value->Shared->Prop}{pins:List (Addr×Obj)}{s:Shared} {σ:St}{H:Hp}{x:Str}{u:Value}{pos:Pos}{Q:Value->Shared->Prop} (I:Inv X pins σ H s) (hg:Gl X x) (hm:X.mg x=none) (hv:bootBuiltins x=some u) (h:Q u s)
  (hn:x ≠ "__name__" := by decide) (hd:(x==("__debug__" : Str))=false:=by decide):wpAny (model X.prog X.w) X.A (eval (.Name x pos) X.env) Q E s:=by
 obtain ⟨mb,h1,h2⟩:=I.mod.blt
 exact Calls.Name_function_global I.ok.kind hg (Calls.loadGlobal_builtin (by rw [I.ok.glob];exact I.mod.glob.keeps I.bk) hm (by rw [I.ok.blt];exact h1.keeps I.bk) ((h2 x hn).trans hv) h) hd
theorem ZkD {x:Str}{v:V}{u:Value}{pos:Pos} (hg:Gl X x) (hm:X.mg x=some u) (r:RelV v u) (hd:(x==("__debug__" : Str))=false:=by decide):PE X (.Name x pos) (tC v):=
 fun _ _ _ H _ I h=>Zea I hg hm ⟨v,H,I,r,h⟩ hd
theorem ZbT {x:Str}{v:V}{u:Value}{pos:Pos} (hg:Gl X x) (hm:X.mg x=none) (hv:bootBuiltins x=some u) (r:RelV v u) (hn:x ≠ "__name__" := by decide) (hd:(x==("__debug__" : Str))=false:=by decide):PE X (.Name x pos) (tC v):=
 fun _ _ _ H _ I h=>GI I hg hm hv ⟨v,H,I,r,h⟩ hn hd
variable {a b:Expr}{ta tb:TE}{pos:Pos}
def PC (X:Cx) (op:CmpOp) (a b:Expr) (t:TE):Prop:=
 ∀(pins:List (Addr×Obj)) (s:Shared) (σ:St) (H:Hp) (Q:VK),Inv X pins σ H s->t σ H Q ->
  wpAny (model X.prog X.w) X.A (eval a X.env) (fun v s₁=>wpAny (model X.prog X.w) X.A (eval b X.env) (fun u s₂=>wpAny (model X.prog X.w) X.A (compareOp op v u) (EP X pins σ Q) X.xe s₂) X.xe s₁) X.xe s
def tB (t:TE):TT:=fun σ H Q=>t σ H fun x H1=>∃c,x = .bl c/\Q c H1
theorem Zd4 {op:CmpOp}{t:TE} (h:PC X op a b t) (h1:behindInMarks op b=false:=by first | exact nobehind _ (by decide) (by decide) | rfl):PT X (.Compare a [op] [b] pos) (tB t):=by
 intro pins s σ H Q I hw
 refine wpAny_isTrue_Compare1 (YR (h pins s σ H _ I hw) fun v s1 h1=>YR h1 fun u s2 h2=>YR h2 fun c s3 ⟨x,H1,I1,r1,q1⟩=>?_) h1
 obtain ⟨d,rfl,q⟩:=q1
 cases r1
 exact wpAny_truthy_bool ⟨H1,I1,q⟩
theorem Zan {e:Expr}{t:TE} (h:PE X e t) (he:∀whole,isTrue e X.env whole=(do let v <- whole;standAt e.pos;holding [v] (truthy v)):=by intro _;rfl):PT X e (tB t):=by
 intro pins s σ H Q I hw
 refine isTrue_plain (YR (h pins s σ H _ I hw) fun v s1 ⟨x,H1,I1,r1,q1⟩=>?_) (he _)
 obtain ⟨d,rfl,q⟩:=q1
 cases r1
 exact wpAny_truthy_bool ⟨H1,I1,q⟩
variable {tA tB':TT}{rest:List Expr}
def Zm9 (t u:TT):TT:=fun σ H Q=>t σ H fun c H1=>if c=true then u σ H1 Q else Q false H1
def tOr (t u:TT):TT:=fun σ H Q=>t σ H fun c H1=>if c=true then Q true H1 else u σ H1 Q
def Zns (t:TT):TT:=fun σ H Q=>t σ H fun c H1=>Q (!c) H1
theorem Gi (ha:PT X a tA):PW X (.BoolOp .And [a] pos) tA:=by
 intro wh pins s σ H Q I h
 refine isTrue_and (YR (ha pins s σ H Q I h) fun c s1 e=>?_)
 cases c with
 | true=>exact isTrue_and_nil e
 | false=>exact e
theorem Uq (ha:PT X a tA):PW X (.BoolOp .Or [a] pos) tA:=by
 intro wh pins s σ H Q I h
 refine isTrue_or (YR (ha pins s σ H Q I h) fun c s1 e=>?_)
 cases c with
 | false=>exact isTrue_or_nil e
 | true=>exact e
theorem Gj (ha:PT X a tA) (hb:PW X (.BoolOp .And (b::rest) pos) tB'):PW X (.BoolOp .And (a::b::rest) pos) (Zm9 tA tB'):=by
 intro wh pins s σ H Q I h
 refine isTrue_and (YR (ha pins s σ H _ I h) fun c s1 ⟨H1,I1,q1⟩=>?_)
 cases c with
 | true=>exact hb wh pins s1 σ H1 Q I1 q1
 | false=>exact ⟨H1,I1,q1⟩
theorem Zad (ha:PT X a tA) (hb:PW X (.BoolOp .Or (b::rest) pos) tB'):PW X (.BoolOp .Or (a::b::rest) pos) (tOr tA tB'):=by
 intro wh pins s σ H Q I h
 refine isTrue_or (YR (ha pins s σ H _ I h) fun c s1 ⟨H1,I1,q1⟩=>?_)
 cases c with
 | true=>exact ⟨H1,I1,q1⟩
 | false=>exact hb wh pins s1 σ H1 Q I1 q1
theorem Zbk (ha:PT X a tA):PT X (.UnaryOp .Not a pos) (Zns tA):=by
 intro pins s σ H Q I h
 exact isTrue_not (ha pins s σ H (fun c H1=>Q (!c) H1) I h)
def ZmQ (ta tb:TE):TE:=fun σ H Q=>ta σ H fun x H1=>∃c,x = .bl c/\if c=true then tb σ H1 Q else Q (.bl false) H1
def ZmO (ta:TE):TE:=fun σ H Q=>ta σ H fun x H1=>∃c,x = .bl c/\Q (.bl (!c)) H1
theorem ZiM {op}{t:TE} (h:PE X a t):PE X (.BoolOp op [a] pos) t:=fun pins s σ H Q I hw=>BoolOp_one (h pins s σ H Q I hw)
theorem Ziu (ha:PE X a ta) (hb:PE X (.BoolOp .And (b::rest) pos) tb):PE X (.BoolOp .And (a::b::rest) pos) (ZmQ ta tb):=by
 intro pins s σ H Q I h
 refine BoolOp_and (YR (ha pins s σ H _ I h) fun v s1 ⟨x,H1,I1,r1,q1⟩=>?_)
 obtain ⟨c,rfl,q1⟩:=q1
 cases r1
 refine wpAny_truthy_bool ?_
 cases c with
 | true=>exact hb pins s1 σ H1 Q I1 q1
 | false=>exact ⟨.bl false,H1,I1,rfl,q1⟩
theorem Zlu (ha:PE X a ta):PE X (.UnaryOp .Not a pos) (ZmO ta):=by
 intro pins s σ H Q I h
 refine UnaryOp_ (YR (ha pins s σ H _ I h) fun v s1 ⟨x,H1,I1,r1,q1⟩=>?_)
 obtain ⟨c,rfl,q1⟩:=q1
 cases r1
 exact not_of (wpAny_truthy_bool ⟨.bl (!c),H1,I1,rfl,q1⟩)
def tIf (t:TT) (ta tb:TE):TE:=fun σ H Q=>t σ H fun c H1=>if c=true then ta σ H1 Q else tb σ H1 Q
theorem Zh6 {c:Expr} (hc:PT X c tA) (ha:PE X a ta) (hb:PE X b tb):PE X (.IfExp c a b pos) (tIf tA ta tb):=by
 intro pins s σ H Q I h
 refine wpAny_IfExp (YR (hc pins s σ H _ I h) fun d s1 ⟨H1,I1,q1⟩=>?_)
 cases d with
 | true=>exact ha pins s1 σ H1 Q I1 q1
 | false=>exact hb pins s1 σ H1 Q I1 q1
end
def Zu (K:PySem.W.Frag) (H:Hp) (a:Addr) (xs:List V):Prop:=
 Rd H a (.lst xs) ∨
  ∃(o:Obj) (its:Array Value) (n:Nat),K.lookup a=some o/\o.cls = .type "list" /\ o.dict=none/\o.data = .seq its n/\its.size<=sizeLine/\Vals xs its.toList
def JZ (K:PySem.W.Frag) (H:Hp) (a:Addr) (xs:List V):Prop:=
 Rd H a (.tup xs) ∨
  ∃(o:Obj) (its:Array Value) (n:Nat),K.lookup a=some o/\o.cls = .type "tuple" /\ o.data = .seq its n/\its.size<=sizeLine/\Vals xs its.toList
def Znw:Value->Option V
 | .none=>some .non
 | .bool b=>some (.bl b)
 | .int i _=>some (.int i)
 | .str x _=>some (.str x)
 | .bytes b _=>some (.byt b)
 | .float b _=>some (.flt b)
 | .ref a=>some (.ref a)
 | .type n=>some (.ty n)
 | _=>none
theorem RelV.abs {x:V}{u:Value} (r:RelV x u):Znw u=some x:=by
 cases x with
 | non=>cases r;rfl
 | bl _=>cases r;rfl
 | int _=>obtain ⟨t,rfl⟩:=r;rfl
 | str _=>obtain ⟨t,rfl⟩:=r;rfl
 | byt _=>obtain ⟨t,rfl⟩:=r;rfl
 | flt _=>obtain ⟨t,rfl⟩:=r;rfl
 | ref _=>cases r;rfl
 | ty _=>cases r;rfl
theorem RelV.inj {x y:V}{u:Value} (r:RelV x u) (q:RelV y u):x=y:=Option.some.inj (r.abs.symm.trans q.abs)
theorem Vals.inj:∀{xs ys:List V}{us:List Value},Vals xs us->Vals ys us->xs=ys
 | _,_,_,.nil,.nil=>rfl
 | _,_,_,.cons r t,.cons r' t'=>by rw [r.inj r',Vals.inj t t']
section
variable {X:Cx}{pins:List (Addr×Obj)} {σ:St}{H:Hp}{s:Shared}{a:Addr}{xs ys:List V}
theorem Zu.of {K:PySem.W.Frag} (h:H a=some (.lst xs)):Zu K H a xs:=.inl (.inl h)
theorem JZ.of {K:PySem.W.Frag} (h:H a=some (.tup xs)):JZ K H a xs:=.inl (.inl h)
theorem Inv.list (I:Inv X pins σ H s) (h:Zu X.K H a xs):∃its:List Value,Vals xs its/\PlainL s.heap a its.toArray/\xs.length<=sizeLine:=by
 rcases h with h | ⟨o,its,n,hk,hc,hd,hs,hz,r⟩
 ·obtain ⟨z,its,n,r,e⟩:=h.ok I.hok
  exact ⟨its,r,⟨_,n,e,rfl,rfl,rfl⟩,z⟩
 ·refine ⟨its.toList,r,⟨o,n,I.kIn a o hk,hc,hd,by simpa using hs⟩,?_⟩
  have e:=r.length
  simp only [Array.length_toList] at e
  lia
theorem Inv.tuple (I:Inv X pins σ H s) (h:JZ X.K H a xs):∃its:List Value,Vals xs its/\IsTup s.heap a its.toArray/\xs.length<=sizeLine:=by
 rcases h with h | ⟨o,its,n,hk,hc,hs,hz,r⟩
 ·obtain ⟨z,its,r,p⟩:=h.ok I.hok
  exact ⟨its,r,p,z⟩
 ·refine ⟨its.toList,r,⟨o,I.kIn a o hk,hc,n,by simpa using hs⟩,?_⟩
  have e:=r.length
  simp only [Array.length_toList] at e
  lia
theorem Inv.list_inj (I:Inv X pins σ H s) (h:Zu X.K H a xs) (h':Zu X.K H a ys):xs=ys:=by
 obtain ⟨its,r,⟨o,n,e,_,_,d⟩,_⟩:=I.list h
 obtain ⟨its',r',⟨o',n',e',_,_,d'⟩,_⟩:=I.list h'
 rw [e] at e';cases e'
 rw [d] at d'
 injection d' with d1 _
 have:its=its':=by simpa using congrArg Array.toList d1
 subst this
 exact r.inj r'
end
abbrev Cx.wish (X:Cx) (E:Value->Shared->Prop):Cx:={ X with xe:=E }
abbrev Cx.nox (X:Cx):Cx:=X.wish fun _ _=>False
theorem Cx.Ok.wish {X:Cx} (ok:X.Ok) (E:Value->Shared->Prop):(X.wish E).Ok:=
 ⟨ok.mod,ok.kind,ok.glob,ok.blt,ok.above,ok.inj,ok.has,ok.cab,ok.hd,ok.frames,ok.stk,ok.exf,ok.bs,ok.bsz,ok.noex,ok.exfs,ok.funs,ok.frf⟩
theorem Cx.Ok.unwish {X:Cx}{E:Value->Shared->Prop} (ok:(X.wish E).Ok):X.Ok:=
 ⟨ok.mod,ok.kind,ok.glob,ok.blt,ok.above,ok.inj,ok.has,ok.cab,ok.hd,ok.frames,ok.stk,ok.exf,ok.bs,ok.bsz,ok.noex,ok.exfs,ok.funs,ok.frf⟩
section
variable {X:Cx}{pins:List (Addr×Obj)} {σ:St}{H:Hp}{s:Shared}{E:Value->Shared->Prop}
theorem Inv.wish (I:Inv X pins σ H s) (E:Value->Shared->Prop):Inv (X.wish E) pins σ H s:=⟨I.ok.wish E,I.os,I.bare,I.base,I.loc,I.cell,I.free,I.freeC,I.pin,I.hok,I.len⟩
theorem Inv.unwish (I:Inv (X.wish E) pins σ H s):Inv X pins σ H s:=⟨I.ok.unwish,I.os,I.bare,I.base,I.loc,I.cell,I.free,I.freeC,I.pin,I.hok,I.len⟩
theorem SP.unwish {D:Ends}{f:Flow}{s':Shared} (h:SP (X.wish E) pins D f s'):SP X pins D f s':=by
 cases f with
 | next=>obtain ⟨σ',H',I,q⟩:=h;exact ⟨σ',H',I.unwish,q⟩
 | brk=>obtain ⟨σ',H',I,q⟩:=h;exact ⟨σ',H',I.unwish,q⟩
 | cont=>obtain ⟨σ',H',I,q⟩:=h;exact ⟨σ',H',I.unwish,q⟩
 | ret u=>obtain ⟨v,σ',H',I,r,q⟩:=h;exact ⟨v,σ',H',I.unwish,r,q⟩
theorem PSs.nox {st:List Stmt}{t:TS} (h:PSs X.nox st t):PSs X st t:=fun pins s σ H D I hw=>
 wpAny_mono (h pins s σ H D (I.wish _) hw) (fun _ _ q=>q.unwish) fun _ _ z=>False.elim z
end
section
variable {X:Cx}{st:Stmt}{rest:List Stmt}{t u:TS}{e:Expr}{te:TE}{pos:Pos}
def Zk3:TS:=fun D σ H=>D.nx σ H
def Zju (t u:TS):TS:=fun D σ H=>t { D with nx:=u D } σ H
theorem ZG:PSs X [] Zk3:=fun _ _ σ H _ I h=>wpAny_execs_nil ⟨σ,H,I,h⟩
theorem Ze (h1:PS X st t) (h2:PSs X rest u):PSs X (st::rest) (Zju t u):=by
 intro pins s σ H D I h
 refine wpAny_execs_cons (YR (h1 pins s σ H { D with nx:=u D } I h) fun f s1 q=>?_)
 cases f with
 | next=>
  obtain ⟨σ',H',I',q⟩:=q
  exact h2 pins s1 σ' H' D I' q
 | ret v=>exact q
 | brk=>exact q
 | cont=>exact q
theorem Zg (h1:PS X st t):PSs X [st] t:=by
 intro pins s σ H D I h
 refine wpAny_execs_cons (YR (h1 pins s σ H D I h) fun f s1 q=>?_)
 cases f with
 | next=>exact wpAny_execs_nil q
 | ret v=>exact q
 | brk=>exact q
 | cont=>exact q
theorem Inv.quiet {pins:List (Addr×Obj)} {σ:St}{H:Hp}{s:Shared} (I:Inv X pins σ H s):interactive X.env=false:=by simp [interactive,I.ok.kind]
def Zmz (te:TE):TS:=fun D σ H=>te σ H fun _ H1=>D.nx σ H1
theorem Yq (he:PE X e te) (hs:swapsWith e none pos.line X.env=pure false:=by rfl):PS X (.Expr e pos) (Zmz te):=by
 intro pins s σ H D I h
 exact wpAny_Expr_any (YR (he pins s σ H _ I h) fun v s1 ⟨x,H1,I1,r1,q1⟩=>⟨σ,H1,I1,q1⟩) I.quiet hs
def Znp (te:TE):TS:=fun D σ H=>te σ H D.rt
theorem ZD (he:PE X e te):PS X (.Return (some e) pos) (Znp te):=by
 intro pins s σ H D I h
 exact wpAny_Return_some (YR (he pins s σ H _ I h) fun v s1 ⟨x,H1,I1,r1,q1⟩=>⟨x,σ,H1,I1,r1,q1⟩)
def ZgP (c:TT) (t u:TS):TS:=fun D σ H=>c σ H fun b H1=>if b=true then t D σ H1 else u D σ H1
theorem ZU {c:Expr}{a b:List Stmt}{tc:TT} (hc:PT X c tc) (ha:PSs X a t) (hb:PSs X b u):PS X (.If c a b pos) (ZgP tc t u):=by
 intro pins s σ H D I h
 refine wpAny_If (YR (hc pins s σ H _ I h) fun d s1 ⟨H1,I1,q1⟩=>?_)
 cases d with
 | true=>exact ha pins s1 σ H1 D I1 q1
 | false=>exact hb pins s1 σ H1 D I1 q1
def Zlx:TS:=fun _ _ _=>False
theorem ZhO:PS X st Zlx:=fun _ _ _ _ _ _ h=>h.elim
end
abbrev TG:=V->St->Hp->(St->Hp->Prop)->Prop
abbrev TGs:=List V->St->Hp->(St->Hp->Prop)->Prop
def PG (X:Cx) (target:Expr) (t:TG):Prop:=
 ∀(pins:List (Addr×Obj)) (s:Shared) (σ:St) (H:Hp) (v:V) (u:Value) (Q:St->Hp->Prop),Inv X pins σ H s->RelV v u->t v σ H Q ->
  wpAny (model X.prog X.w) X.A (assign target X.env u) (fun _ s'=>∃ σ' H',Inv X pins σ' H' s'/\Q σ' H') X.xe s
def PGs (X:Cx) (ts:List Expr) (t:TGs):Prop:=
 ∀(pins:List (Addr×Obj)) (s:Shared) (σ:St) (H:Hp) (vs:List V) (us:List Value) (Q:St->Hp->Prop),Inv X pins σ H s->Vals vs us->t vs σ H Q ->
  wpAny (model X.prog X.w) X.A (assignInOrder ((assignEach ts X.env).map (·.2)) us) (fun _ s'=>∃ σ' H',Inv X pins σ' H' s'/\Q σ' H') X.xe s
abbrev ZhW:=V->V->V->Hp->(Hp->Prop)->Prop
def ZjB (X:Cx) (t:ZhW):Prop:=
 ∀(pins:List (Addr×Obj)) (s:Shared) (σ:St) (H:Hp) (o i v:V) (ov iv u:Value) (Q:Hp->Prop),Inv X pins σ H s->RelV o ov->RelV i iv->RelV v u->t o i v H Q ->
  wpAny (model X.prog X.w) X.A (setItem ov iv u) (fun _ s'=>∃H',Inv X pins σ H' s'/\Q H') X.xe s
abbrev TIp:=V->V->Hp->VK->Prop
def PIp (X:Cx) (op:Operator) (t:TIp):Prop:=
 ∀(pins:List (Addr×Obj)) (s:Shared) (σ:St) (H:Hp) (x y:V) (v u:Value) (Q:VK),Inv X pins σ H s->RelV x v->RelV y u->t x y H Q ->
  wpAny (model X.prog X.w) X.A (inplaceOp op v u) (EP X pins σ Q) X.xe s
section
variable {X:Cx}{pos:Pos}
def W0 (i:Nat):TG:=fun v σ H Q=>Q (σ.set i (some v)) H
theorem Zk {i:Nat}{x:Str} (hN:X.N.Nodup) (hi:X.N[i]? = some x) (hx:Loc X.env.scope x) (hf:X.fn x=true∨X.env.scope.names.lookup x=some .local:=by first | exact .inl rfl | exact .inr rfl | assumption):PG X (.Name x pos) (W0 i):=by
 intro pins s σ H v u Q I r h
 exact wpAny_assign_Name (Zct I hN hi hx r (fun s' I'=>⟨_,H,I',h⟩) hf)
def ZnA:TGs:=fun vs σ H Q=>vs = []/\Q σ H
def Zm8 (t:TG) (u:TGs):TGs:=fun vs σ H Q=>∃v r,vs=v::r/\t v σ H fun σ' H'=>u r σ' H' Q
theorem Z6:PGs X [] ZnA:=by
 intro pins s σ H vs us Q I r h
 obtain ⟨e,h⟩:=h
 subst e
 cases r
 exact assignInOrder_nil ⟨σ,H,I,h⟩
theorem Zq {e:Expr}{es:List Expr}{t:TG}{u:TGs} (h1:PG X e t) (h2:PGs X es u)
  (hs:(assignEach (e::es) X.env).map (·.2)=assign e X.env::(assignEach es X.env).map (·.2):=by rfl):PGs X (e::es) (Zm8 t u):=by
 intro pins s σ H vs us Q I r h
 obtain ⟨v,vr,e1,h⟩:=h
 subst e1
 cases r with
 | cons r rr=>
  rw [hs]
  refine assignInOrder_cons (YR (h1 pins s σ H _ _ _ I r h) fun _ s1 ⟨σ1,H1,I1,q1⟩=>?_)
  exact h2 pins s1 σ1 H1 _ _ Q I1 rr q1
def Zm2 (K:PySem.W.Frag) (n:Nat) (t:TGs):TG:=fun v σ H Q=>∃a xs,v = .ref a/\JZ K H a xs/\xs.length=n/\t xs σ H Q
theorem Zmh {es:List Expr}{k:Nat}{t:TGs}{n:Nat} (hc:X.calm=true) (h:PGs X es t)
  (hn:(assignEach es X.env).length=n:=by rfl) (hst:(assignEach es X.env).findIdx? (·.1)=none:=by rfl):PG X (.Tuple es k pos) (Zm2 X.K n t):=by
 intro pins s σ H v u Q I r hw
 obtain ⟨a,xs,e1,hq,hl,hw⟩:=hw
 subst e1
 cases r
 obtain ⟨its,rv,ht,hz⟩:=I.tuple hq
 refine assign_Tuple_tuple (I.ok.hd hc) ht (by simp [hn,<- hl,rv.length]) hst fun h' hx=>?_
 have I1:Inv X pins σ H { s with heap:=h' }:=I.kept (t':=s.toks) fun b o e=>hx b o (Nat.ne_of_lt (Heap.lt_size e)) e
 exact h pins _ σ H xs _ Q I1 (by simpa using rv) hw
def ZlO (to ti:TE) (t:ZhW):TG:=fun v σ H Q=>to σ H fun o H1=>ti σ H1 fun i H2=>t o i v H2 fun H3=>Q σ H3
theorem YC {o i:Expr}{to ti:TE}{t:ZhW} (ho:PE X o to) (hi:PE X i ti) (hs:ZjB X t)
  (ha:∀v,assign (.Subscript o i pos) X.env v=(do
   let ov <- holding [v] (eval o X.env)
   let iv <- holding [v,ov] (eval i X.env)
   standAt pos
   holding [v,ov,iv] (setItem ov iv v)
   release [v,ov,iv] []):=by intro _;rfl):PG X (.Subscript o i pos) (ZlO to ti t):=by
 intro pins s σ H v u Q I r h
 rw [ha]
 refine wpAny_bind (wpAny_holding (YR (ho pins s σ H _ I h) fun ov s1 ⟨x,H1,I1,r1,q1⟩=>?_))
 refine wpAny_bind (wpAny_holding (YR (hi pins s1 σ H1 _ I1 q1) fun iv s2 ⟨y,H2,I2,r2,q2⟩=>?_))
 refine wpAny_bind (wpAny_standAt (wpAny_bind (wpAny_holding (YR (hs pins s2 σ H2 x y v ov iv u _ I2 r1 r2 r q2) fun _ s3 ⟨H3,I3,q3⟩=>?_))))
 exact wpAny_release ⟨σ,H3,I3,q3⟩
def Zg9 (te:TE) (g:TG):TS:=fun D σ H=>te σ H fun x H1=>g x σ H1 D.nx
theorem Yv {tg e:Expr}{te:TE}{g:TG} (he:PE X e te) (hg:PG X tg g) (hs:swapsWithSole [tg] e pos.line X.env=pure false:=by rfl) (hw:swappedStores [tg] e X.env=pure none:=by rfl)
  (h1:(assignEach [tg] X.env).map (·.2) = [assign tg X.env]:=by rfl):PS X (.Assign [tg] e pos) (Zg9 te g):=by
 intro pins s σ H D I h
 refine wpAny_Assign_stores (YR (he pins s σ H _ I h) fun v s1 ⟨x,H1,I1,r1,q1⟩=>?_) hs hw
 rw [h1]
 exact YR (hg pins s1 σ H1 x v _ I1 r1 q1) fun _ s2 q=>q
theorem Zo {i:Nat}{x:Str}{e:Expr}{te:TE}{pos':Pos} (hN:X.N.Nodup) (hi:X.N[i]? = some x) (hx:Loc X.env.scope x) (he:PE X e te) (hs:swapsWith e (some (.Name x pos')) pos.line X.env=pure false:=by rfl) (hf:X.fn x=true∨X.env.scope.names.lookup x=some .local:=by first | exact .inl rfl | exact .inr rfl | assumption):
  PS X (.Assign [.Name x pos'] e pos) (Zg9 te (W0 i)):=by
 intro pins s σ H D I h
 refine wpAny_Assign_Name (YR (he pins s σ H _ I h) fun v s1 ⟨y,H1,I1,r1,q1⟩=>?_) hs
 exact Zct I1 hN hi hx r1 (fun s2 I2=>⟨_,H1,I2,q1⟩) hf
def ZnB (i:Nat) (te:TE) (ti:TIp):TS:=fun D σ H=>∃x,σ[i]? = some (some x)/\te σ H fun y H1=>ti x y H1 fun z H2=>D.nx (σ.set i (some z)) H2
theorem Zfo {i:Nat}{x:Str}{e:Expr}{te:TE}{op:Operator}{ti:TIp}{pos':Pos} (hN:X.N.Nodup) (hi:X.N[i]? = some x) (hx:Loc X.env.scope x) (he:PE X e te) (ho:PIp X op ti) (hf:X.fn x=true∨X.env.scope.names.lookup x=some .local:=by first | exact .inl rfl | exact .inr rfl | assumption):
  PS X (.AugAssign (.Name x pos') op e pos) (ZnB i te ti):=by
 intro pins s σ H D I h
 obtain ⟨v,e1,h⟩:=h
 obtain ⟨m,hn,hl⟩:=I.loc
 have vis:Vis X.env.scope x:=by rcases hx with k | k;exact .inl k;exact .inr (.inl k)
 obtain ⟨u,r,l⟩:=hl i x v hi e1 vis
 refine wpAny_AugAssign_Name ?_
 have go:wpAny (model X.prog X.w) X.A (eval e X.env) (fun w s₂=>wpAny (model X.prog X.w) X.A (inplaceOp op u w) (fun r s₃=>wpAny (model X.prog X.w) X.A (storeName X.env x r) (fun _=>SP X pins D .next) X.xe s₃) X.xe s₂) X.xe s:=by
  refine YR (he pins s σ H _ I h) fun w s1 ⟨y,H1,I1,r1,q1⟩=>?_
  refine YR (ho pins s1 σ H1 v y u w _ I1 r r1 q1) fun z s2 ⟨zv,H2,I2,r2,q2⟩=>?_
  exact Zct I2 hN hi hx r2 (fun s3 I3=>⟨_,H2,I3,q2⟩) hf
 rcases l with ⟨hk,hm⟩ | ⟨hk,c,hc,hcell⟩
 ·exact wpAny_loadName_local I.ok.kind hk hn hm go
 ·rcases hk with hk | hk
  ·exact wpAny_loadName_cell I.ok.kind hk hc hcell go
  ·rcases hx with k | k
   ·have:X.env.scope.names.lookup x=some .free:=hk
    rw [k] at this;cases this
   ·have:X.env.scope.names.lookup x=some .free:=hk
    rw [k] at this;cases this
def Zm3 (to ti te:TE) (tget:V->V->Hp->VK->Prop) (tip:TIp) (tset:ZhW):TS:=fun D σ H=>to σ H fun o H1=>ti σ H1 fun i H2=>tget o i H2 fun x H3=>te σ H3 fun y H4=>tip x y H4 fun z H5=>tset o i z H5 fun H6=>D.nx σ H6
def ZlA (X:Cx) (t:V->V->Hp->VK->Prop):Prop:=
 ∀(pins:List (Addr×Obj)) (s:Shared) (σ:St) (H:Hp) (o i:V) (ov iv:Value) (Q:VK),Inv X pins σ H s->RelV o ov->RelV i iv->t o i H Q ->
  wpAny (model X.prog X.w) X.A (getItem ov iv) (EP X pins σ Q) X.xe s
theorem Zgs {o i e:Expr}{to ti te:TE}{tget:V->V->Hp->VK->Prop}{tip:TIp}{tset:ZhW}{op:Operator}{tpos:Pos} (ho:PE X o to) (hi:PE X i ti) (hg:ZlA X tget) (he:PE X e te) (hp:PIp X op tip) (hs:ZjB X tset)
  (ha:∀ov iv new,augStore i ov iv new=(do holding [new,ov,iv] (setItem ov iv new);release [new,ov,iv] [];pure .next):=by intros;rfl):PS X (.AugAssign (.Subscript o i tpos) op e pos) (Zm3 to ti te tget tip tset):=by
 intro pins s σ H D I h
 refine wpAny_AugAssign_SubscriptAny (YR (ho pins s σ H _ I h) fun ov s1 ⟨x1,H1,I1,r1,q1⟩=>?_) ha
 refine YR (hi pins s1 σ H1 _ I1 q1) fun iv s2 ⟨x2,H2,I2,r2,q2⟩=>?_
 refine YR (hg pins s2 σ H2 x1 x2 ov iv _ I2 r1 r2 q2) fun old s3 ⟨x3,H3,I3,r3,q3⟩=>?_
 refine YR (he pins s3 σ H3 _ I3 q3) fun v s4 ⟨x4,H4,I4,r4,q4⟩=>?_
 refine YR (hp pins s4 σ H4 x3 x4 old v _ I4 r3 r4 q4) fun new s5 ⟨x5,H5,I5,r5,q5⟩=>?_
 exact YR (hs pins s5 σ H5 x1 x2 x5 ov iv new _ I5 r1 r2 r5 q5) fun _ s6 ⟨H6,I6,q6⟩=>⟨σ,H6,I6,q6⟩
def ipI (f:Int->Int->Int):TIp:=fun x y H Q=>∃i j,x = .int i/\y = .int j/\Q (.int (f i j)) H
end
section
variable {X:Cx}{pos:Pos}
def ZiX (c:TT) (tb:TS):TS:=fun D σ H=>∃W:Nat->St->Hp->Prop,(∃m,W m σ H) /\ ∀m σ H,W m σ H ->
 c σ H fun b H1=>if b=true then ∃N:St->Hp->Prop,(∀ σ' H',N σ' H' -> ∃m',m'<m/\W m' σ' H')/\tb { D with nx:=N,ct:=N,bk:=D.nx } σ H1 else D.nx σ H1
theorem Uj {c:Expr}{body:List Stmt}{tc:TT}{tb:TS} (hp:PassesOwn (model X.prog X.w) X.A X.env X.xe) (hc:PT X c tc) (hb:PSs X body tb):PS X (.While c body [] pos) (ZiX tc tb):=by
 intro pins s σ H D I h
 obtain ⟨W,⟨m0,w0⟩,turn⟩:=h
 refine wpAny_While (codeAny_whileLoop (fun n s'=>∃ σ' H',Inv X pins σ' H' s'/\W n σ' H') ?_ m0 ⟨σ,H,I,w0⟩)
 rintro n s1 ⟨σ1,H1,I1,w1⟩
 refine wpAny_passesOwn hp (YR (hc pins s1 σ1 H1 _ I1 (turn n σ1 H1 w1)) fun b s2 ⟨H2,I2,q2⟩=>?_)
 cases b with
 | true=>
  obtain ⟨N,hN,q2⟩:=q2
  rw [if_pos rfl]
  refine wpAny_passesOwn hp (YR (hb pins s2 σ1 H2 _ I2 q2) fun f s3 q3=>?_)
  cases f with
  | next=>
   obtain ⟨σ3,H3,I3,n3⟩:=q3
   obtain ⟨m',hm,w3⟩:=hN σ3 H3 n3
   exact ⟨m',hm,σ3,H3,I3,w3⟩
  | cont=>
   obtain ⟨σ3,H3,I3,n3⟩:=q3
   obtain ⟨m',hm,w3⟩:=hN σ3 H3 n3
   exact ⟨m',hm,σ3,H3,I3,w3⟩
  | brk=>exact q3
  | ret v=>exact q3
 | false=>
  rw [if_neg Bool.false_ne_true]
  exact wpAny_execs_nil ⟨σ1,H2,I2,q2⟩
end
structure It where
 go:Nat->Hp->Prop
 yld:Nat->Hp->V->Hp->Prop
 stop:Nat->Hp->Prop
def U7 (X:Cx) (pins:List (Addr×Obj)) (H:Hp) (b:Addr):Prop:=
 H b=none/\b≠X.env.locals/\b∉X.fs/\(b∈X.ex∨X.s₀.heap.objs.size<=b)/\(∀x c,X.env.cells.lookup x=some c->c≠b) /\ ∀p∈X.pn++pins,p.1≠b
theorem Inv.fpOk {X:Cx}{pins:List (Addr×Obj)} {σ:St}{H H':Hp}{s:Shared}{b:Addr} (I:Inv X pins σ H s) (hb:s.heap.objs.size<=b) (hn:H' b=none):U7 X pins H' b:=by
 refine ⟨hn,Nat.ne_of_gt (Nat.lt_of_lt_of_le I.lt hb),I.nofs hb,.inr (Nat.le_trans I.sz hb),fun x c e z=>?_,fun p hp z=>?_⟩
 ·obtain ⟨v,q⟩:=I.cell x c e
  exact absurd (Nat.lt_of_lt_of_le q.lt (by rw [z];exact hb)) (Nat.lt_irrefl _)
 ·exact absurd (Nat.lt_of_lt_of_le (Heap.lt_size (I.pin p hp).1) (by rw [z];exact hb)) (Nat.lt_irrefl _)
structure Turn (P:Program) (w:World) (K:PySem.W.Frag) (tg:Expr) (J:It) (fp:List Addr) (it:Addr) (tn:Nat->Heap->Prop):Prop where
 mem:it∈fp
 obj:∀i h,tn i h -> ∀b∈fp,∃o,h.get? b=some o /\ ∀v,o.data ≠ .cell v
 keep:∀i h h',tn i h->(∀b∈fp,∀o,h.get? b=some o->h'.get? b=some o)->tn i h'
 item:∀(X:Cx),X.prog=P->X.w=w->X.K=K->X.calm=true -> ∀(i:Nat) (pins:List (Addr×Obj)) (s:Shared) (σ:St) (H:Hp) (E:Value->Shared->Prop),Inv X pins σ H s->(∀b∈fp,U7 X pins H b)->tn i s.heap->J.go i H ->
  wpAny (model P w) X.A (pyNext (.ref it)) (fun r s1=>∃u,r=some u /\
   wpAny (model P w) X.A (letOwnedTupleGo tg (.ref it) u) (fun _ s2=>∃x H',Inv X pins σ H' s2/\RelV x u/\J.yld i H x H'/\tn (i+1) s2.heap /\ ∀b∈fp,H' b=none) E s1) E s
 done:∀(X:Cx),X.prog=P->X.w=w->X.K=K->X.calm=true -> ∀(i:Nat) (pins:List (Addr×Obj)) (s:Shared) (σ:St) (H:Hp) (E:Value->Shared->Prop),Inv X pins σ H s->(∀b∈fp,U7 X pins H b)->tn i s.heap->J.stop i H ->
  wpAny (model P w) X.A (pyNext (.ref it)) (fun r s1=>r=none/\Inv X pins σ H s1) E s
 self:∀(A:Around) (i:Nat) (s:Shared) (Q:Value->Shared->Prop) (E:Value->Shared->Prop),tn i s.heap->Q (.ref it) s->wpAny (model P w) A (pyIter (.ref it)) Q E s
abbrev TI:=St->Hp->(It->Hp->Prop)->Prop
def PIE (X:Cx) (pins:List (Addr×Obj)) (σ:St) (tg:Expr) (R:It->Hp->Prop) (itv:Value) (s2:Shared):Prop:=
 ∃(it:Addr) (fp:List Addr) (tn:Nat->Heap->Prop) (J:It) (H':Hp),itv = .ref it/\Inv X pins σ H' s2/\Turn X.prog X.w X.K tg J fp it tn/\tn 0 s2.heap/\(∀b∈fp,U7 X pins H' b)/\R J H'
def PI (X:Cx) (tg iter:Expr) (wi:TI):Prop:=
 ∀(pins:List (Addr×Obj)) (s:Shared) (σ:St) (H:Hp) (R:It->Hp->Prop),Inv X pins σ H s->wi σ H R ->
  wpAny (model X.prog X.w) X.A (eval iter X.env) (fun v s1=>wpAny (model X.prog X.w) X.A (pyIter v) (PIE X pins σ tg R) X.xe s1) X.xe s
theorem Zgc {M:Model}{A:Around}{E:Value->Shared->Prop}{s:Shared}{tg:Expr}{it:Addr}{u:Value}{o:Obj}{n:String}{vs:Array Value}{Q:Unit->Shared->Prop} (ho:s.heap.get? it=some o) (hc:o.cls = .type n) (hd:o.data = .fields vs)
    (hn:["enumerate", "zip", "dict_itemiterator", "dict_reverseitemiterator", "odict_iterator", "itertools.zip_longest", "itertools.pairwise"].contains n=false) (hQ:Q () s):wpAny M A (letOwnedTupleGo tg (.ref it) u) Q E s:=by
  unfold letOwnedTupleGo
  cases tg<;>first
    | exact wpAny_pure hQ
    | (cases u<;>first
        | exact wpAny_pure hQ
        | (refine wpAny_bind (wpAny_load ho ?_)
           rw [hc,hd]
           show wpAny M A (if (["enumerate", "zip", "dict_itemiterator", "dict_reverseitemiterator", "odict_iterator", "itertools.zip_longest", "itertools.pairwise"].contains n&&vs[0]? == some (rawInt _))=true then _ else _) Q E s
           rw [if_neg (by intro h;rw [hn,Bool.false_and] at h;cases h)]
           exact wpAny_pure hQ))
def Itl (K:PySem.W.Frag) (a:Addr):It:=
 ⟨fun i H=>∃xs x,Zu K H a xs/\xs[i]? = some x,fun i H x H'=>H'=H /\ ∀xs,Zu K H a xs->xs[i]? = some x,fun i H=>∃xs,Zu K H a xs/\xs.length<=i⟩
def Itr (lo:Int) (n:Nat):It:=⟨fun i _=>i<n,fun i H x H'=>H'=H/\x = .int (lo+i),fun i _=>n<=i⟩
theorem Zhg {P:Program}{w:World}{K:PySem.W.Frag}{tg:Expr} (a it:Addr):Turn P w K tg (Itl K a) [it] it (fun i h=>h.IsListIter it a i) where
 mem:=by simp
 obj:=fun i h st b hb=>by
  have e:b=it:=by simpa using hb
  subst e
  obtain ⟨o,e,c,d⟩:=st
  exact ⟨o,e,fun v z=>by rw [d] at z;cases z⟩
 keep:=fun i h h' st k=>st.at fun o e=>k it (by simp) o e
 item:=by
  intro X hP hw hK hc i pins s σ H E I hf st hg
  subst hP hw hK
  obtain ⟨xs,x,hq,hx⟩:=hg
  obtain ⟨its,rv,p,hz⟩:=I.list hq
  obtain ⟨u,hu,ru⟩:=rv.get hx
  obtain ⟨f0,f1,f2,f3,f4,f5⟩:=hf it (by simp)
  refine wpAny_pyNext_list_item st p.isList (x:=u) (by simpa using hu) fun h' st' sb=>?_
  have I1:Inv X pins σ H { s with heap:=h' }:=I.turned (t':=s.toks) (fun b o hb e=>(sb.2 b hb).trans e) f0 f1 f3 f4 f5
  obtain ⟨o,e,c,d⟩:=id st'
  exact ⟨u,rfl,Zgc (s:={ s with heap:=h' }) e c d (by decide) ⟨x,H,I1,ru,⟨rfl,fun ys hy=>by rw [I.list_inj hy hq];exact hx⟩,st',fun b hb=>(hf b hb).1⟩⟩
 done:=by
  intro X hP hw hK hc i pins s σ H E I hf st hg
  subst hP hw hK
  obtain ⟨xs,hq,hx⟩:=hg
  obtain ⟨its,rv,p,hz⟩:=I.list hq
  obtain ⟨f0,f1,f2,f3,f4,f5⟩:=hf it (by simp)
  have hl:=rv.length
  exact wpAny_pyNext_list_end (I.ok.hd hc) st p.isList (by simp;lia) fun h' eb=>⟨rfl,I.turned (t':=s.toks) (fun b o hb e=>eb b o hb e) f0 f1 f3 f4 f5⟩
 self:=fun _ _ _ _ _ st h=>wpAny_pyIter_listiter st h
theorem ZfS {P:Program}{w:World}{K:PySem.W.Frag}{tg:Expr} (it:Addr) (lo:Int) (n:Nat):Turn P w K tg (Itr lo n) [it] it (fun i h=>IsRangeIter h it (lo+(i:Nat)*1) ((n:Int)-(i:Nat)) 1) where
 mem:=by simp
 obj:=fun i h st b hb=>by
  have e:b=it:=by simpa using hb
  subst e
  exact ⟨_,st,fun v z=>by
   have z':Data.fields _=Data.cell v:=z
   cases z'⟩
 keep:=fun i h h' st k=>k it (by simp) _ st
 item:=by
  intro X hP hw hK hc i pins s σ H E I hf st hg
  subst hP hw hK
  obtain ⟨f0,f1,f2,f3,f4,f5⟩:=hf it (by simp)
  have W:=Walks.range (prog:=X.prog) (w:=X.w) (I.ok.hd hc) it lo 1 n
  refine W.item i s _ _ hg st fun v h' tk hv st' kk=>?_
  obtain ⟨t,rfl⟩:=hv
  have I1:Inv X pins σ H { s with heap:=h',toks:=tk }:=I.turned (fun b o hb e=>kk b o (by simpa using hb) e) f0 f1 f3 f4 f5
  refine ⟨_,rfl,Zgc (s:={ s with heap:=h',toks:=tk }) (n := "range_iterator") st' rfl rfl (by decide) ⟨.int (lo+i),H,I1,⟨t,?_⟩,⟨rfl,rfl⟩,st',fun b hb=>(hf b hb).1⟩⟩
  rw [Int.mul_one]
 done:=by
  intro X hP hw hK hc i pins s σ H E I hf st hg
  subst hP hw hK
  obtain ⟨f0,f1,f2,f3,f4,f5⟩:=hf it (by simp)
  exact wpAny_pyNext_range_end (I.ok.hd hc) st (by have:n<=i:=hg;lia) fun h' eb=>⟨rfl,I.turned (t':=s.toks) (fun b o hb e=>eb b o hb e) f0 f1 f3 f4 f5⟩
 self:=fun _ _ _ _ _ st h=>wpAny_pyIter_rangeiter st h
section
variable {X:Cx}{tg:Expr}
def Zk9 (K:PySem.W.Frag) (tl:TE):TI:=fun σ H R=>tl σ H fun x H1=>∃a,x = .ref a/\(∃xs,Zu K H1 a xs)/\R (Itl K a) H1
theorem ZjR {l:Expr}{tl:TE} (hl:PE X l tl):PI X tg l (Zk9 X.K tl):=by
 intro pins s σ H R I h
 refine YR (hl pins s σ H _ I h) fun v s1 ⟨x,H1,I1,r1,q1⟩=>?_
 obtain ⟨a,e,⟨xs,hq⟩,q⟩:=q1
 subst e
 cases r1
 obtain ⟨its,rv,p,hz⟩:=I1.list hq
 refine wpAny_pyIter_list p.isList ?_
 refine ⟨s1.heap.objs.size,[s1.heap.objs.size],_,_,H1,rfl,I1.kept (t':=s1.toks) fun b o e=>Heap.get?_push_of_some _ e,Zhg a _,⟨_,Heap.get?_push_size _ rfl,rfl,rfl⟩,fun b hb=>?_,q⟩
 have e:b=s1.heap.objs.size:=by simpa using hb
 subst e
 exact I1.fpOk (Nat.le_refl _) (I1.hok.fresh (Nat.le_refl _))
theorem Zeu {pins:List (Addr×Obj)} {σ:St}{H:Hp}{s:Shared}{R:It->Hp->Prop}{E:Value->Shared->Prop}{lo hi:Int}{t u v:Tok}{tk:Nat} (I:Inv X pins σ H s) (h1 : -(2 ^ 62)<=lo) (h2:lo<2 ^ 62) (h3 : -(2 ^ 62)<=hi) (h4:hi<2 ^ 62)
  (q:R (Itr lo (hi-lo).toNat) H):wpAny (model X.prog X.w) X.A (pyIter (.ref s.heap.objs.size)) (PIE X pins σ tg R) E { s with heap:=s.heap.push { cls:=.type "range", data:=.fields #[.int lo t,.int hi u,.int 1 v] },toks:=tk }:=by
 refine wpAny_pyIter_range (IsRange.new ..) (small_one h1 h2 h3 h4) ?_
 have I1:Inv X pins σ H { s with heap:=s.heap.push { cls:=.type "range", data:=.fields #[.int lo t,.int hi u,.int 1 v] },toks:=tk }:=I.kept fun b o e=>Heap.get?_push_of_some _ e
 refine ⟨(s.heap.push { cls:=.type "range", data:=.fields #[.int lo t,.int hi u,.int 1 v] }).objs.size,[(s.heap.push { cls:=.type "range", data:=.fields #[.int lo t,.int hi u,.int 1 v] }).objs.size],_,_,H,rfl,
  I1.kept (t':=tk) fun b o e=>Heap.get?_push_of_some _ e,ZfS _ lo (hi-lo).toNat,?_,fun b hb=>?_,q⟩
 ·have e1:lo+((0:Nat):Int)*1=lo:=by simp
  have e2:(((hi-lo).toNat:Nat):Int)-((0:Nat):Int)=Builtin.Range.rangeSize lo hi 1:=by rw [rangeSize_one];split<;>lia
  show IsRangeIter _ _ (lo+((0:Nat):Int)*1) ((((hi-lo).toNat:Nat):Int)-((0:Nat):Int)) 1
  rw [e1,e2]
  exact Heap.get?_push_size _ rfl
 ·have e:b=(s.heap.push { cls:=.type "range", data:=.fields #[.int lo t,.int hi u,.int 1 v] }).objs.size:=by simpa using hb
  subst e
  exact I1.fpOk (Nat.le_refl _) (I1.hok.fresh (Nat.le_refl _))
def ZmS (ta:TA):TI:=fun σ H R=>ta σ H fun vs H1=>∃j:Int,vs = [.int j] /\ -(2 ^ 62)<=j/\j<2 ^ 62/\R (Itr 0 j.toNat) H1
def Zna (ta:TA):TI:=fun σ H R=>ta σ H fun vs H1=>∃i j:Int,vs = [.int i,.int j]/\(-(2 ^ 62)<=i/\i<2 ^ 62 /\ -(2 ^ 62)<=j/\j<2 ^ 62)/\R (Itr i (j-i).toNat) H1
theorem Yb {a:Expr}{ta:TA}{p pos:Pos} (hg:Gl X "range") (hm:X.mg "range" = none) (ha:PA X [a] ta) (hs:starEach [a] X.env = [(false,eval a X.env)]:=by rfl):PI X tg (.Call (.Name "range" p) [a] [] pos) (ZmS ta):=by
 intro pins s σ H R I h
 refine Call_ (GI I hg hm boot_range (PyProof.Rows.callWith_type1 (YR (ha pos pins s σ H _ I h) fun us s1 ⟨vs,H1,I1,r1,q1⟩=>?_) hs rfl))
 obtain ⟨j,e,q1,q2,q⟩:=q1
 subst e
 cases r1 with
 | cons r rr=>
  cases rr
  obtain ⟨t,rfl⟩:=r
  exact call_range_1 (Zeu I1 (by lia) (by lia) q1 q2 (by simpa using q))
theorem Zbg {a b:Expr}{ta:TA}{p pos:Pos} (hg:Gl X "range") (hm:X.mg "range" = none) (ha:PA X [a,b] ta) (hs:starEach [a,b] X.env = [(false,eval a X.env),(false,eval b X.env)]:=by rfl) (hs2:starEach [b] X.env = [(false,eval b X.env)]:=by rfl):
  PI X tg (.Call (.Name "range" p) [a,b] [] pos) (Zna ta):=by
 intro pins s σ H R I h
 refine Call_ (GI I hg hm boot_range (PyProof.Rows.callWith_type1 (YR (ha pos pins s σ H _ I h) fun us s1 ⟨vs,H1,I1,r1,q1⟩=>?_) (by rw [hs,hs2]) (by rw [hs2];rfl)))
 obtain ⟨i,j,e,⟨q1,q2,q3,q4⟩,q⟩:=q1
 subst e
 cases r1 with
 | cons r rr=>
  cases rr with
  | cons r' rr=>
   cases rr
   obtain ⟨t,rfl⟩:=r
   obtain ⟨t',rfl⟩:=r'
   exact call_range_2 (Zeu I1 q1 q2 q3 q4 q)
def ZnM (wi:TI) (g:TG) (tb:TS):TS:=fun D σ H=>wi σ H fun J H1=>∃W:Nat->Nat->St->Hp->Prop,(∃m,W 0 m σ H1) /\ ∀i m σ H,W i m σ H ->
 (J.stop i H/\D.nx σ H)∨(J.go i H /\ ∃N:St->Hp->Prop,(∀ σ' H',N σ' H' -> ∃m',m'<m/\W (i+1) m' σ' H') /\ ∀x H',J.yld i H x H'->g x σ H' fun σ2 H2=>tb { D with nx:=N,ct:=N,bk:=D.nx } σ2 H2)
def Zbf (fp:List Addr) (h:Heap):List (Addr×Obj):=fp.filterMap fun b=>(h.get? b).map fun o=>(b,o)
theorem J3 {fp:List Addr}{h:Heap}{b:Addr}{o:Obj} (hb:b∈fp) (e:h.get? b=some o):(b,o)∈Zbf fp h:=List.mem_filterMap.mpr ⟨b,hb,by rw [e];rfl⟩
theorem ZgR {fp:List Addr}{h:Heap}{p:Addr×Obj} (hp:p∈Zbf fp h):p.1∈fp/\h.get? p.1=some p.2:=by
 obtain ⟨b,hb,e⟩:=List.mem_filterMap.mp hp
 cases q:h.get? b with
 | none=>rw [q] at e;cases e
 | some o=>
  rw [q] at e
  have e':(b,o)=p:=Option.some.inj e
  subst e'
  exact ⟨hb,q⟩
theorem Inv.pinned {pins:List (Addr×Obj)} {σ:St}{H:Hp}{s:Shared}{fp:List Addr} (I:Inv X pins σ H s) (hf:∀b∈fp,U7 X pins H b) (ho:∀b∈fp,∃o,s.heap.get? b=some o /\ ∀v,o.data ≠ .cell v):Inv X (pins++Zbf fp s.heap) σ H s:=
 I.pins_of fun p hp=>(List.mem_append.mp hp).elim (fun z=>I.pin p (List.mem_append_right _ z)) fun z=>by
  obtain ⟨hb,e⟩:=ZgR z
  obtain ⟨f0,f1,f2,_⟩:=hf p.1 hb
  obtain ⟨o,e',d⟩:=ho p.1 hb
  rw [e] at e';cases e'
  exact ⟨e,f0,f1,f2,d⟩
theorem Inv.unpinned {pins pl:List (Addr×Obj)} {σ:St}{H:Hp}{s:Shared} (I:Inv X (pins++pl) σ H s):Inv X pins σ H s:=I.pins_of fun p hp=>I.pin p (List.mem_append_right _ (List.mem_append_left _ hp))
theorem Yc {iter:Expr}{body:List Stmt}{wi:TI}{g:TG}{tb:TS}{pos:Pos} (hp:PassesOwn (model X.prog X.w) X.A X.env X.xe) (hc:X.calm=true) (hi:PI X tg iter wi) (hg:PG X tg g) (hb:PSs X body tb)
  (hs:∀x,foldedSetIterable iter X.env x=pure x:=by intro _;rfl):PS X (.For tg iter body [] pos) (ZnM wi g tb):=by
 intro pins s σ H D I h
 refine wpAny_For (YR (hi pins s σ H _ I h) fun v s1 h1=>YR h1 fun itv s2 h2=>?_) hs
 obtain ⟨it,fp,tn,J,H2,e,I2,T,st2,f2,W,⟨m0,w0⟩,turn⟩:=h2
 subst e
 have stat:∀{H':Hp},(∀b∈fp,H' b=none) -> ∀b∈fp,U7 X pins H' b:=fun hn b hb=>⟨hn b hb,(f2 b hb).2⟩
 refine codeAny_forLoop_any (fun n s'=>∃i σ' H',Inv X pins σ' H' s'/\tn i s'.heap/\(∀b∈fp,H' b=none)/\W i n σ' H') ?_ m0 ⟨0,σ,H2,I2,st2,fun b hb=>(f2 b hb).1,w0⟩
 rintro n s3 ⟨i,σ3,H3,I3,st3,fr3,w3⟩
 rcases turn i n σ3 H3 w3 with ⟨stop,qn⟩ | ⟨go,N,hN,step⟩
 ·refine wpAny_passesOwn hp (YR (T.done X rfl rfl rfl hc i pins s3 σ3 H3 X.xe I3 (stat fr3) st3 stop) fun r s4 ⟨hr,I4⟩=>?_)
  subst hr
  exact wpAny_execs_nil ⟨σ3,H3,I4,qn⟩
 ·refine wpAny_passesOwn hp (YR (T.item X rfl rfl rfl hc i pins s3 σ3 H3 X.xe I3 (stat fr3) st3 go) fun r s4 ⟨u,hr,h4⟩=>?_)
  subst hr
  refine wpAny_passesOwn hp (YR h4 fun _ s5 ⟨x,H5,I5,r5,y5,st5,fr5⟩=>?_)
  have I5':=I5.pinned (stat fr5) (T.obj _ _ st5)
  refine wpAny_passesOwn hp (YR (hg _ s5 σ3 H5 x u _ I5' r5 (step x H5 y5)) fun _ s6 ⟨σ6,H6,I6,q6⟩=>?_)
  refine wpAny_passesOwn hp (YR (hb _ s6 σ6 H6 _ I6 q6) fun f s7 q7=>?_)
  have again:∀{σ7:St}{H7:Hp},Inv X (pins++Zbf fp s5.heap) σ7 H7 s7->N σ7 H7 -> ∃m,m<n /\ ∃i σ' H',Inv X pins σ' H' s7/\tn i s7.heap/\(∀b∈fp,H' b=none)/\W i m σ' H':=fun {σ7 H7} I7 n7=>by
   obtain ⟨m',hm,w7⟩:=hN σ7 H7 n7
   refine ⟨m',hm,i+1,σ7,H7,I7.unpinned,T.keep _ _ _ st5 fun b hb o e=>(I7.pin (b,o) (List.mem_append_right _ (List.mem_append_right _ (J3 hb e)))).1,fun b hb=>?_,w7⟩
   obtain ⟨o,e,d⟩:=T.obj _ _ st5 b hb
   exact (I7.pin (b,o) (List.mem_append_right _ (List.mem_append_right _ (J3 hb e)))).2.1
  cases f with
  | next=>obtain ⟨σ7,H7,I7,n7⟩:=q7;exact again I7 n7
  | cont=>obtain ⟨σ7,H7,I7,n7⟩:=q7;exact again I7 n7
  | brk=>obtain ⟨σ7,H7,I7,q7⟩:=q7;exact ⟨σ7,H7,I7.unpinned,q7⟩
  | ret v=>obtain ⟨x7,σ7,H7,I7,r7,q7⟩:=q7;exact ⟨x7,σ7,H7,I7.unpinned,r7,q7⟩
end
theorem Uz {K:PySem.W.Frag}{a:Addr}{xs:List V}{g:TG}{tb:TS}{D:Ends} {σ:St}{H:Hp} (Pv:Nat->St->Hp->Prop) (h0:Pv 0 σ H) (hl:∀i σ H,i<=xs.length->Pv i σ H->Zu K H a xs)
  (hs:∀i x σ H,xs[i]? = some x->Pv i σ H->g x σ H fun σ2 H2=>tb { D with nx:=Pv (i+1),ct:=Pv (i+1),bk:=D.nx } σ2 H2) (hd:∀ σ H,Pv xs.length σ H->D.nx σ H):
  ∃W:Nat->Nat->St->Hp->Prop,(∃m,W 0 m σ H) /\ ∀i m σ H,W i m σ H ->
   ((Itl K a).stop i H/\D.nx σ H)∨((Itl K a).go i H /\ ∃N:St->Hp->Prop,(∀ σ' H',N σ' H' -> ∃m',m'<m/\W (i+1) m' σ' H') /\ ∀x H',(Itl K a).yld i H x H'->g x σ H' fun σ2 H2=>tb { D with nx:=N,ct:=N,bk:=D.nx } σ2 H2):=by
 refine ⟨fun i m σ H=>m=xs.length-i/\i<=xs.length/\Pv i σ H,⟨xs.length,by simp,Nat.zero_le _,h0⟩,?_⟩
 rintro i m σ H ⟨rfl,hi,p⟩
 have q:=hl i σ H hi p
 by_cases hlt:i<xs.length
 ·refine .inr ⟨⟨xs,xs[i],q,by simp [hlt]⟩,Pv (i+1),fun σ' H' p'=>⟨xs.length-(i+1),by lia,rfl,hlt,p'⟩,fun x H' y=>?_⟩
  obtain ⟨e,y⟩:=y
  subst e
  exact hs i x σ _ (y xs q) p
 ·have e:i=xs.length:=by lia
  subst e
  exact .inl ⟨⟨xs,q,Nat.le_refl _⟩,hd σ H p⟩
theorem YG {lo:Int}{n:Nat}{g:TG}{tb:TS}{D:Ends} {σ:St}{H:Hp} (Pv:Nat->St->Hp->Prop) (h0:Pv 0 σ H)
  (hs:∀i σ H,i<n->Pv i σ H->g (.int (lo+i)) σ H fun σ2 H2=>tb { D with nx:=Pv (i+1),ct:=Pv (i+1),bk:=D.nx } σ2 H2) (hd:∀ σ H,Pv n σ H->D.nx σ H):
  ∃W:Nat->Nat->St->Hp->Prop,(∃m,W 0 m σ H) /\ ∀i m σ H,W i m σ H ->
   ((Itr lo n).stop i H/\D.nx σ H)∨((Itr lo n).go i H /\ ∃N:St->Hp->Prop,(∀ σ' H',N σ' H' -> ∃m',m'<m/\W (i+1) m' σ' H') /\ ∀x H',(Itr lo n).yld i H x H'->g x σ H' fun σ2 H2=>tb { D with nx:=N,ct:=N,bk:=D.nx } σ2 H2):=by
 refine ⟨fun i m σ H=>m=n-i/\i<=n/\Pv i σ H,⟨n,by simp,Nat.zero_le _,h0⟩,?_⟩
 rintro i m σ H ⟨rfl,hi,p⟩
 by_cases hlt:i<n
 ·refine .inr ⟨hlt,Pv (i+1),fun σ' H' p'=>⟨n-(i+1),by lia,rfl,hlt,p'⟩,fun x H' y=>?_⟩
  obtain ⟨e,y⟩:=y
  subst e y
  exact hs i σ _ hlt p
 ·have e:i=n:=by lia
  subst e
  exact .inl ⟨Nat.le_refl _,hd σ H p⟩
theorem ZcG {c:TT}{tb:TS}{D:Ends} {σ:St}{H:Hp} (Pv:St->Hp->Prop) (μ:St->Hp->Nat) (h0:Pv σ H)
  (hs:∀ σ H,Pv σ H->c σ H fun b H1=>if b=true then tb { D with nx:=fun σ' H'=>Pv σ' H' /\ μ σ' H' < μ σ H,ct:=fun σ' H'=>Pv σ' H' /\ μ σ' H' < μ σ H,bk:=D.nx } σ H1 else D.nx σ H1)
  (mono:∀ σ H Q Q',(∀b H1,Q b H1->Q' b H1)->c σ H Q->c σ H Q'):ZiX c tb D σ H:=by
 refine ⟨fun m σ H=>m = μ σ H/\Pv σ H,⟨_,rfl,h0⟩,?_⟩
 rintro m σ H ⟨rfl,p⟩
 refine mono σ H _ _ (fun b H1 q=>?_) (hs σ H p)
 cases b with
 | true=>exact ⟨_,fun σ' H' ⟨p',l⟩=>⟨_,l,rfl,p'⟩,q⟩
 | false=>exact q
abbrev R2:=V->V->Hp->VK->Prop
def Ub (X:Cx) (f:Value->Value->Sem Value) (r:R2):Prop:=
 ∀(pins:List (Addr×Obj)) (s:Shared) (σ:St) (H:Hp) (x y:V) (v u:Value) (Q:VK),Inv X pins σ H s->RelV x v->RelV y u->r x y H Q ->
  wpAny (model X.prog X.w) X.A (f v u) (EP X pins σ Q) X.xe s
def UnR (X:Cx) (f:Value->Sem Value) (r:V->Hp->VK->Prop):Prop:=
 ∀(pins:List (Addr×Obj)) (s:Shared) (σ:St) (H:Hp) (x:V) (v:Value) (Q:VK),Inv X pins σ H s->RelV x v->r x H Q ->
  wpAny (model X.prog X.w) X.A (f v) (EP X pins σ Q) X.xe s
def JD (X:Cx) (f:Value) (r:List V->Hp->VK->Prop):Prop:=
 ∀(pins:List (Addr×Obj)) (s:Shared) (σ:St) (H:Hp) (xs:List V) (us:List Value) (Q:VK),Inv X pins σ H s->Vals xs us->r xs H Q ->
  wpAny (model X.prog X.w) X.A (call f us) (EP X pins σ Q) X.xe s
def ZnI (X:Cx) (r:V->Hp->(Bool->Hp->Prop)->Prop):Prop:=
 ∀(pins:List (Addr×Obj)) (s:Shared) (σ:St) (H:Hp) (x:V) (v:Value) (Q:Bool->Hp->Prop),Inv X pins σ H s->RelV x v->r x H Q ->
  wpAny (model X.prog X.w) X.A (truthy v) (TP X pins σ Q) X.xe s
def tOp (r:R2) (ta tb:TE):TE:=fun σ H Q=>ta σ H fun x H1=>tb σ H1 fun y H2=>r x y H2 Q
def tUn (r:V->Hp->VK->Prop) (ta:TE):TE:=fun σ H Q=>ta σ H fun x H1=>r x H1 Q
def rI (C:Int->Int->Prop) (g:Int->Int->V):R2:=fun x y H Q=>∃i j,x = .int i/\y = .int j/\C i j/\Q (g i j) H
def rI0 (g:Int->Int->V):R2:=fun x y H Q=>∃i j,x = .int i/\y = .int j/\Q (g i j) H
def rU (g:Int->V):V->Hp->VK->Prop:=fun x H Q=>∃i,x = .int i/\Q (g i) H
section
variable {X:Cx}{a b c:Expr}{ta tb tc:TE}{pos:Pos}
theorem Zla (ha:PE X a ta) (hb:PE X b tb) {pins:List (Addr×Obj)}{s:Shared} {σ:St}{H:Hp}{R:V->V->Hp->Prop} (I:Inv X pins σ H s)
  (h:ta σ H fun x H1=>tb σ H1 fun y H2=>R x y H2) {Q:Value->Shared->Prop}{f:Value->Value->Sem Value}
  (hf:∀v u s2 x y H2,Inv X pins σ H2 s2->RelV x v->RelV y u->R x y H2->wpAny (model X.prog X.w) X.A (f v u) Q X.xe s2):
  wpAny (model X.prog X.w) X.A (eval a X.env) (fun v s₁=>wpAny (model X.prog X.w) X.A (eval b X.env) (fun u s₂=>wpAny (model X.prog X.w) X.A (f v u) Q X.xe s₂) X.xe s₁) X.xe s:=by
 refine YR (ha pins s σ H _ I h) fun v s1 ⟨x,H1,I1,r1,q1⟩=>?_
 refine YR (hb pins s1 σ H1 _ I1 q1) fun u s2 ⟨y,H2,I2,r2,q2⟩=>?_
 exact hf v u s2 x y H2 I2 r1 r2 q2
theorem Zj {op:Operator}{r:R2} (ho:Ub X (binaryOp op) r) (ha:PE X a ta) (hb:PE X b tb):PE X (.BinOp a op b pos) (tOp r ta tb):=by
 intro pins s σ H Q I h
 exact wpAny_BinOp (Zla ha hb I h fun v u s2 x y H2 I2 rx ry q=>ho pins s2 σ H2 x y v u Q I2 rx ry q)
theorem Zbu {op:UnaryOp}{r:V->Hp->VK->Prop} (ho:UnR X (unaryOp op) r) (ha:PE X a ta):PE X (.UnaryOp op a pos) (tUn r ta):=by
 intro pins s σ H Q I h
 exact UnaryOp_ (YR (ha pins s σ H _ I h) fun v s1 ⟨x,H1,I1,r1,q1⟩=>ho pins s1 σ H1 x v Q I1 r1 q1)
theorem opI {f:Value->Value->Sem Value}{C:Int->Int->Prop}{g:Int->Int->Int}
  (rule:∀(i j:Int) (t u:Tok) (s:Shared) (Q:Value->Shared->Prop) (E:Value->Shared->Prop),C i j->Q (.int (g i j) s.toks) { s with toks:=s.toks+1 } -> wpAny (model X.prog X.w) X.A (f (.int i t) (.int j u)) Q E s):
  Ub X f (rI C fun i j=>.int (g i j)):=by
 intro pins s σ H x y v u Q I rx ry h
 obtain ⟨i,j,rfl,rfl,hc,q⟩:=h
 obtain ⟨t,rfl⟩:=rx
 obtain ⟨t',rfl⟩:=ry
 exact rule i j t t' s _ _ hc ⟨.int (g i j),H,I.tok _,⟨_,rfl⟩,q⟩
theorem Zln {f:Value->Value->Sem Value}{g:Int->Int->Int}
  (rule:∀(i j:Int) (t u:Tok) (s:Shared) (Q:Value->Shared->Prop) (E:Value->Shared->Prop),Q (.int (g i j) s.toks) { s with toks:=s.toks+1 } -> wpAny (model X.prog X.w) X.A (f (.int i t) (.int j u)) Q E s):
  Ub X f (rI0 fun i j=>.int (g i j)):=by
 intro pins s σ H x y v u Q I rx ry h
 obtain ⟨i,j,rfl,rfl,q⟩:=h
 obtain ⟨t,rfl⟩:=rx
 obtain ⟨t',rfl⟩:=ry
 exact rule i j t t' s _ _ ⟨.int (g i j),H,I.tok _,⟨_,rfl⟩,q⟩
theorem Zma {f:Value->Value->Sem Value}{g:Int->Int->Bool}
  (rule:∀(i j:Int) (t u:Tok) (s:Shared) (Q:Value->Shared->Prop) (E:Value->Shared->Prop),Q (.bool (g i j)) s->wpAny (model X.prog X.w) X.A (f (.int i t) (.int j u)) Q E s):
  Ub X f (rI0 fun i j=>.bl (g i j)):=by
 intro pins s σ H x y v u Q I rx ry h
 obtain ⟨i,j,rfl,rfl,q⟩:=h
 obtain ⟨t,rfl⟩:=rx
 obtain ⟨t',rfl⟩:=ry
 exact rule i j t t' s _ _ ⟨.bl (g i j),H,I,rfl,q⟩
def ZnP (i j:Int):Prop:=0<j/\j<1073741824
def Zkc (i j:Int):Prop:=0<=j/\j<=1000000/\i.natAbs<2 ^ 64
def Zg0 (i j:Int):Prop:=(-(2 ^ 64)<i/\i<2 ^ 64)∨(-(2 ^ 64)<j/\j<2 ^ 64)
theorem Zg0.ok {i j:Int} (h:Zg0 i j):IntMulOk i j:=by
 rcases h with ⟨h1,h2⟩ | ⟨h1,h2⟩
 ·exact .of_left (intBits_le_64 h1 h2)
 ·exact .of_right (intBits_le_64 h1 h2)
theorem Zw:Ub X (binaryOp .Add) (rI0 fun i j=>.int (i+j)):=Zln fun _ _ _ _ _ _ _ q=>add_int q
theorem Yr:Ub X (binaryOp .Sub) (rI0 fun i j=>.int (i-j)):=Zln fun _ _ _ _ _ _ _ q=>sub_int q
theorem Jx:Ub X (binaryOp .Mult) (rI Zg0 fun i j=>.int (i*j)):=opI fun _ _ _ _ _ _ _ hc q=>mul_int q hc.ok
theorem ZbR:Ub X (binaryOp .FloorDiv) (rI ZnP fun i j=>.int (i / j)):=opI fun i j _ _ _ _ _ hc q=>by
 have h1:(0:Int)<j:=hc.1
 have h2:j<1073741824:=hc.2
 exact floordiv_int (by lia) (by rw [Int.fdiv_eq_ediv_of_nonneg i (by lia)];exact q) (.inl (PyProof.noPylong_small (by lia)))
theorem JX:Ub X (binaryOp .Mod) (rI (fun _ j=>0<j) fun i j=>.int (i % j)):=opI fun i j _ _ _ _ _ hc q=>by
 have h1:(0:Int)<j:=hc
 exact mod_int' (by lia) (by rw [Int.fmod_eq_emod_of_nonneg i (by lia)];exact q)
theorem Zfq:Ub X (binaryOp .Pow) (rI Zkc fun i j=>.int (i ^ j.toNat)):=opI fun _ _ _ _ _ _ _ hc q=>pow_int_small hc.1 hc.2.1 hc.2.2 q
theorem ZiE:Ub X (binaryOp .LShift) (rI Zkc fun i j=>.int (i*2 ^ j.toNat)):=opI fun _ _ _ _ _ _ _ hc q=>lshift_int_small hc.1 hc.2.1 hc.2.2 q
theorem ZlW:Ub X (binaryOp .BitAnd) (rI0 fun i j=>.int (Builtin.bitAnd i j)):=Zln fun _ _ _ _ _ _ _ q=>and_int q
theorem unI {f:Value->Sem Value}{g:Int->Int}
  (rule:∀(i:Int) (t:Tok) (s:Shared) (Q:Value->Shared->Prop) (E:Value->Shared->Prop),Q (.int (g i) s.toks) { s with toks:=s.toks+1 } -> wpAny (model X.prog X.w) X.A (f (.int i t)) Q E s):
  UnR X f (rU fun i=>.int (g i)):=by
 intro pins s σ H x v Q I rx h
 obtain ⟨i,rfl,q⟩:=h
 obtain ⟨t,rfl⟩:=rx
 exact rule i t s _ _ ⟨.int (g i),H,I.tok _,⟨_,rfl⟩,q⟩
theorem Um:UnR X (unaryOp .USub) (rU fun i=>.int (-i)):=unI fun _ _ _ _ _ q=>neg_int q
end
def Zmk:V->V->Bool
 | .non,.non=>true | .non,.int _=>true | .int _,.non=>true | .non,.bl _=>true | .bl _,.non=>true | .non,.str _=>true | .str _,.non=>true
 | .int _,.int _=>true | .bl _,.bl _=>true | .str _,.str _=>true | .byt _,.byt _=>true
 | .int _,.str _=>true | .str _,.int _=>true | .bl _,.str _=>true | .str _,.bl _=>true
 | _,_=>false
def rEq:R2:=fun x y H Q=>Zmk x y=true/\Q (.bl (decide (x=y))) H
def rNe:R2:=fun x y H Q=>Zmk x y=true/\Q (.bl (!decide (x=y))) H
theorem Zf6 {i j:Int}:decide (V.int i=V.int j)=(i==j):=by
 rw [Bool.eq_iff_iff]
 simp
theorem Ziv {i j:Bool}:decide (V.bl i=V.bl j)=(i==j):=by
 rw [Bool.eq_iff_iff]
 simp
theorem Zgk {i j:Str}:decide (V.str i=V.str j)=(i==j):=by
 rw [Bool.eq_iff_iff]
 simp
theorem Zgp {i j:Array UInt8}:decide (V.byt i=V.byt j)=(i.toList==j.toList):=by
 rw [Bool.eq_iff_iff]
 cases i
 cases j
 simp
section
variable {X:Cx}{a b c:Expr}{ta tb tc:TE}{pos:Pos}
theorem ZZ {pins:List (Addr×Obj)} {σ:St}{H:Hp}{s:Shared}{Q:VK}{k k':Bool} (I:Inv X pins σ H s) (q:Q (.bl k) H) (e:k=k'):EP X pins σ Q (.bool k') s:=by
 subst e
 exact ⟨.bl k,H,I,rfl,q⟩
theorem YA:Ub X (compareOp .Eq) rEq:=by
 intro pins s σ H x y v u Q I rx ry h
 obtain ⟨hs,q⟩:=h
 cases x with
 | non=>
  cases rx
  cases y with
  | non=>cases ry;exact PySem.EqNone.eq_none_none (ZZ I q (by simp))
  | bl j=>cases ry;exact PySem.EqNone.eq_none_bool (ZZ I q (by simp))
  | int j=>obtain ⟨t',rfl⟩:=ry;exact PySem.EqNone.eq_none_int (ZZ I q (by simp))
  | str j=>obtain ⟨t',rfl⟩:=ry;exact PySem.EqNone.eq_none_str (ZZ I q (by simp))
  | _=>exact absurd (show false=true from hs) Bool.false_ne_true
 | bl i=>
  cases rx
  cases y with
  | non=>cases ry;exact PySem.EqNone.eq_bool_none (ZZ I q (by simp))
  | bl j=>cases ry;exact eq_bool (ZZ I q Ziv)
  | str j=>obtain ⟨t',rfl⟩:=ry;exact PySem.EqMixed.eq_bool_str (ZZ I q (by simp))
  | _=>exact absurd (show false=true from hs) Bool.false_ne_true
 | int i=>
  obtain ⟨t,rfl⟩:=rx
  cases y with
  | non=>cases ry;exact PySem.EqNone.eq_int_none (ZZ I q (by simp))
  | int j=>obtain ⟨t',rfl⟩:=ry;exact eq_int (ZZ I q Zf6)
  | str j=>obtain ⟨t',rfl⟩:=ry;exact PySem.EqMixed.eq_int_str (ZZ I q (by simp))
  | _=>exact absurd (show false=true from hs) Bool.false_ne_true
 | str i=>
  obtain ⟨t,rfl⟩:=rx
  cases y with
  | non=>cases ry;exact PySem.EqNone.eq_str_none (ZZ I q (by simp))
  | bl j=>cases ry;exact PySem.EqMixed.eq_str_bool (ZZ I q (by simp))
  | int j=>obtain ⟨t',rfl⟩:=ry;exact PySem.EqMixed.eq_str_int (ZZ I q (by simp))
  | str j=>obtain ⟨t',rfl⟩:=ry;exact eq_str (ZZ I q Zgk)
  | _=>exact absurd (show false=true from hs) Bool.false_ne_true
 | byt i=>
  obtain ⟨t,rfl⟩:=rx
  cases y with
  | byt j=>obtain ⟨t',rfl⟩:=ry;exact PySem.W.eq_bytes (ZZ I q Zgp)
  | _=>exact absurd (show false=true from hs) Bool.false_ne_true
 | _=>cases y<;>exact absurd (show false=true from hs) Bool.false_ne_true
theorem UO:Ub X (compareOp .NotEq) rNe:=by
 intro pins s σ H x y v u Q I rx ry h
 obtain ⟨hs,q⟩:=h
 cases x with
 | non=>
  cases rx
  cases y with
  | non=>cases ry;exact PySem.EqNone.ne_none_none (ZZ I q (by simp))
  | bl j=>cases ry;exact PySem.EqNone.ne_none_bool (ZZ I q (by simp))
  | int j=>obtain ⟨t',rfl⟩:=ry;exact PySem.EqNone.ne_none_int (ZZ I q (by simp))
  | str j=>obtain ⟨t',rfl⟩:=ry;exact PySem.EqNone.ne_none_str (ZZ I q (by simp))
  | _=>exact absurd (show false=true from hs) Bool.false_ne_true
 | bl i=>
  cases rx
  cases y with
  | non=>cases ry;exact PySem.EqNone.ne_bool_none (ZZ I q (by simp))
  | bl j=>cases ry;exact ne_bool (ZZ I q (congrArg not Ziv))
  | str j=>obtain ⟨t',rfl⟩:=ry;exact PySem.EqMixed.ne_bool_str (ZZ I q (by simp))
  | _=>exact absurd (show false=true from hs) Bool.false_ne_true
 | int i=>
  obtain ⟨t,rfl⟩:=rx
  cases y with
  | non=>cases ry;exact PySem.EqNone.ne_int_none (ZZ I q (by simp))
  | int j=>obtain ⟨t',rfl⟩:=ry;exact ne_int (ZZ I q (congrArg not Zf6))
  | str j=>obtain ⟨t',rfl⟩:=ry;exact PySem.EqMixed.ne_int_str (ZZ I q (by simp))
  | _=>exact absurd (show false=true from hs) Bool.false_ne_true
 | str i=>
  obtain ⟨t,rfl⟩:=rx
  cases y with
  | non=>cases ry;exact PySem.EqNone.ne_str_none (ZZ I q (by simp))
  | bl j=>cases ry;exact PySem.EqMixed.ne_str_bool (ZZ I q (by simp))
  | int j=>obtain ⟨t',rfl⟩:=ry;exact PySem.EqMixed.ne_str_int (ZZ I q (by simp))
  | str j=>obtain ⟨t',rfl⟩:=ry;exact ne_str (ZZ I q (congrArg not Zgk))
  | _=>exact absurd (show false=true from hs) Bool.false_ne_true
 | byt i=>
  obtain ⟨t,rfl⟩:=rx
  cases y with
  | byt j=>obtain ⟨t',rfl⟩:=ry;exact PySem.W.ne_bytes (ZZ I q (congrArg not Zgp))
  | _=>exact absurd (show false=true from hs) Bool.false_ne_true
 | _=>cases y<;>exact absurd (show false=true from hs) Bool.false_ne_true
theorem ZaC:Ub X (compareOp .Lt) (rI0 fun i j=>.bl (decide (i<j))):=Zma fun _ _ _ _ _ _ _ q=>lt_int q
theorem Uu:Ub X (compareOp .Gt) (rI0 fun i j=>.bl (decide (j<i))):=Zma fun _ _ _ _ _ _ _ q=>gt_int q
theorem ZkP:Ub X (compareOp .GtE) (rI0 fun i j=>.bl (decide (j<=i))):=Zma fun _ _ _ _ _ _ _ q=>ge_int q
theorem Zi0:Ub X (compareOp .Is) (fun x y H Q=>y = .non/\Q (.bl (decide (x = .non))) H):=by
 intro pins s σ H x y v u Q I rx ry h
 obtain ⟨rfl,q⟩:=h
 cases ry
 refine is_none_gen (ZZ I q ?_)
 cases x<;>first
  | (cases rx;rfl)
  | (obtain ⟨t,rfl⟩:=rx;rfl)
theorem ZkJ:Ub X (compareOp .IsNot) (fun x y H Q=>y = .non/\Q (.bl (!decide (x = .non))) H):=by
 intro pins s σ H x y v u Q I rx ry h
 obtain ⟨rfl,q⟩:=h
 cases ry
 refine isnot_none_gen (ZZ I q ?_)
 cases x<;>first
  | (cases rx;rfl)
  | (obtain ⟨t,rfl⟩:=rx;rfl)
theorem Zv (b:Expr) {op:CmpOp} (h:op ≠ .In:=by decide) (h2:op ≠ .NotIn:=by decide):behindInMarks op b=false:=by
 have e1:(op==CmpOp.In)=false:=by cases op<;>first | rfl | exact absurd rfl h
 have e2:(op==CmpOp.NotIn)=false:=by cases op<;>first | rfl | exact absurd rfl h2
 cases b<;>simp [behindInMarks,e1,e2]
theorem Jr {op:CmpOp}{r:R2} (ho:Ub X (compareOp op) r) (ha:PE X a ta) (hb:PE X b tb) (hm:behindInMarks op b=false):PE X (.Compare a [op] [b] pos) (tOp r ta tb):=by
 intro pins s σ H Q I h
 exact wpAny_Compare1 (Zla ha hb I h fun v u s2 x y H2 I2 rx ry q=>ho pins s2 σ H2 x y v u Q I2 rx ry q) hm
def ZkN (t:TE):TT:=fun σ H Q=>t σ H fun x H'=>∃k,x = .bl k/\Q k H'
theorem Zr {op:CmpOp}{r:R2} (ho:Ub X (compareOp op) r) (ha:PE X a ta) (hb:PE X b tb) (hm:behindInMarks op b=false):PT X (.Compare a [op] [b] pos) (ZkN (tOp r ta tb)):=by
 intro pins s σ H Q I h
 refine wpAny_isTrue_Compare1 (YR (ha pins s σ H _ I h) fun v s1 ⟨x,H1,I1,r1,q1⟩=>YR (hb pins s1 σ H1 _ I1 q1) fun u s2 ⟨y,H2,I2,r2,q2⟩=>
  YR (ho pins s2 σ H2 x y v u _ I2 r1 r2 q2) fun c s3 ⟨z,H3,I3,r3,k,e,q3⟩=>?_) hm
 subst e
 cases r3
 exact wpAny_truthy_bool ⟨H3,I3,q3⟩
def Zlh (r r':R2) (ta tb tc:TE):TE:=fun σ H Q=>ta σ H fun x H1=>tb σ H1 fun y H2=>r x y H2 fun z H3=>∃k,z = .bl k /\
 (if k=true then tc σ H3 fun w' H4=>r' y w' H4 Q else Q (.bl false) H3)
theorem ZeE {op op':CmpOp}{r r':R2} (ho:Ub X (compareOp op) r) (ho':Ub X (compareOp op') r') (ha:PE X a ta) (hb:PE X b tb) (hc:PE X c tc)
  (hm:lastMarks [op,op'] [b,c]=false:=by with_unfolding_all rfl):PT X (.Compare a [op,op'] [b,c] pos) (ZkN (Zlh r r' ta tb tc)):=by
 intro pins s σ H Q I h
 refine isTrue_chain (YR (ha pins s σ H _ I h) fun v s1 ⟨x,H1,I1,r1,q1⟩=>test_link (YR (hb pins s1 σ H1 _ I1 q1) fun u s2 ⟨y,H2,I2,r2,q2⟩=>
  YR (ho pins s2 σ H2 x y v u _ I2 r1 r2 q2) fun d s3 ⟨z,H3,I3,r3,k,e,q3⟩=>?_)) hm
 subst e
 cases r3
 refine wpAny_truthy_bool ?_
 cases k with
 | false=>
  obtain ⟨k',e',q'⟩:=q3
  cases e'
  exact ite_ff ⟨H3,I3,q'⟩
 | true=>
  refine ite_tt (test_last (YR (hc pins s3 σ H3 _ I3 q3) fun w' s4 ⟨z',H4,I4,r4,q4⟩=>YR (ho' pins s4 σ H4 y z' u w' _ I4 r2 r4 q4) fun d' s5 ⟨z2,H5,I5,r5,k2,e2,q5⟩=>?_))
  subst e2
  cases r5
  exact wpAny_truthy_bool ⟨H5,I5,q5⟩
def Zkf (K:PySem.W.Frag) (x:V) (H:Hp) (k:Bool):Prop:=
 match x with
 | .non=>k=false
 | .bl b=>k=b
 | .int i=>k=(i != 0)
 | .str y=>y.length<=sizeLine/\k=((y.length:Int) != 0)
 | .byt y=>y.size<=sizeLine/\k=((y.size:Int) != 0)
 | .ref p=>(∃xs,Zu K H p xs/\k = !xs.isEmpty)∨(∃xs,JZ K H p xs/\k = !xs.isEmpty) ∨ ∃kvs,H p=some (.dK kvs)/\k = !kvs.isEmpty
 | _=>False
theorem Zfk {κ:Type}{kvs:List (κ × V)}{vs:List (κ × Value)} (r:KV kvs vs):(!vs.isEmpty) = !kvs.isEmpty:=by
 cases r<;>rfl
theorem Zb4 {xs:List V}{its:List Value} (r:Vals xs its):(!its.toArray.isEmpty) = !xs.isEmpty:=by
 cases r<;>simp
theorem Zbj:(sizeLine:Nat)<2 ^ 63:=by rw [sizeLine_eq];decide
theorem ZlE:ZnI X (fun x H Q=>∃k,Zkf X.K x H k/\Q k H):=by
 intro pins s σ H x v Q I rx h
 obtain ⟨k,e,q⟩:=h
 have hl:=Zbj
 have hs:sizeLine=16777216:=sizeLine_eq
 cases x with
 | non=>
  cases rx
  have e':k=false:=e
  subst e'
  exact truthy_none ⟨H,I,q⟩
 | bl b=>
  cases rx
  have e':k=b:=e
  subst e'
  exact wpAny_truthy_bool ⟨H,I,q⟩
 | int i=>
  obtain ⟨t,rfl⟩:=rx
  have e':k=(i != 0):=e
  subst e'
  exact PySem.P.truthy_int ⟨H,I,q⟩
 | str y=>
  obtain ⟨t,rfl⟩:=rx
  obtain ⟨hy,e'⟩:y.length<=sizeLine/\k=((y.length:Int) != 0):=e
  subst e'
  exact PySem.P.truthy_str (by lia) ⟨H,I.tok _,q⟩
 | byt y=>
  obtain ⟨t,rfl⟩:=rx
  obtain ⟨hy,e'⟩:y.size<=sizeLine/\k=((y.size:Int) != 0):=e
  subst e'
  exact PySem.W.truthy_bytes (by lia) ⟨H,I.tok _,q⟩
 | ref p=>
  cases rx
  have e':(∃xs,Zu X.K H p xs/\k = !xs.isEmpty)∨(∃xs,JZ X.K H p xs/\k = !xs.isEmpty) ∨ ∃kvs,H p=some (.dK kvs)/\k = !kvs.isEmpty:=e
  rcases e' with ⟨xs,hx,e'⟩ | ⟨xs,hx,e'⟩ | ⟨kvs,hx,e'⟩
  ·subst e'
   obtain ⟨its,r,pl,hz⟩:=I.list hx
   have hlen:=r.length
   exact wpAny_truthy_list pl.isList (by simp only [List.size_toArray];lia) ⟨H,I.tok _,by rw [Zb4 r];exact q⟩
  ·subst e'
   obtain ⟨its,r,pl,hz⟩:=I.tuple hx
   have hlen:=r.length
   exact truthy_tuple pl (by simp only [List.size_toArray];lia) ⟨H,I.tok _,by rw [Zb4 r];exact q⟩
  ·subst e'
   obtain ⟨hz,hS,vs,r,m⟩:kvs.length<=sizeLine/\(p==sysModules)=false /\ ∃vs,KV kvs vs/\s.heap.DictOf (YI X.prog X.w) p vs:=I.hok p _ hx
   have hlen:kvs.length=vs.length:=Paired.length r
   exact wpAny_truthy_dict hS m (by lia) ⟨H,I.tok _,by rw [Zfk r];exact q⟩
 | _=>exact (show False from e).elim
theorem Zcl (ha:PE X a ta) (he:∀whole,isTrue a X.env whole=(do let v <- whole;standAt a.pos;holding [v] (truthy v))):
  PT X a (fun σ H Q=>ta σ H fun x H'=>∃k,Zkf X.K x H' k/\Q k H'):=by
 intro pins s σ H Q I h
 exact isTrue_plain (YR (ha pins s σ H _ I h) fun v s1 ⟨x,H1,I1,r1,q1⟩=>ZlE pins s1 σ H1 x v Q I1 r1 q1) (he _)
theorem vals1 {x:V}{us:List Value} (r:Vals [x] us):∃u,us = [u]/\RelV x u:=by
 cases r with
 | cons r1 r2=>cases r2;exact ⟨_,rfl,r1⟩
theorem vals2 {x y:V}{us:List Value} (r:Vals [x,y] us):∃u w',us = [u,w']/\RelV x u/\RelV y w':=by
 cases r with
 | cons r1 r2=>
  cases r2 with
  | cons r3 r4=>cases r4;exact ⟨_,_,rfl,r1,r3⟩
theorem Zcz:JD X (.builtin "abs") (fun xs H Q=>∃i,xs = [.int i]/\Q (.int (if i<0 then -i else i)) H):=by
 intro pins s σ H xs us Q I r h
 obtain ⟨i,rfl,q⟩:=h
 obtain ⟨u,rfl,t,rfl⟩:=vals1 r
 exact call_abs_int fun u tk=>⟨.int (if i<0 then -i else i),H,I.tok _,⟨_,rfl⟩,q⟩
theorem U6 (hc:X.calm=true):JD X (.builtin "max") (fun xs H Q=>∃i j,xs = [.int i,.int j]/\Q (.int (if j>i then j else i)) H):=by
 intro pins s σ H xs us Q I r h
 obtain ⟨i,j,rfl,q⟩:=h
 obtain ⟨u,w',rfl,⟨t,rfl⟩,⟨t',rfl⟩⟩:=vals2 r
 refine max_two_ints (I.ok.hd hc) fun h' tk k=>⟨_,H,I.kept k,?_,q⟩
 by_cases hj:j>i
 ·rw [if_pos hj,if_pos hj];exact ⟨_,rfl⟩
 ·rw [if_neg hj,if_neg hj];exact ⟨_,rfl⟩
theorem ZcX (hc:X.calm=true):JD X (.builtin "min") (fun xs H Q=>∃i j,xs = [.int i,.int j]/\Q (.int (if j<i then j else i)) H):=by
 intro pins s σ H xs us Q I r h
 obtain ⟨i,j,rfl,q⟩:=h
 obtain ⟨u,w',rfl,⟨t,rfl⟩,⟨t',rfl⟩⟩:=vals2 r
 refine min_two_ints (I.ok.hd hc) fun h' tk k=>⟨_,H,I.kept k,?_,q⟩
 by_cases hj:j<i
 ·rw [if_pos hj,if_pos hj];exact ⟨_,rfl⟩
 ·rw [if_neg hj,if_neg hj];exact ⟨_,rfl⟩
theorem JP:JD X (.type "int") (fun xs H Q=>(∃i,xs = [.int i]/\Q (.int i) H) ∨ ∃k,xs = [.bl k]/\Q (.int (if k then 1 else 0)) H):=by
 intro pins s σ H xs us Q I r h
 rcases h with ⟨i,rfl,q⟩ | ⟨k,rfl,q⟩
 ·obtain ⟨u,rfl,t,rfl⟩:=vals1 r
  exact call_int_int ⟨.int i,H,I,⟨_,rfl⟩,q⟩
 ·obtain ⟨u,rfl,r1⟩:=vals1 r
  cases r1
  exact call_int_bool ⟨.int (if k then 1 else 0),H,I.tok _,⟨_,rfl⟩,q⟩
end
structure ZfA (h:Heap) (x dx C:Addr) (mA:Str->Option Value):Prop where
 obj:h.get? x=some (PySem.W.instObj C dx)
 ns:h.Ns1 dx mA
 ne:dx≠x
theorem Zg5 {h:Heap}{dx:Addr}{mA:Str->Option Value} (n:h.Ns1 dx mA):∃od,h.get? dx=some od /\ ∀name,PySem.W.lookIn name od=some (mA name):=by
 obtain ⟨o,es,ep,ho,hd,hk,_,hm⟩:=n
 refine ⟨o,ho,fun name=>?_⟩
 have e:=hm name
 unfold nsFind findBy at e
 rw [<- Array.find?_toList] at e
 unfold PySem.W.lookIn
 rw [hd]
 dsimp only
 split
 ·rename_i y q
  rw [q] at e
  exact congrArg some e
 ·rename_i q
  rw [q] at e
  have a:es.toList.any (·.refKey)=false:=by
   rw [List.any_eq_false]
   intro y hy
   obtain ⟨z,t,hkey⟩:=hk y (Array.mem_toList_iff.mp hy)
   simp [DictEntry.refKey,hkey]
  have a':¬es.toList.any (·.refKey)=true:=by rw [a];exact Bool.false_ne_true
  rw [if_neg a']
  exact congrArg some e
theorem ZfA.look {h:Heap}{x dx C:Addr}{mA:Str->Option Value} (I:ZfA h x dx C mA):∃od,PySem.W.InstAt h x (PySem.W.instObj C dx) C (some od) /\ ∀name,PySem.W.lookIn name od=some (mA name):=
 let ⟨od,ho,hl⟩:=Zg5 I.ns
 ⟨od,⟨I.obj,rfl,rfl,ho⟩,hl⟩
section
variable {prog:Program}{w:World}{A:Around}{E:Value->Shared->Prop}{s:Shared}{K:PySem.W.Frag}{x dx C f:Addr}{mA:Str->Option Value}{name:Str}{v:Value}
theorem get_map {expr:Bool}{Q:Value->Shared->Prop} (X:K.In s.heap) (I:ZfA s.heap x dx C mA) (hg:PySem.W.plainGet K C name=true) (hh:PySem.W.hasDictIn K C=true)
  (ha:PySem.W.findIn K (.ref C) name=some none) (hv:mA name=some v) (hv':PySem.W.handedIn v=true) (h:Q v { s with toks:=s.toks+1 }):
  wpAny (model prog w) A (getAttr (.ref x) name expr) Q E s:=by
 obtain ⟨od,J,hl⟩:=I.look
 exact PySem.W.get_value X J (PySem.W.plainGet_of hg).1 (PySem.W.findObj_own hh ha rfl (by rw [hl,hv])) hv' h
theorem ZiS {pl:Sem Bool}{Q:Value×List Value->Shared->Prop} (X:K.In s.heap) (I:ZfA s.heap x dx C mA) (hg:PySem.W.plainGet K C name=true)
  (hf:PySem.W.findIn K (.ref C) name=some (some (.ref f))) (ht:PySem.W.isFn K (.ref f)=true) (hv:mA name=none) (h:Q (.ref f,[.ref x]) s):
  wpAny (model prog w) A (getMethod (.ref x) name pl) Q E s:=by
 obtain ⟨od,J,hl⟩:=I.look
 exact PySem.W.method_fn X J (PySem.W.plainGet_of hg).1 (PySem.W.plainGet_of hg).2 hf (beq_iff_eq.mp ht) (by show (PySem.W.lookIn name od).map (·.isSome)=some false;rw [hl,hv];rfl) h
theorem Zks {ns:List Str}{Q:Unit->Shared->Prop} (X:K.In s.heap) (I:ZfA s.heap x dx C mA)
  (hs:PySem.W.findIn K (.ref C) "__setattr__" = some (some (.builtin "object.__setattr__"))) (hp:PySem.W.plainOver K C=true) (ht:PySem.W.takerIn K C name=some none) (hh:PySem.W.hasDictIn K C=true)
  (hw:PySem.Within mA ns) (hsz:ns.length<=sizeLine)
  (h:∀h',ZfA h' x dx C (fun y=>if y=name then some v else mA y)->Heap.SameBut dx s.heap h'->Q () { s with heap:=h',toks:=s.toks+2 }):
  wpAny (model prog w) A (setAttr (.ref x) name v) Q E s:=by
 obtain ⟨od,J,hl⟩:=I.look
 refine PySem.W.set_plain X J hs (PySem.W.osa_open (s:={ s with toks:=s.toks+1 }) (r:=none) X J hp ht fun b=>?_)
 obtain ⟨cd,hc,hd'⟩:=PySem.W.any_some hh
 have hx:s.heap.get? x=some ⟨.ref C,some dx,.plain,#[]⟩:=I.obj
 refine wpAny_bind (wpAny_pure (wpAny_bind (wpAny_bind (wpAny_loadPart hx (wpAny_bind (PySem.W.Looks.here (s:={ s with toks:=s.toks+1 }) (PySem.W.looks_clsIn X hc) ?_))))))
 rw [hd']
 refine wpAny_pure (a:=some dx) (wpAny_bind (wpAny_pure (wpAny_bind ?_)))
 refine wpAny_nsSet1 (s:={ s with toks:=s.toks+1 }) I.ns fun h' hn2 hs2=>?_
 obtain ⟨oD,esD,epD,hoD,hdD,hcD⟩:=hn2.count (PySem.Within.cons name v hw)
 refine wpAny_bind (wpAny_lookBehind hoD (by rw [hdD];exact pastItsLine_dict (Nat.le_trans hcD (by rw [List.length_cons];lia))) ?_)
 exact wpAny_pure (h _ ⟨(hs2.2 _ (Ne.symm I.ne)).trans I.obj,hn2,I.ne⟩ hs2)
theorem Zig {R:Result->Shared->Prop}{vs:List Value}{kw:List (Str×Value)} (X:K.In s.heap) (hm:PySem.W.makesIn K C=true)
  (hi:PySem.W.findIn K (.ref C) "__init__" = some (some (.ref f))) (hf:PySem.W.typeIn K (.ref f)=some (.type "function"))
  (h:codeAny (model prog w) (A.under (.builtin "type.__call__" ⟨.ref C::vs,kw⟩)) (.call (.ref f) ⟨.ref (s.heap.objs.size+1)::vs,kw⟩) (PySem.W.InitBack (s.heap.objs.size+1) R)
   { s with heap:=(s.heap.push PySem.W.emptyDict).push (PySem.W.instObj C s.heap.objs.size) }):
  codeAny (model prog w) A (.call (.ref C) ⟨vs,kw⟩) R s:=by
 obtain ⟨hh,g,d,t,os⟩:=s
 exact PySem.W.make_core (PySem.W.makes_of X hm) (PySem.W.looks_findIn X hi) (fun self=>PySem.W.bind_fn X self hf) (.inl rfl) h
end
def W9 (f:Str) (v:V):List (Str×V)->List (Str×V)
 | []=>[(f,v)]
 | (g,x)::r=>if g=f then (g,v)::r else (g,x)::W9 f v r
theorem Zby (f g:Str) (v:V):∀fs:List (Str×V),(W9 f v fs).lookup g=if g=f then some v else fs.lookup g
 | []=>by
  show List.lookup g [(f,v)]=_
  by_cases h:g=f
  ·have hb:(g==f)=true:=beq_iff_eq.mpr h
   simp only [List.lookup,hb,if_pos h]
  ·have hb:(g==f)=false:=beq_eq_false_iff_ne.mpr h
   simp only [List.lookup,hb,if_neg h]
 | (k,x)::r=>by
  have ih:=Zby f g v r
  rw [show W9 f v ((k,x)::r)=(if k=f then (k,v)::r else (k,x)::W9 f v r) from rfl]
  by_cases hk:k=f
  ·rw [if_pos hk]
   by_cases h:g=k
   ·have hb:(g==k)=true:=beq_iff_eq.mpr h
    simp only [List.lookup,hb,if_pos (h.trans hk)]
   ·have hb:(g==k)=false:=beq_eq_false_iff_ne.mpr h
    simp only [List.lookup,hb,if_neg (fun e:g=f=>h (e.trans hk.symm))]
  ·rw [if_neg hk]
   by_cases h:g=k
   ·have hb:(g==k)=true:=beq_iff_eq.mpr h
    simp only [List.lookup,hb,if_neg (fun e:g=f=>hk (h.symm.trans e))]
   ·have hb:(g==k)=false:=beq_eq_false_iff_ne.mpr h
    simp only [List.lookup,hb]
    exact ih
theorem Zbe (f:Str) (v:V):∀fs:List (Str×V),f∈(W9 f v fs).map (·.1) /\ ∀g,g∈fs.map (·.1)->g∈(W9 f v fs).map (·.1)
 | []=>⟨by simp [W9],fun g h=>by simp at h⟩
 | (k,x)::r=>by
  obtain ⟨i1,i2⟩:=Zbe f v r
  rw [show W9 f v ((k,x)::r)=(if k=f then (k,v)::r else (k,x)::W9 f v r) from rfl]
  by_cases hk:k=f
  ·rw [if_pos hk]
   subst hk
   exact ⟨by simp,fun g h=>by simpa using h⟩
  ·rw [if_neg hk]
   refine ⟨?_,fun g h=>?_⟩
   ·rw [List.map_cons]
    exact List.mem_cons_of_mem _ i1
   ·rw [List.map_cons] at h ⊢
    rcases List.mem_cons.mp h with e | e
    ·exact List.mem_cons.mpr (.inl e)
    ·exact List.mem_cons_of_mem _ (i2 g e)
theorem Zbr (f:Str) (v:V):∀fs:List (Str×V),(W9 f v fs).length<=fs.length+1
 | []=>by simp [W9]
 | (k,x)::r=>by
  have ih:=Zbr f v r
  rw [show W9 f v ((k,x)::r)=(if k=f then (k,v)::r else (k,x)::W9 f v r) from rfl]
  by_cases hk:k=f
  ·rw [if_pos hk,List.length_cons,List.length_cons];lia
  ·rw [if_neg hk,List.length_cons,List.length_cons];lia
theorem U9.some_of {v:V}{o:Option Value} (r:U9 (some v) o):∃u,o=some u/\RelV v u:=by
 cases o with
 | none=>exact (show False from r).elim
 | some u=>exact ⟨u,rfl,r⟩
theorem U9.none_of {o:Option Value} (r:U9 none o):o=none:=by
 cases o with
 | none=>rfl
 | some u=>exact (show False from r).elim
theorem Zhx {v:V}{u:Value} (r:RelV v u):PySem.W.handedIn u=true:=by
 cases v with
 | non=>cases (show u=Value.none from r);rfl
 | bl b=>cases (show u=Value.bool b from r);rfl
 | int i=>obtain ⟨t,e⟩:=(show ∃t,u=Value.int i t from r);cases e;rfl
 | str x=>obtain ⟨t,e⟩:=(show ∃t,u=Value.str x t from r);cases e;rfl
 | byt b=>obtain ⟨t,e⟩:=(show ∃t,u=Value.bytes b t from r);cases e;rfl
 | flt b=>obtain ⟨t,e⟩:=(show ∃t,u=Value.float b t from r);cases e;rfl
 | ref a=>cases (show u=Value.ref a from r);rfl
 | ty n=>cases (show u=Value.type n from r);rfl
section
variable {P:Program}{w:World}{H H':Hp}{h h':Heap}{a C dx:Addr}{fs fs':List (Str×V)}
theorem ZbY (hok:Uv P w H h) (e:H a=some (.ins C dx fs)):∃mA,ZfA h a dx C mA/\(∀f,U9 (fs.lookup f) (mA f))/\PySem.Within mA (fs.map (·.1))/\fs.length<=1000/\H dx=some (.own a):=by
 obtain ⟨d,z,ne,ob,mA,n,r,q⟩:=(show Yp P w H h a (.ins C dx fs) from hok a _ e)
 exact ⟨mA,⟨ob,n,ne⟩,r,q,z,d⟩
end
structure Cls (K:PySem.W.Frag) (C:Addr):Prop where
 pg:PySem.W.plainGet K C Str.empty=true
 hd:PySem.W.hasDictIn K C=true
 po:PySem.W.plainOver K C=true
 sa:PySem.W.findIn K (.ref C) "__setattr__" = some (some (.builtin "object.__setattr__"))
theorem Cls.get {K:PySem.W.Frag}{C:Addr} (c:Cls K C) (f:Str):PySem.W.plainGet K C f=true:=c.pg
def Jz (K:PySem.W.Frag) (C:Addr) (f:Str):Prop:=PySem.W.findIn K (.ref C) f=some none
theorem Jz.taker {K:PySem.W.Frag}{C:Addr}{f:Str} (n:Jz K C f):PySem.W.takerIn K C f=some none:=by
 unfold PySem.W.takerIn
 rw [show PySem.W.findIn K (.ref C) f=some none from n]
 rfl
structure Con (K:PySem.W.Frag) (C:Addr) (f:Str) (v:V) (u:Value):Prop where
 at_:PySem.W.findIn K (.ref C) f=some (some u)
 rel:RelV v u
 get:PySem.W.specialIn K u "__get__" = some none
 cp:PySem.W.copiedNames.contains f=false
structure Meth (K:PySem.W.Frag) (C:Addr) (m:Str) (f:Addr):Prop where
 at_:PySem.W.findIn K (.ref C) m=some (some (.ref f))
 fn:PySem.W.isFn K (.ref f)=true
 kp:PySem.W.keepIn K (.ref f)=true
section
variable {X:Cx}{pins:List (Addr×Obj)} {σ:St}{H:Hp}{s:Shared}{a C dx:Addr}{fs:List (Str×V)}{f:Str}{v:V}{A:Around}{E:Value->Shared->Prop}
theorem ZfO {b:Bool}{Q:Value->Shared->Prop} (I:Inv X pins σ H s) (e:H a=some (.ins C dx fs)) (c:Cls X.K C) (n:Jz X.K C f) (l:fs.lookup f=some v)
  (h:∀u s',Inv X pins σ H s'->RelV v u->Q u s'):wpAny (model X.prog X.w) A (getAttr (.ref a) f b) Q E s:=by
 obtain ⟨mA,O,r,_,_,_⟩:=ZbY I.hok e
 obtain ⟨u,hu,ru⟩:=U9.some_of (v:=v) (o:=mA f) (by rw [<- l];exact r f)
 exact get_map I.kIn O (c.get f) c.hd n hu (Zhx ru) (h u _ (I.tok _) ru)
theorem Zfe {m:Str}{g:Addr}{pl:Sem Bool}{Q:Value×List Value->Shared->Prop} (I:Inv X pins σ H s) (e:H a=some (.ins C dx fs)) (c:Cls X.K C) (k:Meth X.K C m g) (l:fs.lookup m=none)
  (h:Q (.ref g,[.ref a]) s):wpAny (model X.prog X.w) A (getMethod (.ref a) m pl) Q E s:=by
 obtain ⟨mA,O,r,_,_,_⟩:=ZbY I.hok e
 have hn:mA m=none:=U9.none_of (by rw [<- l];exact r m)
 exact ZiS I.kIn O (c.get m) k.at_ k.fn hn h
theorem Zfg {y:V}{u:Value}{Q:Unit->Shared->Prop} (I:Inv X pins σ H s) (e:H a=some (.ins C dx fs)) (c:Cls X.K C) (n:Jz X.K C f) (hl:fs.length<1000) (ry:RelV y u)
  (h:∀s',Inv X pins σ (upd H a (.ins C dx (W9 f y fs))) s'->Q () s'):wpAny (model X.prog X.w) A (setAttr (.ref a) f u) Q E s:=by
 obtain ⟨mA,O,r,wi,_,ho⟩:=ZbY I.hok e
 have hz:(fs.map (·.1)).length<=sizeLine:=by rw [List.length_map,sizeLine_eq];lia
 refine Zks I.kIn O c.sa c.po n.taker c.hd wi hz fun h' O' sb=>h _ ?_
 have hd:∃o,h'.get? dx=some o:=let ⟨o,_,_,e',_⟩:=O'.ns;⟨o,e'⟩
 refine I.write (x:=a) (e:=dx) (by rw [e];exact True.intro) (.inr ho) (fun b q hb z=>(sb.2 b hb).trans z) hd ?_
 refine ⟨by rw [Zi O.ne];exact ho,?_,O.ne,O'.obj,_,O'.ns,fun g=>?_,fun g hg=>?_⟩
 ·have:=Zbr f y fs;lia
 ·show U9 ((W9 f y fs).lookup g) (if g=f then some u else mA g)
  rw [Zby]
  by_cases q:g=f
  ·rw [if_pos q,if_pos q];exact ry
  ·rw [if_neg q,if_neg q];exact r g
 ·by_cases q:g=f
  ·rw [q];exact (Zbe f y fs).1
  ·refine (Zbe f y fs).2 g (wi g fun z=>hg ?_)
   show (if g=f then some u else mA g)=none
   rw [if_neg q];exact z
theorem Inv.made (I:Inv X pins σ H s):Inv X pins σ (upd (upd H s.heap.objs.size (.own (s.heap.objs.size+1))) (s.heap.objs.size+1) (.ins C s.heap.objs.size []))
  { s with heap:=(s.heap.push PySem.W.emptyDict).push (PySem.W.instObj C s.heap.objs.size) }:=by
 have e1:(s.heap.push PySem.W.emptyDict).get? s.heap.objs.size=some PySem.W.emptyDict:=Heap.get?_push_size s.heap rfl
 have e2:((s.heap.push PySem.W.emptyDict).push (PySem.W.instObj C s.heap.objs.size)).get? (s.heap.objs.size+1)=some (PySem.W.instObj C s.heap.objs.size):=by
  have:=Heap.get?_push_size (s.heap.push PySem.W.emptyDict) (o:=PySem.W.instObj C s.heap.objs.size) rfl
  rwa [Heap.size_push] at this
 have e3:(s.heap.push PySem.W.emptyDict).Ns s.heap.objs.size (fun _=>none):=⟨PySem.W.emptyDict,#[],_,e1,rfl,(fun e he=>absurd he (by simp)),fun _=>rfl⟩
 have I1:=I.laid (a:=s.heap.objs.size) (o:=.own (s.heap.objs.size+1)) (h':=s.heap.push PySem.W.emptyDict) (t':=s.toks) (fun b u q=>Heap.get?_push_of_some _ q) (Nat.le_refl _) ⟨_,e1⟩
 refine I1.laid (a:=s.heap.objs.size+1) (o:=.ins C s.heap.objs.size []) (t':=s.toks) (fun b u q=>Heap.get?_push_of_some _ q) (Nat.le_of_eq (Heap.size_push _ _)) ?_
 have ne:s.heap.objs.size≠s.heap.objs.size+1:=Nat.ne_of_lt (Nat.lt_succ_self _)
 refine ⟨by rw [Zi ne,Zb],Nat.zero_le _,ne,e2,fun _=>none,(Heap.Ns1.of_empty e3).at fun o q=>Heap.get?_push_of_some _ q,fun _=>True.intro,fun y hy=>absurd rfl hy⟩
theorem ZjD {prog:Program}{w:World}{env:Env}{e:Expr}{f:Str}{pos:Pos}{s:Shared}{Q:Value->Shared->Prop} (hb:attributeBase e f env (eval e env)=eval e env)
  (h:wpAny (model prog w) A (eval e env) (fun o s₁=>wpAny (model prog w) A (getAttr o f true) Q E s₁) E s):wpAny (model prog w) A (eval (.Attribute e f pos) env) Q E s:=
 Attribute_any_ h (by rw [arm_eval_Attribute,hb])
end
def ZlU (K:PySem.W.Frag) (ta:TE) (f:Str):TE:=fun σ H Q=>ta σ H fun x H1=>∃a C dx fs v,x = .ref a/\H1 a=some (.ins C dx fs)/\Cls K C/\Jz K C f/\fs.lookup f=some v/\Q v H1
def Zlr (K:PySem.W.Frag) (ta tv:TE) (f:Str):TS:=fun D σ H=>tv σ H fun y H1=>ta σ H1 fun x H2=>∃a C dx fs,x = .ref a/\H2 a=some (.ins C dx fs)/\Cls K C/\Jz K C f/\fs.length<1000 /\
 D.nx σ (upd H2 a (.ins C dx (W9 f y fs)))
section
variable {X:Cx}{o e value:Expr}{f:Str}{pos pos' tpos:Pos}{ta tv:TE}
theorem W6 (he:PE X e ta) (hb:attributeBase e f X.env (eval e X.env)=eval e X.env):PE X (.Attribute e f pos) (ZlU X.K ta f):=by
 intro pins s σ H Q I h
 refine ZjD hb (YR (he pins s σ H _ I h) fun u s1 ⟨x,H1,I1,rx,a,C,dx,fs,v,ex,ea,c,n,l,q⟩=>?_)
 subst ex
 obtain rfl:u=Value.ref a:=rx
 exact ZfO I1 ea c n l fun u' s2 I2 ru=>⟨v,H1,I2,ru,q⟩
theorem ZiJ (ha:PE X o ta) (hv:PE X value tv) (hs:swapsWith value (some (.Attribute o f pos')) pos.line X.env=pure false):PS X (.Assign [.Attribute o f pos'] value pos) (Zlr X.K ta tv f):=by
 intro pins s σ H D I h
 refine plainObj_wpAny_Assign_Attribute (YR (hv pins s σ H _ I h) fun u s1 ⟨y,H1,I1,ry,q⟩=>YR (ha pins s1 σ H1 _ I1 q) fun ov s2 ⟨x,H2,I2,rx,a,C,dx,fs,ex,ea,c,n,l,q2⟩=>?_) hs
 subst ex
 obtain rfl:ov=Value.ref a:=rx
 exact Zfg I2 ea c n l ry fun s3 I3=>⟨σ,_,I3,q2⟩
end
section
variable {X:Cx}{pins:List (Addr×Obj)} {σ:St}{H:Hp}{s:Shared}{A:Around}{E:Value->Shared->Prop}{Q:Value->Shared->Prop}{c:Value}{b:Bool}
inductive ZaG (K:PySem.W.Frag) (H:Hp):V->Value->Prop where
 | non:ZaG K H .non (.type "NoneType")
 | bl (x:Bool):ZaG K H (.bl x) (.type "bool")
 | int (i:Int):ZaG K H (.int i) (.type "int")
 | str (x:Str):ZaG K H (.str x) (.type "str")
 | flt (x:UInt64):ZaG K H (.flt x) (.type "float")
 | lst {a:Addr}{xs:List V} (e:H a=some (.lst xs)):ZaG K H (.ref a) (.type "list")
 | frz {a:Addr}{o:Obj}{xs:List V} (e:H a=some (.frz o (.lst xs))):ZaG K H (.ref a) (.type "list")
 | tup {a:Addr}{xs:List V} (e:H a=some (.tup xs)):ZaG K H (.ref a) (.type "tuple")
 | dK {a:Addr}{kvs:List (Key×V)} (e:H a=some (.dK kvs)):ZaG K H (.ref a) (.type "dict")
 | dT {a:Addr}{kvs:List (List Key×V)} (e:H a=some (.dT kvs)):ZaG K H (.ref a) (.type "dict")
 | ins {a C dx:Addr}{fs:List (Str×V)} (e:H a=some (.ins C dx fs)) (cl:Cls K C) (ha:PySem.W.findIn K (.ref C) "__class__" = some (some (.builtin "object.__class__")))
   (hn:PySem.W.specialIn K (.builtin "object.__class__") "__get__" = some (some (.builtin "getset_descriptor.__get__"))) (htk:PySem.W.takesIn K (.builtin "object.__class__")=some true)
   (hm:PySem.W.mroIn K C (.type "object")=some true):ZaG K H (.ref a) (.ref C)
theorem ZgV {x:V}{u t:Value} (I:Inv X pins σ H s) (rx:RelV x u) (ty:ZaG X.K H x t) (e:PySem.W.kitOne X.K t c=some b) (h:∀tk,Q (.bool b) { s with toks:=tk }):
  wpAny (model X.prog X.w) A (call (.builtin "isinstance") [u,c]) Q E s:=by
 cases ty with
 | non=>cases (show u=Value.none from rx);exact PySem.W.kia_one PySem.W.kitx_none I.kIn True.intro e (fun z=>nomatch z) h
 | bl y=>cases (show u=Value.bool y from rx);exact PySem.W.kia_one PySem.W.kitx_bool I.kIn True.intro e (fun z=>nomatch z) h
 | int i=>obtain ⟨t,q⟩:=(show ∃t,u=Value.int i t from rx);cases q;exact PySem.W.kia_one PySem.W.kitx_int I.kIn True.intro e (fun z=>nomatch z) h
 | str y=>obtain ⟨t,q⟩:=(show ∃t,u=Value.str y t from rx);cases q;exact PySem.W.kia_one PySem.W.kitx_str I.kIn True.intro e (fun z=>nomatch z) h
 | flt y=>obtain ⟨t,q⟩:=(show ∃t,u=Value.float y t from rx);cases q;exact PySem.W.kia_one PySem.W.kitx_float I.kIn True.intro e (fun z=>nomatch z) h
 | @lst a xs ea=>
  cases (show u=Value.ref a from rx)
  obtain ⟨_,_,n,_,h1⟩:=(show Yp X.prog X.w H s.heap a (.lst xs) from I.hok a _ ea)
  exact PySem.W.kia_one PySem.W.kitx_list I.kIn ⟨_,h1,rfl⟩ e (fun z=>nomatch z) h
 | @frz a ob xs ea=>
  cases (show u=Value.ref a from rx)
  obtain ⟨_,_,_,n,_,h1⟩:=(show Yp X.prog X.w H s.heap a (.frz ob (.lst xs)) from I.hok a _ ea)
  exact PySem.W.kia_one PySem.W.kitx_list I.kIn ⟨_,h1,rfl⟩ e (fun z=>nomatch z) h
 | @tup a xs ea=>
  cases (show u=Value.ref a from rx)
  obtain ⟨_,_,_,p⟩:=(show Yp X.prog X.w H s.heap a (.tup xs) from I.hok a _ ea)
  obtain ⟨o,h1,h2,_⟩:=p
  exact PySem.W.kia_one PySem.W.kitx_tuple I.kIn ⟨o,h1,h2⟩ e (fun z=>nomatch z) h
 | @dK a kvs ea=>
  cases (show u=Value.ref a from rx)
  obtain ⟨_,_,vs,_,p⟩:=(show Yp X.prog X.w H s.heap a (.dK kvs) from I.hok a _ ea)
  obtain ⟨o,es,ep,h1,h2,_⟩:=p
  exact PySem.W.kia_one PySem.W.kitx_dict I.kIn ⟨o,h1,h2.1⟩ e (fun z=>nomatch z) h
 | @dT a kvs ea=>
  cases (show u=Value.ref a from rx)
  obtain ⟨_,_,xs,_,o,es,ep,h1,h2,_⟩:=(show Yp X.prog X.w H s.heap a (.dT kvs) from I.hok a _ ea)
  exact PySem.W.kia_one PySem.W.kitx_dict I.kIn ⟨o,h1,h2.1⟩ e (fun z=>nomatch z) h
 | @ins a C dx fs ea cl ha hn htk hm=>
  cases (show u=Value.ref a from rx)
  obtain ⟨mA,O,_⟩:=ZbY I.hok ea
  obtain ⟨od,J,_⟩:=O.look
  exact PySem.W.kia_one (PySem.W.kitx_own (cl.get _) cl.hd ha hn htk hm) I.kIn J e (fun z=>nomatch z) h
end
structure J1 (k:Nat) (A:Around):Prop where
 hd:A.handled=none
 dp:A.depth+3*k+5<recursionLimit
 un:A.units+16*k+200<cLine
theorem J1.mono {j k:Nat}{A:Around} (r:J1 k A) (h:j<=k):J1 j A:=⟨r.hd,by have:=r.dp;lia,by have:=r.un;lia⟩
theorem J1.deeper {k:Nat}{A:Around} (r:J1 (k+1) A) (env:Env):J1 k (A.deeper env):=
 ⟨r.hd,by have:=r.dp;show A.depth+1+3*k+5<_;lia,by have:=r.un;show A.units+3+16*k+200<_;lia⟩
theorem ZfW {A:Around}{C:Addr}{us:List Value}{kw:List (Str×Value)}:(A.under (.builtin "type.__call__" ⟨.ref C::us,kw⟩)).depth=A.depth+1:=by
 first | rfl | simp [Around.under,Code.weight,Code.isCreation,Code.isGuard,Code.isCaller,Code.frames,Code.isFrame,guardIds]
theorem ZfP {A:Around}{C:Addr}{us:List Value}{kw:List (Str×Value)}:(A.under (.builtin "type.__call__" ⟨.ref C::us,kw⟩)).units=A.units+1:=by
 first | rfl | simp [Around.under,Code.cUnits,Code.frames,Code.isFrame]
theorem J1.make {k:Nat}{A:Around} (r:J1 (k+1) A) (C:Addr) (us:List Value) (kw:List (Str×Value)):J1 k (A.under (.builtin "type.__call__" ⟨.ref C::us,kw⟩)):=
 ⟨r.hd,by have:=r.dp;rw [ZfW];lia,by have:=r.un;rw [ZfP];lia⟩
theorem J1.depth {k:Nat}{A:Around} (r:J1 k A):A.depth<recursionLimit:=by have:=r.dp;lia
theorem J1.units {k:Nat}{A:Around} (r:J1 k A):A.units+64<cLine:=by have:=r.un;lia
def Zm0:TA:=fun _ H Q=>Q [] H
def ZhE (ta:TE) (tr:TA):TA:=fun σ H Q=>ta σ H fun x H1=>tr σ H1 fun xs H2=>Q (x::xs) H2
section
variable {X:Cx}{e:Expr}{es:List Expr}{te:TE}{t:TA}{pos:Pos}
theorem Zc:PA X [] Zm0:=fun _ _ _ _ H Q I h=>Calls.spliced_nil ⟨[],H,I,.nil,h⟩
theorem Za (ha:PE X e te) (hr:PA X es t) (hs:starEach (e::es) X.env=(false,eval e X.env)::starEach es X.env:=by rfl):PA X (e::es) (ZhE te t):=by
 intro pos pins s σ H Q I h
 rw [hs]
 show wpAny _ _ (spliced ((false,eval e X.env)::backTo pos (starEach es X.env))) _ _ s
 refine Calls.spliced_cons (YR (ha pins s σ H _ I h) fun u s1 ⟨x,H1,I1,r1,q1⟩=>?_)
 exact YR (hr pos pins s1 σ H1 _ I1 q1) fun us s2 ⟨xs,H2,I2,r2,q2⟩=>⟨x::xs,H2,I2,.cons r1 r2,q2⟩
def Zne (t:TA):TE:=fun σ H Q=>t σ H fun xs H1=>xs.length<=sizeLine /\ ∀p,H1 p=none->Q (.ref p) (upd H1 p (.tup xs))
def Znq (t:TA):TE:=fun σ H Q=>t σ H fun xs H1=>xs.length<=sizeLine /\ ∀p,H1 p=none->Q (.ref p) (upd H1 p (.lst xs))
theorem ZN {x1} (h:PA X es t):PE X (.Tuple es x1 pos) (Zne t):=by
 intro pins s σ H Q I hq
 refine wpAny_Tuple_spliced (YR (h pos pins s σ H _ I hq) fun us s1 ⟨xs,H1,I1,r,z,q⟩=>⟨by rw [<- r.length];exact z,?_⟩)
 have hf:H1 s1.heap.objs.size=none:=I1.hok.fresh (Nat.le_refl _)
 refine ⟨.ref s1.heap.objs.size,upd H1 s1.heap.objs.size (.tup xs),I1.laid (t':=s1.toks) (fun b u e=>Heap.get?_push_of_some _ e) (Nat.le_refl _) ?_,rfl,q _ hf⟩
 exact ⟨z,us,r,⟨_,Heap.get?_push_size _ rfl,rfl,_,rfl⟩⟩
theorem ZY (h:PA X es t):PE X (.List es pos) (Znq t):=by
 intro pins s σ H Q I hq
 refine wpAny_List_spliced (YR (h pos pins s σ H _ I hq) fun us s1 ⟨xs,H1,I1,r,z,q⟩=>⟨by rw [<- r.length];exact z,?_⟩)
 have hf:H1 s1.heap.objs.size=none:=I1.hok.fresh (Nat.le_refl _)
 refine ⟨.ref s1.heap.objs.size,upd H1 s1.heap.objs.size (.lst xs),I1.laid (t':=s1.toks) (fun b u e=>Heap.get?_push_of_some _ e) (Nat.le_refl _) ?_,rfl,q _ hf⟩
 exact ⟨z,us,0,r,Heap.get?_push_size _ rfl⟩
end
abbrev Sp:=List V->Hp->VK->XK->Prop
abbrev CXT:=List Env->Hp->Shared->XK->Value->Shared->Prop
structure ZdS (P:Program) (w:World) (K:PySem.W.Frag) (mg:Str->Option Value) (base:Heap) (A:Around) (outer:List Env) (s:Shared) (H:Hp):Prop where
 frames:A.frames=some outer
 mod:Mod K mg base
 bs:∀b o,base.get? b=some o->s.heap.get? b=some o/\H b=none
 bsz:base.objs.size<=s.heap.objs.size
 funs:s.heap.FunFrames base outer
 frf:∀b∈frs outer,H b=none
 hok:Uv P w H s.heap
 bare:AllBare s.gens
def CE (outer:List Env) (P:Program) (w:World) (H:Hp) (s:Shared) (Q:VK) (u:Value) (s':Shared):Prop:=
 ∃v H',s'.os=s.os/\AllBare s'.gens/\Un (frs outer) [] H H' s.heap s'.heap/\Uv P w H' s'.heap/\RelV v u/\Q v H'
def CR (CX:CXT) (outer:List Env) (P:Program) (w:World) (H:Hp) (s:Shared) (Q:VK) (E:XK) (r:Result) (s':Shared):Prop:=
 match r with
 | .ok (.ret u)=>CE outer P w H s Q u s'
 | .ok _=>False
 | .error e=>CX outer H s E e s'
structure Ys (P:Program) (w:World) (K:PySem.W.Frag) (mg:Str->Option Value) (base:Heap) (CX:CXT) (k:Nat) (f:Addr) (fd:FuncData) (ps:List Str) (sp:Sp):Prop where
 len:∀vs H Q E,sp vs H Q E->vs.length=ps.length
 run:∀(A:Around) (outer:List Env) (s:Shared) (H:Hp) (args:Args) (us:List Value) (vs:List V) (Q:VK) (E:XK),J1 k A->ZdS P w K mg base A outer s H->BindsTo s fd args (ps.zip us)->Vals vs us->sp vs H Q E ->
  codeAny (model P w) A (.call (.ref f) args) (CR CX outer P w H s Q E) s
theorem ZdS.make {P:Program}{w:World}{K:PySem.W.Frag}{mg:Str->Option Value}{base:Heap}{A:Around}{outer:List Env}{s:Shared}{H:Hp} (e:ZdS P w K mg base A outer s H) (C:Addr) (us:List Value) (kw:List (Str×Value)):
  ZdS P w K mg base (A.under (.builtin "type.__call__" ⟨.ref C::us,kw⟩)) outer s H:=⟨by first | exact e.frames | (simpa [Around.under,Code.envs,Code.isFrame,pushEnvs] using e.frames),e.mod,e.bs,e.bsz,e.funs,e.frf,e.hok,e.bare⟩
section
variable {X:Cx}{pins:List (Addr×Obj)} {σ:St}{H:Hp}{s s':Shared}
theorem Inv.env0 (I:Inv X pins σ H s):ZdS X.prog X.w X.K X.mg X.base X.A X.stack s H:=
 ⟨I.ok.frames,I.ok.mod,I.bs,Nat.le_trans I.ok.bsz I.sz,I.stack,I.stkFree,I.hok,I.bare⟩
theorem Inv.after {Q:VK}{u:Value} (I:Inv X pins σ H s) (h:CE X.stack X.prog X.w H s Q u s'):EP X pins σ Q u s':=by
 obtain ⟨v,H',os,bare,un,hok,r,q⟩:=h
 obtain ⟨hh,g,d,t,os'⟩:=s'
 obtain rfl:os'=s.os:=os
 exact ⟨v,H',I.call (h':=hh) (g':=g) (d':=d) (t':=t) (ch:=[]) un hok bare (fun b z=>absurd z (by simp)),r,q⟩
end
def ZkM (sp:Sp) (dvs:List V) (E:XK) (t:TA):TE:=fun σ H Q=>t σ H fun vs H1=>sp (vs++dvs) H1 Q E
def ZkY (C:Addr) (m:Str) (sp:Sp) (dvs:List V) (E:XK) (ta:TE) (t:TA):TE:=fun σ H Q=>ta σ H fun x H1=>∃a dx fs,x = .ref a/\H1 a=some (.ins C dx fs)/\fs.lookup m=none /\
 t σ H1 fun vs H2=>sp (x::(vs++dvs)) H2 Q E
def Zk5 (C:Addr) (sp:Sp) (dvs:List V) (E:XK) (t:TA):TE:=fun σ H Q=>t σ H fun vs H1=>∀x dx,H1 x=none->H1 dx=none->dx≠x ->
 sp (.ref x::(vs++dvs)) (upd (upd H1 dx (.own x)) x (.ins C dx [])) (fun v H2=>v = .non/\Q (.ref x) H2) E
def Binds (K:PySem.W.Frag) (fd:FuncData) (ps:List Str) (ds:List Value):Prop:=
 ∀(s:Shared) (us:List Value),K.In s.heap->(us++ds).length=ps.length->BindsTo s fd ⟨us,[]⟩ (ps.zip (us++ds))
theorem Binds.all {K:PySem.W.Frag}{fd:FuncData}{ps:List Str} (h:∀us:List Value,us.length=ps.length->bindArgs fd ⟨us,[]⟩=pure (ps.zip us)):Binds K fd ps []:=fun s us _ hl=>by
 rw [List.append_nil] at hl ⊢
 exact .of_eq (h us hl)
def Passes (CX:CXT) (X:Cx) (E:XK):Prop:=∀(pins:List (Addr×Obj)) (σ:St) (H:Hp) (s:Shared) (e:Value) (s':Shared),Inv X pins σ H s->CX X.stack H s E e s'->X.xe e s'
section
variable {X:Cx}{CX:CXT}{k:Nat}{f C:Addr}{fd:FuncData}{ps:List Str}{sp:Sp}{dvs:List V}{ds:List Value}{E:XK}{x m:Str}{p pos apos:Pos}{e o:Expr}{es:List Expr}{ta:TE}{t:TA}
theorem Zjg {pins:List (Addr×Obj)} {σ:St}{H:Hp}{s:Shared}{Q:VK}{us:List Value}{vs:List V} (F:Ys X.prog X.w X.K X.mg X.base CX k f fd ps sp) (hr:J1 k X.A) (hb:Binds X.K fd ps ds) (hd:Vals dvs ds) (hx:Passes CX X E)
  (I:Inv X pins σ H s) (r:Vals vs us) (h:sp (vs++dvs) H Q E):wpAny (model X.prog X.w) X.A (call (.ref f) us) (EP X pins σ Q) X.xe s:=by
 have r2:Vals (vs++dvs) (us++ds):=r.append hd
 have hl:(us++ds).length=ps.length:=by rw [<- r2.length];exact F.len _ _ _ _ h
 refine wpAny_call (codeAny_mono (F.run X.A X.stack s H ⟨us,[]⟩ (us++ds) (vs++dvs) Q E hr I.env0 (hb s us I.kIn hl) r2 h) fun r s' hq=>?_)
 cases r with
 | error e=>exact hx pins σ H s e s' I hq
 | ok fl=>
  cases fl with
  | ret u=>exact I.after hq
  | next=>exact False.elim hq
  | brk=>exact False.elim hq
  | cont=>exact False.elim hq
theorem Zjw (F:Ys X.prog X.w X.K X.mg X.base CX k f fd ps sp) (hr:J1 k X.A) (hg:Gl X x) (hm:X.mg x=some (.ref f)) (hk:PySem.W.keepIn X.K (.ref f)=true) (hb:Binds X.K fd ps ds) (hd:Vals dvs ds) (hx:Passes CX X E)
  (ha:PA X (e::es) t) (hdb:(x==("__debug__" : Str))=false:=by decide) (he:starEach (e::es) X.env=(false,eval e X.env)::starEach es X.env:=by rfl) (hpl:(backTo pos (starEach es X.env)).any (·.1)=false:=by rfl):
  PE X (.Call (.Name x p) (e::es) [] pos) (ZkM sp dvs E t):=by
 intro pins s σ H Q I h
 refine wpAny_Call_Name_kw (Zea I hg hm ?_ hdb)
 refine PySem.W.callWith_K (h₀:=X.base) I.ok.mod.kin hk (YR (ha pos pins s σ H _ I h) fun us s1 ⟨vs,H1,I1,r,q⟩=>⟨I1.kIn,?_⟩) he hpl
 exact Zjg F hr hb hd hx I1 r q
theorem Zko {pl:Sem Bool} (he:PE X o ta) (c:Cls X.K C) (hm:Meth X.K C m f) (F:Ys X.prog X.w X.K X.mg X.base CX k f fd ps sp) (hr:J1 k X.A) (hb:Binds X.K fd ps ds) (hd:Vals dvs ds) (hx:Passes CX X E) (ha:PA X (e::es) t)
  (hst:starEach (e::es) X.env=(false,eval e X.env)::starEach es X.env:=by rfl) (hpl:(backTo pos (starEach es X.env)).any (·.1)=false:=by rfl)
  (ht:eval (.Call (.Attribute o m apos) (e::es) [] pos) X.env=(do
   let ov <- eval o X.env
   standAt apos.atName
   let (f,first) <- holding [ov] (getMethod ov m pl)
   callWith pos f first (backTo pos (starEach (e::es) X.env)) (backToKw pos (keywordEach [] X.env))):=by rfl):
  PE X (.Call (.Attribute o m apos) (e::es) [] pos) (ZkY C m sp dvs E ta t):=by
 intro pins s σ H Q I h
 refine PySem.W.methodCall_KW (pl:=pl) (YR (he pins s σ H _ I h) fun u s1 ⟨x,H1,I1,rx,a,dx,fs,ex,ea,l,q⟩=>?_) ht
 subst ex
 obtain rfl:u=Value.ref a:=rx
 refine Zfe I1 ea c hm l ?_
 refine PySem.W.callWith_K (first:=[.ref a]) (h₀:=X.base) I.ok.mod.kin hm.kp (YR (ha pos pins s1 σ H1 _ I1 q) fun us s2 ⟨vs,H2,I2,r,q2⟩=>⟨I2.kIn,?_⟩) hst hpl
 exact Zjg (us:=.ref a::us) (vs:=.ref a::vs) F hr hb hd hx I2 (.cons rfl r) q2
structure Mk (K:PySem.W.Frag) (C f:Addr):Prop where
 makes:PySem.W.makesIn K C=true
 init:PySem.W.findIn K (.ref C) "__init__" = some (some (.ref f))
 fn:PySem.W.isFn K (.ref f)=true
 kp:PySem.W.keepIn K (.ref C)=true
theorem Zin {pins:List (Addr×Obj)} {σ:St}{H:Hp}{s:Shared}{Q:VK}{us:List Value}{vs:List V} (M:Mk X.K C f) (F:Ys X.prog X.w X.K X.mg X.base CX k f fd ps sp) (hr:J1 (k+1) X.A) (hb:Binds X.K fd ps ds) (hd:Vals dvs ds)
  (hx:Passes CX X E) (I:Inv X pins σ H s) (r:Vals vs us)
  (h:∀x dx,H x=none->H dx=none->dx≠x->sp (.ref x::(vs++dvs)) (upd (upd H dx (.own x)) x (.ins C dx [])) (fun v H2=>v = .non/\Q (.ref x) H2) E):
  wpAny (model X.prog X.w) X.A (call (.ref C) us) (EP X pins σ Q) X.xe s:=by
 have hq:=h (s.heap.objs.size+1) s.heap.objs.size (I.hok.fresh (Nat.le_succ _)) (I.hok.fresh (Nat.le_refl _)) (Nat.ne_of_lt (Nat.lt_succ_self _))
 have I2:=Inv.made (C:=C) I
 have r2:Vals (V.ref (s.heap.objs.size+1)::(vs++dvs)) (Value.ref (s.heap.objs.size+1)::(us++ds)):=.cons rfl (r.append hd)
 have hl:(Value.ref (s.heap.objs.size+1)::us++ds).length=ps.length:=by
  have e:=r2.length
  rw [F.len _ _ _ _ hq] at e
  exact e.symm
 refine wpAny_call (Zig (f:=f) I.kIn M.makes M.init (beq_iff_eq.mp M.fn) (codeAny_mono (F.run _ X.stack _ _ ⟨Value.ref (s.heap.objs.size+1)::us,[]⟩ (Value.ref (s.heap.objs.size+1)::(us++ds)) _ _ E (hr.make C us [])
  (I2.env0.make C us []) (hb _ (Value.ref (s.heap.objs.size+1)::us) I2.kIn hl) r2 hq) fun r s' hq'=>?_))
 cases r with
 | error e=>exact hx pins σ _ _ e s' I2 hq'
 | ok fl=>
  cases fl with
  | ret u=>
   obtain ⟨v,H',I3,rv,ev,q3⟩:=I2.after hq'
   subst ev
   exact ⟨rv,⟨V.ref (s.heap.objs.size+1),H',I3,rfl,q3⟩⟩
  | next=>exact False.elim hq'
  | brk=>exact False.elim hq'
  | cont=>exact False.elim hq'
theorem Zkp (M:Mk X.K C f) (F:Ys X.prog X.w X.K X.mg X.base CX k f fd ps sp) (hr:J1 (k+1) X.A) (hg:Gl X x) (hm:X.mg x=some (.ref C)) (hb:Binds X.K fd ps ds) (hd:Vals dvs ds) (hx:Passes CX X E)
  (ha:PA X (e::es) t) (hdb:(x==("__debug__" : Str))=false:=by decide) (he:starEach (e::es) X.env=(false,eval e X.env)::starEach es X.env:=by rfl) (hpl:(backTo pos (starEach es X.env)).any (·.1)=false:=by rfl):
  PE X (.Call (.Name x p) (e::es) [] pos) (Zk5 C sp dvs E t):=by
 intro pins s σ H Q I h
 refine wpAny_Call_Name_kw (Zea I hg hm ?_ hdb)
 refine PySem.W.callWith_K (h₀:=X.base) I.ok.mod.kin M.kp (YR (ha pos pins s σ H _ I h) fun us s1 ⟨vs,H1,I1,r,q⟩=>⟨I1.kIn,?_⟩) he hpl
 exact Zin M F hr hb hd hx I1 r q
end
section
variable {X:Cx}{CX:CXT}{k:Nat}{f C:Addr}{fd:FuncData}{ps ks:List Str}{sp:Sp}{E:XK}{x m:Str}{p pos apos kpos:Pos}{e o:Expr}{es:List Expr}{kws:List Keyword}{te ta:TE}{t tk:TA}{nm:Option Str}
structure Znv (K:PySem.W.Frag) (fd:FuncData) (ps ks:List Str) (g:List Value->List Value->List Value) (gV:List V->List V->List V):Prop where
 to:∀(s:Shared) (us ws:List Value),K.In s.heap->(g us ws).length=ps.length->BindsTo s fd ⟨us,ks.zip ws⟩ (ps.zip (g us ws))
 rel:∀{vs:List V}{us:List Value}{zs:List V}{ws:List Value},Vals vs us->Vals zs ws->Vals (gV vs zs) (g us ws)
variable {g:List Value->List Value->List Value}{gV:List V->List V->List V}
end
structure ZH (N P:List Str) (sc:Scope):Prop where
 kind:sc.kind = .function:=by rfl
 co:sc.isCoroutine=false:=by rfl
 gen:sc.isGenerator=false:=by rfl
 nd:N.Nodup:=by decide +kernel
 pre:N.take P.length=P:=by rfl
 par:∀x∈P,sc.names.lookup x=some .local∨sc.names.lookup x=some .cell:=by decide +kernel
 nofree:∀y∈sc.names,y.2 ≠ .free:=by decide +kernel
theorem ZcY {kindOf:Str->Option NameKind}{x:Str}:∀{binds:List (Str×Value)}{m:Str->Option Value},(∀v,(x,v)∉binds)->bindL kindOf binds m x=m x
 | [],_,_=>rfl
 | (n,v)::r,m,h=>by
  unfold bindL
  rw [ZcY fun w hw=>h w (List.mem_cons_of_mem _ hw)]
  split
  ·have:x≠n:=by rintro rfl;exact h v List.mem_cons_self
   simp [this]
  ·rfl
theorem Zdh {kindOf:Str->Option NameKind}{x:Str}:∀{binds:List (Str×Value)}{m:Str->Option Value},(∀v,(x,v)∉binds)->bindC kindOf binds m x=m x
 | [],_,_=>rfl
 | (n,v)::r,m,h=>by
  unfold bindC
  rw [Zdh fun w hw=>h w (List.mem_cons_of_mem _ hw)]
  split
  ·rfl
  ·have:x≠n:=by rintro rfl;exact h v List.mem_cons_self
   simp [this]
theorem Zdk {kindOf:Str->Option NameKind}{x:Str}{v:Value}:∀{P:List Str}{vs:List Value}{i:Nat}{m:Str->Option Value},P.Nodup->P[i]? = some x->vs[i]? = some v->kindOf x=some .local ->
  bindL kindOf (P.zip vs) m x=some v
 | [],_,_,_,_,h,_,_=>by simp at h
 | _::_,[],_,_,_,_,h,_=>by simp at h
 | p::P,w::vs,0,m,nd,h1,h2,hk=>by
  simp at h1 h2;subst h1;subst h2
  show bindL kindOf ((p,w)::P.zip vs) m p=_
  unfold bindL
  rw [ZcY fun v hv=>(List.nodup_cons.mp nd).1 (List.of_mem_zip hv).1,if_pos hk]
  simp
 | p::P,w::vs,i+1,m,nd,h1,h2,hk=>by
  show bindL kindOf ((p,w)::P.zip vs) m x=_
  unfold bindL
  exact Zdk (i:=i) (List.nodup_cons.mp nd).2 (by simpa using h1) (by simpa using h2) hk
theorem Zc3 {kindOf:Str->Option NameKind}{x:Str}{v:Value}:∀{P:List Str}{vs:List Value}{i:Nat}{m:Str->Option Value},P.Nodup->P[i]? = some x->vs[i]? = some v->kindOf x≠some .local ->
  bindC kindOf (P.zip vs) m x=some v
 | [],_,_,_,_,h,_,_=>by simp at h
 | _::_,[],_,_,_,_,h,_=>by simp at h
 | p::P,w::vs,0,m,nd,h1,h2,hk=>by
  simp at h1 h2;subst h1;subst h2
  show bindC kindOf ((p,w)::P.zip vs) m p=_
  unfold bindC
  rw [Zdh fun v hv=>(List.nodup_cons.mp nd).1 (List.of_mem_zip hv).1,if_neg hk]
  simp
 | p::P,w::vs,i+1,m,nd,h1,h2,hk=>by
  show bindC kindOf ((p,w)::P.zip vs) m x=_
  unfold bindC
  exact Zc3 (i:=i) (List.nodup_cons.mp nd).2 (by simpa using h1) (by simpa using h2) hk
def start (N:List Str) (vs:List V):St:=vs.map some++List.replicate (N.length-vs.length) none
def Zg7 (CX:CXT) (P:Program) (w:World) (K:PySem.W.Frag) (mg:Str->Option Value) (base:Heap) (N:List Str) (qual:Str) (scope:Scope) (f:Addr) (cd:Value) (A:Around) (outer:List Env) (s:Shared) (H:Hp) (E:XK):Cx where
 prog:=P
 w:=w
 K:=K
 mg:=mg
 base:=base
 A:=A.deeper (envOfC qual scope s.heap.objs.size f cd)
 N:=N
 s₀:=s
 H₀:=H
 env:=envOfC qual scope s.heap.objs.size f cd
 outer:=outer
 stack:=envOfC qual scope s.heap.objs.size f cd::outer
 ex:=[]
 calm:=true
 fn:=fun _=>true
 pn:=[]
 xe:=fun e s'=>wpAny (model P w) (A.deeper (envOfC qual scope s.heap.objs.size f cd)) (leaving (envOfC qual scope s.heap.objs.size f cd) e) (fun _ s''=>CX outer H s E e s'') (fun e' s''=>CX outer H s E e' s'') s'
theorem ZeY {sc:Scope}{n:Nat}{x:Str} (h:sc.names.lookup x=some .cell):∃c,(cellsFrom n sc.names []).lookup x=some c:=by
 have q:=PySem.W.cellsFrom_some sc.names n [] (.inl h)
 exact Option.isSome_iff_exists.mp q
theorem Zhn {CX:CXT}{P:Program}{w:World}{K:PySem.W.Frag}{mg:Str->Option Value}{base:Heap}{N ps:List Str}{qual:Str}{scope:Scope}{f:Addr}{cd:Value}{A:Around}{outer:List Env}{s s1:Shared}{H:Hp}{E:XK}{us:List Value}{vs:List V}
  (S:ZH N ps scope) (hd:A.handled=none) (e0:ZdS P w K mg base A outer s H) (hl:vs.length=ps.length) (r:Vals vs us)
  (x:InCallC s s.heap.objs.size (bindL (envOfC qual scope s.heap.objs.size f cd).kindOf (ps.zip us) fun _=>none) (cellsFrom (s.heap.objs.size+1) scope.names []) (bindC (envOfC qual scope s.heap.objs.size f cd).kindOf (ps.zip us) fun _=>none) s1):
  Inv (Zg7 CX P w K mg base N qual scope f cd A outer s H E) [] (start N vs) H s1:=by
 have hpl:ps.length<=N.length:=by have:=congrArg List.length S.pre;rw [List.length_take] at this;lia
 obtain ⟨h1,tk,rfl,hk⟩:=x.done
 have noA:∀b:Addr,b∉(Zg7 CX P w K mg base N qual scope f cd A outer s H E).ex:=fun b z=>absurd (show b∈([]:List Addr) from z) (by simp)
 refine ⟨⟨e0.mod,S.kind,rfl,rfl,Nat.le_refl _,fun y z c h1 h2=>?_,fun y hy=>?_,fun y c _ h=>?_,fun _=>hd,Around.frames_deeper e0.frames,.inr ⟨rfl,rfl⟩,fun b z=>absurd z (noA b),e0.bs,e0.bsz,fun b _ _=>noA b,fun b z=>absurd z (noA b),e0.funs,e0.frf⟩,
  rfl,e0.bare,Un.kept hk,⟨_,x.toInCall.ns,fun i y v h1 h2 h3=>?_⟩,fun y c h=>⟨_,x.cell y c h⟩,e0.hok.fresh (Nat.le_refl _),fun y c h=>?_,fun p hp=>absurd (show p∈([]:List (Addr×Obj)) from hp) (by simp),e0.hok.kept hk,?_⟩
 ·exact name_of_addr x.apart (PySem.mem_of_lookup h1) (PySem.mem_of_lookup h2)
 ·have hy:scope.names.lookup y=some .cell∨scope.names.lookup y=some .free:=hy
  rcases hy with hy | hy
  ·exact ZeY hy
  ·exact absurd rfl (S.nofree _ (PySem.mem_of_lookup hy))
 ·exact Nat.le_of_lt (x.above y c (PySem.mem_of_lookup h))
 ·have hi:i<vs.length:=by
   unfold start at h2
   by_cases hi:i<vs.length
   ·exact hi
   ·rw [List.getElem?_append_right (by simpa using hi)] at h2
    rw [List.getElem?_replicate] at h2
    split at h2<;>cases h2
  have ha:vs[i]? = some v:=by
   unfold start at h2
   rw [List.getElem?_append_left (by simpa using hi),List.getElem?_map] at h2
   cases e:vs[i]? with
   | none=>rw [e] at h2;cases h2
   | some a=>rw [e] at h2;cases h2;rfl
  obtain ⟨u,hu,rv⟩:=r.get ha
  have hp:ps[i]? = some y:=by
   rw [<- S.pre,List.getElem?_take_of_lt (by lia)];exact h1
  have ndP:ps.Nodup:=by rw [<- S.pre];exact S.nd.sublist (List.take_sublist _ _)
  refine ⟨u,rv,?_⟩
  rcases S.par y (List.mem_of_getElem? hp) with k | k
  ·exact .inl ⟨k,Zdk ndP hp hu k⟩
  ·obtain ⟨c,e⟩:=ZeY (n:=s.heap.objs.size+1) k
   refine .inr ⟨.inl k,c,e,?_⟩
   have q:=x.cell y c e
   rw [Zc3 ndP hp hu (by show scope.names.lookup y≠_;rw [k];decide)] at q
   exact q
 ·exact e0.hok.fresh (Nat.le_of_lt (x.above y c (PySem.mem_of_lookup h)))
 ·unfold start
  show _=N.length
  rw [List.length_append,List.length_map,List.length_replicate]
  lia
theorem Zmy {CX:CXT}{P:Program}{w:World}{K:PySem.W.Frag}{mg:Str->Option Value}{base:Heap}{k:Nat}{f:Addr}{name qual:Str}{params:Arguments}{body:List Stmt}{scope:Scope}{dV kV doc pm cdv ct oc:Value}{an od:Option Addr}
  {osl:Array (Option Value)}{N ps:List Str}{sp:Sp} (lk:K.lookup f=some ⟨oc,od,.func (PySem.W.fnOf name qual params body scope dV kV doc pm an cdv ct),osl⟩) (hcd:PySem.W.codeIn K cdv qual=true) (S:ZH N ps scope)
  (len:∀vs H Q E,sp vs H Q E->vs.length=ps.length)
  (hbody:∀(A:Around) (outer:List Env) (s:Shared) (H:Hp) (vs:List V) (Q:VK) (E:XK),J1 k (A.deeper (envOfC qual scope s.heap.objs.size f cdv))->sp vs H Q E ->
   ∃t,PSs (Zg7 CX P w K mg base N qual scope f cdv A outer s H E) body t/\t { nx:=fun _ H'=>Q .non H',rt:=Q } (start N vs) H):
  Ys P w K mg base CX (k+1) f (PySem.W.fnOf name qual params body scope dV kV doc pm an cdv ct) ps sp:=by
 refine ⟨len,fun A outer s H args us vs Q E hr e0 hb r hsp=>?_⟩
 have hl:=len _ _ _ _ hsp
 have KX:K.In s.heap:=e0.mod.kin.keeps fun b o e=>(e0.bs b o e).1
 have lim:s.heap.NoLimit:=e0.mod.nolimit.keeps fun b o e=>(e0.bs b o e).1
 have hkind:∀y∈ps.zip us,scope.names.lookup y.1=some .local∨(scope.names.lookup y.1=some .cell/\((cellsFrom (s.heap.objs.size+1) scope.names []).lookup y.1).isSome=true):=fun ⟨n,v⟩ hy=>by
  rcases S.par n (List.of_mem_zip hy).1 with q | q
  ·exact .inl q
  ·exact .inr ⟨q,PySem.W.cellsFrom_some _ _ _ (.inl q)⟩
 refine codeAny_call_function hr.depth (KX _ _ lk) rfl S.co S.gen rfl (PySem.W.codeRec_of KX hcd) (hb _ _ _ _ ?_)
 refine wpAny_newFunctionEnv_cells S.kind hkind fun env he s1 x=>?_
 subst he
 refine ⟨lim.keeps x.toInCall.keep,codeAny_func ?_⟩
 obtain ⟨t,ht,hq⟩:=hbody A outer s H vs Q E (hr.deeper _) hsp
 have I:Inv (Zg7 CX P w K mg base N qual scope f cdv A outer s H E) [] (start N vs) H s1:=Zhn S hr.hd e0 hl r x
 refine wpAny_mono (ht [] s1 (start N vs) H _ I hq) (fun fl s' hs=>?_) fun e s' hs=>hs
 have fin:∀{σ':St}{H':Hp}{v:V}{u:Value},Inv (Zg7 CX P w K mg base N qual scope f cdv A outer s H E) [] σ' H' s'->RelV v u->Q v H'->CE outer P w H s Q u s':=
  fun {σ' H' v u} J rv q=>⟨v,H',J.os,J.bare,J.base,J.hok,rv,q⟩
 cases fl with
 | ret u=>
  obtain ⟨v,σ',H',J,rv,q⟩:=hs
  exact fin J rv q
 | next=>
  obtain ⟨σ',H',J,q⟩:=hs
  exact fin (v:=V.non) (u:=Value.none) J rfl q
 | brk=>
  obtain ⟨_,_,_,q⟩:=hs
  exact False.elim q
 | cont=>
  obtain ⟨_,_,_,q⟩:=hs
  exact False.elim q
section
variable {X:Cx}{x:Str}{p pos:Pos}{e:Expr}{es:List Expr}{t:TA}{id T:String}{r:List V->Hp->VK->Prop}
def tCB (r:List V->Hp->VK->Prop) (t:TA):TE:=fun σ H Q=>t σ H fun vs H1=>r vs H1 Q
theorem ZE (hc:JD X (.builtin id) r) (hg:Gl X x) (hm:X.mg x=none) (hv:bootBuiltins x=some (.builtin id)) (ha:PA X (e::es) t) (hn:x ≠ "__name__" := by decide) (hdb:(x==("__debug__" : Str))=false:=by decide)
  (he:starEach (e::es) X.env=(false,eval e X.env)::starEach es X.env:=by rfl) (hpl:(backTo pos (starEach es X.env)).any (·.1)=false:=by rfl):PE X (.Call (.Name x p) (e::es) [] pos) (tCB r t):=by
 intro pins s σ H Q I h
 refine wpAny_Call_Name_kw (GI I hg hm hv ?_ hn hdb)
 exact PyProof.Rows.callWith_builtin1 (YR (ha pos pins s σ H _ I h) fun us s1 ⟨vs,H1,I1,r1,q1⟩=>hc pins s1 σ H1 vs us Q I1 r1 q1) he hpl
theorem Yf (hc:JD X (.type T) r) (hg:Gl X x) (hm:X.mg x=none) (hv:bootBuiltins x=some (.type T)) (ha:PA X (e::es) t) (hn:x ≠ "__name__" := by decide) (hdb:(x==("__debug__" : Str))=false:=by decide)
  (he:starEach (e::es) X.env=(false,eval e X.env)::starEach es X.env:=by rfl) (hpl:(backTo pos (starEach es X.env)).any (·.1)=false:=by rfl):PE X (.Call (.Name x p) (e::es) [] pos) (tCB r t):=by
 intro pins s σ H Q I h
 refine wpAny_Call_Name_kw (GI I hg hm hv ?_ hn hdb)
 exact PyProof.Rows.callWith_type1 (YR (ha pos pins s σ H _ I h) fun us s1 ⟨vs,H1,I1,r1,q1⟩=>hc pins s1 σ H1 vs us Q I1 r1 q1) he hpl
end
end L2
namespace HT
open PySem PyProof.Rows
def lexLt:List Int->List Int->Bool
 | [],[]=>false
 | [],_::_=>true
 | _::_,[]=>false
 | x::xs,y::ys=>if x=y then lexLt xs ys else decide (x<y)
section
open PySem.SeqAt
open PySem.AutoSeq1 (wpAny_loadPart')
open PySem.MeetsSeq PySem.MeetsSeq2 PySem.MeetsSeq3
end
section
variable {prog:Program}{w:World}{A:Around}{E:Value->Shared->Prop}{s:Shared}
def sIx (n d:Nat):Option Int->Nat
 | none=>d
 | some v=>if v<0 then (v+(n:Int)).toNat else min v.toNat n
theorem Gw (n d:Nat):sIx n d none=d:=rfl
theorem Gf (n d k:Nat):sIx n d (some (k:Int))=min k n:=by
 show (if (k:Int)<0 then ((k:Int)+(n:Int)).toNat else min (k:Int).toNat n)=min k n
 rw [if_neg (by lia),Int.toNat_natCast]
end
end HT
namespace L2
open PySem PySem.Spec PyProof.Rows
abbrev TO:=St->Hp->(Option Int->Hp->Prop)->Prop
def PO (X:Cx) (e:Option Expr) (t:TO):Prop:=
 ∀(pins:List (Addr×Obj)) (s:Shared) (σ:St) (H:Hp) (Q:Option Int->Hp->Prop),Inv X pins σ H s->t σ H Q ->
  wpAny (model X.prog X.w) X.A (evalPart e X.env) (fun u s'=>∃o H',Inv X pins σ H' s'/\IsPart u o/\Q o H') X.xe s
def ZjY:TO:=fun _ H Q=>Q none H
def ZmT (t:TE):TO:=fun σ H Q=>t σ H fun x H1=>∃i,x = .int i/\Q (some i) H1
section
variable {X:Cx}{e:Expr}{te:TE}{lo hi:Option Expr}{tl th:TO}{pos p2:Pos}
theorem JJ:PO X none ZjY:=by
 intro pins s σ H Q I h
 rw [evalPart_none]
 exact wpAny_pure ⟨none,H,I,.none,h⟩
theorem YE (h:PE X e te):PO X (some e) (ZmT te):=by
 intro pins s σ H Q I hw
 rw [evalPart_some]
 refine YR (h pins s σ H _ I hw) fun u s1 ⟨x,H1,I1,r1,q1⟩=>?_
 obtain ⟨i,rfl,q⟩:=q1
 obtain ⟨t,rfl⟩:=r1
 exact ⟨some i,H1,I1,.int i t,q⟩
def SlR (X:Cx) (r:V->Option Int->Option Int->Hp->VK->Prop):Prop:=
 ∀(pins:List (Addr×Obj)) (s:Shared) (σ:St) (H:Hp) (x:V) (v vl vu:Value) (lo hi:Option Int) (sl:Addr) (Q:VK),Inv X pins σ H s->RelV x v->s.heap.IsSliceOf sl vl vu .none->IsPart vl lo->IsPart vu hi->r x lo hi H Q ->
  ∃T id,typeLookup (.type T) "__getitem__" = pure (some (.builtin id))/\s.TypeIs v T/\wpAny (model X.prog X.w) X.A (getItem v (.ref sl)) (EP X pins σ Q) X.xe s
def tSl (r:V->Option Int->Option Int->Hp->VK->Prop) (te:TE) (tl th:TO):TE:=fun σ H Q=>te σ H fun x H1=>tl σ H1 fun l H2=>th σ H2 fun u H3=>r x l u H3 Q
theorem YB {r:V->Option Int->Option Int->Hp->VK->Prop} (hr:SlR X r) (he:PE X e te) (hl:PO X lo tl) (hu:PO X hi th):PE X (.Subscript e (.Slice lo hi none p2) pos) (tSl r te tl th):=by
 intro pins s σ H Q I h
 refine Subscript_ (YR (he pins s σ H _ I h) fun v s1 ⟨x,H1,I1,r1,q1⟩=>?_)
 refine wpAny_Slice (YR (hl pins s1 σ H1 _ I1 q1) fun vl s2 ⟨l,H2,I2,pl,q2⟩=>YR (hu pins s2 σ H2 _ I2 q2) fun vu s3 ⟨u,H3,I3,pu,q3⟩=>?_)
 rw [evalPart_none]
 refine wpAny_pure ?_
 have I4:Inv X pins σ H3 { s3 with heap:=s3.heap.push { cls:=.type "slice", data:=.fields #[vl,vu,.none] } }:=I3.kept (t':=s3.toks) fun b ob q=>Heap.get?_push_of_some _ q
 obtain ⟨T,id,hT,ht,hg⟩:=hr pins { s3 with heap:=s3.heap.push { cls:=.type "slice", data:=.fields #[vl,vu,.none] } } σ H3 x v vl vu l u s3.heap.objs.size Q I4 r1 (Heap.IsSliceOf.new ..) pl pu q3
 show wpAny (model X.prog X.w) X.A (subscriptTail e (.Slice lo hi none p2) v (.ref s3.heap.objs.size)) (EP X pins σ Q) X.xe { s3 with heap:=s3.heap.push { cls:=.type "slice", data:=.fields #[vl,vu,.none] } }
 exact tail_any (ops:=[.ref s3.heap.objs.size,v]) ht hT hg (by with_unfolding_all rfl)
def WQ (xs:List V) (lo hi:Option Int):List V:=(xs.drop (HT.sIx xs.length 0 lo)).take (HT.sIx xs.length xs.length hi-HT.sIx xs.length 0 lo)
theorem Zen (xs:List V) (lo hi:Option Int):(WQ xs lo hi).length<=xs.length:=by
 unfold WQ
 rw [List.length_take,List.length_drop]
 lia
end
def ixN (n:Nat) (i:Int):Option Nat:=if 0<=i then (if i<n then some i.toNat else none) else if -(n:Int)<=i then some (i+n).toNat else none
def atI {α:Type} (xs:List α) (i:Int):Option α:=(ixN xs.length i).bind fun j=>xs[j]?
theorem ZgD {n:Nat}{i:Int}{j:Nat} (h:ixN n i=some j):seqIndex? i n=some j/\j<n /\ -(n:Int)<=i/\i<n:=by
 unfold ixN at h
 by_cases h0:0<=i
 ·rw [if_pos h0] at h
  by_cases h1:i<n
  ·rw [if_pos h1] at h
   have e:i.toNat=j:=Option.some.inj h
   exact ⟨by rw [seqIndex_of h0 h1,e],by lia,by lia,h1⟩
  ·rw [if_neg h1] at h;cases h
 ·rw [if_neg h0] at h
  by_cases h1 : -(n:Int)<=i
  ·rw [if_pos h1] at h
   have e:(i+n).toNat=j:=Option.some.inj h
   exact ⟨by rw [seqIndex_neg (by lia) h1,e],by lia,h1,by lia⟩
  ·rw [if_neg h1] at h;cases h
theorem Zga {α:Type}{xs:List α}{i:Int}{v:α} (h:atI xs i=some v):∃j,seqIndex? i xs.length=some j/\xs[j]? = some v/\j<xs.length /\ -(xs.length:Int)<=i/\i<xs.length:=by
 unfold atI at h
 cases e:ixN xs.length i with
 | none=>rw [e] at h;cases h
 | some j=>
  rw [e] at h
  obtain ⟨h1,h2,h3,h4⟩:=ZgD e
  exact ⟨j,h1,h,h2,h3,h4⟩
theorem Zp {α:Type}{xs:List α}{j:Nat}{v:α} (h:xs[j]? = some v):atI xs (j:Int)=some v:=by
 have hj:j<xs.length:=(List.getElem?_eq_some_iff.mp h).1
 have e:ixN xs.length (j:Int)=some j:=by
  unfold ixN
  rw [if_pos (by lia),if_pos (by lia)];simp
 unfold atI;rw [e];exact h
theorem Ziy {α:Type} (xs:List α) (v:α):atI (xs ++ [v]) (-1)=some v:=by
 have hl:(xs ++ [v]).length=xs.length+1:=by simp
 have e:ixN (xs ++ [v]).length (-1)=some xs.length:=by
  unfold ixN
  rw [hl,if_neg (by decide),if_pos (by lia)]
  congr 1
  lia
 unfold atI
 rw [e]
 show (xs ++ [v])[xs.length]? = some v
 simp
def ZjO (b:Expr):Prop:=∀o i,subscripted b false o i=operate [o,i] (getItem o i)
def IxR (X:Cx) (r:R2):Prop:=
 ∀(value slice:Expr) (pins:List (Addr×Obj)) (s:Shared) (σ:St) (H:Hp) (x y:V) (v u:Value) (Q:VK),Inv X pins σ H s->RelV x v->RelV y u->r x y H Q ->
  subscripted slice false v u=operate [v,u] (getItem v u)->wpAny (model X.prog X.w) X.A (subscriptTail value slice v u) (EP X pins σ Q) X.xe s
def MtR (X:Cx) (id:String) (r:V->List V->Hp->VK->Prop):Prop:=
 ∀(pins:List (Addr×Obj)) (s:Shared) (σ:St) (H:Hp) (x:V) (xs:List V) (v:Value) (us:List Value) (Q:VK),Inv X pins σ H s->RelV x v->Vals xs us->r x xs H Q ->
  wpAny (model X.prog X.w) X.A (call (.builtin id) (v::us)) (EP X pins σ Q) X.xe s
section
variable {X:Cx}{a b:Expr}{ta tb:TE}{pos:Pos}
theorem Zx {r:R2} (hr:IxR X r) (ha:PE X a ta) (hb:PE X b tb) (hs:ZjO b):PE X (.Subscript a b pos) (tOp r ta tb):=by
 intro pins s σ H Q I h
 exact Subscript_ (Zla ha hb I h fun v u s2 x y H2 I2 rx ry q=>hr a b pins s2 σ H2 x y v u Q I2 rx ry q (hs _ _))
def Zkk (K:PySem.W.Frag):R2:=fun x y H Q=>∃p xs i v,x = .ref p/\y = .int i/\Zu K H p xs/\atI xs i=some v/\Q v H
def ZmU (K:PySem.W.Frag):R2:=fun x y H Q=>∃p xs i v,x = .ref p/\y = .int i/\JZ K H p xs/\atI xs i=some v/\Q v H
theorem ZkK:IxR X (Zkk X.K):=by
 intro value slice pins s σ H x y v u Q I rx ry h hs
 obtain ⟨p,xs,i,z,rfl,rfl,hq,he,q⟩:=h
 cases rx
 obtain ⟨t,rfl⟩:=ry
 obtain ⟨its,r,pl,hz⟩:=I.list hq
 obtain ⟨j,h1,h2,h3,h4,h5⟩:=Zga he
 obtain ⟨w,ew,rw'⟩:=r.get h2
 have hl:=r.length
 have hn:=Zbj
 have fin:EP X pins σ Q w s:=⟨z,H,I,rw',q⟩
 by_cases h0:0<=i
 ·have hj:i.toNat=j:=by
   rw [seqIndex_of h0 h5] at h1
   exact Option.some.inj h1
  exact item_listR pl.isList h0 (by lia) (by rw [hj];simpa using ew) fin hs
 ·have hj:(i+(its.toArray.size:Int)).toNat=j:=by
   rw [seqIndex_neg (by lia) h4] at h1
   rw [List.size_toArray,<- hl]
   exact Option.some.inj h1
  exact subscriptTail_builtinR (x:=w) pl.isList.typeIs slot_list_getitem.lookup
   (wpAny_getItem_list_neg (Q:=fun r s'=>r=w/\EP X pins σ Q r s') pl.isList (by lia) (by rw [List.size_toArray]<;>lia) (by lia) (by rw [hj];simpa using ew) ⟨rfl,fin⟩) hs
theorem Zle:IxR X (ZmU X.K):=by
 intro value slice pins s σ H x y v u Q I rx ry h hs
 obtain ⟨p,xs,i,z,rfl,rfl,hq,he,q⟩:=h
 cases rx
 obtain ⟨t,rfl⟩:=ry
 obtain ⟨its,r,pl,hz⟩:=I.tuple hq
 obtain ⟨j,h1,h2,h3,h4,h5⟩:=Zga he
 obtain ⟨w,ew,rw'⟩:=r.get h2
 have hl:=r.length
 have hn:=Zbj
 have fin:EP X pins σ Q w s:=⟨z,H,I,rw',q⟩
 exact subscriptTail_builtinR (x:=w) pl.typeIs slot_tuple_getitem.lookup
  (getItem_tuple (j:=j) (Q:=fun r s'=>r=w/\EP X pins σ Q r s') pl (by lia) (by lia) (by rw [List.size_toArray,<- hl];exact h1) (by simpa using ew) ⟨rfl,fin⟩) hs
theorem Zft (its:List Value) (n j:Nat) (u:Value):Obj.mapSeq (·.setIfInBounds j u) { cls:=.type "list", data:=.seq its.toArray n } = { cls:=.type "list", data:=.seq (its.set j u).toArray n }:=by
 simp [Obj.mapSeq]
theorem Inv.lst {pins:List (Addr×Obj)} {σ:St}{H:Hp}{s:Shared}{p:Addr}{xs:List V} (I:Inv X pins σ H s) (h:H p=some (.lst xs)):
  ∃(its:List Value) (n:Nat),Vals xs its/\s.heap.get? p=some { cls:=.type "list", data:=.seq its.toArray n } /\ xs.length<=sizeLine:=by
 obtain ⟨z,its,n,r,e⟩:=I.hok p _ h
 exact ⟨its,n,r,e,z⟩
theorem Inv.lstUpd {pins:List (Addr×Obj)} {σ:St}{H:Hp}{s:Shared}{p:Addr}{xs ys:List V}{its its':List Value}{n n':Nat}{f:Obj->Obj} (I:Inv X pins σ H s) (h:H p=some (.lst xs))
  (ho:s.heap.get? p=some { cls:=.type "list", data:=.seq its.toArray n }) (hf:f { cls:=.type "list", data:=.seq its.toArray n } = { cls:=.type "list", data:=.seq its'.toArray n' }) (r:Vals ys its') (hz:ys.length<=sizeLine) (t:Nat):
  Inv X pins σ (upd H p (.lst ys)) { s with heap:=s.heap.update p f,toks:=t }:=by
 have e:(s.heap.update p f).get? p=some { cls:=.type "list", data:=.seq its'.toArray n' }:=by
  rw [Heap.get?_update_self f ho (by rw [hf]<;>rfl),hf]
 refine I.write (x:=p) (e:=p) (by rw [h];trivial) (.inl rfl) (fun b u hb q=>(Heap.get?_update_other _ _ (Ne.symm hb)).trans q) ⟨_,e⟩ ?_
 exact ⟨hz,its',n',r,e⟩
def ZmY:V->V->V->Hp->(Hp->Prop)->Prop:=fun o i v H Q=>∃p xs k j,o = .ref p/\i = .int k/\H p=some (.lst xs)/\ixN xs.length k=some j/\Q (upd H p (.lst (xs.set j v)))
theorem set_list:ZjB X ZmY:=by
 intro pins s σ H o i v ov iv u Q I ro ri rv h
 obtain ⟨p,xs,k,j,rfl,rfl,hp,hj,q⟩:=h
 cases ro
 obtain ⟨t,rfl⟩:=ri
 obtain ⟨its,n,r,ho,hz⟩:=I.lst hp
 obtain ⟨h1,h2,h3,h4⟩:=ZgD hj
 have hl:=r.length
 have hn:=Zbj
 have I':Inv X pins σ (upd H p (.lst (xs.set j v))) { s with heap:=s.heap.update p (Obj.mapSeq (·.setIfInBounds j u)) }:=
  I.lstUpd hp ho (Zft its n j u) (r.set rv j) (by rw [List.length_set];exact hz) s.toks
 by_cases h0:0<=k
 ·have hk:k.toNat=j:=by
   rw [seqIndex_of h0 h4] at h1
   exact Option.some.inj h1
  exact PySem.W.ki_setAt ho h0 (by lia) (by rw [List.size_toArray,<- hl];exact h4) (by rw [hk];exact ⟨_,I',q⟩)
 ·have hk:(k+(its.toArray.size:Int)).toNat=j:=by
   rw [seqIndex_neg (by lia) h3] at h1
   rw [List.size_toArray,<- hl]
   exact Option.some.inj h1
  exact PySem.W.ki_setBack ho (by lia) (by rw [List.size_toArray,<- hl];exact h3) (by lia) (by rw [hk];exact ⟨_,I',q⟩)
theorem ZdO (lo hi:Option Int) (n:Nat):(sliceBounds lo hi none n).1=((HT.sIx n 0 lo:Nat):Int)/\(sliceBounds lo hi none n).2.1=((HT.sIx n n hi:Nat):Int)/\(sliceBounds lo hi none n).2.2=1:=by
 refine ⟨?_,?_,rfl⟩
 ·cases lo with
  | none=>simp [sliceBounds,HT.sIx]
  | some i=>
   simp only [sliceBounds,HT.sIx,Option.getD_none,show (1:Int)>0 by decide,if_true]
   by_cases h:i<0
   ·simp only [h,if_true]<;>lia
   ·simp only [h,if_false]<;>lia
 ·cases hi with
  | none=>simp [sliceBounds,HT.sIx]
  | some i=>
   simp only [sliceBounds,HT.sIx,Option.getD_none,show (1:Int)>0 by decide,if_true]
   by_cases h:i<0
   ·simp only [h,if_true]<;>lia
   ·simp only [h,if_false]<;>lia
theorem ZcT (its:List Value) (lo hi:Option Int):slicePick its.toArray lo hi none=((its.drop (HT.sIx its.length 0 lo)).take (HT.sIx its.length its.length hi-HT.sIx its.length 0 lo)).toArray:=by
 obtain ⟨h1,h2,h3⟩:=ZdO lo hi its.toArray.size
 unfold slicePick
 rw [h1,h2,h3]
 simp only [sliceRange_one,pick_run,List.size_toArray]<;>rfl
def ZmG (K:PySem.W.Frag):V->Option Int->Option Int->Hp->VK->Prop:=fun x lo hi H Q=>∃a xs,x = .ref a/\Zu K H a xs /\ ∀p,H p=none->Q (.ref p) (upd H p (.lst (WQ xs lo hi)))
theorem Zj0:SlR X (ZmG X.K):=by
 intro pins s σ H x v vl vu lo hi sl Q I rx hs pl pu h
 obtain ⟨a,xs,rfl,hx,q⟩:=h
 cases rx
 obtain ⟨its,r,ht,hz⟩:=I.list hx
 have hlen:=r.length
 refine ⟨"list", _,slot_list_getitem.lookup,ht.isList.typeIs,?_⟩
 refine wpAny_getItem_list_slice ht.isList hs pl pu .none (by simp) ?_ (by rw [List.size_toArray]<;>lia)
 rw [ZcT,<- hlen]
 refine ⟨.ref s.heap.objs.size,_,I.laid (t':=s.toks) (o:=.lst (WQ xs lo hi)) (fun b ob q=>Heap.get?_push_of_some _ q) (Nat.le_refl _) ?_,rfl,q _ (I.hok.fresh (Nat.le_refl _))⟩
 exact ⟨Nat.le_trans (Zen xs lo hi) hz,_,0,(r.drop (HT.sIx xs.length 0 lo)).take (HT.sIx xs.length xs.length hi-HT.sIx xs.length 0 lo),Heap.get?_push_size _ rfl⟩
def JS:V->Bool
 | .non=>true
 | .bl _=>true
 | .int _=>true
 | .str _=>true
 | _=>false
def eqV:V->V->Bool
 | .non,.non=>true
 | .bl a,.bl b=>a==b
 | .bl a,.int b=>(if a then 1 else 0)==b
 | .int a,.bl b=>a==(if b then 1 else 0)
 | .int a,.int b=>a==b
 | .str a,.str b=>a==b
 | _,_=>false
theorem Zi5 {A:Around}{s:Shared}{y x:V}{u v:Value} (ry:RelV y u) (rx:RelV x v) (fy:JS y=true) (fx:JS x=true):SeqAt.EqAt A s u v (eqV y x):=by
 cases y with
 | non=>
  cases ry
  cases x with
  | non=>cases rx;exact SeqAt.EqAt.same _
  | bl b=>cases rx;exact SeqAt.EqAt.none_bool b
  | int b=>obtain ⟨t,rfl⟩:=rx;exact SeqAt.EqAt.none_int b t
  | str b=>obtain ⟨t,rfl⟩:=rx;exact SeqAt.EqAt.none_str b t
  | _=>exact absurd (show false=true from fx) Bool.false_ne_true
 | bl a=>
  cases ry
  cases x with
  | non=>cases rx;exact SeqAt.EqAt.bool_none a
  | bl b=>cases rx;exact SeqAt.EqAt.bool_bool a b
  | int b=>obtain ⟨t,rfl⟩:=rx;exact SeqAt.EqAt.bool_int a b t
  | str b=>obtain ⟨t,rfl⟩:=rx;exact SeqAt.EqAt.bool_str a b t
  | _=>exact absurd (show false=true from fx) Bool.false_ne_true
 | int a=>
  obtain ⟨t',rfl⟩:=ry
  cases x with
  | non=>cases rx;exact SeqAt.EqAt.int_none a t'
  | bl b=>cases rx;exact SeqAt.EqAt.int_bool a t' b
  | int b=>obtain ⟨t,rfl⟩:=rx;exact SeqAt.EqAt.int_int a t' b t
  | str b=>obtain ⟨t,rfl⟩:=rx;exact SeqAt.EqAt.int_str a t' b t
  | _=>exact absurd (show false=true from fx) Bool.false_ne_true
 | str a=>
  obtain ⟨t',rfl⟩:=ry
  cases x with
  | non=>cases rx;exact SeqAt.EqAt.str_none a t'
  | bl b=>cases rx;exact SeqAt.EqAt.str_bool a t' b
  | int b=>obtain ⟨t,rfl⟩:=rx;exact SeqAt.EqAt.str_int a t' b t
  | str b=>obtain ⟨t,rfl⟩:=rx;exact SeqAt.EqAt.str_str a t' b t
  | _=>exact absurd (show false=true from fx) Bool.false_ne_true
 | _=>exact absurd (show false=true from fy) Bool.false_ne_true
def eqU (x:V) (u:Value):Bool:=match u with
 | .none=>eqV .non x
 | .bool b=>eqV (.bl b) x
 | .int i _=>eqV (.int i) x
 | .str z _=>eqV (.str z) x
 | _=>false
theorem ZdJ {x y:V}{u:Value} (r:RelV y u) (f:JS y=true):eqU x u=eqV y x:=by
 cases y with
 | non=>cases r;rfl
 | bl b=>cases r;rfl
 | int i=>obtain ⟨t,rfl⟩:=r;rfl
 | str z=>obtain ⟨t,rfl⟩:=r;rfl
 | _=>exact absurd (show false=true from f) Bool.false_ne_true
theorem ZaD {x:V}:∀{xs:List V}{us:List Value},Vals xs us->xs.all JS=true->us.any (eqU x)=xs.any fun y=>eqV y x
 | _,_,.nil,_=>rfl
 | y::xs,u::us,.cons r t,f=>by
  rw [List.all_cons,Bool.and_eq_true] at f
  rw [List.any_cons,List.any_cons,ZdJ r f.1,ZaD t f.2]
theorem WR {A:Around}{s:Shared}{x:V}{v:Value} (rx:RelV x v) (fx:JS x=true):∀{xs:List V}{us:List Value},Vals xs us->xs.all JS=true -> ∀u∈us,SeqAt.EqAt A s u v (eqU x u)
 | _,_,.nil,_=>fun u hu=>by cases hu
 | y::xs,u::us,.cons r t,f=>fun u' hu=>by
  rw [List.all_cons,Bool.and_eq_true] at f
  rcases List.mem_cons.mp hu with rfl | hu
  ·rw [ZdJ r f.1];exact Zi5 r rx f.1 fx
  ·exact WR rx fx t f.2 u' hu
def inV (x:V) (xs:List V):Bool:=xs.any fun y=>eqV y x
def rIn (K:PySem.W.Frag) (neg:Bool):R2:=fun x y H Q=>∃p xs,y = .ref p/\(Zu K H p xs∨JZ K H p xs)/\JS x=true/\xs.all JS=true/\Q (.bl (if neg then !inV x xs else inV x xs)) H
theorem Zhc:Ub X (compareOp .In) (rIn X.K false):=by
 intro pins s σ H x y v u Q I rx ry h
 obtain ⟨p,xs,rfl,hq,fx,fs,q⟩:=h
 cases ry
 rcases hq with hq | hq
 ·obtain ⟨its,r,pl,hz⟩:=I.list hq
  refine SeqAt.in_listAt (eqU x) pl.isList (fun w hw=>WR rx fx r fs w (by simpa using hw)) ⟨.bl _,H,I,rfl,?_⟩
  rw [show its.toArray.any (eqU x)=its.any (eqU x) by simp,ZaD r fs]
  exact q
 ·obtain ⟨its,r,pl,hz⟩:=I.tuple hq
  refine SeqAt.in_tupleAt (eqU x) pl (fun w hw=>WR rx fx r fs w (by simpa using hw)) ⟨.bl _,H,I,rfl,?_⟩
  rw [show its.toArray.any (eqU x)=its.any (eqU x) by simp,ZaD r fs]
  exact q
theorem ZdW:Ub X (compareOp .NotIn) (rIn X.K true):=by
 intro pins s σ H x y v u Q I rx ry h
 obtain ⟨p,xs,rfl,hq,fx,fs,q⟩:=h
 cases ry
 rcases hq with hq | hq
 ·obtain ⟨its,r,pl,hz⟩:=I.list hq
  refine SeqAt.notIn_listAt (eqU x) pl.isList (fun w hw=>WR rx fx r fs w (by simpa using hw)) ⟨.bl _,H,I,rfl,?_⟩
  rw [show its.toArray.any (eqU x)=its.any (eqU x) by simp,ZaD r fs]
  exact q
 ·obtain ⟨its,r,pl,hz⟩:=I.tuple hq
  refine SeqAt.notIn_tupleAt (eqU x) pl (fun w hw=>WR rx fx r fs w (by simpa using hw)) ⟨.bl _,H,I,rfl,?_⟩
  rw [show its.toArray.any (eqU x)=its.any (eqU x) by simp,ZaD r fs]
  exact q
theorem ZdQ:JD X (.builtin "len") (fun xs H Q=>∃p ys,xs = [.ref p]/\(Zu X.K H p ys∨JZ X.K H p ys)/\Q (.int ys.length) H):=by
 intro pins s σ H xs us Q I r h
 obtain ⟨p,ys,rfl,hq,q⟩:=h
 obtain ⟨u,rfl,rx⟩:=vals1 r
 cases rx
 have hn:=Zbj
 rcases hq with hq | hq
 ·obtain ⟨its,r',pl,hz⟩:=I.list hq
  have hlen:=r'.length
  exact Calls.call_len_list pl.isList (by simp only [List.size_toArray]<;>lia) ⟨.int ys.length,H,I.tok _,⟨s.toks+1,by rw [List.size_toArray,hlen]⟩,q⟩
 ·obtain ⟨its,r',pl,hz⟩:=I.tuple hq
  have hlen:=r'.length
  exact len_tuple pl (by simp only [List.size_toArray]<;>lia) ⟨.int ys.length,H,I.tok _,⟨s.toks+1,by rw [List.size_toArray,hlen]⟩,q⟩
theorem Zd5:JD X (.type "list") (fun xs H Q=>∃p ys,xs = [.ref p]/\(Zu X.K H p ys∨JZ X.K H p ys) /\ ∀l,H l=none->Q (.ref l) (upd H l (.lst ys))):=by
 intro pins s σ H xs us Q I r h
 obtain ⟨p,ys,rfl,hq,q⟩:=h
 obtain ⟨u,rfl,rx⟩:=vals1 r
 cases rx
 have fin:∀(its:List Value),Vals ys its->ys.length<=sizeLine -> ∀(h':Heap) (c':Nat),(∀b o',s.heap.get? b=some o'->h'.get? b=some o') ->
   h'.get? s.heap.objs.size=some { cls:=.type "list", dict:=none,data:=.seq its.toArray c',slots:=#[] } -> EP X pins σ Q (.ref s.heap.objs.size) { s with heap:=h' }:=fun its r' hz h' c' kp e=>
  ⟨.ref s.heap.objs.size,_,I.laid (t':=s.toks) kp (Nat.le_refl _) (show Yp X.prog X.w _ h' _ (.lst ys) from ⟨hz,its,c',r',e⟩),rfl,q _ (I.hok.fresh (Nat.le_refl _))⟩
 rcases hq with hq | hq
 ·obtain ⟨its,r',pl,hz⟩:=I.list hq
  have hlen:=r'.length
  obtain ⟨o,ho,hc,n,hd⟩:=pl.isList
  exact call_list_seq p (.inl rfl) ho hc hd (fun h' c' kp e=>fin its r' hz h' c' kp e) (by simp only [List.size_toArray]<;>lia)
 ·obtain ⟨its,r',pl,hz⟩:=I.tuple hq
  have hlen:=r'.length
  obtain ⟨o,ho,hc,n,hd⟩:=pl
  exact call_list_seq p (.inr rfl) ho hc hd (fun h' c' kp e=>fin its r' hz h' c' kp e) (by simp only [List.size_toArray]<;>lia)
def tyV (K:PySem.W.Frag) (T:String) (x:V) (H:Hp):Prop:=match x with
 | .str _=>T = "str"
 | .int _=>T = "int"
 | .ref p=>(T = "list" /\ ∃xs,Zu K H p xs)∨(T = "tuple" /\ ∃o,K.lookup p=some o/\o.cls = .type "tuple" /\ o.dict=none) ∨
   (T = "dict" /\ ((∃kvs,H p=some (.dK kvs)) ∨ ∃kvs,H p=some (.dT kvs)))∨(T = "set" /\ ∃S n,H p=some (.set S n))
 | _=>False
theorem Zix {pins:List (Addr×Obj)} {σ:St}{H:Hp}{s:Shared}{T:String}{x:V}{v:Value} (I:Inv X pins σ H s) (r:RelV x v) (ty:tyV X.K T x H):
  s.TypeIs v T /\ ∀a,v = .ref a -> ∃ob,s.heap.get? a=some ob/\ob.dict=none:=by
 cases x with
 | str z=>
  obtain ⟨t,rfl⟩:=r
  cases (show T = "str" from ty)
  exact ⟨typeIs_str s z t,fun _ e=>nomatch e⟩
 | int i=>
  obtain ⟨t,rfl⟩:=r
  cases (show T = "int" from ty)
  exact ⟨typeIs_int s i t,fun _ e=>nomatch e⟩
 | ref p=>
  cases r
  rcases ty with ⟨rfl,xs,hq⟩ | ⟨rfl,o,hk,hc,hd⟩ | ⟨rfl,hk⟩ | ⟨rfl,S,n,hk⟩
  ·obtain ⟨its,_,pl,_⟩:=I.list hq
   refine ⟨pl.isList.typeIs,fun a e=>?_⟩
   cases e
   obtain ⟨o,n,e,c,hd,_⟩:=pl
   exact ⟨o,e,hd⟩
  ·refine ⟨⟨o,I.kIn p o hk,hc⟩,fun a e=>?_⟩
   cases e
   exact ⟨o,I.kIn _ o hk,hd⟩
  ·have z:∃o,s.heap.get? p=some o/\o.ExactDict:=by
    rcases hk with ⟨kvs,hk⟩ | ⟨kvs,hk⟩
    ·obtain ⟨_,_,_,_,o,_,_,e,ex,_⟩:=I.hok p _ hk
     exact ⟨o,e,ex⟩
    ·obtain ⟨_,_,_,_,o,_,_,e,ex,_⟩:=I.hok p _ hk
     exact ⟨o,e,ex⟩
   obtain ⟨o,e,ex⟩:=z
   refine ⟨⟨o,e,ex.1⟩,fun a e2=>?_⟩
   cases e2
   exact ⟨o,e,ex.2.1⟩
  ·obtain ⟨o,_,_,_,e,ex,_⟩:=I.hok p _ hk
   refine ⟨⟨o,e,ex.1⟩,fun a e2=>?_⟩
   cases e2
   exact ⟨o,e,ex.2.1⟩
 | _=>exact False.elim ty
def ZlZ (K:PySem.W.Frag) (T:String) (r:V->List V->Hp->VK->Prop) (to:TE):TE:=fun σ H Q=>to σ H fun x H1=>tyV K T x H1/\r x [] H1 Q
def tBM (K:PySem.W.Frag) (T:String) (r:V->List V->Hp->VK->Prop) (to:TE) (t:TA):TE:=fun σ H Q=>to σ H fun x H1=>tyV K T x H1/\t σ H1 fun xs H2=>r x xs H2 Q
variable {o e:Expr}{es:List Expr}{to:TE}{t:TA}{name:Str}{apos cpos:Pos}{T id:String}{r:V->List V->Hp->VK->Prop}
theorem ZiF (pa:PlainAttrs T) (slot:Slot T name id) (hty:typeOf (.builtin id)=pure (.type "method_descriptor")) (hm:MtR X id r) (ho:PE X o to)
  (hbase:attributeBase o name X.env (eval o X.env)=eval o X.env:=by rfl) (hline:(apos.endLine==cpos.line)=true:=by rfl):PE X (.Call (.Attribute o name apos) [] [] cpos) (ZlZ X.K T r to):=by
 intro pins s σ H Q I h
 refine wpAny_Call_method0_late hbase hline (YR (ho pins s σ H _ I h) fun v s1 ⟨x,H1,I1,r1,ty,q1⟩=>?_)
 obtain ⟨h1,h2⟩:=Zix I1 r1 ty
 exact ⟨T,id,pa,slot,hty,h1,h2,Calls.callWith_builtin rfl (PySem.evalArgs_none (hm pins s1 σ H1 x [] v [] Q I1 r1 .nil q1))⟩
theorem Jk (pa:PlainAttrs T) (slot:Slot T name id) (hty:typeOf (.builtin id)=pure (.type "method_descriptor")) (hm:MtR X id r) (ho:PE X o to) (ha:PA X (e::es) t)
  (hbase:attributeBase o name X.env (eval o X.env)=eval o X.env:=by rfl)
  (hfew:((backTo cpos (starEach (e::es) X.env)).all (fun x=>!x.1)&&(backToKw cpos (keywordEach [] X.env)).all (fun x=>x.1.isSome)
   && decide ((e::es).length+([]:List Keyword).length+(if ([]:List Keyword).isEmpty then 0 else 1)<30))=true:=by rfl)
  (hline:(apos.endLine==cpos.line)=true:=by rfl) (hs:starEach (e::es) X.env=(false,eval e X.env)::starEach es X.env:=by rfl) (hplain:(backTo cpos (starEach es X.env)).any (·.1)=false:=by rfl):
  PE X (.Call (.Attribute o name apos) (e::es) [] cpos) (tBM X.K T r to t):=by
 intro pins s σ H Q I h
 refine wpAny_Call_method_late hbase hfew hline rfl (YR (ho pins s σ H _ I h) fun v s1 ⟨x,H1,I1,r1,ty,q1⟩=>?_)
 obtain ⟨h1,h2⟩:=Zix I1 r1 ty
 refine ⟨T,id,pa,slot,hty,h1,h2,?_⟩
 have hA:=ha cpos pins s1 σ H1 _ I1 q1
 rw [hs] at hA ⊢
 refine Calls.callWith_builtin (by show (false||(backTo cpos (starEach es X.env)).any (·.1))=false;rw [hplain]<;>rfl) (Calls.evalArgs_plain ?_)
 exact YR hA fun us s2 ⟨vs,H2,I2,r2,q2⟩=>hm pins s2 σ H2 x vs v us Q I2 r1 r2 q2
end
def MtM (X:Cx) (id:String) (r:V->List V->Hp->VK->Prop):Prop:=
 ∀(pins:List (Addr×Obj)) (s:Shared) (σ:St) (H:Hp) (x:V) (xs:List V) (v:Value) (us:List Value) (Q:VK),Inv X pins σ H s->RelV x v->Vals xs us->r x xs H Q ->
  wpAny (model X.prog X.w) X.A (call (.builtin id) (v::us)) (EP X pins σ Q) X.xe s
theorem Vals.one:∀{x:V}{us:List Value},Vals [x] us -> ∃u,us = [u]/\RelV x u
 | _,_,.cons r .nil=>⟨_,rfl,r⟩
theorem Vals.two:∀{x y:V}{us:List Value},Vals [x,y] us -> ∃u v,us = [u,v]/\RelV x u/\RelV y v
 | _,_,_,.cons r (.cons q .nil)=>⟨_,_,rfl,r,q⟩
theorem Vals.zero:∀{us:List Value},Vals [] us->us = []
 | _,.nil=>rfl
theorem Vals.dropLast {xs:List V}{us:List Value} (h:Vals xs us):Vals xs.dropLast us.dropLast:=by
 induction h with
 | nil=>exact .nil
 | cons r t ih=>
  cases t with
  | nil=>exact .nil
  | cons q t'=>exact .cons r ih
theorem Vals.eraseIdx:∀{xs:List V}{us:List Value} (i:Nat),Vals xs us->Vals (xs.eraseIdx i) (us.eraseIdx i)
 | _,_,_,.nil=>.nil
 | _,_,0,.cons _ t=>t
 | _,_,i+1,.cons r t=>.cons r (Vals.eraseIdx i t)
theorem Vals.rep {xs:List V}{us:List Value} (h:Vals xs us):∀k:Nat,Vals (List.replicate k xs).flatten (List.replicate k us).flatten
 | 0=>.nil
 | k+1=>by
  rw [List.replicate_succ,List.replicate_succ,List.flatten_cons,List.flatten_cons]
  exact Vals.append h (Vals.rep h k)
theorem Zfd {α:Type} (l:List α):l.eraseIdx (l.length-1)=l.dropLast:=by
 induction l with
 | nil=>rfl
 | cons a r ih=>
  cases r with
  | nil=>rfl
  | cons b r=>
   have e:(a::b::r).length-1=((b::r).length-1)+1:=by
    have h1:(a::b::r).length=r.length+2:=rfl
    have h2:(b::r).length=r.length+1:=rfl
    lia
   rw [e,List.eraseIdx_cons_succ,ih]
   all_goals rfl
theorem Zdc {α:Type}:∀(l:List α) (i:Nat),(l.eraseIdx i).length<=l.length
 | [],_=>Nat.le_refl _
 | _::_,0=>Nat.le_succ _
 | _::r,i+1=>Nat.succ_le_succ (Zdc r i)
theorem foldl_rep (its:List Value):∀(k:Nat) (acc:List Value),
  List.foldl (fun x1 x2=>x1++x2) acc.toArray (List.replicate k its.toArray)=(acc++(List.replicate k its).flatten).toArray
 | 0,acc=>by simp
 | k+1,acc=>by
  have e:acc.toArray++its.toArray=(acc++its).toArray:=by simp
  have e2:(acc++its)++(List.replicate k its).flatten=acc++(List.replicate (k+1) its).flatten:=by
   rw [List.replicate_succ,List.flatten_cons,List.append_assoc]
  rw [<- e2,<- foldl_rep its k (acc++its),<- e,List.replicate_succ,List.foldl_cons]
section
variable {X:Cx}{pins:List (Addr×Obj)} {σ:St}{H:Hp}{s:Shared}{l b:Addr}{xs ys zs:List V}
theorem Inv.lset {its its':List Value}{n:Nat}{f:Array Value->Array Value}{t':Nat} (I:Inv X pins σ H s) (hH:H l=some (.lst xs))
  (e:s.heap.get? l=some { cls:=.type "list", data:=.seq its.toArray n }) (hf:f its.toArray=its'.toArray) (hv:Vals ys its') (hz:ys.length<=sizeLine):
  Inv X pins σ (upd H l (.lst ys)) { s with heap:=s.heap.update l (Obj.mapSeq f),toks:=t' }:=by
 have q:=PySem.IsL.update e f
 rw [hf] at q
 refine I.write (x:=l) (e:=l) (by rw [hH];exact trivial) (.inl rfl) (fun b' u hb hu=>(Heap.get?_update_other s.heap (Obj.mapSeq f) (Ne.symm hb)).trans hu) ⟨_,q⟩ ?_
 exact ⟨hz,its',_,hv,q⟩
theorem Inv.lnew {its:List Value}{t':Nat} (I:Inv X pins σ H s) (hv:Vals ys its) (hz:ys.length<=sizeLine):
  Inv X pins σ (upd H s.heap.objs.size (.lst ys)) { s with heap:=s.heap.push { cls:=.type "list", data:=.seq its.toArray },toks:=t' }:=
 I.laid (fun _ _ q=>Heap.get?_push_of_some _ q) (Nat.le_refl _) ⟨hz,its,0,hv,Heap.get?_push_size _ rfl⟩
theorem Inv.fresh (I:Inv X pins σ H s):H s.heap.objs.size=none:=I.hok.fresh (Nat.le_refl _)
theorem Inv.lstM (I:Inv X pins σ H s) (hH:H l=some (.lst xs)):xs.length<=sizeLine /\ ∃(its:List Value) (n:Nat),Vals xs its/\xs.length=its.length/\s.heap.get? l=some { cls:=.type "list", data:=.seq its.toArray n }:=by
 obtain ⟨z,its,n,r,e⟩:=I.hok l _ hH
 exact ⟨z,its,n,r,r.length,e⟩
theorem Zh8 {n:Nat} (h:n<=sizeLine):Builtin.List.listTooLong n=false:=by
 unfold Builtin.List.listTooLong
 exact decide_eq_false (by lia)
end
section
variable {X:Cx}
def Zkn:V->List V->Hp->VK->Prop:=fun x vs H Q=>∃l xs y,x = .ref l/\vs = [y]/\H l=some (.lst xs)/\xs.length<sizeLine/\Q .non (upd H l (.lst (xs ++ [y])))
theorem Yo:MtM X "list.append" Zkn:=by
 intro pins s σ H x vs v us Q I rx rv h
 obtain ⟨l,xs,y,rfl,rfl,hH,hz,q⟩:=h
 cases rx
 obtain ⟨u,rfl,ru⟩:=rv.one
 obtain ⟨z,its,n,r,hl,e⟩:=I.lstM hH
 refine call_meets F.slot_list_append ⟨_,e,rfl⟩ F.entry_list_append (F.args_list_append_2 _ _) (PySem.list_append l its.toArray n u (by rw [List.size_toArray];lia)) ⟨e,?_⟩
 refine ⟨.non,_,I.lset (its':=its ++ [u]) hH e (by simp) (r.append (.cons ru .nil)) ?_,rfl,q⟩
 rw [List.length_append,List.length_singleton]
 lia
def Znx:V->List V->Hp->VK->Prop:=fun x vs H Q=>∃l xs y,x = .ref l/\vs = []/\H l=some (.lst xs)/\xs[xs.length-1]? = some y/\Q y (upd H l (.lst xs.dropLast))
theorem Zlf:MtM X "list.pop" Znx:=by
 intro pins s σ H x vs v us Q I rx rv h
 obtain ⟨l,xs,y,rfl,rfl,hH,hy,q⟩:=h
 cases rx
 have hus:=rv.zero
 subst hus
 obtain ⟨z,its,n,r,hl,e⟩:=I.lstM hH
 obtain ⟨u,hu,ru⟩:=r.get hy
 have hy':its.toArray[its.toArray.size-1]? = some u:=by
  show its.toArray[its.length-1]? = some u
  rw [<- Array.getElem?_toList,<- hl]
  exact hu
 refine call_meets F.slot_list_pop ⟨_,e,rfl⟩ F.entry_list_pop (F.args_list_pop_1 _) (MeetsSeq.list_pop_last l its.toArray n u hy' (by rw [List.size_toArray];lia)) ⟨e,?_⟩
 refine ⟨y,_,I.lset (its':=its.dropLast) hH e ?_ r.dropLast ?_,ru,q⟩
 ·show its.toArray.eraseIdxIfInBounds (its.toArray.size-1)=its.dropLast.toArray
  rw [List.size_toArray,List.eraseIdxIfInBounds_toArray,Zfd]
 ·rw [List.length_dropLast]
  lia
def ZlB:V->List V->Hp->VK->Prop:=fun x vs H Q=>∃l xs i k y,x = .ref l/\vs = [.int i]/\H l=some (.lst xs) /\ -(2 ^ 63)<=i/\i<2 ^ 63/\seqIndex? i xs.length=some k/\xs[k]? = some y/\Q y (upd H l (.lst (xs.eraseIdx k)))
theorem ZcB:MtM X "list.pop" ZlB:=by
 intro pins s σ H x vs v us Q I rx rv h
 obtain ⟨l,xs,i,k,y,rfl,rfl,hH,h1,h2,hk,hy,q⟩:=h
 cases rx
 obtain ⟨u,rfl,ru⟩:=rv.one
 obtain ⟨t,rfl⟩:=ru
 obtain ⟨z,its,n,r,hl,e⟩:=I.lstM hH
 obtain ⟨w,hw,rw'⟩:=r.get hy
 refine call_meets F.slot_list_pop ⟨_,e,rfl⟩ F.entry_list_pop (F.args_list_pop_2 _ _)
  (MeetsSeq.list_pop_at l its.toArray n i t k w (fitsIndex_both h1 h2) (by rw [List.size_toArray,<- hl];exact hk) (by rw [<- Array.getElem?_toList];exact hw) (by rw [List.size_toArray];lia)) ⟨e,?_⟩
 refine ⟨y,_,I.lset (its':=its.eraseIdx k) hH e ?_ (r.eraseIdx k) ?_,rw',q⟩
 ·show its.toArray.eraseIdxIfInBounds k=(its.eraseIdx k).toArray
  rw [List.eraseIdxIfInBounds_toArray]
 ·have:=Zdc xs k
  lia
def ZnG:R2:=fun x y H Q=>∃l b xs zs,x = .ref l/\y = .ref b/\H l=some (.lst xs)/\H b=some (.lst zs)/\xs.length+zs.length<=sizeLine /\ ∀p,H p=none->Q (.ref p) (upd H p (.lst (xs++zs)))
theorem Gp:Ub X (binaryOp .Add) ZnG:=by
 intro pins s σ H x y v u Q I rx ry h
 obtain ⟨l,b,xs,zs,rfl,rfl,hH,hB,hz,q⟩:=h
 cases rx
 cases ry
 obtain ⟨z,its,n,r,hl,e⟩:=I.lstM hH
 obtain ⟨z2,its2,n2,r2,hl2,e2⟩:=I.lstM hB
 refine PySem.P.add_list e e2 ?_ (by rw [List.size_toArray,List.size_toArray];lia)
 have ea:its.toArray++its2.toArray=(its++its2).toArray:=by simp
 rw [ea]
 exact ⟨.ref _,_,I.lnew (t':=s.toks) (r.append r2) (by rw [List.length_append];lia),rfl,q _ I.fresh⟩
def Znz:R2:=fun x y H Q=>∃l k xs,x = .ref l/\y = .int k/\H l=some (.lst xs) /\ -(2 ^ 63)<=k/\k<2 ^ 63/\xs.length*k.toNat<=sizeLine /\
 ∀p,H p=none->Q (.ref p) (upd H p (.lst (List.replicate k.toNat xs).flatten))
theorem len_rep {α:Type} (xs:List α) (k:Nat):(List.replicate k xs).flatten.length=k*xs.length:=by
 induction k with
 | zero=>simp
 | succ k ih=>rw [List.replicate_succ,List.flatten_cons,List.length_append,ih,Nat.succ_mul,Nat.add_comm]
theorem Zbo:Ub X (binaryOp .Mult) Znz:=by
 intro pins s σ H x y v u Q I rx ry h
 obtain ⟨l,k,xs,rfl,rfl,hH,h1,h2,hz,q⟩:=h
 cases rx
 obtain ⟨t,rfl⟩:=ry
 obtain ⟨z,its,n,r,hl,e⟩:=I.lstM hH
 have hlen:its.toArray.size*k.toNat<=sizeLine:=by rw [List.size_toArray,<- hl];exact hz
 have hcap:¬its.toArray.size*k.toNat>(2 ^ 63-1) / 8:=by
  have:(sizeLine:Nat)<=(2 ^ 63-1) / 8:=by decide
  lia
 have hfit:¬(!Builtin.List.listFitsIndex k)=true:=by
  rw [fitsIndex_both h1 h2]
  exact Bool.false_ne_true
 have hlong:¬Builtin.List.listTooLong (its.toArray.size*k.toNat)=true:=by
  rw [Zh8 hlen]
  exact Bool.false_ne_true
 have hnew:List.foldl (fun x1 x2=>x1++x2) #[] (List.replicate (if its.toArray.isEmpty=true then 0 else k.toNat) its.toArray)=(List.replicate k.toNat its).flatten.toArray:=by
  have f0:∀m:Nat,List.foldl (fun x1 x2=>x1++x2) #[] (List.replicate m its.toArray)=(List.replicate m its).flatten.toArray:=fun m=>by
   have:=foldl_rep its m []
   rw [List.nil_append] at this
   exact this
  rw [f0]
  cases its with
  | nil=>simp
  | cons a r'=>rw [if_neg (by simp)]
 refine wpAny_binaryOp_repeat_ref (T := "list") (U := "int") (by decide) ⟨_,e,rfl⟩ (fun s'=>typeIs_int s' k t) noFill_list_mul F.fills_int_mul F.slot_int_rmul repeat_list F.slot_int_index.lookup
  (call_meets F.slot_int_rmul (typeIs_int s k t) F.entry_int_rmul (F.args_int_rmul_2 _ _) (int___rmul___int_list k t l its.toArray n)
   ⟨e,rfl,⟨_,e,rfl⟩,call_meets F.slot_list_mul ⟨_,e,rfl⟩ F.entry_list_mul (F.args_list_mul_2 _ _) (AutoListH.list___mul___list_int_3 l its.toArray n k t hfit hcap hlong) ⟨e,?_⟩⟩)
 rw [hnew]
 exact ⟨.ref _,_,I.lnew (t':=s.toks) (r.rep k.toNat) (by rw [len_rep,Nat.mul_comm];exact hz),rfl,q _ I.fresh⟩
end
end L2
namespace Att
open PySem PySem.W PySem.Calls PyProof.Rows
theorem ZbH {P:Params}{h:Heap}:∀(ns:List Int) (vs:List Value),WellAll P h vs (ns.map WData.int)->IntsAre vs ns:=by
 intro ns
 induction ns with
 | nil=>
  intro vs w
  rw [List.map_nil] at w
  cases w
  exact .nil
 | cons n ns ih=>
  intro vs w
  rw [List.map_cons] at w
  cases w with
  | cons a b=>
   cases a
   exact .cons _ _ (ih _ b)
theorem Zhv {l:OpenLaw}{n:Nat} (hn:l.most=some n) {P:Params}{h:Heap}{args:List WData}{vals:List Value}
  (hpre:l.row.toRowW.claim.pre args=true) (hwl:WellAll P h vals args):
  ∃a vs ns,vals = [Value.ref a]/\args = [WData.list (ns.map WData.int)]/\h.get? a=some { cls:=.type "list", data:=.seq vs.toArray } /\ IntsAre vs ns/\ns.length<=n:=by
 have hsh:WShape.hasAll [] args [.list .int]=true:=(pre_splitW hpre).1
 have hc:l.pre.holds [] { args:=args } = true:=(pre_splitW hpre).2
 obtain ⟨d,r,rfl,h1,h2⟩:=hasAllW_cons hsh
 obtain rfl:=hasAllW_nil h2
 obtain ⟨xs,rfl,h3⟩:=hasW_list h1
 obtain ⟨ns,rfl⟩:=items_int h3
 have hlen:ns.length<=n:=by
  unfold OpenLaw.pre at hc
  have h4:(WTm.not (.lt (.lit (.int (n:Int))) (.len (.arg 0)))).holds [] { args:=[.list (ns.map .int)] } = true:=by
   have h4:=(holds_andW hc).1
   rw [hn] at h4
   exact h4
  have h5:=condW_of h4 (w_not (w_lt w_lit (w_len_list (w_arg rfl))))
  rw [List.length_map] at h5
  refine Nat.le_of_not_lt fun q=>?_
  have q':(n:Int)<((ns.length:Nat):Int):=by lia
  first
   | (rw [decide_eq_true q'] at h5;exact absurd h5 (by decide))
   | (simp at h5;lia)
 cases hwl with
 | cons w1 w2=>
  cases w2
  cases w1 with
  | list ho hall=>exact ⟨_,_,ns,rfl,rfl,ho,ZbH ns _ hall,hlen⟩
theorem Zhb (l:OpenLaw) (args:List WData):l.row.toRowW.claim.post args (.bool true) args=true:=
 postW_of (r:=l.row.toRowW) (X:=(true==true))
  (show WShape.has [] (.bool true) .bool=true by first | rfl | decide | simp [WShape.has,WShape.arms,WShape.armsAll])
  (show (WTm.eq .res (.lit (.bool true))).value [] { args:=args,res:=some (.bool true),after:=args } = some (.bool (true==true)) from w_eq_bool (w_res rfl) w_lit) rfl
theorem Ze7 {l:OpenLaw}{n:Nat}{q:Program}{loose:List Str}{XP:(Str->Option Value)->Heap->Prop}{YP:World->Heap->Prop}{d:DefRec}
  (hn:l.most=some n) (hdf:d.params.defaults = [])
  (call:∀(w:World) (s₀ s₁:Shared) (mg mb:Str->Option Value) (fa:Addr) (o:Obj) (pm cd doc:Value) (a:Addr) (vs:List Value) (ns:List Int),
   Ground q loose [] XP w s₀ mg mb s₁.heap->YP w s₁.heap ->
   s₁.heap.get? fa=some o->o.data = .func (docDef d.name d.params d.body d.scope pm cd doc)->s₁.heap.CodeRec cd d.name->mg d.name=some (.ref fa) ->
   s₁.heap.get? a=some { cls:=.type "list", data:=.seq vs.toArray } -> IntsAre vs ns->ns.length<=n->s₁.gens = #[] ->
   codeAny (model l.prog w) callerA (.call (.ref fa) ⟨[.ref a],[]⟩) (fun r s'=>r = .ok (.ret (.bool true))/\OldK s₁.heap s'.heap/\s'.os=s₁.os/\AllBare s'.gens) s₁):
  WalkO q loose XP YP l.row.toRowW d [] (fun f vs=>PySem.call f vs):=by
 intro w s₀ s₁ mg mb G Y fa o pm cd doc dV kV ho hd hcd hD hmg hg args vals as hpre hlay hrd hwl hlo
 obtain rfl:dV = .none:=Dflts.none hD hdf
 obtain rfl:kV = .none:=Dflts.noKw hD
 obtain ⟨a,vs,ns,rfl,rfl,hobj,hints,hlen⟩:=Zhv hn hpre hwl
 refine enter_call (codeAny_mono (call w s₀ s₁ mg mb fa o pm cd doc a vs ns G Y ho (fd_plain hd) hcd hmg hobj hints hlen hg) fun r s' hq=>?_)
 obtain ⟨rfl,h2,h3,h4⟩:=hq
 exact ⟨.inl ⟨.bool true,.bool true,[],rfl,fun _=>rfl,.bool true,Zhb l _,fun _=>⟨List.Pairwise.nil,fun _ hm=>(nomatch hm)⟩⟩,h2,h3,h4⟩
section
variable {prog:Program}{w:World}{A:Around}{E:Value->Shared->Prop}{s:Shared}{K:Frag}
def ledger (h:Heap) (L d:Addr):List (Addr×Obj):=(List.range h.objs.size).filterMap fun a=>if a=L∨a=d then none else (h.get? a).map fun o=>(a,o)
end
end Att
namespace L2
open PySem PySem.Spec PyProof.Rows
theorem Za2:∀{vs:List Value}{ns:List Int},IntsAre vs ns->Vals (ns.map V.int) vs
 | _,_,.nil=>.nil
 | _,_,.cons n t h=>.cons ⟨t,rfl⟩ (Za2 h)
def ZlP (H:Hp):Prop:=∀b,H b=none ∨ ∃o xs,H b=some (.frz o (.lst xs))
theorem Zia {P:Program}{w:World}{K:PySem.W.Frag}{mg mb:Str->Option Value}{CX:CXT}{k:Nat}{fa a:Addr}{fd:FuncData}{x:Str}{sp:Sp}{s₁:Shared}{vs:List Value}{ns:List Int}
  (KX:K.In s₁.heap) (hns:s₁.heap.Ns mainGlobals mg) (hb:s₁.heap.Ns builtinsNs mb) (hbb:∀x:Str,x ≠ "__name__" -> mb x=bootBuiltins x) (hlim:s₁.heap.NoLimit) (hg:s₁.gens = #[])
  (ha:s₁.heap.get? a=some { cls:=.type "list", data:=.seq vs.toArray }) (hi:IntsAre vs ns) (hl:ns.length<=sizeLine) (hr:J1 k callerA)
  (F:∀base:Heap,K.In base->base.Ns mainGlobals mg->Ys P w K mg base CX k fa fd [x] sp) (hbind:∀(s:Shared) (u:Value),BindsTo s fd ⟨[u],[]⟩ [(x,u)])
  (hsp:∀H:Hp,ZlP H->Zu K H a (ns.map V.int)->sp [.ref a] H (fun v _=>v = .bl true) fun _ _ _=>False)
  (hCX:∀H e s',CX [] H s₁ (fun _ _ _=>False) e s'->False):
  codeAny (model P w) callerA (.call (.ref fa) ⟨[.ref a],[]⟩) (fun r s'=>r = .ok (.ret (.bool true))/\OldK s₁.heap s'.heap/\s'.os=s₁.os/\AllBare s'.gens) s₁:=by
 have rv:=Za2 hi
 have lenV:=hi.length
 have core:∀H:Hp,ZlP H->Zu K H a (ns.map V.int)->Uv P w H s₁.heap->(∀b,H b≠none->b=a)->(H a≠none->K.lookup a=none) ->
   codeAny (model P w) callerA (.call (.ref fa) ⟨[.ref a],[]⟩) (fun r s'=>r = .ok (.ret (.bool true))/\OldK s₁.heap s'.heap/\s'.os=s₁.os/\AllBare s'.gens) s₁:=by
  intro H hO hS hok hA hK
  have base_of:∀{b:Addr}{o:Obj},s₁.heap.get? b=some o->H b=none->(ZdD s₁.heap H).get? b=some o:=fun e n=>ZhR e n
  have noA:∀{b:Addr}{o:Obj}{es:Array DictEntry}{ep:Nat},s₁.heap.get? b=some o->o.data = .dict es ep->H b=none:=fun {b o es ep} e d=>by
   cases q:H b with
   | none=>rfl
   | some u=>
    have e':b=a:=hA b (by rw [q];simp)
    subst e'
    rw [ha] at e;cases e
    have d':Data.seq vs.toArray _=Data.dict es ep:=d
    cases d'
  have nsK:∀{b:Addr}{m:Str->Option Value},s₁.heap.Ns b m->(ZdD s₁.heap H).Ns b m:=fun {b m} ⟨o,es,ep,e,d,r⟩=>⟨o,es,ep,base_of e (noA e d),d,r⟩
  have hKb:K.In (ZdD s₁.heap H):=fun b o e=>base_of (KX b o e) (by
   cases q:H b with
   | none=>rfl
   | some u=>
    have e':b=a:=hA b (by rw [q];simp)
    subst e'
    rw [hK (by rw [q];simp)] at e;cases e)
  have hM:Mod K mg (ZdD s₁.heap H):=⟨hKb,nsK hns,⟨mb,nsK hb,hbb⟩,let ⟨mc,h1,h2⟩:=hlim;⟨mc,nsK h1,h2⟩⟩
  have e0:ZdS P w K mg (ZdD s₁.heap H) callerA [] s₁ H:=⟨rfl,hM,fun b o e=>Zkv e,Nat.le_of_eq (ZgU _ _),trivial,fun b hb=>absurd (show b∈([]:List Addr) from hb) (by simp),hok,.of_eq hg⟩
  refine codeAny_mono ((F _ hKb (nsK hns)).run callerA [] s₁ H ⟨[.ref a],[]⟩ [.ref a] [.ref a] _ _ hr e0 (hbind s₁ (.ref a)) (.cons rfl .nil) (hsp H hO hS)) fun r s' h=>?_
  cases r with
  | error e=>exact (hCX H e s' h).elim
  | ok fl=>
   cases fl with
   | next=>exact False.elim h
   | brk=>exact False.elim h
   | cont=>exact False.elim h
   | ret u=>
    obtain ⟨v,H',os,bare,un,hok',r',q⟩:=h
    have q':v = .bl true:=q
    subst q'
    obtain rfl:u=Value.bool true:=r'
    refine ⟨rfl,OldK.of_keep fun b o e=>?_,os,bare⟩
    cases q:H b with
    | none=>exact un.keep b o e q (by intro z;exact absurd (show b∈([]:List Addr) from z) (by simp)) (by simp)
    | some u=>
     rcases hO b with z | ⟨ob,xs,z⟩
     ·rw [q] at z;cases z
     ·have z2:=un.frzs b ob _ z
      obtain ⟨e1,_⟩:=hok b _ z
      obtain ⟨e2,_⟩:=hok' b _ z2
      rw [e] at e1;cases e1
      exact e2
 cases hk:K.lookup a with
 | some o=>
  have e:=KX a o hk
  rw [ha] at e
  cases e
  refine core (fun _=>none) (fun _=>.inl rfl) (.inr ⟨_,vs.toArray,_,hk,rfl,rfl,rfl,by rw [List.size_toArray,lenV];exact hl,by simpa using rv⟩) (fun b u z=>by have z':(none:Option HO)=some u:=z;cases z') (fun b z=>absurd rfl z) fun z=>absurd rfl z
 | none=>
  refine core (fun b=>if b=a then some (.frz { cls:=.type "list", data:=.seq vs.toArray } (.lst (ns.map V.int))) else none) (fun b=>?_) (.inl (.inr ⟨{ cls:=.type "list", data:=.seq vs.toArray },if_pos rfl⟩)) (fun b u z=>?_) (fun b z=>?_) fun _=>hk
  ·by_cases hb:b=a
   ·exact .inr ⟨_,_,if_pos hb⟩
   ·exact .inl (if_neg hb)
  ·by_cases hb:b=a
   ·have z':=(if_pos hb).symm.trans z
    cases z'
    subst hb
    exact ⟨ha,by rw [List.length_map];exact hl,vs,_,rv,ha⟩
   ·have z':=(if_neg hb).symm.trans z
    cases z'
  ·by_cases hb:b=a
   ·exact hb
   ·exact absurd (if_neg hb) z
abbrev KOf {K:PySem.W.Frag}{h:Heap} (_:K.In h):PySem.W.Frag:=K
theorem Zka {l:PySem.W.OpenLaw}{n k:Nat}{q:Program}{loose:List Str}{XP:(Str->Option Value)->Heap->Prop}{YP:World->Heap->Prop}{d:DefRec}{K:Params->PySem.W.Frag}{CX:World->CXT}{sp:World->Sp}{x:Str}
  (hn:l.most=some n) (hn2:n<=sizeLine) (hdf:d.params.defaults = []) (hr:J1 k callerA)
  (hY:∀(w:World) (h:Heap),YP w h->(K w.params).In h)
  (F:∀(w:World) (mg:Str->Option Value) (fa:Addr) (h:Heap),(K w.params).In h->h.Ns mainGlobals mg->mg d.name=some (.ref fa) ->
   ∃fd:FuncData,(∀(s:Shared) (u:Value),BindsTo s fd ⟨[u],[]⟩ [(x,u)]) /\
    ∀base:Heap,(K w.params).In base->base.Ns mainGlobals mg->Ys l.prog w (K w.params) mg base (CX w) k fa fd [x] (sp w))
  (hsp:∀(w:World) (H:Hp) (a:Addr) (ns:List Int),ns.length<=n->ZlP H->Zu (K w.params) H a (ns.map V.int)->sp w [.ref a] H (fun v _=>v = .bl true) fun _ _ _=>False)
  (hCX:∀(w:World) (H:Hp) (s:Shared) (e:Value) (s':Shared),CX w [] H s (fun _ _ _=>False) e s'->False):
  PySem.W.WalkO q loose XP YP l.row.toRowW d [] (fun f vs=>PySem.call f vs):=by
 refine Att.Ze7 hn hdf fun w s₀ s₁ mg mb fa o pm cd doc a vs ns G Y ho hd hcd hmg hobj hints hlen hg=>?_
 have KX:=hY w _ Y
 obtain ⟨fd,hb,hF⟩:=F w mg fa _ KX G.T.g hmg
 exact Zia KX G.T.g G.T.b G.T.builtins G.T.nolimit hg hobj hints (Nat.le_trans hlen hn2) hr hF hb (fun H hO hS=>hsp w H a ns hlen hO hS) fun H e s'=>hCX w H s₁ e s'
def ZaB (s:Stmt):Arguments:=match s with
 | .FunctionDef _ a _ _ _ _ _ _ _ _=>a
 | _=>{ posonlyargs:=[],args:=[],vararg:=none,kwonlyargs:=[],kw_defaults:=[],kwarg:=none,defaults:=[] }
def U0 (s:Stmt):List Stmt:=match s with
 | .FunctionDef _ _ b _ _ _ _ _ _ _=>b
 | _=>[]
def Zl (s:Stmt):Scope:=match s with
 | .FunctionDef _ _ _ _ _ _ sc _ _ _=>sc
 | _=>{ kind:=.function,names:=[],isGenerator:=false,isCoroutine:=false }
abbrev W3:CXT:=fun _ _ _ _ _ _=>False
abbrev E0:XK:=fun _ _ _=>False
theorem ZiI {X:Cx}:Passes W3 X E0:=fun _ _ _ _ _ _ _ h=>h.elim
structure Jl (K:PySem.W.Frag) (x qual:Str) (st:Stmt) (f:Addr) (fd:FuncData):Prop where
 ex:∃(oc:Value) (od:Option Addr) (kV doc pm:Value) (an:Option Addr) (cdv ct:Value) (osl:Array (Option Value)),
  fd=PySem.W.fnOf x qual (ZaB st) (U0 st) (Zl st) .none kV doc pm an cdv ct/\K.lookup f=some ⟨oc,od,.func fd,osl⟩/\PySem.W.codeIn K cdv qual=true
 kp:PySem.W.keepIn K (.ref f)=true
section
variable {P:Program}{w:World}{K:PySem.W.Frag}{mg:Str->Option Value}{base:Heap}
theorem Jl.ok {x qual:Str}{st:Stmt}{f:Addr}{fd:FuncData}{N ps:List Str}{k:Nat}{sp:Sp} (F:Jl K x qual st f fd) (S:ZH N ps (Zl st)) (len:∀vs H Q E,sp vs H Q E->vs.length=ps.length)
  (hbody:∀(cdv:Value) (A:Around) (outer:List Env) (s:Shared) (H:Hp) (vs:List V) (Q:VK) (E:XK),J1 k (A.deeper (envOfC qual (Zl st) s.heap.objs.size f cdv))->sp vs H Q E ->
   ∃t,PSs (Zg7 W3 P w K mg base N qual (Zl st) f cdv A outer s H E).nox (U0 st) t/\t { nx:=fun _ H'=>Q .non H',rt:=Q } (start N vs) H):Ys P w K mg base W3 (k+1) f fd ps sp:=by
 obtain ⟨oc,od,kV,doc,pm,an,cdv,ct,osl,rfl,lk,hcd⟩:=F.ex
 refine Zmy lk hcd S len fun A outer s H vs Q E hr hsp=>?_
 obtain ⟨t,h,q⟩:=hbody cdv A outer s H vs Q E hr hsp
 exact ⟨t,h.nox,q⟩
theorem Jl.binds {x qual:Str}{st:Stmt}{f:Addr}{fd:FuncData}{ps:List Str} (F:Jl K x qual st f fd)
  (h:∀(kV doc pm:Value) (an:Option Addr) (cdv ct:Value) (us:List Value),us.length=ps.length->bindArgs (PySem.W.fnOf x qual (ZaB st) (U0 st) (Zl st) .none kV doc pm an cdv ct) ⟨us,[]⟩=pure (ps.zip us)):Binds K fd ps []:=by
 obtain ⟨oc,od,kV,doc,pm,an,cdv,ct,osl,rfl,lk,hcd⟩:=F.ex
 exact .all (h kV doc pm an cdv ct)
theorem ZX {x qual:Str}{st:Stmt}{f:Addr}{oc:Value}{od an:Option Addr}{osl:Array (Option Value)}{kV doc pm cdv ct:Value} (l:K.lookup f=some ⟨oc,od,.func (PySem.W.fnOf x qual (ZaB st) (U0 st) (Zl st) .none kV doc pm an cdv ct),osl⟩)
  (c:PySem.W.codeIn K cdv qual=true) (k:PySem.W.keepIn K (.ref f)=true):Jl K x qual st f (PySem.W.fnOf x qual (ZaB st) (U0 st) (Zl st) .none kV doc pm an cdv ct):=⟨⟨oc,od,kV,doc,pm,an,cdv,ct,osl,rfl,l,c⟩,k⟩
end
theorem JF {A:Around}{k:Nat} (hr:J1 k A):A.units+1<cLine:=Nat.lt_of_le_of_lt (Nat.add_le_add_left (by decide:1<=64) _) hr.units
theorem ZV {n:Nat} (h:n<=1000):n<sizeLine:=Nat.lt_of_le_of_lt h (by decide)
section
variable {X:Cx}
theorem pv (i:Nat) {x:Str}{pos:Pos} (hN:X.N[i]? = some x:=by rfl) (hv:Vis X.env.scope x:=by first | exact Or.inl rfl | exact Or.inr (Or.inl rfl) | exact Or.inr (Or.inr rfl)) (hd:(x==("__debug__" : Str))=false:=by decide)
  (hcd:(x==("__classdict__" : Str))=false:=by decide):PE X (.Name x pos) (ZdP i):=ZlJ hN hv hd hcd
end
theorem Jq {A B:Prop} (h:B):if false=true then A else B:=by
 rw [if_neg Bool.false_ne_true]
 exact h
theorem Wh {A B:Prop} (h:A):if true=true then A else B:=by
 rw [if_pos rfl]
 exact h
theorem Y0 {c A B:Prop} [Decidable c] (h1:c->A) (h2:¬c->B):if c then A else B:=by
 by_cases h:c
 ·rw [if_pos h]
  exact h1 h
 ·rw [if_neg h]
  exact h2 h
theorem Zgo {c A B:Prop} [Decidable c] (hc:c) (h:B):if (!decide c)=true then A else B:=by
 rw [decide_eq_true hc]
 exact Jq h
def Zh (H H':Hp):Prop:=∀b o,H b=some o->H' b=some o
theorem Zh.refl (H:Hp):Zh H H:=fun _ _ h=>h
theorem Zh.trans {H H1 H2:Hp} (a:Zh H H1) (b:Zh H1 H2):Zh H H2:=fun c o h=>b c o (a c o h)
theorem Zh.free {H H':Hp} (e:Zh H H') {l:Addr} (h:H' l=Option.none):H l=Option.none:=by
 cases q:H l with
 | none=>rfl
 | some o=>
  rw [e l o q] at h
  cases h
theorem Zh.seq {K:PySem.W.Frag}{H H':Hp}{a:Addr}{xs:List V} (e:Zh H H') (h:Zu K H a xs):Zu K H' a xs:=by
 rcases h with (h | ⟨o,h⟩) | h
 ·exact .inl (.inl (e _ _ h))
 ·exact .inl (.inr ⟨o,e _ _ h⟩)
 ·exact .inr h
end L2
set_option maxHeartbeats 4000000
namespace L2
open PySem PySem.Spec PyProof.Rows
section
variable {prog:Program}{w:World}{A:Around}{R:Result->Shared->Prop}{s:Shared}
theorem Zdi {elt target iter:Expr}{ifs:List Expr}{scope:Scope}{pos:Pos}{it acc:Value}{env:Env} (I:Nat->Shared->Prop)
  (turn:∀n s,I n s->wpAny (model prog w) A (pyNext it) (fun r s₁=>match r with
   | none=>R (.ok .next) s₁
   | some v=>wpAny (model prog w) A (letOwnedTupleGo target it v) (fun _ s₁'=>wpAny (model prog w) A (assign target env v) (fun _ s₂=>
     wpAny (model prog w) A (forIn ifs true fun c r=>if r=true then do let ok <- isTrue c env (eval c env);pure (ForInStep.yield ok) else pure (ForInStep.yield r)) (fun ok s₃=>
      if ok=true then wpAny (model prog w) A (eval elt env) (fun x s₄=>
       wpAny (model prog w) A (call (.builtin "list.append") [acc,x]) (fun _ s₅=>∃m,m<n/\I m s₅) (fun _ _=>False) s₄) (fun _ _=>False) s₃
      else ∃m,m<n/\I m s₃) (fun _ _=>False) s₂) (fun _ _=>False) s₁') (fun _ _=>False) s₁) (fun _ _=>False) s)
  (n:Nat) (h:I n s):codeAny (model prog w) A (.compLoop (.ListComp elt [⟨target,iter,ifs,0⟩] scope pos) 0 it acc env) R s:=by
 refine codeAny_loop rfl I (fun n s hI=>?_) n h
 show wpAny _ A ((compTurn (.ListComp elt [⟨target,iter,ifs,0⟩] scope pos) 0 it acc env).onRaise (fun x=>do noteFrame x env;theTreesLotGoes x)) _ _ s
 refine wpAny_noted ?_
 rw [compTurn_list]
 refine wpAny_bind (wpAny_standAt (wpAny_bind (wpAny_mono (turn n s hI) (fun r s₁ h₁=>?_) fun _ _ h'=>h'.elim)))
 cases r with
 | none=>exact wpAny_pure h₁
 | some v=>
  refine wpAny_bind (wpAny_mono h₁ (fun _ s₁' h₁'=>?_) fun _ _ h'=>h'.elim)
  refine wpAny_bind (wpAny_mono h₁' (fun _ s₂ h₂=>wpAny_bind (wpAny_mono h₂ (fun ok s₃ h₃=>?_) fun _ _ h'=>h'.elim)) fun _ _ h'=>h'.elim)
  cases ok with
  | false=>exact wpAny_pure ⟨rfl,h₃⟩
  | true=>
   exact wpAny_bind (wpAny_bind (wpAny_mono h₃ (fun x s₄ h₄=>wpAny_bind (wpAny_mono h₄ (fun _ s₅ h₅=>wpAny_pure (wpAny_pure ⟨rfl,h₅⟩)) fun _ _ h'=>h'.elim)) fun _ _ h'=>h'.elim))
end
theorem Zdu (env:Env) (f:Str×NameKind->List (Str×Addr)->Sem (ForInStep (List (Str×Addr))))
  (hf:∀n k r,f (n,k) r=if (k==NameKind.free)=true then (do let a <- cellOf env n;pure (ForInStep.yield ((n,a)::r))) else pure (ForInStep.yield r)):
  ∀(ns:List (Str×NameKind)) (acc:List (Str×Addr)),(∀y∈ns,y.2 = .free -> ∃c,env.cells.lookup y.1=some c)->(∀x c,acc.lookup x=some c->env.cells.lookup x=some c) ->
   ∃cl,forIn ns acc f=pure cl/\(∀x c,cl.lookup x=some c->env.cells.lookup x=some c)/\(∀y∈ns,y.2 = .free -> ∃c,cl.lookup y.1=some c)/\(∀x c,acc.lookup x=some c -> ∃c',cl.lookup x=some c')
 | [],acc,_,ha=>⟨acc,by rw [List.forIn_nil],ha,fun _ h=>(nomatch h),fun x c h=>⟨c,h⟩⟩
 | (n,k)::r,acc,hn,ha=>by
  rw [List.forIn_cons,hf]
  by_cases hk:k = .free
  ·subst hk
   obtain ⟨c,hc⟩:=hn (n,.free) List.mem_cons_self rfl
   have hc':env.cells.lookup n=some c:=hc
   have e1:cellOf env n=pure c:=by unfold cellOf;rw [hc']
   obtain ⟨cl,h1,h2,h3,h4⟩:=Zdu env f hf r ((n,c)::acc) (fun y hy=>hn y (List.mem_cons_of_mem _ hy)) (fun x c' hx=>by
    rw [List.lookup_cons] at hx
    cases e:x==n with
    | true=>
     rw [e] at hx
     have:x=n:=by simpa using e
     subst this
     rw [<- Option.some.inj hx];exact hc'
    | false=>rw [e] at hx;exact ha x c' hx)
   refine ⟨cl,?_,h2,fun y hy hyf=>?_,fun x c' hx=>?_⟩
   ·rw [if_pos (by rfl),e1]
    exact h1
   ·rcases List.mem_cons.mp hy with e | hy
    ·subst e
     exact h4 n c (by simp)
    ·exact h3 y hy hyf
   ·cases e:x==n with
    | true=>exact h4 x c (by rw [List.lookup_cons,e])
    | false=>exact h4 x c' (by rw [List.lookup_cons,e];exact hx)
  ·have hk':(k==NameKind.free)=false:=by simpa using hk
   obtain ⟨cl,h1,h2,h3,h4⟩:=Zdu env f hf r acc (fun y hy=>hn y (List.mem_cons_of_mem _ hy)) ha
   refine ⟨cl,?_,h2,fun y hy hyf=>?_,h4⟩
   ·rw [hk',if_neg Bool.false_ne_true]
    exact h1
   ·rcases List.mem_cons.mp hy with e | hy
    ·subst e
     exact absurd hyf hk
    ·exact h3 y hy hyf
theorem Zdx {scope:Scope}{env:Env} (h:∀y∈scope.names,y.2 = .free -> ∃c,env.cells.lookup y.1=some c):
  ∃cl,closureFor scope env=pure cl/\(∀x c,cl.lookup x=some c->env.cells.lookup x=some c)/\(∀y∈scope.names,y.2 = .free -> ∃c,cl.lookup y.1=some c):=by
 obtain ⟨cl,h1,h2,h3,_⟩:=Zdu env (fun x r=>match x with
  | (n,k)=>if (k==NameKind.free)=true then (do let a <- cellOf env n;pure (ForInStep.yield ((n,a)::r))) else pure (ForInStep.yield r)) (fun _ _ _=>rfl) scope.names [] h (fun x c q=>by simp at q)
 refine ⟨cl,?_,h2,h3⟩
 unfold closureFor
 refine Eq.trans ?_ h1
 have e:∀(m:Sem (List (Str×Addr))),(m >>= fun r=>(pure r >>= fun r=>pure r))=m:=fun m=>by simp only [pure_bind,bind_pure]
 exact e _
def WZ (n:Nat) (fi:List Nat) (σ:St):St:=List.replicate n none++fi.map fun i=>σ.getD i none
def Zcu:TT:=fun _ H Q=>Q true H
def PTs (X:Cx) (ifs:List Expr) (t:TT):Prop:=
 ∀(pins:List (Addr×Obj)) (s:Shared) (σ:St) (H:Hp) (Q:Bool->Hp->Prop),Inv X pins σ H s->t σ H Q ->
  wpAny (model X.prog X.w) X.A (forIn ifs true fun c r=>if r=true then do let ok <- isTrue c X.env (eval c X.env);pure (ForInStep.yield ok) else pure (ForInStep.yield r)) (TP X pins σ Q) X.xe s
theorem Yh {X:Cx}:PTs X [] Zcu:=fun pins s σ H Q I h=>wpAny_tests_nil ⟨H,I,h⟩
theorem ZbU {X:Cx}{c:Expr}{t:TT} (h:PT X c t):PTs X [c] t:=fun pins s σ H Q I q=>wpAny_tests_one (h pins s σ H Q I q)
structure ZR (N:List Str) (osc scope:Scope) (Ls Fs:List Str) (fi:List Nat):Prop where
 kind:scope.kind = .function
 cells:∀y∈scope.names,y.2 ≠ .cell
 names:∀y∈scope.names,y.2 = .local->scope.names.lookup y.1=some .local
 fre:∀x∈Fs,scope.names.lookup x=some .free
 all:∀y∈scope.names,y.2 = .free->osc.names.lookup y.1=some .cell∨osc.names.lookup y.1=some .free
 ix:fi.map (fun i=>N[i]?)=Fs.map some
def blk (X:Cx) (scope:Scope) (N:List Str) (cl:List (Str×Addr)) (C:Addr) (s3:Shared) (H3:Hp) (ex:List Addr):Cx:=
 { X with N:=N,s₀:=s3,H₀:=H3,env:=compEnvC scope cl C X.env,outer:=X.stack,stack:=X.stack,ex:=ex,fn:=fun _=>false,pn:=[],xe:=fun _ _=>False }
theorem ZaR {env:Env}:∀{names:List (Str×NameKind)}{x:Str},(∀y∈names,y.2 ≠ .cell) ->
    ((names.map fun (n,k)=>if (k==NameKind.free&&env.scope.kind == .function&&env.kindOf n==some .cell) then (n,NameKind.cell) else (n,k)).lookup x=some .cell ∨
     (names.map fun (n,k)=>if (k==NameKind.free&&env.scope.kind == .function&&env.kindOf n==some .cell) then (n,NameKind.cell) else (n,k)).lookup x=some .free) -> ∃y∈names,y.1=x/\y.2 = .free
  | [],_,_,h=>by simp at h
  | (n,k)::r,x,hc,h=>by
    have ih:=@ZaR env r x (fun y hy=>hc y (List.mem_cons_of_mem _ hy))
    cases hx:x==n with
    | true=>
      have e:x=n:=by simpa using hx
      subst e
      by_cases hb:(k==NameKind.free&&env.scope.kind == .function&&env.kindOf x==some .cell)=true
      · have:k = .free:=by
          simp only [Bool.and_eq_true,beq_iff_eq] at hb
          exact hb.1.1
        exact ⟨(x,k),List.mem_cons_self,rfl,this⟩
      · simp only [List.map_cons,if_neg hb,List.lookup_cons,hx] at h
        rcases h with h | h
        · exact absurd (Option.some.inj h) (hc (x,k) List.mem_cons_self)
        · exact ⟨(x,k),List.mem_cons_self,rfl,Option.some.inj h⟩
    | false=>
      have h':((r.map fun (n,k)=>if (k==NameKind.free&&env.scope.kind == .function&&env.kindOf n==some .cell) then (n,NameKind.cell) else (n,k)).lookup x=some .cell ∨
        (r.map fun (n,k)=>if (k==NameKind.free&&env.scope.kind == .function&&env.kindOf n==some .cell) then (n,NameKind.cell) else (n,k)).lookup x=some .free):=by
        by_cases hb:(k==NameKind.free&&env.scope.kind == .function&&env.kindOf n==some .cell)=true
        · simpa only [List.map_cons,if_pos hb,List.lookup_cons,hx] using h
        · simpa only [List.map_cons,if_neg hb,List.lookup_cons,hx] using h
      obtain ⟨y,hy,z⟩:=ih h'
      exact ⟨y,List.mem_cons_of_mem _ hy,z⟩
theorem GP {env:Env}{x:Str}:∀{names:List (Str×NameKind)},names.lookup x=some .free ->
    ((names.map fun (n,k)=>if (k==NameKind.free&&env.scope.kind == .function&&env.kindOf n==some .cell) then (n,NameKind.cell) else (n,k)).lookup x=some .cell ∨
     (names.map fun (n,k)=>if (k==NameKind.free&&env.scope.kind == .function&&env.kindOf n==some .cell) then (n,NameKind.cell) else (n,k)).lookup x=some .free)
  | [],h=>by simp at h
  | (n,k)::r,h=>by
    cases hx:x==n with
    | true=>
      have e:x=n:=by simpa using hx
      subst e
      rw [List.lookup_cons,hx] at h
      have hk:k = .free:=Option.some.inj h
      subst hk
      by_cases hb:(NameKind.free==NameKind.free&&env.scope.kind == .function&&env.kindOf x==some .cell)=true
      · left;simp only [List.map_cons,if_pos hb,List.lookup_cons,hx]
      · right;simp only [List.map_cons,if_neg hb,List.lookup_cons,hx]
    | false=>
      rw [List.lookup_cons,hx] at h
      have ih:=@GP env x r h
      by_cases hb:(k==NameKind.free&&env.scope.kind == .function&&env.kindOf n==some .cell)=true
      · simpa only [List.map_cons,if_pos hb,List.lookup_cons,hx] using ih
      · simpa only [List.map_cons,if_neg hb,List.lookup_cons,hx] using ih
theorem aLt {h:Heap}{b:Addr}{o:Obj} (e:h.get? b=some o):@LT.lt Nat _ b h.objs.size:=Heap.lt_size e
def LcW (J:It) (σ:St) (g:TG) (tc:TT) (te:TE) (H:Hp) (Q:VK):Prop:=
 ∃W:Nat->Nat->List V->Hp->Prop,(∃m,W 0 m [] H) /\ ∀i m ys H,W i m ys H ->
  (J.stop i H/\ys.length<=sizeLine /\ ∀D,H D=none->Q (.ref D) (upd H D (.lst ys))) ∨
  (J.go i H/\ys.length<=sizeLine /\ ∃N:List V->Hp->Prop,(∀ys' H',N ys' H' -> ∃m',m'<m/\W (i+1) m' ys' H') /\ ∀x H',J.yld i H x H'->g x σ H' fun σ2 H2=>
   tc σ2 H2 fun b H3=>if b=true then te σ2 H3 fun y H4=>N (ys ++ [y]) H4 else N ys H3)
def tLc (n:Nat) (fi:List Nat) (wi:TI) (g:TG) (tc:TT) (te:TE):TE:=fun σ H Q=>wi σ H fun J H1=>LcW J (WZ n fi σ) g tc te H1 Q
section
variable {X:Cx}{pins:List (Addr×Obj)} {σ:St}{tg elt iter:Expr}{ifs:List Expr}{scope:Scope}{pos:Pos}{Ls Fs:List Str}{fi:List Nat}{g:TG}{tc:TT}{te:TE}
structure ZkR (X:Cx) (tg:Expr) (J:It) (fp:List Addr) (it:Addr) (tn:Nat->Heap->Prop):Prop where
 obj:∀i h,tn i h -> ∀b∈fp,∃o,h.get? b=some o /\ ∀v,o.data ≠ .cell v
 keep:∀i h h',tn i h->(∀b∈fp,∀o,h.get? b=some o->h'.get? b=some o)->tn i h'
 item:∀(i:Nat) (pins:List (Addr×Obj)) (s:Shared) (σ:St) (H:Hp) (E:Value->Shared->Prop),Inv X pins σ H s->(∀b∈fp,U7 X pins H b)->tn i s.heap->J.go i H ->
  wpAny (model X.prog X.w) X.A (pyNext (.ref it)) (fun r s1=>∃u,r=some u /\
   wpAny (model X.prog X.w) X.A (letOwnedTupleGo tg (.ref it) u) (fun _ s2=>∃x H',Inv X pins σ H' s2/\RelV x u/\J.yld i H x H'/\tn (i+1) s2.heap /\ ∀b∈fp,H' b=none) E s1) E s
 done:∀(i:Nat) (pins:List (Addr×Obj)) (s:Shared) (σ:St) (H:Hp) (E:Value->Shared->Prop),Inv X pins σ H s->(∀b∈fp,U7 X pins H b)->tn i s.heap->J.stop i H ->
  wpAny (model X.prog X.w) X.A (pyNext (.ref it)) (fun r s1=>r=none/\Inv X pins σ H s1) E s
 self:∀(A:Around) (i:Nat) (s:Shared) (Q:Value->Shared->Prop) (E:Value->Shared->Prop),tn i s.heap->Q (.ref it) s->wpAny (model X.prog X.w) A (pyIter (.ref it)) Q E s
theorem Turn.at {X:Cx}{tg:Expr}{J:It}{fp:List Addr}{it:Addr}{tn:Nat->Heap->Prop} (T:Turn X.prog X.w X.K tg J fp it tn) (hc:X.calm=true):ZkR X tg J fp it tn:=⟨T.obj,T.keep,T.item X rfl rfl rfl hc,T.done X rfl rfl rfl hc,T.self⟩
theorem Zel {H2:Hp}{s2:Shared}{it:Addr}{fp:List Addr}{tn:Nat->Heap->Prop}{J:It}{cl:List (Str×Addr)}{Q:VK}{E:Value->Shared->Prop}{RR:Value->Addr->Result->Shared->Prop}
  (S:ZR X.N X.env.scope scope Ls Fs fi)
  (hb:∀C s3 H3 ex,PG (blk X scope (Ls++Fs) cl C s3 H3 ex) tg g/\PTs (blk X scope (Ls++Fs) cl C s3 H3 ex) ifs tc/\PE (blk X scope (Ls++Fs) cl C s3 H3 ex) elt te)
  (hcl1:∀x c,cl.lookup x=some c->X.env.cells.lookup x=some c) (hcl2:∀y∈scope.names,y.2 = .free -> ∃c,cl.lookup y.1=some c)
  (I2:Inv X pins σ H2 s2) (TX:∀C s3 H3 ex,ZkR (blk X scope (Ls++Fs) cl C s3 H3 ex) tg J fp it tn) (st2:tn 0 s2.heap) (f2:∀b∈fp,U7 X pins H2 b)
  (hW:∃W:Nat->Nat->List V->Hp->Prop,(∃m,W 0 m [] H2) /\ ∀i m ys H,W i m ys H ->
   (J.stop i H/\ys.length<=sizeLine /\ ∀D,H D=none->Q (.ref D) (upd H D (.lst ys))) ∨
   (J.go i H/\ys.length<=sizeLine /\ ∃N:List V->Hp->Prop,(∀ys' H',N ys' H' -> ∃m',m'<m/\W (i+1) m' ys' H') /\ ∀x H',J.yld i H x H'->g x (WZ Ls.length fi σ) H' fun σ2 H2=>
    tc σ2 H2 fun b H3=>if b=true then te σ2 H3 fun y H4=>N (ys ++ [y]) H4 else N ys H3))
  (fin:∀D C H' s' m,Inv X pins σ H' s'->Q (.ref D) H'->s'.heap.Ns C m->U7 X pins H' C->RR (.ref D) C (.ok .next) s'):
  wpAny (model X.prog X.w) X.A (newList []) (fun acc s₃=>wpAny (model X.prog X.w) X.A (newFunctionEnv scope X.env.globals cl [] X.env.qual none .none (some X.env)) (fun cenv s₄=>
   codeAny (model X.prog X.w) X.A (.compStart (.ListComp elt [⟨tg,iter,ifs,0⟩] scope pos) 0 (.ref it) acc { cenv with scope:=relabel scope X.env }) (RR acc cenv.locals) s₄) E s₃) E s2:=by
 refine wpAny_newObj_type (wpAny_newFunctionEnv S.cells (by intro y hy;simp at hy) (fun h₁ hns₁ hsb₁=>?_) S.kind)
 dsimp only at hns₁ hsb₁ ⊢
 generalize hH3:s2.heap.push { cls:=.type "list", dict:=none,data:=.seq ([]:List Value).toArray } = h3 at hns₁ hsb₁ ⊢
 generalize hC:h3.objs.size=C at hns₁ hsb₁ ⊢
 generalize hD:s2.heap.objs.size=D
 have hCD:C=D+1:=by rw [<- hC,<- hH3,Heap.size_push,hD]
 have k23:∀b o,s2.heap.get? b=some o->h3.get? b=some o:=fun b o e=>by rw [<- hH3];exact Heap.get?_push_of_some _ e
 have k34:∀b o,h3.get? b=some o->h₁.get? b=some o:=fun b o e=>hsb₁.extBut b o (Nat.ne_of_lt (by have:=aLt e;lia)) (Heap.get?_push_of_some _ e)
 have hDo:h3.get? D=some { cls:=.type "list", data:=.seq ([]:List Value).toArray }:=by rw [<- hH3,<- hD];exact Heap.get?_push_size _ rfl
 obtain ⟨W,⟨m0,w0⟩,turn⟩:=hW
 have T:=TX C { s2 with heap:=h3 } H2 (D::fp)
 have I3:Inv X pins σ H2 { s2 with heap:=h3 }:=I2.kept (t':=s2.toks) k23
 have frD:H2 D=none:=by rw [<- hD];exact I2.fresh
 have frC:H2 C=none:=I2.hok.fresh (by lia)
 have DL:D≠X.env.locals:=Nat.ne_of_gt (by have:@LT.lt Nat _ X.env.locals s2.heap.objs.size:=I2.lt;lia)
 have CL:C≠X.env.locals:=Nat.ne_of_gt (by have:@LT.lt Nat _ X.env.locals s2.heap.objs.size:=I2.lt;lia)
 have cellLt:∀x c,X.env.cells.lookup x=some c -> @LT.lt Nat _ c D:=fun x c e=>by
  obtain ⟨v,q⟩:=I2.cell x c e
  have:@LT.lt Nat _ c s2.heap.objs.size:=q.lt
  lia
 have fpLt:∀b∈fp,@LT.lt Nat _ b D:=fun b hb=>by
  obtain ⟨o,e,_⟩:=T.obj _ _ st2 b hb
  have:=aLt e
  lia
 have exLoc:∀b∈D::fp,b≠C/\(∀x c,X.env.cells.lookup x=some c->c≠b):=fun b hb=>by
  rcases List.mem_cons.mp hb with e | hb
  ·subst e
   exact ⟨Nat.ne_of_lt (by lia),fun x c e=>Nat.ne_of_lt (cellLt x c e)⟩
  ·exact ⟨Nat.ne_of_lt (by have:=fpLt b hb;lia),(f2 b hb).2.2.2.2.1⟩
 have ok':(blk X scope (Ls++Fs) cl C { s2 with heap:=h3 } H2 (D::fp)).Ok:=by
  refine ⟨I2.ok.mod,S.kind,I2.ok.glob,I2.ok.blt,?_,fun x y c e1 e2=>I2.ok.inj x y c (hcl1 x c e1) (hcl1 y c e2),fun x hx=>?_,fun x c hx=>absurd hx Bool.false_ne_true,I2.ok.hd,I2.ok.frames,.inl rfl,
   fun b hb=>⟨(exLoc b hb).1,fun x c e=>(exLoc b hb).2 x c (hcl1 x c e)⟩,I3.bs,Nat.le_trans I2.ok.bsz I3.sz,fun b o e hb=>?_,fun b hb=>?_,I3.stack,I3.stkFree⟩
  ·show h3.objs.size<=C
   lia
  ·obtain ⟨y,hy,e1,e2⟩:=ZaR S.cells hx
   obtain ⟨c,q⟩:=hcl2 y hy e2
   exact ⟨c,e1 ▸ q⟩
  ·rcases List.mem_cons.mp hb with z | hb
   ·exact absurd z (Nat.ne_of_lt (by have:=aLt (I2.bk b o e);lia))
   ·rcases (f2 b hb).2.2.2.1 with z | z
    ·exact I2.ok.noex b o e z
    ·have h1:@LT.lt Nat _ b X.base.objs.size:=aLt e
     have h2:@LE.le Nat _ X.base.objs.size X.s₀.heap.objs.size:=I2.ok.bsz
     have h3:@LE.le Nat _ X.s₀.heap.objs.size b:=z
     lia
  ·intro hz
   have hz':=I2.stkSub b hz
   rcases List.mem_cons.mp hb with e | hb
   ·subst e
    rcases List.mem_cons.mp hz' with z | z
    ·exact DL z
    ·exact I2.nofs (by lia) z
   ·rcases List.mem_cons.mp hz' with z | z
    ·exact (f2 b hb).2.1 z
    ·exact (f2 b hb).2.2.1 z
 obtain ⟨m2,hn2,hl2⟩:=id I2.loc
 have cap:∀(i:Nat) (x:Str) (v:V),(Ls++Fs)[i]? = some x->(WZ Ls.length fi σ)[i]? = some (some v) -> ∃u c,RelV v u/\((relabel scope X.env).names.lookup x=some .cell∨(relabel scope X.env).names.lookup x=some .free) /\
   cl.lookup x=some c/\X.env.cells.lookup x=some c/\s2.heap.IsCell c (some u):=by
  intro i x v e1 e2
  unfold WZ at e2
  by_cases hi:i<Ls.length
  ·rw [List.getElem?_append_left (by simpa using hi),List.getElem?_replicate,if_pos hi] at e2
   cases e2
  ·have hi':Ls.length<=i:=Nat.le_of_not_lt hi
   rw [List.getElem?_append_right hi'] at e1
   rw [List.getElem?_append_right (by simpa using hi'),List.length_replicate,List.getElem?_map] at e2
   cases e3:fi[i-Ls.length]? with
   | none=>rw [e3] at e2;cases e2
   | some j=>
    rw [e3] at e2
    have e4:σ.getD j none=some v:=Option.some.inj e2
    have e5:X.N[j]? = some x:=by
     have q:=congrArg (fun l=>l[i-Ls.length]?) S.ix
     simp only [List.getElem?_map,e3,e1,Option.map_some] at q
     exact Option.some.inj q
    have e6:σ[j]? = some (some v):=by
     rw [List.getD_eq_getElem?_getD] at e4
     cases e7:σ[j]? with
     | none=>rw [e7] at e4;cases e4
     | some z=>rw [e7] at e4;exact congrArg some e4
    have fx:=S.fre x (List.mem_of_getElem? e1)
    have al:=S.all (x,.free) (PySem.mem_of_lookup fx) rfl
    have vis:Vis X.env.scope x:=by
     rcases al with z | z
     ·exact .inr (.inl z)
     ·exact .inr (.inr z)
    obtain ⟨u,ru,lk⟩:=hl2 j x v e5 e6 vis
    rcases lk with ⟨k,_⟩ | ⟨k,c,ec,hcell⟩
    ·have k':X.env.scope.names.lookup x=some .local:=k
     rcases al with z | z
     ·rw [show X.env.scope.names.lookup x=some .cell from z] at k';cases k'
     ·rw [show X.env.scope.names.lookup x=some .free from z] at k';cases k'
    ·obtain ⟨c',ec'⟩:=hcl2 (x,.free) (PySem.mem_of_lookup fx) rfl
     have:c'=c:=Option.some.inj ((hcl1 x c' ec').symm.trans ec)
     subst this
     exact ⟨u,c',ru,GP fx,ec',ec,hcell⟩
 have capLen:(WZ Ls.length fi σ).length=(Ls++Fs).length:=by
  unfold WZ
  have q:=congrArg List.length S.ix
  simp only [List.length_map] at q
  rw [List.length_append,List.length_replicate,List.length_map,List.length_append,q]
 have re:∀{ps:List (Addr×Obj)} {σ':St}{H':Hp}{s':Shared},Inv (blk X scope (Ls++Fs) cl C { s2 with heap:=h3 } H2 (D::fp)) ps σ' H' s'->Inv (blk X scope (Ls++Fs) cl C { s2 with heap:=h3 } H2 (D::fp)) ps (WZ Ls.length fi σ) H' s':=by
  intro ps σ' H' s' J'
  refine ⟨J'.ok,J'.os,J'.bare,J'.base,?_,J'.cell,J'.free,J'.freeC,J'.pin,J'.hok,capLen⟩
  obtain ⟨m,hn,_⟩:=J'.loc
  refine ⟨m,hn,fun i x v e1 e2 _=>?_⟩
  obtain ⟨u,c,ru,kk,ec,ec2,o,ho,hd⟩:=cap i x v e1 e2
  obtain ⟨sl,q⟩:=J'.base.any (k23 c o ho) (I2.freeC x c ec2) fun z=>(exLoc c z).2 x c ec2 rfl
  exact ⟨u,ru,.inr ⟨kk,c,ec,_,q,hd⟩⟩
 have I4:Inv (blk X scope (Ls++Fs) cl C { s2 with heap:=h3 } H2 (D::fp)) [(D,{ cls:=.type "list", data:=.seq ([]:List Value).toArray })] (WZ Ls.length fi σ) H2 { s2 with heap:=h₁,toks:=s2.toks+([]:List (Str×Value)).length }:=by
  refine ⟨ok',rfl,I2.bare,Un.kept k34,⟨_,hns₁,fun i x v e1 e2 _=>?_⟩,fun x c e=>?_,frC,fun x c e=>I2.freeC x c (hcl1 x c e),fun p hp=>?_,I2.hok.kept fun b o e=>k34 b o (k23 b o e),capLen⟩
  ·obtain ⟨u,c,ru,kk,ec,ec2,o,ho,hd⟩:=cap i x v e1 e2
   exact ⟨u,ru,.inr ⟨kk,c,ec,o,k34 c o (k23 c o ho),hd⟩⟩
  ·obtain ⟨v,o,ho,hd⟩:=I2.cell x c (hcl1 x c e)
   exact ⟨v,o,k34 c o (k23 c o ho),hd⟩
  ·have hp':p=(D,{ cls:=.type "list", data:=.seq ([]:List Value).toArray }):=by
    have:p∈([]:List (Addr×Obj)) ++ [(D,{ cls:=.type "list", data:=.seq ([]:List Value).toArray })]:=hp
    simpa using this
   subst hp'
   refine ⟨k34 D _ hDo,frD,Nat.ne_of_lt (show @LT.lt Nat _ D C by lia),fun z=>?_,fun v z=>by cases z⟩
   rcases List.mem_cons.mp (I2.stkSub D z) with z | z
   ·exact DL z
   ·exact I2.nofs (by lia) z
 obtain ⟨hg,ht,he⟩:=hb C { s2 with heap:=h3 } H2 (D::fp)
 have back:∀{ps:List (Addr×Obj)} {σ':St}{H':Hp}{s':Shared}{ys:List V}{its:List Value}{n:Nat},Inv (blk X scope (Ls++Fs) cl C { s2 with heap:=h3 } H2 (D::fp)) ps σ' H' s'->s'.heap.get? D=some { cls:=.type "list", data:=.seq its.toArray n } ->
   H' D=none->Vals ys its->ys.length<=sizeLine->Inv X pins σ (upd H' D (.lst ys)) s'/\U7 X pins (upd H' D (.lst ys)) C:=by
  intro ps σ' H' s' ys its n J' hDs hDn rv hz
  have neD:∀b o,s2.heap.get? b=some o->b≠D:=fun b o e=>Nat.ne_of_lt (by have:=aLt e;lia)
  have nex:∀b,b∉fp->b≠D->b∉D::fp:=fun b h1 h2 z=>(List.mem_cons.mp z).elim h2 h1
  have U:Un (frs X.stack) fp H2 (upd H' D (.lst ys)) s2.heap s'.heap:=by
   refine ⟨fun b o e n hb hx=>J'.base.keep b o (k23 b o e) n hb (nex b hx (neD b o e)),fun b o e n hb hx=>J'.base.slot b o (k23 b o e) n hb (nex b hx (neD b o e)),fun b o e n hx=>?_,fun b o e hx=>J'.base.there b o (k23 b o e) (nex b hx (neD b o e)),fun b xs e=>?_,fun b o u e=>?_,fun b ps e=>?_⟩
   ·rw [Zi (neD b o e)]
    exact J'.base.free b o (k23 b o e) n (nex b hx (neD b o e))
   ·rw [Zi (Zf e frD)]
    exact J'.base.tups b xs e
   ·rw [Zi (Zf e frD)]
    exact J'.base.frzs b o u e
   ·obtain ⟨more,q⟩:=J'.base.tbls b ps e
    exact ⟨more,by rw [Zi (Zf e frD)];exact q⟩
  have hok':Uv X.prog X.w (upd H' D (.lst ys)) s'.heap:=fun b u q=>by
   by_cases hbD:b=D
   ·subst hbD
    rw [Zb] at q
    cases q
    exact ⟨hz,its,n,rv,hDs⟩
   ·rw [Zi hbD] at q
    exact (J'.hok b u q).stay (fun c v _ r=>r) (fun c r=>by rw [Zi (Zf r hDn)];exact r) fun c xs r=>by rw [Zi (Zf r hDn)];exact r
  refine ⟨I2.call' J'.os U hok' J'.bare fun b hb=>⟨(f2 b hb).2.2.2.1,(f2 b hb).2.1,(f2 b hb).2.2.2.2.1,(f2 b hb).2.2.2.2.2⟩,?_⟩
  refine ⟨by rw [Zi (Nat.ne_of_gt (by lia))];exact J'.free,CL,I2.nofs (by lia),.inr (by have:=I2.sz;lia),fun x c e=>Nat.ne_of_lt (by have:=cellLt x c e;lia),fun p hp=>?_⟩
  have:=aLt (I2.pin p hp).1
  exact Nat.ne_of_lt (by lia)
 have loop:codeAny (model X.prog X.w) X.A (.compLoop (.ListComp elt [⟨tg,iter,ifs,0⟩] scope pos) 0 (.ref it) (.ref D) (compEnvC scope cl C X.env)) (RR (.ref D) C) { s2 with heap:=h₁,toks:=s2.toks+([]:List (Str×Value)).length }:=by
  refine Zdi (fun n s'=>∃(i:Nat) (ys:List V) (H':Hp) (its:List Value) (k:Nat),Inv (blk X scope (Ls++Fs) cl C { s2 with heap:=h3 } H2 (D::fp)) [(D,{ cls:=.type "list", data:=.seq its.toArray k })] (WZ Ls.length fi σ) H' s' /\
   Vals ys its/\tn i s'.heap/\(∀b∈fp,H' b=none)/\W i n ys H') ?_ m0 ⟨0,[],H2,[],0,I4,.nil,T.keep _ _ _ st2 fun b _ o e=>k34 b o (k23 b o e),fun b hb=>(f2 b hb).1,w0⟩
  rintro n s5 ⟨i,ys,H5,its,k,I5,rv,st5,fr5,w5⟩
  have stat:∀{H':Hp}{its':List Value}{k':Nat},(∀b∈fp,H' b=none) -> ∀b∈fp,U7 (blk X scope (Ls++Fs) cl C { s2 with heap:=h3 } H2 (D::fp)) [(D,{ cls:=.type "list", data:=.seq its'.toArray k' })] H' b:=fun hn b hb=>by
   refine ⟨hn b hb,(exLoc b (List.mem_cons_of_mem _ hb)).1,fun z=>ok'.exfs b (List.mem_cons_of_mem _ hb) z,.inl (List.mem_cons_of_mem _ hb),fun x c e=>(exLoc b (List.mem_cons_of_mem _ hb)).2 x c (hcl1 x c e),fun p hp=>?_⟩
   have hp':p=_:=List.mem_singleton.mp hp
   rw [hp']
   have:=fpLt b hb
   show D≠b
   exact Nat.ne_of_gt this
  have pinD:=I5.pin (D,{ cls:=.type "list", data:=.seq its.toArray k }) (List.mem_singleton.mpr rfl)
  rcases turn i n ys H5 w5 with ⟨stop,hz,qn⟩ | ⟨go,hz,N,hN,step⟩
  ·refine wpAny_mono (T.done i _ s5 _ H5 _ I5 (stat fr5) st5 stop) (fun r s6 ⟨hr,I6⟩=>?_) fun _ _ h=>h
   subst hr
   have pin6:=I6.pin (D,{ cls:=.type "list", data:=.seq its.toArray k }) (List.mem_singleton.mpr rfl)
   obtain ⟨b1,b2⟩:=back I6 pin6.1 pin6.2.1 rv hz
   obtain ⟨m,hn,_⟩:=I6.loc
   exact fin D C _ s6 m b1 (qn D pin6.2.1) hn b2
  ·refine wpAny_mono (T.item i _ s5 _ H5 _ I5 (stat fr5) st5 go) (fun r s6 ⟨u,hr,h6⟩=>?_) fun _ _ h=>h
   subst hr
   refine wpAny_mono h6 (fun _ s7 ⟨x,H7,I7,r7,y7,st7,fr7⟩=>?_) fun _ _ h=>h
   have I7':=I7.pinned (stat fr7) (T.obj _ _ st7)
   refine wpAny_mono (hg _ s7 _ H7 x u _ I7' r7 (step x H7 y7)) (fun _ s8 ⟨σ8,H8,I8,q8⟩=>?_) fun _ _ h=>h
   refine wpAny_mono (ht _ s8 σ8 H8 _ I8 q8) (fun ok s9 ⟨H9,I9,q9⟩=>?_) fun _ _ h=>h
   have keepT:∀{σ':St}{H':Hp}{s':Shared},Inv (blk X scope (Ls++Fs) cl C { s2 with heap:=h3 } H2 (D::fp)) ([(D,{ cls:=.type "list", data:=.seq its.toArray k })]++Zbf fp s7.heap) σ' H' s'->tn (i+1) s'.heap /\ ∀b∈fp,H' b=none:=by
    intro σ' H' s' J'
    refine ⟨T.keep _ _ _ st7 fun b hb o e=>(J'.pin (b,o) (List.mem_append_right _ (List.mem_append_right _ (J3 hb e)))).1,fun b hb=>?_⟩
    obtain ⟨o,e,d⟩:=T.obj _ _ st7 b hb
    exact (J'.pin (b,o) (List.mem_append_right _ (List.mem_append_right _ (J3 hb e)))).2.1
   cases ok with
   | false=>
    rw [if_neg Bool.false_ne_true] at q9 ⊢
    obtain ⟨m',hm,w'⟩:=hN _ _ q9
    exact ⟨m',hm,i+1,ys,H9,its,k,re I9.unpinned,rv,(keepT I9).1,(keepT I9).2,w'⟩
   | true=>
    rw [if_pos rfl] at q9 ⊢
    refine wpAny_mono (he _ s9 σ8 H9 _ I9 q9) (fun v s10 ⟨y,H10,I10,r10,q10⟩=>?_) fun _ _ h=>h
    obtain ⟨m',hm,w'⟩:=hN _ _ q10
    obtain ⟨k10,f10⟩:=keepT I10
    have I11:Inv (blk X scope (Ls++Fs) cl C { s2 with heap:=h3 } H2 (D::fp)) [(D,{ cls:=.type "list", data:=.seq its.toArray k })] (WZ Ls.length fi σ) H10 s10:=re I10.unpinned
    have pin11:=I11.pin (D,{ cls:=.type "list", data:=.seq its.toArray k }) (List.mem_singleton.mpr rfl)
    refine wpAny_list_append_plain ⟨k,pin11.1⟩ (fun h' hp' sb=>?_) (by rw [List.size_toArray,<- rv.length];exact hz)
    obtain ⟨k',hk'⟩:=hp'
    have e1:its.toArray.push v=(its ++ [v]).toArray:=by simp
    rw [e1] at hk'
    have I12:Inv (blk X scope (Ls++Fs) cl C { s2 with heap:=h3 } H2 (D::fp)) [] (WZ Ls.length fi σ) H10 { s10 with heap:=h',toks:=s10.toks }:=
     (I11.pins_of (pins':=[]) fun p hp=>(nomatch hp)).turned (it:=D) (fun b o hb e=>(sb.2 b hb).trans e) pin11.2.1 pin11.2.2.1 (.inl List.mem_cons_self) (fun x c e=>(exLoc D List.mem_cons_self).2 x c (hcl1 x c e)) fun p hp=>(nomatch hp)
    have I13:Inv (blk X scope (Ls++Fs) cl C { s2 with heap:=h3 } H2 (D::fp)) [(D,{ cls:=.type "list", data:=.seq (its ++ [v]).toArray k' })] (WZ Ls.length fi σ) H10 { s10 with heap:=h',toks:=s10.toks }:=I12.pins_of fun p hp=>by
     have hp':p=_:=List.mem_singleton.mp hp
     subst hp'
     exact ⟨hk',pin11.2.1,pin11.2.2.1,pin11.2.2.2.1,fun v z=>by cases z⟩
    refine ⟨m',hm,i+1,ys ++ [y],H10,its ++ [v],k',I13,rv.append (.cons r10 .nil),?_,f10,w'⟩
    exact T.keep _ _ _ k10 fun b hb o e=>(sb.2 b (Nat.ne_of_lt (fpLt b hb))).trans e
 exact codeAny_compStart_list loop (T.self _ 0 _ _ _ (T.keep _ _ _ st2 fun b _ o e=>k34 b o (k23 b o e)) loop)
theorem Gz {wi:TI} (S:ZR X.N X.env.scope scope Ls Fs fi) (hc:X.calm=true) (hi:PI X tg iter wi)
  (hb:∀cl C s3 H3 ex,PG (blk X scope (Ls++Fs) cl C s3 H3 ex) tg g/\PTs (blk X scope (Ls++Fs) cl C s3 H3 ex) ifs tc/\PE (blk X scope (Ls++Fs) cl C s3 H3 ex) elt te)
  (hs:∀x,foldedSetIterable iter X.env x=pure x:=by intro _;rfl):PE X (.ListComp elt [⟨tg,iter,ifs,0⟩] scope pos) (tLc Ls.length fi wi g tc te):=by
 intro pins s σ H Q I h
 rw [eval_ListComp]
 obtain ⟨cl,hcl,hcl1,hcl2⟩:=Zdx (scope:=scope) (env:=X.env) fun y hy hf=>I.ok.has y.1 (S.all y hy hf)
 refine wpAny_comprehension_free (use:=none) rfl hs hcl S.kind S.names (wpAny_mono (hi pins s σ H _ I h) (fun v s1 h1=>wpAny_mono h1 (fun itv s2 h2=>?_) fun _ _ e=>e) fun _ _ e=>e)
 obtain ⟨it,fp,tn,J,H2,e,I2,T,st2,f2,hW⟩:=h2
 subst e
 refine Zel (RR:=fun acc C=>compPost (model X.prog X.w) X.A X.xe none (EP X pins σ Q) acc C) S (hb cl) hcl1 hcl2 I2 (fun C s3 H3 ex=>Turn.at (X:=blk X scope (Ls++Fs) cl C s3 H3 ex) T hc) st2 f2 hW fun D C H' s' m I' q hn f=>?_
 obtain ⟨f0,f1,f2,f3,f4,f5⟩:=f
 exact ⟨m,hn,fun h' hs'=>⟨.ref D,H',I'.turned (it:=C) (t':=s'.toks) (fun b o hb e=>(hs'.2 b hb).trans e) f0 f1 f3 f4 f5,rfl,q⟩⟩
theorem GZ {wi:TI}{i:Nat}{x:Str}{pos' spos:Pos} (hN:X.N.Nodup) (hi':X.N[i]? = some x) (hx:Loc X.env.scope x) (S:ZR X.N X.env.scope scope Ls Fs fi) (hc:X.calm=true) (hi:PI X tg iter wi)
  (hb:∀cl C s3 H3 ex,PG (blk X scope (Ls++Fs) cl C s3 H3 ex) tg g/\PTs (blk X scope (Ls++Fs) cl C s3 H3 ex) ifs tc/\PE (blk X scope (Ls++Fs) cl C s3 H3 ex) elt te)
  (hsw:swapsWith (.ListComp elt [⟨tg,iter,ifs,0⟩] scope pos) (some (.Name x pos')) spos.line X.env=pure true:=by rfl)
  (hs:∀x,foldedSetIterable iter X.env x=pure x:=by intro _;rfl) (hf:X.fn x=true∨X.env.scope.names.lookup x=some .local:=by first | exact .inl rfl | exact .inr rfl | assumption):
  PS X (.Assign [.Name x pos'] (.ListComp elt [⟨tg,iter,ifs,0⟩] scope pos) spos) (Zg9 (tLc Ls.length fi wi g tc te) (W0 i)):=by
 intro pins s σ H D' I h
 rw [exec_Assign_Name_used _ _ _ _ hsw]
 obtain ⟨cl,hcl,hcl1,hcl2⟩:=Zdx (scope:=scope) (env:=X.env) fun y hy hf=>I.ok.has y.1 (S.all y hy hf)
 refine wpAny_bind (wpAny_standAt (wpAny_bind ?_))
 show wpAny _ X.A (do let _ <- comprehension (.ListComp elt [⟨tg,iter,ifs,0⟩] scope pos) scope X.env _ (newList []) false (eval iter X.env) (some (assign (.Name x pos') X.env))) _ _ s
 refine wpAny_bind (wpAny_mono (wpAny_comprehension_free (use:=some (assign (.Name x pos') X.env)) (Q:=fun _ s'=>SP X pins D' .next s') rfl hs hcl S.kind S.names
  (wpAny_mono (hi pins s σ H _ I h) (fun v s1 h1=>wpAny_mono h1 (fun itv s2 h2=>?_) fun _ _ e=>e) fun _ _ e=>e)) (fun _ s' hq=>wpAny_pure (wpAny_pure hq)) fun _ _ e=>e)
 obtain ⟨it,fp,tn,J,H2,e,I2,T,st2,f2,hW⟩:=h2
 subst e
 refine Zel (RR:=fun acc C=>compPost (model X.prog X.w) X.A X.xe (some (assign (.Name x pos') X.env)) (fun _ s'=>SP X pins D' .next s') acc C) (Q:=fun x H1=>W0 i x σ H1 D'.nx) S (hb cl) hcl1 hcl2 I2 (fun C s3 H3 ex=>Turn.at (X:=blk X scope (Ls++Fs) cl C s3 H3 ex) T hc) st2 f2 hW fun D C H' s' m I' q hn f=>?_
 obtain ⟨f0,f1,f2,f3,f4,f5⟩:=f
 show wpAny _ X.A (assign (.Name x pos') X.env (.ref D)) _ _ _
 refine wpAny_assign_Name (ZaV I' hN hi' hx (v:=.ref D) rfl (fun s'' I'' hch=>?_) hf)
 obtain ⟨a,sb,ha⟩:=hch
 have hCa:C≠a:=by
  rcases ha with z | z
  ·rw [z];exact f1
  ·exact (f4 x a z).symm
 exact ⟨m,hn.sameBut sb hCa,fun h' hs'=>⟨_,H',I''.turned (it:=C) (t':=s''.toks) (fun b o hb e=>(hs'.2 b hb).trans e) f0 f1 f3 f4 f5,q⟩⟩
end
end L2
namespace L2
open PySem PySem.Spec PyProof.Rows PyProof.V
def Ite (K:PySem.W.Frag) (a:Addr):It:=
 ⟨fun i H=>∃xs x,Zu K H a xs/\xs[i]? = some x,fun i H v H'=>∃p x,v = .ref p/\H p=none/\H'=upd H p (.tup [.int i,x]) /\ ∀xs,Zu K H a xs->xs[i]? = some x,fun i H=>∃xs,Zu K H a xs/\xs.length<=i⟩
theorem ZgW {P:Program}{w:World}{K:PySem.W.Frag}{es:List Expr}{k:Nat}{pos:Pos} (a e it:Addr) (hei:e≠it):
  Turn P w K (.Tuple es k pos) (Ite K a) [e,it] e (fun i h=>(∃old,IsEnum h e it i old)/\h.IsListIter it a i) where
 mem:=by simp
 obj:=fun i h st b hb=>by
  obtain ⟨⟨old,he⟩,o,ho,c,d⟩:=st
  rcases List.mem_cons.mp hb with z | z
  ·subst z
   exact ⟨_,he,fun v z=>by
    have z':Data.fields _=Data.cell v:=z
    cases z'⟩
  ·have z':b=it:=by simpa using z
   subst z'
   exact ⟨o,ho,fun v z=>by rw [d] at z;cases z⟩
 keep:=fun i h h' st k=>by
  obtain ⟨⟨old,he⟩,hi⟩:=st
  exact ⟨⟨old,k e (by simp) _ he⟩,hi.at fun o x=>k it (by simp) o x⟩
 item:=by
  intro X hP hw hK hc i pins s σ H E I hf st hg
  subst hP hw hK
  obtain ⟨xs,x,hq,hx⟩:=hg
  obtain ⟨its,rv,p,hz⟩:=I.list hq
  obtain ⟨u,hu,ru⟩:=rv.get hx
  obtain ⟨⟨old,he⟩,hi⟩:=st
  obtain ⟨e0,e1,e2,e3,e4,e5⟩:=hf e (by simp)
  obtain ⟨f0,f1,f2,f3,f4,f5⟩:=hf it (by simp)
  refine wpAny_pyNext_enum_item he hi p.isList (x:=u) (by simpa using hu) hei fun h' ho hit ht hsz kk=>⟨_,rfl,?_⟩
  refine wpAny_letOwnedTupleGo_enum (s:={ s with heap:=h',toks:=s.toks+1 }) ho fun h'' he'' hs''=>?_
  have Tn:@LT.lt Nat _ e s.heap.objs.size:=aLt he
  have kk2:∀b o,b≠e->b≠it->s.heap.get? b=some o->h''.get? b=some o:=fun b o h1 h2 q=>(hs''.2 b h1).trans (kk b o h1 h2 q)
  have nne:∀b u,H b=some u->b≠e/\b≠it:=fun b u q=>⟨fun z=>by (rw [z,e0] at q;cases q),fun z=>by (rw [z,f0] at q;cases q)⟩
  have fr:H s.heap.objs.size=none:=I.hok.fresh (Nat.le_refl _)
  have hT:h''.get? s.heap.objs.size=some { cls:=.type "tuple", data:=.seq #[.int i s.toks,u] }:=(hs''.2 _ (Nat.ne_of_gt Tn)).trans ht
  have nT:∀b o,s.heap.get? b=some o->b≠s.heap.objs.size:=fun b o q=>Nat.ne_of_lt (aLt q)
  have ok':Uv X.prog X.w (upd H s.heap.objs.size (.tup [.int i,x])) h'':=fun b o q=>by
   by_cases hb:b=s.heap.objs.size
   ·subst hb
    rw [Zb] at q
    cases q
    exact ⟨show 2<=sizeLine by decide,[.int i s.toks,u],.cons ⟨_,rfl⟩ (.cons ru .nil),⟨_,hT,rfl,_,rfl⟩⟩
   ·rw [Zi hb] at q
    refine (I.hok b o q).stay (fun c v hc r=>?_) (fun c r=>by rw [Zi (Zf r fr)];exact r) fun c xs r=>by rw [Zi (Zf r fr)];exact r
    rcases hc with z | z
    ·subst z
     exact kk2 c v (nne c o q).1 (nne c o q).2 r
    ·exact kk2 c v (nne c _ z).1 (nne c _ z).2 r
  have I1:Inv X pins σ (upd H s.heap.objs.size (.tup [.int i,x])) { s with heap:=h'',gens:=s.gens,drawn:=s.drawn,toks:=s.toks+1 }:=by
   refine I.step (ch:=[e,it]) (fun b hb=>?_) (fun b o _ _ hc q _=>kk2 b o (fun z=>hc (by simp [z])) (fun z=>hc (by simp [z])) q) (fun b o _ _ hc q _=>⟨o.slots,kk2 b o (fun z=>hc (by simp [z])) (fun z=>hc (by simp [z])) q⟩)
    (fun b o _ q n=>by rw [Zi (nT b o q)];exact n) (fun b o hc q=>⟨o,kk2 b o (fun z=>hc (by simp [z])) (fun z=>hc (by simp [z])) q⟩) (fun b xs q=>by rw [Zi (Zf q fr)];exact q) (fun b o u q=>by rw [Zi (Zf q fr)];exact q)
    (fun b ps q=>⟨#[],by rw [Zi (Zf q fr),q];simp⟩) (fun m hm=>?_) ok' I.bare
   ·rcases List.mem_cons.mp hb with z | z
    ·subst z;exact ⟨e3,e1,e4,e5⟩
    ·have z':b=it:=by simpa using z
     subst z';exact ⟨f3,f1,f4,f5⟩
   ·obtain ⟨o,es,ep,ho,r⟩:=hm
    exact ⟨o,es,ep,kk2 _ o (Ne.symm e1) (Ne.symm f1) ho,r⟩
  refine ⟨.ref s.heap.objs.size,_,I1,rfl,⟨s.heap.objs.size,x,rfl,fr,rfl,fun ys hy=>by rw [I.list_inj hy hq];exact hx⟩,⟨⟨_,by simpa using he''⟩,hit.at fun o q=>(hs''.2 it (Ne.symm hei)).trans q⟩,fun b hb=>?_⟩
  have hbo:∃o,s.heap.get? b=some o:=by
   rcases List.mem_cons.mp hb with z | z
   ·subst z;exact ⟨_,he⟩
   ·have z':b=it:=by simpa using z
    subst z'
    obtain ⟨o,ho,_⟩:=hi
    exact ⟨o,ho⟩
  obtain ⟨o,hbo⟩:=hbo
  rw [Zi (nT b o hbo)]
  exact (hf b hb).1
 done:=by
  intro X hP hw hK hc i pins s σ H E I hf st hg
  subst hP hw hK
  obtain ⟨xs,hq,hx⟩:=hg
  obtain ⟨its,rv,p,hz⟩:=I.list hq
  obtain ⟨⟨old,he⟩,hi⟩:=st
  obtain ⟨f0,f1,f2,f3,f4,f5⟩:=hf it (by simp)
  have hl:=rv.length
  exact wpAny_pyNext_enum_end (I.ok.hd hc) he hi p.isList (by simp;lia) fun h' eb=>⟨rfl,I.turned (t':=s.toks) (fun b o hb e=>eb b o hb e) f0 f1 f3 f4 f5⟩
 self:=fun _ _ _ _ _ st h=>by
  obtain ⟨⟨old,he⟩,_⟩:=st
  exact wpAny_pyIter_enum he h
section
variable {X:Cx}
def Zk0 (K:PySem.W.Frag) (ta:TA):TI:=fun σ H R=>ta σ H fun vs H1=>∃a,vs = [.ref a]/\(∃xs,Zu K H1 a xs)/\R (Ite K a) H1
theorem Zj1 {a:Expr}{ta:TA}{p pos tpos:Pos}{es:List Expr}{k:Nat} (hg:Gl X "enumerate") (hm:X.mg "enumerate" = none) (ha:PA X [a] ta) (hs:starEach [a] X.env = [(false,eval a X.env)]:=by rfl):
  PI X (.Tuple es k tpos) (.Call (.Name "enumerate" p) [a] [] pos) (Zk0 X.K ta):=by
 intro pins s σ H R I h
 refine Call_ (GI I hg hm boot_enumerate (PyProof.Rows.callWith_type1 (YR (ha pos pins s σ H _ I h) fun us s1 ⟨vs,H1,I1,r1,q1⟩=>?_) hs rfl))
 obtain ⟨l,e,⟨xs,hq⟩,q⟩:=q1
 subst e
 cases r1 with
 | cons r rr=>
  cases rr
  cases r
  obtain ⟨its,rv,pl,hz⟩:=I1.list hq
  refine call_enumerate_list pl.isList fun h' he hi hsz kk=>?_
  have I2:Inv X pins σ H1 { s1 with heap:=h' }:=I1.kept (t':=s1.toks) kk
  refine wpAny_pyIter_enum (s:={ s1 with heap:=h' }) he ?_
  refine ⟨_,[s1.heap.objs.size+1,s1.heap.objs.size],_,_,H1,rfl,I2,ZgW l _ _ (Nat.succ_ne_self _),⟨⟨_,he⟩,hi⟩,fun b hb=>?_,q⟩
  have hb':s1.heap.objs.size<=b:=by
   rcases List.mem_cons.mp hb with z | z
   ·subst z;exact Nat.le_succ _
   ·have z':b=s1.heap.objs.size:=by simpa using z
    subst z';exact Nat.le_refl _
  exact I1.fpOk hb' (I1.hok.fresh hb')
end
section
variable {X:Cx}
theorem ZeB:JD X (.builtin "isinstance") (fun xs H Q=>∃x T t b,xs = [x,.ty T]/\ZaG X.K H x t/\PySem.W.kitOne X.K t (.type T)=some b/\Q (.bl b) H):=by
 intro pins s σ H xs us Q I r h
 obtain ⟨x,T,t,b,rfl,ty,e,q⟩:=h
 obtain ⟨u,v,rfl,ru,rv⟩:=r.two
 cases rv
 exact ZgV I ru ty e fun tk=>⟨.bl b,H,I.tok _,rfl,q⟩
theorem range_all (bs:List Bool):(List.range bs.length).all (fun i=>bs.getD i false)=bs.all id:=by
 rw [Bool.eq_iff_iff,List.all_eq_true,List.all_eq_true]
 constructor
 ·intro h b hb
  obtain ⟨i,hi,rfl⟩:=List.mem_iff_getElem.mp hb
  have:=h i (List.mem_range.mpr hi)
  simpa [hi] using this
 ·intro h i hi
  have hi':i<bs.length:=List.mem_range.mp hi
  have:=h bs[i] (List.getElem_mem hi')
  simpa [hi'] using this
theorem Zi2 (hc:X.calm=true):JD X (.builtin "all") (fun xs H Q=>∃(p:Addr) (bs:List Bool),xs = [.ref p]/\Zu X.K H p (bs.map V.bl)/\Q (.bl (bs.all id)) H):=by
 intro pins s σ H xs us Q I r h
 obtain ⟨p,bs,rfl,hq,q⟩:=h
 obtain ⟨u,rfl,ru⟩:=r.one
 cases ru
 obtain ⟨its,rv,pl,hz⟩:=I.list hq
 have hlen:bs.length=its.length:=by simpa using rv.length
 have hh:X.A.in1.handled=none:=I.ok.hd hc
 have hp:p<s.heap.objs.size:=by
  obtain ⟨o,ho,_⟩:=pl.isList
  exact Heap.lt_size ho
 refine call_all_walk (wpAny_pyIter_list pl.isList ?_)
 refine ⟨s.heap.objs.size,_,_,_,_,_,fun i=>bs.getD i false,rfl,Walks.list hh s.heap.objs.size p (Nat.ne_of_lt hp) its.toArray,⟨⟨_,Heap.get?_push_size _ rfl,rfl,rfl⟩,?_⟩,fun i v s2 Q2 E2 hv hq2=>?_,fun h' tk kk=>?_⟩
 ·obtain ⟨o,ho,r⟩:=pl.isList
  exact ⟨o,Heap.get?_push_of_some _ ho,r⟩
 ·have hv':its[i]? = some v:=by simpa using hv
  have hi:i<bs.length:=by rw [hlen];exact (List.getElem?_eq_some_iff.mp hv').1
  obtain ⟨w,hw,rw'⟩:=rv.get (i:=i) (x:=.bl bs[i]) (by simp [hi])
  rw [hv'] at hw
  cases hw
  cases rw'
  refine wpAny_truthy_bool ?_
  have e:bs.getD i false=bs[i]:=by simp [hi]
  rw [<- e]
  exact hq2
 ·have hk:∀b o,s.heap.get? b=some o->h'.get? b=some o:=fun b o e=>kk b o (fun z=>by
   have z':b=s.heap.objs.size:=by simpa using z
   exact Nat.lt_irrefl _ (z' ▸ Heap.lt_size e)) (Heap.get?_push_of_some _ e)
  refine ⟨.bl (bs.all id),H,I.kept (t':=tk) hk,?_,q⟩
  have e:its.toArray.size=bs.length:=by rw [List.size_toArray,hlen]
  rw [e,range_all]
  rfl
theorem ZaS:∀{ns:List Int}{vs:List Value},Vals (ns.map V.int) vs->IntsAre vs ns
 | [],_,r=>by cases r;exact .nil
 | n::ns,_,r=>by
  cases r with
  | cons r rr=>
   obtain ⟨t,rfl⟩:=r
   exact .cons n t (ZaS rr)
def Zit (K:PySem.W.Frag):V->List V->Hp->VK->Prop:=fun x vs H Q=>∃(l:Addr) (xs:List V) (y:V),x = .ref l/\vs = [y]/\Zu K H l xs/\JS y=true/\xs.all JS=true/\Q (.int (xs.countP fun z=>eqV z y)) H
theorem Zcb {x:V}:∀{xs:List V}{us:List Value},Vals xs us->xs.all JS=true->us.countP (eqU x)=xs.countP fun y=>eqV y x
 | _,_,.nil,_=>rfl
 | _,_,.cons r rr,h=>by
  rw [List.all_cons,Bool.and_eq_true] at h
  rw [List.countP_cons,List.countP_cons,Zcb rr h.2,ZdJ r h.1]
theorem ZhS:MtM X "list.count" (Zit X.K):=by
 intro pins s σ H x vs v us Q I rx rv h
 obtain ⟨l,xs,y,rfl,rfl,hq,fy,fx,q⟩:=h
 cases rx
 obtain ⟨u,rfl,ru⟩:=rv.one
 obtain ⟨its,r,pl,hz⟩:=I.list hq
 obtain ⟨⟨c,dd,dt,sl⟩,ho,hc,n,hd⟩:=pl.isList
 simp only at hc hd
 subst hc hd
 refine call_meets F.slot_list_count ⟨_,ho,rfl⟩ F.entry_list_count (F.args_list_count_2 _ _) (SeqAt.list_countAt l its.toArray n dd sl u (eqU y)) ⟨ho,fun w hw=>WR ru fy r fx w (by simpa using hw),?_⟩
 refine ⟨.int _,H,I.tok _,⟨_,rfl⟩,?_⟩
 rw [show its.toArray.toList=its by simp,Zcb r fx]
 exact q
end
inductive Eqv (K:PySem.W.Frag) (H:Hp):Nat->V->V->Prop
 | flat {n:Nat}{x:V}:JS x=true->Eqv K H n x x
 | same {n:Nat}{a:Addr}:Eqv K H n (.ref a) (.ref a)
 | lst {n:Nat}{a b:Addr}{xs ys:List V}:Zu K H a xs->Zu K H b ys->xs.length=ys.length->(∀(i:Nat) (x y:V),xs[i]? = some x->ys[i]? = some y->Eqv K H n x y)->Eqv K H (n+1) (.ref a) (.ref b)
 | tup {n:Nat}{a b:Addr}{xs ys:List V}:JZ K H a xs->JZ K H b ys->xs.length=ys.length->(∀(i:Nat) (x y:V),xs[i]? = some x->ys[i]? = some y->Eqv K H n x y)->Eqv K H (n+1) (.ref a) (.ref b)
theorem all_true (n:Nat):((List.range n).all fun _=>true)=true:=by rw [List.all_eq_true];intro _ _;rfl
theorem ZhX {x:V} (h:JS x=true):eqV x x=true:=by
 cases x<;>simp_all [eqV,JS]
theorem Eqv.at {X:Cx}{pins:List (Addr×Obj)} {σ:St}{H:Hp}{s:Shared} (I:Inv X pins σ H s):∀{n:Nat}{x y:V}{u v:Value}{A:Around},Eqv X.K H n x y->RelV x u->RelV y v->A.units+n<cLine->SeqAt.EqAt A s u v true:=by
 intro n x y u v A h
 induction h generalizing u v A with
 | flat f=>
  intro ru rv _
  have:=Zi5 (A:=A) (s:=s) ru rv f f
  rw [ZhX f] at this
  exact this
 | same=>
  intro ru rv _
  cases ru
  cases rv
  exact SeqAt.EqAt.same _
 | @lst n a b xs ys ha hb hl _ ih=>
  intro ru rv hu
  cases ru
  cases rv
  by_cases e:a=b
  ·subst e;exact SeqAt.EqAt.same _
  ·obtain ⟨its,r1,p1,_⟩:=I.list ha
   obtain ⟨its2,r2,p2,_⟩:=I.list hb
   have l1:=r1.length
   have l2:=r2.length
   refine SeqAt.EqAt.of_refs e ?_
   have q:=SeqAt.RcAt.lists (A:=A) (e:=fun _=>true) p1.isList p2.isList (by simp only [List.size_toArray];lia) (by lia) fun j h1 h2=>by
    simp only [List.size_toArray] at h1 h2
    obtain ⟨u1,e1,s1⟩:=r1.get (i:=j) (x:=xs[j]'(by lia)) (by simp)
    obtain ⟨u2,e2,s2⟩:=r2.get (i:=j) (x:=ys[j]'(by lia)) (by simp)
    have z1:its.toArray[j]=u1:=by
     have:its[j]? = some its[j]:=by simp [h1]
     rw [this] at e1
     simpa using Option.some.inj e1
    have z2:its2.toArray[j]=u2:=by
     have:its2[j]? = some its2[j]:=by simp [h2]
     rw [this] at e2
     simpa using Option.some.inj e2
    rw [z1,z2]
    exact ih j _ _ (by simp) (by simp) s1 s2 (by show A.units+1+n<cLine;lia)
   rw [all_true] at q
   exact q
 | @tup n a b xs ys ha hb hl _ ih=>
  intro ru rv hu
  cases ru
  cases rv
  by_cases e:a=b
  ·subst e;exact SeqAt.EqAt.same _
  ·obtain ⟨its,r1,p1,_⟩:=I.tuple ha
   obtain ⟨its2,r2,p2,_⟩:=I.tuple hb
   have l1:=r1.length
   have l2:=r2.length
   refine SeqAt.EqAt.of_refs e ?_
   have q:=SeqAt.RcAt.tuples (A:=A) (s:=s) (l:=a) (b:=b) (items:=its.toArray) (items2:=its2.toArray) (e:=fun _=>true) p1 p2 (by lia) fun j h1 h2=>by
    simp only [List.size_toArray] at h1 h2
    obtain ⟨u1,e1,s1⟩:=r1.get (i:=j) (x:=xs[j]'(by lia)) (by simp)
    obtain ⟨u2,e2,s2⟩:=r2.get (i:=j) (x:=ys[j]'(by lia)) (by simp)
    have z1:its.toArray[j]=u1:=by
     have:its[j]? = some its[j]:=by simp [h1]
     rw [this] at e1
     simpa using Option.some.inj e1
    have z2:its2.toArray[j]=u2:=by
     have:its2[j]? = some its2[j]:=by simp [h2]
     rw [this] at e2
     simpa using Option.some.inj e2
    rw [z1,z2]
    exact ih j _ _ (by simp) (by simp) s1 s2 (by show A.units+1+n<cLine;lia)
   have e3:(its.toArray.size==its2.toArray.size)=true:=by
    rw [beq_iff_eq];simp only [List.size_toArray];lia
   rw [e3,all_true] at q
   exact q
section
variable {X:Cx}
def Zlk (K:PySem.W.Frag) (b:Bool):R2:=fun x y H Q=>∃(p q:Addr) (xs ys:List V),x = .ref p/\y = .ref q/\Zu K H p xs/\Zu K H q ys/\xs.length=ys.length/\(∀(i:Nat) (x y:V),xs[i]? = some x->ys[i]? = some y->Eqv K H 60 x y)/\Q (.bl b) H
theorem Zg1 {pins:List (Addr×Obj)} {σ:St}{H:Hp}{s:Shared}{xs ys:List V}{its its2:List Value}{A:Around} (I:Inv X pins σ H s) (r1:Vals xs its) (r2:Vals ys its2) (hl:xs.length=ys.length) (h:∀(i:Nat) (x y:V),xs[i]? = some x->ys[i]? = some y->Eqv X.K H 60 x y) (hu:A.units+62<cLine):
  ∀j (h1:j<its.toArray.size) (h2:j<its2.toArray.size),SeqAt.EqAt A.in1 s its.toArray[j] its2.toArray[j] ((fun _=>true) j):=fun j h1 h2=>by
 have l1:=r1.length
 have l2:=r2.length
 simp only [List.size_toArray] at h1 h2
 obtain ⟨u1,e1,s1⟩:=r1.get (i:=j) (x:=xs[j]'(by lia)) (by simp)
 obtain ⟨u2,e2,s2⟩:=r2.get (i:=j) (x:=ys[j]'(by lia)) (by simp)
 have z1:its.toArray[j]=u1:=by
  have:its[j]? = some its[j]:=by simp [h1]
  rw [this] at e1
  simpa using Option.some.inj e1
 have z2:its2.toArray[j]=u2:=by
  have:its2[j]? = some its2[j]:=by simp [h2]
  rw [this] at e2
  simpa using Option.some.inj e2
 rw [z1,z2]
 exact Eqv.at I (h j _ _ (by simp) (by simp)) s1 s2 (by show A.units+1+60<cLine;lia)
theorem Zl4 (hu:X.A.units+64<cLine):Ub X (compareOp .NotEq) (Zlk X.K false):=by
 intro pins s σ H x y v u Q I rx ry h
 obtain ⟨p,q,xs,ys,rfl,rfl,hp,hq,hl,he,hQ⟩:=h
 cases rx
 cases ry
 obtain ⟨its,r1,p1,_⟩:=I.list hp
 obtain ⟨its2,r2,p2,_⟩:=I.list hq
 have l1:=r1.length
 have l2:=r2.length
 refine SeqAt.RcNeAt.lists (e:=fun _=>true) p1.isList p2.isList (by simp only [List.size_toArray];lia) (by lia) (Zg1 I r1 r2 hl he (by lia)) X.prog X.w _ _ ⟨.bl false,H,I,?_,hQ⟩
 show Value.bool _=Value.bool false
 simp
theorem Zm {K:PySem.W.Frag} (h:X.K=K):IxR X (Zkk K):=h ▸ ZkK
theorem YF {K:PySem.W.Frag} (h:X.K=K):IxR X (ZmU K):=h ▸ Zle
theorem YD {K:PySem.W.Frag} (h:X.K=K):SlR X (ZmG K):=h ▸ Zj0
theorem U4 {K:PySem.W.Frag} (h:X.K=K):MtM X "list.count" (Zit K):=h ▸ ZhS
theorem ZgE {K:PySem.W.Frag} (h:X.K=K) (hu:X.A.units+64<cLine):Ub X (compareOp .NotEq) (Zlk K false):=h ▸ Zl4 hu
theorem Yj {K:PySem.W.Frag} (h:X.K=K):JD X (.builtin "len") (fun xs H Q=>∃p ys,xs = [.ref p]/\(Zu K H p ys∨JZ K H p ys)/\Q (.int ys.length) H):=h ▸ ZdQ
theorem WC {K:PySem.W.Frag} (h:X.K=K):JD X (.builtin "isinstance") (fun xs H Q=>∃x T t b,xs = [x,.ty T]/\ZaG K H x t/\PySem.W.kitOne K t (.type T)=some b/\Q (.bl b) H):=h ▸ ZeB
theorem Za6 {K:PySem.W.Frag} (h:X.K=K) (hc:X.calm=true):JD X (.builtin "all") (fun xs H Q=>∃(p:Addr) (bs:List Bool),xs = [.ref p]/\Zu K H p (bs.map V.bl)/\Q (.bl (bs.all id)) H):=h ▸ Zi2 hc
theorem WN {K:PySem.W.Frag} (h:X.K=K):JD X (.type "list") (fun xs H Q=>∃p ys,xs = [.ref p]/\(Zu K H p ys∨JZ K H p ys) /\ ∀l,H l=none->Q (.ref l) (upd H l (.lst ys))):=h ▸ Zd5
theorem Ye {K:PySem.W.Frag}{es:List Expr}{k:Nat}{t:TGs}{n:Nat}{pos:Pos} (hk:X.K=K) (hc:X.calm=true) (h:PGs X es t) (hn:(assignEach es X.env).length=n:=by rfl) (hst:(assignEach es X.env).findIdx? (·.1)=none:=by rfl):PG X (.Tuple es k pos) (Zm2 K n t):=hk ▸ Zmh hc h hn hst
theorem Yt {K:PySem.W.Frag}{T:String}{name:Str}{r:V->List V->Hp->VK->Prop}{o e:Expr}{es:List Expr}{to:TE}{t:TA}{apos pos:Pos} (hk:X.K=K) (h:PE X (.Call (.Attribute o name apos) (e::es) [] pos) (tBM X.K T r to t)):PE X (.Call (.Attribute o name apos) (e::es) [] pos) (tBM K T r to t):=hk ▸ h
theorem ZgK {K:PySem.W.Frag}{T:String}{name:Str}{r:V->List V->Hp->VK->Prop}{o:Expr}{to:TE}{apos pos:Pos} (hk:X.K=K) (h:PE X (.Call (.Attribute o name apos) [] [] pos) (ZlZ X.K T r to)):PE X (.Call (.Attribute o name apos) [] [] pos) (ZlZ K T r to):=hk ▸ h
theorem Z8 {K:PySem.W.Frag}{l tg:Expr}{tl:TE} (hk:X.K=K) (hl:PE X l tl):PI X tg l (Zk9 K tl):=hk ▸ ZjR hl
theorem JE {K:PySem.W.Frag}{a:Expr}{ta:TA}{p pos tpos:Pos}{es:List Expr}{k:Nat} (hk:X.K=K) (hg:Gl X "enumerate") (hm:X.mg "enumerate" = none) (ha:PA X [a] ta) (hs:starEach [a] X.env = [(false,eval a X.env)]:=by rfl):
  PI X (.Tuple es k tpos) (.Call (.Name "enumerate" p) [a] [] pos) (Zk0 K ta):=hk ▸ Zj1 hg hm ha hs
end
section
variable {g:TG}{tc:TT}{te:TE} {σ:St}{H:Hp}{Q:VK}{K:PySem.W.Frag}{a:Addr}{xs:List V}
theorem Zec {J:It}{n:Nat} (hn:n<=sizeLine) (Pv:Nat->List V->Hp->Prop) (h0:Pv 0 [] H) (hlen:∀i ys H,Pv i ys H->ys.length<=i) (go:∀i ys H,i<n->Pv i ys H->J.go i H) (stop:∀ys H,Pv n ys H->J.stop n H)
  (hs:∀i ys H,i<n->Pv i ys H -> ∀x H',J.yld i H x H'->g x σ H' fun σ2 H2=>tc σ2 H2 fun b H3=>if b=true then te σ2 H3 fun y H4=>Pv (i+1) (ys ++ [y]) H4 else Pv (i+1) ys H3)
  (hd:∀ys H,Pv n ys H -> ∀D,H D=none->Q (.ref D) (upd H D (.lst ys))):LcW J σ g tc te H Q:=by
 unfold LcW
 refine ⟨fun i m ys H=>m=n-i/\i<=n/\Pv i ys H,⟨n,by simp,Nat.zero_le _,h0⟩,?_⟩
 rintro i m ys H ⟨rfl,hi,p⟩
 have hy:=hlen i ys H p
 by_cases hlt:i<n
 ·exact .inr ⟨go i ys H hlt p,by lia,Pv (i+1),fun ys' H' h2=>⟨n-(i+1),by lia,rfl,hlt,h2⟩,fun x H' y=>hs i ys H hlt p x H' y⟩
 ·have e:i=n:=by lia
  subst e
  exact .inl ⟨stop ys H p,by lia,hd ys H p⟩
theorem Jg (hn:xs.length<=sizeLine) (Pv:Nat->List V->Hp->Prop) (h0:Pv 0 [] H) (hlen:∀i ys H,Pv i ys H->ys.length<=i) (hS:∀i ys H,Pv i ys H->Zu K H a xs)
  (hs:∀i x ys H,xs[i]? = some x->Pv i ys H->g x σ H fun σ2 H2=>tc σ2 H2 fun b H3=>if b=true then te σ2 H3 fun y H4=>Pv (i+1) (ys ++ [y]) H4 else Pv (i+1) ys H3)
  (hd:∀ys H,Pv xs.length ys H -> ∀D,H D=none->Q (.ref D) (upd H D (.lst ys))):LcW (Itl K a) σ g tc te H Q:=
 Zec hn Pv h0 hlen (fun i ys H hi p=>⟨xs,xs[i],hS i ys H p,by simp [hi]⟩) (fun ys H p=>⟨xs,hS _ ys H p,Nat.le_refl _⟩) (fun i ys H hi p x H' y=>by
  obtain ⟨e,y⟩:=y
  subst e
  exact hs i x ys _ (y xs (hS i ys _ p)) p) hd
theorem Zav {lo:Int}{n:Nat} (hn:n<=sizeLine) (Pv:Nat->List V->Hp->Prop) (h0:Pv 0 [] H) (hlen:∀i ys H,Pv i ys H->ys.length<=i)
  (hs:∀i ys H,i<n->Pv i ys H->g (.int (lo+i)) σ H fun σ2 H2=>tc σ2 H2 fun b H3=>if b=true then te σ2 H3 fun y H4=>Pv (i+1) (ys ++ [y]) H4 else Pv (i+1) ys H3)
  (hd:∀ys H,Pv n ys H -> ∀D,H D=none->Q (.ref D) (upd H D (.lst ys))):LcW (Itr lo n) σ g tc te H Q:=
 Zec hn Pv h0 hlen (fun i ys H hi p=>hi) (fun ys H p=>Nat.le_refl _) (fun i ys H hi p x H' y=>by
  obtain ⟨e,y⟩:=y
  subst e y
  exact hs i ys _ hi p) hd
theorem ZlL (hn:xs.length<=sizeLine) (Pv:Nat->List V->Hp->Prop) (h0:Pv 0 [] H) (hlen:∀i ys H,Pv i ys H->ys.length<=i) (hS:∀i ys H,Pv i ys H->Zu K H a xs)
  (hs:∀i x p ys H,xs[i]? = some x->Pv i ys H->H p=none->g (.ref p) σ (upd H p (.tup [.int i,x])) fun σ2 H2=>tc σ2 H2 fun b H3=>if b=true then te σ2 H3 fun y H4=>Pv (i+1) (ys ++ [y]) H4 else Pv (i+1) ys H3)
  (hd:∀ys H,Pv xs.length ys H -> ∀D,H D=none->Q (.ref D) (upd H D (.lst ys))):LcW (Ite K a) σ g tc te H Q:=
 Zec hn Pv h0 hlen (fun i ys H hi p=>⟨xs,xs[i],hS i ys H p,by simp [hi]⟩) (fun ys H p=>⟨xs,hS _ ys H p,Nat.le_refl _⟩) (fun i ys H hi p x H' y=>by
  obtain ⟨q,z,e1,e2,e3,y⟩:=y
  subst e1 e3
  exact hs i z q ys _ (y xs (hS i ys _ p)) p e2) hd
end
def Ym (N:List Str) (osc scope:Scope) (Fs:List Str) (fi:List Nat):Bool:=
 (scope.kind == .function)&&scope.names.all (fun y=>y.2 != .cell)&&scope.names.all (fun y=>y.2 != .local||scope.names.lookup y.1==some .local)&&Fs.all (fun x=>scope.names.lookup x==some .free) &&
  scope.names.all (fun y=>y.2 != .free||osc.names.lookup y.1==some .cell||osc.names.lookup y.1==some .free)&&(fi.map (fun i=>N[i]?)==Fs.map some)
theorem ZR.of {N:List Str}{osc scope:Scope}{Ls Fs:List Str}{fi:List Nat} (h:Ym N osc scope Fs fi=true):ZR N osc scope Ls Fs fi:=by
 simp only [Ym,Bool.and_eq_true,List.all_eq_true,Bool.or_eq_true,bne_iff_ne,beq_iff_eq] at h
 obtain ⟨⟨⟨⟨⟨h1,h2⟩,h3⟩,h4⟩,h5⟩,h6⟩:=h
 refine ⟨h1,h2,fun y hy hl=>(h3 y hy).elim (fun z=>absurd hl z) id,h4,fun y hy hf=>?_,h6⟩
 rcases h5 y hy with (z | z) | z
 ·exact absurd hf z
 ·exact .inl z
 ·exact .inr z
def Jm (P:Program) (w:World) (K:PySem.W.Frag) (mg:Str->Option Value) (base:Heap) (k:Nat) (x:Str) (ps:List Str) (sp:Sp):Prop:=
 ∃(f:Addr) (fd:FuncData),Ys P w K mg base W3 k f fd ps sp/\mg x=some (.ref f)/\PySem.W.keepIn K (.ref f)=true/\Binds K fd ps []
theorem Zz {X:Cx}{j k:Nat}{x:Str}{ps:List Str}{sp:Sp}{p pos:Pos}{e:Expr}{es:List Expr}{t:TA} (h:Jm X.prog X.w X.K X.mg X.base j x ps sp) (hr:J1 k X.A) (ha:PA X (e::es) t) (hj:j<=k:=by decide) (hg:Gl X x:=by rfl) (hdb:(x==("__debug__" : Str))=false:=by decide)
  (he:starEach (e::es) X.env=(false,eval e X.env)::starEach es X.env:=by rfl) (hpl:(backTo pos (starEach es X.env)).any (·.1)=false:=by rfl):PE X (.Call (.Name x p) (e::es) [] pos) (ZkM sp [] E0 t):=by
 obtain ⟨f,fd,G,hm,hk,hb⟩:=h
 exact Zjw G (hr.mono hj) hg hm hk hb .nil ZiI ha hdb he hpl
def JV (b:Addr) (H H':Hp):Prop:=∀c o,H c=some o->c≠b->H' c=some o
theorem JV.refl (b:Addr) (H:Hp):JV b H H:=fun _ _ h _=>h
theorem JV.trans {b:Addr}{H H1 H2:Hp} (x:JV b H H1) (y:JV b H1 H2):JV b H H2:=fun c o h n=>y c o (x c o h n) n
theorem Zh.frm {b:Addr}{H H':Hp} (x:Zh H H'):JV b H H':=fun c o h _=>x c o h
theorem Zh.laid {H:Hp}{p:Addr}{o:HO} (h:H p=none):Zh H (upd H p o):=fun c u e=>by rw [Zi (Zf e h)];exact e
theorem Zh.step {H H':Hp}{p:Addr}{o:HO} (s:Zh H H') (h:H' p=none):Zh H (upd H' p o):=s.trans (.laid h)
theorem JV.upd {b:Addr}{H:Hp}{o:HO}:JV b H (upd H b o):=fun c u e n=>by rw [Zi n];exact e
theorem JV.new {b p:Addr}{H H':Hp}{o:HO} (s:JV b H H') (h:H' p=none):JV b H (L2.upd H' p o):=s.trans (Zh.laid h).frm
theorem Zh.put {H H':Hp}{p:Addr}{o:HO} (s:Zh H H') (h:H p=none):Zh H (upd H' p o):=fun c u e=>by rw [Zi (Zf e h)];exact s c u e
def UU (H:Hp) (b:Addr):Prop:=∃g r:Int,0<=g/\H b=some (.lst [.int g,.int r])
theorem JV.free {b:Addr}{H H':Hp} (f:JV b H H') (hb:UU H' b) {p:Addr} (h:H' p=none):H p=none:=by
 cases q:H p with
 | none=>rfl
 | some o=>
  by_cases e:p=b
  ·subst e
   obtain ⟨g,r,_,z⟩:=hb
   rw [h] at z;cases z
  ·rw [f p o q e] at h;cases h
def ZI (H:Hp) (xs:List V) (ls:List (Str×Int)):Prop:=Paired (fun x (p:Str×Int)=>∃t,x=V.ref t/\H t=some (.tup [.str p.1,.int p.2])) xs ls
theorem ZI.mono {H H':Hp} (h:∀t p,H t=some (.tup p)->H' t=some (.tup p)):∀{xs:List V}{ls:List (Str×Int)},ZI H xs ls->ZI H' xs ls
 | _,_,.nil=>.nil
 | _,_,.cons ⟨t,e,q⟩ r=>.cons ⟨t,e,h t _ q⟩ (ZI.mono h r)
theorem ZI.same {H H':Hp} (s:Zh H H') {xs:List V}{ls:List (Str×Int)} (h:ZI H xs ls):ZI H' xs ls:=h.mono fun t p e=>s t _ e
theorem ZI.frm {b:Addr}{H H':Hp} (s:JV b H H') (hb:UU H b) {xs:List V}{ls:List (Str×Int)} (h:ZI H xs ls):ZI H' xs ls:=h.mono fun t p e=>s t _ e (fun z=>by
 obtain ⟨g,r,_,q⟩:=hb
 rw [z,q] at e;cases e)
theorem ZI.len {H:Hp}{xs:List V}{ls:List (Str×Int)} (h:ZI H xs ls):xs.length=ls.length:=Paired.length h
theorem ZI.get {H:Hp}:∀{xs:List V}{ls:List (Str×Int)}{i:Nat}{x:V},ZI H xs ls->xs[i]? = some x -> ∃p t,ls[i]? = some p/\x = .ref t/\H t=some (.tup [.str p.1,.int p.2])
 | _,_,_,_,.nil,e=>by simp at e
 | _,_,0,_,.cons ⟨t,e1,q⟩ _,e=>by simp at e;subst e;exact ⟨_,t,rfl,e1,q⟩
 | _,_,i+1,x,.cons _ r,e=>by
  obtain ⟨p,t,h1,h2⟩:=ZI.get (i:=i) (x:=x) r (by simpa using e)
  exact ⟨p,t,by simpa using h1,h2⟩
theorem ZI.snoc {H:Hp}{xs:List V}{ls:List (Str×Int)}{t:Addr}{x:Str}{k:Int} (h:ZI H xs ls) (e:H t=some (.tup [.str x,.int k])):ZI H (xs ++ [.ref t]) (ls ++ [(x,k)]):=Paired.snoc h ⟨t,rfl,e⟩
theorem ZI.append {H:Hp}:∀{xs ys:List V}{ls ms:List (Str×Int)},ZI H xs ls->ZI H ys ms->ZI H (xs++ys) (ls++ms)
 | _,_,_,_,.nil,s=>s
 | _,_,_,_,.cons r t,s=>.cons r (ZI.append t s)
inductive Wk:List (Str×Int)->Int->Prop
 | nil:Wk [] 0
 | born {ls:List (Str×Int)}{n k:Int}:Wk ls n->0<=k->k<=n->Wk (ls ++ [((("born" : Str),k):Str×Int)]) (n+2)
 | cross {ls:List (Str×Int)}{n k:Int}:Wk ls n->0<=k->k+1<n->Wk (ls ++ [((("cross" : Str),k):Str×Int)]) n
 | fin {ls:List (Str×Int)}{n k:Int}:Wk ls n->0<=k->k+1<n->Wk (ls ++ [((("end" : Str),k):Str×Int)]) (n-2)
def Kd (x:Str):Prop:=x = "born" ∨ x = "cross" ∨ x = "end"
theorem Wk.kd {ls:List (Str×Int)}{n:Int} (h:Wk ls n):∀p∈ls,Kd p.1:=by
 induction h with
 | nil=>intro p hp;cases hp
 | born _ _ _ ih=>intro p hp;rcases List.mem_append.mp hp with z | z;exact ih p z;rw [List.mem_singleton.mp z];exact .inl rfl
 | cross _ _ _ ih=>intro p hp;rcases List.mem_append.mp hp with z | z;exact ih p z;rw [List.mem_singleton.mp z];exact .inr (.inl rfl)
 | fin _ _ _ ih=>intro p hp;rcases List.mem_append.mp hp with z | z;exact ih p z;rw [List.mem_singleton.mp z];exact .inr (.inr rfl)
def Drw (H:Hp) (l:Addr) (ls:List (Str×Int)):Prop:=∃xs,H l=some (.lst xs)/\ZI H xs ls/\Wk ls 0/\ls.length<=60
def Ev (t:TT) (σ:St) (H:Hp) (β:Bool):Prop:=∀Q:Bool->Hp->Prop,Q β H->t σ H Q
theorem ZcI {t u:TT} {σ:St}{H:Hp} {β γ:Bool} (h1:Ev t σ H β) (h2:β = true->Ev u σ H γ):Ev (Zm9 t u) σ H (β && γ):=fun Q q=>h1 _ (by
 cases β with
 | true=>rw [if_pos rfl];exact h2 rfl _ q
 | false=>rw [if_neg Bool.false_ne_true];exact q)
theorem ZmV {t u:TT} {σ:St}{H:Hp} {β γ:Bool} (h1:Ev t σ H β) (h2:β = false->Ev u σ H γ):Ev (tOr t u) σ H (β || γ):=fun Q q=>h1 _ (by
 cases β with
 | true=>rw [if_pos rfl];exact q
 | false=>rw [if_neg Bool.false_ne_true];exact h2 rfl _ q)
theorem ZmB {t:TT} {σ:St}{H:Hp} {β:Bool}{T U:Hp->Prop} (h:Ev t σ H β) (h1:β = true->T H) (h2:β = false->U H):t σ H fun b H1=>if b=true then T H1 else U H1:=h _ (by
 cases β with
 | true=>rw [if_pos rfl];exact h1 rfl
 | false=>rw [if_neg Bool.false_ne_true];exact h2 rfl)
theorem ZdB {tc:TT}{t u:TS}{D:Ends} {σ:St}{H:Hp} {β:Bool} (h:Ev tc σ H β) (h1:β = true->t D σ H) (h2:β = false->u D σ H):ZgP tc t u D σ H:=ZmB h h1 h2
theorem lcT {σ:St}{H:Hp}{A B:Hp->Prop} (h:A H):Zcu σ H fun b H3=>if b=true then A H3 else B H3:=by
 show if true=true then A H else B H
 exact Wh h
theorem Wl {H H1 H2:Hp}{b l t:Addr}{xs:List V}{ls:List (Str×Int)} (x:Str) (k:Int) (f0:JV b H H1) (hb1:UU H1 b) (hl:H1 l=some (.lst xs)) (hL:ZI H1 xs ls) (hlb:l≠b) (hlf:H l=none) (f2:JV b H1 H2) (bag2:UU H2 b) (ht:H2 t=none):
  (upd H2 t (.tup [.str x,.int k])) l=some (.lst xs)/\UU (upd (upd H2 t (.tup [.str x,.int k])) l (.lst (xs ++ [.ref t]))) b/\JV b H (upd (upd H2 t (.tup [.str x,.int k])) l (.lst (xs ++ [.ref t]))) /\
   (upd (upd H2 t (.tup [.str x,.int k])) l (.lst (xs ++ [.ref t]))) l=some (.lst (xs ++ [.ref t]))/\ZI (upd (upd H2 t (.tup [.str x,.int k])) l (.lst (xs ++ [.ref t]))) (xs ++ [.ref t]) (ls ++ [(x,k)]):=by
 have hl2:H2 l=some (.lst xs):=f2 l _ hl hlb
 have hlt:l≠t:=Zf hl2 ht
 have hbt:b≠t:=by
  obtain ⟨g,r,_,e⟩:=bag2
  exact Zf e ht
 refine ⟨by rw [Zi hlt];exact hl2,?_,fun c o e n=>?_,Zb,?_⟩
 ·obtain ⟨g,r,h0,e⟩:=bag2
  exact ⟨g,r,h0,by rw [Zi (Ne.symm hlb),Zi hbt];exact e⟩
 ·have e2:=f2 c o (f0 c o e n) n
  rw [Zi (Zf e hlf),Zi (Zf e2 ht)]
  exact e2
 ·refine ZI.snoc ?_ (by rw [Zi (Ne.symm hlt)];exact Zb)
  refine (hL.frm f2 hb1).mono fun t' p e=>?_
  rw [Zi (Zie e hl2 (by intro z;cases z)),Zi (Zf e ht)]
  exact e
theorem Wk.nil0:Wk [] (2*((0:Nat):Int)):=Wk.nil
theorem ZdK {ls:List (Str×Int)}:∀(n:Nat),Wk ls (2*(n:Int)) -> ∀m,m<=n->Wk (ls++List.replicate m ((("end" : Str),0):Str×Int)) (2*((n-m:Nat):Int))
 | n,h,0,_=>by simpa using h
 | n,h,m+1,hm=>by
  have ih:=ZdK n h m (by lia)
  rw [List.replicate_succ',<- List.append_assoc]
  have e:(2*((n-(m+1):Nat):Int))=2*((n-m:Nat):Int)-2:=by lia
  rw [e]
  exact Wk.fin ih (by decide) (by lia)
theorem lcG {i:Nat}{v:V} {σ:St}{H:Hp}{A B:St->Hp->Prop} (h:A (σ.set i (some v)) H):W0 i v σ H fun σ2 H2=>Zcu σ2 H2 fun b H3=>if b=true then A σ2 H3 else B σ2 H3:=by
 show if true=true then A (σ.set i (some v)) H else B (σ.set i (some v)) H
 exact Wh h
def isK (ls:List (Str×Int)) (pr:Str->Bool) (i:Nat):Bool:=((ls[i]?).map fun q=>pr q.1)==some true
def J2 (ls:List (Str×Int)) (pr:Str->Bool) (n:Nat):List Int:=(List.range n).filterMap fun i=>if isK ls pr i=true then some (i:Int) else none
theorem UT (ls:List (Str×Int)) (pr:Str->Bool) (n:Nat):J2 ls pr (n+1)=J2 ls pr n++(if isK ls pr n=true then [(n:Int)] else []):=by
 unfold J2
 rw [List.range_succ,List.filterMap_append]
 by_cases h:isK ls pr n=true<;>simp [h]
theorem Zca (ls:List (Str×Int)) (pr:Str->Bool) (n:Nat):(J2 ls pr n).length<=n:=by
 unfold J2
 exact Nat.le_trans (List.length_filterMap_le _ _) (by simp)
theorem Zcg:∀{a b:List Int},a.Perm b->a.Pairwise (· <= ·)->b.Pairwise (· <= ·)->a=b
 | [],b,p,_,_=>(List.nil_perm.mp p).symm
 | x::a,[],p,_,_=>absurd p.length_eq (by simp)
 | x::a,y::b,p,ha,hb=>by
  have hx:x∈y::b:=p.mem_iff.mp List.mem_cons_self
  have hy:y∈x::a:=p.mem_iff.mpr List.mem_cons_self
  have h1:y<=x:=by
   rcases List.mem_cons.mp hx with e | h
   ·lia
   ·exact (List.pairwise_cons.mp hb).1 x h
  have h2:x<=y:=by
   rcases List.mem_cons.mp hy with e | h
   ·lia
   ·exact (List.pairwise_cons.mp ha).1 y h
  have e:x=y:=by lia
  subst e
  rw [Zcg (List.perm_cons x |>.mp p) (List.pairwise_cons.mp ha).2 (List.pairwise_cons.mp hb).2]
def Zho (x:Str):Int:=if x = "born" then 2 else if x = "end" then -2 else 0
def ZaA (ls:List (Str×Int)):Int:=(ls.map fun p=>Zho p.1).sum
theorem Zbc (ls:List (Str×Int)) (p:Str×Int):ZaA (ls ++ [p])=ZaA ls+Zho p.1:=by
 unfold ZaA
 simp
theorem Zis {xs:List V}{t:Nat} (h:t<=xs.length):WQ xs none (some (t:Int))=xs.take t:=by
 have e1:HT.sIx xs.length 0 none=0:=by unfold HT.sIx;rfl
 have e2:HT.sIx xs.length xs.length (some (t:Int))=t:=by
  have h0:¬((t:Int)<0):=by lia
  unfold HT.sIx
  simp [h0]
  lia
 unfold WQ
 rw [e1,e2]
 simp
theorem Zdb (ns:List Int):(ns.map V.int).all JS=true:=by
 rw [List.all_eq_true]
 intro x hx
 obtain ⟨n,_,rfl⟩:=List.mem_map.mp hx
 rfl
section
variable {X:Cx}
def Zku:V->List V->Hp->VK->Prop:=fun x vs H Q=>∃(l:Addr) (xs:List V) (i:Int) (y:V),x = .ref l/\vs = [.int i,y]/\H l=some (.lst xs)/\0<=i/\i<=xs.length/\xs.length<sizeLine/\xs.length<2 ^ 62/\Q .non (upd H l (.lst (xs.take i.toNat++y::xs.drop i.toNat)))
theorem Zdf:MtM X "list.insert" Zku:=by
 intro pins s σ H x vs v us Q I rx rv h
 obtain ⟨l,xs,i,y,rfl,rfl,hH,h0,h1,hz,hb,q⟩:=h
 cases rx
 obtain ⟨u1,u,rfl,ri,ru⟩:=rv.two
 obtain ⟨t,rfl⟩:=ri
 obtain ⟨z,its,n,r,hl,e⟩:=I.lstM hH
 have hfit:¬(!Builtin.List.listFitsIndex i)=true:=by
  unfold Builtin.List.listFitsIndex
  simp
  lia
 refine call_meets F.slot_list_insert ⟨_,e,rfl⟩ F.entry_list_insert (F.args_list_insert_3 _ _ _) (AutoSeq1.list_insert_list_int_val_1 l its.toArray n i t u hfit (by rw [List.size_toArray];lia)) ⟨e,?_⟩
 refine ⟨.non,_,I.lset (its':=its.take i.toNat++u::its.drop i.toNat) hH e ?_ (Vals.append (r.take _) (.cons ru (r.drop _))) ?_,rfl,q⟩
 ·have hi:¬i<0:=by lia
  have hm:min i.toNat its.toArray.size=i.toNat:=by rw [List.size_toArray];lia
  simp only [if_neg hi,hm]
  simp
  rw [List.take_of_length_le (by simp)]
 ·rw [List.length_append,List.length_cons,List.length_take,List.length_drop]
  lia
end
theorem WE {K:PySem.W.Frag}{a:Addr}{xs:List V}{g:TG}{tb:TS}{D:Ends} {σ:St}{H:Hp} (Pv:Nat->St->Hp->Prop) (h0:Pv 0 σ H) (hl:∀i σ H,i<=xs.length->Pv i σ H->Zu K H a xs)
  (hs:∀i x p σ H,xs[i]? = some x->Pv i σ H->H p=none->g (.ref p) σ (upd H p (.tup [.int i,x])) fun σ2 H2=>tb { D with nx:=Pv (i+1),ct:=Pv (i+1),bk:=D.nx } σ2 H2) (hd:∀ σ H,Pv xs.length σ H->D.nx σ H):
  ∃W:Nat->Nat->St->Hp->Prop,(∃m,W 0 m σ H) /\ ∀i m σ H,W i m σ H ->
   ((Ite K a).stop i H/\D.nx σ H)∨((Ite K a).go i H /\ ∃N:St->Hp->Prop,(∀ σ' H',N σ' H' -> ∃m',m'<m/\W (i+1) m' σ' H') /\ ∀x H',(Ite K a).yld i H x H'->g x σ H' fun σ2 H2=>tb { D with nx:=N,ct:=N,bk:=D.nx } σ2 H2):=by
 refine ⟨fun i m σ H=>m=xs.length-i/\i<=xs.length/\Pv i σ H,⟨xs.length,by simp,Nat.zero_le _,h0⟩,?_⟩
 rintro i m σ H ⟨rfl,hi,p⟩
 have q:=hl i σ H hi p
 by_cases hlt:i<xs.length
 ·refine .inr ⟨⟨xs,xs[i],q,by simp [hlt]⟩,Pv (i+1),fun σ' H' p'=>⟨xs.length-(i+1),by lia,rfl,hlt,p'⟩,fun x H' y=>?_⟩
  obtain ⟨r,z,e1,e2,e3,y⟩:=y
  subst e1 e3
  exact hs i z r σ _ (y xs q) p e2
 ·have e:i=xs.length:=by lia
  subst e
  exact .inl ⟨⟨xs,q,Nat.le_refl _⟩,hd σ H p⟩
def swp (r:List Int) (k:Nat):List Int:=(r.set k (r.getD (k+1) 0)).set (k+1) (r.getD k 0)
def stp (s:List Int×Int) (p:Str×Int):List Int×Int:=
 if p.1 = "born" then (s.1.take p.2.toNat ++ [s.2,s.2+1]++s.1.drop p.2.toNat,s.2+2) else if p.1 = "cross" then (swp s.1 p.2.toNat,s.2) else (s.1.take p.2.toNat++s.1.drop (p.2.toNat+2),s.2)
def rb (ls:List (Str×Int)):List Int×Int:=ls.foldl stp ([],0)
theorem JI (ls:List (Str×Int)) (p:Str×Int):rb (ls ++ [p])=stp (rb ls) p:=by
 unfold rb
 rw [List.foldl_append]
 rfl
theorem GB {s:List Int×Int}{k:Int}:stp s ("born", k)=(s.1.take k.toNat ++ [s.2,s.2+1]++s.1.drop k.toNat,s.2+2):=if_pos rfl
theorem nb1:¬(("cross" : Str) = "born"):=by decide +kernel
theorem nb2:¬(("end" : Str) = "born"):=by decide +kernel
theorem nb3:¬(("end" : Str) = "cross"):=by decide +kernel
theorem WG {s:List Int×Int}{k:Int}:stp s ("cross", k)=(swp s.1 k.toNat,s.2):=(if_neg nb1).trans (if_pos rfl)
theorem UX {s:List Int×Int}{k:Int}:stp s ("end", k)=(s.1.take k.toNat++s.1.drop (k.toNat+2),s.2):=(if_neg nb2).trans (if_neg nb3)
theorem Zar {ls:List (Str×Int)}{n:Int} (h:Wk ls n):((rb ls).1.length:Int)=n:=by
 induction h with
 | nil=>rfl
 | born h h0 h1 ih=>
  rw [JI,GB]
  simp only [List.length_append,List.length_take,List.length_drop,List.length_cons,List.length_nil]
  lia
 | cross h h0 h1 ih=>
  rw [JI,WG]
  simp only [swp,List.length_set]
  exact ih
 | fin h h0 h1 ih=>
  rw [JI,UX]
  simp only [List.length_append,List.length_take,List.length_drop]
  lia
theorem Zck {α:Type}{a b:List α}{x y:α} (h:a ++ [x]=b ++ [y]):a=b/\x=y:=by
 have h1:=List.append_inj' h rfl
 exact ⟨h1.1,by simpa using h1.2⟩
theorem ZiG {l:List (Str×Int)}{p:Str×Int}{m:Int} (h:Wk (l ++ [p]) m):∃n,Wk l n/\((p.1 = "born" /\ 0<=p.2/\p.2<=n)∨(p.1 = "cross" /\ 0<=p.2/\p.2+1<n)∨(p.1 = "end" /\ 0<=p.2/\p.2+1<n)):=by
 generalize hq:l ++ [p]=q at h
 cases h with
 | nil=>exact absurd hq (by simp)
 | born h h0 h1=>obtain ⟨rfl,rfl⟩:=Zck hq;exact ⟨_,h,.inl ⟨rfl,h0,h1⟩⟩
 | cross h h0 h1=>obtain ⟨rfl,rfl⟩:=Zck hq;exact ⟨_,h,.inr (.inl ⟨rfl,h0,h1⟩)⟩
 | fin h h0 h1=>obtain ⟨rfl,rfl⟩:=Zck hq;exact ⟨_,h,.inr (.inr ⟨rfl,h0,h1⟩)⟩
theorem UY {ls:List (Str×Int)}{n:Int} (h:Wk ls n):∀i,∃m,Wk (ls.take i) m:=by
 induction h with
 | nil=>intro i;exact ⟨0,by simpa using Wk.nil⟩
 | @born l n k h h0 h1 ih=>
  intro i
  by_cases hi:i<=l.length
  ·rw [List.take_append_of_le_length hi];exact ih i
  ·rw [List.take_of_length_le (by rw [List.length_append,List.length_singleton];lia)];exact ⟨_,Wk.born h h0 h1⟩
 | @cross l n k h h0 h1 ih=>
  intro i
  by_cases hi:i<=l.length
  ·rw [List.take_append_of_le_length hi];exact ih i
  ·rw [List.take_of_length_le (by rw [List.length_append,List.length_singleton];lia)];exact ⟨_,Wk.cross h h0 h1⟩
 | @fin l n k h h0 h1 ih=>
  intro i
  by_cases hi:i<=l.length
  ·rw [List.take_append_of_le_length hi];exact ih i
  ·rw [List.take_of_length_le (by rw [List.length_append,List.length_singleton];lia)];exact ⟨_,Wk.fin h h0 h1⟩
theorem Ze3 {ls:List (Str×Int)}{n:Int} (h:Wk ls n) {i:Nat}{p:Str×Int} (hp:ls[i]? = some p):
  ls.take (i+1)=ls.take i ++ [p]/\((p.1 = "born" /\ 0<=p.2/\p.2<=((rb (ls.take i)).1.length:Int))∨(p.1 = "cross" /\ 0<=p.2/\p.2+1<((rb (ls.take i)).1.length:Int))∨(p.1 = "end" /\ 0<=p.2/\p.2+1<((rb (ls.take i)).1.length:Int))):=by
 have e:ls.take (i+1)=ls.take i ++ [p]:=by rw [List.take_add_one,hp];rfl
 refine ⟨e,?_⟩
 obtain ⟨m,hm⟩:=UY h (i+1)
 rw [e] at hm
 obtain ⟨n',hn,c⟩:=ZiG hm
 rw [Zar hn]
 exact c
def Jt (H:Hp) (xs:List V) (rs:List (List Int)):Prop:=Paired (fun x (r:List Int)=>∃t,x=V.ref t/\H t=some (.lst (r.map V.int))) xs rs
theorem Jt.mono {H H':Hp} (h:∀t o,V.ref t∈xs->H t=some o->H' t=some o) {rs:List (List Int)} (r:Jt H xs rs):Jt H' xs rs:=by
 unfold Jt at *
 induction r with
 | nil=>exact .nil
 | cons a t ih=>
  obtain ⟨q,e,hq⟩:=a
  subst e
  exact .cons ⟨q,rfl,h q _ List.mem_cons_self hq⟩ (ih fun t o ht=>h t o (List.mem_cons_of_mem _ ht))
def rowsOf (ls:List (Str×Int)) (i:Nat):List (List Int):=(List.range i).map fun j=>(rb (ls.take j)).1
theorem ZbB (ls:List (Str×Int)) (i:Nat):rowsOf ls (i+1)=rowsOf ls i ++ [(rb (ls.take i)).1]:=by
 unfold rowsOf
 rw [List.range_succ,List.map_append]
 rfl
theorem Jt.mem {H:Hp}{xs:List V}{rs:List (List Int)} (r:Jt H xs rs) {t:Addr} (h:V.ref t∈xs):∃q:List Int,H t=some (.lst (q.map V.int)):=by
 unfold Jt at r
 induction r with
 | nil=>cases h
 | cons a _ ih=>
  obtain ⟨q,e,hq⟩:=a
  rcases List.mem_cons.mp h with z | z
  ·rw [e] at z
   have:t=q:=V.ref.inj z
   subst this
   exact ⟨_,hq⟩
  ·exact ih z
theorem Jt.last {H:Hp}{rs:List (List Int)}{r:List Int}:∀{xs:List V} , Jt H xs (rs ++ [r]) -> ∃ys t,xs=ys ++ [V.ref t]/\H t=some (.lst (r.map V.int)):=by
 induction rs with
 | nil=>
  intro xs h
  cases h with
  | cons a b=>
   cases b
   obtain ⟨t,e,q⟩:=a
   exact ⟨[],t,by rw [e];rfl,q⟩
 | cons q rs ih=>
  intro xs h
  cases h with
  | @cons x _ l _ a b=>
   obtain ⟨ys,t,e,q⟩:=ih b
   exact ⟨x::ys,t,by rw [e];rfl,q⟩
theorem Jt.snoc {H:Hp}{xs:List V}{rs:List (List Int)}{t:Addr}{r:List Int} (h:Jt H xs rs) (e:H t=some (.lst (r.map V.int))):Jt H (xs ++ [.ref t]) (rs ++ [r]):=Paired.snoc h ⟨t,rfl,e⟩
theorem Jt.len {H:Hp}{xs:List V}{rs:List (List Int)} (h:Jt H xs rs):xs.length=rs.length:=Paired.length h
theorem Zbl {H H' G:Hp}{R w:Addr}{ys:List V}{ls:List (Str×Int)}{i:Nat} (hR:H R=none) (sm:Zh H H') (rv:Jt H' ys (rowsOf ls (i+1))) (ap:∀t,V.ref t∈ys->H t=none/\t≠R) (nd:ys.Nodup) (hw:H' w=none) (hwR:w≠R)
  (k:∀c o,H' c=some o->c≠R->G c=some o) (gw:G w=some (.lst ((rb (ls.take (i+1))).1.map V.int))):
  Zh H G/\Jt G (ys ++ [.ref w]) (rowsOf ls (i+2))/\(∀t,V.ref t∈ys ++ [V.ref w]->H t=none/\t≠R)/\(ys ++ [V.ref w]).Nodup:=by
 refine ⟨fun c o e=>k c o (sm c o e) (Zf e hR),?_,fun t ht=>?_,?_⟩
 ·rw [ZbB]
  exact Jt.snoc (rv.mono fun t o ht e=>k t o e (ap t ht).2) gw
 ·rcases List.mem_append.mp ht with z | z
  ·exact ap t z
  ·have:t=w:=V.ref.inj (List.mem_singleton.mp z)
   subst this
   exact ⟨sm.free hw,hwR⟩
 ·rw [List.nodup_append]
  refine ⟨nd,by simp,fun a ha b hb=>?_⟩
  rw [List.mem_singleton.mp hb]
  intro z
  subst z
  obtain ⟨q,e⟩:=rv.mem ha
  rw [hw] at e
  cases e
theorem Zgj {ls:List (Str×Int)}{n:Int} (h:Wk ls n):n<=2*(ls.length:Int):=by
 induction h with
 | nil=>decide
 | born _ _ _ ih=>rw [List.length_append,List.length_singleton];lia
 | cross _ _ _ ih=>rw [List.length_append,List.length_singleton];lia
 | fin _ _ _ ih=>rw [List.length_append,List.length_singleton];lia
theorem YT {n j:Nat} (h:j<n):ixN n (j:Int)=some j:=by
 unfold ixN
 rw [if_pos (by lia),if_pos (by lia)]
 simp
theorem Zkw (r:List Int) (k:Nat):((r.map V.int).set k (V.int (r.getD (k+1) 0))).set (k+1) (V.int (r.getD k 0))=(swp r k).map V.int:=by
 unfold swp
 rw [List.map_set,List.map_set]
theorem map_getD (r:List Int) {k:Nat} (h:k<r.length):(r.map V.int)[k]? = some (V.int (r.getD k 0)):=by
 rw [List.getElem?_map]
 simp [h]
def Zb0:Sp:=fun vs H Q _=>∃(l:Addr) (xs:List V) (ls:List (Str×Int)),vs = [.ref l]/\H l=some (.lst xs)/\ZI H xs ls/\ls.length<=60/\Wk ls 0 /\ ∀(p:Addr) (H':Hp) (ys:List V),H p=none->Zh H H'->H' p=some (.lst ys)->Jt H' ys (rowsOf ls (ls.length+1))->(∀t,V.ref t∈ys->H t=none/\t≠p)->ys.Nodup->Q (.ref p) H'
theorem ZjL {α:Type} (r:List α) (k:Nat) (x y:α) (h:k<=r.length):(r.take k++y::r.drop k).take k++x::(r.take k++y::r.drop k).drop k=r.take k ++ [x,y]++r.drop k:=by
 have hl:(r.take k).length=k:=by rw [List.length_take];lia
 have e1:(r.take k++y::r.drop k).take k=r.take k:=by
  have:=List.take_left' (l₂:=y::r.drop k) hl
  exact this
 have e2:(r.take k++y::r.drop k).drop k=y::r.drop k:=List.drop_left' hl
 rw [e1,e2]
 simp
theorem Zjx {α:Type} (r:List α) (k:Nat):(r.eraseIdx k).eraseIdx k=r.take k++r.drop (k+2):=by
 induction r generalizing k with
 | nil=>simp
 | cons x r ih=>
  cases k with
  | zero=>cases r<;>simp
  | succ k=>
   rw [List.eraseIdx_cons_succ,List.eraseIdx_cons_succ,ih]
   simp
theorem Zdd {n j:Nat} (h:j<n):seqIndex? (j:Int) n=some j:=by
 unfold seqIndex?
 have h0:¬((j:Int)<0):=by lia
 simp [h0,h]
section
variable {κ:Type} [DecidableEq κ]
def JG (kvs:List (κ × V)) (k:κ):Option V:=(kvs.find? fun kv=>decide (kv.1=k)).map (·.2)
def putK (kvs:List (κ × V)) (k:κ) (v:V):List (κ × V):=
 if (kvs.any fun kv=>decide (kv.1=k))=true then kvs.map (fun kv=>if kv.1=k then (kv.1,v) else kv) else kvs ++ [(k,v)]
theorem YX {p:κ × V}{r:List (κ × V)}{k:κ} (e:p.1=k):JG (p::r) k=some p.2:=by simp [JG,List.find?_cons,e]
theorem YW {p:κ × V}{r:List (κ × V)}{k:κ} (e:¬p.1=k):JG (p::r) k=JG r k:=by simp [JG,List.find?_cons,e]
theorem UB (k:κ):∀kvs:List (κ × V),(kvs.any fun kv=>decide (kv.1=k))=(JG kvs k).isSome
 | []=>rfl
 | p::r=>by
  rw [List.any_cons]
  by_cases e:p.1=k
  ·simp only [YX e,decide_eq_true e,Bool.true_or,Option.isSome_some]
  ·rw [YW e,decide_eq_false e,Bool.false_or];exact UB k r
theorem Zek (k j:κ) (y:V):∀kvs:List (κ × V),JG (kvs.map fun kv=>if kv.1=k then (kv.1,y) else kv) j=(JG kvs j).map fun x=>if j=k then y else x
 | []=>rfl
 | p::r=>by
  have ih:=Zek k j y r
  rw [List.map_cons]
  by_cases h:p.1=k
  ·rw [if_pos h]
   by_cases e:p.1=j
   ·rw [YX (p:=(p.1,y)) e,YX e,Option.map_some,if_pos (e.symm.trans h)]
   ·rw [YW (p:=(p.1,y)) e,YW e,ih]
  ·rw [if_neg h]
   by_cases e:p.1=j
   ·rw [YX (p:=p) e,YX e,Option.map_some,if_neg (fun z=>h (e.trans z))]
   ·rw [YW (p:=p) e,YW e,ih]
theorem Zdp (k j:κ) (y:V):∀kvs:List (κ × V),JG kvs k=none->JG (kvs ++ [(k,y)]) j=if j=k then some y else JG kvs j
 | [],_=>by
  by_cases e:k=j
  ·rw [if_pos e.symm];exact YX (p:=(k,y)) e
  ·rw [if_neg (fun z=>e z.symm)];exact YW (p:=(k,y)) e
 | p::r,hn=>by
  rw [List.cons_append]
  have hk:¬p.1=k:=fun z=>by rw [YX z] at hn;cases hn
  rw [YW hk] at hn
  have ih:=Zdp k j y r hn
  by_cases e:p.1=j
  ·rw [YX e,YX e,if_neg (fun z=>hk (e.trans z))]
  ·rw [YW e,YW e,ih]
theorem ZcD (kvs:List (κ × V)) (k j:κ) (y:V):JG (putK kvs k y) j=if j=k then some y else JG kvs j:=by
 unfold putK
 by_cases a:(kvs.any fun kv=>decide (kv.1=k))=true
 ·rw [if_pos a,Zek]
  rw [UB] at a
  by_cases e:j=k
  ·obtain ⟨x,hx⟩:=Option.isSome_iff_exists.mp a
   rw [if_pos e,e,hx,Option.map_some,if_pos rfl]
  ·rw [if_neg e]
   cases JG kvs j with
   | none=>rfl
   | some x=>rw [Option.map_some,if_neg e]
 ·rw [if_neg a]
  refine Zdp k j y kvs ?_
  rw [UB] at a
  cases q:JG kvs k with
  | none=>rfl
  | some x=>rw [q] at a;exact (a rfl).elim
theorem Wg (kvs:List (κ × V)) (k:κ) (v:V):(putK kvs k v).length<=kvs.length+1:=by
 unfold putK
 split
 ·rw [List.length_map];lia
 ·rw [List.length_append,List.length_cons,List.length_nil];lia
theorem Zcf {kvs:List (κ × V)}{k:κ} (v:V) (h:JG kvs k=none):putK kvs k v=kvs ++ [(k,v)]:=by
 unfold putK
 rw [UB,h]
 exact if_neg (by decide)
theorem U9.isSome_eq {o:Option V}{u:Option Value} (r:U9 o u):o.isSome=u.isSome:=by
 cases o with
 | none=>cases u with
  | none=>rfl
  | some _=>exact (show False from r).elim
 | some _=>cases u with
  | none=>exact (show False from r).elim
  | some _=>rfl
theorem KV.val {kvs:List (κ × V)}{vs:List (κ × Value)} (r:KV kvs vs) (k:κ):U9 (JG kvs k) (valueAt vs k):=by
 unfold KV at r
 induction r with
 | nil=>exact True.intro
 | @cons p q ps qs h t ih=>
  obtain ⟨h1,h2⟩:=h
  by_cases e:p.1=k
  ·have e':q.1=k:=h1.symm.trans e
   have b:valueAt (q::qs) k=some q.2:=by simp [valueAt,List.find?_cons,e']
   rw [YX e,b];exact h2
  ·have e':¬q.1=k:=fun z=>e (h1.trans z)
   have b:valueAt (q::qs) k=valueAt qs k:=by simp [valueAt,List.find?_cons,e']
   rw [YW e,b];exact ih
theorem KV.any {kvs:List (κ × V)}{vs:List (κ × Value)} (r:KV kvs vs) (k:κ):(kvs.any fun kv=>decide (kv.1=k))=vs.any fun kv=>decide (kv.1=k):=by
 unfold KV at r
 induction r with
 | nil=>rfl
 | cons h t ih=>rw [List.any_cons,List.any_cons,ih,h.1]
theorem KV.repl {kvs:List (κ × V)}{vs:List (κ × Value)} (r:KV kvs vs) (k:κ) {y:V}{u:Value} (ry:RelV y u):
  KV (kvs.map fun kv=>if kv.1=k then (kv.1,y) else kv) (vs.map fun kv=>if kv.1=k then (kv.1,u) else kv):=by
 unfold KV at r ⊢
 induction r with
 | nil=>exact .nil
 | @cons p q ps qs h t ih=>
  rw [List.map_cons,List.map_cons]
  refine .cons ?_ ih
  obtain ⟨h1,h2⟩:=h
  by_cases e:p.1=k
  ·rw [if_pos e,if_pos (h1.symm.trans e)];exact ⟨h1,ry⟩
  ·rw [if_neg e,if_neg (fun z=>e (h1.trans z))];exact ⟨h1,h2⟩
theorem KV.put {kvs:List (κ × V)}{vs:List (κ × Value)} (r:KV kvs vs) (k:κ) {y:V}{u:Value} (ry:RelV y u):KV (putK kvs k y) (stored vs k u):=by
 unfold putK stored
 rw [r.any k]
 by_cases e:(vs.any fun kv=>decide (kv.1=k))=true
 ·rw [if_pos e,if_pos e];exact r.repl k ry
 ·rw [if_neg e,if_neg e];exact Paired.snoc r ⟨rfl,ry⟩
theorem KV.length {kvs:List (κ × V)}{vs:List (κ × Value)} (r:KV kvs vs):kvs.length=vs.length:=Paired.length r
end
theorem ZeO {P:Program}{w:World}{k:Key}{u:Value} (r:RelV (kV k) u):(YI P w).is k u=true:=by
 cases k with
 | inl i=>obtain ⟨t,e⟩:=(show ∃t,u=Value.int i t from r);subst e;exact Zei P w i t
 | inr x=>obtain ⟨t,e⟩:=(show ∃t,u=Value.str x t from r);subst e;exact Ze1 P w x t
theorem Zc5 {P:Program}{w:World}:∀{ks:List Key}{us:List Value},Vals (ks.map kV) us->ItemsAre (YI P w) ks us
 | [],_,r=>by rw [List.map_nil] at r;cases r;exact .nil
 | k::ks,_,r=>by
  rw [List.map_cons] at r
  cases r with
  | cons h t=>exact .cons (ZeO h) (Zc5 t)
abbrev KT (H:Hp):List (List Key×V)->List (List Key×Addr×Value)->Prop:=Paired fun p q=>p.1=q.1/\H q.2.1=some (.tup (p.1.map kV))/\RelV p.2 q.2.2
theorem KT.val {H:Hp}{kvs:List (List Key×V)}{xs:List (List Key×Addr×Value)} (r:KT H kvs xs) (k:List Key):U9 (JG kvs k) ((atKey xs k).map (·.2)):=by
 induction r with
 | nil=>exact True.intro
 | @cons p q ps qs h t ih=>
  obtain ⟨h1,_,h2⟩:=h
  by_cases e:p.1=k
  ·have e':q.1=k:=h1.symm.trans e
   have b:atKey (q::qs) k=some q.2:=by simp [atKey,List.find?_cons,e']
   rw [YX e,b];exact h2
  ·have e':¬q.1=k:=fun z=>e (h1.trans z)
   have b:atKey (q::qs) k=atKey qs k:=by simp [atKey,List.find?_cons,e']
   rw [YW e,b];exact ih
theorem KT.repl {H:Hp}{kvs:List (List Key×V)}{xs:List (List Key×Addr×Value)} (r:KT H kvs xs) (k:List Key) {y:V}{u:Value} (ry:RelV y u):
  KT H (kvs.map fun kv=>if kv.1=k then (kv.1,y) else kv) (xs.map (putAt k u)):=by
 induction r with
 | nil=>exact .nil
 | @cons p q ps qs h t ih=>
  rw [List.map_cons,List.map_cons]
  refine .cons ?_ ih
  obtain ⟨h1,h2,h3⟩:=h
  unfold putAt
  by_cases e:p.1=k
  ·rw [if_pos e,if_pos (h1.symm.trans e)];exact ⟨h1,h2,ry⟩
  ·rw [if_neg e,if_neg (fun z=>e (h1.trans z))];exact ⟨h1,h2,h3⟩
theorem KT.put {H:Hp}{kvs:List (List Key×V)}{xs:List (List Key×Addr×Value)} (r:KT H kvs xs) (k:List Key) {b:Addr}{y:V}{u:Value} (hb:H b=some (.tup (k.map kV))) (ry:RelV y u):
  KT H (putK kvs k y) (storedH xs k b u):=by
 have e:(kvs.any fun kv=>decide (kv.1=k))=(atKey xs k).isSome:=by
  rw [UB,(r.val k).isSome_eq,Option.isSome_map]
 unfold putK storedH
 rw [e]
 by_cases q:(atKey xs k).isSome=true
 ·rw [if_pos q,if_pos q];exact r.repl k ry
 ·rw [if_neg q,if_neg q];exact Paired.snoc r ⟨rfl,hb,ry⟩
theorem KT.keeps {H H':Hp}{kvs:List (List Key×V)}{xs:List (List Key×Addr×Value)} (r:KT H kvs xs) (ht:∀b ys,H b=some (.tup ys)->H' b=some (.tup ys)):KT H' kvs xs:=
 Paired.mapP r fun _ _ z=>⟨z.1,ht _ _ z.2.1,z.2.2⟩
section
variable {P:Program}{w:World}{H:Hp}{h:Heap}{a:Addr}
theorem ZkQ {u:HO} (ok:Uv P w H h) (e:Rd H a u):Yp P w H h a u:=e.ok ok
theorem Zgd {kvs:List (Key×V)} (ok:Uv P w H h) (e:Rd H a (.dK kvs)):kvs.length<=sizeLine/\(a==sysModules)=false /\ ∃vs,KV kvs vs/\h.DictOf (YI P w) a vs:=
 show Yp P w H h a (.dK kvs) from ZkQ ok e
theorem Zij {kvs:List (Key×V)} (ok:Uv P w H h) (e:H a=some (.dK kvs)):kvs.length<=sizeLine/\(a==sysModules)=false /\ ∃vs,KV kvs vs/\h.DictOf (YI P w) a vs:=Zgd ok (.inl e)
theorem Zd2 {ks:List Key} (ok:Uv P w H h) (e:H a=some (.tup (ks.map kV))):(tupleKind (YI P w)).is h ks a:=by
 obtain ⟨_,its,r,o,h1,h2,n,h3⟩:=(show Yp P w H h a (.tup (ks.map kV)) from ok a _ e)
 exact ⟨o,its.toArray,n,h1,h2,h3,by simpa using Zc5 r⟩
theorem Zgn {kvs:List (List Key×V)} (ok:Uv P w H h) (e:Rd H a (.dT kvs)):kvs.length<=sizeLine/\(a==sysModules)=false /\
  ∃xs,KT H kvs xs/\h.DictOfH (tupleKind (YI P w)) a xs:=by
 obtain ⟨z,y,xs,r,o,es,ep,h1,h2,h3,h4,h5⟩:=(show Yp P w H h a (.dT kvs) from ZkQ ok e)
 refine ⟨z,y,xs,r,o,es,ep,h1,h2,h3,h4,fun x hx=>?_,h5⟩
 have all:∀{l:List (List Key×V)}{m:List (List Key×Addr×Value)},KT H l m -> ∀x∈m,(tupleKind (YI P w)).is h x.1 x.2.1:=by
  intro l m q
  induction q with
  | nil=>intro x hx;exact nomatch hx
  | @cons p q ps qs hq t ih=>
   intro x hx
   rcases List.mem_cons.mp hx with e | hx
   ·subst e
    exact Zd2 ok (by rw [<- hq.1];exact hq.2.1)
   ·exact ih x hx
 exact all r x hx
theorem Znb {kvs:List (List Key×V)} (ok:Uv P w H h) (e:H a=some (.dT kvs)):kvs.length<=sizeLine/\(a==sysModules)=false /\
  ∃xs,KT H kvs xs/\h.DictOfH (tupleKind (YI P w)) a xs:=Zgn ok (.inl e)
end
def Ue (H:Hp) (a:Addr) (y:V) (r:Option V):Prop:=
 (∃kvs k,Rd H a (.dK kvs)/\y=kV k/\r=JG kvs k) ∨ ∃kvs k b,Rd H a (.dT kvs)/\y = .ref b/\H b=some (.tup (k.map kV))/\r=JG kvs k
def ZcM (H:Hp) (a:Addr) (y v:V) (H':Hp):Prop:=
 (∃kvs k,H a=some (.dK kvs)/\y=kV k/\kvs.length<sizeLine/\H'=upd H a (.dK (putK kvs k v))) ∨
 ∃kvs k b,H a=some (.dT kvs)/\y = .ref b/\H b=some (.tup (k.map kV))/\kvs.length<sizeLine/\H'=upd H a (.dT (putK kvs k v))
theorem Ue.k {H:Hp}{a:Addr}{kvs:List (Key×V)}{k:Key} (e:H a=some (.dK kvs)):Ue H a (kV k) (JG kvs k):=.inl ⟨kvs,k,.inl e,rfl,rfl⟩
theorem Ue.t {H:Hp}{a b:Addr}{kvs:List (List Key×V)}{k:List Key} (e:H a=some (.dT kvs)) (eb:H b=some (.tup (k.map kV))):Ue H a (.ref b) (JG kvs k):=.inr ⟨kvs,k,b,.inl e,rfl,eb,rfl⟩
theorem ZcM.k {H:Hp}{a:Addr}{kvs:List (Key×V)}{k:Key}{v:V} (e:H a=some (.dK kvs)) (hl:kvs.length<sizeLine):ZcM H a (kV k) v (upd H a (.dK (putK kvs k v))):=.inl ⟨kvs,k,e,rfl,hl,rfl⟩
theorem ZcM.t {H:Hp}{a b:Addr}{kvs:List (List Key×V)}{k:List Key}{v:V} (e:H a=some (.dT kvs)) (eb:H b=some (.tup (k.map kV))) (hl:kvs.length<sizeLine):
  ZcM H a (.ref b) v (upd H a (.dT (putK kvs k v))):=.inr ⟨kvs,k,b,e,rfl,eb,hl,rfl⟩
section
variable {X:Cx}{pins:List (Addr×Obj)} {σ:St}{H:Hp}{s:Shared}{a:Addr}{y v:V}{u r:Value}{o:Option V}{A:Around}{E:Value->Shared->Prop}
theorem Inv.big (I:Inv X pins σ H s):sysModules<s.heap.objs.size:=by
 have h:mainGlobals<s.heap.objs.size:=(I.mod.glob.keeps I.bk).lt
 exact Nat.lt_trans (by decide) h
theorem Zhr {Q:Value->Shared->Prop} (hu:A.units+1<cLine) (I:Inv X pins σ H s) (g:Ue H a y (some v)) (ry:RelV y u) (h:∀w' s',Inv X pins σ H s'->RelV v w'->Q w' s'):
  wpAny (model X.prog X.w) A (getItem (.ref a) u) Q E s:=by
 rcases g with ⟨kvs,k,e,ey,l⟩ | ⟨kvs,k,b,e,ey,eb,l⟩
 ·subst ey
  obtain ⟨z,hd,vs,rel,dd⟩:=Zgd I.hok e
  obtain ⟨w',hw,rw'⟩:=U9.some_of (v:=v) (o:=valueAt vs k) (by rw [l];exact rel.val k)
  exact wpAny_getItem_of (ZeO ry) dd.mapOf hw (h w' _ (I.tok _) rw')
 ·subst ey
  cases (show u=Value.ref b from ry)
  obtain ⟨z,hd,xs,rel,dd⟩:=Zgn I.hok e
  obtain ⟨w',hw,rw'⟩:=U9.some_of (v:=v) (o:=(atKey xs k).map (·.2)) (by rw [l];exact rel.val k)
  obtain ⟨p,hp,hp2⟩:=Option.map_eq_some_iff.mp hw
  refine wpAny_getItem_heap (tupleKind_room_in1 hu) (Zd2 I.hok eb) dd hp ?_
  rw [hp2]
  exact h w' _ (I.tok _) rw'
theorem ZnH {Q:Value->Shared->Prop} (hu:A.units+1<cLine) (I:Inv X pins σ H s) (g:Ue H a y o) (ry:RelV y u) (h:∀s',Inv X pins σ H s'->Q (.bool o.isSome) s'):
  wpAny (model X.prog X.w) A (compareOp .In u (.ref a)) Q E s:=by
 rcases g with ⟨kvs,k,e,ey,l⟩ | ⟨kvs,k,b,e,ey,eb,l⟩
 ·subst ey
  obtain ⟨z,hd,vs,rel,dd⟩:=Zgd I.hok e
  refine wpAny_in_of (ZeO ry) hd dd.mapOf ?_
  rw [<- (rel.val k).isSome_eq,<- l]
  exact h _ (I.tok _)
 ·subst ey
  cases (show u=Value.ref b from ry)
  obtain ⟨z,hd,xs,rel,dd⟩:=Zgn I.hok e
  refine wpAny_in_heap (tupleKind_room_in1 hu) (Zd2 I.hok eb) hd dd ?_
  have q:=(rel.val k).isSome_eq
  rw [Option.isSome_map] at q
  rw [<- q,<- l]
  exact h _ (I.tok _)
theorem Zed {h':Heap}{t':Nat}{ob:HO} (I:Inv X pins σ H s) (mu:Mut (H a)) (hs:Heap.SameBut a s.heap h') (he:∃q,h'.get? a=some q) (new:Yp X.prog X.w (upd H a ob) h' a ob):
  Inv X pins σ (upd H a ob) { s with heap:=h',toks:=t' }:=
 I.write (x:=a) (e:=a) mu (.inl rfl) (fun b q hb z=>(hs.2 b hb).trans z) he new
theorem Zik {P:Program}{w:World}{H':Hp}{h':Heap}{kvs:List (Key×V)}{vs:List (Key×Value)} (z:kvs.length<=sizeLine) (hd:(a==sysModules)=false) (rel:KV kvs vs) (dd:h'.DictOf (YI P w) a vs):
  Yp P w H' h' a (.dK kvs):=⟨z,hd,vs,rel,dd⟩
theorem Zhz {H':Hp}{Q:Unit->Shared->Prop} (hu:A.units+1<cLine) (I:Inv X pins σ H s) (g:ZcM H a y v H') (ry:RelV y u) (rv:RelV v r) (h:∀s',Inv X pins σ H' s'->Q () s'):
  wpAny (model X.prog X.w) A (setItem (.ref a) u r) Q E s:=by
 rcases g with ⟨kvs,k,e,ey,l,eH⟩ | ⟨kvs,k,b,e,ey,eb,l,eH⟩
 ·subst ey eH
  obtain ⟨z,hd,vs,rel,dd⟩:=Zij I.hok e
  have hz:vs.length<=sizeLine:=by rw [<- rel.length];exact z
  have hl:(putK kvs k v).length<=sizeLine:=by have:=Wg kvs k v;lia
  refine wpAny_setItem_pairs (hsz:=hz) (ZeO ry) dd fun h' dd' hs=>h _ ?_
  have he:∃q,h'.get? a=some q:=let ⟨q,_,_,hq,_⟩:=dd';⟨q,hq⟩
  exact Zed I (by rw [e];exact True.intro) hs he (Zik hl hd (rel.put k rv) dd')
 ·subst ey eH
  cases (show u=Value.ref b from ry)
  obtain ⟨z,hd,xs,rel,dd⟩:=Znb I.hok e
  have hz:xs.length<=sizeLine:=by rw [<- Paired.length rel];exact z
  have hl:(putK kvs k v).length<=sizeLine:=by have:=Wg kvs k v;lia
  refine wpAny_setItem_heap (hsz:=hz) (tupleKind_room_in1 hu) (Zd2 I.hok eb) dd fun h' dd' hs=>h _ ?_
  obtain ⟨q,es,ep,hq,h2,h3,h4,_,h5⟩:=dd'
  refine Zed I (by rw [e];exact True.intro) hs ⟨q,hq⟩ ⟨hl,hd,_,(rel.put k eb rv).keeps fun c ys ec=>?_,q,es,ep,hq,h2,h3,h4,h5⟩
  rw [Zi (Zie ec e (fun z=>nomatch z))]
  exact ec
end
theorem ZeR {X:Cx}{pins:List (Addr×Obj)} {σ:St}{H:Hp}{s:Shared}{a:Addr}{y:V}{o:Option V} (I:Inv X pins σ H s) (g:Ue H a y o):s.TypeIs (.ref a) "dict" := by
 rcases g with ⟨kvs,k,e,_,_⟩ | ⟨kvs,k,b,e,_,_,_⟩
 ·obtain ⟨_,_,vs,_,dd⟩:=Zgd I.hok e
  exact dd.typeIs
 ·obtain ⟨_,_,xs,_,dd⟩:=Zgn I.hok e
  exact dd.typeIs
def Zjj (ty td:TE):TE:=fun σ H Q=>ty σ H fun y H1=>td σ H1 fun x H2=>∃a o,x = .ref a/\Ue H2 a y o/\Q (.bl o.isSome) H2
section
variable {X:Cx}{o i e value:Expr}{pos pos' tpos:Pos}{td ty tv:TE}
theorem Zd6 (hu:X.A.units+1<cLine) (hi:PE X i ty) (ho:PE X o td):PC X .In i o (Zjj ty td):=by
 intro pins s σ H Q I h
 refine YR (hi pins s σ H _ I h) fun iv s1 ⟨y,H1,I1,ry,q1⟩=>YR (ho pins s1 σ H1 _ I1 q1) fun u s2 ⟨x,H2,I2,rx,a,ov,ex,g,q2⟩=>?_
 subst ex
 obtain rfl:u=Value.ref a:=rx
 exact ZnH hu I2 g ry fun s3 I3=>⟨.bl ov.isSome,H2,I3,rfl,q2⟩
end
theorem Zex {P:Program}{w:World}{H:Hp} (h:Heap) (hb:sysModules<h.objs.size):Yp P w H (h.push { cls:=.type "dict", data:=.dict #[] }) h.objs.size (.dK []):=
 ⟨Nat.zero_le _,beq_eq_false_iff_ne.mpr (Ne.symm (Nat.ne_of_lt hb)),[],.nil,Heap.DictOf.new h⟩
theorem Zim {P:Program}{w:World}{H:Hp} (h:Heap) (hb:sysModules<h.objs.size):Yp P w H (h.push { cls:=.type "dict", data:=.dict #[] }) h.objs.size (.dT []):=
 ⟨Nat.zero_le _,beq_eq_false_iff_ne.mpr (Ne.symm (Nat.ne_of_lt hb)),[],.nil,_,#[],0,Heap.get?_push_size _ rfl,⟨rfl,rfl,rfl⟩,rfl,rfl,List.nodup_nil⟩
def Zmo:TE:=fun _ H Q=>∀p,H p=none->Q (.ref p) (upd H p (.dK []))
def Zll:TE:=fun _ H Q=>∀p,H p=none->Q (.ref p) (upd H p (.dT []))
section
variable {X:Cx}{pos:Pos}
theorem ZhI:PE X (.Dict [] [] pos) Zmo:=fun pins s σ H Q I h=>
 wpAny_Dict_empty ⟨.ref s.heap.objs.size,_,I.laid (a:=s.heap.objs.size) (o:=.dK []) (t':=s.toks) (fun _ _ q=>Heap.get?_push_of_some _ q) (Nat.le_refl _) (Zex s.heap I.big),rfl,h _ (I.hok.fresh (Nat.le_refl _))⟩
theorem ZiY:PE X (.Dict [] [] pos) Zll:=fun pins s σ H Q I h=>
 wpAny_Dict_empty ⟨.ref s.heap.objs.size,_,I.laid (a:=s.heap.objs.size) (o:=.dT []) (t':=s.toks) (fun _ _ q=>Heap.get?_push_of_some _ q) (Nat.le_refl _) (Zim s.heap I.big),rfl,h _ (I.hok.fresh (Nat.le_refl _))⟩
end
theorem Yp.there {P:Program}{w:World}{H:Hp}{h:Heap}{a:Addr}{o:HO} (x:Yp P w H h a o):∃ob,h.get? a=some ob:=by
 cases o with
 | lst xs=>obtain ⟨_,_,_,_,e⟩:=x;exact ⟨_,e⟩
 | tup xs=>obtain ⟨_,_,_,_,e,_⟩:=x;exact ⟨_,e⟩
 | dK kvs=>obtain ⟨_,_,_,_,o,_,_,e,_⟩:=x;exact ⟨_,e⟩
 | dT kvs=>obtain ⟨_,_,_,_,o,_,_,e,_⟩:=x;exact ⟨_,e⟩
 | set S n=>obtain ⟨o,_,_,_,e,_⟩:=x;exact ⟨_,e⟩
 | ins C dx fs=>obtain ⟨_,_,_,e,_⟩:=x;exact ⟨_,e⟩
 | own y=>obtain ⟨_,e⟩:=x;exact ⟨_,e⟩
 | xd fs=>obtain ⟨_,⟨_,_,_,e,_⟩,_⟩:=x;exact ⟨_,e⟩
 | rng lo hi=>obtain ⟨_,_,_,e⟩:=x;exact ⟨_,e⟩
 | frz ob u=>obtain ⟨e,_⟩:=x;exact ⟨_,e⟩
 | tbl ps=>exact ⟨_,x⟩
 | met f y=>exact ⟨_,x⟩
 | ext φ=>obtain ⟨_,⟨_,e⟩,_⟩:=x;exact ⟨_,e⟩
theorem Zja {h:Heap}{a:Addr}{m m':Str->Option Value} (x:h.Ns a m) (y:h.Ns a m'):m=m':=by
 obtain ⟨o,es,ep,ho,hd,_,hm⟩:=x
 obtain ⟨o',es',ep',ho',hd',_,hm'⟩:=y
 rw [ho] at ho'
 cases ho'
 rw [hd] at hd'
 cases hd'
 exact funext fun n=>(hm n).symm.trans (hm' n)
section
variable {X:Cx}{pins:List (Addr×Obj)} {σ:St}{H:Hp}{s:Shared}
theorem Inv.laidN {h':Heap}{D:Addr}{o:HO}{t':Nat}{m:Str->Option Value} (I:Inv X pins σ H s) (F:Fr X.base X.env.locals s.heap m) (F':Fr X.base X.env.locals h' m)
  (N':News X.base X.env.locals h' (WB X.base s.heap X.env.locals)) (hD:s.heap.get? D=none) (hn:H D=none) (new:Yp X.prog X.w (upd H D o) h' D o):Inv X pins σ (upd H D o) { s with heap:=h',toks:=t' }:=by
 have kp:∀b u,b≠X.env.locals->s.heap.get? b=some u->h'.get? b=some u:=fun b u hb e=>by
  cases q:X.base.get? b with
  | some v=>
   have e1:=F'.keep b v q
   have e2:=F.keep b v q
   rw [e] at e2
   cases e2
   exact e1
  | none=>exact (N' (b,u) (UN hb q e)).1
 have neL:∀b u,H b=some u->b≠X.env.locals:=fun b u e z=>by rw [z,I.free] at e;cases e
 refine I.step (g':=s.gens) (d':=s.drawn) (ch:=[]) (fun _ z=>nomatch z) (fun b ob hb _ _ e _=>kp b ob hb e) (fun b ob hb _ _ e _=>⟨ob.slots,kp b ob hb e⟩) (fun b ob _ e n=>?_) (fun b ob _ e=>?_) (fun b xs e=>?_) (fun b ob u e=>?_) (fun b ps e=>⟨#[],?_⟩) (fun m' hm=>?_) (fun b u e=>?_) I.bare
 ·rw [Zi (fun z=>by subst z;rw [hD] at e;cases e)]
  exact n
 ·by_cases hb:b=X.env.locals
  ·subst hb
   obtain ⟨ob',_,_,z,_⟩:=F'.ns
   exact ⟨ob',z⟩
  ·exact ⟨ob,kp b ob hb e⟩
 ·rw [Zi (Zf e hn)];exact e
 ·rw [Zi (Zf e hn)];exact e
 ·rw [Zi (Zf e hn),e];simp
 ·rw [Zja hm F.ns];exact F'.ns
 ·by_cases hb:b=D
  ·subst hb;rw [Zb] at e;cases e;exact new
  ·rw [Zi hb] at e
   refine (I.hok b u e).stay (fun c v hc q=>kp c v ?_ q) (fun c q=>by rw [Zi (Zf q hn)];exact q) fun c xs q=>by rw [Zi (Zf q hn)];exact q
   rcases hc with z | z
   ·subst z;exact neL _ u e
   ·exact neL c _ z
end
section
variable {X:Cx}
theorem ZdX (hc:X.calm=true):JD X (.builtin "sorted") (fun xs H Q=>∃(p:Addr) (kvs:List (Key×V)) (ns:List Int),xs = [.ref p]/\H p=some (.dK kvs)/\kvs.map (·.1)=ns.map Sum.inl/\ns.length<64 /\
  ∀(l:Addr) (ns':List Int),H l=none->ns'.Perm ns->ns'.Pairwise (· <= ·)->Q (.ref l) (upd H l (.lst (ns'.map V.int)))):=by
 intro pins s σ H xs us Q I r h
 obtain ⟨p,kvs,ns,rfl,hp,hk,h64,q⟩:=h
 obtain ⟨u,rfl,ru⟩:=r.one
 cases ru
 obtain ⟨z,hsm,vs,rel,ob,es,ep,hd⟩:=Zij I.hok hp
 obtain ⟨m,fr⟩:=I.fr
 have lv:kvs.length=vs.length:=Paired.length rel
 have ln:kvs.length=ns.length:=by simpa using congrArg List.length hk
 refine W.kdu_sorted (W.kdl_dict (knd:=YI X.prog X.w) (kvs:=vs) (ep:=ep) hsm) (I.ok.hd hc) fr (news:=WB X.base s.heap X.env.locals) Ze4 ⟨ob,es,hd⟩ (by lia) fun D h' tk ws fr' nw' lt' hlen hP=>?_
 have ia:IntsAre ws ns:=by
  have key:∀(ws:List Value) (ns:List Int),ws.length=ns.length->(∀(j:Nat) (v:Value) (n:Int),ws[j]? = some v->ns[j]? = some n -> ∃t,v = .int n t)->IntsAre ws ns:=by
   intro ws
   induction ws with
   | nil=>intro ns hl _;cases ns with
    | nil=>exact .nil
    | cons _ _=>cases hl
   | cons w ws ih=>
    intro ns hl h
    cases ns with
    | nil=>cases hl
    | cons n ns=>
     obtain ⟨t,rfl⟩:=h 0 w n rfl rfl
     exact .cons n t (ih ns (by simpa using hl) fun j v n' e1 e2=>h (j+1) v n' (by simpa using e1) (by simpa using e2))
  refine key ws ns (by lia) fun j v n e1 e2=>?_
  obtain ⟨k,x,e3,e4⟩:=hP j v e1
  have e5:(kvs.map (·.1))[j]? = some k:=by
   have hj:j<kvs.length:=by have:=(List.getElem?_eq_some_iff.mp e3).1;lia
   have key:∀(kvs:List (Key×V)) (vs:List (Key×Value)),KV kvs vs -> ∀j:Nat,(kvs.map (·.1))[j]? = (vs.map (·.1))[j]?:=by
    intro kvs vs rel
    unfold KV at rel
    induction rel with
    | nil=>intro j;rfl
    | cons a _ ih=>
     intro j
     cases j with
     | zero=>simp [a.1]
     | succ j=>simpa using ih j
   rw [key kvs vs rel j,List.getElem?_map,e3]
   rfl
  rw [hk,List.getElem?_map,e2] at e5
  cases e5
  rcases Yx (k:=Sum.inl n) (v:=v) e4 with ⟨i,t,z1,z2⟩ | ⟨x',t,z1,z2⟩
  ·cases z1;exact ⟨t,z2⟩
  ·cases z1
 refine W.ksk_lsort (vs:=ws) (its:=ws.toArray) (n:=0) fr' nw' (news':=fun o=>(D,o)::WB X.base s.heap X.env.locals) (fun o=>.head fun q hq=>Nat.ne_of_lt (lt' q hq)) rfl ia h64 fun vs' ns' c h'' fr'' nw'' ia' hl' perm pw _=>?_
 have hD:s.heap.get? D=none:=by
  have nb:X.base.get? D=none:=(nw' (D,W.listOf ws.toArray 0) List.mem_cons_self).2.2
  have nL:D≠X.env.locals:=(nw' (D,W.listOf ws.toArray 0) List.mem_cons_self).2.1
  cases e:s.heap.get? D with
  | none=>rfl
  | some o=>exact absurd (lt' (D,o) (UN nL nb e)) (Nat.lt_irrefl _)
 have fresh:H D=none:=by
  cases e:H D with
  | none=>rfl
  | some o=>
   obtain ⟨ob,e2⟩:=(I.hok D o e).there
   rw [hD] at e2
   cases e2
 have I2:=I.laidN (o:=.lst (ns'.map V.int)) (D:=D) (h':=h'') (t':=tk) fr fr'' (fun q hq=>nw'' q (List.mem_cons_of_mem _ hq)) hD fresh ⟨by
  rw [List.length_map,hl']
  lia,vs',c,Za2 ia',(nw'' _ List.mem_cons_self).1⟩
 exact ⟨.ref D,_,I2,rfl,q D ns' fresh perm pw⟩
def Zjv:R2:=fun x y H Q=>∃a v,x = .ref a/\Ue H a y (some v)/\Q v H
theorem Wb (hu:X.A.units+1<cLine):IxR X Zjv:=by
 intro value slice pins s σ H x y v u Q I rx ry h hs
 obtain ⟨a,w,rfl,g,q⟩:=h
 cases rx
 exact tail_any (ops:=[.ref a,u]) (ZeR I g) PySem.F.slot_dict_getitem.lookup (Zhr hu I g ry fun w' s3 I3 rw'=>⟨w,H,I3,rw',q⟩) hs
def Zjd:V->V->V->Hp->(Hp->Prop)->Prop:=fun o i v H Q=>∃a H',o = .ref a/\ZcM H a i v H'/\Q H'
theorem set_dict (hu:X.A.units+1<cLine):ZjB X Zjd:=by
 intro pins s σ H o i v ov iv u Q I ro ri rv h
 obtain ⟨a,H',rfl,g,q⟩:=h
 cases ro
 exact Zhz hu I g ri rv fun s' I'=>⟨H',I',q⟩
def ZmD (K:PySem.W.Frag) (n:Nat) (t:TGs):TG:=fun v σ H Q=>∃a xs,v = .ref a/\Zu K H a xs/\xs.length=n/\t xs σ H Q
theorem Zlg {es:List Expr}{k:Nat}{t:TGs}{n:Nat}{pos:Pos} (hc:X.calm=true) (h:PGs X es t)
  (hn:(assignEach es X.env).length=n:=by rfl) (hst:(assignEach es X.env).findIdx? (·.1)=none:=by rfl):PG X (.Tuple es k pos) (ZmD X.K n t):=by
 intro pins s σ H v u Q I r hw
 obtain ⟨a,xs,e1,hq,hl,hw⟩:=hw
 subst e1
 cases r
 obtain ⟨its,rv,p,hz⟩:=I.list hq
 rw [arm_assign_Tuple]
 refine wpAny_bind (wpAny_standAt ?_)
 unfold unpack
 rw [hst]
 refine wpAny_bind (wpAny_holding ?_)
 have e:(assignEach es X.env).length=its.toArray.size:=by rw [hn,<- hl,rv.length];simp
 rw [e]
 refine W.kun_itemsOf (I.ok.hd hc) p.isList fun h' hx=>?_
 have I1:Inv X pins σ H { s with heap:=h' }:=I.kept (t':=s.toks) fun b o e=>hx b o (Nat.ne_of_lt (Heap.lt_size e)) e
 exact h pins _ σ H xs _ Q I1 (by simpa using rv) hw
theorem Zdq {K:PySem.W.Frag}{es:List Expr}{k:Nat}{t:TGs}{n:Nat}{pos:Pos} (hk:X.K=K) (hc:X.calm=true) (h:PGs X es t)
  (hn:(assignEach es X.env).length=n:=by rfl) (hst:(assignEach es X.env).findIdx? (·.1)=none:=by rfl):PG X (.Tuple es k pos) (ZmD K n t):=hk ▸ Zlg hc h hn hst
end
def bw (x:Int):Int:=if x % 2=0 then x+1 else x-1
theorem ZbC (x:Int):bw (bw x)=x:=by unfold bw;split<;>split<;>lia
theorem ZmA (x:Int):bw x≠x:=by unfold bw;split<;>lia
structure JT (m:Int->Int) (N:Int):Prop where
 lo:∀x,0<=x->x<N->0<=m x
 hi:∀x,0<=x->x<N->m x<N
 inv:∀x,0<=x->x<N->m (m x)=x
 ne:∀x,0<=x->x<N->m x≠x
 ev:N % 2=0
theorem ZiT {N x:Int} (e:N % 2=0) (h0:0<=x) (h1:x<N):0<=bw x/\bw x<N:=by unfold bw;split<;>omega
def gt (m:Int->Int) (f:Int):Nat->Int
 | 0=>f
 | i+1=>bw (m (gt m f i))
def W7 (m:Int->Int) (f:Int):Nat->List Int
 | 0=>[]
 | i+1=>W7 m f i ++ [gt m f i,m (gt m f i)]
theorem GW (m:Int->Int) (f:Int):∀i,(W7 m f i).length=2*i
 | 0=>rfl
 | i+1=>by
  simp only [W7,List.length_append,GW m f i,List.length_cons,List.length_nil]
  lia
theorem Y6 {m:Int->Int}{f x:Int}:∀{i:Nat},x∈W7 m f i ↔ ∃j,j<i/\(x=gt m f j∨x=m (gt m f j))
 | 0=>by simp [W7]
 | i+1=>by
  simp only [W7,List.mem_append,Y6 (i:=i),List.mem_cons,List.not_mem_nil,or_false]
  constructor
  ·rintro (⟨j,h,e⟩ | h)
   ·exact ⟨j,by lia,e⟩
   ·exact ⟨i,by lia,h⟩
  ·rintro ⟨j,h,e⟩
   by_cases hj:j=i
   ·subst hj;exact .inr e
   ·exact .inl ⟨j,by lia,e⟩
section
variable {m:Int->Int}{N f:Int}
theorem YO (M:JT m N) (h0:0<=f) (h1:f<N):∀i,0<=gt m f i/\gt m f i<N
 | 0=>⟨h0,h1⟩
 | i+1=>by
  obtain ⟨a,b⟩:=YO M h0 h1 i
  exact ZiT M.ev (M.lo _ a b) (M.hi _ a b)
theorem ZiQ (M:JT m N) (h0:0<=f) (h1:f<N):∀d j,gt m f (j+d)≠m (gt m f j)
 | 0,j=>fun e=>M.ne _ (YO M h0 h1 j).1 (YO M h0 h1 j).2 e.symm
 | 1,j=>ZmA _
 | d+2,j=>fun e=>by
  refine ZiQ M h0 h1 d (j+1) ?_
  have e1:bw (m (gt m f (j+d+1)))=m (gt m f j):=e
  have e2:m (gt m f (j+d+1))=bw (m (gt m f j)):=by rw [<- e1,ZbC]
  have e3:gt m f (j+1)=m (gt m f (j+d+1)):=e2.symm
  have dm:=YO M h0 h1 (j+d+1)
  rw [e3,M.inv _ dm.1 dm.2]
  congr 1
  lia
theorem Zgt (M:JT m N) (h0:0<=f) (h1:f<N) (i j:Nat):gt m f i≠m (gt m f j):=by
 by_cases h:j<=i
 ·have:=ZiQ M h0 h1 (i-j) j
  rwa [show j+(i-j)=i by lia] at this
 ·intro e
  refine ZiQ M h0 h1 (j-i) i ?_
  rw [show i+(j-i)=j by lia,e]
  exact (M.inv _ (YO M h0 h1 j).1 (YO M h0 h1 j).2).symm
theorem ZkO (M:JT m N) {x y:Int} (hx:0<=x/\x<N) (hy:0<=y/\y<N) (e:m x=m y):x=y:=by
 rw [<- M.inv x hx.1 hx.2,e,M.inv y hy.1 hy.2]
theorem ZgC (M:JT m N) (h0:0<=f) (h1:f<N):∀j d,gt m f (j+d)=gt m f j->gt m f d=f
 | 0,d,e=>by simpa [gt] using e
 | j+1,d,e=>by
  refine ZgC M h0 h1 j d (ZkO M (YO M h0 h1 _) (YO M h0 h1 _) ?_)
  have e1:bw (m (gt m f (j+d)))=bw (m (gt m f j)):=by
   have:j+1+d=j+d+1:=by lia
   rw [this] at e
   exact e
  rw [<- ZbC (m (gt m f (j+d))),e1,ZbC]
theorem Zdr (M:JT m N) (h0:0<=f) (h1:f<N) {i j:Nat} (hj:j<i) (e:gt m f i=gt m f j):gt m f (i-j)=f:=by
 refine ZgC M h0 h1 j (i-j) ?_
 rw [show j+(i-j)=i by lia]
 exact e
theorem Zbn (M:JT m N) (h0:0<=f) (h1:f<N):∀i,(∀j,1<=j->j<i->gt m f j≠f)->(W7 m f i).Nodup
 | 0,_=>by simp [W7]
 | i+1,h=>by
  have ih:=Zbn M h0 h1 i fun j a b=>h j a (by lia)
  show (W7 m f i ++ [gt m f i,m (gt m f i)]).Nodup
  rw [List.nodup_append]
  refine ⟨ih,by simp [Zgt M h0 h1 i i],fun a ha b hb=>?_⟩
  obtain ⟨j,hj,e⟩:=Y6.mp ha
  have hb:b=gt m f i∨b=m (gt m f i):=by simpa using hb
  intro z
  subst z
  rcases e with e | e<;>rcases hb with z | z
  ·exact h (i-j) (by lia) (by lia) (Zdr M h0 h1 hj (z.symm.trans e))
  ·exact Zgt M h0 h1 j i (e.symm.trans z)
  ·exact Zgt M h0 h1 i j (z.symm.trans e)
  ·exact h (i-j) (by lia) (by lia) (Zdr M h0 h1 hj (ZkO M (YO M h0 h1 _) (YO M h0 h1 _) (z.symm.trans e)))
theorem Zgy (M:JT m N) (h0:0<=f) (h1:f<N) {i:Nat}{x:Int} (hx:x∈W7 m f i):0<=x/\x<N:=by
 obtain ⟨j,_,e | e⟩:=Y6.mp hx
 ·rw [e];exact YO M h0 h1 j
 ·rw [e];exact ⟨M.lo _ (YO M h0 h1 j).1 (YO M h0 h1 j).2,M.hi _ (YO M h0 h1 j).1 (YO M h0 h1 j).2⟩
theorem Gd:∀(n:Nat) (l:List Int),l.Nodup->(∀x∈l,0<=x/\x<(n:Int))->l.length<=n
 | 0,l,_,h=>by
  cases l with
  | nil=>simp
  | cons x _=>have:=h x List.mem_cons_self;lia
 | n+1,l,nd,h=>by
  by_cases hn:(n:Int)∈l
  ·have h1:=Gd n (l.erase (n:Int)) (nd.erase _) fun x hx=>by
    have h2:=(nd.mem_erase_iff).mp hx
    have:=h x h2.2
    have:=h2.1
    lia
   rw [List.length_erase_of_mem hn] at h1
   lia
  ·have h1:=Gd n l nd fun x hx=>by
    have:=h x hx
    have h3:x≠(n:Int):=fun z=>hn (z ▸ hx)
    lia
   lia
theorem Zbi (M:JT m N) (h0:0<=f) (h1:f<N) {i:Nat} (h:∀j,1<=j->j<i->gt m f j≠f):2*(i:Int)<=N:=by
 have:=Gd N.toNat (W7 m f i) (Zbn M h0 h1 i h) fun x hx=>by
  have:=Zgy M h0 h1 hx
  lia
 rw [GW] at this
 lia
theorem Zjl (M:JT m N) (h0:0<=f) (h1:f<N) {i:Nat} (h:∀j,1<=j->j<i->gt m f j≠f):gt m f i∈W7 m f i ↔ (1<=i/\gt m f i=f):=by
 constructor
 ·intro hx
  obtain ⟨j,hj,e | e⟩:=Y6.mp hx
  ·have:=Zdr M h0 h1 hj e
   by_cases z:j=0
   ·subst z;exact ⟨by lia,this⟩
   ·exact absurd this (h (i-j) (by lia) (by lia))
  ·exact absurd e (Zgt M h0 h1 i j)
 ·rintro ⟨a,e⟩
  exact Y6.mpr ⟨0,by lia,.inl e⟩
end
def Jo (m:Int->Int) (f:Int) (T:List Int):Prop:=∃L,1<=L/\gt m f L=f/\(∀j,1<=j->j<L->gt m f j≠f)/\T=W7 m f L
theorem Jo.uniq {m:Int->Int}{f:Int}{T T':List Int} (a:Jo m f T) (b:Jo m f T'):T=T':=by
 obtain ⟨L,h1,e1,n1,rfl⟩:=a
 obtain ⟨L',h2,e2,n2,rfl⟩:=b
 have:L=L':=by
  rcases Nat.lt_trichotomy L L' with z | z | z
  ·exact absurd e1 (n2 L h1 z)
  ·exact z
  ·exact absurd e2 (n1 L' h2 z)
 rw [this]
theorem Jo.self {m:Int->Int}{f:Int}{T:List Int} (a:Jo m f T):f∈T:=by
 obtain ⟨L,h1,e1,n1,rfl⟩:=a
 exact Y6.mpr ⟨0,by lia,.inl rfl⟩
theorem Jo.dom {m:Int->Int}{N f:Int}{T:List Int} (M:JT m N) (h0:0<=f) (h1:f<N) (a:Jo m f T):∀x∈T,0<=x/\x<N:=by
 obtain ⟨L,_,_,_,rfl⟩:=a
 exact fun x hx=>Zgy M h0 h1 hx
theorem Jo.nodup {m:Int->Int}{N f:Int}{T:List Int} (M:JT m N) (h0:0<=f) (h1:f<N) (a:Jo m f T):T.Nodup:=by
 obtain ⟨L,_,_,n,rfl⟩:=a
 exact Zbn M h0 h1 L n
theorem Jo.len {m:Int->Int}{N f:Int}{T:List Int} (M:JT m N) (h0:0<=f) (h1:f<N) (a:Jo m f T):(T.length:Int)<=N:=by
 obtain ⟨L,_,_,n,rfl⟩:=a
 have:=Zbi M h0 h1 n
 rw [GW]
 lia
theorem Jo.closed {m:Int->Int}{N f:Int}{T:List Int} (M:JT m N) (h0:0<=f) (h1:f<N) (a:Jo m f T):∀x∈T,m x∈T/\bw x∈T:=by
 obtain ⟨L,hL,eL,n,rfl⟩:=a
 intro x hx
 obtain ⟨j,hj,e | e⟩:=Y6.mp hx
 ·subst e
  refine ⟨Y6.mpr ⟨j,hj,.inr rfl⟩,?_⟩
  cases j with
  | zero=>
   refine Y6.mpr ⟨L-1,by lia,.inr ?_⟩
   have:gt m f (L-1+1)=f:=by rw [show L-1+1=L by lia];exact eL
   have e2:bw (m (gt m f (L-1)))=f:=this
   show bw f=_
   rw [<- e2,ZbC,e2]
  | succ j=>exact Y6.mpr ⟨j,by lia,.inr (ZbC _)⟩
 ·subst e
  refine ⟨?_,?_⟩
  ·rw [M.inv _ (YO M h0 h1 j).1 (YO M h0 h1 j).2]
   exact Y6.mpr ⟨j,hj,.inl rfl⟩
  ·by_cases z:j+1=L
   ·refine Y6.mpr ⟨0,by lia,.inl ?_⟩
    show gt m f (j+1)=f
    rw [z,eL]
   ·exact Y6.mpr ⟨j+1,by lia,.inl rfl⟩
theorem Zbp {m:Int->Int}{N f:Int} (M:JT m N) (h0:0<=f) (h1:f<N) {S:List Int} (cl:∀x∈S,m x∈S/\bw x∈S) (hf:f∉S):∀i,gt m f i∉S/\m (gt m f i)∉S
 | 0=>⟨hf,fun h=>hf (by
  have:m (m f)∈S:=(cl _ h).1
  rwa [M.inv _ h0 h1] at this)⟩
 | i+1=>by
  have ih:=Zbp M h0 h1 cl hf i
  have a:gt m f (i+1)∉S:=fun h=>ih.2 (by
   have:=(cl _ h).2
   rwa [show bw (gt m f (i+1))=m (gt m f i) from ZbC _] at this)
  refine ⟨a,fun h=>a ?_⟩
  have:=(cl _ h).1
  rwa [M.inv _ (YO M h0 h1 (i+1)).1 (YO M h0 h1 (i+1)).2] at this
inductive U3 (m:Int->Int):Nat->List (List Int)->Prop
 | nil:U3 m 0 []
 | add {i:Nat}{ts:List (List Int)}{T:List Int}:U3 m i ts->(i:Int)∉ts.flatten->Jo m (i:Int) T->U3 m (i+1) (ts ++ [T])
 | skip {i:Nat}{ts:List (List Int)}:U3 m i ts->(i:Int)∈ts.flatten->U3 m (i+1) ts
theorem U3.uniq {m:Int->Int}{i:Nat}{ts:List (List Int)} (a:U3 m i ts):∀{ts':List (List Int)},U3 m i ts'->ts=ts':=by
 induction a with
 | nil=>intro ts' b;cases b;rfl
 | add a h t ih=>
  intro ts' b
  cases b with
  | add b h' t'=>rw [ih b,t.uniq t']
  | skip b h'=>rw [ih b] at h;exact absurd h' h
 | skip a h ih=>
  intro ts' b
  cases b with
  | add b h' t'=>rw [ih b] at h;exact absurd h h'
  | skip b h'=>exact ih b
theorem U3.mem {m:Int->Int}{i:Nat}{ts:List (List Int)} (a:U3 m i ts):∀j:Nat,j<i->(j:Int)∈ts.flatten:=by
 induction a with
 | nil=>intro j hj;lia
 | @add i ts T a h t ih=>
  intro j hj
  rw [List.flatten_append,List.mem_append]
  by_cases e:j=i
  ·subst e;exact .inr (by simpa using t.self)
  ·exact .inl (ih j (by lia))
 | @skip i ts a h ih=>
  intro j hj
  by_cases e:j=i
  ·subst e;exact h
  ·exact ih j (by lia)
theorem U3.good {m:Int->Int}{N:Int} (M:JT m N) {i:Nat}{ts:List (List Int)} (a:U3 m i ts) (hi:(i:Int)<=N):ts.flatten.Nodup/\(∀x∈ts.flatten,0<=x/\x<N)/\(∀x∈ts.flatten,m x∈ts.flatten/\bw x∈ts.flatten):=by
 induction a with
 | nil=>simp
 | @add i ts T a h t ih=>
  obtain ⟨n,d,c⟩:=ih (by lia)
  have h0:(0:Int)<=(i:Int):=by lia
  have h1:(i:Int)<N:=by lia
  rw [List.flatten_append]
  have e:[T].flatten=T:=by simp
  rw [e]
  refine ⟨?_,fun x hx=>?_,fun x hx=>?_⟩
  ·rw [List.nodup_append]
   refine ⟨n,t.nodup M h0 h1,fun a ha b hb z=>?_⟩
   subst z
   obtain ⟨L,_,_,_,rfl⟩:=t
   obtain ⟨j,_,e | e⟩:=Y6.mp hb
   ·exact (Zbp M h0 h1 c h j).1 (e ▸ ha)
   ·exact (Zbp M h0 h1 c h j).2 (e ▸ ha)
  ·rcases List.mem_append.mp hx with z | z
   ·exact d x z
   ·exact t.dom M h0 h1 x z
  ·rw [List.mem_append,List.mem_append]
   rcases List.mem_append.mp hx with z | z
   ·exact ⟨.inl (c x z).1,.inl (c x z).2⟩
   ·exact ⟨.inr (t.closed M h0 h1 x z).1,.inr (t.closed M h0 h1 x z).2⟩
 | skip a h ih=>exact ih (by lia)
theorem U3.jump {m:Int->Int}{ts:List (List Int)}{i:Nat} (a:U3 m i ts):∀d:Nat,(∀j:Nat,i<=j->j<i+d->(j:Int)∈ts.flatten)->U3 m (i+d) ts
 | 0,_=>a
 | d+1,h=>by
  have:=U3.jump a d fun j x y=>h j x (by lia)
  exact U3.skip this (h (i+d) (by lia) (by lia))
theorem U3.len {m:Int->Int}{N:Int} (M:JT m N) {i:Nat}{ts:List (List Int)} (a:U3 m i ts) (hi:(i:Int)<=N):ts.length<=i:=by
 induction a with
 | nil=>simp
 | add a h t ih=>have:=ih (by lia);simp;lia
 | skip a h ih=>have:=ih (by lia);lia
def rowAt (ls:List (Str×Int)) (t:Nat):List Int:=(rb (ls.take t)).1
def JA (ls:List (Str×Int)) (t:Nat):Int×Int:=((rowAt ls t).getD ((ls.getD t ("", 0)).2.toNat) 0,(rowAt ls t).getD ((ls.getD t ("", 0)).2.toNat+1) 0)
def Uh:Str->Bool:=fun x=>decide (x = "end")
def Jy (ls:List (Str×Int)) (i:Nat):List (Int×Int):=(J2 ls Uh i).map fun t=>JA ls t.toNat
def ZL (ps:List (Int×Int)):List Int:=ps.flatMap fun p=>[p.1,p.2]
theorem JU (a b:List (Int×Int)):ZL (a++b)=ZL a++ZL b:=by simp [ZL]
theorem Gy (ps:List (Int×Int)):(ZL ps).length=2*ps.length:=by
 induction ps with
 | nil=>rfl
 | cons p r ih=>
  have:ZL (p::r) = [p.1,p.2]++ZL r:=by simp [ZL]
  rw [this,List.length_append,ih]
  simp
  lia
theorem WH (ls:List (Str×Int)) (i:Nat):Jy ls (i+1)=Jy ls i++(if isK ls Uh i=true then [JA ls i] else []):=by
 unfold Jy
 rw [UT,List.map_append]
 by_cases h:isK ls Uh i=true<;>simp [h]
def Ud (n:Nat):List Int:=(List.range n).map fun (x:Nat)=>(x:Int)
theorem Zh7 (n:Nat):Ud (n+2)=Ud n ++ [(n:Int),(n:Int)+1]:=by
 unfold Ud
 rw [List.range_succ,List.range_succ]
 simp
theorem Jd {n:Nat}{x:Int}:x∈Ud n ↔ 0<=x/\x<(n:Int):=by
 unfold Ud
 rw [List.mem_map]
 constructor
 ·rintro ⟨a,h,rfl⟩
  have:=List.mem_range.mp h
  lia
 ·rintro ⟨h0,h1⟩
  exact ⟨x.toNat,List.mem_range.mpr (by lia),by lia⟩
theorem W5 (n:Nat):(Ud n).Nodup:=by
 unfold Ud
 rw [List.nodup_iff_pairwise_ne,List.pairwise_map]
 exact (List.nodup_iff_pairwise_ne.mp List.nodup_range).imp fun h e=>h (by lia)
theorem Gs (n:Nat):(Ud n).length=n:=by simp [Ud]
theorem Zkj (r:List Int) (k:Nat) (h:k+1<r.length):r=r.take k ++ [r.getD k 0,r.getD (k+1) 0]++r.drop (k+2):=by
 have e1:r.drop k=r[k]::r.drop (k+1):=List.drop_eq_getElem_cons (by lia)
 have e2:r.drop (k+1)=r[k+1]::r.drop (k+2):=List.drop_eq_getElem_cons h
 have e:r.take k++r.drop k=r:=List.take_append_drop k r
 rw [e1,e2] at e
 have h1:r.getD k 0=r[k]:=by simp [show k<r.length by lia]
 have h2:r.getD (k+1) 0=r[k+1]:=by simp [h]
 rw [h1,h2]
 simpa using e.symm
theorem ZjQ (r:List Int) (k:Nat) (h:k+1<r.length):swp r k=r.take k ++ [r.getD (k+1) 0,r.getD k 0]++r.drop (k+2):=by
 have hl:(r.take k).length=k:=by rw [List.length_take];lia
 unfold swp
 generalize ha:r.getD k 0=a
 generalize hb:r.getD (k+1) 0=b
 have e:=Zkj r k h
 rw [ha,hb] at e
 generalize r.take k=p at e hl ⊢
 generalize r.drop (k+2)=q at e ⊢
 subst e
 rw [List.append_assoc,List.set_append_right _ _ (by lia),hl,List.set_append_right _ _ (by lia),hl]
 simp
theorem ZaT {ls:List (Str×Int)} (hW:Wk ls 0):∀i,i<=ls.length->0<=(rb (ls.take i)).2/\(rb (ls.take i)).2 % 2=0/\(rowAt ls i++ZL (Jy ls i)).Perm (Ud (rb (ls.take i)).2.toNat)
 | 0,_=>by
  refine ⟨Int.le_refl _,rfl,?_⟩
  exact List.Perm.refl _
 | i+1,hi=>by
  obtain ⟨ih0,ih1,ih⟩:=ZaT hW i (by omega)
  have hq:ls[i]? = some ls[i]:=by simp [show i<ls.length by omega]
  obtain ⟨tk,c⟩:=Ze3 hW hq
  have gd:ls.getD i ("", 0)=ls[i]:=by simp [show i<ls.length by omega]
  unfold rowAt at ih ⊢
  generalize hp:ls[i]=p at *
  obtain ⟨px,pk⟩:=p
  rw [tk,JI,WH]
  have kk:∀pr:Str->Bool,isK ls pr i=pr px:=fun pr=>by
   unfold isK
   rw [hq]
   cases h:pr px<;>simp [h]
  rw [kk]
  rcases c with ⟨e,b0,b1⟩ | ⟨e,b0,b1⟩ | ⟨e,b0,b1⟩
  ·have e:px = "born" := e
   subst e
   rw [GB]
   have hf:Uh "born" = false:=by unfold Uh;decide +kernel
   rw [hf]
   simp only [Bool.false_eq_true,if_false,List.append_nil]
   generalize hr:rb (ls.take i)=s at *
   obtain ⟨r,b⟩:=s
   refine ⟨by omega,by omega,?_⟩
   have e2:(b+2).toNat=b.toNat+2:=by omega
   rw [e2,Zh7]
   have e3:((b.toNat:Nat):Int)=b:=by omega
   rw [e3]
   have p1:(r.take pk.toNat ++ [b,b+1]++r.drop pk.toNat).Perm (r ++ [b,b+1]):=by
    rw [List.append_assoc]
    refine (List.Perm.append_left _ List.perm_append_comm).trans ?_
    rw [<- List.append_assoc,List.take_append_drop]
   refine (p1.append_right _).trans ?_
   rw [List.append_assoc]
   refine (List.Perm.append_left _ List.perm_append_comm).trans ?_
   rw [<- List.append_assoc]
   exact ih.append_right _
  ·have e:px = "cross" := e
   subst e
   rw [WG]
   have hf:Uh "cross" = false:=by unfold Uh;decide +kernel
   rw [hf]
   simp only [Bool.false_eq_true,if_false,List.append_nil]
   refine ⟨ih0,ih1,?_⟩
   have hk:pk.toNat+1<(rb (ls.take i)).1.length:=by
    have b1:pk+1<_:=b1
    have b0:0<=pk:=b0
    omega
   refine List.Perm.trans ?_ ih
   refine List.Perm.append_right _ ?_
   rw [ZjQ _ _ hk]
   conv=>rhs;rw [Zkj _ _ hk]
   exact List.Perm.append_right _ (List.Perm.append_left _ (List.Perm.swap _ _ _))
  ·have e:px = "end" := e
   subst e
   rw [UX]
   have hf:Uh "end" = true:=by unfold Uh;simp
   rw [hf]
   simp only [if_true]
   refine ⟨ih0,ih1,?_⟩
   have hk:pk.toNat+1<(rb (ls.take i)).1.length:=by
    have b1:pk+1<_:=b1
    have b0:0<=pk:=b0
    omega
   refine List.Perm.trans ?_ ih
   rw [JU]
   have pr:ZL [JA ls i] = [(rb (ls.take i)).1.getD pk.toNat 0,(rb (ls.take i)).1.getD (pk.toNat+1) 0]:=by
    unfold JA rowAt
    rw [gd]
    simp [ZL]
   rw [pr]
   conv=>rhs;rw [Zkj _ _ hk]
   generalize (rb (ls.take i)).1.take pk.toNat=A
   generalize (rb (ls.take i)).1.drop (pk.toNat+2)=B
   generalize [(rb (ls.take i)).1.getD pk.toNat 0,(rb (ls.take i)).1.getD (pk.toNat+1) 0]=C
   generalize ZL (Jy ls i)=F
   rw [List.append_assoc,List.append_assoc,List.append_assoc]
   refine List.Perm.append_left _ ?_
   rw [<- List.append_assoc]
   exact List.perm_append_comm
def Wu (ls:List (Str×Int)):List (Int×Int):=Jy ls ls.length
def Gb (ls:List (Str×Int)):Nat:=2*(Wu ls).length
theorem GG {ls:List (Str×Int)} (hW:Wk ls 0):(ZL (Wu ls)).Perm (Ud (Gb ls)):=by
 obtain ⟨h0,h1,h2⟩:=ZaT hW ls.length (Nat.le_refl _)
 have e:rowAt ls ls.length = []:=by
  unfold rowAt
  rw [List.take_of_length_le (Nat.le_refl _)]
  have:=Zar hW
  exact List.length_eq_zero_iff.mp (by lia)
 rw [e,List.nil_append] at h2
 have hl:=h2.length_eq
 rw [Gs,Gy] at hl
 show (ZL (Jy ls ls.length)).Perm (Ud (2*(Jy ls ls.length).length))
 rw [hl]
 exact h2
def JO:List (Int×Int)->Int->Int
 | [],_=>0
 | p::r,x=>if x=p.1 then p.2 else if x=p.2 then p.1 else JO r x
theorem Zcc:∀{ps:List (Int×Int)}{u l:Int},(ZL ps).Nodup->(u,l)∈ps->JO ps u=l/\JO ps l=u
 | [],_,_,_,h=>by cases h
 | p::r,u,l,nd,h=>by
  have e:ZL (p::r)=p.1::p.2::ZL r:=by simp [ZL]
  rw [e] at nd
  obtain ⟨n1,nd2⟩:=List.nodup_cons.mp nd
  obtain ⟨n2,nd3⟩:=List.nodup_cons.mp nd2
  rcases List.mem_cons.mp h with z | z
  ·subst z
   refine ⟨by simp [JO],?_⟩
   have:l≠u:=fun z=>n1 (by simp [z])
   simp [JO,this]
  ·have m1:u∈ZL r:=List.mem_flatMap.mpr ⟨(u,l),z,by simp⟩
   have m2:l∈ZL r:=List.mem_flatMap.mpr ⟨(u,l),z,by simp⟩
   have ih:=Zcc nd3 z
   have a1:u≠p.1:=fun z=>n1 (List.mem_cons_of_mem _ (z ▸ m1))
   have a2:u≠p.2:=fun z=>n2 (z ▸ m1)
   have a3:l≠p.1:=fun z=>n1 (List.mem_cons_of_mem _ (z ▸ m2))
   have a4:l≠p.2:=fun z=>n2 (z ▸ m2)
   simp only [JO,a1,a2,a3,a4,if_false]
   exact ih
theorem Zay {ps:List (Int×Int)} (nd:(ZL ps).Nodup) {u l:Int} (h:(u,l)∈ps):u≠l:=by
 induction ps with
 | nil=>cases h
 | cons p r ih=>
  have e:ZL (p::r)=p.1::p.2::ZL r:=by simp [ZL]
  rw [e] at nd
  obtain ⟨n1,nd2⟩:=List.nodup_cons.mp nd
  obtain ⟨n2,nd3⟩:=List.nodup_cons.mp nd2
  rcases List.mem_cons.mp h with z | z
  ·subst z;intro z;exact n1 (by simp [z])
  ·exact ih nd3 z
theorem GD {ls:List (Str×Int)} (hW:Wk ls 0):JT (JO (Wu ls)) (Gb ls):=by
 have pm:=GG hW
 have nd:(ZL (Wu ls)).Nodup:=pm.nodup_iff.mpr (W5 _)
 have get:∀x:Int,0<=x->x<(Gb ls:Int) -> ∃u l,(u,l)∈Wu ls/\(x=u∨x=l):=fun x h0 h1=>by
  have:x∈ZL (Wu ls):=pm.mem_iff.mpr (Jd.mpr ⟨h0,h1⟩)
  obtain ⟨p,hp,hx⟩:=List.mem_flatMap.mp this
  exact ⟨p.1,p.2,hp,by simpa using hx⟩
 have dom:∀u l,(u,l)∈Wu ls->(0<=u/\u<(Gb ls:Int))/\(0<=l/\l<(Gb ls:Int)):=fun u l h=>
  ⟨Jd.mp (pm.mem_iff.mp (List.mem_flatMap.mpr ⟨(u,l),h,by simp⟩)),Jd.mp (pm.mem_iff.mp (List.mem_flatMap.mpr ⟨(u,l),h,by simp⟩))⟩
 refine ⟨fun x h0 h1=>?_,fun x h0 h1=>?_,fun x h0 h1=>?_,fun x h0 h1=>?_,by unfold Gb;lia⟩
 all_goals
  obtain ⟨u,l,hm,rfl | rfl⟩:=get x h0 h1
  all_goals
   obtain ⟨a,b⟩:=Zcc nd hm
   obtain ⟨d1,d2⟩:=dom _ _ hm
   have ne:=Zay nd hm
   first
    | (rw [a];exact d2.1)
    | (rw [b];exact d1.1)
    | (rw [a];exact d2.2)
    | (rw [b];exact d1.2)
    | (rw [a,b])
    | (rw [b,a])
    | (rw [a];exact Ne.symm ne)
    | (rw [b];exact ne)
section
variable {X:Cx}
def Ziq (K:PySem.W.Frag):R2:=fun x y H Q=>∃(p q:Addr) (xs:List V),x = .ref p/\y = .ref q/\Zu K H p xs/\Zu K H q []/\Q (.bl (!xs.isEmpty)) H
theorem Zjh (hu:X.A.units+64<cLine):Ub X (compareOp .NotEq) (Ziq X.K):=by
 intro pins s σ H x y v u Q I rx ry h
 obtain ⟨p,q,xs,rfl,rfl,hp,hq,hQ⟩:=h
 cases rx
 cases ry
 obtain ⟨its,r1,p1,_⟩:=I.list hp
 obtain ⟨its2,r2,p2,_⟩:=I.list hq
 have l1:=r1.length
 have l2:=r2.length
 cases xs with
 | nil=>
  refine SeqAt.RcNeAt.lists (e:=fun _=>true) p1.isList p2.isList (by simp only [List.size_toArray];lia) (by lia) (fun j h1 h2=>?_) X.prog X.w _ _ ⟨.bl false,H,I,?_,hQ⟩
  ·rw [List.size_toArray] at h1
   have:its.length=0:=by simpa using l1.symm
   lia
  ·show Value.bool _=Value.bool false
   simp
 | cons z zs=>
  refine SeqAt.RcNeAt.lists_lengths p1.isList p2.isList (by simp only [List.size_toArray];rw [bne_iff_ne];simp at l1 l2;lia) (by lia) X.prog X.w _ _ ⟨.bl true,H,I,rfl,hQ⟩
theorem Zdm {K:PySem.W.Frag} (h:X.K=K) (hu:X.A.units+64<cLine):Ub X (compareOp .NotEq) (Ziq K):=h ▸ Zjh hu
theorem ZfH {K:PySem.W.Frag} (h:X.K=K):Ub X (compareOp .In) (rIn K false):=h ▸ Zhc
theorem Wa {K:PySem.W.Frag} (h:X.K=K):Ub X (compareOp .NotIn) (rIn K true):=h ▸ ZdW
end
theorem ZeP {x:Int}{ns:List Int}:inV (.int x) (ns.map V.int)=decide (x∈ns):=by
 unfold inV
 induction ns with
 | nil=>simp
 | cons n ns ih=>
  rw [List.map_cons,List.any_cons,ih]
  have e:eqV (V.int n) (V.int x)=decide (n=x):=by
   unfold eqV
   by_cases h:n=x<;>simp [h]
  rw [e,<- Bool.decide_or]
  exact decide_eq_decide.mpr (by rw [List.mem_cons];exact ⟨fun h=>h.imp Eq.symm id,fun h=>h.imp Eq.symm id⟩)
theorem Jt.at {H:Hp}:∀{xs:List V}{rs:List (List Int)}{i:Nat}{r:List Int},Jt H xs rs->rs[i]? = some r -> ∃p,xs[i]? = some (.ref p)/\H p=some (.lst (r.map V.int))
 | _,_,_,_,.nil,e=>by simp at e
 | _,_,0,_,.cons ⟨t,e1,q⟩ _,e=>by simp at e;subst e;exact ⟨t,by simp [e1],q⟩
 | _,_,i+1,r,.cons _ rr,e=>by
  obtain ⟨p,h1,h2⟩:=Jt.at (i:=i) (r:=r) rr (by simpa using e)
  exact ⟨p,by simpa using h1,h2⟩
theorem Za3 (ls:List (Str×Int)) {i n:Nat} (h:i<n):(rowsOf ls n)[i]? = some (rowAt ls i):=by
 unfold rowsOf rowAt
 rw [List.getElem?_map]
 simp [h]
theorem Zgz {ls:List (Str×Int)} (hW:Wk ls 0) {t:Nat}{q:Str×Int} (hq:ls[t]? = some q) (hb:q.1 ≠ "born"):0<=q.2/\q.2.toNat+1<(rowAt ls t).length/\JA ls t=((rowAt ls t).getD q.2.toNat 0,(rowAt ls t).getD (q.2.toNat+1) 0):=by
 obtain ⟨_,c⟩:=Ze3 hW hq
 have gd:ls.getD t ("", 0)=q:=by simp [hq]
 have e:JA ls t=((rowAt ls t).getD q.2.toNat 0,(rowAt ls t).getD (q.2.toNat+1) 0):=by unfold JA;rw [gd]
 rcases c with ⟨z,_⟩ | ⟨_,b0,b1⟩ | ⟨_,b0,b1⟩
 ·exact absurd z hb
 ·exact ⟨b0,by unfold rowAt;lia,e⟩
 ·exact ⟨b0,by unfold rowAt;lia,e⟩
theorem Zff {ns:List Int}{i:Nat}{x:V} (h:(ns.map V.int)[i]? = some x):∃t,ns[i]? = some t/\x=V.int t:=by
 rw [List.getElem?_map] at h
 cases e:ns[i]? with
 | none=>rw [e] at h;cases h
 | some z=>rw [e] at h;exact ⟨z,rfl,(Option.some.inj h).symm⟩
theorem Zaf {α β:Type}{ns:List α}{i:Nat}{t:α} (f:α -> β) (h:ns[i]? = some t):(ns.take (i+1)).map f=(ns.take i).map f ++ [f t]:=by
 rw [List.take_add_one,h]
 simp
theorem Zc8 {ls:List (Str×Int)} (hl:ls.length<=60):Gb ls<=120:=by
 unfold Gb Wu Jy
 rw [List.length_map]
 have:=Zca ls Uh ls.length
 lia
section
variable {X:Cx}{pins:List (Addr×Obj)} {σ:St}{H:Hp}{s:Shared}
theorem Inv.keptN {h':Heap}{t':Nat}{m:Str->Option Value} (I:Inv X pins σ H s) (F:Fr X.base X.env.locals s.heap m) (F':Fr X.base X.env.locals h' m)
  (N':News X.base X.env.locals h' (WB X.base s.heap X.env.locals)):Inv X pins σ H { s with heap:=h',toks:=t' }:=by
 have kp:∀b u,b≠X.env.locals->s.heap.get? b=some u->h'.get? b=some u:=fun b u hb e=>by
  cases q:X.base.get? b with
  | some v=>
   have e1:=F'.keep b v q
   have e2:=F.keep b v q
   rw [e] at e2
   cases e2
   exact e1
  | none=>exact (N' (b,u) (UN hb q e)).1
 have neL:∀b u,H b=some u->b≠X.env.locals:=fun b u e z=>by rw [z,I.free] at e;cases e
 refine I.step (g':=s.gens) (d':=s.drawn) (ch:=[]) (fun _ z=>nomatch z) (fun b ob hb _ _ e _=>kp b ob hb e) (fun b ob hb _ _ e _=>⟨ob.slots,kp b ob hb e⟩) (fun b ob _ e n=>n) (fun b ob _ e=>?_) (fun b xs e=>e) (fun b ob u e=>e) (fun b ps e=>⟨#[],by rw [e];simp⟩) (fun m' hm=>?_) (fun b u e=>?_) I.bare
 ·by_cases hb:b=X.env.locals
  ·subst hb
   obtain ⟨ob',_,_,z,_⟩:=F'.ns
   exact ⟨ob',z⟩
  ·exact ⟨ob,kp b ob hb e⟩
 ·rw [Zja hm F.ns];exact F'.ns
 ·refine (I.hok b u e).stay (fun c v hc q=>kp c v ?_ q) (fun c q=>q) fun c xs q=>q
  rcases hc with z | z
  ·subst z;exact neL _ u e
  ·exact neL c _ z
end
section
variable {X:Cx}
theorem ZhQ (hc:X.calm=true):JD X (.builtin "sum") (fun xs H Q=>∃(p:Addr) (ns:List Int),xs = [.ref p]/\Zu X.K H p (ns.map V.int)/\Q (.int ns.sum) H):=by
 intro pins s σ H xs us Q I r h
 obtain ⟨p,ns,rfl,hq,q⟩:=h
 obtain ⟨u,rfl,ru⟩:=r.one
 cases ru
 obtain ⟨its,rv,pl,hz⟩:=I.list hq
 obtain ⟨m,fr⟩:=I.fr
 refine LSm.sum_ints fr (news:=WB X.base s.heap X.env.locals) Ze4 (I.ok.hd hc) pl.isList (ZaS rv) fun h' tk t' fr' nw'=>?_
 exact ⟨.int ns.sum,H,I.keptN fr fr' nw',⟨t',rfl⟩,q⟩
theorem Zhl {K:PySem.W.Frag} (h:X.K=K) (hc:X.calm=true):JD X (.builtin "sum") (fun xs H Q=>∃(p:Addr) (ns:List Int),xs = [.ref p]/\Zu K H p (ns.map V.int)/\Q (.int ns.sum) H):=h ▸ ZhQ hc
end
end L2
namespace L2
open PySem PySem.Spec PyProof.Rows PyProof.V
def Itz (K:PySem.W.Frag) (a b:Addr):It:=
  ⟨fun i H=>∃xs ys x y,Zu K H a xs/\Zu K H b ys/\xs[i]? = some x/\ys[i]? = some y,
   fun i H v H'=>∃p x y,v = .ref p/\H p=none/\H'=upd H p (.tup [x,y])/\(∀xs,Zu K H a xs->xs[i]? = some x)/\(∀ys,Zu K H b ys->ys[i]? = some y),
   fun i H=>∃xs ys,Zu K H a xs/\Zu K H b ys/\(xs.length<=i∨ys.length<=i)⟩
theorem Zji {P:Program}{w:World}{K:PySem.W.Frag}{es:List Expr}{k:Nat}{pos:Pos} (a b z TI TO i1 i2:Addr) (ap:ZipApart z TI TO i1 i2 a b):
  Turn P w K (.Tuple es k pos) (Itz K a b) [z,TI,TO,i1,i2] z (fun i h=>IsZip h z TI TO .none/\IsPair h TI (.ref i1) (.ref i2)/\(∃u v,IsPair h TO u v)/\h.IsListIter i1 a i/\h.IsListIter i2 b i) where
 mem:=by simp
 obj:=fun i h st c hc=>by
  obtain ⟨h1,h2,⟨u,v,h3⟩,⟨o1,ho1,c1,d1⟩,⟨o2,ho2,c2,d2⟩⟩:=st
  simp only [List.mem_cons,List.not_mem_nil,or_false] at hc
  rcases hc with e | e | e | e | e
  ·subst e;exact ⟨_,h1,fun v z=>by have z':Data.fields _=Data.cell v:=z;cases z'⟩
  ·subst e;exact ⟨_,h2,fun v z=>by have z':Data.seq _ _=Data.cell v:=z;cases z'⟩
  ·subst e;exact ⟨_,h3,fun v z=>by have z':Data.seq _ _=Data.cell v:=z;cases z'⟩
  ·subst e;exact ⟨o1,ho1,fun v z=>by rw [d1] at z;cases z⟩
  ·subst e;exact ⟨o2,ho2,fun v z=>by rw [d2] at z;cases z⟩
 keep:=fun i h h' st k=>by
  obtain ⟨h1,h2,⟨u,v,h3⟩,h4,h5⟩:=st
  exact ⟨k z (by simp) _ h1,k TI (by simp) _ h2,⟨u,v,k TO (by simp) _ h3⟩,h4.at fun o x=>k i1 (by simp) o x,h5.at fun o x=>k i2 (by simp) o x⟩
 item:=by
  intro X hP hw hK hc i pins s σ H E I hf st hg
  subst hP hw hK
  obtain ⟨xs,ys,x,y,hq1,hq2,hx,hy⟩:=hg
  obtain ⟨its1,rv1,p1,hz1⟩:=I.list hq1
  obtain ⟨its2,rv2,p2,hz2⟩:=I.list hq2
  obtain ⟨u,hu,ru⟩:=rv1.get hx
  obtain ⟨v,hv,rv⟩:=rv2.get hy
  obtain ⟨h1,h2,⟨oa,ob,h3⟩,h4,h5⟩:=st
  refine wpAny_pyNext_zip_item ap h1 h2 h3 h4 h5 p1.isList p2.isList (x:=u) (y:=v) (by simpa using hu) (by simpa using hv) fun h' g1 g2 g3 g4 g5 hsz kk=>⟨_,rfl,?_⟩
  refine wpAny_letOwnedTupleGo_zip (s:={ s with heap:=h' }) g1 fun h'' e1 hs''=>?_
  have lt:∀c ∈ [z,TI,TO,i1,i2],@LT.lt Nat _ c s.heap.objs.size:=fun c hc=>by
   simp only [List.mem_cons,List.not_mem_nil,or_false] at hc
   rcases hc with e | e | e | e | e
   ·subst e;exact aLt h1
   ·subst e;exact aLt h2
   ·subst e;exact aLt h3
   ·subst e;obtain ⟨o,ho,_⟩:=h4;exact aLt ho
   ·subst e;obtain ⟨o,ho,_⟩:=h5;exact aLt ho
  have kk2:∀c o,c≠z->c≠TO->c≠i1->c≠i2->s.heap.get? c=some o->h''.get? c=some o:=fun c o n1 n2 n3 n4 q=>(hs''.2 c n1).trans (kk c o n1 n2 n3 n4 q)
  have nne:∀c o,H c=some o->c≠z/\c≠TO/\c≠i1/\c≠i2:=fun c o q=>by
   refine ⟨fun e=>?_,fun e=>?_,fun e=>?_,fun e=>?_⟩
   ·rw [e,(hf z (by simp)).1] at q;cases q
   ·rw [e,(hf TO (by simp)).1] at q;cases q
   ·rw [e,(hf i1 (by simp)).1] at q;cases q
   ·rw [e,(hf i2 (by simp)).1] at q;cases q
  have fr:H s.heap.objs.size=none:=I.hok.fresh (Nat.le_refl _)
  have hT:h''.get? s.heap.objs.size=some { cls:=.type "tuple", data:=.seq #[u,v] }:=(hs''.2 _ (Nat.ne_of_gt (lt z (by simp)))).trans g5
  have nT:∀c o,s.heap.get? c=some o->c≠s.heap.objs.size:=fun c o q=>Nat.ne_of_lt (aLt q)
  have ok':Uv X.prog X.w (upd H s.heap.objs.size (.tup [x,y])) h'':=fun c o q=>by
   by_cases hb:c=s.heap.objs.size
   ·subst hb
    rw [Zb] at q
    cases q
    exact ⟨show 2<=sizeLine by decide,[u,v],.cons ru (.cons rv .nil),⟨_,hT,rfl,_,rfl⟩⟩
   ·rw [Zi hb] at q
    refine (I.hok c o q).stay (fun d v hd r=>?_) (fun d r=>by rw [Zi (Zf r fr)];exact r) fun d xs r=>by rw [Zi (Zf r fr)];exact r
    rcases hd with e | e
    ·subst e
     obtain ⟨n1,n2,n3,n4⟩:=nne d o q
     exact kk2 d v n1 n2 n3 n4 r
    ·obtain ⟨n1,n2,n3,n4⟩:=nne d _ e
     exact kk2 d v n1 n2 n3 n4 r
  have notin:∀c,c ∉ [z,TI,TO,i1,i2]->c≠z/\c≠TO/\c≠i1/\c≠i2:=fun c hc=>by
   simp only [List.mem_cons,List.not_mem_nil,or_false,not_or] at hc
   exact ⟨hc.1,hc.2.2.1,hc.2.2.2.1,hc.2.2.2.2⟩
  have I1:Inv X pins σ (upd H s.heap.objs.size (.tup [x,y])) { s with heap:=h'',gens:=s.gens,drawn:=s.drawn,toks:=s.toks }:=by
   refine I.step (ch:=[z,TI,TO,i1,i2]) (fun c hc=>?_) (fun c o _ _ hc q _=>?_) (fun c o _ _ hc q _=>⟨o.slots,?_⟩)
    (fun c o _ q n=>by rw [Zi (nT c o q)];exact n) (fun c o hc q=>⟨o,?_⟩) (fun c xs q=>by rw [Zi (Zf q fr)];exact q) (fun c o u q=>by rw [Zi (Zf q fr)];exact q)
    (fun c ps q=>⟨#[],by rw [Zi (Zf q fr),q];simp⟩) (fun m hm=>?_) ok' I.bare
   ·obtain ⟨f0,f1,f2,f3,f4,f5⟩:=hf c hc
    exact ⟨f3,f1,f4,f5⟩
   ·obtain ⟨n1,n2,n3,n4⟩:=notin c hc;exact kk2 c o n1 n2 n3 n4 q
   ·obtain ⟨n1,n2,n3,n4⟩:=notin c hc;exact kk2 c o n1 n2 n3 n4 q
   ·obtain ⟨n1,n2,n3,n4⟩:=notin c hc;exact kk2 c o n1 n2 n3 n4 q
   ·obtain ⟨o,es,ep,ho,r⟩:=hm
    exact ⟨o,es,ep,kk2 _ o (Ne.symm (hf z (by simp)).2.1) (Ne.symm (hf TO (by simp)).2.1) (Ne.symm (hf i1 (by simp)).2.1) (Ne.symm (hf i2 (by simp)).2.1) ho,r⟩
  refine ⟨.ref s.heap.objs.size,_,I1,rfl,⟨s.heap.objs.size,x,y,rfl,fr,rfl,fun zs hz=>by rw [I.list_inj hz hq1];exact hx,fun zs hz=>by rw [I.list_inj hz hq2];exact hy⟩,
   ⟨e1,kk2 TI _ ap.TIz ap.TITO ap.TIi1 ap.TIi2 h2,⟨u,v,(hs''.2 TO ap.TOz).trans g2⟩,g3.at fun o q=>(hs''.2 i1 ap.i1z).trans q,g4.at fun o q=>(hs''.2 i2 ap.i2z).trans q⟩,fun c hc=>?_⟩
  rw [Zi (Nat.ne_of_lt (lt c hc))]
  exact (hf c hc).1
 done:=by
  intro X hP hw hK hc i pins s σ H E I hf st hg
  subst hP hw hK
  obtain ⟨xs,ys,hq1,hq2,hx⟩:=hg
  obtain ⟨its1,rv1,p1,hz1⟩:=I.list hq1
  obtain ⟨its2,rv2,p2,hz2⟩:=I.list hq2
  obtain ⟨h1,h2,⟨oa,ob,h3⟩,h4,h5⟩:=st
  have l1:=rv1.length
  have l2:=rv2.length
  refine wpAny_pyNext_zip_end (I.ok.hd hc) ap h1 h2 h3 h4 h5 p1.isList p2.isList (by rcases hx with e | e;exact .inl (by simp;lia);exact .inr (by simp;lia)) fun h' kk=>⟨rfl,?_⟩
  have nne:∀c o,H c=some o->c≠z/\c≠TO/\c≠i1/\c≠i2:=fun c o q=>by
   refine ⟨fun e=>?_,fun e=>?_,fun e=>?_,fun e=>?_⟩
   ·rw [e,(hf z (by simp)).1] at q;cases q
   ·rw [e,(hf TO (by simp)).1] at q;cases q
   ·rw [e,(hf i1 (by simp)).1] at q;cases q
   ·rw [e,(hf i2 (by simp)).1] at q;cases q
  have notin:∀c,c ∉ [z,TI,TO,i1,i2]->c≠z/\c≠TO/\c≠i1/\c≠i2:=fun c hc=>by
   simp only [List.mem_cons,List.not_mem_nil,or_false,not_or] at hc
   exact ⟨hc.1,hc.2.2.1,hc.2.2.2.1,hc.2.2.2.2⟩
  have ok':Uv X.prog X.w H h':=fun c o q=>by
   refine (I.hok c o q).stay (fun d v hd r=>?_) (fun d r=>r) fun d xs r=>r
   rcases hd with e | e
   ·subst e
    obtain ⟨n1,n2,n3,n4⟩:=nne d o q
    exact kk d v n1 n2 n3 n4 r
   ·obtain ⟨n1,n2,n3,n4⟩:=nne d _ e
    exact kk d v n1 n2 n3 n4 r
  refine I.step (g':=s.gens) (d':=s.drawn) (t':=s.toks) (ch:=[z,TI,TO,i1,i2]) (fun c hc=>?_) (fun c o _ _ hc q _=>?_) (fun c o _ _ hc q _=>⟨o.slots,?_⟩)
    (fun c o _ q n=>n) (fun c o hc q=>⟨o,?_⟩) (fun c xs q=>q) (fun c o u q=>q) (fun c ps q=>⟨#[],by rw [q];simp⟩) (fun m hm=>?_) ok' I.bare
  ·obtain ⟨f0,f1,f2,f3,f4,f5⟩:=hf c hc
   exact ⟨f3,f1,f4,f5⟩
  ·obtain ⟨n1,n2,n3,n4⟩:=notin c hc;exact kk c o n1 n2 n3 n4 q
  ·obtain ⟨n1,n2,n3,n4⟩:=notin c hc;exact kk c o n1 n2 n3 n4 q
  ·obtain ⟨n1,n2,n3,n4⟩:=notin c hc;exact kk c o n1 n2 n3 n4 q
  ·obtain ⟨o,es,ep,ho,r⟩:=hm
   exact ⟨o,es,ep,kk _ o (Ne.symm (hf z (by simp)).2.1) (Ne.symm (hf TO (by simp)).2.1) (Ne.symm (hf i1 (by simp)).2.1) (Ne.symm (hf i2 (by simp)).2.1) ho,r⟩
 self:=fun _ _ _ _ _ st h=>wpAny_pyIter_zip st.1 h
section
variable {X:Cx}
def ZmN (K:PySem.W.Frag) (ta:TA):TI:=fun σ H R=>ta σ H fun vs H1=>∃a b,vs = [.ref a,.ref b]/\(∃xs,Zu K H1 a xs)/\(∃ys,Zu K H1 b ys)/\R (Itz K a b) H1
theorem Zl3 {a b:Expr}{ta:TA}{p pos tpos:Pos}{es:List Expr}{k:Nat} (hg:Gl X "zip") (hm:X.mg "zip" = none) (ha:PA X [a,b] ta) (hs:starEach [a,b] X.env = [(false,eval a X.env),(false,eval b X.env)]:=by rfl) (hs2:starEach [b] X.env = [(false,eval b X.env)]:=by rfl):
  PI X (.Tuple es k tpos) (.Call (.Name "zip" p) [a,b] [] pos) (ZmN X.K ta):=by
 intro pins s σ H R I h
 refine Call_ (GI I hg hm boot_zip (PyProof.Rows.callWith_type1 (YR (ha pos pins s σ H _ I h) fun us s1 ⟨vs,H1,I1,r1,q1⟩=>?_) (by rw [hs,hs2]) (by rw [hs2];rfl)))
 obtain ⟨l1,l2,e,⟨xs,hq1⟩,⟨ys,hq2⟩,q⟩:=q1
 subst e
 obtain ⟨u,v,rfl,ru,rv⟩:=r1.two
 cases ru
 cases rv
 obtain ⟨its1,rv1,p1,hz1⟩:=I1.list hq1
 obtain ⟨its2,rv2,p2,hz2⟩:=I1.list hq2
 have L1:@LT.lt Nat _ l1 s1.heap.objs.size:=by obtain ⟨o,ho,_⟩:=p1.isList;exact aLt ho
 have L2:@LT.lt Nat _ l2 s1.heap.objs.size:=by obtain ⟨o,ho,_⟩:=p2.isList;exact aLt ho
 refine call_zip_2 p1.isList p2.isList fun h' g1 g2 g3 g4 g5 hsz kk=>?_
 have I2:Inv X pins σ H1 { s1 with heap:=h' }:=I1.kept (t':=s1.toks) kk
 refine wpAny_pyIter_zip (s:={ s1 with heap:=h' }) g1 ?_
 have ap:ZipApart (s1.heap.objs.size+4) (s1.heap.objs.size+2) (s1.heap.objs.size+3) s1.heap.objs.size (s1.heap.objs.size+1) l1 l2:=by
  constructor<;>(intro e;have e':@Eq Nat _ _:=e;lia)
 refine ⟨_,[s1.heap.objs.size+4,s1.heap.objs.size+2,s1.heap.objs.size+3,s1.heap.objs.size,s1.heap.objs.size+1],_,_,H1,rfl,I2,Zji l1 l2 _ _ _ _ _ ap,⟨g1,g2,⟨_,_,g3⟩,g4,g5⟩,fun c hc=>?_,q⟩
 have hb':@LE.le Nat _ s1.heap.objs.size c:=by
  simp only [List.mem_cons,List.not_mem_nil,or_false] at hc
  rcases hc with e | e | e | e | e<;>(subst e;first | exact Nat.le_refl _ | exact Nat.le_add_right _ _)
 exact I1.fpOk hb' (I1.hok.fresh hb')
theorem Zdv {K:PySem.W.Frag}{a b:Expr}{ta:TA}{p pos tpos:Pos}{es:List Expr}{k:Nat} (hk:X.K=K) (hg:Gl X "zip") (hm:X.mg "zip" = none) (ha:PA X [a,b] ta) (hs:starEach [a,b] X.env = [(false,eval a X.env),(false,eval b X.env)]:=by rfl) (hs2:starEach [b] X.env = [(false,eval b X.env)]:=by rfl):
  PI X (.Tuple es k tpos) (.Call (.Name "zip" p) [a,b] [] pos) (ZmN K ta):=hk ▸ Zl3 hg hm ha hs hs2
end
end L2
namespace L2
open PySem PySem.Spec PyProof.Rows PyProof.V
section
variable {X:Cx}
theorem ZeD:Ub X (compareOp .IsNot) (fun x y H Q=>∃b c,x = .bl b/\y = .bl c/\Q (.bl (!decide (b=c))) H):=by
 intro pins s σ H x y v u Q I rx ry h
 obtain ⟨b,c,rfl,rfl,q⟩:=h
 cases rx
 cases ry
 refine wpAny_isNot_plain (by cases b<;>cases c<;>rfl) (ZZ I q ?_)
 cases b<;>cases c<;>rfl
end
end L2
namespace L2
open PySem PySem.Spec PyProof.Rows PyProof.V
inductive Sim (H:Hp):V->Prop
 | non:Sim H .non
 | bl (b:Bool):Sim H (.bl b)
 | int (i:Int):Sim H (.int i)
 | str (x:Str):Sim H (.str x)
 | lst {a:Addr}{xs:List V} (e:H a=some (.lst xs)):Sim H (.ref a)
 | tup {a:Addr}{xs:List V} (e:H a=some (.tup xs)):Sim H (.ref a)
def isStr:V->Bool
 | .str _=>true
 | _=>false
def isIn:V->Bool
 | .int _=>true
 | _=>false
inductive ZdV (H:Hp):V->Option (Str×Int)->Prop
 | yes {a:Addr}{x:Str}{k:Int} (e:H a=some (.tup [.str x,.int k])):ZdV H (.ref a) (some (x,k))
 | non:ZdV H .non none
 | bl (b:Bool):ZdV H (.bl b) none
 | int (i:Int):ZdV H (.int i) none
 | str (x:Str):ZdV H (.str x) none
 | lst {a:Addr}{xs:List V} (e:H a=some (.lst xs)):ZdV H (.ref a) none
 | len {a:Addr}{xs:List V} (e:H a=some (.tup xs)) (n:xs.length≠2):ZdV H (.ref a) none
 | fst {a:Addr}{u w:V} (e:H a=some (.tup [u,w])) (s:Sim H u) (n:isStr u=false):ZdV H (.ref a) none
 | snd {a:Addr}{x:Str}{w:V} (e:H a=some (.tup [.str x,w])) (s:Sim H w) (n:isIn w=false):ZdV H (.ref a) none
section
variable {X:Cx}{e a b:Expr}{es:List Expr}{te ta tb:TE}{t:TA}{pos:Pos}{st:Stmt}{rest:List Stmt}{ts us:TS}
structure PEc (X:Cx) (e:Expr) (t:TE):Prop where
 out:PE X e t
structure PAc (X:Cx) (es:List Expr) (t:TA):Prop where
 out:PA X es t
structure PSc (X:Cx) (st:Stmt) (t:TS):Prop where
 out:PS X st t
structure Zor (X:Cx) (st:List Stmt) (t:TS):Prop where
 out:PSs X st t
end
inductive Lit
 | non | bl (b:Bool) | int (i:Int) | str (x:Str) | tup (l:List Lit) | lst (l:List Lit)
mutual
inductive ZeM (H:Hp):V->Lit->Prop
 | non:ZeM H .non .non
 | bl (b:Bool):ZeM H (.bl b) (.bl b)
 | int (i:Int):ZeM H (.int i) (.int i)
 | str (x:Str):ZeM H (.str x) (.str x)
 | tup {a:Addr}{xs:List V}{l:List Lit} (e:H a=some (.tup xs)) (r:Zdl H xs l):ZeM H (.ref a) (.tup l)
 | lst {a:Addr}{xs:List V}{l:List Lit} (e:H a=some (.lst xs)) (r:Zdl H xs l):ZeM H (.ref a) (.lst l)
inductive Zdl (H:Hp):List V->List Lit->Prop
 | nil:Zdl H [] []
 | cons {v:V}{vs:List V}{l:Lit}{ls:List Lit} (a:ZeM H v l) (r:Zdl H vs ls):Zdl H (v::vs) (l::ls)
end
section
variable {X:Cx}{G:St->Hp->Prop}{e a b:Expr}{es:List Expr}{pos:Pos}{l:Lit}{ls la lb:List Lit}
def tL (G:St->Hp->Prop) (l:Lit):TE:=fun σ H Q=>G σ H /\ ∀v H',Zh H H'->ZeM H' v l->Q v H'
def tLs (G:St->Hp->Prop) (l:List Lit):TA:=fun σ H Q=>G σ H /\ ∀v H',Zh H H'->Zdl H' v l->Q v H'
structure PL (X:Cx) (G:St->Hp->Prop) (e:Expr) (l:Lit):Prop where
 out:PE X e (tL G l)
structure PLs (X:Cx) (G:St->Hp->Prop) (es:List Expr) (l:List Lit):Prop where
 out:PA X es (tLs G l)
end
section
variable {X:Cx}{st:Stmt}{rest:List Stmt}{t u:TS}
def ZnF (t u:TS):TS:=fun D σ H=>∃I:St->Hp->Prop,t { D with nx:=I } σ H /\ ∀ σ' H',I σ' H'->u D σ' H'
theorem Zky (h1:PS X st t) (h2:PSs X rest u):PSs X (st::rest) (ZnF t u):=by
 intro pins s σ H D I h
 obtain ⟨W,a,b⟩:=h
 have c:PSs X (st::rest) (Zju (fun D' σ' H'=>σ' = σ /\ H'=H/\D' = { D with nx:=u D } /\ t { D with nx:=W } σ H) u):=by
  refine Ze (fun pins s σ' H' D' I' q=>?_) h2
  obtain ⟨rfl,rfl,rfl,q⟩:=q
  refine YR (h1 pins s σ' H' _ I' q) fun f s' z=>?_
  cases f with
  | next=>obtain ⟨σ2,H2,I2,q2⟩:=z;exact ⟨σ2,H2,I2,b σ2 H2 q2⟩
  | _=>exact z
 exact c pins s σ H D I ⟨rfl,rfl,rfl,a⟩
end
structure ZnU (M:Model) (h:Heap) (C:Addr):Prop where
 ga:PySem.W.Looks M h (typeLookup (.ref C) "__getattribute__") (some (.builtin "BaseException.__getattribute__"))
 ca:PySem.W.Looks M h (typeLookup (.ref C) "__class__") (some (.builtin "object.__class__"))
 ob:PySem.W.Looks M h (isSubtype (.ref C) (.type "object")) true
 be:PySem.W.Looks M h (isSubtype (.ref C) (.type "BaseException")) true
 gn:PySem.W.Looks M h (typeLookup (.ref C) "__getattr__") none
section
variable {X:Cx}{pins:List (Addr×Obj)} {σ:L2.St}{H:Hp}{s:Shared}{R:Addr->Hp->Prop}
abbrev Cx.suite (X:Cx) (pins:List (Addr×Obj)) (a:Addr):Cx:={ X with pn:=X.pn++pins,A:=X.A.mark (some (.ref a)),calm:=false,xe:=fun _ _=>False }
def isX (a C:Addr):Heap->Prop:=fun h=>∃o,h.get? a=some o/\o.cls = .ref C /\ ∃vs,o.data = .fields vs/\vs[2]? = some .none
end
section
variable {P:Program}{w:World}{K:PySem.W.Frag}{mg:Str->Option Value}{base:Heap}
structure Zk1 (k:Nat) (A:Around):Prop where
 dp:A.depth+3*k+5<recursionLimit
 un:A.units+16*k+200<cLine
structure Zn5 (P:Program) (w:World) (K:PySem.W.Frag) (mg:Str->Option Value) (base:Heap) (k:Nat) (f:Addr) (fd:FuncData) (ps:List Str) (sp:Sp):Prop where
 len:∀vs H Q E,sp vs H Q E->vs.length=ps.length
 run:∀(A:Around) (outer:List Env) (s:Shared) (H:Hp) (args:Args) (us:List Value) (vs:List V) (Q:VK),Zk1 k A->ZdS P w K mg base A outer s H->BindsTo s fd args (ps.zip us)->Vals vs us->sp vs H Q E0 ->
  codeAny (model P w) A (.call (.ref f) args) (CR W3 outer P w H s Q E0) s
end
structure Zol (K:PySem.W.Frag) (C:Addr):Prop where
 ga:PySem.W.findIn K (.ref C) "__getattribute__" = some (some (.builtin "BaseException.__getattribute__"))
 gn:PySem.W.findIn K (.ref C) "__getattr__" = some none
 ca:PySem.W.findIn K (.ref C) "__class__" = some (some (.builtin "object.__class__"))
 ob:PySem.W.mroIn K C (.type "object")=some true
 be:PySem.W.mroIn K C (.type "BaseException")=some true
 cl:(PySem.W.clsIn K C).isSome=true
def ZfR:List (TE×TE)->St->Hp->(List (V×V)->Hp->Prop)->Prop
 | [],_,H,Q=>Q [] H
 | (tk,tv)::r,σ,H,Q=>tk σ H fun x H1=>tv σ H1 fun y H2=>ZfR r σ H2 fun ps H3=>Q ((x,y)::ps) H3
abbrev VV:List (V×V)->List (Value×Value)->Prop:=Paired fun p q=>RelV p.1 q.1/\RelV p.2 q.2
def PPs (X:Cx) (pos:Pos) (keys:List (Option Expr)) (values:List Expr) (trs:List (TE×TE)):Prop:=
 ∀(pins:List (Addr×Obj)) (s:Shared) (σ:St) (H:Hp) (Q:List (V×V)->Hp->Prop),Inv X pins σ H s->ZfR trs σ H Q ->
  wpAny (model X.prog X.w) X.A (evalPairs (pairTrees keys values X.env pos)) (fun vs s'=>∃ps H',Inv X pins σ H' s'/\VV ps vs/\Q ps H') X.xe s
theorem Zkt {X:Cx}{pos:Pos}:PPs X pos [] [] []:=fun pins s σ H Q I h=>pairTrees_nil_walk ⟨[],H,I,.nil,h⟩
theorem ZeN {X:Cx}{pos:Pos}{k v:Expr}{ks:List (Option Expr)}{vs:List Expr}{tk tv:TE}{trs:List (TE×TE)} (hk:PE X k tk) (hv:PE X v tv) (hr:PPs X pos ks vs trs):
  PPs X pos (some k::ks) (v::vs) ((tk,tv)::trs):=fun pins s σ H Q I h=>
 pairTrees_cons_walk (YR (hk pins s σ H _ I h) fun u s1 ⟨x,H1,I1,rx,q1⟩=>YR (hv pins s1 σ H1 _ I1 q1) fun w2 s2 ⟨y,H2,I2,ry,q2⟩=>
  YR (hr pins s2 σ H2 _ I2 q2) fun ws s3 ⟨ps,H3,I3,rel,q3⟩=>⟨(x,y)::ps,H3,I3,.cons ⟨rx,ry⟩ rel,q3⟩)
def Zbq (kvs more:List (Key×V)):List (Key×V):=more.foldl (fun acc kv=>putK acc kv.1 kv.2) kvs
theorem KV.merge:∀{more:List (Key×V)}{rs:List (Key×Value)}{kvs:List (Key×V)}{vs:List (Key×Value)},KV more rs->KV kvs vs->KV (Zbq kvs more) (merged vs rs):=by
 intro more rs kvs vs r
 unfold KV at r
 induction r generalizing kvs vs with
 | nil=>intro q;exact q
 | @cons p q ps qs h t ih=>
  intro r0
  have e:KV (putK kvs p.1 p.2) (stored vs q.1 q.2):=by
   have:=r0.put p.1 h.2
   rw [<- h.1];exact this
  exact ih e
theorem Zac:∀(more kvs:List (Key×V)),(Zbq kvs more).length<=kvs.length+more.length
 | [],kvs=>by show kvs.length<=kvs.length+0;lia
 | p::r,kvs=>by
  have h1:=Zac r (putK kvs p.1 p.2)
  have h2:=Wg kvs p.1 p.2
  show (Zbq (putK kvs p.1 p.2) r).length<=_
  rw [List.length_cons];lia
theorem ZcE {P:Program}{w:World}:∀{kvs:List (Key×V)}{ws:List (Value×Value)},VV (kvs.map fun kv=>(kV kv.1,kv.2)) ws -> ∃rs,Carries (YI P w) ws rs/\KV kvs rs
 | [],_,r=>by rw [List.map_nil] at r;cases r;exact ⟨[],True.intro,.nil⟩
 | p::kvs,_,r=>by
  rw [List.map_cons] at r
  cases r with
  | @cons a b as bs h t=>
   obtain ⟨rs,c,q⟩:=ZcE (P:=P) (w:=w) t
   obtain ⟨b1,b2⟩:=b
   exact ⟨(p.1,b2)::rs,⟨ZeO h.1,rfl,c⟩,.cons ⟨rfl,h.2⟩ q⟩
def Zm7 (trs:List (TE×TE)):TE:=fun σ H Q=>∀p,H p=none->ZfR trs σ (upd H p (.dK [])) fun ps H2=>H2 p=some (.dK []) /\ ∃kvs:List (Key×V),ps=kvs.map (fun kv=>(kV kv.1,kv.2))/\kvs.length<=15/\Q (.ref p) (upd H2 p (.dK (Zbq [] kvs)))
theorem ZkA {X:Cx}{pos:Pos}{keys:List (Option Expr)}{values:List Expr}{trs:List (TE×TE)} (h:PPs X pos keys values trs) (hall:keys.all (·.isSome)=true) (hl:keys.length=values.length) (h0:keys ≠ [])
  (h15:keys.length<=15):PE X (.Dict keys values pos) (Zm7 trs):=by
 intro pins s σ H Q I q
 have hn:=I.hok.fresh (Nat.le_refl s.heap.objs.size)
 have I1:=I.laid (a:=s.heap.objs.size) (o:=.dK []) (h':=s.heap.push { cls:=.type "dict", data:=.dict #[] }) (t':=s.toks) (fun _ _ q=>Heap.get?_push_of_some _ q) (Nat.le_refl _) (Zex s.heap I.big)
 refine wpAny_Dict_walk (knd:=YI X.prog X.w) hall hl h0 h15 (YR (h pins _ σ _ _ I1 (q _ hn)) fun ws s2 ⟨ps,H2,I2,rel,e,kvs,ep,lk,q2⟩=>?_)
 subst ep
 obtain ⟨rs,c,rk⟩:=ZcE (P:=X.prog) (w:=X.w) rel
 obtain ⟨z,hd,vs0,r0,dd⟩:=Zij I2.hok e
 cases r0
 refine ⟨rs,c,dd,fun h' dd' hs=>⟨.ref s.heap.objs.size,_,?_,rfl,q2⟩⟩
 have hz:(Zbq [] kvs).length<=sizeLine:=by
  have h1:=Zac kvs []
  rw [List.length_nil] at h1
  rw [sizeLine_eq];lia
 have he:∃q,h'.get? s.heap.objs.size=some q:=let ⟨q,_,_,hq,_⟩:=dd';⟨q,hq⟩
 exact Zed I2 (by rw [e];exact True.intro) hs he (Zik hz hd (rk.merge .nil) dd')
def ZhZ (lo:Int) (n:Nat):It:=⟨fun i _=>i<n,fun i H x H'=>H'=H/\x = .int (lo+i*2),fun i _=>n<=i⟩
theorem Zet {P:Program}{w:World}{K:PySem.W.Frag}{tg:Expr} (it:Addr) (lo:Int) (n:Nat):Turn P w K tg (ZhZ lo n) [it] it (fun i h=>IsRangeIter h it (lo+(i:Nat)*2) ((n:Int)-(i:Nat)) 2) where
 mem:=by simp
 obj:=fun i h st b hb=>by
  have e:b=it:=by simpa using hb
  subst e
  exact ⟨_,st,fun v z=>by
   have z':Data.fields _=Data.cell v:=z
   cases z'⟩
 keep:=fun i h h' st k=>k it (by simp) _ st
 item:=by
  intro X hP hw hK hc i pins s σ H E I hf st hg
  subst hP hw hK
  obtain ⟨f0,f1,f2,f3,f4,f5⟩:=hf it (by simp)
  have W:=Walks.range (prog:=X.prog) (w:=X.w) (I.ok.hd hc) it lo 2 n
  refine W.item i s _ _ hg st fun v h' tk hv st' kk=>?_
  obtain ⟨t,rfl⟩:=hv
  have I1:Inv X pins σ H { s with heap:=h',toks:=tk }:=I.turned (fun b o hb e=>kk b o (by simpa using hb) e) f0 f1 f3 f4 f5
  exact ⟨_,rfl,Zgc (s:={ s with heap:=h',toks:=tk }) (n := "range_iterator") st' rfl rfl (by decide) ⟨.int (lo+i*2),H,I1,⟨t,rfl⟩,⟨rfl,rfl⟩,st',fun b hb=>(hf b hb).1⟩⟩
 done:=by
  intro X hP hw hK hc i pins s σ H E I hf st hg
  subst hP hw hK
  obtain ⟨f0,f1,f2,f3,f4,f5⟩:=hf it (by simp)
  exact wpAny_pyNext_range_end (I.ok.hd hc) st (by have:n<=i:=hg;lia) fun h' eb=>⟨rfl,I.turned (t':=s.toks) (fun b o hb e=>eb b o hb e) f0 f1 f3 f4 f5⟩
 self:=fun _ _ _ _ _ st h=>wpAny_pyIter_rangeiter st h
section
variable {X:Cx}{tg:Expr}
def ZmW (ta:TA):TI:=fun σ H R=>ta σ H fun vs H1=>∃n:Nat,vs = [.int 0,.int (2*n),.int 2]/\n<100000/\R (ZhZ 0 n) H1
theorem ZeW (n:Nat):Builtin.Range.rangeSize 0 (2*(n:Int)) 2=n:=by
 unfold Builtin.Range.rangeSize
 rw [if_pos (by decide)]
 split<;>lia
theorem YN {i:Int} (h0 : -1<=i) (h1:i<1000000):Builtin.Range.rangeFitsLong i=true:=by
 unfold Builtin.Range.rangeFitsLong
 rw [Bool.and_eq_true]
 exact ⟨decide_eq_true (by lia),decide_eq_true (by lia)⟩
theorem Zg8 {n:Nat} (h:n<100000):Builtin.Range.small 0 (2*(n:Int)) 2=true:=by
 unfold Builtin.Range.small
 rw [ZeW]
 rw [if_pos (by decide),YN (i:=0) (by lia) (by lia),YN (i:=2*(n:Int)) (by lia) (by lia),YN (i:=2) (by lia) (by lia),YN (i:=(n:Int)) (by lia) (by lia),YN (i:=2*(n:Int)+(2-1)) (by lia) (by lia)]
 simp
theorem ZgZ {a b c:Expr}{ta:TA}{p pos:Pos} (hg:Gl X "range") (hm:X.mg "range" = none) (ha:PA X [a,b,c] ta) (hs:starEach [a,b,c] X.env = [(false,eval a X.env),(false,eval b X.env),(false,eval c X.env)]:=by rfl) (hs2:starEach [b,c] X.env = [(false,eval b X.env),(false,eval c X.env)]:=by rfl):
  PI X tg (.Call (.Name "range" p) [a,b,c] [] pos) (ZmW ta):=by
 intro pins s σ H R I h
 refine Call_ (GI I hg hm boot_range (PyProof.Rows.callWith_type1 (YR (ha pos pins s σ H _ I h) fun us s1 ⟨vs,H1,I1,r1,q1⟩=>?_) (by rw [hs,hs2]) (by rw [hs2];rfl)))
 obtain ⟨n,e,hn,q⟩:=q1
 subst e
 cases r1 with
 | cons r rr=>
  cases rr with
  | cons r' rr=>
   cases rr with
   | cons r2 rr=>
    cases rr
    obtain ⟨t,rfl⟩:=r
    obtain ⟨t',rfl⟩:=r'
    obtain ⟨t2,rfl⟩:=r2
    refine call_range_3 (by decide) ?_ (Or.inl (PyProof.noPylong_small (by lia)))
    refine wpAny_pyIter_range (IsRange.new ..) (Zg8 hn) ?_
    have I2:Inv X pins σ H1 { s1 with heap:=s1.heap.push { cls:=.type "range", data:=.fields #[.int 0 t,.int (2*(n:Int)) t',.int 2 t2] } }:=I1.kept (t':=s1.toks) fun b o e=>Heap.get?_push_of_some _ e
    refine ⟨(s1.heap.push { cls:=.type "range", data:=.fields #[.int 0 t,.int (2*(n:Int)) t',.int 2 t2] }).objs.size,[(s1.heap.push { cls:=.type "range", data:=.fields #[.int 0 t,.int (2*(n:Int)) t',.int 2 t2] }).objs.size],_,_,H1,rfl,
     I2.kept (t':=s1.toks) fun b o e=>Heap.get?_push_of_some _ e,Zet _ 0 n,?_,fun b hb=>?_,q⟩
    ·have e1:(0:Int)+((0:Nat):Int)*2=0:=by simp
     have e2:((n:Nat):Int)-((0:Nat):Int)=Builtin.Range.rangeSize 0 (2*(n:Int)) 2:=by rw [ZeW];simp
     show IsRangeIter _ _ ((0:Int)+((0:Nat):Int)*2) (((n:Nat):Int)-((0:Nat):Int)) 2
     rw [e1,e2]
     exact Heap.get?_push_size _ rfl
    ·have e:b=(s1.heap.push { cls:=.type "range", data:=.fields #[.int 0 t,.int (2*(n:Int)) t',.int 2 t2] }).objs.size:=by simpa using hb
     subst e
     exact I2.fpOk (Nat.le_refl _) (I2.hok.fresh (Nat.le_refl _))
end
theorem Zfc {lo:Int}{n:Nat}{g:TG}{tb:TS}{D:Ends} {σ:L2.St}{H:Hp} (Pv:Nat->L2.St->Hp->Prop) (h0:Pv 0 σ H)
  (hs:∀i σ H,i<n->Pv i σ H->g (.int (lo+i*2)) σ H fun σ2 H2=>tb { D with nx:=Pv (i+1),ct:=Pv (i+1),bk:=D.nx } σ2 H2) (hd:∀ σ H,Pv n σ H->D.nx σ H):
  ∃W:Nat->Nat->L2.St->Hp->Prop,(∃m,W 0 m σ H) /\ ∀i m σ H,W i m σ H ->
   ((ZhZ lo n).stop i H/\D.nx σ H)∨((ZhZ lo n).go i H /\ ∃N:L2.St->Hp->Prop,(∀ σ' H',N σ' H' -> ∃m',m'<m/\W (i+1) m' σ' H') /\ ∀x H',(ZhZ lo n).yld i H x H'->g x σ H' fun σ2 H2=>tb { D with nx:=N,ct:=N,bk:=D.nx } σ2 H2):=by
 refine ⟨fun i m σ H=>m=n-i/\i<=n/\Pv i σ H,⟨n,by simp,Nat.zero_le _,h0⟩,?_⟩
 rintro i m σ H ⟨rfl,hi,p⟩
 by_cases hlt:i<n
 ·refine .inr ⟨hlt,Pv (i+1),fun σ' H' p'=>⟨n-(i+1),by lia,rfl,hlt,p'⟩,fun x H' y=>?_⟩
  obtain ⟨rfl,rfl⟩:=y
  exact hs i σ _ hlt p
 ·exact .inl ⟨by show n<=i;lia,hd σ H ((show i=n by lia) ▸ p)⟩
theorem Zgu {K:PySem.W.Frag}{a b:Addr}{xs ys:List V}{g:TG}{tb:TS}{D:Ends} {σ:L2.St}{H:Hp} (hl:xs.length=ys.length) (Pv:Nat->L2.St->Hp->Prop) (h0:Pv 0 σ H) (hS:∀i σ H,Pv i σ H->Zu K H a xs/\Zu K H b ys)
  (hs:∀i x y p σ H,xs[i]? = some x->ys[i]? = some y->Pv i σ H->H p=none->g (.ref p) σ (upd H p (.tup [x,y])) fun σ2 H2=>tb { D with nx:=Pv (i+1),ct:=Pv (i+1),bk:=D.nx } σ2 H2) (hd:∀ σ H,Pv xs.length σ H->D.nx σ H):
  ∃W:Nat->Nat->L2.St->Hp->Prop,(∃m,W 0 m σ H) /\ ∀i m σ H,W i m σ H ->
   ((Itz K a b).stop i H/\D.nx σ H)∨((Itz K a b).go i H /\ ∃N:L2.St->Hp->Prop,(∀ σ' H',N σ' H' -> ∃m',m'<m/\W (i+1) m' σ' H') /\ ∀x H',(Itz K a b).yld i H x H'->g x σ H' fun σ2 H2=>tb { D with nx:=N,ct:=N,bk:=D.nx } σ2 H2):=by
 refine ⟨fun i m σ H=>m=xs.length-i/\i<=xs.length/\Pv i σ H,⟨xs.length,by simp,Nat.zero_le _,h0⟩,?_⟩
 rintro i m σ H ⟨rfl,hi,p⟩
 obtain ⟨s1,s2⟩:=hS i σ H p
 by_cases hlt:i<xs.length
 ·refine .inr ⟨⟨xs,ys,xs[i],ys[i]'(by lia),s1,s2,by simp [hlt],by simp [show i<ys.length by lia]⟩,Pv (i+1),fun σ' H' p'=>⟨xs.length-(i+1),by lia,rfl,hlt,p'⟩,fun x H' y=>?_⟩
  obtain ⟨q,u,v,e1,e2,e3,y1,y2⟩:=y
  subst e1 e3
  exact hs i u v q σ _ (y1 xs s1) (y2 ys s2) p e2
 ·exact .inl ⟨⟨xs,ys,s1,s2,.inl (by lia)⟩,hd σ H ((show i=xs.length by lia) ▸ p)⟩
end L2
namespace L2
open PySem PySem.Spec PyProof.Rows PyProof.V
section
variable {X:Cx}
theorem ZbS {ns:List Int}{its:List Value} (r:Vals (ns.map V.int) its) {j:Nat} (h:j<its.toArray.size):∃t,its.toArray[j] = .int (ns.getD j 0) t:=by
 have l:=r.length
 rw [List.length_map] at l
 have hj:j<ns.length:=by simp only [List.size_toArray] at h;lia
 obtain ⟨u,e,ru⟩:=r.get (i:=j) (x:=V.int ns[j]) (by simp [hj])
 obtain ⟨t,q⟩:=(show ∃t,u=Value.int ns[j] t from ru)
 have hi:j<its.length:=by lia
 refine ⟨t,?_⟩
 have:its[j]? = some its[j]:=by simp [hi]
 rw [this] at e
 have e2:=Option.some.inj e
 simp [hj]
 rw [e2,q]
theorem Zl1 {K:PySem.W.Frag} (h:X.K=K) (hu:X.A.units+64<cLine):Ub X (compareOp .NotEq) (fun x y H Q=>rNe x y H Q∨Zlk K false x y H Q):=by
 intro pins s σ H x y v u Q I rx ry hq
 rcases hq with z | z
 ·exact UO pins s σ H x y v u Q I rx ry z
 ·exact ZgE h hu pins s σ H x y v u Q I rx ry z
def Zjf (K:PySem.W.Frag):V->List V->Hp->VK->Prop:=fun x vs H Q=>∃(l:Addr) (xs:List V) (y:V) (j:Nat),x = .ref l/\vs = [y]/\Zu K H l xs/\JS y=true/\xs.all JS=true/\j<1000/\(∃z,xs[j]? = some z/\eqV z y=true)/\(∀i z,i<j->xs[i]? = some z->eqV z y=false)/\Q (.int j) H
theorem ZiO:MtM X "list.index" (Zjf X.K):=by
 intro pins s σ H x vs v us Q I rx rv h
 obtain ⟨l,xs,y,j,rfl,rfl,hq,fy,fx,j1,⟨z,hz,ez⟩,no,q⟩:=h
 cases rx
 obtain ⟨u,rfl,ru⟩:=rv.one
 obtain ⟨its,r,pl,hsz⟩:=I.list hq
 obtain ⟨⟨c,dd,dt,sl⟩,ho,hc,n,hd⟩:=pl.isList
 simp only at hc hd
 subst hc hd
 have lr:=r.length
 have val:∀i w (hi:i<its.toArray.size),xs[i]? = some w->eqU y its.toArray[i]=eqV w y:=fun i w hi e=>by
  obtain ⟨u',e',rw'⟩:=r.get e
  have hi':i<its.length:=by simpa using hi
  have e2:its[i]? = some its[i]:=by simp [hi']
  rw [e2] at e'
  have e3:its.toArray[i]=u':=by simpa using Option.some.inj e'
  rw [e3]
  exact ZdJ rw' (List.all_eq_true.mp fx w (List.mem_of_getElem? e))
 have hj:j<its.toArray.size:=by
  have:=(List.getElem?_eq_some_iff.mp hz).1
  simp only [List.size_toArray]
  lia
 refine call_meets F.slot_list_index ⟨_,ho,rfl⟩ F.entry_list_index (F.args_list_index_2 _ _) (SeqAt.list_indexAt l its.toArray n dd sl u (eqU y) j hj (by lia) ?_ ?_) ⟨ho,fun w hw=>WR ru fy r fx w (by simpa using hw),?_⟩
 ·rw [val j z hj hz];exact ez
 ·intro m hm hmj
  have hx:xs[m]? = some (xs[m]'(by simp only [List.size_toArray] at hm;lia)):=by simp
  rw [val m _ hm hx]
  exact no m _ hmj hx
 ·exact ⟨.int j,H,I.tok _,⟨_,rfl⟩,q⟩
theorem Zg6 {K:PySem.W.Frag} (h:X.K=K):MtM X "list.index" (Zjf K):=h ▸ ZiO
end
def Zlt (b:Nat->Bool):List Nat:=(bif b 0 then [0] else [])++((bif b 1 then [1] else [])++((bif b 2 then [2] else [])++(bif b 3 then [3] else [])))
def Zny (b:Nat->Bool) (led:Bool) (f m:Nat):SetTable:={ mask:=7,place:=(Zlt b).toArray,dummies:=#[],finger:=f,led:=led,moves:=m,plain:=true }
def EK:Int×Value->Nat->Prop:=fun e k=>e.1=hashInt (k:Int) /\ ∃t,e.2 = .int (k:Int) t
def SO (w:World) (a:Addr) (b:Nat->Bool) (ep:Nat) (es:Array (Int×Value)) (h:Heap):Prop:=
 ∃o led f m,h.get? a=some o/\o.ExactSet/\o.data = .set es ep (Zny b led f m)/\(w.params.followText "set-order" = true∨led=true)/\Paired EK es.toList (Zlt b)
section
variable {prog:Program}{w:World}{A:Around}{E:Value->Shared->Prop}{s:Shared}{a:Addr}{b:Nat->Bool}{ep:Nat}{es:Array (Int×Value)}
def ZnO (prog:Program) (w:World) (u:Nat) (S:Addr) (J:Nat->Heap->Prop) (i:Nat) (v:Value):Prop:=
 ∀(A:Around) (E:Value->Shared->Prop) (s:Shared) (Q:Bool->Shared->Prop),A.units<=u->J i s.heap ->
  (∀b h' tk,s.toks<=tk->J (i+1) h'->Heap.SameBut S s.heap h'->Q b { s with heap:=h',toks:=tk })->wpAny (model prog w) A (setAdd S v) Q E s
theorem grow {R:Result->Shared->Prop}{I:Addr}{fp wr:List Addr}{G:Array GenState->Array GenState->Prop}{n:Nat}{P:Nat->Value->Prop}{St:Nat->Shared->Prop}
  (W:WalksS prog w A.in1 I fp wr G n P St) {S:Addr} (hS:S∉fp) {J:Nat->Heap->Prop} (jk:∀i h h',J i h->(∀c o,c∉wr->h.get? c=some o->h'.get? c=some o)->J i h') (ja:∀i v,P i v->ZnO prog w A.in1.units S J i v):
  ∀(k i:Nat) (s:Shared),i+k=n->St i s->J i s.heap->(∀s',Moved (S::wr) G s s'->J n s'.heap->R (.ok (.ret .none)) s')->codeAny (model prog w) A (.builtin "set.update.loop" ⟨[.ref S,.ref I],[]⟩) R s:=by
 have sub:∀c∈wr,c∈S::wr:=fun c hc=>.tail _ hc
 intro k
 induction k with
 | zero=>
  rintro i s e st j hR
  obtain rfl:i=n:=e
  refine codeAny_builtin F.entry_set_update_loop ?_
  rw [Around.under_plainId F.plain_set_update_loop _]
  wp_walk using W.done s _ _ st
  intro s' m
  wp_walk
  exact hR s' (m.mono sub) (jk _ _ _ j m.heap)
 | succ k ih=>
  rintro i s rfl st j hR
  refine codeAny_builtin F.entry_set_update_loop ?_
  rw [Around.under_plainId F.plain_set_update_loop _]
  wp_walk using W.item i s _ _ (by lia) st
  intro v s' p st' m
  have j':=jk _ _ s'.heap j m.heap
  refine wpAny_bind (wpAny_holding (ja i v p _ _ s' _ (Nat.le_refl _) j' fun b h' tk le j2 sb=>?_))
  wp_walk
  refine ⟨plainId_quiet F.plain_set_update_loop _,ih (i+1) _ (by lia) (W.frame _ s' _ _ st' le fun c hc o e=>(sb.2 c fun z=>hS (z ▸ hc)).trans e) j2 fun s2 m2 j3=>hR s2 (Moved.trans W.gtrans ((m.mono sub).then_heap le fun c o hc e=>(sb.2 c fun z=>hc (z ▸ .head _)).trans e) m2) j3⟩
end
def Znu (w:World) (a:Addr) (ep:Nat) (es:Array (Int×Value)):Array (Int×Value):=if w.params.followText "set-order" = true then pickOrder (w.params.setOrder a ep) es else es
section
variable {prog:Program}{w:World}{A:Around}{E:Value->Shared->Prop}{s:Shared}{a it:Addr}{b:Nat->Bool}{ep i:Nat}{es:Array (Int×Value)}
structure Wlk (prog:Program) (w:World) (a:Addr) (ep:Nat) (es:Array (Int×Value)) (f:Nat->Nat) (C:Heap->Prop):Prop where
 there:∀{h},C h -> ∃o t,h.get? a=some o/\o.ExactSet/\o.data = .set es ep t/\t.fits es.size=true/\t.plain=true
 kept:∀{h h'},C h->(∀o,h.get? a=some o->h'.get? a=some o)->C h'
 first:f 0=0
 next:∀{A E s i}{Q:Option (Value×Nat)->Shared->Prop},C s.heap->i<=es.size->Q (((Znu w a ep es)[i]?).map fun e=>(e.2,f (i+1))) s->wpAny (model prog w) A (setNext a (f i) i ep) Q E s
section
variable {f:Nat->Nat}{C:Heap->Prop} (N:Wlk prog w a ep es f C)
include N
end
end
def Zoe (w:World) (a:Addr) (ks:List Nat):HO:=.ext fun h=>∃b ep es,Zlt b=ks/\SO w a b ep es h
structure Wo (lt:Keyed->Keyed->Bool):Prop where
 irr:∀p,lt p p=false
 asym:∀p q,lt p q=true->lt q p=false
 neg:∀p q r,lt p r=true->lt p q=true∨lt q r=true
structure Cmp (prog:Program) (w:World) (A:Around) (E:Value->Shared->Prop) (s:Shared) (kd:SortKind) (D:Keyed->Prop) (lt:Keyed->Keyed->Bool):Prop where
 cmp:∀(p q:Keyed) (st:SortSt) (Q:Option Bool->SortSt->Prop),D p->D q->kindOf st=kd->Q (some (lt p q)) st->wpS (model prog w) A E s (lt' p q) Q st
 wo:Wo lt
section
variable {prog:Program}{w:World}{A:Around}{E:Value->Shared->Prop}{s:Shared}{kd:SortKind}{D:Keyed->Prop}{lt:Keyed->Keyed->Bool}
def Srt (lt:Keyed->Keyed->Bool) (l:List Keyed):Prop:=l.Pairwise fun p q=>lt q p=false
structure Mg (lt:Keyed->Keyed->Bool) (a b out:List Keyed) (ia ib:Nat):Prop where
 srt:Srt lt out
 pm:(out++(a.drop ia++b.drop ib)).Perm (a++b)
 le:∀p∈out,∀q∈a.drop ia++b.drop ib,lt q p=false
end
section
variable {prog:Program}{w:World}{A:Around}{E:Value->Shared->Prop}{s:Shared}{kd:SortKind}{D:Keyed->Prop}{lt:Keyed->Keyed->Bool}
structure Kp (lo n:Nat) (st st':SortSt):Prop where
 kind:kindOf st'=kindOf st
 pend:pendingOf st'=pendingOf st
 fail:failedOf st'=failedOf st
 perm:(arrOf st').toList.Perm (arrOf st).toList
 out:∀i,i<lo∨lo+n<=i->(arrOf st')[i]? = (arrOf st)[i]?
end
section
variable {prog:Program}{w:World}{A:Around}{E:Value->Shared->Prop}{s:Shared}{kd:SortKind}{D:Keyed->Prop}{lt:Keyed->Keyed->Bool}
def Zml (p:List (Nat×Nat×Nat)) (rs:List (List Keyed)):Prop:=p.length=rs.length /\ ∀i r,rs[i]? = some r -> ∃pw,p[i]? = some ((rs.take i).flatten.length,r.length,pw)
end
section
variable {prog:Program}{w:World}{A:Around}{E:Value->Shared->Prop}{s:Shared}{kd:SortKind}{D:Keyed->Prop}{lt:Keyed->Keyed->Bool}
structure Rn (lt:Keyed->Keyed->Bool) (kd:SortKind) (l₀:List Keyed) (rs:List (List Keyed)) (S:List Keyed) (st:SortSt):Prop where
 arr:(arrOf st).toList=rs.flatten++S
 srt:∀r∈rs,Srt lt r/\0<r.length
 pend:Zml (pendingOf st).toList rs
 perm:(arrOf st).toList.Perm l₀
 kind:kindOf st=kd
 fail:failedOf st=none
end
def lexLt:List Int->List Int->Bool
 | [],[]=>false
 | [],_::_=>true
 | _::_,[]=>false
 | a::as,b::bs=>if a=b then lexLt as bs else decide (a<b)
open PySem.SeqAt AutoSeq1 in
def Zm6 (H:Hp) (v:V) (ks:List Int):Prop:=∃a,v = .ref a/\H a=some (.tup (ks.map V.int))
end L2
namespace L2
open PySem PySem.Spec PyProof.Rows PyProof.V
section
variable {X:Cx}
theorem ZbF:JD X (.type "range") (fun xs H Q=>∃j:Int,xs = [.int j] /\ ∀p,H p=none->Q (.ref p) (upd H p (.rng 0 j))):=by
 intro pins s σ H xs us Q I r h
 obtain ⟨j,rfl,q⟩:=h
 obtain ⟨u,rfl,ru⟩:=r.one
 obtain ⟨t,rfl⟩:=ru
 refine call_range_1 ⟨.ref s.heap.objs.size,_,I.laid (a:=s.heap.objs.size) (o:=.rng 0 j) (t':=s.toks+1+1) (fun _ _ q=>Heap.get?_push_of_some _ q) (Nat.le_refl _) ⟨s.toks,t,s.toks+1,Heap.get?_push_size _ rfl⟩,rfl,q _ (I.hok.fresh (Nat.le_refl _))⟩
def upI (n:Nat):List Int:=(List.range n).map fun (k:Nat)=>(k:Int)
theorem ZfI (hc:X.calm=true):JD X (.type "list") (fun xs H Q=>∃(p:Addr) (n:Nat),xs = [.ref p]/\H p=some (.rng 0 n)/\n<=1000 /\ ∀l,H l=none->Q (.ref l) (upd H l (.lst ((upI n).map V.int)))):=by
 intro pins s σ H xs us Q I r h
 obtain ⟨p,n,rfl,hp,hn,q⟩:=h
 obtain ⟨u,rfl,ru⟩:=r.one
 cases ru
 obtain ⟨t,u,v,hr⟩:=(show Yp X.prog X.w H s.heap p (.rng 0 n) from I.hok p _ hp)
 refine call_list_range (n:=n) (I.ok.hd hc) hr (small_one (by lia) (by lia) (by lia) (by lia)) (by rw [rangeSize_one];split<;>lia) (by lia) fun h' tk acc' c' kp e hacc=>?_
 refine ⟨.ref s.heap.objs.size,_,I.laid (a:=s.heap.objs.size) (o:=.lst ((upI n).map V.int)) (t':=tk) kp (Nat.le_refl _) ⟨?_,acc'.toList,c',?_,?_⟩,rfl,q _ (I.hok.fresh (Nat.le_refl _))⟩
 ·rw [List.length_map,upI,List.length_map,List.length_range,sizeLine_eq];lia
 ·have key:∀(xs:List V) (us:List Value),xs.length=us.length->(∀(j:Nat) (x:V) (u:Value),xs[j]? = some x->us[j]? = some u->RelV x u)->Vals xs us:=by
   intro xs
   induction xs with
   | nil=>intro us hl _;cases us with
    | nil=>exact .nil
    | cons _ _=>cases hl
   | cons x xs ih=>
    intro us hl h
    cases us with
    | nil=>cases hl
    | cons u us=>exact .cons (h 0 x u rfl rfl) (ih us (by simpa using hl) fun j x u e1 e2=>h (j+1) x u (by simpa using e1) (by simpa using e2))
  refine key _ _ (by rw [List.length_map,upI,List.length_map,List.length_range,Array.length_toList,hacc.1]) fun j x u e1 e2=>?_
  obtain ⟨t,e3⟩:=hacc.2 j u (by rw [<- Array.getElem?_toList];exact e2)
  rw [List.getElem?_map,upI,List.getElem?_map] at e1
  cases e4:(List.range n)[j]? with
  | none=>rw [e4] at e1;cases e1
  | some k=>
   rw [e4] at e1
   cases e1
   rw [List.getElem?_eq_some_iff] at e4
   obtain ⟨_,e5⟩:=e4
   rw [List.getElem_range] at e5
   subst e5
   exact ⟨t,by rw [e3];congr 1;show (0:Int)+(j:Int)*1=(j:Int);lia⟩
 ·rw [Array.toArray_toList];exact e
end
section
variable {g:TG}{tc:TT}{te:TE} {σ:St}{H:Hp}{Q:VK}{K:PySem.W.Frag}{a b:Addr}{xs ys:List V}
theorem ZkI (hn:ys.length<=sizeLine) (hl:ys.length<=xs.length) (Pv:Nat->List V->Hp->Prop) (h0:Pv 0 [] H) (hlen:∀i zs H,Pv i zs H->zs.length<=i) (hS:∀i zs H,Pv i zs H->Zu K H a xs/\Zu K H b ys)
  (hs:∀i x y p zs H,xs[i]? = some x->ys[i]? = some y->Pv i zs H->H p=none->g (.ref p) σ (upd H p (.tup [x,y])) fun σ2 H2=>tc σ2 H2 fun b H3=>if b=true then te σ2 H3 fun y H4=>Pv (i+1) (zs ++ [y]) H4 else Pv (i+1) zs H3)
  (hd:∀zs H,Pv ys.length zs H -> ∀D,H D=none->Q (.ref D) (upd H D (.lst zs))):LcW (Itz K a b) σ g tc te H Q:=
 Zec hn Pv h0 hlen (fun i zs H hi p=>⟨xs,ys,xs[i]'(by lia),ys[i],(hS i zs H p).1,(hS i zs H p).2,by simp [show i<xs.length by lia],by simp [hi]⟩) (fun zs H p=>⟨xs,ys,(hS _ zs H p).1,(hS _ zs H p).2,.inr (Nat.le_refl _)⟩) (fun i zs H hi p x H' y=>by
  obtain ⟨q,u,v,e1,e2,e3,y1,y2⟩:=y
  subst e1 e3
  exact hs i u v q zs _ (y1 xs (hS i zs _ p).1) (y2 ys (hS i zs _ p).2) p e2) hd
end
abbrev WS:=List (List Int)
def SR (r:WS):Prop:=r.Pairwise fun u v=>lexLt u v=true
structure Zn3 (L r:WS):Prop where
 rise:SR r
 mem:∀w,w∈r ↔ L.count w % 2=1
theorem sub_len:∀{r L:WS},r.Nodup->(∀w∈r,w∈L)->r.length<=L.length
 | [],_,_,_=>Nat.zero_le _
 | a::r,L,n,h=>by
  obtain ⟨n1,n2⟩:=List.nodup_cons.mp n
  have ha:=h a List.mem_cons_self
  have:=sub_len (r:=r) (L:=L.erase a) n2 fun w hw=>(List.mem_erase_of_ne (fun (e:w=a)=>n1 (e ▸ hw))).mpr (h w (List.mem_cons_of_mem _ hw))
  rw [List.length_erase_of_mem ha] at this
  have:=List.length_pos_of_mem ha
  rw [List.length_cons];lia
structure Zog (L ks:WS):Prop where
 nd:ks.Nodup
 mem:∀w,w∈ks ↔ L.count w % 2=1
end L2
namespace L2
open PySem PySem.Spec PyProof.Rows PyProof.V
section
variable {X:Cx}{C:Addr}{x m:Str}{p pos apos:Pos}{e o:Expr}{es:List Expr}{ta:TE}{t:TA}
structure MkO (K:PySem.W.Frag) (C:Addr):Prop where
 makes:PySem.W.makesIn K C=true
 init:PySem.W.findIn K (.ref C) "__init__" = some (some (.builtin "object.__init__"))
 kp:PySem.W.keepIn K (.ref C)=true
def ZgS (P:Program) (w:World) (K:PySem.W.Frag) (mg:Str->Option Value) (base:Heap) (k:Nat) (C:Addr) (m:Str) (ps:List Str) (sp:Sp):Prop:=
 ∃(f:Addr) (fd:FuncData),Ys P w K mg base W3 k f fd ps sp/\Meth K C m f/\Binds K fd ps []
theorem Zf4 {k:Nat}{ps:List Str}{sp:Sp}{pl:Sem Bool} (h:ZgS X.prog X.w X.K X.mg X.base k C m ps sp) (c:Cls X.K C) (hr:J1 k X.A) (he:PE X o ta) (ha:PA X (e::es) t)
  (hst:starEach (e::es) X.env=(false,eval e X.env)::starEach es X.env:=by rfl) (hpl:(backTo pos (starEach es X.env)).any (·.1)=false:=by rfl)
  (ht:eval (.Call (.Attribute o m apos) (e::es) [] pos) X.env=(do
   let ov <- eval o X.env
   standAt apos.atName
   let (f,first) <- holding [ov] (getMethod ov m pl)
   callWith pos f first (backTo pos (starEach (e::es) X.env)) (backToKw pos (keywordEach [] X.env))):=by rfl):
  PE X (.Call (.Attribute o m apos) (e::es) [] pos) (ZkY C m sp [] E0 ta t):=by
 obtain ⟨f,fd,G,hm,hb⟩:=h
 exact Zko he c hm G hr hb .nil ZiI ha hst hpl ht
def ZnK:R2:=fun x y H Q=>∃a b:List Int,Zm6 H x a/\Zm6 H y b/\Q (.bl (decide (a≠b))) H
theorem Zl9 (hu:X.A.units+64<cLine):Ub X (compareOp .NotEq) ZnK:=by
 intro pins s σ H x y v u Q I rx ry h
 obtain ⟨ns,ms,⟨p,rfl,hp⟩,⟨r,rfl,hr⟩,hQ⟩:=h
 cases rx
 cases ry
 obtain ⟨_,its,r1,p1⟩:=(show Yp X.prog X.w H s.heap p (.tup (ns.map V.int)) from I.hok p _ hp)
 obtain ⟨_,its2,r2,p2⟩:=(show Yp X.prog X.w H s.heap r (.tup (ms.map V.int)) from I.hok r _ hr)
 have l1:ns.length=its.length:=by simpa using r1.length
 have l2:ms.length=its2.length:=by simpa using r2.length
 refine SeqAt.RcNeAt.tuples (e:=fun j=>ns.getD j 0==ms.getD j 0) p1 p2 (by lia) (fun j h1 h2=>?_) X.prog X.w _ _ ⟨.bl (decide (ns≠ms)),H,I,?_,hQ⟩
 ·obtain ⟨t1,e1⟩:=ZbS r1 h1
  obtain ⟨t2,e2⟩:=ZbS r2 h2
  rw [e1,e2]
  exact SeqAt.EqAt.int_int _ _ _ _
 ·show Value.bool _=Value.bool _
  congr 1
  rw [decide_not]
  congr 1
  rw [Bool.eq_iff_iff,Bool.and_eq_true,List.all_eq_true,decide_eq_true_iff,beq_iff_eq]
  simp only [List.size_toArray]
  constructor
  ·rintro ⟨z,zl⟩
   refine List.ext_getElem (by lia) fun i h1 h2=>?_
   have:=z i (List.mem_range.mpr (by lia))
   simpa [h1,h2] using this
  ·intro z
   subst z
   exact ⟨fun i _=>by simp,by lia⟩
end
section
variable {X:Cx}
theorem range_any (bs:List Bool):(List.range bs.length).any (fun i=>bs.getD i false)=bs.any id:=by
 rw [Bool.eq_iff_iff,List.any_eq_true,List.any_eq_true]
 constructor
 ·rintro ⟨i,hi,h⟩
  have hi':i<bs.length:=List.mem_range.mp hi
  exact ⟨bs[i],List.getElem_mem hi',by simpa [hi'] using h⟩
 ·rintro ⟨b,hb,h⟩
  obtain ⟨i,hi,rfl⟩:=List.mem_iff_getElem.mp hb
  exact ⟨i,List.mem_range.mpr hi,by simpa [hi] using h⟩
end
def ZhG (lo:Int) (n:Nat):It:=⟨fun i _=>i<n,fun i H x H'=>H'=H/\x = .int (lo+i*(-1)),fun i _=>n<=i⟩
theorem ZeZ {P:Program}{w:World}{K:PySem.W.Frag}{tg:Expr} (it:Addr) (lo:Int) (n:Nat):Turn P w K tg (ZhG lo n) [it] it (fun i h=>IsRangeIter h it (lo+(i:Nat)*(-1)) ((n:Int)-(i:Nat)) (-1)) where
 mem:=by simp
 obj:=fun i h st b hb=>by
  have e:b=it:=by simpa using hb
  subst e
  exact ⟨_,st,fun v z=>by
   have z':Data.fields _=Data.cell v:=z
   cases z'⟩
 keep:=fun i h h' st k=>k it (by simp) _ st
 item:=by
  intro X hP hw hK hc i pins s σ H E I hf st hg
  subst hP hw hK
  obtain ⟨f0,f1,f2,f3,f4,f5⟩:=hf it (by simp)
  have W:=Walks.range (prog:=X.prog) (w:=X.w) (I.ok.hd hc) it lo (-1) n
  refine W.item i s _ _ hg st fun v h' tk hv st' kk=>?_
  obtain ⟨t,rfl⟩:=hv
  have I1:Inv X pins σ H { s with heap:=h',toks:=tk }:=I.turned (fun b o hb e=>kk b o (by simpa using hb) e) f0 f1 f3 f4 f5
  exact ⟨_,rfl,Zgc (s:={ s with heap:=h',toks:=tk }) (n := "range_iterator") st' rfl rfl (by decide) ⟨.int (lo+i*(-1)),H,I1,⟨t,rfl⟩,⟨rfl,rfl⟩,st',fun b hb=>(hf b hb).1⟩⟩
 done:=by
  intro X hP hw hK hc i pins s σ H E I hf st hg
  subst hP hw hK
  obtain ⟨f0,f1,f2,f3,f4,f5⟩:=hf it (by simp)
  exact wpAny_pyNext_range_end (I.ok.hd hc) st (by have:n<=i:=hg;lia) fun h' eb=>⟨rfl,I.turned (t':=s.toks) (fun b o hb e=>eb b o hb e) f0 f1 f3 f4 f5⟩
 self:=fun _ _ _ _ _ st h=>wpAny_pyIter_rangeiter st h
theorem Zfr {lo:Int}{n:Nat}{g:TG}{tb:TS}{D:Ends} {σ:L2.St}{H:Hp} (Pv:Nat->L2.St->Hp->Prop) (h0:Pv 0 σ H)
  (hs:∀i σ H,i<n->Pv i σ H->g (.int (lo+i*(-1))) σ H fun σ2 H2=>tb { D with nx:=Pv (i+1),ct:=Pv (i+1),bk:=D.nx } σ2 H2) (hd:∀ σ H,Pv n σ H->D.nx σ H):
  ∃W:Nat->Nat->L2.St->Hp->Prop,(∃m,W 0 m σ H) /\ ∀i m σ H,W i m σ H ->
   ((ZhG lo n).stop i H/\D.nx σ H)∨((ZhG lo n).go i H /\ ∃N:L2.St->Hp->Prop,(∀ σ' H',N σ' H' -> ∃m',m'<m/\W (i+1) m' σ' H') /\ ∀x H',(ZhG lo n).yld i H x H'->g x σ H' fun σ2 H2=>tb { D with nx:=N,ct:=N,bk:=D.nx } σ2 H2):=by
 refine ⟨fun i m σ H=>m=n-i/\i<=n/\Pv i σ H,⟨n,by simp,Nat.zero_le _,h0⟩,?_⟩
 rintro i m σ H ⟨rfl,hi,p⟩
 by_cases hlt:i<n
 ·refine .inr ⟨hlt,Pv (i+1),fun σ' H' p'=>⟨n-(i+1),by lia,rfl,hlt,p'⟩,fun x H' y=>?_⟩
  obtain ⟨rfl,rfl⟩:=y
  exact hs i σ _ hlt p
 ·exact .inl ⟨by show n<=i;lia,hd σ H ((show i=n by lia) ▸ p)⟩
section
variable {prog:Program}{w:World}{A:Around}{E:Value->Shared->Prop}{s:Shared}
abbrev ZlI (h:Heap) (z TI TO T:Addr) (b:Bool):Prop:=
 h.get? z=some { cls:=.type "zip", dict:=none,data:=.fields #[rawInt T,.bool b,.bool false,.ref TI,.ref TO],slots:=#[] }
structure ZS (h:Heap) (z TI TO i1 i2 l1 l2:Addr) (k:Nat):Prop where
 zp:(IsZip h z TI TO .none /\ ∃a b,IsPair h TO a b) ∨ ∃T b o,ZlI h z TI TO T b/\h.get? T=some o/\o.cls = .type "tuple" /\ T≠z/\T≠TO/\T≠i1/\T≠i2
 ti:IsPair h TI (.ref i1) (.ref i2)
 j1:h.IsListIter i1 l1 k
 j2:h.IsListIter i2 l2 k
end
end L2
namespace L2
open PySem PySem.Spec PyProof.Rows HT
def adv (mask:Nat) (p:SetTable.Probe):SetTable.Probe:=
 if p.more>0 then { p with j:=p.j+1,more:=p.more-1 } else
 { p with j:=(SetTable.leap mask p.i p.perturb).1,more:=SetTable.runEnd mask (SetTable.leap mask p.i p.perturb).1-(SetTable.leap mask p.i p.perturb).1,i:=(SetTable.leap mask p.i p.perturb).1,perturb:=(SetTable.leap mask p.i p.perturb).2 }
def stH (mask:Nat) (h:Int):Nat->SetTable.Probe
 | 0=>{ j:=SetTable.bits h % (mask+1),more:=SetTable.runEnd mask (SetTable.bits h % (mask+1))-SetTable.bits h % (mask+1),i:=SetTable.bits h % (mask+1),perturb:=SetTable.bits h,dummy:=none }
 | n+1=>adv mask (stH mask h n)
def pj (mask:Nat) (h:Int) (n:Nat):Nat:=(stH mask h n).j
def Rch (mask:Nat) (P:Nat->Prop) (h:Int) (j:Nat):Prop:=∃s,s<10*SetTable.turns mask/\pj mask h s=j /\ ∀m,m<s->P (pj mask h m)
structure TbG (t:SetTable) (hs:List Int):Prop where
 dum:t.dummies = #[]
 rise:t.place.toList.Pairwise (· < ·)
 dom:∀j∈t.place.toList,j<=t.mask
 len:t.place.size=hs.length
 msk:t.mask=7∨t.mask=31
 few:hs.length*5<t.mask*3
 rch:∀(i j:Nat) (h:Int),t.place.toList[i]? = some j->hs[i]? = some h->Rch t.mask (· ∈ t.place.toList) h j
def occ (owner:Array (Option Nat)) (j:Nat):Prop:=∃k,owner[j]? = some (some k)
structure OC (mask:Nat) (owner:Array (Option Nat)) (hs:List Int):Prop where
 sz:owner.size=mask+1
 sur:∀i:Nat,i<hs.length -> ∃j:Nat,owner[j]? = some (some i)
 lt:∀j i:Nat,owner[j]? = some (some i)->i<hs.length
 one:∀j j' i:Nat,owner[j]? = some (some i)->owner[j']? = some (some i)->j=j'
 rch:∀(j i:Nat) (h:Int),owner[j]? = some (some i)->hs[i]? = some h->Rch mask (occ owner) h j
end L2
namespace L2
def Zy (T:Nat->Nat):Nat->Nat->Nat
 | 0,_=>0
 | n+1,v=>(if v.testBit n=true then T n else 0) ^^^ Zy T n v
theorem YY (T:Nat->Nat):∀(n a b:Nat),Zy T n (a ^^^ b)=Zy T n a ^^^ Zy T n b
 | 0,_,_=>by simp [Zy]
 | n+1,a,b=>by
  show (if (a ^^^ b).testBit n=true then T n else 0) ^^^ Zy T n (a ^^^ b)=((if a.testBit n=true then T n else 0) ^^^ Zy T n a) ^^^ ((if b.testBit n=true then T n else 0) ^^^ Zy T n b)
  rw [YY T n a b,Nat.testBit_xor]
  apply Nat.eq_of_testBit_eq
  intro k
  cases a.testBit n<;>cases b.testBit n<;>simp [Nat.testBit_xor]<;>cases (T n).testBit k<;>cases (Zy T n a).testBit k<;>cases (Zy T n b).testBit k<;>rfl
theorem Yy (T:Nat->Nat):∀n,Zy T n 0=0
 | 0=>rfl
 | n+1=>by
  show (if (0:Nat).testBit n=true then T n else 0) ^^^ Zy T n 0=0
  rw [Yy T n];simp
theorem Zf9 (T:Nat->Nat):∀(n r:Nat),n<=r->Zy T n (2 ^ r)=0
 | 0,_,_=>rfl
 | n+1,r,h=>by
  show (if (2 ^ r).testBit n=true then T n else 0) ^^^ Zy T n (2 ^ r)=0
  rw [Zf9 T n r (by lia),Nat.testBit_two_pow,if_neg (by simp;lia)]
  rfl
theorem YJ (T:Nat->Nat):∀(n r:Nat),r<n->Zy T n (2 ^ r)=T r
 | n+1,r,h=>by
  show (if (2 ^ r).testBit n=true then T n else 0) ^^^ Zy T n (2 ^ r)=T r
  rw [Nat.testBit_two_pow]
  by_cases e:r=n
  ·subst e
   rw [Zf9 T r r (Nat.le_refl _)]
   simp
  ·rw [YJ T n r (by lia),if_neg (by simpa using e),Nat.zero_xor]
def LB (v j:Nat):Prop:=v.testBit j=true /\ ∀k,k<j->v.testBit k=false
theorem LB.one {v i j:Nat} (a:LB v i) (b:LB v j):i=j:=by
 rcases Nat.lt_trichotomy i j with h | h | h
 ·have:=b.2 i h;rw [a.1] at this;cases this
 ·exact h
 ·have:=a.2 j h;rw [b.1] at this;cases this
theorem LB.nz {v i:Nat} (a:LB v i):v≠0:=fun z=>by
 have:=a.1
 rw [z,Nat.zero_testBit] at this
 cases this
theorem LB.ex {v:Nat} (h:v≠0):∃j,LB v j:=by
 obtain ⟨i,hi⟩:=Nat.exists_testBit_of_ne_zero h
 have key:∀m i,i<=m->v.testBit i=true -> ∃j,LB v j:=by
  intro m
  induction m with
  | zero=>intro i hm hi;exact ⟨i,hi,fun k hk=>by lia⟩
  | succ m ih=>
   intro i hm hi
   by_cases c:∃k,k<i/\v.testBit k=true
   ·obtain ⟨k,hk,hb⟩:=c
    exact ih k (by lia) hb
   ·refine ⟨i,hi,fun k hk=>?_⟩
    cases hb:v.testBit k with
    | false=>rfl
    | true=>exact absurd ⟨k,hk,hb⟩ c
 exact key i i (Nat.le_refl _) hi
theorem LB.xor_lt {a b i j:Nat} (x:LB a i) (y:LB b j) (h:i<j):LB (a ^^^ b) i:=by
 refine ⟨?_,fun k hk=>?_⟩
 ·rw [Nat.testBit_xor,x.1,y.2 i h];rfl
 ·rw [Nat.testBit_xor,x.2 k hk,y.2 k (by lia)];rfl
theorem LB.clear {a b j:Nat} (x:LB a j) (y:LB b j):∀k,k<=j->(a ^^^ b).testBit k=false:=fun k hk=>by
 rw [Nat.testBit_xor]
 by_cases e:k=j
 ·rw [e,x.1,y.1];rfl
 ·rw [x.2 k (by lia),y.2 k (by lia)];rfl
theorem LB.lt {v j n:Nat} (x:LB v j) (h:v<2 ^ n):j<n:=by
 rcases Nat.lt_or_ge j n with c | c
 ·exact c
 ·have:=Nat.testBit_lt_two_pow (Nat.lt_of_lt_of_le h (Nat.pow_le_pow_right (by decide) c))
  rw [x.1] at this
  cases this
theorem LB.pow (r:Nat):LB (2 ^ r) r:=⟨by rw [Nat.testBit_two_pow];simp,fun k hk=>by rw [Nat.testBit_two_pow];simp;lia⟩
theorem LB.from {v j m:Nat} (x:LB v j) (h:∀k,k<=m->v.testBit k=false):m<j:=by
 rcases Nat.lt_or_ge m j with c | c
 ·exact c
 ·have:=h j c
  rw [x.1] at this
  cases this
structure Up (T:Nat->Nat) (n i:Nat) (S:Nat->Nat) (p:Nat->Option Nat):Prop where
 lb:∀r,i<=r->r<n->LB (S r) r
 bd:∀r,i<=r->r<n->S r<2 ^ n
 inv:∀r q,i<=r->r<n->p r=some q->i<=q/\q<n/\q≠r/\p q=some r
 img:∀r q,i<=r->r<n->p r=some q->r<q->Zy T n (S r)=S q
 ker:∀r,i<=r->r<n->(∀q,p r=some q->q<r)->Zy T n (S r)=0
theorem Up.inj {T:Nat->Nat}{n i:Nat}{S:Nat->Nat}{p:Nat->Option Nat} (U:Up T n i S p) {a b q:Nat} (ha:i<=a) (ha':a<n) (hb:i<=b) (hb':b<n) (pa:p a=some q) (pb:p b=some q):a=b:=by
 have h1:=(U.inv a q ha ha' pa).2.2.2
 have h2:=(U.inv b q hb hb' pb).2.2.2
 rw [h1] at h2
 exact Option.some.inj h2
theorem Up.low {T:Nat->Nat}{n i:Nat}{S:Nat->Nat}{p:Nat->Option Nat} (U:Up T n i S p):∀(m v j:Nat),n-j<=m->LB v j->i<=j->v<2 ^ n ->
  (∀q,p j=some q->j<q -> ∃q' k,LB (Zy T n v) q'/\q'<=q/\j<=k/\k<n/\p k=some q'/\k<q') /\
  ((∀q,p j=some q->q<j)->Zy T n v=0 ∨ ∃q' k,LB (Zy T n v) q'/\j<k/\k<n/\p k=some q'/\k<q'):=by
 intro m
 induction m with
 | zero=>
  intro v j hm x _ hv
  have:=x.lt hv
  lia
 | succ m ih=>
  intro v j hm x hj hv
  have jn:=x.lt hv
  have ls:=U.lb j hj jn
  have hs:=U.bd j hj jn
  have ev:v=S j ^^^ (v ^^^ S j):=by rw [Nat.xor_comm v,<- Nat.xor_assoc,Nat.xor_self,Nat.zero_xor]
  have em:Zy T n v=Zy T n (S j) ^^^ Zy T n (v ^^^ S j):=by rw [<- YY,<- ev]
  have hv':v ^^^ S j<2 ^ n:=Nat.xor_lt_two_pow hv hs
  have cl:=x.clear ls
  have tail:Zy T n (v ^^^ S j)=0 ∨ ∃q' k,LB (Zy T n (v ^^^ S j)) q'/\j<k/\k<n/\p k=some q'/\k<q':=by
   by_cases z:v ^^^ S j=0
   ·rw [z];exact .inl (Yy T n)
   ·obtain ⟨l,xl⟩:=LB.ex z
    have lj:=xl.from cl
    have I:=ih _ l (by lia) xl (by lia) hv'
    by_cases c:∃q,p l=some q/\l<q
    ·obtain ⟨q,e,lt⟩:=c
     obtain ⟨q',k,a,_,b,d,e',f⟩:=I.1 q e lt
     exact .inr ⟨q',k,a,by lia,d,e',f⟩
    ·have c':∀q,p l=some q->q<l:=fun q e=>by
      have ne:=(U.inv l q (by lia) (xl.lt hv') e).2.2.1
      rcases Nat.lt_trichotomy q l with h | h | h
      ·exact h
      ·exact absurd h ne
      ·exact absurd ⟨q,e,h⟩ c
     rcases I.2 c' with h | ⟨q',k,a,b,d,e',f⟩
     ·exact .inl h
     ·exact .inr ⟨q',k,a,by lia,d,e',f⟩
  refine ⟨fun q e lt=>?_,fun c=>?_⟩
  ·have im:=U.img j q hj jn e lt
   obtain ⟨iq,qn,_,_⟩:=U.inv j q hj jn e
   have lq:=U.lb q iq qn
   rw [em,im]
   rcases tail with h | ⟨q',k,a,b,d,e',f⟩
   ·rw [h,Nat.xor_zero]
    exact ⟨q,j,lq,Nat.le_refl _,Nat.le_refl _,jn,e,lt⟩
   ·rcases Nat.lt_trichotomy q q' with h | h | h
    ·exact ⟨q,j,lq.xor_lt a h,Nat.le_refl _,Nat.le_refl _,jn,e,lt⟩
    ·subst h
     have:=U.inj hj jn (by lia) d e e'
     lia
    ·rw [Nat.xor_comm]
     exact ⟨q',k,a.xor_lt lq h,by lia,by lia,d,e',f⟩
  ·rw [em,U.ker j hj jn c,Nat.zero_xor]
   exact tail
theorem Up.lower {T:Nat->Nat}{n i:Nat}{S:Nat->Nat}{p:Nat->Option Nat} (U:Up T n i S p) {v j q:Nat} (x:LB v j) (hj:i<=j) (hv:v<2 ^ n) (z:Zy T n v=0) (e:p j=some q):q<j:=by
 have ne:=(U.inv j q hj (x.lt hv) e).2.2.1
 rcases Nat.lt_trichotomy q j with h | h | h
 ·exact h
 ·exact absurd h ne
 ·obtain ⟨q',k,a,_⟩:=(U.low (n-j) v j (Nat.le_refl _) x hj hv).1 q e h
  exact absurd z a.nz
theorem Up.le {T:Nat->Nat}{n:Nat}{S S':Nat->Nat}{p p':Nat->Option Nat} (U:Up T n 0 S p) (V:Up T n 0 S' p') {r q:Nat} (hr:r<n) (e:p r=some q) (lt:r<q):∃q',p' r=some q'/\r<q'/\q'<=q:=by
 obtain ⟨q',k,a,b,_⟩:=(U.low (n-r) (S' r) r (Nat.le_refl _) (V.lb r (Nat.zero_le _) hr) (Nat.zero_le _) (V.bd r (Nat.zero_le _) hr)).1 q e lt
 by_cases c:∃q2,p' r=some q2/\r<q2
 ·obtain ⟨q2,e2,lt2⟩:=c
  have im:=V.img r q2 (Nat.zero_le _) hr e2 lt2
  obtain ⟨_,q2n,_⟩:=V.inv r q2 (Nat.zero_le _) hr e2
  rw [im] at a
  have:=a.one (V.lb q2 (Nat.zero_le _) q2n)
  exact ⟨q2,e2,lt2,by lia⟩
 ·have c':∀q2,p' r=some q2->q2<r:=fun q2 e2=>by
   have ne:=(V.inv r q2 (Nat.zero_le _) hr e2).2.2.1
   rcases Nat.lt_trichotomy q2 r with h | h | h
   ·exact h
   ·exact absurd h ne
   ·exact absurd ⟨q2,e2,h⟩ c
  exact absurd (V.ker r (Nat.zero_le _) hr c') a.nz
theorem Up.one {T:Nat->Nat}{n:Nat}{S S':Nat->Nat}{p p':Nat->Option Nat} (U:Up T n 0 S p) (V:Up T n 0 S' p') {r:Nat} (hr:r<n):p r=p' r:=by
 have up:∀{S S':Nat->Nat}{p p':Nat->Option Nat},Up T n 0 S p->Up T n 0 S' p' -> ∀{r q:Nat},r<n->p r=some q->p' r=some q:=by
  intro S S' p p' U V
  have hi:∀{r q:Nat},r<n->p r=some q->r<q->p' r=some q:=by
   intro r q hr e lt
   obtain ⟨q',e',lt',le⟩:=U.le V hr e lt
   obtain ⟨q2,e2,_,le2⟩:=V.le U hr e' lt'
   rw [e] at e2
   cases e2
   rw [e',Nat.le_antisymm le le2]
  intro r q hr e
  obtain ⟨_,qn,ne,e2⟩:=U.inv r q (Nat.zero_le _) hr e
  rcases Nat.lt_trichotomy r q with h | h | h
  ·exact hi hr e h
  ·exact absurd h.symm ne
  ·have:=hi qn e2 h
   exact (V.inv q r (Nat.zero_le _) qn this).2.2.2
 cases e:p r with
 | some q=>rw [up U V hr e]
 | none=>
  cases e':p' r with
  | none=>rfl
  | some q=>rw [up V U hr e'] at e;cases e
def Jn:List Nat->Nat
 | []=>0
 | a::l=>a ^^^ Jn l
theorem ZcJ:∀(a b:List Nat),Jn (a++b)=Jn a ^^^ Jn b
 | [],b=>by simp [Jn]
 | x::a,b=>by
  show x ^^^ Jn (a++b)=(x ^^^ Jn a) ^^^ Jn b
  rw [ZcJ a b,Nat.xor_assoc]
theorem Zgr {n:Nat}:∀{l:List Nat},(∀x∈l,x<2 ^ n)->Jn l<2 ^ n
 | [],_=>Nat.two_pow_pos n
 | x::l,h=>Nat.xor_lt_two_pow (h x List.mem_cons_self) (Zgr fun y hy=>h y (List.mem_cons_of_mem _ hy))
theorem ZcC (T:Nat->Nat) (n:Nat):∀{l:List Nat},(∀x∈l,Zy T n x=0)->Zy T n (Jn l)=0
 | [],_=>Yy T n
 | x::l,h=>by
  show Zy T n (x ^^^ Jn l)=0
  rw [YY,h x List.mem_cons_self,ZcC T n fun y hy=>h y (List.mem_cons_of_mem _ hy)]
  rfl
structure Tk (T:Nat->Nat) (n i:Nat) (S:Nat->Nat) (p:Nat->Option Nat) (rest a:Nat) (lone:List Nat):Prop where
 up:Up T n (i+1) S p
 eq:Zy T n a=rest ^^^ Jn (lone.map S)
 la:LB a i
 ba:a<2 ^ n
 br:rest<2 ^ n
 lo:∀k,k<=i->rest.testBit k=false
 ln:∀l∈lone,i<l/\l<n/\p l=none
 as:lone.Pairwise (· < ·)
 ab:∀l∈lone,∀k,k<=l->rest.testBit k=false
theorem Tk.start {T:Nat->Nat}{n i:Nat}{S:Nat->Nat}{p:Nat->Option Nat} (U:Up T n (i+1) S p) (hi:i<n) (hT:T i<2 ^ n) (hh:∀k,k<=i->(T i).testBit k=false):Tk T n i S p (T i) (2 ^ i) [] where
 up:=U
 eq:=by rw [YJ T n i hi];simp [Jn]
 la:=LB.pow i
 ba:=Nat.pow_lt_pow_right (by decide) hi
 br:=hT
 lo:=hh
 ln:=fun _ h=>nomatch h
 as:=.nil
 ab:=fun _ h=>nomatch h
theorem Tk.bits {T:Nat->Nat}{n i:Nat}{S:Nat->Nat}{p:Nat->Option Nat}{rest a j:Nat}{lone:List Nat} (t:Tk T n i S p rest a lone) (x:LB rest j):i<j/\j<n:=⟨x.from t.lo,x.lt t.br⟩
theorem Tk.rest0 {T:Nat->Nat}{n i:Nat}{S:Nat->Nat}{p:Nat->Option Nat}{rest a:Nat}{lone:List Nat} (t:Tk T n i S p rest a lone) (sq:∀v,Zy T n (Zy T n v)=0):Zy T n rest=0:=by
 have h:=sq a
 rw [t.eq,YY,ZcC T n (fun x hx=>?_),Nat.xor_zero] at h
 ·exact h
 ·obtain ⟨l,hl,rfl⟩:=List.mem_map.mp hx
  obtain ⟨h1,h2,h3⟩:=t.ln l hl
  exact t.up.ker l h1 h2 fun q e=>by rw [h3] at e;cases e
theorem Tk.below {T:Nat->Nat}{n i:Nat}{S:Nat->Nat}{p:Nat->Option Nat}{rest a j q:Nat}{lone:List Nat} (t:Tk T n i S p rest a lone) (sq:∀v,Zy T n (Zy T n v)=0) (x:LB rest j) (e:p j=some q):i<q/\q<j:=by
 obtain ⟨h1,h2⟩:=t.bits x
 exact ⟨(t.up.inv j q h1 h2 e).1,t.up.lower x h1 t.br (t.rest0 sq) e⟩
theorem Tk.clear {T:Nat->Nat}{n i:Nat}{S:Nat->Nat}{p:Nat->Option Nat}{rest a j:Nat}{lone:List Nat} (t:Tk T n i S p rest a lone) (x:LB rest j):∀k,k<=j->(rest ^^^ S j).testBit k=false:=x.clear (t.up.lb j (t.bits x).1 (t.bits x).2)
theorem Tk.after {T:Nat->Nat}{n i:Nat}{S:Nat->Nat}{p:Nat->Option Nat}{rest a j:Nat}{lone:List Nat} (t:Tk T n i S p rest a lone) (x:LB rest j):∀l∈lone,l<j:=fun l hl=>x.from (t.ab l hl)
theorem Tk.lone {T:Nat->Nat}{n i:Nat}{S:Nat->Nat}{p:Nat->Option Nat}{rest a j:Nat}{lone:List Nat} (t:Tk T n i S p rest a lone) (x:LB rest j) (e:p j=none):Tk T n i S p (rest ^^^ S j) a (lone ++ [j]) where
 up:=t.up
 eq:=by
  rw [t.eq,List.map_append,ZcJ]
  show _=_ ^^^ (_ ^^^ (S j ^^^ 0))
  rw [Nat.xor_zero,Nat.xor_comm (Jn _) (S j),Nat.xor_assoc,<- Nat.xor_assoc (S j),Nat.xor_self,Nat.zero_xor]
 la:=t.la
 ba:=t.ba
 br:=Nat.xor_lt_two_pow t.br (t.up.bd j (t.bits x).1 (t.bits x).2)
 lo:=fun k hk=>t.clear x k (by have:=(t.bits x).1;lia)
 ln:=fun l hl=>by
  rcases List.mem_append.mp hl with h | h
  ·exact t.ln l h
  ·rw [List.mem_singleton.mp h];exact ⟨(t.bits x).1,(t.bits x).2,e⟩
 as:=List.pairwise_append.mpr ⟨t.as,List.pairwise_singleton _ _,fun l hl m hm=>by rw [List.mem_singleton.mp hm];exact t.after x l hl⟩
 ab:=fun l hl k hk=>by
  rcases List.mem_append.mp hl with h | h
  ·exact t.clear x k (by have:=t.after x l h;lia)
  ·rw [List.mem_singleton.mp h] at hk;exact t.clear x k hk
theorem Tk.upper {T:Nat->Nat}{n i:Nat}{S:Nat->Nat}{p:Nat->Option Nat}{rest a j q:Nat}{lone:List Nat} (t:Tk T n i S p rest a lone) (sq:∀v,Zy T n (Zy T n v)=0) (x:LB rest j) (e:p j=some q):Tk T n i S p (rest ^^^ S j) (a ^^^ S q) lone where
 up:=t.up
 eq:=by
  obtain ⟨h1,h2⟩:=t.bits x
  obtain ⟨h3,h4⟩:=t.below sq x e
  have e2:=(t.up.inv j q h1 h2 e).2.2.2
  rw [YY,t.eq,t.up.img q j h3 (by lia) e2 h4,Nat.xor_assoc,Nat.xor_comm (Jn _),<- Nat.xor_assoc]
 la:=by
  obtain ⟨h3,h4⟩:=t.below sq x e
  exact t.la.xor_lt (t.up.lb q h3 (by have:=(t.bits x).2;lia)) h3
 ba:=by
  obtain ⟨h3,h4⟩:=t.below sq x e
  exact Nat.xor_lt_two_pow t.ba (t.up.bd q h3 (by have:=(t.bits x).2;lia))
 br:=Nat.xor_lt_two_pow t.br (t.up.bd j (t.bits x).1 (t.bits x).2)
 lo:=fun k hk=>t.clear x k (by have:=(t.bits x).1;lia)
 ln:=t.ln
 as:=t.as
 ab:=fun l hl k hk=>t.clear x k (by have:=t.after x l hl;lia)
def YV {α:Type} (f:Nat -> α) (i:Nat) (a:α):Nat -> α:=fun r=>if r=i then a else f r
theorem Yk {α:Type} (f:Nat -> α) (i:Nat) (a:α):YV f i a i=a:=if_pos rfl
theorem ZJ {α:Type} (f:Nat -> α) {i r:Nat} (a:α) (h:r≠i):YV f i a r=f r:=if_neg h
theorem Tk.done {T:Nat->Nat}{n i:Nat}{S:Nat->Nat}{p:Nat->Option Nat}{a:Nat} (t:Tk T n i S p 0 a []) (hp:p i=none):Up T n i (YV S i a) p where
 lb:=fun r h1 h2=>by
  by_cases e:r=i
  ·rw [e,Yk];exact t.la
  ·rw [ZJ _ _ e];exact t.up.lb r (by lia) h2
 bd:=fun r h1 h2=>by
  by_cases e:r=i
  ·rw [e,Yk];exact t.ba
  ·rw [ZJ _ _ e];exact t.up.bd r (by lia) h2
 inv:=fun r q h1 h2 e=>by
  by_cases z:r=i
  ·rw [z,hp] at e;cases e
  ·obtain ⟨a1,a2,a3,a4⟩:=t.up.inv r q (by lia) h2 e
   exact ⟨by lia,a2,a3,a4⟩
 img:=fun r q h1 h2 e lt=>by
  by_cases z:r=i
  ·rw [z,hp] at e;cases e
  ·obtain ⟨a1,a2,a3,a4⟩:=t.up.inv r q (by lia) h2 e
   rw [ZJ _ _ z,ZJ _ _ (by lia)]
   exact t.up.img r q (by lia) h2 e lt
 ker:=fun r h1 h2 c=>by
  by_cases z:r=i
  ·rw [z,Yk,t.eq];simp [Jn]
  ·rw [ZJ _ _ z];exact t.up.ker r (by lia) h2 c
theorem Tk.pair {T:Nat->Nat}{n i:Nat}{S:Nat->Nat}{p:Nat->Option Nat}{a f:Nat}{ls:List Nat} (t:Tk T n i S p 0 a (f::ls)) (hi:i<n):Up T n i (YV (YV S f (S f ^^^ Jn (ls.map S))) i a) (YV (YV p i (some f)) f (some i)):=by
 obtain ⟨f1,f2,f3⟩:=t.ln f List.mem_cons_self
 have fi:f≠i:=by lia
 have ltl:∀l∈ls,f<l/\l<n/\p l=none:=fun l hl=>⟨(List.pairwise_cons.mp t.as).1 l hl,(t.ln l (List.mem_cons_of_mem _ hl)).2⟩
 have zf:Zy T n (S f)=0:=t.up.ker f f1 f2 fun q e=>by rw [f3] at e;cases e
 have zl:Zy T n (Jn (ls.map S))=0:=ZcC T n fun x hx=>by
  obtain ⟨l,hl,rfl⟩:=List.mem_map.mp hx
  obtain ⟨h1,h2,h3⟩:=ltl l hl
  exact t.up.ker l (by lia) h2 fun q e=>by rw [h3] at e;cases e
 have lbx:∀(v:Nat) (ms:List Nat),LB v f->(∀l∈ms,f<l/\l<n)->LB (v ^^^ Jn (ms.map S)) f:=by
  intro v ms
  induction ms generalizing v with
  | nil=>intro h _;simpa [Jn] using h
  | cons m ms ih=>
   intro h hm
   show LB (v ^^^ (S m ^^^ Jn (ms.map S))) f
   rw [<- Nat.xor_assoc]
   obtain ⟨m1,m2⟩:=hm m List.mem_cons_self
   exact ih _ (h.xor_lt (t.up.lb m (by lia) m2) m1) fun l hl=>hm l (List.mem_cons_of_mem _ hl)
 have lbf:LB (S f ^^^ Jn (ls.map S)) f:=lbx _ ls (t.up.lb f f1 f2) fun l hl=>⟨(ltl l hl).1,(ltl l hl).2.1⟩
 have bdf:S f ^^^ Jn (ls.map S)<2 ^ n:=Nat.xor_lt_two_pow (t.up.bd f f1 f2) (Zgr fun x hx=>by
  obtain ⟨l,hl,rfl⟩:=List.mem_map.mp hx
  obtain ⟨h1,h2,h3⟩:=ltl l hl
  exact t.up.bd l (by lia) h2)
 have ea:Zy T n a=S f ^^^ Jn (ls.map S):=by rw [t.eq,Nat.zero_xor];rfl
 generalize S f ^^^ Jn (ls.map S)=sf at *
 have pf:YV (YV p i (some f)) f (some i) f=some i:=Yk _ _ _
 have pi:YV (YV p i (some f)) f (some i) i=some f:=by rw [ZJ _ _ (Ne.symm fi),Yk]
 have pr:∀r,r≠f->r≠i->YV (YV p i (some f)) f (some i) r=p r:=fun r h1 h2=>by rw [ZJ _ _ h1,ZJ _ _ h2]
 have sfv:YV (YV S f sf) i a f=sf:=by rw [ZJ _ _ fi,Yk]
 have si:YV (YV S f sf) i a i=a:=Yk _ _ _
 have sr:∀r,r≠f->r≠i->YV (YV S f sf) i a r=S r:=fun r h1 h2=>by rw [ZJ _ _ h2,ZJ _ _ h1]
 have nof:∀r q,i+1<=r->r<n->p r=some q->q≠f:=fun r q h1 h2 e z=>by
  have:=(t.up.inv r q h1 h2 e).2.2.2
  rw [z,f3] at this
  cases this
 generalize YV (YV p i (some f)) f (some i)=p' at *
 generalize YV (YV S f sf) i a=S' at *
 refine ⟨fun r h1 h2=>?_,fun r h1 h2=>?_,fun r q h1 h2 e=>?_,fun r q h1 h2 e lt=>?_,fun r h1 h2 c=>?_⟩
 ·by_cases z:r=i
  ·rw [z,si];exact t.la
  ·by_cases y:r=f
   ·rw [y,sfv];exact lbf
   ·rw [sr r y z];exact t.up.lb r (by lia) h2
 ·by_cases z:r=i
  ·rw [z,si];exact t.ba
  ·by_cases y:r=f
   ·rw [y,sfv];exact bdf
   ·rw [sr r y z];exact t.up.bd r (by lia) h2
 ·by_cases z:r=i
  ·rw [z,pi] at e
   cases e
   exact ⟨by lia,f2,by lia,by rw [z];exact pf⟩
  ·by_cases y:r=f
   ·rw [y,pf] at e
    cases e
    exact ⟨Nat.le_refl _,hi,by lia,by rw [y];exact pi⟩
   ·rw [pr r y z] at e
    obtain ⟨a1,a2,a3,a4⟩:=t.up.inv r q (by lia) h2 e
    exact ⟨by lia,a2,a3,by rw [pr q (nof r q (by lia) h2 e) (by lia)];exact a4⟩
 ·by_cases z:r=i
  ·rw [z,pi] at e
   cases e
   rw [z,si,sfv,ea]
  ·by_cases y:r=f
   ·rw [y,pf] at e
    cases e
    lia
   ·rw [pr r y z] at e
    obtain ⟨a1,a2,a3,a4⟩:=t.up.inv r q (by lia) h2 e
    rw [sr r y z,sr q (nof r q (by lia) h2 e) (by lia)]
    exact t.up.img r q (by lia) h2 e lt
 ·by_cases z:r=i
  ·have:=c f (by rw [z];exact pi)
   lia
  ·by_cases y:r=f
   ·rw [y,sfv,<- ea]
    have h3:Zy T n (Zy T n a)=Zy T n sf:=by rw [ea]
    rw [ea]
    have h4:Zy T n (Jn ((f::ls).map S))=0:=by
     show Zy T n (S f ^^^ Jn (ls.map S))=0
     rw [YY,zf,zl]
     rfl
    have h5:Jn ((f::ls).map S)=sf:=by rw [<- ea,t.eq,Nat.zero_xor]
    rwa [h5] at h4
   ·rw [sr r y z]
    exact t.up.ker r (by lia) h2 fun q e=>c q (by rw [pr r y z];exact e)
end L2
namespace L2
theorem Zez (T:Nat->Nat) (N v:Nat):∀n,n<=N->Zy T n (v % 2 ^ N)=Zy T n v
 | 0,_=>rfl
 | n+1,h=>by
  show (if (v % 2 ^ N).testBit n=true then T n else 0) ^^^ Zy T n (v % 2 ^ N)=(if v.testBit n=true then T n else 0) ^^^ Zy T n v
  rw [Zez T N v n (by omega),Nat.testBit_mod_two_pow,decide_eq_true (show n<N by omega),Bool.true_and]
theorem Up.cases {T:Nat->Nat}{n i:Nat}{S:Nat->Nat}{p:Nat->Option Nat} (U:Up T n i S p) {r:Nat} (h1:i<=r) (h2:r<n):(∃q,p r=some q/\r<q)∨(∀q,p r=some q->q<r):=by
 by_cases c:∃q,p r=some q/\r<q
 ·exact .inl c
 ·refine .inr fun q e=>?_
  have ne:=(U.inv r q h1 h2 e).2.2.1
  rcases Nat.lt_trichotomy q r with h | h | h
  ·exact h
  ·exact absurd h ne
  ·exact absurd ⟨q,e,h⟩ c
theorem Up.high {T:Nat->Nat}{n:Nat}{S:Nat->Nat}{p:Nat->Option Nat} (U:Up T n 0 S p) {r:Nat} (h:r<n):∀k,k<=r->(T r).testBit k=false:=by
 have e:=YJ T n r h
 have L:=U.low (n-r) (2 ^ r) r (Nat.le_refl _) (LB.pow r) (Nat.zero_le _) (Nat.pow_lt_pow_right (by decide) h)
 rw [e] at L
 intro k hk
 rcases U.cases (Nat.zero_le _) h with ⟨q,eq,lt⟩ | c
 ·obtain ⟨q',m,a,_,b,_,_,d⟩:=L.1 q eq lt
  exact a.2 k (by lia)
 ·rcases L.2 c with z | ⟨q',m,a,b,_,_,d⟩
  ·rw [z];exact Nat.zero_testBit k
  ·exact a.2 k (by lia)
theorem Up.sqr1 {T:Nat->Nat}{n:Nat}{S:Nat->Nat}{p:Nat->Option Nat} (U:Up T n 0 S p):∀(m v j:Nat),n-j<=m->LB v j->v<2 ^ n->Zy T n (Zy T n v)=0:=by
 intro m
 induction m with
 | zero=>
  intro v j hm x hv
  have:=x.lt hv
  lia
 | succ m ih=>
  intro v j hm x hv
  have jn:=x.lt hv
  have ls:=U.lb j (Nat.zero_le _) jn
  have hs:=U.bd j (Nat.zero_le _) jn
  have ev:v=S j ^^^ (v ^^^ S j):=by rw [Nat.xor_comm v,<- Nat.xor_assoc,Nat.xor_self,Nat.zero_xor]
  have z1:Zy T n (Zy T n (S j))=0:=by
   rcases U.cases (Nat.zero_le _) jn with ⟨q,e,lt⟩ | c
   ·obtain ⟨_,qn,_,e2⟩:=U.inv j q (Nat.zero_le _) jn e
    rw [U.img j q (Nat.zero_le _) jn e lt]
    exact U.ker q (Nat.zero_le _) qn fun q' e'=>by rw [e2] at e';cases e';exact lt
   ·rw [U.ker j (Nat.zero_le _) jn c,Yy]
  have z2:Zy T n (Zy T n (v ^^^ S j))=0:=by
   by_cases z:v ^^^ S j=0
   ·rw [z,Yy,Yy]
   ·obtain ⟨l,xl⟩:=LB.ex z
    have:=xl.from (x.clear ls)
    exact ih _ l (by lia) xl (Nat.xor_lt_two_pow hv hs)
  rw [ev,YY,YY,z1,z2]
  rfl
theorem Up.sqr {T:Nat->Nat}{n:Nat}{S:Nat->Nat}{p:Nat->Option Nat} (U:Up T n 0 S p) (v:Nat):Zy T n (Zy T n v)=0:=by
 rw [<- Zez T n v n (Nat.le_refl _)]
 by_cases z:v % 2 ^ n=0
 ·rw [z,Yy,Yy]
 ·obtain ⟨j,x⟩:=LB.ex z
  exact U.sqr1 (n-j) _ j (Nat.le_refl _) x (Nat.mod_lt _ (Nat.two_pow_pos n))
def cE (i j v:Nat):Nat:=v ^^^ (if v.testBit i=true then 2 ^ j else 0)
theorem Zd0 (i j:Nat):cE i j 0=0:=by simp [cE]
theorem GU {i j:Nat} (v k:Nat):(cE i j v).testBit k=(if k=j then (v.testBit k != v.testBit i) else v.testBit k):=by
 unfold cE
 rw [Nat.testBit_xor]
 by_cases e:k=j
 ·subst e
  rw [if_pos rfl]
  cases v.testBit i<;>simp [Nat.testBit_two_pow]
 ·rw [if_neg e]
  cases v.testBit i<;>simp [Nat.testBit_two_pow,Ne.symm e]
theorem Zmc (i j a b:Nat):cE i j (a ^^^ b)=cE i j a ^^^ cE i j b:=by
 apply Nat.eq_of_testBit_eq
 intro k
 rw [Nat.testBit_xor,GU,GU,GU,Nat.testBit_xor,Nat.testBit_xor]
 by_cases e:k=j
 ·rw [if_pos e,if_pos e,if_pos e]
  cases a.testBit k<;>cases b.testBit k<;>cases a.testBit i<;>cases b.testBit i<;>rfl
 ·rw [if_neg e,if_neg e,if_neg e]
theorem ZlY {i j:Nat} (h:i≠j) (v:Nat):cE i j (cE i j v)=v:=by
 apply Nat.eq_of_testBit_eq
 intro k
 rw [GU,GU,GU,if_neg h]
 by_cases e:k=j
 ·rw [if_pos e,if_pos e];cases v.testBit k<;>cases v.testBit i<;>rfl
 ·rw [if_neg e,if_neg e]
theorem Zm4 {i j v r:Nat} (h:i<j) (x:LB v r):LB (cE i j v) r:=by
 refine ⟨?_,fun k hk=>?_⟩
 ·rw [GU]
  by_cases e:r=j
  ·rw [if_pos e,x.1,x.2 i (by lia)];rfl
  ·rw [if_neg e];exact x.1
 ·rw [GU]
  by_cases e:k=j
  ·rw [if_pos e,x.2 k hk,x.2 i (by lia)];rfl
  ·rw [if_neg e];exact x.2 k hk
theorem Zm5 {i j v n:Nat} (hj:j<n) (h:v<2 ^ n):cE i j v<2 ^ n:=by
 unfold cE
 refine Nat.xor_lt_two_pow h ?_
 split
 ·exact Nat.pow_lt_pow_right (by decide) hj
 ·exact Nat.two_pow_pos n
def sT (T:Nat->Nat) (i j:Nat):Nat->Nat:=fun r=>cE i j (if r=i then T i ^^^ T j else T r)
theorem Zf3 (T:Nat->Nat) (i j:Nat):∀(n v:Nat),Zy (fun r=>cE i j (T r)) n v=cE i j (Zy T n v)
 | 0,v=>(Zd0 i j).symm
 | n+1,v=>by
  show (if v.testBit n=true then cE i j (T n) else 0) ^^^ Zy (fun r=>cE i j (T r)) n v=cE i j ((if v.testBit n=true then T n else 0) ^^^ Zy T n v)
  rw [Zf3 T i j n v,Zmc]
  cases v.testBit n
  ·rw [if_neg Bool.false_ne_true,if_neg Bool.false_ne_true,Zd0]
  ·rw [if_pos rfl,if_pos rfl]
theorem Zey (T:Nat->Nat) (i w:Nat):∀(n v:Nat),Zy (fun r=>if r=i then T i ^^^ w else T r) n v=Zy T n v ^^^ (if i<n/\v.testBit i=true then w else 0)
 | 0,v=>by simp [Zy]
 | n+1,v=>by
  show (if v.testBit n=true then (if n=i then T i ^^^ w else T n) else 0) ^^^ Zy (fun r=>if r=i then T i ^^^ w else T r) n v=((if v.testBit n=true then T n else 0) ^^^ Zy T n v) ^^^ _
  rw [Zey T i w n v]
  by_cases e:n=i
  ·subst e
   rw [if_pos rfl,if_neg (show ¬(n<n/\v.testBit n=true) from fun z=>absurd z.1 (Nat.lt_irrefl _))]
   cases hb:v.testBit n
   ·simp
   ·simp
    rw [Nat.xor_assoc,Nat.xor_assoc,Nat.xor_comm w]
  ·rw [if_neg e]
   by_cases c:i<n/\v.testBit i=true
   ·rw [if_pos c,if_pos (show i<n+1/\v.testBit i=true from ⟨by lia,c.2⟩),Nat.xor_assoc]
   ·rw [if_neg c,if_neg (show ¬(i<n+1/\v.testBit i=true) from fun z=>c ⟨by lia,z.2⟩),Nat.xor_zero,Nat.xor_zero]
theorem Zb3 {T:Nat->Nat}{i j n:Nat} (h:i<j) (hj:j<n) (v:Nat):Zy (sT T i j) n (cE i j v)=cE i j (Zy T n v):=by
 have e1:∀u,Zy (fun r=>if r=i then T i ^^^ T j else T r) n u=Zy T n (cE i j u):=fun u=>by
  rw [Zey,cE,YY]
  by_cases c:u.testBit i=true
  ·rw [if_pos ⟨by lia,c⟩,if_pos c,YJ T n j hj]
  ·rw [if_neg (fun z=>c z.2),if_neg c,Yy]
 have e2:=Zf3 (fun r=>if r=i then T i ^^^ T j else T r) i j n (cE i j v)
 show Zy (fun r=>cE i j (if r=i then T i ^^^ T j else T r)) n (cE i j v)=_
 rw [e2,e1,ZlY (by lia)]
theorem Up.slide {T:Nat->Nat}{n i j:Nat}{S:Nat->Nat}{p:Nat->Option Nat} (U:Up T n 0 S p) (h:i<j) (hj:j<n):Up (sT T i j) n 0 (fun r=>cE i j (S r)) p where
 lb:=fun r h1 h2=>Zm4 h (U.lb r h1 h2)
 bd:=fun r h1 h2=>Zm5 hj (U.bd r h1 h2)
 inv:=U.inv
 img:=fun r q h1 h2 e lt=>by rw [Zb3 h hj,U.img r q h1 h2 e lt]
 ker:=fun r h1 h2 c=>by rw [Zb3 h hj,U.ker r h1 h2 c,Zd0]
open PySem PySem.Spec PyProof.Rows
section
variable {X:Cx}{tg:Expr}
theorem ZmM:PIp X .BitOr (ipI fun i j=>Builtin.bitOr i j):=by
 intro pins s σ H x y v u Q I r1 r2 ⟨i,j,e1,e2,q⟩
 subst e1 e2
 obtain ⟨t,rfl⟩:=r1
 obtain ⟨t',rfl⟩:=r2
 exact ior_int ⟨.int _,H,I.tok _,⟨_,rfl⟩,q⟩
theorem Zd7:PIp X .BitXor (ipI fun i j=>Builtin.bitXor i j):=by
 intro pins s σ H x y v u Q I r1 r2 ⟨i,j,e1,e2,q⟩
 subst e1 e2
 obtain ⟨t,rfl⟩:=r1
 obtain ⟨t',rfl⟩:=r2
 exact ixor_int ⟨.int _,H,I.tok _,⟨_,rfl⟩,q⟩
def ZmE:V->List V->Hp->VK->Prop:=fun x vs H Q=>∃i:Int,x = .int i/\vs = []/\Q (.int (Builtin.Int.intBits i:Nat)) H
theorem ZjU:MtR X "int.bit_length" ZmE:=by
 intro pins s σ H x vs v us Q I rx rv h
 obtain ⟨i,rfl,rfl,q⟩:=h
 obtain ⟨t,rfl⟩:=rx
 have hus:=rv.zero
 subst hus
 exact call_int_bit_length ⟨.int _,H,I.tok _,⟨_,rfl⟩,q⟩
end
section
variable {prog:Program}{w:World}{A:Around}{E:Value->Shared->Prop}{s:Shared}
def Zfj (n:Nat):Obj:={ cls:=.type "range_iterator", data:=.fields #[rawInt ((n:Int)-1),rawInt n,rawInt (-1)] }
theorem Zf8 (n:Nat):Builtin.Range.rangeSize 0 n 1=n:=by
 unfold Builtin.Range.rangeSize
 rw [if_pos (by decide)]
 split
 ·simp
 ·lia
theorem Zfn (r:Addr) (a b c:Int) (t u v:Tok) (hc0:¬(!(Builtin.Range.rangeFitsLong a&&Builtin.Range.rangeFitsLong b&&Builtin.Range.rangeFitsLong c&&Builtin.Range.rangeFitsLong (-c)&&Builtin.Range.rangeFitsLong (a-c)&&Builtin.Range.rangeFitsLong (Builtin.Range.rangeSize a b c)))=true):
  Meets (Builtin.«range.__reversed__» ⟨[.ref r],[]⟩) (fun _ R s=>IsRange s.heap r a b c t u v/\R (.ok (.ret (Value.ref s.heap.objs.size))) { s with heap:=s.heap.push { cls:=.type (if (Builtin.Range.rangeFitsLong a&&Builtin.Range.rangeFitsLong b&&Builtin.Range.rangeFitsLong c&&Builtin.Range.rangeFitsLong (-c)&&Builtin.Range.rangeFitsLong (a-c)&&Builtin.Range.rangeFitsLong (Builtin.Range.rangeSize a b c))=true then "range_iterator" else "longrange_iterator"),data:=.fields #[rawInt (a+(Builtin.Range.rangeSize a b c-1)*c),rawInt (Builtin.Range.rangeSize a b c),rawInt (-c)] } }):=
 .of_wp fun prog w A R s h=>by obtain ⟨hp,g,d,tk,os⟩:=s;obtain ⟨hl,h⟩:=h;wp_walk;exact ⟨_,rfl,h⟩
theorem ZhL {r:Addr}{n:Nat}{t u v:Tok}{Q:Value->Shared->Prop} (hn:n<100000) (hr:IsRange s.heap r 0 n 1 t u v) (h:Q (.ref s.heap.objs.size) { s with heap:=s.heap.push (Zfj n) }):
  wpAny (model prog w) A (call (.builtin "range.__reversed__") [.ref r]) Q E s:=by
 have sm:(Builtin.Range.rangeFitsLong 0&&Builtin.Range.rangeFitsLong n&&Builtin.Range.rangeFitsLong 1&&Builtin.Range.rangeFitsLong (-1)&&Builtin.Range.rangeFitsLong (0-1)&&Builtin.Range.rangeFitsLong (Builtin.Range.rangeSize 0 n 1))=true:=by
  rw [Zf8,YN (i:=0) (by decide) (by decide),YN (i:=(n:Int)) (by lia) (by lia),YN (i:=1) (by decide) (by decide),YN (i:=-1) (by decide) (by decide),YN (i:=0-1) (by decide) (by decide)]
  rfl
 refine call_meets F.slot_range_reversed ⟨_,hr,rfl⟩ F.entry_range_reversed (F.args_range_reversed_1 _) (Zfn r 0 n 1 t u v (by rw [sm];decide)) ⟨hr,?_⟩
 rw [if_pos sm,Zf8,show (0:Int)+((n:Int)-1)*1=(n:Int)-1 by lia]
 exact h
theorem Zi7 {r:Addr}{n:Nat}{t u v:Tok}{Q₁:Value->Shared->Prop} (hn:n<100000) (hr:IsRange s.heap r 0 n 1 t u v) (h:Q₁ (.ref s.heap.objs.size) { s with heap:=s.heap.push (Zfj n) }):
  codeAny (model prog w) A (.call (.builtin "reversed.__new__") ⟨[.type "reversed", .ref r],[]⟩) (wants Q₁ E) s:=by
 have ty:s.TypeIs (.ref r) "range" := ⟨_,hr,rfl⟩
 refine codeAny_of_tree (show wpAny _ A.in1 (do checkBuiltinCall "reversed.__new__" ⟨[.type "reversed", .ref r],[]⟩;again (.builtin "reversed.__new__" ⟨[.type "reversed", .ref r],[]⟩)) _ _ s from ?_)
 refine wpAny_bind (wpAny_of_eq (F.newCall_reversed_1 (.ref r)) (wpAny_pure ⟨plainId_quiet F.plain_reversed_new _,codeAny_builtin F.entry_reversed_new ?_⟩));rw [Around.under_plainId F.plain_reversed_new _];unfold Builtin.«reversed.__new__»
 refine wpAny_bind (wpAny_of_eq (newClass_reversed (.ref r)) ?_);try dsimp only
 refine wpAny_bind (wpAny_of_eq (a:=()) (by first | rfl | kernel_rfl) (wpAny_bind (wpAny_of_eq (a:=()) (by first | rfl | kernel_rfl) ?_)));try dsimp only
 refine wpAny_bind (wpAny_specialOf ty F.slot_range_reversed.lookup ?_);try dsimp only
 refine wpAny_bind (wpAny_of_eq (F.slot_range_reversed.bind _) ?_);try dsimp only
 have nn:¬((Value.builtin "range.__reversed__" == Value.none)=true):=Bool.false_ne_true
 rw [if_neg nn]
 refine wpAny_bind (wpAny_rule (wpAny_bind (m:=runValue (.call (.builtin "range.__reversed__") ⟨[.ref r],[]⟩)) (show wpAny _ _ (call (.builtin "range.__reversed__") [.ref r]) _ _ _ from ZhL hn hr ?_)))
 first
  | exact wpAny_pure h
  | exact wpAny_bind (wpAny_pure (wpAny_pure h))
theorem Zew:isSubtype (.type "range_iterator") (.type "reversed")=pure false:=by rw [isSubtype_type];kernel_rfl
theorem Zha {r:Addr}{n:Nat}{t u v:Tok}{Q:Value->Shared->Prop} (hn:n<100000) (hr:IsRange s.heap r 0 n 1 t u v) (h:Q (.ref s.heap.objs.size) { s with heap:=s.heap.push (Zfj n) }):
  wpAny (model prog w) A (call (.type "reversed") [.ref r]) Q E s:=by
 refine callType_other (U := "range_iterator") (Q₁:=fun obj s₁=>obj = .ref s.heap.objs.size/\s₁ = { s with heap:=s.heap.push (Zfj n) }) (by decide +kernel) F.create_reversed ⟨_,_,F.mro_reversed⟩ F.made_reversed Zew (F.typeCall_reversed_1 (.ref r)) (Zi7 hn hr ⟨rfl,rfl⟩) ?_
 rintro obj s₁ ⟨rfl,rfl⟩
 exact ⟨⟨_,Heap.get?_push_size _ rfl,rfl⟩,h⟩
end
section
variable {X:Cx}{tg:Expr}
def ZnN (ta:TA):TI:=fun σ H R=>ta σ H fun vs H1=>∃(r:Addr) (n:Nat),vs = [.ref r]/\H1 r=some (.rng 0 n)/\n<100000/\R (ZhG ((n:Int)-1) n) H1
theorem ZjJ {a:Expr}{ta:TA}{p pos:Pos} (hg:Gl X "reversed") (hm:X.mg "reversed" = none) (ha:PA X [a] ta) (hs:starEach [a] X.env = [(false,eval a X.env)]:=by rfl):PI X tg (.Call (.Name "reversed" p) [a] [] pos) (ZnN ta):=by
 intro pins s σ H R I h
 refine Call_ (GI I hg hm boot_reversed (PyProof.Rows.callWith_type1 (YR (ha pos pins s σ H _ I h) fun us s1 ⟨vs,H1,I1,r1,q1⟩=>?_) hs rfl))
 obtain ⟨r,n,rfl,hH,hn,q⟩:=q1
 obtain ⟨u,rfl,ru⟩:=r1.one
 cases ru
 obtain ⟨t,u,v,e⟩:=(show Yp X.prog X.w H1 s1.heap r (.rng 0 n) from I1.hok r _ hH)
 have I2:Inv X pins σ H1 { s1 with heap:=s1.heap.push (Zfj n) }:=I1.kept (t':=s1.toks) fun b o e=>Heap.get?_push_of_some _ e
 have at':(s1.heap.push (Zfj n)).get? s1.heap.objs.size=some (Zfj n):=Heap.get?_push_size _ rfl
 refine Zha hn e (wpAny_pyIter_rangeiter (x:=(n:Int)-1) (left:=n) (step:=-1) at' ?_)
 refine ⟨s1.heap.objs.size,[s1.heap.objs.size],_,_,H1,rfl,I2,ZeZ _ ((n:Int)-1) n,?_,fun b hb=>?_,q⟩
 ·show IsRangeIter _ _ (((n:Int)-1)+((0:Nat):Int)*(-1)) (((n:Nat):Int)-((0:Nat):Int)) (-1)
  rw [show ((n:Int)-1)+((0:Nat):Int)*(-1)=(n:Int)-1 by simp,show ((n:Nat):Int)-((0:Nat):Int)=n by simp]
  exact at'
 ·have e:b=s1.heap.objs.size:=by simpa using hb
  subst e
  exact I1.fpOk (Nat.le_refl _) (I1.hok.fresh (Nat.le_refl _))
def Zj6 (P:Program) (w:World) (K:PySem.W.Frag) (mg:Str->Option Value) (base:Heap) (k:Nat) (C:Addr) (ps:List Str) (sp:Sp):Prop:=
 ∃(f:Addr) (fd:FuncData),Ys P w K mg base W3 k f fd ps sp/\Mk K C f/\Binds K fd ps []
theorem Zgv {k:Nat}{C:Addr}{x:Str}{ps:List Str}{sp:Sp}{e:Expr}{es:List Expr}{t:TA}{p pos:Pos} (h:Zj6 X.prog X.w X.K X.mg X.base k C ps sp) (hr:J1 (k+1) X.A) (hg:Gl X x) (hm:X.mg x=some (.ref C))
  (ha:PA X (e::es) t) (hdb:(x==("__debug__" : Str))=false:=by decide) (he:starEach (e::es) X.env=(false,eval e X.env)::starEach es X.env:=by rfl) (hpl:(backTo pos (starEach es X.env)).any (·.1)=false:=by rfl):
  PE X (.Call (.Name x p) (e::es) [] pos) (Zk5 C sp [] E0 t):=by
 obtain ⟨f,fd,G,M,hb⟩:=h
 exact Zkp M G hr hg hm hb .nil ZiI ha hdb he hpl
end
end L2
namespace L2
open PySem PyProof.Rows
theorem Zkh:∀(n a b:Nat),a<=n->(a ^^^ b)+2*(a &&& b)=a+b:=by
 intro n
 induction n with
 | zero=>
  intro a b h
  rw [show a=0 by omega]
  simp
 | succ n ih=>
  intro a b h
  by_cases z:a=0
  ·rw [z];simp
  ·have i:=ih (a / 2) (b / 2) (by omega)
   have d1:(a ^^^ b) / 2=a / 2 ^^^ b / 2:=Nat.xor_div_two
   have d2:(a &&& b) / 2=a / 2 &&& b / 2:=Nat.and_div_two
   have m1:(a ^^^ b) % 2=(a % 2) ^^^ (b % 2):=Nat.xor_mod_two_pow (n:=1)
   have m2:(a &&& b) % 2=(a % 2) &&& (b % 2):=Nat.and_mod_two_pow (n:=1)
   have key:((a % 2) ^^^ (b % 2))+2*((a % 2) &&& (b % 2))=a % 2+b % 2:=by
    have ha:a % 2=0∨a % 2=1:=by omega
    have hb:b % 2=0∨b % 2=1:=by omega
    rcases ha with ha | ha<;>rcases hb with hb | hb<;>rw [ha,hb]<;>rfl
   rw [<- d1,<- d2] at i
   rw [<- m1,<- m2] at key
   omega
theorem ZiB (a b:Nat):Builtin.bitXor ((a:Nat):Int) ((b:Nat):Int)=((a ^^^ b:Nat):Int):=by
 rw [bitXor_and,bitAnd_pp (by lia) (by lia)]
 have:=Zkh a a b (Nat.le_refl _)
 show (a:Int)+b-2*((a &&& b:Nat):Int)=_
 lia
theorem or8:∀j,j<8 -> ∀m,m<2 ^ j -> ∀b,b<2->Builtin.bitOr ((m:Nat):Int) (((b:Nat):Int)*2 ^ j)=((m+b*2 ^ j:Nat):Int):=by decide +kernel
def ZcW (m:Nat):Nat:=Nat.log2 (m &&& ((256-m) % 256))
theorem lb8:∀m,m<256->m≠0->(m.testBit (ZcW m)=true/\(∀k,k<ZcW m->m.testBit k=false)):=by decide +kernel
theorem Zl7:∀m,m<256->m≠0->((Builtin.Int.intBits (Builtin.bitAnd ((m:Nat):Int) (-((m:Nat):Int))):Nat):Int)-1=((ZcW m:Nat):Int):=by decide +kernel
theorem Zk8 {m:Nat} (h:m<256) (z:m≠0):LB m (ZcW m):=lb8 m h z
def ZfF (n v:Nat):List Int:=(List.range n).map fun j=>(((v.testBit j).toNat:Nat):Int)
theorem Zh3 (n v:Nat):(ZfF n v).length=n:=by simp [ZfF]
theorem Zkm {n v j:Nat} (h:j<n):(ZfF n v)[j]? = some (((v.testBit j).toNat:Nat):Int):=by simp [ZfF,h]
def Zb1 (v:Nat):Nat->Nat
 | 0=>0
 | j+1=>Zb1 v j+(v.testBit j).toNat*2 ^ j
theorem ZaY (v:Nat):∀j,Zb1 v j=v % 2 ^ j
 | 0=>by show 0=v % 1;omega
 | j+1=>by
  show Zb1 v j+(v.testBit j).toNat*2 ^ j=v % 2 ^ (j+1)
  rw [ZaY v j,Nat.mod_pow_succ,Nat.toNat_testBit,Nat.mul_comm]
theorem Zhj {v n:Nat} (h:v<2 ^ n):Zb1 v n=v:=by rw [ZaY,Nat.mod_eq_of_lt h]
theorem ZiL (v j:Nat):Zb1 v j<2 ^ j:=by rw [ZaY];exact Nat.mod_lt _ (Nat.two_pow_pos j)
section
variable {X:Cx}
theorem JY {K:PySem.W.Frag}{e:Expr}{f:Str}{ta:TE}{pos:Pos} (hk:X.K=K) (h:PE X (.Attribute e f pos) (ZlU X.K ta f)):PE X (.Attribute e f pos) (ZlU K ta f):=hk ▸ h
theorem ZgN {K:PySem.W.Frag}{o value:Expr}{f:Str}{ta tv:TE}{pos pos':Pos} (hk:X.K=K) (h:PS X (.Assign [.Attribute o f pos'] value pos) (Zlr X.K ta tv f)):PS X (.Assign [.Attribute o f pos'] value pos) (Zlr K ta tv f):=hk ▸ h
theorem Za4 {K:PySem.W.Frag}{a:Expr}{ta:TE} (hk:X.K=K) (h:PT X a (fun σ H Q=>ta σ H fun x H'=>∃k,Zkf X.K x H' k/\Q k H')):PT X a (fun σ H Q=>ta σ H fun x H'=>∃k,Zkf K x H' k/\Q k H'):=hk ▸ h
def Zk6 (K:PySem.W.Frag):V->V->Hp->VK->Prop:=fun x y H Q=>∃(p:Addr) (xs:List V) (j:Nat) (v:V),x = .ref p/\y = .int j/\Zu K H p xs/\xs[j]? = some v/\Q v H
theorem Ziz:ZlA X (Zk6 X.K):=by
 intro pins s σ H o i ov iv Q I ro ri h
 obtain ⟨p,xs,j,v,rfl,rfl,hq,hx,q⟩:=h
 cases ro
 obtain ⟨t,rfl⟩:=ri
 obtain ⟨its,r,pl,hz⟩:=I.list hq
 obtain ⟨w,ew,rw'⟩:=r.get hx
 have hj:j<its.length:=(List.getElem?_eq_some_iff.mp ew).1
 have hl:=r.length
 have hn:=Zbj
 refine wpAny_getItem_list pl.isList (by lia) (by rw [sizeLine_eq] at *;lia) (by simpa using ew) ⟨v,H,I,rw',q⟩
theorem Zde {K:PySem.W.Frag} (hk:X.K=K):ZlA X (Zk6 K):=hk ▸ Ziz
end
section
variable {X:Cx}
theorem Zhd (hc:X.calm=true):JD X (.builtin "any") (fun xs H Q=>∃(p:Addr) (ns:List Int),xs = [.ref p]/\Zu X.K H p (ns.map V.int)/\Q (.bl ((ns.map (· != 0)).any id)) H):=by
 intro pins s σ H xs us Q I r h
 obtain ⟨p,ns,rfl,hq,q⟩:=h
 obtain ⟨bs,hbs⟩:∃bs,bs=ns.map (· != 0):=⟨_,rfl⟩
 rw [<- hbs] at q
 have lb:bs.length=ns.length:=by rw [hbs,List.length_map]
 obtain ⟨u,rfl,ru⟩:=r.one
 cases ru
 obtain ⟨its,rv,pl,hz⟩:=I.list hq
 have hlen:bs.length=its.length:=by rw [lb];simpa using rv.length
 have hh:X.A.in1.handled=none:=I.ok.hd hc
 have hp:p<s.heap.objs.size:=by
  obtain ⟨o,ho,_⟩:=pl.isList
  exact Heap.lt_size ho
 refine call_any_walk (wpAny_pyIter_list pl.isList ?_)
 refine ⟨s.heap.objs.size,_,_,_,_,_,fun i=>bs.getD i false,rfl,Walks.list hh s.heap.objs.size p (Nat.ne_of_lt hp) its.toArray,⟨⟨_,Heap.get?_push_size _ rfl,rfl,rfl⟩,?_⟩,fun i v s2 Q2 E2 hv hq2=>?_,fun h' tk kk=>?_⟩
 ·obtain ⟨o,ho,r⟩:=pl.isList
  exact ⟨o,Heap.get?_push_of_some _ ho,r⟩
 ·have hv':its[i]? = some v:=by simpa using hv
  have hi:i<bs.length:=by rw [hlen];exact (List.getElem?_eq_some_iff.mp hv').1
  obtain ⟨w,hw,rw'⟩:=rv.get (i:=i) (x:=.int (ns.getD i 0)) (by simp [show i<ns.length by lia])
  rw [hv'] at hw
  cases hw
  obtain ⟨t,rfl⟩:=rw'
  refine PyProof.Rows.truthy_int ?_
  have e:bs.getD i false=(ns.getD i 0 != 0):=by
   have hi2:i<ns.length:=by lia
   rw [hbs];simp [hi2]
  rw [<- e]
  exact hq2
 ·have hk:∀b o,s.heap.get? b=some o->h'.get? b=some o:=fun b o e=>kk b o (fun z=>by
   have z':b=s.heap.objs.size:=by simpa using z
   exact Nat.lt_irrefl _ (z' ▸ Heap.lt_size e)) (Heap.get?_push_of_some _ e)
  refine ⟨.bl (bs.any id),H,I.kept (t':=tk) hk,?_,q⟩
  have e:its.toArray.size=bs.length:=by rw [List.size_toArray,hlen]
  rw [e,range_any]
  rfl
theorem ZfD {K:PySem.W.Frag} (h:X.K=K) (hc:X.calm=true):JD X (.builtin "any") (fun xs H Q=>∃(p:Addr) (ns:List Int),xs = [.ref p]/\Zu K H p (ns.map V.int)/\Q (.bl ((ns.map (· != 0)).any id)) H):=h ▸ Zhd hc
end
structure UL (N:List Str) (osc scope:Scope) (Ls Fs:List Str) (fi:List Nat):Prop where
 kind:scope.kind = .function
 cells:∀y∈scope.names,y.2 = .cell->scope.names.lookup y.1=some .cell
 names:∀y∈scope.names,y.2 = .local->scope.names.lookup y.1=some .local
 fre:∀x∈Fs,scope.names.lookup x=some .free
 all:∀y∈scope.names,y.2 = .free->osc.names.lookup y.1=some .cell∨osc.names.lookup y.1=some .free
 ix:fi.map (fun i=>N[i]?)=Fs.map some
def ZdA (N:List Str) (osc scope:Scope) (Fs:List Str) (fi:List Nat):Bool:=
 (scope.kind == .function)&&scope.names.all (fun y=>y.2 != .cell||scope.names.lookup y.1==some .cell)&&scope.names.all (fun y=>y.2 != .local||scope.names.lookup y.1==some .local)&&Fs.all (fun x=>scope.names.lookup x==some .free) &&
  scope.names.all (fun y=>y.2 != .free||osc.names.lookup y.1==some .cell||osc.names.lookup y.1==some .free)&&(fi.map (fun i=>N[i]?)==Fs.map some)
theorem UL.of {N:List Str}{osc scope:Scope}{Ls Fs:List Str}{fi:List Nat} (h:ZdA N osc scope Fs fi=true):UL N osc scope Ls Fs fi:=by
 simp only [ZdA,Bool.and_eq_true,List.all_eq_true,Bool.or_eq_true,bne_iff_ne,beq_iff_eq] at h
 obtain ⟨⟨⟨⟨⟨h1,h2⟩,h3⟩,h4⟩,h5⟩,h6⟩:=h
 refine ⟨h1,fun y hy hl=>(h2 y hy).elim (fun z=>absurd hl z) id,fun y hy hl=>(h3 y hy).elim (fun z=>absurd hl z) id,h4,fun y hy hf=>?_,h6⟩
 rcases h5 y hy with (z | z) | z
 ·exact absurd hf z
 ·exact .inl z
 ·exact .inr z
def Gv (X:Cx) (scope:Scope) (N:List Str) (cs:List (Str×Addr)) (C:Addr) (s3:Shared) (H3:Hp) (ex:List Addr):Cx:=
 { X with N:=N,s₀:=s3,H₀:=H3,env:=compEnvC scope cs C X.env,outer:=X.stack,stack:=X.stack,ex:=ex,fn:=fun x=>scope.names.lookup x==some .cell,pn:=[],xe:=fun _ _=>False }
theorem Zdy:∀(names:List (Str×NameKind)) (h:Heap) (acc:List (Str×Addr)) (x:Str) (c:Addr),(cellsFrom h.objs.size names acc).lookup x=some c->acc.lookup x=some c∨(h.objs.size<=c/\(pushCells h names).IsCell c none)
 | [],h,acc,x,c,e=>.inl e
 | (n,k)::r,h,acc,x,c,e=>by
  unfold cellsFrom at e
  unfold pushCells
  split at e
  ·rename_i hk
   rw [if_pos hk]
   have ih:=Zdy r (h.push { cls:=.type "cell", data:=.cell none }) ((n,h.objs.size)::acc) x c (by rw [Heap.size_push];exact e)
   rw [Heap.size_push] at ih
   rcases ih with ih | ⟨ih,q⟩
   ·rw [List.lookup_cons] at ih
    cases hx:x==n with
    | true=>
     rw [hx] at ih
     have:h.objs.size=c:=Option.some.inj ih
     subst this
     exact .inr ⟨Nat.le_refl _,pushCells_keeps _ _ _ _ (Heap.get?_push_size _ rfl) |> fun z=>⟨_,z,rfl⟩⟩
    | false=>rw [hx] at ih;exact .inl ih
   ·exact .inr ⟨Nat.le_of_succ_le ih,q⟩
  ·rename_i hk
   rw [if_neg hk]
   exact Zdy r h acc x c e
theorem ZbW:∀(names:List (Str×NameKind)) (n:Nat) (acc:List (Str×Addr)) (x:Str),(∀y∈names,y.2 = .cell->y.1≠x)->(cellsFrom n names acc).lookup x=acc.lookup x
 | [],_,_,_,_=>rfl
 | (m,k)::r,n,acc,x,h=>by
  unfold cellsFrom
  split
  ·rename_i hk
   have hk':k = .cell:=by simpa using hk
   rw [ZbW r _ _ x fun y hy=>h y (List.mem_cons_of_mem _ hy),List.lookup_cons]
   have:(x==m)=false:=beq_eq_false_iff_ne.mpr (Ne.symm (h (m,k) List.mem_cons_self hk'))
   rw [this]
  ·exact ZbW r _ _ x fun y hy=>h y (List.mem_cons_of_mem _ hy)
theorem ZdG:∀(names:List (Str×NameKind)) (n:Nat) (acc:List (Str×Addr)) (x:Str),((∃c,acc.lookup x=some c)∨(x,NameKind.cell)∈names) -> ∃c,(cellsFrom n names acc).lookup x=some c
 | [],_,_,_,h=>h.elim id fun h=>(nomatch h)
 | (m,k)::r,n,acc,x,h=>by
  unfold cellsFrom
  split
  ·refine ZdG r _ _ x ?_
   rcases h with ⟨c,h⟩ | h
   ·rw [List.lookup_cons]
    cases hx:x==m with
    | true=>exact .inl ⟨_,rfl⟩
    | false=>exact .inl ⟨c,h⟩
   ·rcases List.mem_cons.mp h with e | h
    ·cases e;exact .inl ⟨n,by rw [List.lookup_cons,beq_self_eq_true]⟩
    ·exact .inr h
  ·rename_i hk
   refine ZdG r _ _ x ?_
   rcases h with h | h
   ·exact .inl h
   ·rcases List.mem_cons.mp h with e | h
    ·cases e;exact absurd rfl hk
    ·exact .inr h
theorem Zfx:∀(names:List (Str×NameKind)) (n:Nat) (acc:List (Str×Addr)) (x:Str),(x,NameKind.cell)∈names -> ∀c,(cellsFrom n names acc).lookup x=some c->n<=c
 | (m,k)::r,n,acc,x,h,c,e=>by
  by_cases hr:(x,NameKind.cell)∈r
  ·unfold cellsFrom at e
   split at e
   ·exact Nat.le_of_succ_le (Zfx r _ _ x hr c e)
   ·exact Zfx r _ _ x hr c e
  ·rcases List.mem_cons.mp h with q | q
   ·cases q
    unfold cellsFrom at e
    rw [if_pos (by rfl),ZbW r _ _ m (fun y hy hk z=>hr (by rw [<- z,<- hk];exact hy)),List.lookup_cons,beq_self_eq_true] at e
    exact Nat.le_of_eq (Option.some.inj e)
   ·exact absurd q hr
theorem ZfM:∀(names:List (Str×NameKind)) (n:Nat) (acc:List (Str×Addr)),(∀x c,acc.lookup x=some c -> @LT.lt Nat _ c n)->(∀x y c,acc.lookup x=some c->acc.lookup y=some c->x=y) ->
  ∀x y c,(cellsFrom n names acc).lookup x=some c->(cellsFrom n names acc).lookup y=some c->x=y
 | [],_,_,_,h=>h
 | (m,k)::r,n,acc,hb,h=>by
  unfold cellsFrom
  split
  ·refine ZfM r _ _ (fun x c e=>?_) fun x y c e1 e2=>?_
   ·rw [List.lookup_cons] at e
    cases hx:x==m with
    | true=>rw [hx] at e;cases e;exact Nat.lt_succ_self _
    | false=>rw [hx] at e;exact Nat.lt_succ_of_lt (hb x c e)
   ·rw [List.lookup_cons] at e1 e2
    cases hx:x==m with
    | true=>
     rw [hx] at e1
     have e1':n=c:=Option.some.inj e1
     cases hy:y==m with
     | true=>rw [beq_iff_eq.mp hx,beq_iff_eq.mp hy]
     | false=>rw [hy] at e2;exact absurd (hb y c e2) (by rw [e1'];exact Nat.lt_irrefl _)
    | false=>
     rw [hx] at e1
     cases hy:y==m with
     | true=>
      rw [hy] at e2
      have e2':n=c:=Option.some.inj e2
      exact absurd (hb x c e1) (by rw [e2'];exact Nat.lt_irrefl _)
     | false=>rw [hy] at e2;exact h x y c e1 e2
  ·exact ZfM r _ _ hb h
theorem Zbz {env:Env}:∀{names:List (Str×NameKind)}{x:Str},
    ((names.map fun (n,k)=>if (k==NameKind.free&&env.scope.kind == .function&&env.kindOf n==some .cell) then (n,NameKind.cell) else (n,k)).lookup x=some .cell ∨
     (names.map fun (n,k)=>if (k==NameKind.free&&env.scope.kind == .function&&env.kindOf n==some .cell) then (n,NameKind.cell) else (n,k)).lookup x=some .free)->(∃y∈names,y.1=x/\y.2 = .free)∨(x,NameKind.cell)∈names
  | [],_,h=>by simp at h
  | (n,k)::r,x,h=>by
    have ih:=@Zbz env r x
    cases hx:x==n with
    | true=>
      have e:x=n:=by simpa using hx
      subst e
      by_cases hb:(k==NameKind.free&&env.scope.kind == .function&&env.kindOf x==some .cell)=true
      · have:k = .free:=by
          simp only [Bool.and_eq_true,beq_iff_eq] at hb
          exact hb.1.1
        exact .inl ⟨(x,k),List.mem_cons_self,rfl,this⟩
      · simp only [List.map_cons,if_neg hb,List.lookup_cons,hx] at h
        rcases h with h | h
        · have:k = .cell:=Option.some.inj h
          subst this
          exact .inr List.mem_cons_self
        · exact .inl ⟨(x,k),List.mem_cons_self,rfl,Option.some.inj h⟩
    | false=>
      have h':((r.map fun (n,k)=>if (k==NameKind.free&&env.scope.kind == .function&&env.kindOf n==some .cell) then (n,NameKind.cell) else (n,k)).lookup x=some .cell ∨
        (r.map fun (n,k)=>if (k==NameKind.free&&env.scope.kind == .function&&env.kindOf n==some .cell) then (n,NameKind.cell) else (n,k)).lookup x=some .free):=by
        by_cases hb:(k==NameKind.free&&env.scope.kind == .function&&env.kindOf n==some .cell)=true
        · simpa only [List.map_cons,if_pos hb,List.lookup_cons,hx] using h
        · simpa only [List.map_cons,if_neg hb,List.lookup_cons,hx] using h
      rcases ih h' with ⟨y,hy,z⟩ | hy
      · exact .inl ⟨y,List.mem_cons_of_mem _ hy,z⟩
      · exact .inr (List.mem_cons_of_mem _ hy)
theorem ZcR {M:Model}{A:Around}{E:Value->Shared->Prop}{s:Shared}{scope:Scope}{globals:Addr}{closure:List (Str×Addr)}{qual:Str}{func:Option Addr}{code:Value}{outer:Env}{builtins:Addr}{Q:Env->Shared->Prop}
  (hQ:∀h',h'=pushCells (s.heap.push { cls:=.type "dict", data:=.dict #[] }) scope.names->h'.Ns s.heap.objs.size (fun _=>none)->(∀b o,s.heap.get? b=some o->h'.get? b=some o) ->
   Q (newEnv scope s.heap.objs.size globals (cellsFrom (s.heap.objs.size+1) scope.names closure) qual func code (some outer) builtins) { s with heap:=h' }):
  wpAny M A (newFunctionEnv scope globals closure [] qual func code (some outer) builtins) Q E s:=by
 simp only [newFunctionEnv,Option.isSome_some,if_true]
 refine wpAny_bind (wpAny_alloc ?_)
 refine wpAny_bind (wpAny_layCells _ (fun name kind cells=>by cases hkc:kind==NameKind.cell<;>simp [hkc]) _ _ _ _ ?_)
 rw [show ({ s with heap:=s.heap.push { cls:=.type "dict", data:=.dict #[] } }:Shared).heap.objs.size=s.heap.objs.size+1 from Heap.size_push ..]
 refine wpAny_bind ?_
 rw [List.forIn_nil]
 exact wpAny_pure (wpAny_pure (hQ _ rfl ((Heap.Ns.new s.heap (.type "dict")).keeps (pushCells_keeps _ _)) fun b o e=>pushCells_keeps _ _ b o (Heap.get?_push_of_some _ e)))
section
variable {X:Cx}{pins:List (Addr×Obj)} {σ:St}{tg elt iter:Expr}{ifs:List Expr}{scope:Scope}{pos:Pos}{Ls Fs:List Str}{fi:List Nat}{g:TG}{tc:TT}{te:TE}
theorem Zhh {H2:Hp}{s2:Shared}{it:Addr}{fp:List Addr}{tn:Nat->Heap->Prop}{J:It}{cl:List (Str×Addr)}{Q:VK}{E:Value->Shared->Prop}{RR:Value->Addr->Result->Shared->Prop}
  (S:UL X.N X.env.scope scope Ls Fs fi) (hc:X.calm=true)
  (hb:∀cs C s3 H3 ex,PG (Gv X scope (Ls++Fs) cs C s3 H3 ex) tg g/\PTs (Gv X scope (Ls++Fs) cs C s3 H3 ex) ifs tc/\PE (Gv X scope (Ls++Fs) cs C s3 H3 ex) elt te)
  (hcl1:∀x c,cl.lookup x=some c->X.env.cells.lookup x=some c) (hcl2:∀y∈scope.names,y.2 = .free -> ∃c,cl.lookup y.1=some c)
  (I2:Inv X pins σ H2 s2) (T:Turn X.prog X.w X.K tg J fp it tn) (st2:tn 0 s2.heap) (f2:∀b∈fp,U7 X pins H2 b)
  (hW:∃W:Nat->Nat->List V->Hp->Prop,(∃m,W 0 m [] H2) /\ ∀i m ys H,W i m ys H ->
   (J.stop i H/\ys.length<=sizeLine /\ ∀D,H D=none->Q (.ref D) (upd H D (.lst ys))) ∨
   (J.go i H/\ys.length<=sizeLine /\ ∃N:List V->Hp->Prop,(∀ys' H',N ys' H' -> ∃m',m'<m/\W (i+1) m' ys' H') /\ ∀x H',J.yld i H x H'->g x (WZ Ls.length fi σ) H' fun σ2 H2=>
    tc σ2 H2 fun b H3=>if b=true then te σ2 H3 fun y H4=>N (ys ++ [y]) H4 else N ys H3))
  (fin:∀D C H' s' m,Inv X pins σ H' s'->Q (.ref D) H'->s'.heap.Ns C m->U7 X pins H' C->RR (.ref D) C (.ok .next) s'):
  wpAny (model X.prog X.w) X.A (newList []) (fun acc s₃=>wpAny (model X.prog X.w) X.A (newFunctionEnv scope X.env.globals cl [] X.env.qual none .none (some X.env)) (fun cenv s₄=>
   codeAny (model X.prog X.w) X.A (.compStart (.ListComp elt [⟨tg,iter,ifs,0⟩] scope pos) 0 (.ref it) acc { cenv with scope:=relabel scope X.env }) (RR acc cenv.locals) s₄) E s₃) E s2:=by
 refine wpAny_newObj_type (ZcR (fun h₁ eh₁ hns₁ k34=>?_))
 dsimp only at eh₁ hns₁ k34 ⊢
 generalize hH3:s2.heap.push { cls:=.type "list", dict:=none,data:=.seq ([]:List Value).toArray } = h3 at eh₁ hns₁ k34 ⊢
 generalize hC:h3.objs.size=C at hns₁ ⊢
 generalize hcs:cellsFrom (C+1) scope.names cl=cs
 generalize hD:s2.heap.objs.size=D
 have hCD:C=D+1:=by rw [<- hC,<- hH3,Heap.size_push,hD]
 have k23:∀b o,s2.heap.get? b=some o->h3.get? b=some o:=fun b o e=>by rw [<- hH3];exact Heap.get?_push_of_some _ e
 have hDo:h3.get? D=some { cls:=.type "list", data:=.seq ([]:List Value).toArray }:=by rw [<- hH3,<- hD];exact Heap.get?_push_size _ rfl
 obtain ⟨W,⟨m0,w0⟩,turn⟩:=hW
 have I3:Inv X pins σ H2 { s2 with heap:=h3 }:=I2.kept (t':=s2.toks) k23
 have frD:H2 D=none:=by rw [<- hD];exact I2.fresh
 have frC:H2 C=none:=I2.hok.fresh (by lia)
 have DL:D≠X.env.locals:=Nat.ne_of_gt (by have:@LT.lt Nat _ X.env.locals s2.heap.objs.size:=I2.lt;lia)
 have CL:C≠X.env.locals:=Nat.ne_of_gt (by have:@LT.lt Nat _ X.env.locals s2.heap.objs.size:=I2.lt;lia)
 have cellLt:∀x c,X.env.cells.lookup x=some c -> @LT.lt Nat _ c D:=fun x c e=>by
  obtain ⟨v,q⟩:=I2.cell x c e
  have:@LT.lt Nat _ c s2.heap.objs.size:=q.lt
  lia
 have fpLt:∀b∈fp,@LT.lt Nat _ b D:=fun b hb=>by
  obtain ⟨o,e,_⟩:=T.obj _ _ st2 b hb
  have:=aLt e
  lia
 have exLoc:∀b∈D::fp,b≠C/\(∀x c,X.env.cells.lookup x=some c->c≠b):=fun b hb=>by
  rcases List.mem_cons.mp hb with e | hb
  ·subst e
   exact ⟨Nat.ne_of_lt (by lia),fun x c e=>Nat.ne_of_lt (cellLt x c e)⟩
  ·exact ⟨Nat.ne_of_lt (by have:=fpLt b hb;lia),(f2 b hb).2.2.2.2.1⟩
 have cs1:∀x c,cs.lookup x=some c->cl.lookup x=some c∨(@LT.lt Nat _ C c/\h₁.IsCell c none):=fun x c e=>by
  rw [<- hcs] at e
  have hz:(h3.push { cls:=.type "dict", data:=.dict #[] }:Heap).objs.size=C+1:=by rw [Heap.size_push,hC]
  have q:=Zdy scope.names (h3.push { cls:=.type "dict", data:=.dict #[] }) cl x c (by rw [hz];exact e)
  rw [hz,<- eh₁] at q
  rcases q with q | ⟨q1,q2⟩
  ·exact .inl q
  ·exact .inr ⟨q1,q2⟩
 have clLt:∀x c,cl.lookup x=some c -> @LT.lt Nat _ c D:=fun x c e=>cellLt x c (hcl1 x c e)
 have csNe:∀b∈D::fp,∀x c,cs.lookup x=some c->c≠b:=fun b hb x c e=>by
  rcases cs1 x c e with q | ⟨q,_⟩
  ·exact (exLoc b hb).2 x c (hcl1 x c q)
  ·refine Nat.ne_of_gt ?_
   rcases List.mem_cons.mp hb with z | z
   ·subst z;lia
   ·have:=fpLt b z;lia
 have csKeep:∀x,scope.names.lookup x=some .free->cs.lookup x=cl.lookup x:=fun x hx=>by
  rw [<- hcs]
  exact ZbW _ _ _ _ fun y hy hk e=>by
   have:=S.cells y hy hk
   rw [e,hx] at this;cases this
 have ok':(Gv X scope (Ls++Fs) cs C { s2 with heap:=h3 } H2 (D::fp)).Ok:=by
  refine ⟨I2.ok.mod,S.kind,I2.ok.glob,I2.ok.blt,?_,fun x y c e1 e2=>?_,fun x hx=>?_,fun x c hx e=>?_,I2.ok.hd,I2.ok.frames,.inl rfl,
   fun b hb=>⟨(exLoc b hb).1,csNe b hb⟩,I3.bs,Nat.le_trans I2.ok.bsz I3.sz,fun b o e hb=>?_,fun b hb=>?_,I3.stack,I3.stkFree⟩
  ·show h3.objs.size<=C
   lia
  ·refine ZfM scope.names (C+1) cl (fun x c e=>?_) (fun x y c e1 e2=>I2.ok.inj x y c (hcl1 x c e1) (hcl1 y c e2)) x y c (by rw [hcs];exact e1) (by rw [hcs];exact e2)
   have:=clLt x c e;lia
  ·rcases Zbz hx with ⟨y,hy,e1,e2⟩ | hy
   ·obtain ⟨c,q⟩:=hcl2 y hy e2
    show ∃c,cs.lookup x=some c
    rw [<- hcs]
    exact ZdG _ _ _ _ (.inl ⟨c,e1 ▸ q⟩)
   ·show ∃c,cs.lookup x=some c
    rw [<- hcs]
    exact ZdG _ _ _ _ (.inr hy)
  ·show h3.objs.size<=c
   have hx':scope.names.lookup x=some .cell:=by simpa [Gv] using hx
   have e':(cellsFrom (C+1) scope.names cl).lookup x=some c:=by rw [hcs];exact e
   have:=Zfx _ _ _ _ (PySem.mem_of_lookup hx') c e'
   lia
  ·rcases List.mem_cons.mp hb with z | hb
   ·exact absurd z (Nat.ne_of_lt (by have:=aLt (I2.bk b o e);lia))
   ·rcases (f2 b hb).2.2.2.1 with z | z
    ·exact I2.ok.noex b o e z
    ·have h1:@LT.lt Nat _ b X.base.objs.size:=aLt e
     have h2:@LE.le Nat _ X.base.objs.size X.s₀.heap.objs.size:=I2.ok.bsz
     have h3:@LE.le Nat _ X.s₀.heap.objs.size b:=z
     lia
  ·intro hz
   have hz':=I2.stkSub b hz
   rcases List.mem_cons.mp hb with e | hb
   ·subst e
    rcases List.mem_cons.mp hz' with z | z
    ·exact DL z
    ·exact I2.nofs (by lia) z
   ·rcases List.mem_cons.mp hz' with z | z
    ·exact (f2 b hb).2.1 z
    ·exact (f2 b hb).2.2.1 z
 obtain ⟨m2,hn2,hl2⟩:=id I2.loc
 have cap:∀(i:Nat) (x:Str) (v:V),(Ls++Fs)[i]? = some x->(WZ Ls.length fi σ)[i]? = some (some v) -> ∃u c,RelV v u/\((relabel scope X.env).names.lookup x=some .cell∨(relabel scope X.env).names.lookup x=some .free) /\
   cs.lookup x=some c/\X.env.cells.lookup x=some c/\s2.heap.IsCell c (some u):=by
  intro i x v e1 e2
  unfold WZ at e2
  by_cases hi:i<Ls.length
  ·rw [List.getElem?_append_left (by simpa using hi),List.getElem?_replicate,if_pos hi] at e2
   cases e2
  ·have hi':Ls.length<=i:=Nat.le_of_not_lt hi
   rw [List.getElem?_append_right hi'] at e1
   rw [List.getElem?_append_right (by simpa using hi'),List.length_replicate,List.getElem?_map] at e2
   cases e3:fi[i-Ls.length]? with
   | none=>rw [e3] at e2;cases e2
   | some j=>
    rw [e3] at e2
    have e4:σ.getD j none=some v:=Option.some.inj e2
    have e5:X.N[j]? = some x:=by
     have q:=congrArg (fun l=>l[i-Ls.length]?) S.ix
     simp only [List.getElem?_map,e3,e1,Option.map_some] at q
     exact Option.some.inj q
    have e6:σ[j]? = some (some v):=by
     rw [List.getD_eq_getElem?_getD] at e4
     cases e7:σ[j]? with
     | none=>rw [e7] at e4;cases e4
     | some z=>rw [e7] at e4;exact congrArg some e4
    have fx:=S.fre x (List.mem_of_getElem? e1)
    have al:=S.all (x,.free) (PySem.mem_of_lookup fx) rfl
    have vis:Vis X.env.scope x:=by
     rcases al with z | z
     ·exact .inr (.inl z)
     ·exact .inr (.inr z)
    obtain ⟨u,ru,lk⟩:=hl2 j x v e5 e6 vis
    rcases lk with ⟨k,_⟩ | ⟨k,c,ec,hcell⟩
    ·have k':X.env.scope.names.lookup x=some .local:=k
     rcases al with z | z
     ·rw [show X.env.scope.names.lookup x=some .cell from z] at k';cases k'
     ·rw [show X.env.scope.names.lookup x=some .free from z] at k';cases k'
    ·obtain ⟨c',ec'⟩:=hcl2 (x,.free) (PySem.mem_of_lookup fx) rfl
     have:c'=c:=Option.some.inj ((hcl1 x c' ec').symm.trans ec)
     subst this
     exact ⟨u,c',ru,GP fx,(csKeep x fx).trans ec',ec,hcell⟩
 have capLen:(WZ Ls.length fi σ).length=(Ls++Fs).length:=by
  unfold WZ
  have q:=congrArg List.length S.ix
  simp only [List.length_map] at q
  rw [List.length_append,List.length_replicate,List.length_map,List.length_append,q]
 have re:∀{ps:List (Addr×Obj)} {σ':St}{H':Hp}{s':Shared},Inv (Gv X scope (Ls++Fs) cs C { s2 with heap:=h3 } H2 (D::fp)) ps σ' H' s'->Inv (Gv X scope (Ls++Fs) cs C { s2 with heap:=h3 } H2 (D::fp)) ps (WZ Ls.length fi σ) H' s':=by
  intro ps σ' H' s' J'
  refine ⟨J'.ok,J'.os,J'.bare,J'.base,?_,J'.cell,J'.free,J'.freeC,J'.pin,J'.hok,capLen⟩
  obtain ⟨m,hn,_⟩:=J'.loc
  refine ⟨m,hn,fun i x v e1 e2 _=>?_⟩
  obtain ⟨u,c,ru,kk,ec,ec2,o,ho,hd⟩:=cap i x v e1 e2
  obtain ⟨sl,q⟩:=J'.base.any (k23 c o ho) (I2.freeC x c ec2) fun z=>(exLoc c z).2 x c ec2 rfl
  exact ⟨u,ru,.inr ⟨kk,c,ec,_,q,hd⟩⟩
 have I4:Inv (Gv X scope (Ls++Fs) cs C { s2 with heap:=h3 } H2 (D::fp)) [(D,{ cls:=.type "list", data:=.seq ([]:List Value).toArray })] (WZ Ls.length fi σ) H2 { s2 with heap:=h₁ }:=by
  refine ⟨ok',rfl,I2.bare,Un.kept k34,⟨_,hns₁,fun i x v e1 e2 _=>?_⟩,fun x c e=>?_,frC,fun x c e=>?_,fun p hp=>?_,I2.hok.kept fun b o e=>k34 b o (k23 b o e),capLen⟩
  ·obtain ⟨u,c,ru,kk,ec,ec2,o,ho,hd⟩:=cap i x v e1 e2
   exact ⟨u,ru,.inr ⟨kk,c,ec,o,k34 c o (k23 c o ho),hd⟩⟩
  ·rcases cs1 x c e with q | ⟨_,q⟩
   ·obtain ⟨v,o,ho,hd⟩:=I2.cell x c (hcl1 x c q)
    exact ⟨v,o,k34 c o (k23 c o ho),hd⟩
   ·exact ⟨none,q⟩
  ·rcases cs1 x c e with q | ⟨q,_⟩
   ·exact I2.freeC x c (hcl1 x c q)
   ·exact I2.hok.fresh (by lia)
  ·have hp':p=(D,{ cls:=.type "list", data:=.seq ([]:List Value).toArray }):=by
    have:p∈([]:List (Addr×Obj)) ++ [(D,{ cls:=.type "list", data:=.seq ([]:List Value).toArray })]:=hp
    simpa using this
   subst hp'
   refine ⟨k34 D _ hDo,frD,Nat.ne_of_lt (show @LT.lt Nat _ D C by lia),fun z=>?_,fun v z=>by cases z⟩
   rcases List.mem_cons.mp (I2.stkSub D z) with z | z
   ·exact DL z
   ·exact I2.nofs (by lia) z
 obtain ⟨hg,ht,he⟩:=hb cs C { s2 with heap:=h3 } H2 (D::fp)
 have back:∀{ps:List (Addr×Obj)} {σ':St}{H':Hp}{s':Shared}{ys:List V}{its:List Value}{n:Nat},Inv (Gv X scope (Ls++Fs) cs C { s2 with heap:=h3 } H2 (D::fp)) ps σ' H' s'->s'.heap.get? D=some { cls:=.type "list", data:=.seq its.toArray n } ->
   H' D=none->Vals ys its->ys.length<=sizeLine->Inv X pins σ (upd H' D (.lst ys)) s'/\U7 X pins (upd H' D (.lst ys)) C:=by
  intro ps σ' H' s' ys its n J' hDs hDn rv hz
  have neD:∀b o,s2.heap.get? b=some o->b≠D:=fun b o e=>Nat.ne_of_lt (by have:=aLt e;lia)
  have nex:∀b,b∉fp->b≠D->b∉D::fp:=fun b h1 h2 z=>(List.mem_cons.mp z).elim h2 h1
  have U:Un (frs X.stack) fp H2 (upd H' D (.lst ys)) s2.heap s'.heap:=by
   refine ⟨fun b o e n hb hx=>J'.base.keep b o (k23 b o e) n hb (nex b hx (neD b o e)),fun b o e n hb hx=>J'.base.slot b o (k23 b o e) n hb (nex b hx (neD b o e)),fun b o e n hx=>?_,fun b o e hx=>J'.base.there b o (k23 b o e) (nex b hx (neD b o e)),fun b xs e=>?_,fun b o u e=>?_,fun b ps e=>?_⟩
   ·rw [Zi (neD b o e)]
    exact J'.base.free b o (k23 b o e) n (nex b hx (neD b o e))
   ·rw [Zi (Zf e frD)]
    exact J'.base.tups b xs e
   ·rw [Zi (Zf e frD)]
    exact J'.base.frzs b o u e
   ·obtain ⟨more,q⟩:=J'.base.tbls b ps e
    exact ⟨more,by rw [Zi (Zf e frD)];exact q⟩
  have hok':Uv X.prog X.w (upd H' D (.lst ys)) s'.heap:=fun b u q=>by
   by_cases hbD:b=D
   ·subst hbD
    rw [Zb] at q
    cases q
    exact ⟨hz,its,n,rv,hDs⟩
   ·rw [Zi hbD] at q
    exact (J'.hok b u q).stay (fun c v _ r=>r) (fun c r=>by rw [Zi (Zf r hDn)];exact r) fun c xs r=>by rw [Zi (Zf r hDn)];exact r
  refine ⟨I2.call' J'.os U hok' J'.bare fun b hb=>⟨(f2 b hb).2.2.2.1,(f2 b hb).2.1,(f2 b hb).2.2.2.2.1,(f2 b hb).2.2.2.2.2⟩,?_⟩
  refine ⟨by rw [Zi (Nat.ne_of_gt (by lia))];exact J'.free,CL,I2.nofs (by lia),.inr (by have:=I2.sz;lia),fun x c e=>Nat.ne_of_lt (by have:=cellLt x c e;lia),fun p hp=>?_⟩
  have:=aLt (I2.pin p hp).1
  exact Nat.ne_of_lt (by lia)
 have loop:codeAny (model X.prog X.w) X.A (.compLoop (.ListComp elt [⟨tg,iter,ifs,0⟩] scope pos) 0 (.ref it) (.ref D) (compEnvC scope cs C X.env)) (RR (.ref D) C) { s2 with heap:=h₁ }:=by
  refine Zdi (fun n s'=>∃(i:Nat) (ys:List V) (H':Hp) (its:List Value) (k:Nat),Inv (Gv X scope (Ls++Fs) cs C { s2 with heap:=h3 } H2 (D::fp)) [(D,{ cls:=.type "list", data:=.seq its.toArray k })] (WZ Ls.length fi σ) H' s' /\
   Vals ys its/\tn i s'.heap/\(∀b∈fp,H' b=none)/\W i n ys H') ?_ m0 ⟨0,[],H2,[],0,I4,.nil,T.keep _ _ _ st2 fun b _ o e=>k34 b o (k23 b o e),fun b hb=>(f2 b hb).1,w0⟩
  rintro n s5 ⟨i,ys,H5,its,k,I5,rv,st5,fr5,w5⟩
  have stat:∀{H':Hp}{its':List Value}{k':Nat},(∀b∈fp,H' b=none) -> ∀b∈fp,U7 (Gv X scope (Ls++Fs) cs C { s2 with heap:=h3 } H2 (D::fp)) [(D,{ cls:=.type "list", data:=.seq its'.toArray k' })] H' b:=fun hn b hb=>by
   refine ⟨hn b hb,(exLoc b (List.mem_cons_of_mem _ hb)).1,fun z=>ok'.exfs b (List.mem_cons_of_mem _ hb) z,.inl (List.mem_cons_of_mem _ hb),csNe b (List.mem_cons_of_mem _ hb),fun p hp=>?_⟩
   have hp':p=_:=List.mem_singleton.mp hp
   rw [hp']
   have:=fpLt b hb
   show D≠b
   exact Nat.ne_of_gt this
  have pinD:=I5.pin (D,{ cls:=.type "list", data:=.seq its.toArray k }) (List.mem_singleton.mpr rfl)
  rcases turn i n ys H5 w5 with ⟨stop,hz,qn⟩ | ⟨go,hz,N,hN,step⟩
  ·refine wpAny_mono (T.done (Gv X scope (Ls++Fs) cs C { s2 with heap:=h3 } H2 (D::fp)) rfl rfl rfl hc i _ s5 _ H5 _ I5 (stat fr5) st5 stop) (fun r s6 ⟨hr,I6⟩=>?_) fun _ _ h=>h
   subst hr
   have pin6:=I6.pin (D,{ cls:=.type "list", data:=.seq its.toArray k }) (List.mem_singleton.mpr rfl)
   obtain ⟨b1,b2⟩:=back I6 pin6.1 pin6.2.1 rv hz
   obtain ⟨m,hn,_⟩:=I6.loc
   exact fin D C _ s6 m b1 (qn D pin6.2.1) hn b2
  ·refine wpAny_mono (T.item (Gv X scope (Ls++Fs) cs C { s2 with heap:=h3 } H2 (D::fp)) rfl rfl rfl hc i _ s5 _ H5 _ I5 (stat fr5) st5 go) (fun r s6 ⟨u,hr,h6⟩=>?_) fun _ _ h=>h
   subst hr
   refine wpAny_mono h6 (fun _ s7 ⟨x,H7,I7,r7,y7,st7,fr7⟩=>?_) fun _ _ h=>h
   have I7':=I7.pinned (stat fr7) (T.obj _ _ st7)
   refine wpAny_mono (hg _ s7 _ H7 x u _ I7' r7 (step x H7 y7)) (fun _ s8 ⟨σ8,H8,I8,q8⟩=>?_) fun _ _ h=>h
   refine wpAny_mono (ht _ s8 σ8 H8 _ I8 q8) (fun ok s9 ⟨H9,I9,q9⟩=>?_) fun _ _ h=>h
   have keepT:∀{σ':St}{H':Hp}{s':Shared},Inv (Gv X scope (Ls++Fs) cs C { s2 with heap:=h3 } H2 (D::fp)) ([(D,{ cls:=.type "list", data:=.seq its.toArray k })]++Zbf fp s7.heap) σ' H' s'->tn (i+1) s'.heap /\ ∀b∈fp,H' b=none:=by
    intro σ' H' s' J'
    refine ⟨T.keep _ _ _ st7 fun b hb o e=>(J'.pin (b,o) (List.mem_append_right _ (List.mem_append_right _ (J3 hb e)))).1,fun b hb=>?_⟩
    obtain ⟨o,e,d⟩:=T.obj _ _ st7 b hb
    exact (J'.pin (b,o) (List.mem_append_right _ (List.mem_append_right _ (J3 hb e)))).2.1
   cases ok with
   | false=>
    rw [if_neg Bool.false_ne_true] at q9 ⊢
    obtain ⟨m',hm,w'⟩:=hN _ _ q9
    exact ⟨m',hm,i+1,ys,H9,its,k,re I9.unpinned,rv,(keepT I9).1,(keepT I9).2,w'⟩
   | true=>
    rw [if_pos rfl] at q9 ⊢
    refine wpAny_mono (he _ s9 σ8 H9 _ I9 q9) (fun v s10 ⟨y,H10,I10,r10,q10⟩=>?_) fun _ _ h=>h
    obtain ⟨m',hm,w'⟩:=hN _ _ q10
    obtain ⟨k10,f10⟩:=keepT I10
    have I11:Inv (Gv X scope (Ls++Fs) cs C { s2 with heap:=h3 } H2 (D::fp)) [(D,{ cls:=.type "list", data:=.seq its.toArray k })] (WZ Ls.length fi σ) H10 s10:=re I10.unpinned
    have pin11:=I11.pin (D,{ cls:=.type "list", data:=.seq its.toArray k }) (List.mem_singleton.mpr rfl)
    refine wpAny_list_append_plain ⟨k,pin11.1⟩ (fun h' hp' sb=>?_) (by rw [List.size_toArray,<- rv.length];exact hz)
    obtain ⟨k',hk'⟩:=hp'
    have e1:its.toArray.push v=(its ++ [v]).toArray:=by simp
    rw [e1] at hk'
    have I12:Inv (Gv X scope (Ls++Fs) cs C { s2 with heap:=h3 } H2 (D::fp)) [] (WZ Ls.length fi σ) H10 { s10 with heap:=h',toks:=s10.toks }:=
     (I11.pins_of (pins':=[]) fun p hp=>(nomatch hp)).turned (it:=D) (fun b o hb e=>(sb.2 b hb).trans e) pin11.2.1 pin11.2.2.1 (.inl List.mem_cons_self) (csNe D List.mem_cons_self) fun p hp=>(nomatch hp)
    have I13:Inv (Gv X scope (Ls++Fs) cs C { s2 with heap:=h3 } H2 (D::fp)) [(D,{ cls:=.type "list", data:=.seq (its ++ [v]).toArray k' })] (WZ Ls.length fi σ) H10 { s10 with heap:=h',toks:=s10.toks }:=I12.pins_of fun p hp=>by
     have hp':p=_:=List.mem_singleton.mp hp
     subst hp'
     exact ⟨hk',pin11.2.1,pin11.2.2.1,pin11.2.2.2.1,fun v z=>by cases z⟩
    refine ⟨m',hm,i+1,ys ++ [y],H10,its ++ [v],k',I13,rv.append (.cons r10 .nil),?_,f10,w'⟩
    exact T.keep _ _ _ k10 fun b hb o e=>(sb.2 b (Nat.ne_of_lt (fpLt b hb))).trans e
 exact codeAny_compStart_list loop (T.self _ 0 _ _ _ (T.keep _ _ _ st2 fun b _ o e=>k34 b o (k23 b o e)) loop)
theorem ZlR {wi:TI}{i:Nat}{x:Str}{pos' spos:Pos} (hN:X.N.Nodup) (hi':X.N[i]? = some x) (hx:Loc X.env.scope x) (S:UL X.N X.env.scope scope Ls Fs fi) (hc:X.calm=true) (hi:PI X tg iter wi)
  (hb:∀cl C s3 H3 ex,PG (Gv X scope (Ls++Fs) cl C s3 H3 ex) tg g/\PTs (Gv X scope (Ls++Fs) cl C s3 H3 ex) ifs tc/\PE (Gv X scope (Ls++Fs) cl C s3 H3 ex) elt te)
  (hsw:swapsWith (.ListComp elt [⟨tg,iter,ifs,0⟩] scope pos) (some (.Name x pos')) spos.line X.env=pure true:=by rfl)
  (hs:∀x,foldedSetIterable iter X.env x=pure x:=by intro _;rfl) (hf:X.fn x=true∨X.env.scope.names.lookup x=some .local:=by first | exact .inl rfl | exact .inr rfl | assumption):
  PS X (.Assign [.Name x pos'] (.ListComp elt [⟨tg,iter,ifs,0⟩] scope pos) spos) (Zg9 (tLc Ls.length fi wi g tc te) (W0 i)):=by
 intro pins s σ H D' I h
 rw [exec_Assign_Name_used _ _ _ _ hsw]
 obtain ⟨cl,hcl,hcl1,hcl2⟩:=Zdx (scope:=scope) (env:=X.env) fun y hy hf=>I.ok.has y.1 (S.all y hy hf)
 refine wpAny_bind (wpAny_standAt (wpAny_bind ?_))
 show wpAny _ X.A (do let _ <- comprehension (.ListComp elt [⟨tg,iter,ifs,0⟩] scope pos) scope X.env _ (newList []) false (eval iter X.env) (some (assign (.Name x pos') X.env))) _ _ s
 refine wpAny_bind (wpAny_mono (wpAny_comprehension_free (use:=some (assign (.Name x pos') X.env)) (Q:=fun _ s'=>SP X pins D' .next s') rfl hs hcl S.kind S.names
  (wpAny_mono (hi pins s σ H _ I h) (fun v s1 h1=>wpAny_mono h1 (fun itv s2 h2=>?_) fun _ _ e=>e) fun _ _ e=>e)) (fun _ s' hq=>wpAny_pure (wpAny_pure hq)) fun _ _ e=>e)
 obtain ⟨it,fp,tn,J,H2,e,I2,T,st2,f2,hW⟩:=h2
 subst e
 refine Zhh (RR:=fun acc C=>compPost (model X.prog X.w) X.A X.xe (some (assign (.Name x pos') X.env)) (fun _ s'=>SP X pins D' .next s') acc C) (Q:=fun x H1=>W0 i x σ H1 D'.nx) S hc hb hcl1 hcl2 I2 T st2 f2 hW fun D C H' s' m I' q hn f=>?_
 obtain ⟨f0,f1,f2,f3,f4,f5⟩:=f
 show wpAny _ X.A (assign (.Name x pos') X.env (.ref D)) _ _ _
 refine wpAny_assign_Name (ZaV I' hN hi' hx (v:=.ref D) rfl (fun s'' I'' hch=>?_) hf)
 obtain ⟨a,sb,ha⟩:=hch
 have hCa:C≠a:=by
  rcases ha with z | z
  ·rw [z];exact f1
  ·exact (f4 x a z).symm
 exact ⟨m,hn.sameBut sb hCa,fun h' hs'=>⟨_,H',I''.turned (it:=C) (t':=s''.toks) (fun b o hb e=>(hs'.2 b hb).trans e) f0 f1 f3 f4 f5,q⟩⟩
end
def NR (H G:Hp) (F:Nat->List V) (i:Nat) (zs:List V):Prop:=Zh H G /\ ∃ts:List Addr,zs=ts.map V.ref/\ts.length=i/\ts.Nodup/\(∀r∈ts,H r=none) /\ ∀r q,ts[r]? = some q->G q=some (.lst (F r))
theorem NR.nil (H:Hp) (F:Nat->List V):NR H H F 0 []:=⟨Zh.refl _,[],rfl,rfl,.nil,(fun _ h=>nomatch h),(fun r q h=>by simp at h)⟩
theorem NR.len {H G:Hp}{F:Nat->List V}{i:Nat}{zs:List V} (x:NR H G F i zs):zs.length<=i:=by
 obtain ⟨_,ts,rfl,l,_⟩:=x
 rw [List.length_map,l];exact Nat.le_refl _
theorem NR.step {H G G':Hp}{F:Nat->List V}{i:Nat}{zs:List V}{q:Addr} (x:NR H G F i zs) (s:Zh G G') (hq:G q=none) (e:G' q=some (.lst (F i))):NR H G' F (i+1) (zs ++ [.ref q]):=by
 obtain ⟨sG,ts,rfl,lt,nd,fr,at'⟩:=x
 refine ⟨sG.trans s,ts ++ [q],by simp,by rw [List.length_append,lt];rfl,?_,fun r hr=>?_,fun r u hu=>?_⟩
 ·refine List.nodup_append.mpr ⟨nd,by simp,fun y hy z hz=>?_⟩
  rw [List.mem_singleton.mp hz]
  obtain ⟨r,hr,rfl⟩:=List.getElem_of_mem hy
  exact Zf (at' r _ (List.getElem?_eq_getElem hr)) hq
 ·rcases List.mem_append.mp hr with h | h
  ·exact fr r h
  ·rw [List.mem_singleton.mp h];exact sG.free hq
 ·by_cases c:r<ts.length
  ·rw [List.getElem?_append_left c] at hu
   exact s _ _ (at' r u hu)
  ·rw [List.getElem?_append_right (by lia)] at hu
   have e0:r-ts.length=0:=by
    have:=(List.getElem?_eq_some_iff.mp hu).1
    simp at this
    lia
   rw [e0] at hu
   cases hu
   rw [show r=i by lia]
   exact e
theorem NR.done {H G:Hp}{F:Nat->List V}{n:Nat}{zs:List V}{D:Addr} (x:NR H G F n zs) (hD:G D=none):Zh H (upd G D (.lst zs))/\H D=none /\ ∃ts:List Addr,zs=ts.map V.ref/\ts.length=n/\ts.Nodup/\D∉ts/\(∀r∈ts,H r=none)/\upd G D (.lst zs) D=some (.lst (ts.map V.ref)) /\ ∀r q,ts[r]? = some q->upd G D (.lst zs) q=some (.lst (F r)):=by
 obtain ⟨sG,ts,rfl,lt,nd,fr,at'⟩:=x
 refine ⟨sG.step hD,sG.free hD,ts,rfl,lt,nd,fun h=>?_,fr,Zb,fun r q e=>(Zh.laid hD) _ _ (at' r q e)⟩
 obtain ⟨r,hr,e⟩:=List.getElem_of_mem h
 have:=at' r _ (List.getElem?_eq_getElem hr)
 rw [e,hD] at this
 cases this
def ZT (n:Nat) (f:Nat->Int):List V:=((List.range n).map f).map V.int
theorem Z9 (n:Nat) (f:Nat->Int):(ZT n f).length=n:=by simp [ZT]
theorem Jb {n i:Nat} (f:Nat->Int) (h:i<n):(ZT n f)[i]? = some (V.int (f i)):=by simp [ZT,h]
theorem Gu {n i:Nat}{f:Nat->Int}{x:V} (h:(ZT n f)[i]? = some x):i<n/\x=V.int (f i):=by
 have hi:i<n:=by have:=(List.getElem?_eq_some_iff.mp h).1;rwa [Z9] at this
 rw [Jb f hi] at h
 exact ⟨hi,(Option.some.inj h).symm⟩
theorem Zda {n i:Nat} (f:Nat->Int) (h:i<n):(ZT n f).take i ++ [V.int (f i)]=(ZT n f).take (i+1):=by
 rw [List.take_add_one,Jb f h];rfl
theorem ZeL (n:Nat) (f:Nat->Int):(ZT n f).take n=ZT n f:=List.take_of_length_le (by rw [Z9];exact Nat.le_refl _)
end L2
namespace L2
def Gr (L:List Nat) (v:Nat):Prop:=∀P:Nat->Prop,P 0->(∀a b,P a->P b->P (a ^^^ b))->(∀x∈L,P x)->P v
theorem Gr.zero (L:List Nat):Gr L 0:=fun _ h _ _=>h
theorem Gr.xor {L:List Nat}{a b:Nat} (x:Gr L a) (y:Gr L b):Gr L (a ^^^ b):=fun P h0 h1 h2=>h1 _ _ (x P h0 h1 h2) (y P h0 h1 h2)
theorem Gr.mem {L:List Nat}{a:Nat} (h:a∈L):Gr L a:=fun _ _ _ h2=>h2 a h
theorem Gr.le {L M:List Nat} (h:∀x∈L,Gr M x) {v:Nat} (x:Gr L v):Gr M v:=x (Gr M) (Gr.zero _) (fun _ _=>Gr.xor) h
def Ld (L:List Nat) (j:Nat):Prop:=∃v,Gr L v/\LB v j
theorem Ld.nil {j:Nat} (h:Ld [] j):False:=by
 obtain ⟨v,s,l⟩:=h
 exact l.nz (s (· = 0) rfl (fun a b ha hb=>by rw [ha,hb];rfl) (fun _ h=>nomatch h))
theorem Ld.le {L M:List Nat} (h:∀x∈L,Gr M x) {j:Nat} (x:Ld L j):Ld M j:=let ⟨v,s,l⟩:=x;⟨v,s.le h,l⟩
theorem Ld.skip {L:List Nat}{j:Nat}:Ld (L ++ [0]) j ↔ Ld L j:=
 ⟨Ld.le fun x hx=>by
  rcases List.mem_append.mp hx with h | h
  ·exact Gr.mem h
  ·rw [List.mem_singleton.mp h];exact Gr.zero _,Ld.le fun x hx=>Gr.mem (List.mem_append_left _ hx)⟩
def clr (x at' y:Nat):Nat:=if y.testBit at'=true then y ^^^ x else y
theorem ZgF (a b:Nat):a ^^^ b ^^^ b=a:=by rw [Nat.xor_assoc,Nat.xor_self,Nat.xor_zero]
theorem Zgw {L:List Nat}{x a u:Nat} (hx:LB x a) (s:Gr (L.map (clr x a)) u):u.testBit a=false:=by
 refine s (fun u=>u.testBit a=false) (Nat.zero_testBit _) (fun p q hp hq=>by rw [Nat.testBit_xor,hp,hq];rfl) fun y hy=>?_
 obtain ⟨z,_,rfl⟩:=List.mem_map.mp hy
 unfold clr
 split
 ·rename_i h
  rw [Nat.testBit_xor,h,hx.1];rfl
 ·rename_i h
  simpa using h
theorem ZlD {L:List Nat}{x a y:Nat} (hy:y∈L.map (clr x a)):Gr (L ++ [x]) y:=by
 obtain ⟨z,hz,rfl⟩:=List.mem_map.mp hy
 unfold clr
 split
 ·exact (Gr.mem (List.mem_append_left _ hz)).xor (Gr.mem (by simp))
 ·exact Gr.mem (List.mem_append_left _ hz)
theorem Zio {L:List Nat}{x a v:Nat} (s:Gr (L ++ [x]) v):∃u,Gr (L.map (clr x a)) u/\(v=u∨v=u ^^^ x):=by
 refine s (fun v=>∃u,Gr (L.map (clr x a)) u/\(v=u∨v=u ^^^ x)) ⟨0,Gr.zero _,.inl rfl⟩ ?_ fun y hy=>?_
 ·rintro p q ⟨u,su,hu⟩ ⟨w,sw,hw⟩
  refine ⟨u ^^^ w,su.xor sw,?_⟩
  rcases hu with rfl | rfl<;>rcases hw with rfl | rfl
  ·exact .inl rfl
  ·exact .inr (by rw [Nat.xor_assoc])
  ·exact .inr (by rw [Nat.xor_assoc,Nat.xor_assoc,Nat.xor_comm x])
  ·exact .inl (by rw [Nat.xor_assoc u x,<- Nat.xor_assoc x w x,Nat.xor_comm x w,ZgF])
 ·rcases List.mem_append.mp hy with h | h
  ·have m:clr x a y∈L.map (clr x a):=List.mem_map.mpr ⟨y,h,rfl⟩
   refine ⟨_,Gr.mem m,?_⟩
   unfold clr
   split
   ·exact .inr (by rw [ZgF])
   ·exact .inl rfl
  ·rw [List.mem_singleton.mp h]
   exact ⟨0,Gr.zero _,.inr (by rw [Nat.zero_xor])⟩
theorem Ld.not {L:List Nat}{x a:Nat} (hx:LB x a) (h:Ld (L.map (clr x a)) a):False:=by
 obtain ⟨v,s,l⟩:=h
 have:=Zgw hx s
 rw [l.1] at this
 cases this
theorem Ld.elim {L:List Nat}{x a j:Nat} (hx:LB x a):Ld (L ++ [x]) j ↔ j=a∨Ld (L.map (clr x a)) j:=by
 constructor
 ·rintro ⟨v,s,l⟩
  obtain ⟨u,su,hu⟩:=Zio (a:=a) s
  rcases hu with rfl | rfl
  ·exact .inr ⟨_,su,l⟩
  ·by_cases u0:u=0
   ·rw [u0,Nat.zero_xor] at l
    exact .inl (l.one hx)
   ·obtain ⟨k,hk⟩:=LB.ex u0
    have b:=Zgw hx su
    rcases Nat.lt_trichotomy k a with h | h | h
    ·have:=l.one (hk.xor_lt hx h)
     exact .inr ⟨u,su,this ▸ hk⟩
    ·rw [<- h,hk.1] at b;cases b
    ·rw [Nat.xor_comm] at l
     exact .inl (l.one (hx.xor_lt hk h))
 ·rintro (rfl | h)
  ·exact ⟨x,Gr.mem (by simp),hx⟩
  ·exact h.le fun y hy=>ZlD hy
def RkI (L0:List Nat) (f:Nat) (L:List Nat):Prop:=∃js:List Nat,js.Nodup/\js.length=f/\(∀j,Ld L0 j ↔ j∈js∨Ld L j) /\ ∀j∈js,¬Ld L j
theorem RkI.start (L:List Nat):RkI L 0 L:=⟨[],.nil,rfl,fun j=>by simp,fun _ h=>nomatch h⟩
theorem RkI.skip {L0 L:List Nat}{f:Nat} (h:RkI L0 f (L ++ [0])):RkI L0 f L:=by
 obtain ⟨js,nd,l,m,n⟩:=h
 exact ⟨js,nd,l,fun j=>(m j).trans (or_congr Iff.rfl Ld.skip),fun j hj z=>n j hj (Ld.skip.mpr z)⟩
theorem RkI.step {L0 L:List Nat}{f x a:Nat} (h:RkI L0 f (L ++ [x])) (hx:LB x a):RkI L0 (f+1) (L.map (clr x a)):=by
 obtain ⟨js,nd,l,m,n⟩:=h
 have na:a∉js:=fun z=>n a z ((Ld.elim hx).mpr (.inl rfl))
 refine ⟨a::js,List.nodup_cons.mpr ⟨na,nd⟩,by rw [List.length_cons,l],fun j=>?_,fun j hj z=>?_⟩
 ·rw [m j,Ld.elim hx,List.mem_cons]
  constructor
  ·rintro (h | h | h)
   ·exact .inl (.inr h)
   ·exact .inl (.inl h)
   ·exact .inr h
  ·rintro ((h | h) | h)
   ·exact .inr (.inl h)
   ·exact .inl h
   ·exact .inr (.inr h)
 ·rcases List.mem_cons.mp hj with e | hj
  ·subst e;exact Ld.not hx z
  ·exact n j hj ((Ld.elim hx).mpr (.inr z))
def Rk (L:List Nat) (f:Nat):Prop:=∃js:List Nat,js.Nodup/\js.length=f /\ ∀j,Ld L j ↔ j∈js
theorem RkI.done {L0:List Nat}{f:Nat} (h:RkI L0 f []):Rk L0 f:=by
 obtain ⟨js,nd,l,m,n⟩:=h
 exact ⟨js,nd,l,fun j=>(m j).trans ⟨fun h=>h.elim id fun z=>z.nil.elim,.inl⟩⟩
theorem Rk.one {L:List Nat}{f g:Nat} (x:Rk L f) (y:Rk L g):f=g:=by
 obtain ⟨js,nd,l,m⟩:=x
 obtain ⟨ks,nd',l',m'⟩:=y
 rw [<- l,<- l']
 exact ((List.perm_ext_iff_of_nodup nd nd').mpr fun j=>(m j).symm.trans (m' j)).length_eq
theorem LB.mod {v q j:Nat} (h:LB v q) (hq:q<=j):LB (v % 2 ^ (j+1)) q:=by
 refine ⟨?_,fun k hk=>?_⟩
 ·rw [Nat.testBit_mod_two_pow,h.1,decide_eq_true (by omega)];rfl
 ·rw [Nat.testBit_mod_two_pow,h.2 k hk,Bool.and_false]
theorem LB.of_mod {v q j:Nat} (h:LB (v % 2 ^ (j+1)) q):LB v q/\q<=j:=by
 have h1:=h.1
 rw [Nat.testBit_mod_two_pow,Bool.and_eq_true,decide_eq_true_eq] at h1
 refine ⟨⟨h1.2,fun k hk=>?_⟩,by omega⟩
 have:=h.2 k hk
 rw [Nat.testBit_mod_two_pow,decide_eq_true (by omega)] at this
 simpa using this
def Zc2 (T:Nat->Nat) (n i j:Nat):List Nat:=((List.range n).drop i).map fun r=>T r % 2 ^ (j+1)
theorem UZ {T:Nat->Nat}{n i j x:Nat}:x∈Zc2 T n i j ↔ ∃r,i<=r/\r<n/\x=T r % 2 ^ (j+1):=by
 unfold Zc2
 rw [List.mem_map]
 constructor
 ·rintro ⟨r,hr,rfl⟩
  obtain ⟨k,hk,e⟩:=List.getElem_of_mem hr
  rw [List.getElem_drop,List.getElem_range] at e
  rw [List.length_drop,List.length_range] at hk
  exact ⟨r,by omega,by omega,rfl⟩
 ·rintro ⟨r,h1,h2,rfl⟩
  refine ⟨r,?_,rfl⟩
  refine List.mem_of_getElem? (i:=r-i) ?_
  rw [List.getElem?_drop,List.getElem?_range (by omega)]
  congr 1;omega
theorem Zep {T:Nat->Nat}{n i j v:Nat} (h:∀k,k<i->v.testBit k=false):∀m,m<=n->Gr (Zc2 T n i j) (Zy T m v % 2 ^ (j+1))
 | 0,_=>by
  show Gr _ (0 % _)
  rw [Nat.zero_mod];exact Gr.zero _
 | m+1,hm=>by
  show Gr _ (((if v.testBit m=true then T m else 0) ^^^ Zy T m v) % 2 ^ (j+1))
  rw [Nat.xor_mod_two_pow]
  refine Gr.xor ?_ (Zep h m (by omega))
  split
  ·rename_i hb
   refine Gr.mem (UZ.mpr ⟨m,?_,by omega,rfl⟩)
   rcases Nat.lt_or_ge m i with z | z
   ·rw [h m z] at hb;cases hb
   ·exact z
  ·rw [Nat.zero_mod];exact Gr.zero _
theorem Zir {T:Nat->Nat}{n i j v:Nat} (s:Gr (Zc2 T n i j) v):∃w,(∀k,k<i->w.testBit k=false)/\w<2 ^ n/\v=Zy T n w % 2 ^ (j+1):=by
 refine s (fun v=>∃w,(∀k,k<i->w.testBit k=false)/\w<2 ^ n/\v=Zy T n w % 2 ^ (j+1)) ⟨0,fun k _=>Nat.zero_testBit k,Nat.two_pow_pos n,by rw [Yy,Nat.zero_mod]⟩ ?_ fun x hx=>?_
 ·rintro a b ⟨w,h1,h2,rfl⟩ ⟨u,g1,g2,rfl⟩
  exact ⟨w ^^^ u,fun k hk=>by rw [Nat.testBit_xor,h1 k hk,g1 k hk];rfl,Nat.xor_lt_two_pow h2 g2,by rw [YY,Nat.xor_mod_two_pow]⟩
 ·obtain ⟨r,h1,h2,rfl⟩:=UZ.mp hx
  exact ⟨2 ^ r,fun k hk=>(LB.pow r).2 k (by omega),Nat.pow_lt_pow_right (by decide) h2,by rw [YJ _ _ _ h2]⟩
theorem Up.lead {T:Nat->Nat}{n:Nat}{S:Nat->Nat}{p:Nat->Option Nat} (U:Up T n 0 S p) (i j q:Nat):Ld (Zc2 T n i j) q ↔ ∃k,i<=k/\k<n/\p k=some q/\k<q/\q<=j:=by
 constructor
 ·rintro ⟨v,s,l⟩
  obtain ⟨w,h1,h2,rfl⟩:=Zir s
  obtain ⟨l1,l2⟩:=l.of_mod
  have w0:w≠0:=fun z=>l1.nz (by rw [z,Yy])
  obtain ⟨a,ha⟩:=LB.ex w0
  have ia:i<=a:=by
   rcases Nat.lt_or_ge a i with z | z
   ·have:=h1 a z
    rw [ha.1] at this;cases this
   ·exact z
  have an:=ha.lt h2
  obtain ⟨lo1,lo2⟩:=U.low (n-a) w a (Nat.le_refl _) ha (Nat.zero_le _) h2
  rcases U.cases (Nat.zero_le a) an with ⟨q1,e,lt⟩ | c
  ·obtain ⟨q',k,b1,_,b3,b4,b5,b6⟩:=lo1 q1 e lt
   have:q'=q:=b1.one l1
   subst this
   exact ⟨k,by lia,b4,b5,b6,l2⟩
  ·rcases lo2 c with z | ⟨q',k,b1,b3,b4,b5,b6⟩
   ·exact absurd z l1.nz
   ·have:q'=q:=b1.one l1
    subst this
    exact ⟨k,by lia,b4,b5,b6,l2⟩
 ·rintro ⟨k,h1,h2,h3,h4,h5⟩
  have im:=U.img k q (Nat.zero_le _) h2 h3 h4
  have lk:=U.lb k (Nat.zero_le _) h2
  have lq:=U.lb q (Nat.zero_le _) (U.inv k q (Nat.zero_le _) h2 h3).2.1
  refine ⟨_,Zep (v:=S k) (fun m hm=>lk.2 m (by lia)) n (Nat.le_refl _),?_⟩
  rw [im]
  exact lq.mod h5
theorem Up.rank {T:Nat->Nat}{n:Nat}{S:Nat->Nat}{p:Nat->Option Nat} (U:Up T n 0 S p) (i j:Nat) (W:List Nat) (nd:W.Nodup) (hW:∀k,k∈W ↔ i<=k/\k<n /\ ∃q,p k=some q/\k<q/\q<=j):Rk (Zc2 T n i j) W.length:=by
 refine ⟨W.map fun k=>(p k).getD 0,?_,by rw [List.length_map],fun q=>?_⟩
 ·refine (List.pairwise_map).mpr (nd.imp_of_mem fun {a b} ha hb ne e=>ne ?_)
  obtain ⟨_,a2,qa,pa,_⟩:=(hW a).mp ha
  obtain ⟨_,b2,qb,pb,_⟩:=(hW b).mp hb
  rw [pa,pb] at e
  have e':qa=qb:=e
  subst e'
  exact U.inj (Nat.zero_le _) a2 (Nat.zero_le _) b2 pa pb
 ·rw [U.lead i j q,List.mem_map]
  constructor
  ·rintro ⟨k,h1,h2,h3,h4,h5⟩
   exact ⟨k,(hW k).mpr ⟨h1,h2,q,h3,h4,h5⟩,by rw [h3];rfl⟩
  ·rintro ⟨k,hk,rfl⟩
   obtain ⟨h1,h2,q,h3,h4,h5⟩:=(hW k).mp hk
   have e:(p k).getD 0=q:=by rw [h3];rfl
   rw [e]
   exact ⟨k,h1,h2,h3,h4,h5⟩
end L2
namespace L2
open PySem PySem.Spec PyProof.Rows
def Trk (H:Hp) (v:Value):Prop:=∃a C,v = .ref a/\H a=some (.ext (isX a C))
def Hnd (A:Around) (H:Hp):Prop:=∀v,A.handled=some v->Trk H v
section
variable {P:Program}{w:World}{K:PySem.W.Frag}{mg:Str->Option Value}{base:Heap}
structure ZnX (P:Program) (w:World) (K:PySem.W.Frag) (mg:Str->Option Value) (base:Heap) (k:Nat) (f:Addr) (fd:FuncData) (ps:List Str) (sp:Sp):Prop where
 len:∀vs H Q E,sp vs H Q E->vs.length=ps.length
 run:∀(A:Around) (outer:List Env) (s:Shared) (H:Hp) (args:Args) (us:List Value) (vs:List V) (Q:VK),Zk1 k A->Hnd A H->ZdS P w K mg base A outer s H->BindsTo s fd args (ps.zip us)->Vals vs us->sp vs H Q E0 ->
  codeAny (model P w) A (.call (.ref f) args) (CR W3 outer P w H s Q E0) s
end
end L2
namespace L2
open PySem PySem.Spec PyProof.Rows
structure M1 (X:Cx) (o:Expr) (m:Str) (apos:Pos) (e:Expr) (cpos:Pos):Prop where
 base:attributeBase o m X.env (eval o X.env)=eval o X.env
 few:((backTo cpos (starEach [e] X.env)).all (fun x=>!x.1)&&(backToKw cpos (keywordEach [] X.env)).all (fun x=>x.1.isSome)
  && decide (([e]:List Expr).length+([]:List Keyword).length+(if ([]:List Keyword).isEmpty then 0 else 1)<30))=true
 line:(apos.endLine==cpos.line)=true
 trees:backTo cpos (starEach [e] X.env) = [(false,eval e X.env)]
structure M2 (X:Cx) (o:Expr) (m:Str) (apos:Pos) (e f:Expr) (cpos:Pos):Prop where
 base:attributeBase o m X.env (eval o X.env)=eval o X.env
 few:((backTo cpos (starEach [e,f] X.env)).all (fun x=>!x.1)&&(backToKw cpos (keywordEach [] X.env)).all (fun x=>x.1.isSome)
  && decide (([e,f]:List Expr).length+([]:List Keyword).length+(if ([]:List Keyword).isEmpty then 0 else 1)<30))=true
 line:(apos.endLine==cpos.line)=true
 trees:backTo cpos (starEach [e,f] X.env) = [(false,eval e X.env),(false,eval f X.env)]
end L2
namespace L2
def ofB:Nat->(Nat->Bool)->Nat
 | 0,_=>0
 | n+1,f=>ofB n f ^^^ (if f n=true then 2 ^ n else 0)
theorem ZaI (f:Nat->Bool) (k:Nat):∀n,(ofB n f).testBit k=(decide (k<n)&&f k)
 | 0=>by simp [ofB]
 | n+1=>by
  show (ofB n f ^^^ (if f n=true then 2 ^ n else 0)).testBit k=_
  rw [Nat.testBit_xor,ZaI f k n]
  by_cases e:k=n
  ·subst e
   by_cases c:f k=true
   ·rw [if_pos c,Nat.testBit_two_pow];simp [c]
   ·rw [if_neg c];simp [c]
  ·have h1:(if f n=true then 2 ^ n else 0).testBit k=false:=by
    split
    ·rw [Nat.testBit_two_pow];simp;lia
    ·simp
   rw [h1]
   have:decide (k<n+1)=decide (k<n):=decide_eq_decide.mpr (by lia)
   rw [this];simp
theorem US (f:Nat->Bool) (n:Nat):ofB n f<2 ^ n:=Nat.lt_pow_two_of_testBit _ fun i hi=>by rw [ZaI,decide_eq_false (by lia)];rfl
theorem Zf5 {A B:Nat->Nat}{v:Nat}:∀n,(∀r,r<n->v.testBit r=true->A r=B r)->Zy A n v=Zy B n v
 | 0,_=>rfl
 | n+1,h=>by
  show (if v.testBit n=true then A n else 0) ^^^ Zy A n v=(if v.testBit n=true then B n else 0) ^^^ Zy B n v
  rw [Zf5 n fun r hr=>h r (by lia)]
  by_cases c:v.testBit n=true
  ·rw [if_pos c,if_pos c,h n (by lia) c]
  ·rw [if_neg c,if_neg c]
structure Lin (φ:Nat->Nat):Prop where
 zero:φ 0=0
 xor:∀a b,φ (a ^^^ b) = φ a ^^^ φ b
theorem Lin.mul {φ:Nat->Nat} (l:Lin φ) (A:Nat->Nat) (v:Nat):∀n,φ (Zy A n v)=Zy (fun r=>φ (A r)) n v
 | 0=>l.zero
 | n+1=>by
  show φ ((if v.testBit n=true then A n else 0) ^^^ Zy A n v)=(if v.testBit n=true then φ (A n) else 0) ^^^ Zy (fun r=>φ (A r)) n v
  rw [l.xor,l.mul A v n]
  by_cases c:v.testBit n=true
  ·rw [if_pos c,if_pos c]
  ·rw [if_neg c,if_neg c,l.zero]
theorem ZhK (T:Nat->Nat) (n:Nat):Lin (Zy T n):=⟨Yy T n,YY T n⟩
theorem ZeS (v k:Nat):∀n,(Zy (fun r=>2 ^ r) n v).testBit k=(decide (k<n)&&v.testBit k)
 | 0=>by simp [Zy]
 | n+1=>by
  show ((if v.testBit n=true then 2 ^ n else 0) ^^^ Zy (fun r=>2 ^ r) n v).testBit k=_
  rw [Nat.testBit_xor,ZeS v k n]
  by_cases e:k=n
  ·subst e
   by_cases c:v.testBit k=true
   ·rw [if_pos c,Nat.testBit_two_pow];simp [c]
   ·rw [if_neg c];simp [c]
  ·have h1:(if v.testBit n=true then 2 ^ n else 0).testBit k=false:=by
    split
    ·rw [Nat.testBit_two_pow];simp;lia
    ·simp
   rw [h1]
   have:decide (k<n+1)=decide (k<n):=decide_eq_decide.mpr (by lia)
   rw [this];simp
theorem Zhk {n v:Nat} (h:v<2 ^ n):Zy (fun r=>2 ^ r) n v=v:=Nat.eq_of_testBit_eq fun k=>by
 rw [ZeS]
 by_cases c:k<n
 ·simp [c]
 ·rw [decide_eq_false c,Nat.testBit_lt_two_pow (Nat.lt_of_lt_of_le h (Nat.pow_le_pow_right (by decide) (by lia)))];rfl
theorem Lin.conj {φ:Nat->Nat} (l:Lin φ) {T T':Nat->Nat}{n n' v:Nat} (hv:v<2 ^ n) (h:∀r,r<n->v.testBit r=true->Zy T' n' (φ (2 ^ r)) = φ (T r)):Zy T' n' (φ v) = φ (Zy T n v):=by
 have e1:φ v=Zy (fun r=>φ (2 ^ r)) n v:=by rw [<- l.mul (fun r=>2 ^ r) v n,Zhk hv]
 rw [e1,(ZhK T' n').mul _ v n,l.mul T v n]
 exact Zf5 n h
theorem Jj (r k:Nat):(2 ^ r).testBit k=decide (r=k):=Nat.testBit_two_pow ..
def Zs (k q:Nat):Nat:=if q<k then q else q+2
def YL (k q:Nat):Nat:=if q<k then q else q-2
def Zd9 (k n v:Nat):Nat:=ofB (n+2) fun j=>if j<k then v.testBit j else if j<k+2 then false else v.testBit (j-2)
theorem We (k n v j:Nat):(Zd9 k n v).testBit j=(decide (j<n+2)&&(if j<k then v.testBit j else if j<k+2 then false else v.testBit (j-2))):=ZaI _ _ _
theorem ZeI (k n:Nat):Lin (Zd9 k n) where
 zero:=Nat.eq_of_testBit_eq fun j=>by rw [We];simp
 xor:=fun a b=>Nat.eq_of_testBit_eq fun j=>by
  rw [Nat.testBit_xor,We,We,We]
  by_cases c:j<n+2
  ·rw [decide_eq_true c]
   by_cases c1:j<k
   ·simp [c1]
   ·by_cases c2:j<k+2
    ·simp [c1,c2]
    ·simp [c1,c2]
  ·rw [decide_eq_false c];rfl
theorem ZiV {k n r:Nat} (h:r<n):Zd9 k n (2 ^ r)=2 ^ Zs k r:=Nat.eq_of_testBit_eq fun j=>by
 rw [We,Jj (Zs k r) j]
 unfold Zs
 by_cases c1:j<k
 ·rw [if_pos c1,Jj]
  by_cases c:r<k
  ·rw [if_pos c]
   by_cases e:r=j
   ·rw [decide_eq_true e,decide_eq_true (show j<n+2 by lia)];rfl
   ·rw [decide_eq_false e,Bool.and_false]
  ·rw [if_neg c,decide_eq_false (show ¬r=j by lia),decide_eq_false (show ¬r+2=j by lia),Bool.and_false]
 ·rw [if_neg c1]
  by_cases c2:j<k+2
  ·rw [if_pos c2,Bool.and_false]
   symm
   rw [decide_eq_false_iff_not]
   split<;>lia
  ·rw [if_neg c2,Jj]
   by_cases c:r<k
   ·rw [if_pos c,decide_eq_false (show ¬r=j-2 by lia),decide_eq_false (show ¬r=j by lia),Bool.and_false]
   ·rw [if_neg c]
    by_cases e:r+2=j
    ·rw [decide_eq_true (show r=j-2 by lia),decide_eq_true e,decide_eq_true (show j<n+2 by lia)];rfl
    ·rw [decide_eq_false (show ¬r=j-2 by lia),decide_eq_false e,Bool.and_false]
theorem Zkq {k n v r:Nat} (x:LB v r) (h:r<n):LB (Zd9 k n v) (Zs k r):=by
 unfold Zs
 refine ⟨?_,fun j hj=>?_⟩
 ·rw [We]
  by_cases c:r<k
  ·rw [if_pos c,if_pos c,decide_eq_true (by lia),x.1];rfl
  ·rw [if_neg c,if_neg (by lia),if_neg (by lia),decide_eq_true (by lia),Nat.add_sub_cancel,x.1];rfl
 ·rw [We]
  by_cases c:r<k
  ·rw [if_pos c] at hj
   rw [if_pos (by lia),x.2 j hj,Bool.and_false]
  ·rw [if_neg c] at hj
   by_cases c1:j<k
   ·rw [if_pos c1,x.2 j (by lia),Bool.and_false]
   ·rw [if_neg c1]
    by_cases c2:j<k+2
    ·rw [if_pos c2,Bool.and_false]
    ·rw [if_neg c2,x.2 (j-2) (by lia),Bool.and_false]
def Gx (k n:Nat) (T:Nat->Nat):Nat->Nat:=fun r=>if r=k then 2 ^ (k+1) else if r=k+1 then 0 else Zd9 k n (T (YL k r))
def JR (k:Nat) (p:Nat->Option Nat):Nat->Option Nat:=fun r=>if r=k then some (k+1) else if r=k+1 then some k else (p (YL k r)).map (Zs k)
theorem UH {k r:Nat} (h1:r≠k) (h2:r≠k+1):Zs k (YL k r)=r:=by unfold Zs YL;(repeat' split)<;>lia
theorem Zag (k r:Nat):YL k (Zs k r)=r:=by unfold Zs YL;(repeat' split)<;>lia
theorem Ji (k r:Nat):Zs k r≠k/\Zs k r≠k+1:=by unfold Zs;split<;>lia
theorem Zgb {k a b:Nat} (h:a<b):Zs k a<Zs k b:=by unfold Zs;(repeat' split)<;>lia
theorem Jh {k r n:Nat} (h:r<n):Zs k r<n+2:=by unfold Zs;split<;>lia
theorem GY {k r n:Nat} (h:r<n+2) (h1:r≠k) (h2:r≠k+1) (hk:k<=n):YL k r<n:=by unfold YL;split<;>lia
theorem Up.born {T:Nat->Nat}{n k:Nat}{S:Nat->Nat}{p:Nat->Option Nat} (U:Up T n 0 S p) (hk:k<=n):
  Up (Gx k n T) (n+2) 0 (fun r=>if r=k∨r=k+1 then 2 ^ r else Zd9 k n (S (YL k r))) (JR k p):=by
 have tk:Gx k n T k=2 ^ (k+1):=by unfold Gx;rw [if_pos rfl]
 have tk1:Gx k n T (k+1)=0:=by unfold Gx;rw [if_neg (by lia),if_pos rfl]
 have tr:∀r,Gx k n T (Zs k r)=Zd9 k n (T r):=fun r=>by unfold Gx;rw [if_neg (Ji k r).1,if_neg (Ji k r).2,Zag]
 have act:∀v,v<2 ^ n->Zy (Gx k n T) (n+2) (Zd9 k n v)=Zd9 k n (Zy T n v):=fun v hv=>(ZeI k n).conj hv fun r hr _=>by rw [ZiV hr,YJ _ _ _ (Jh hr),tr]
 have pk:JR k p k=some (k+1):=by unfold JR;rw [if_pos rfl]
 have pk1:JR k p (k+1)=some k:=by unfold JR;rw [if_neg (by lia),if_pos rfl]
 have pr:∀r,r≠k->r≠k+1->JR k p r=(p (YL k r)).map (Zs k):=fun r h1 h2=>by unfold JR;rw [if_neg h1,if_neg h2]
 have get:∀{r q},r≠k->r≠k+1->JR k p r=some q -> ∃q0,p (YL k r)=some q0/\q=Zs k q0:=fun {r q} h1 h2 e=>by
  rw [pr r h1 h2] at e
  obtain ⟨q0,e0,e1⟩:=Option.map_eq_some_iff.mp e
  exact ⟨q0,e0,e1.symm⟩
 refine ⟨fun r _ hr=>?_,fun r _ hr=>?_,fun r q _ hr e=>?_,fun r q _ hr e lt=>?_,fun r _ hr c=>?_⟩
 ·by_cases h:r=k∨r=k+1
  ·rw [if_pos h];exact LB.pow r
  ·rw [if_neg h]
   have:=Zkq (k:=k) (U.lb (YL k r) (Nat.zero_le _) (GY hr (by lia) (by lia) hk)) (GY hr (by lia) (by lia) hk)
   rw [UH (by lia) (by lia)] at this
   exact this
 ·by_cases h:r=k∨r=k+1
  ·rw [if_pos h];exact Nat.pow_lt_pow_right (by decide) hr
  ·rw [if_neg h];exact US _ _
 ·by_cases h1:r=k
  ·subst h1;rw [pk] at e;cases e;exact ⟨Nat.zero_le _,by lia,by lia,pk1⟩
  ·by_cases h2:r=k+1
   ·subst h2;rw [pk1] at e;cases e;exact ⟨Nat.zero_le _,by lia,by lia,pk⟩
   ·obtain ⟨q0,e0,rfl⟩:=get h1 h2 e
    obtain ⟨_,i2,i3,i4⟩:=U.inv _ _ (Nat.zero_le _) (GY hr h1 h2 hk) e0
    refine ⟨Nat.zero_le _,Jh i2,fun z=>?_,?_⟩
    ·rw [<- z,Zag] at i3;exact i3 rfl
    ·rw [pr _ (Ji k q0).1 (Ji k q0).2,Zag,i4]
     show some (Zs k (YL k r))=some r
     rw [UH h1 h2]
 ·by_cases h1:r=k
  ·subst h1;rw [pk] at e;cases e
   rw [if_pos (.inl rfl),if_pos (.inr rfl),YJ _ _ _ hr,tk]
  ·by_cases h2:r=k+1
   ·subst h2;rw [pk1] at e;cases e;lia
   ·obtain ⟨q0,e0,rfl⟩:=get h1 h2 e
    have hd:=GY hr h1 h2 hk
    have l0:YL k r<q0:=by
     rcases Nat.lt_trichotomy (YL k r) q0 with z | z | z
     ·exact z
     ·exact absurd z.symm (U.inv _ _ (Nat.zero_le _) hd e0).2.2.1
     ·have:=Zgb (k:=k) z
      rw [UH h1 h2] at this
      lia
    rw [if_neg (by lia),if_neg (by have:=Ji k q0;lia),Zag,act _ (U.bd _ (Nat.zero_le _) hd),U.img _ _ (Nat.zero_le _) hd e0 l0]
 ·by_cases h1:r=k
  ·subst h1;have:=c _ pk;lia
  ·by_cases h2:r=k+1
   ·subst h2
    rw [if_pos (.inr rfl),YJ _ _ _ hr,tk1]
   ·have hd:=GY hr h1 h2 hk
    rw [if_neg (by lia),act _ (U.bd _ (Nat.zero_le _) hd),U.ker _ (Nat.zero_le _) hd (fun q0 e0=>?_),(ZeI k n).zero]
    have:=c (Zs k q0) (by rw [pr r h1 h2,e0];rfl)
    rcases Nat.lt_trichotomy q0 (YL k r) with z | z | z
    ·exact z
    ·exact absurd z (U.inv _ _ (Nat.zero_le _) hd e0).2.2.1
    ·have:=Zgb (k:=k) z
     rw [UH h1 h2] at this
     lia
end L2
namespace L2
def YQ (k j:Nat):Nat:=if j=k then k+1 else if j=k+1 then k else j
theorem WD (k j:Nat):YQ k (YQ k j)=j:=by unfold YQ;(repeat' split)<;>lia
theorem Zcr (k:Nat):YQ k k=k+1:=if_pos rfl
theorem Zb7 (k:Nat):YQ k (k+1)=k:=by unfold YQ;rw [if_neg (by lia),if_pos rfl]
theorem UG {k j:Nat} (h1:j≠k) (h2:j≠k+1):YQ k j=j:=by unfold YQ;rw [if_neg h1,if_neg h2]
theorem JM {k j n:Nat} (hk:k+1<n) (h:j<n):YQ k j<n:=by unfold YQ;(repeat' split)<;>lia
def swB (k n v:Nat):Nat:=ofB n fun j=>v.testBit (YQ k j)
theorem Y9 (k n v j:Nat):(swB k n v).testBit j=(decide (j<n)&&v.testBit (YQ k j)):=ZaI _ _ _
theorem ZbV (k n:Nat):Lin (swB k n) where
 zero:=Nat.eq_of_testBit_eq fun j=>by rw [Y9];simp
 xor:=fun a b=>Nat.eq_of_testBit_eq fun j=>by
  rw [Nat.testBit_xor,Y9,Y9,Y9,Nat.testBit_xor]
  cases decide (j<n)<;>simp
theorem Zkd {k n r:Nat} (hk:k+1<n) (h:r<n):swB k n (2 ^ r)=2 ^ YQ k r:=Nat.eq_of_testBit_eq fun j=>by
 rw [Y9,Jj,Jj]
 by_cases e:r=YQ k j
 ·have:YQ k r=j:=by rw [e,WD]
  have hj:j<n:=by rw [<- this];exact JM hk h
  rw [decide_eq_true e,decide_eq_true this,decide_eq_true hj];rfl
 ·rw [decide_eq_false e,decide_eq_false (show ¬YQ k r=j from fun z=>e (by rw [<- z,WD])),Bool.and_false]
def swT (k n:Nat) (T:Nat->Nat):Nat->Nat:=fun r=>swB k n (T (YQ k r))
theorem Zbd {T:Nat->Nat}{k n v:Nat} (hk:k+1<n) (hv:v<2 ^ n):Zy (swT k n T) n (swB k n v)=swB k n (Zy T n v):=(ZbV k n).conj hv fun r hr _=>by
 rw [Zkd hk hr,YJ _ _ _ (JM hk hr)]
 unfold swT
 rw [WD]
theorem Zds {k n v r:Nat} (x:LB v r) (hr:r<n) (h1:r≠k) (h2:r≠k+1):LB (swB k n v) r:=by
 refine ⟨by rw [Y9,decide_eq_true hr,UG h1 h2,x.1];rfl,fun j hj=>?_⟩
 rw [Y9,x.2 (YQ k j) (by unfold YQ;(repeat' split)<;>lia),Bool.and_false]
theorem Zlw {k n v:Nat} (x:LB v (k+1)) (hk:k+1<n):LB (swB k n v) k:=by
 refine ⟨by rw [Y9,decide_eq_true (by lia),Zcr,x.1];rfl,fun j hj=>?_⟩
 rw [Y9,UG (by lia) (by lia),x.2 j (by lia),Bool.and_false]
theorem Zfs {k n v:Nat} (x:LB v k) (hk:k+1<n) (hb:v.testBit (k+1)=false):LB (swB k n v) (k+1):=by
 refine ⟨by rw [Y9,decide_eq_true hk,Zb7,x.1];rfl,fun j hj=>?_⟩
 rw [Y9]
 by_cases e:j=k
 ·subst e;rw [Zcr,hb,Bool.and_false]
 ·rw [UG e (by lia),x.2 j (by lia),Bool.and_false]
theorem Zi6 {k n v:Nat} (x:LB v k) (hk:k+1<n) (hb:v.testBit (k+1)=true):LB (swB k n v) k:=by
 refine ⟨by rw [Y9,decide_eq_true (by lia),Zcr,hb];rfl,fun j hj=>?_⟩
 rw [Y9,UG (by lia) (by lia),x.2 j hj,Bool.and_false]
theorem ZeX {k r q:Nat} (h:r<q) (hn:¬(r=k/\q=k+1)):YQ k r<YQ k q:=by unfold YQ;(repeat' split)<;>lia
def swP (k:Nat) (p:Nat->Option Nat):Nat->Option Nat:=fun r=>(p (YQ k r)).map (YQ k)
theorem Up.keep {T:Nat->Nat}{n k:Nat}{S:Nat->Nat}{p:Nat->Option Nat} (U:Up T n 0 S p) (hk:k+1<n) (np:p k≠some (k+1)) (hb:(S k).testBit (k+1)=false):Up (swT k n T) n 0 (fun r=>swB k n (S (YQ k r))) (swP k p):=by
 have np1:p (k+1)≠some k:=fun z=>np (U.inv _ _ (Nat.zero_le _) hk z).2.2.2
 have get:∀{r q},swP k p r=some q->p (YQ k r)=some (YQ k q):=fun {r q} e=>by
  obtain ⟨q0,e0,e1⟩:=Option.map_eq_some_iff.mp e
  rw [e0,<- e1,WD]
 have bd:∀{r},r<n->S (YQ k r)<2 ^ n:=fun {r} hr=>U.bd _ (Nat.zero_le _) (JM hk hr)
 have lt2:∀{r q},r<n->swP k p r=some q->(r<q ↔ YQ k r<YQ k q):=fun {r q} hr e=>by
  have e':=get e
  have n1:¬(r=k/\q=k+1):=fun z=>by
   obtain ⟨rfl,rfl⟩:=z
   rw [Zcr,Zb7] at e'
   exact np1 e'
  have n2:¬(YQ k r=k/\YQ k q=k+1):=fun z=>by
   rw [z.1,z.2] at e'
   exact np e'
  constructor
  ·intro h;exact ZeX h n1
  ·intro h
   have:=ZeX h n2
   rw [WD,WD] at this
   exact this
 refine ⟨fun r _ hr=>?_,fun r _ hr=>US _ _,fun r q _ hr e=>?_,fun r q _ hr e lt=>?_,fun r _ hr c=>?_⟩
 ·(try dsimp only)
  by_cases h1:r=k
  ·subst h1;rw [Zcr];exact Zlw (U.lb _ (Nat.zero_le _) hk) hk
  ·by_cases h2:r=k+1
   ·subst h2;rw [Zb7];exact Zfs (U.lb _ (Nat.zero_le _) (by lia)) hk hb
   ·rw [UG h1 h2];exact Zds (U.lb _ (Nat.zero_le _) hr) hr h1 h2
 ·have e':=get e
  obtain ⟨_,i2,i3,i4⟩:=U.inv _ _ (Nat.zero_le _) (JM hk hr) e'
  have:=JM hk i2
  rw [WD] at this
  refine ⟨Nat.zero_le _,this,fun z=>i3 (by rw [z]),?_⟩
  show (p (YQ k q)).map (YQ k)=some r
  rw [i4]
  show some (YQ k (YQ k r))=some r
  rw [WD]
 ·(try dsimp only)
  rw [Zbd hk (bd hr),U.img _ _ (Nat.zero_le _) (JM hk hr) (get e) ((lt2 hr e).mp lt)]
 ·(try dsimp only)
  rw [Zbd hk (bd hr),U.ker _ (Nat.zero_le _) (JM hk hr) (fun q0 e0=>?_),(ZbV k n).zero]
  have e:swP k p r=some (YQ k q0):=by show (p (YQ k r)).map (YQ k)=_;rw [e0];rfl
  have h1:=c _ e
  have h2:=lt2 hr e
  rw [WD] at h2
  rcases Nat.lt_trichotomy q0 (YQ k r) with z | z | z
  ·exact z
  ·exact absurd z (U.inv _ _ (Nat.zero_le _) (JM hk hr) e0).2.2.1
  ·have:=h2.mpr z;lia
theorem LB.xor_gt {a b i j:Nat} (x:LB a i) (y:LB b j) (h:j<i):LB (a ^^^ b) j:=by rw [Nat.xor_comm];exact y.xor_lt x h
theorem Up.cross {T:Nat->Nat}{n k:Nat}{S:Nat->Nat}{p:Nat->Option Nat} (U:Up T n 0 S p) (hk:k+1<n) (np:p k≠some (k+1)) (full:∀r,r<n->p r≠none):(∃S',Up (swT k n T) n 0 S' (swP k p)) ∨ ∃S',Up (swT k n T) n 0 S' p:=by
 cases hb:(S k).testBit (k+1) with
 | false=>exact .inl ⟨_,U.keep hk np hb⟩
 | true=>
 have z0:∀m,0<=m:=Nat.zero_le
 obtain ⟨x,hx⟩:=Option.ne_none_iff_exists'.mp (full k (by lia))
 obtain ⟨y,hy⟩:=Option.ne_none_iff_exists'.mp (full (k+1) hk)
 obtain ⟨_,x1,x2,x3⟩:=U.inv k x (z0 _) (by lia) hx
 obtain ⟨_,y1,y2,y3⟩:=U.inv (k+1) y (z0 _) hk hy
 have x4:x≠k+1:=fun z=>np (by rw [hx,z])
 have y4:y≠k:=fun z=>np (by subst z;exact y3)
 have xy:x≠y:=fun z=>by rw [z,y3] at x3;have:=Option.some.inj x3;lia
 have lu:=U.lb k (z0 _) (by lia)
 have lv:=U.lb (k+1) (z0 _) hk
 have lx:=U.lb x (z0 _) x1
 have ly:=U.lb y (z0 _) y1
 have luv:LB (S k ^^^ S (k+1)) k:=lu.xor_lt lv (by lia)
 have buv:(S k ^^^ S (k+1)).testBit (k+1)=false:=by rw [Nat.testBit_xor,hb,lv.1];rfl
 have bd:=fun r (h:r<n)=>U.bd r (z0 _) h
 have bx:∀a b,a<n->b<n->S a ^^^ S b<2 ^ n:=fun a b ha hb=>Nat.xor_lt_two_pow (bd a ha) (bd b hb)
 have mx:∀a b,Zy T n (S a ^^^ S b)=Zy T n (S a) ^^^ Zy T n (S b):=fun a b=>YY T n _ _
 have opn:∀r q,r<n->p r=some q->r<q->Zy T n (S r)=S q:=fun r q h e l=>U.img r q (z0 _) h e l
 have cls:∀r q,r<n->p r=some q->q<r->Zy T n (S r)=0:=fun r q h e l=>U.ker r (z0 _) h fun q' e'=>by rw [e] at e';cases e';exact l
 have apart:(∃S',Up T n 0 S' p/\(S' k).testBit (k+1)=false) -> ∃S',Up (swT k n T) n 0 S' (swP k p):=fun ⟨S',U',h'⟩=>⟨_,U'.keep hk np h'⟩
 have inj:∀r q,r<n->p r=some q->p q=some r:=fun r q h e=>(U.inv r q (z0 _) h e).2.2.2
 have toK:∀r,r<n->p r=some k->r=x:=fun r h e=>by have:=inj r k h e;rw [hx] at this;exact (Option.some.inj this).symm
 have toX:∀r,r<n->p r=some x->r=k:=fun r h e=>by have:=inj r x h e;rw [x3] at this;exact (Option.some.inj this).symm
 have toK1:∀r,r<n->p r=some (k+1)->r=y:=fun r h e=>by have:=inj r (k+1) h e;rw [hy] at this;exact (Option.some.inj this).symm
 have toY:∀r,r<n->p r=some y->r=k+1:=fun r h e=>by have:=inj r y h e;rw [y3] at this;exact (Option.some.inj this).symm
 by_cases same:(x<k/\y<k)∨(k<x/\k<y)
 ·by_cases lt:x<y
  ·
   refine .inl (apart ⟨fun r=>if r=k then S k ^^^ S (k+1) else if r=x then S x ^^^ S y else S r,⟨fun r _ hr=>?_,fun r _ hr=>?_,U.inv,fun r q _ hr e l=>?_,fun r _ hr c=>?_⟩,by show (if k=k then _ else _:Nat).testBit (k+1)=false;rw [if_pos rfl];exact buv⟩)
   ·(try dsimp only)
    by_cases h1:r=k
    ·rw [if_pos h1,h1];exact luv
    ·rw [if_neg h1]
     by_cases h2:r=x
     ·rw [if_pos h2,h2];exact lx.xor_lt ly lt
     ·rw [if_neg h2];exact U.lb r (z0 _) hr
   ·(try dsimp only)
    by_cases h1:r=k
    ·rw [if_pos h1];exact bx _ _ (by lia) hk
    ·rw [if_neg h1]
     by_cases h2:r=x
     ·rw [if_pos h2];exact bx _ _ x1 y1
     ·rw [if_neg h2];exact bd r hr
   ·(try dsimp only)
    by_cases h1:r=k
    ·subst h1
     rw [hx] at e;cases e
     rw [if_pos rfl,if_neg x2,if_pos rfl,mx,opn _ _ hr hx l,opn _ _ hk hy (by lia)]
    ·rw [if_neg h1]
     by_cases h2:r=x
     ·subst h2
      rw [x3] at e;cases e
      rw [if_pos rfl,if_pos rfl,mx,opn _ _ hr x3 l,opn _ _ y1 y3 (by lia)]
     ·rw [if_neg h2,opn r q hr e l,if_neg (show ¬q=k from fun z=>h2 (toK r hr (z ▸ e))),if_neg (show ¬q=x from fun z=>h1 (toX r hr (z ▸ e)))]
   ·(try dsimp only)
    by_cases h1:r=k
    ·subst h1
     have:=c x hx
     rw [if_pos rfl,mx,cls _ _ hr hx this,cls _ _ hk hy (by lia)];rfl
    ·rw [if_neg h1]
     by_cases h2:r=x
     ·subst h2
      have:=c k x3
      rw [if_pos rfl,mx,cls _ _ hr x3 this,cls _ _ y1 y3 (by lia)];rfl
     ·rw [if_neg h2];exact U.ker r (z0 _) hr c
  ·
   have yx:y<x:=by lia
   have bq:∀r,r<n->(if r=k then S k else if r=k+1 then S k ^^^ S (k+1) else if r=y then S x ^^^ S y else S r)<2 ^ n:=fun r hr=>by
    split
    ·exact bd _ (by lia)
    ·split
     ·exact bx _ _ (by lia) hk
     ·split
      ·exact bx _ _ x1 y1
      ·exact bd r hr
   refine .inr ⟨fun r=>swB k n (if r=k then S k else if r=k+1 then S k ^^^ S (k+1) else if r=y then S x ^^^ S y else S r),⟨fun r _ hr=>?_,fun r _ hr=>US _ _,U.inv,fun r q _ hr e l=>?_,fun r _ hr c=>?_⟩⟩
   ·(try dsimp only)
    by_cases h1:r=k
    ·rw [if_pos h1,h1];exact Zi6 lu hk hb
    ·rw [if_neg h1]
     by_cases h2:r=k+1
     ·rw [if_pos h2,h2];exact Zfs luv hk buv
     ·rw [if_neg h2]
      by_cases h3:r=y
      ·rw [if_pos h3,h3];exact Zds (lx.xor_gt ly yx) y1 y4 y2
      ·rw [if_neg h3];exact Zds (U.lb r (z0 _) hr) hr h1 h2
   ·(try dsimp only)
    rw [Zbd hk (bq r hr)]
    congr 1
    by_cases h1:r=k
    ·subst h1
     rw [hx] at e;cases e
     rw [if_pos rfl,if_neg x2,if_neg x4,if_neg xy,opn _ _ hr hx l]
    ·rw [if_neg h1]
     by_cases h2:r=k+1
     ·subst h2
      rw [hy] at e;cases e
      rw [if_pos rfl,if_neg y4,if_neg y2,if_pos rfl,mx,opn _ _ (by lia) hx (by lia),opn _ _ hr hy l]
     ·rw [if_neg h2]
      by_cases h3:r=y
      ·subst h3
       rw [y3] at e;cases e
       rw [if_pos rfl,if_neg (by lia),if_pos rfl,mx,opn _ _ x1 x3 (by lia),opn _ _ hr y3 l]
      ·rw [if_neg h3]
       by_cases h4:q=k
       ·have:=toK r hr (h4 ▸ e)
        subst this
        subst h4
        rw [if_pos rfl,opn _ _ hr e l]
       ·rw [if_neg h4,if_neg (show ¬q=k+1 from fun z=>h3 (toK1 r hr (z ▸ e))),if_neg (show ¬q=y from fun z=>h2 (toY r hr (z ▸ e))),opn _ _ hr e l]
   ·(try dsimp only)
    rw [Zbd hk (bq r hr)]
    have zero:Zy T n (if r=k then S k else if r=k+1 then S k ^^^ S (k+1) else if r=y then S x ^^^ S y else S r)=0:=by
     by_cases h1:r=k
     ·subst h1
      rw [if_pos rfl];exact U.ker r (z0 _) hr c
     ·rw [if_neg h1]
      by_cases h2:r=k+1
      ·subst h2
       have:=c y hy
       rw [if_pos rfl,mx,cls _ _ (by lia) hx (by lia),cls _ _ hr hy this];rfl
      ·rw [if_neg h2]
       by_cases h3:r=y
       ·subst h3
        have:=c (k+1) y3
        rw [if_pos rfl,mx,cls _ _ x1 x3 (by lia),cls _ _ hr y3 this];rfl
       ·rw [if_neg h3];exact U.ker r (z0 _) hr c
    rw [zero,(ZbV k n).zero]
 ·by_cases ko:k<x
  ·
   refine .inl (apart ⟨fun r=>if r=k then S k ^^^ S (k+1) else S r,⟨fun r _ hr=>?_,fun r _ hr=>?_,U.inv,fun r q _ hr e l=>?_,fun r _ hr c=>?_⟩,by show (if k=k then _ else _:Nat).testBit (k+1)=false;rw [if_pos rfl];exact buv⟩)
   ·(try dsimp only)
    by_cases h1:r=k
    ·rw [if_pos h1,h1];exact luv
    ·rw [if_neg h1];exact U.lb r (z0 _) hr
   ·(try dsimp only)
    by_cases h1:r=k
    ·rw [if_pos h1];exact bx _ _ (by lia) hk
    ·rw [if_neg h1];exact bd r hr
   ·(try dsimp only)
    by_cases h1:r=k
    ·subst h1
     rw [hx] at e;cases e
     rw [if_pos rfl,if_neg x2,mx,opn _ _ hr hx l,cls _ _ hk hy (by lia),Nat.xor_zero]
    ·rw [if_neg h1,opn r q hr e l,if_neg (fun z=>?_)]
     have:=toK r hr (z ▸ e)
     lia
   ·(try dsimp only)
    by_cases h1:r=k
    ·subst h1;have:=c x hx;lia
    ·rw [if_neg h1];exact U.ker r (z0 _) hr c
  ·
   have bq:∀r,r<n->(if r=k then S k else if r=k+1 then S k ^^^ S (k+1) else S r)<2 ^ n:=fun r hr=>by
    split
    ·exact bd _ (by lia)
    ·split
     ·exact bx _ _ (by lia) hk
     ·exact bd r hr
   refine .inr ⟨fun r=>swB k n (if r=k then S k else if r=k+1 then S k ^^^ S (k+1) else S r),⟨fun r _ hr=>?_,fun r _ hr=>US _ _,U.inv,fun r q _ hr e l=>?_,fun r _ hr c=>?_⟩⟩
   ·(try dsimp only)
    by_cases h1:r=k
    ·rw [if_pos h1,h1];exact Zi6 lu hk hb
    ·rw [if_neg h1]
     by_cases h2:r=k+1
     ·rw [if_pos h2,h2];exact Zfs luv hk buv
     ·rw [if_neg h2];exact Zds (U.lb r (z0 _) hr) hr h1 h2
   ·(try dsimp only)
    rw [Zbd hk (bq r hr)]
    congr 1
    by_cases h1:r=k
    ·subst h1;rw [hx] at e;cases e;lia
    ·rw [if_neg h1]
     by_cases h2:r=k+1
     ·subst h2
      rw [hy] at e;cases e
      rw [if_pos rfl,if_neg y4,if_neg y2,mx,cls _ _ (by lia) hx (by lia),opn _ _ hr hy l,Nat.zero_xor]
     ·rw [if_neg h2,opn _ _ hr e l]
      by_cases h4:q=k
      ·rw [if_pos h4,h4]
      ·rw [if_neg h4,if_neg (fun z=>?_)]
       have:=toK1 r hr (z ▸ e)
       lia
   ·(try dsimp only)
    rw [Zbd hk (bq r hr)]
    have zero:Zy T n (if r=k then S k else if r=k+1 then S k ^^^ S (k+1) else S r)=0:=by
     by_cases h1:r=k
     ·subst h1
      rw [if_pos rfl];exact U.ker r (z0 _) hr c
     ·rw [if_neg h1]
      by_cases h2:r=k+1
      ·subst h2;have:=c y hy;lia
      ·rw [if_neg h2];exact U.ker r (z0 _) hr c
    rw [zero,(ZbV k n).zero]
end L2
namespace L2
theorem Zj8 (w a v j:Nat):(clr w a v).testBit j=(v.testBit j ^^ (v.testBit a&&w.testBit j)):=by
 unfold clr
 by_cases c:v.testBit a=true
 ·rw [if_pos c,Nat.testBit_xor,c,Bool.true_and]
 ·rw [if_neg c]
  have:v.testBit a=false:=by simpa using c
  rw [this];simp
def Zau (k n w v:Nat):Nat:=ofB n fun j=>(clr w (k+1) v).testBit (Zs k j)
theorem YU (k n w v j:Nat):(Zau k n w v).testBit j=(decide (j<n)&&(v.testBit (Zs k j) ^^ (v.testBit (k+1)&&w.testBit (Zs k j)))):=by
 unfold Zau
 rw [ZaI,Zj8]
theorem ZaP (k n w:Nat):Lin (Zau k n w) where
 zero:=Nat.eq_of_testBit_eq fun j=>by rw [YU];simp
 xor:=fun a b=>Nat.eq_of_testBit_eq fun j=>by
  rw [Nat.testBit_xor,YU,YU,YU,Nat.testBit_xor,Nat.testBit_xor]
  cases decide (j<n)<;>cases a.testBit (Zs k j)<;>cases b.testBit (Zs k j)<;>cases a.testBit (k+1)<;>cases b.testBit (k+1)<;>cases w.testBit (Zs k j)<;>rfl
theorem Ze8 {k n w r:Nat} (hr:r<n+2) (h1:r≠k) (h2:r≠k+1) (hk:k<=n):Zau k n w (2 ^ r)=2 ^ YL k r:=Nat.eq_of_testBit_eq fun j=>by
 rw [YU,Jj,Jj,Jj,decide_eq_false h2,Bool.false_and,Bool.xor_false]
 by_cases e:r=Zs k j
 ·have e2:YL k r=j:=by rw [e,Zag]
  have hj:j<n:=by rw [<- e2];exact GY hr h1 h2 hk
  rw [decide_eq_true e,decide_eq_true e2,decide_eq_true hj];rfl
 ·rw [decide_eq_false e,decide_eq_false (show ¬YL k r=j from fun z=>e (by rw [<- z,UH h1 h2])),Bool.and_false]
def ZbJ (k n:Nat) (T:Nat->Nat):Nat->Nat:=fun r=>Zau k n (T k) (T (Zs k r))
def ZcQ (k:Nat) (p:Nat->Option Nat):Nat->Option Nat:=fun r=>(p (Zs k r)).map (YL k)
theorem Up.ends {T:Nat->Nat}{n k:Nat}{S:Nat->Nat}{p:Nat->Option Nat} (U:Up T (n+2) 0 S p) (hk:k<=n) (h1:(T k).testBit (k+1)=true):p k=some (k+1):=by
 have lw:LB (T k) (k+1):=⟨h1,fun j hj=>U.high (show k<n+2 by lia) j (by lia)⟩
 obtain ⟨k',a,_,b,c,_⟩:=(U.lead k (k+1) (k+1)).mp ⟨_,Gr.mem (UZ.mpr ⟨k,Nat.le_refl _,by lia,rfl⟩),lw.mod (Nat.le_refl _)⟩
 have:k'=k:=by lia
 rw [this] at b;exact b
theorem Up.fin {T:Nat->Nat}{n k:Nat}{S:Nat->Nat}{p:Nat->Option Nat} (U:Up T (n+2) 0 S p) (hk:k<=n) (hT:T k<2 ^ (n+2)) (h1:(T k).testBit (k+1)=true):Up (ZbJ k n T) n 0 (fun r=>Zau k n (T k) (S (Zs k r))) (ZcQ k p):=by
 have z0:∀m,0<=m:=Nat.zero_le
 have pk:=U.ends hk h1
 have pk1:p (k+1)=some k:=(U.inv _ _ (z0 _) (by lia) pk).2.2.2
 have low:∀j,j<=k->(T k).testBit j=false:=fun j hj=>U.high (show k<n+2 by lia) j hj
 have tb:T k=Zy T (n+2) (2 ^ k):=(YJ T _ _ (by lia)).symm
 have w0:Zy T (n+2) (T k)=0:=by rw [tb];exact U.sqr _
 have act0:∀v,v<2 ^ (n+2)->v.testBit k=false->v.testBit (k+1)=false->Zy (ZbJ k n T) n (Zau k n (T k) v)=Zau k n (T k) (Zy T (n+2) v):=fun v hv b0 b1=>(ZaP k n (T k)).conj hv fun r hr hb=>by
  have r0:r≠k:=fun z=>by rw [z,b0] at hb;cases hb
  have r1:r≠k+1:=fun z=>by rw [z,b1] at hb;cases hb
  rw [Ze8 hr r0 r1 hk,YJ _ _ _ (GY hr r0 r1 hk)]
  unfold ZbJ
  rw [UH r0 r1]
 have act:∀v,v<2 ^ (n+2)->T k<2 ^ (n+2)->Zy (ZbJ k n T) n (Zau k n (T k) v)=Zau k n (T k) (Zy T (n+2) v):=fun v hv hT=>(ZaP k n (T k)).conj hv fun r hr _=>by
  by_cases r0:r=k
  ·subst r0
   have e1:Zau r n (T r) (2 ^ r)=0:=Nat.eq_of_testBit_eq fun j=>by
    rw [YU,Jj,Jj,decide_eq_false (show ¬r=Zs r j from fun z=>(Ji r j).1 z.symm),decide_eq_false (show ¬r=r+1 by lia)]
    simp
   have e2:Zau r n (T r) (T r)=0:=Nat.eq_of_testBit_eq fun j=>by
    rw [YU,h1]
    simp
   rw [e1,e2,Yy]
  ·by_cases r1:r=k+1
   ·subst r1
    have e1:Zau k n (T k) (2 ^ (k+1))=Zau k n (T k) (2 ^ (k+1) ^^^ T k):=by
     rw [(ZaP k n (T k)).xor]
     have e2:Zau k n (T k) (T k)=0:=Nat.eq_of_testBit_eq fun j=>by
      rw [YU,h1]
      simp
     rw [e2,Nat.xor_zero]
    rw [e1,act0 _ (Nat.xor_lt_two_pow (Nat.pow_lt_pow_right (by decide) hr) hT) (by rw [Nat.testBit_xor,Jj,low k (Nat.le_refl _),decide_eq_false (by lia)];rfl) (by rw [Nat.testBit_xor,Jj,h1,decide_eq_true rfl];rfl),YY,w0,Nat.xor_zero,YJ _ _ _ hr]
   ·rw [Ze8 hr r0 r1 hk,YJ _ _ _ (GY hr r0 r1 hk)]
    unfold ZbJ
    rw [UH r0 r1]
 have oth:∀{r q},r<n+2->r≠k->r≠k+1->p r=some q->q≠k/\q≠k+1:=fun {r q} hr r0 r1 e=>by
  have i4:=(U.inv r q (z0 _) hr e).2.2.2
  refine ⟨fun z=>?_,fun z=>?_⟩
  ·rw [z,pk] at i4;exact r1 (Option.some.inj i4).symm
  ·rw [z,pk1] at i4;exact r0 (Option.some.inj i4).symm
 have get:∀{r q},r<n->ZcQ k p r=some q->p (Zs k r)=some (Zs k q):=fun {r q} hr e=>by
  obtain ⟨q0,e0,e1⟩:=Option.map_eq_some_iff.mp e
  have:=oth (Jh hr) (Ji k r).1 (Ji k r).2 e0
  rw [e0,<- e1,UH this.1 this.2]
 have upl:∀a b,(Zs k a<Zs k b ↔ a<b):=fun a b=>by unfold Zs;(repeat' split)<;>lia
 refine ⟨fun r _ hr=>?_,fun r _ hr=>US _ _,fun r q _ hr e=>?_,fun r q _ hr e lt=>?_,fun r _ hr c=>?_⟩
 ·have x:=U.lb (Zs k r) (z0 _) (Jh hr)
  by_cases c:r<k
  ·have er:Zs k r=r:=if_pos c
   rw [er] at x
   (try dsimp only)
   rw [er]
   refine ⟨?_,fun j hj=>?_⟩
   ·rw [YU,er,x.1,low r (by lia),decide_eq_true hr];simp
   ·have ej:Zs k j=j:=if_pos (by lia)
    rw [YU,ej,x.2 j hj,low j (by lia)];simp
  ·have er:Zs k r=r+2:=if_neg c
   have b1:(S (Zs k r)).testBit (k+1)=false:=x.2 (k+1) (by rw [er];lia)
   refine ⟨?_,fun j hj=>?_⟩
   ·rw [YU,b1,x.1,decide_eq_true hr];simp
   ·rw [YU,b1,x.2 (Zs k j) ((upl j r).mpr hj)];simp
 ·have e':=get hr e
  obtain ⟨_,i2,i3,i4⟩:=U.inv _ _ (z0 _) (Jh hr) e'
  refine ⟨z0 _,?_,fun z=>i3 (by rw [z]),?_⟩
  ·have:=GY i2 (Ji k q).1 (Ji k q).2 hk
   rw [Zag] at this
   exact this
  ·show (p (Zs k q)).map (YL k)=some r
   rw [i4]
   show some (YL k (Zs k r))=some r
   rw [Zag]
 ·(try dsimp only)
  rw [act _ (U.bd _ (z0 _) (Jh hr)) hT,U.img _ _ (z0 _) (Jh hr) (get hr e) ((upl r q).mpr lt)]
 ·(try dsimp only)
  rw [act _ (U.bd _ (z0 _) (Jh hr)) hT,U.ker _ (z0 _) (Jh hr) (fun q0 e0=>?_),(ZaP k n (T k)).zero]
  have o:=oth (Jh hr) (Ji k r).1 (Ji k r).2 e0
  have:=c (YL k q0) (by show (p (Zs k r)).map (YL k)=_;rw [e0];rfl)
  have h2:=(upl (YL k q0) r).mpr this
  rw [UH o.1 o.2] at h2
  exact h2
end L2
namespace L2
open PySem PySem.Spec PyProof.Rows PyProof.V
section
variable {X:Cx}
def ZmR (K:PySem.W.Frag):R2:=fun x y H Q=>∃(p q:Addr) (ns ms:List Int),x = .ref p/\y = .ref q/\Zu K H p (ns.map V.int)/\Zu K H q (ms.map V.int)/\ns.length=ms.length/\Q (.bl (!decide (ns=ms))) H
theorem Zl8 (hu:X.A.units+64<cLine):Ub X (compareOp .NotEq) (ZmR X.K):=by
 intro pins s σ H x y v u Q I rx ry h
 obtain ⟨p,q,ns,ms,rfl,rfl,hp,hq,hl,hQ⟩:=h
 cases rx
 cases ry
 obtain ⟨its,r1,p1,_⟩:=I.list hp
 obtain ⟨its2,r2,p2,_⟩:=I.list hq
 have l1:=r1.length
 have l2:=r2.length
 rw [List.length_map] at l1 l2
 refine SeqAt.RcNeAt.lists (e:=fun j=>ns.getD j 0==ms.getD j 0) p1.isList p2.isList (by simp only [List.size_toArray];lia) (by lia) (fun j h1 h2=>?_) X.prog X.w _ _ ⟨.bl (!decide (ns=ms)),H,I,?_,hQ⟩
 ·obtain ⟨t1,e1⟩:=ZbS r1 h1
  obtain ⟨t2,e2⟩:=ZbS r2 h2
  rw [e1,e2]
  exact SeqAt.EqAt.int_int _ _ _ _
 ·show Value.bool _=Value.bool _
  congr 2
  rw [Bool.eq_iff_iff,List.all_eq_true,decide_eq_true_iff]
  constructor
  ·intro z
   refine List.ext_getElem hl fun i h1 h2=>?_
   have:=z i (List.mem_range.mpr (by simp only [List.size_toArray];lia))
   simpa [h1,h2] using this
  ·intro z i _
   rw [z]
   simp
theorem Zge {K:PySem.W.Frag} (h:X.K=K) (hu:X.A.units+64<cLine):Ub X (compareOp .NotEq) (ZmR K):=h ▸ Zl8 hu
end
end L2
namespace Qk25
open PySem L2 PyProof.Rows
def top (i:Nat):Stmt:=PySem.Challenge.pw_bendfronts_k25_partners_of_settings.main.body.getD i (.Pass ⟨0,0,0,0⟩)
section
variable {P:Program}{w:World}{K:PySem.W.Frag}{mg:Str->Option Value}{base:Heap}
def Uw:Sp:=fun vs H Q _=>∃(b:Addr) (m:Int),vs = [.ref b,.int m]/\UU H b/\1<=m/\m<1073741824 /\ ∀(d:Int) (H':Hp),0<=d->d<m->UU H' b->JV b H H'->Q (.int d) H'
abbrev Ut:Stmt:=top 19
theorem ZaL:ZH ["_law_bag_here", "_law_many", "_law_digit"] ["_law_bag_here", "_law_many"] (Zl Ut):={}
theorem ZjE {f:Addr}{fd:FuncData} (F:Jl K "_law_take" "_law_take" Ut f fd):Ys P w K mg base W3 1 f fd ["_law_bag_here", "_law_many"] Uw:=by
 refine F.ok ZaL (fun vs H Q E h=>?_) (fun cdv A outer s H vs Q E hr h=>?_)
 ·obtain ⟨b,m,rfl,_⟩:=h
  rfl
 ·obtain ⟨b,m,rfl,⟨g,r,hg,hb⟩,h1,h2,k⟩:=h
  refine ⟨_,(Ze (ZU (Zr Uu (Zx (Zm (K:=K) rfl) (pv 0) Zd (fun _ _=>rfl)) Zd (Zv _)) (Ze (Zo (i:=2) ZaL.nd rfl (Or.inl rfl) (Zj JX (Zx (Zm (K:=K) rfl) (pv 0) Zd (fun _ _=>rfl)) (pv 1)))
   (Ze (Yv (Zj ZbR (Zx (Zm (K:=K) rfl) (pv 0) Zd (fun _ _=>rfl)) (pv 1)) (YC (pv 0) Zd set_list))
   (Zg (ZD (pv 2))))) ZG)
   (Ze (Yv (Zj JX (Zj Zw (Zj Jx (Zx (Zm (K:=K) rfl) (pv 0) Zd (fun _ _=>rfl)) Zd) Zd) Zd) (YC (pv 0) Zd set_list))
   (Zg (ZD (Zj JX (Zj JX (Zj Zfq (Zj ZbR (Zx (Zm (K:=K) rfl) (pv 0) Zd (fun _ _=>rfl)) Zd) Zd) Zd) (pv 1)))))),?_⟩
  refine ⟨_,rfl,b,_,_,_,rfl,rfl,Zu.of hb,Zp (j:=0) rfl,_,_,rfl,rfl,_,rfl,?_⟩
  refine Y0 (fun hp=>?_) (fun hp=>?_)
  ·have hp':0<g:=of_decide_eq_true hp
   refine ⟨_,rfl,b,_,_,_,rfl,rfl,Zu.of hb,Zp (j:=0) rfl,_,rfl,_,_,rfl,rfl,(by omega:0<m),?_⟩
   refine ⟨_,rfl,b,_,_,_,rfl,rfl,Zu.of hb,Zp (j:=0) rfl,_,rfl,_,_,rfl,rfl,⟨by omega,by omega⟩,_,rfl,b,_,_,0,rfl,rfl,hb,rfl,?_⟩
   refine ⟨_,rfl,k _ _ (Int.emod_nonneg _ (by omega)) (Int.emod_lt_of_pos _ (by omega)) ⟨g / m,r,Int.ediv_nonneg (by omega) (by omega),Zb⟩ JV.upd⟩
  ·refine ⟨_,rfl,b,_,_,_,rfl,rfl,Zu.of hb,Zp (j:=1) rfl,_,_,rfl,rfl,.inr ⟨by decide,by decide⟩,_,_,rfl,rfl,_,_,rfl,rfl,(show (0:Int)<2147483647 by decide),_,rfl,b,_,_,1,rfl,rfl,hb,rfl,?_⟩
   have e1:0<=(r*48271+11) % 2147483647:=Int.emod_nonneg _ (by decide)
   have e2:(r*48271+11) % 2147483647<2147483647:=Int.emod_lt_of_pos _ (by decide)
   refine ⟨_,rfl,b,_,_,_,rfl,rfl,Zu.of Zb,Zp (j:=1) rfl,_,_,rfl,rfl,⟨by decide,by decide⟩,_,_,rfl,rfl,⟨by decide,by decide,by omega⟩,_,_,rfl,rfl,(show (0:Int)<2147483629 by decide),_,rfl,_,_,rfl,rfl,(by omega:0<m),?_⟩
   exact k _ _ (Int.emod_nonneg _ (by omega)) (Int.emod_lt_of_pos _ (by omega)) ⟨g,_,hg,Zb⟩ JV.upd
def Zh4 (K:PySem.W.Frag):Sp:=fun vs H Q _=>∃(a:Addr) (i:Int) (ns:List Int),vs = [.ref a,.int i]/\Zu K H a (ns.map V.int)/\0<=i/\i<1000 /\ ∀(l:Addr) (H':Hp),H l=none->Zh H H'->UU H' l->Q (.ref l) H'
abbrev Zal:Stmt:=top 18
theorem JN:ZH ["_law_script", "_law_at", "_law_cell", "_law_great", "_law_primes"] ["_law_script", "_law_at"] (Zl Zal):={}
theorem ZlM {f:Addr}{fd:FuncData} (F:Jl K "_law_bag" "_law_bag" Zal f fd) (Yi:mg "len" = none) (Zcw:mg "abs" = none):Ys P w K mg base W3 1 f fd ["_law_script", "_law_at"] (Zh4 K):=by
 refine F.ok JN (fun vs H Q E h=>?_) (fun cdv A outer s H vs Q E hr h=>?_)
 ·obtain ⟨a,i,ns,rfl,_⟩:=h
  rfl
 ·obtain ⟨a,i,ns,rfl,hS,h0,h1,k⟩:=h
  refine ⟨_,(Ze (Zo (i:=2) JN.nd rfl (Or.inl rfl) Zd)
   (Ze (ZU (Zr ZaC (pv 1) (ZE (Yj (K:=K) rfl) (by rfl) Yi PySem.boot_len (Za (pv 0) Zc)) (Zv _)) (Zg (Zo (i:=2) JN.nd rfl (Or.inl rfl) (Zx (Zm (K:=K) rfl) (pv 0) (pv 1) (fun _ _=>rfl)))) ZG)
   (Ze (Zo (i:=3) JN.nd rfl (Or.inl rfl) Zd)
   (Ze (ZU (Zr ZkP (ZE Zcz (by rfl) Zcw boot_abs (Za (pv 2) Zc)) (Zj Zfq Zd Zd) (Zv _)) (Zg (Zo (i:=3) JN.nd rfl (Or.inl rfl) (ZE Zcz (by rfl) Zcw boot_abs (Za (pv 2) Zc)))) ZG)
   (Ze (Zo (i:=4) JN.nd rfl (Or.inl rfl) (ZY (Za Zd (Za Zd (Za Zd (Za Zd (Za Zd (Za Zd (Za Zd (Za Zd Zc))))))))))
   (Zg (ZD (ZY (Za (pv 3) (Za (Zj JX (Zj Zfq (Zj Zw (Zj Zw (Zj JX (pv 2) Zd) (Zj Jx Zd (pv 1))) Zd) Zd) (Zx (Zm (K:=K) rfl) (pv 4) (Zj JX (pv 1) Zd) (fun _ _=>rfl))) Zc)))))))))),?_⟩
  refine ⟨_,rfl,_,rfl,a,_,rfl,.inl hS,_,_,rfl,rfl,_,rfl,?_⟩
  have last:∀(c:Int),0<=c % 2147483647/\c % 2147483647<2147483647:=fun c=>⟨Int.emod_nonneg _ (by decide),Int.emod_lt_of_pos _ (by decide)⟩
  have e3:0<=i % 8:=Int.emod_nonneg _ (by decide)
  have e4:i % 8<8:=Int.emod_lt_of_pos _ (by decide)
  obtain ⟨j,hj⟩:∃j:Nat,i % 8=(j:Int):=⟨(i % 8).toNat,by omega⟩
  have hj8:j<8:=by omega
  obtain ⟨q,hq,hq0⟩:∃q:Int,([V.int 2147483629,.int 2147483587,.int 2147483579,.int 2147483563,.int 2147483549,.int 2147483543,.int 2147483497,.int 2147483489]:List V)[j]? = some (.int q)/\0<q:=by
   match j,hj8 with
   | 0,_=>exact ⟨_,rfl,by decide⟩
   | 1,_=>exact ⟨_,rfl,by decide⟩
   | 2,_=>exact ⟨_,rfl,by decide⟩
   | 3,_=>exact ⟨_,rfl,by decide⟩
   | 4,_=>exact ⟨_,rfl,by decide⟩
   | 5,_=>exact ⟨_,rfl,by decide⟩
   | 6,_=>exact ⟨_,rfl,by decide⟩
   | 7,_=>exact ⟨_,rfl,by decide⟩
  have two:∀(c:Int) (B:Prop),B->(c=0 ∨ ∃j:Nat,i=(j:Int)/\ns[j]? = some c)->B:=fun _ _ b _=>b
  refine Y0 (fun hp=>?_) (fun hp=>?_)
  ·have hp':i<((ns.map V.int).length:Int):=of_decide_eq_true hp
   rw [List.length_map] at hp'
   obtain ⟨n,hn⟩:∃n:Nat,i=(n:Int):=⟨i.toNat,by omega⟩
   have hnl:n<ns.length:=by omega
   refine ⟨_,rfl,_,rfl,a,_,_,_,rfl,rfl,hS,(by rw [hn];exact Zp (v:=V.int ns[n]) (by simp [hnl])),?_⟩
   refine ⟨_,rfl,_,rfl,_,_,rfl,rfl,⟨by decide,by decide,by decide⟩,_,_,rfl,rfl,_,rfl,?_⟩
   refine Y0 (fun hp=>?_) (fun hp=>?_)
   ·refine ⟨_,rfl,_,rfl,?_⟩
    have l0:=last ns[n]
    refine ⟨(by show 8<=sizeLine;decide),fun pl hpl=>?_⟩
    refine ⟨_,rfl,_,rfl,_,_,rfl,rfl,(show (0:Int)<2147483647 by decide),_,rfl,_,_,rfl,rfl,.inl ⟨by decide,by decide⟩,_,_,rfl,rfl,_,_,rfl,rfl,_,_,rfl,rfl,⟨by decide,by decide,by omega⟩,_,rfl,_,rfl,_,_,rfl,rfl,(show (0:Int)<8 by decide),pl,_,_,_,rfl,rfl,Zu.of Zb,(by rw [hj];exact Zp hq),_,_,rfl,rfl,hq0,(by show 2<=sizeLine;decide),fun l hl=>?_⟩
    have hl0:H l=none:=(Zh.laid hpl).free hl
    exact k l _ hl0 ((Zh.laid hpl).step hl) ⟨_,_,(by split<;>omega),Zb⟩
   ·have l0:=last ns[n]
    refine ⟨(by show 8<=sizeLine;decide),fun pl hpl=>?_⟩
    refine ⟨_,rfl,_,rfl,_,_,rfl,rfl,(show (0:Int)<2147483647 by decide),_,rfl,_,_,rfl,rfl,.inl ⟨by decide,by decide⟩,_,_,rfl,rfl,_,_,rfl,rfl,_,_,rfl,rfl,⟨by decide,by decide,by omega⟩,_,rfl,_,rfl,_,_,rfl,rfl,(show (0:Int)<8 by decide),pl,_,_,_,rfl,rfl,Zu.of Zb,(by rw [hj];exact Zp hq),_,_,rfl,rfl,hq0,(by show 2<=sizeLine;decide),fun l hl=>?_⟩
    have hl0:H l=none:=(Zh.laid hpl).free hl
    exact k l _ hl0 ((Zh.laid hpl).step hl) ⟨0,_,Int.le_refl _,Zb⟩
  ·refine ⟨_,rfl,_,rfl,_,_,rfl,rfl,⟨by decide,by decide,by decide⟩,_,_,rfl,rfl,_,rfl,?_⟩
   refine Y0 (fun hp=>?_) (fun hp=>?_)
   ·exact absurd hp (by decide)
   ·have l0:=last 0
    refine ⟨(by show 8<=sizeLine;decide),fun pl hpl=>?_⟩
    refine ⟨_,rfl,_,rfl,_,_,rfl,rfl,(show (0:Int)<2147483647 by decide),_,rfl,_,_,rfl,rfl,.inl ⟨by decide,by decide⟩,_,_,rfl,rfl,_,_,rfl,rfl,_,_,rfl,rfl,⟨by decide,by decide,by omega⟩,_,rfl,_,rfl,_,_,rfl,rfl,(show (0:Int)<8 by decide),pl,_,_,_,rfl,rfl,Zu.of Zb,(by rw [hj];exact Zp hq),_,_,rfl,rfl,hq0,(by show 2<=sizeLine;decide),fun l hl=>?_⟩
    have hl0:H l=none:=(Zh.laid hpl).free hl
    exact k l _ hl0 ((Zh.laid hpl).step hl) ⟨0,_,Int.le_refl _,Zb⟩
def nX (ls:List (Str×Int)):Nat:=ls.countP fun p=>decide (p.1=("cross" : Str))
theorem Gn (a b:List (Str×Int)):nX (a++b)=nX a+nX b:=List.countP_append
theorem ZjF (a:List (Str×Int)) (k:Int):nX (a ++ [(("born" : Str),k)])=nX a:=by rw [Gn];rfl
theorem Zi4 (a:List (Str×Int)) (k:Int):nX (a ++ [(("end" : Str),k)])=nX a:=by rw [Gn];rfl
theorem Uy (a:List (Str×Int)) (k:Int):nX (a ++ [(("cross" : Str),k)])=nX a+1:=by rw [Gn];rfl
def Lo8 (ls:List (Str×Int)):Prop:=∀(a b:List (Str×Int)) (n:Int),ls=a++b->Wk a n->n<=8
def W8 (ls:List (Str×Int)) (n:Int):Prop:=Wk ls n/\Lo8 ls
theorem ZbZ {l:List (Str×Int)}{n m:Int} (a:Wk l n) (b:Wk l m):n=m:=(Zar a).symm.trans (Zar b)
theorem Lo8.snoc {ls:List (Str×Int)}{q:Str×Int}{m:Int} (x:Lo8 ls) (h:Wk (ls ++ [q]) m) (m8:m<=8):Lo8 (ls ++ [q]):=fun a b n e wa=>by
 rcases List.eq_nil_or_concat b with z | ⟨b',y,z⟩
 ·subst z
  rw [List.append_nil] at e
  rw [<- e] at wa
  rw [ZbZ wa h];exact m8
 ·subst z
  rw [List.concat_eq_append,<- List.append_assoc] at e
  exact x a b' n (List.append_inj' e rfl).1 wa
theorem Lo8.nil:Lo8 []:=fun a b n e wa=>by
 have:a = []:=(List.append_eq_nil_iff.mp e.symm).1
 subst this
 rw [ZbZ wa Wk.nil];decide
theorem Lo8.top {ls:List (Str×Int)}{n:Int} (x:Lo8 ls) (h:Wk ls n):n<=8:=x ls [] n (List.append_nil _).symm h
theorem W8.nil0:W8 [] (2*((0:Nat):Int)):=⟨Wk.nil0,Lo8.nil⟩
theorem W8.born {ls:List (Str×Int)}{n k:Int} (h:W8 ls n) (a:0<=k) (b:k<=n) (c:n+2<=8):W8 (ls ++ [((("born" : Str),k):Str×Int)]) (n+2):=⟨Wk.born h.1 a b,h.2.snoc (Wk.born h.1 a b) c⟩
theorem W8.cross {ls:List (Str×Int)}{n k:Int} (h:W8 ls n) (a:0<=k) (b:k+1<n):W8 (ls ++ [((("cross" : Str),k):Str×Int)]) n:=⟨Wk.cross h.1 a b,h.2.snoc (Wk.cross h.1 a b) (h.2.top h.1)⟩
theorem W8.fin {ls:List (Str×Int)}{n k:Int} (h:W8 ls n) (a:0<=k) (b:k+1<n):W8 (ls ++ [((("end" : Str),k):Str×Int)]) (n-2):=⟨Wk.fin h.1 a b,h.2.snoc (Wk.fin h.1 a b) (by have:=h.2.top h.1;lia)⟩
theorem GN {ls:List (Str×Int)} (n:Nat) (h:W8 ls (2*(n:Int))):∀m,m<=n->W8 (ls++List.replicate m ((("end" : Str),0):Str×Int)) (2*((n-m:Nat):Int))
 | 0,hm=>⟨ZdK n h.1 0 hm,by simpa using h.2⟩
 | m+1,hm=>by
  have w:=ZdK n h.1 (m+1) hm
  refine ⟨w,?_⟩
  rw [List.replicate_succ',<- List.append_assoc] at w ⊢
  exact (GN n h m (by lia)).2.snoc w (by have:=h.2.top h.1;lia)
theorem Zc4:∀(n:Nat),n<=4->W8 ((List.range n).map fun (k:Nat)=>((("born" : Str),2*(k:Int)):Str×Int)) (2*(n:Int))
 | 0,_=>W8.nil0
 | n+1,h=>by
  rw [List.range_succ,List.map_append,show 2*((n+1:Nat):Int)=2*(n:Int)+2 by lia]
  exact W8.born (Zc4 n (by lia)) (by lia) (Int.le_refl _) (by lia)
def ZfT (lo:Int):Sp:=fun vs H Q _=>∃(b:Addr) (m n:Int),vs = [.ref b,.int m,.int n]/\UU H b/\1<=m/\m<1000/\0<=n/\n<1000 /\ ∀(l:Addr) (H':Hp) (ls:List (Str×Int)),H l=none->UU H' b->JV b H H'->Drw H' l ls->((nX ls:Int)<=n/\Lo8 ls)->Q (.ref l) H'
def Zb6:Sp:=fun vs H Q _=>∃(b:Addr) (n:Int),vs = [.ref b,.int n]/\UU H b/\0<=n/\n<20 /\ ∀(l:Addr) (H':Hp) (ls:List (Str×Int)),H l=none->UU H' b->JV b H H'->Drw H' l ls->((nX ls:Int)<=n/\Lo8 ls)->Q (.ref l) H'
abbrev WL:Stmt:=top 20
theorem ZM:ZH ["_law_bag_here", "_law_births", "_law_most", "_law_letters", "_law_many", "_law_left", "_law_crosses", "_law_turn", "_law_way"] ["_law_bag_here", "_law_births", "_law_most"] (Zl WL):={}
theorem ZjN {f:Addr}{fd:FuncData} (F:Jl K "_law_drawing" "_law_drawing" WL f fd) (Zt:Jm P w K mg base 1 "_law_take" ["_law_bag_here", "_law_many"] Uw) (ZC:mg "range" = none):
  Ys P w K mg base W3 2 f fd ["_law_bag_here", "_law_births", "_law_most"] (ZfT 0):=by
 refine F.ok ZM (fun vs H Q E h=>?_) (fun cdv A outer s H vs Q E hr h=>?_)
 ·obtain ⟨b,m,n,rfl,_⟩:=h
  rfl
 ·obtain ⟨b,m,n,rfl,hbag,m1,m2,n1,n2,k⟩:=h
  refine ⟨_,(Ze (Zo (i:=3) ZM.nd rfl (Or.inl rfl) (ZY Zc))
   (Ze (Zo (i:=4) ZM.nd rfl (Or.inl rfl) Zd)
   (Ze (Zo (i:=5) ZM.nd rfl (Or.inl rfl) (Zj Zw Zd (Zz Zt hr (Za (pv 0) (Za (pv 1) Zc)))))
   (Ze (Zo (i:=6) ZM.nd rfl (Or.inl rfl) (Zz Zt hr (Za (pv 0) (Za (Zj Zw (pv 2) Zd) Zc))))
   (Ze (Yc PassesOwn.never rfl (Yb (by rfl) ZC (Za Zd Zc)) (Zk (i:=7) ZM.nd rfl (Or.inl rfl)) (Ze (Zo (i:=8) ZM.nd rfl (Or.inl rfl) (Zz Zt hr (Za (pv 0) (Za Zd Zc))))
   (Zg (ZU (PW.pt (Gj (Zr Uu (pv 5) Zd (Zv _)) (Gj (Zr ZaC (pv 4) Zd (Zv _)) (Gi (PW.pt (Zad (Zr YA (pv 4) Zd (Zv _)) (Uq (Zr YA (pv 8) Zd (Zv _))))))))) (Ze (Yq (Yt (K:=K) rfl (Jk PySem.F.plainAttrs_list PySem.F.slot_list_append PySem.F.type_list_append Yo (pv 3) (Za (ZN (Za ZK (Za (Zz Zt hr (Za (pv 0) (Za (Zj Zw (pv 4) Zd) Zc))) Zc))) Zc))))
   (Ze (Zo (i:=4) ZM.nd rfl (Or.inl rfl) (Zj Zw (pv 4) Zd))
   (Zg (Zo (i:=5) ZM.nd rfl (Or.inl rfl) (Zj Yr (pv 5) Zd))))) (Zg (ZU (PW.pt (Gj (Zr Uu (pv 4) Zd (Zv _)) (Gi (Zr YA (pv 8) Zd (Zv _))))) (Ze (Yq (Yt (K:=K) rfl (Jk PySem.F.plainAttrs_list PySem.F.slot_list_append PySem.F.type_list_append Yo (pv 3) (Za (ZN (Za ZK (Za (Zz Zt hr (Za (pv 0) (Za (Zj Yr (pv 4) Zd) Zc))) Zc))) Zc))))
   (Zg (Zo (i:=4) ZM.nd rfl (Or.inl rfl) (Zj Yr (pv 4) Zd)))) (Zg (ZU (PW.pt (Gj (Zr Uu (pv 4) Zd (Zv _)) (Gi (Zr Uu (pv 6) Zd (Zv _))))) (Ze (Yq (Yt (K:=K) rfl (Jk PySem.F.plainAttrs_list PySem.F.slot_list_append PySem.F.type_list_append Yo (pv 3) (Za (ZN (Za ZK (Za (Zz Zt hr (Za (pv 0) (Za (Zj Yr (pv 4) Zd) Zc))) Zc))) Zc))))
   (Zg (Zo (i:=6) ZM.nd rfl (Or.inl rfl) (Zj Yr (pv 6) Zd)))) ZG))))))))
   (Ze (Uj PassesOwn.never (Zr Uu (pv 4) Zd (Zv _)) (Ze (Yq (Yt (K:=K) rfl (Jk PySem.F.plainAttrs_list PySem.F.slot_list_append PySem.F.type_list_append Yo (pv 3) (Za (ZN (Za ZK (Za (Zz Zt hr (Za (pv 0) (Za (Zj Yr (pv 4) Zd) Zc))) Zc))) Zc))))
   (Zg (Zo (i:=4) ZM.nd rfl (Or.inl rfl) (Zj Yr (pv 4) Zd)))))
   (Zg (ZD (pv 3))))))))),?_⟩
  refine ⟨(by show 0<=sizeLine;decide),fun l hl=>?_⟩
  obtain ⟨g0,r0,hg0,hb0⟩:=id hbag
  have hlb:l≠b:=(Zf hb0 hl).symm
  have bag1:UU (upd H l (.lst [])) b:=⟨g0,r0,hg0,by rw [Zi (Ne.symm hlb)];exact hb0⟩
  refine ⟨_,rfl,_,rfl,b,m,rfl,bag1,m1,by lia,fun d1 H1 _ _ bg1 f1=>?_⟩
  refine ⟨_,_,rfl,rfl,?_⟩
  refine ⟨_,rfl,_,rfl,_,_,rfl,rfl,b,_,rfl,bg1,by lia,by lia,fun d2 H2 d20 d21 bg2 f2=>?_⟩
  have hl2:H2 l=some (.lst []):=f2 l _ (f1 l _ Zb hlb) hlb
  have fr2:JV b H H2:=fun c o e nb=>f2 c o (f1 c o (by rw [Zi (Zf e hl)];exact e) nb) nb
  refine ⟨30,rfl,by decide,by decide,YG (n:=30) (fun i σ H'=>∃(xs:List V) (ls:List (Str×Int)) (c:Nat) (lf cr:Int) (tv wv:Option V),σ = [some (.ref b),some (.int m),some (.int n),some (.ref l),some (.int (2*(c:Int))),some (.int lf),some (.int cr),tv,wv]/\c<=4/\UU H' b/\JV b H H'/\H' l=some (.lst xs)/\ZI H' xs ls/\W8 ls (2*(c:Int))/\ls.length<=i/\(nX ls:Int)+cr<=n/\0<=cr)
   ⟨[],[],0,_,_,none,none,rfl,by decide,bg2,fr2,hl2,.nil,W8.nil0,Nat.le_refl _,(by show ((0:Nat):Int)+d2<=n;lia),d20⟩ ?_ ?_⟩
  ·rintro i σ H3 hi ⟨xs,ls,c,lf,cr,tv,wv,rfl,hc,bg3,fr3,hl3,hL,hW,hlen,hx,hx0⟩
   have hxl:xs.length<sizeLine:=by
    rw [hL.len]
    exact ZV (by lia)
   refine ⟨_,rfl,b,8,rfl,bg3,by decide,by decide,fun wy H4 _ _ bg4 f4=>?_⟩
   have hl4:H4 l=some (.lst xs):=f4 l _ hl3 hlb
   have fr4:JV b H H4:=fr3.trans f4
   have hL4:ZI H4 xs ls:=hL.frm f4 bg3
   dsimp only [W0]
   refine ZdB (ZcI (β:=decide (0<lf)) (fun Q q=>⟨_,rfl,_,_,rfl,rfl,_,rfl,q⟩) fun _=>ZcI (β:=decide (2*(c:Int)<7)) (fun Q q=>⟨_,rfl,_,_,rfl,rfl,_,rfl,q⟩) fun _=>ZmV (fun Q q=>⟨_,rfl,rfl,_,rfl,q⟩) fun _=>(fun Q q=>⟨_,rfl,rfl,_,rfl,q⟩)) (fun hp=>?_) (fun _=>?_)
   ·
    have hp1:2*(c:Int)<7:=by
     simp only [Bool.and_eq_true,decide_eq_true_eq] at hp
     exact hp.2.1
    refine ⟨_,rfl,.inl ⟨rfl,_,Zu.of hl4⟩,_,rfl,_,rfl,_,_,rfl,rfl,b,_,rfl,bg4,by lia,by lia,fun d H5 hd0 hd1 bg5 f5=>⟨(by show 2<=sizeLine;decide),fun t ht=>?_⟩⟩
    obtain ⟨a1,a2,a3,a4,a5⟩:=Wl "born" d fr4 bg4 hl4 hL4 hlb hl f5 bg5 ht
    refine ⟨l,_,_,rfl,rfl,a1,hxl,_,rfl,_,_,rfl,rfl,_,rfl,_,_,rfl,rfl,?_⟩
    refine ⟨xs ++ [.ref t],ls ++ [((("born" : Str),d):Str×Int)],c+1,lf-1,cr,some (.int (0+(i:Int))),some (.int wy),?_,by lia,a2,a3,a4,a5,?_,by rw [List.length_append,List.length_singleton];lia,by rw [ZjF];exact hx,hx0⟩
    ·have e:2*((c+1:Nat):Int)=2*(c:Int)+2:=by lia
     rw [e]
     rfl
    ·have e:2*((c+1:Nat):Int)=2*(c:Int)+2:=by lia
     rw [e]
     exact W8.born hW hd0 (by lia) (by lia)
   ·refine ZdB (ZcI (β:=decide (2<2*(c:Int))) (fun Q q=>⟨_,rfl,_,_,rfl,rfl,_,rfl,q⟩) fun _=>(fun Q q=>⟨_,rfl,rfl,_,rfl,q⟩)) (fun hp=>?_) (fun _=>?_)
    ·
     have hp1:2<2*(c:Int):=by
      simp only [Bool.and_eq_true,decide_eq_true_eq] at hp
      exact hp.1
     refine ⟨_,rfl,.inl ⟨rfl,_,Zu.of hl4⟩,_,rfl,_,rfl,_,_,rfl,rfl,b,_,rfl,bg4,by lia,by lia,fun d H5 hd0 hd1 bg5 f5=>⟨(by show 2<=sizeLine;decide),fun t ht=>?_⟩⟩
     obtain ⟨a1,a2,a3,a4,a5⟩:=Wl "end" d fr4 bg4 hl4 hL4 hlb hl f5 bg5 ht
     refine ⟨l,_,_,rfl,rfl,a1,hxl,_,rfl,_,_,rfl,rfl,?_⟩
     have e:2*((c-1:Nat):Int)=2*(c:Int)-2:=by lia
     refine ⟨xs ++ [.ref t],ls ++ [((("end" : Str),d):Str×Int)],c-1,lf,cr,some (.int (0+(i:Int))),some (.int wy),?_,by lia,a2,a3,a4,a5,?_,by rw [List.length_append,List.length_singleton];lia,by rw [Zi4];exact hx,hx0⟩
     ·rw [e]
      rfl
     ·rw [e]
      exact W8.fin hW hd0 (by lia)
    ·refine ZdB (ZcI (β:=decide (1<2*(c:Int))) (fun Q q=>⟨_,rfl,_,_,rfl,rfl,_,rfl,q⟩) fun _=>(fun Q q=>⟨_,rfl,_,_,rfl,rfl,_,rfl,q⟩)) (fun hp=>?_) (fun _=>?_)
     ·
      have hp1:1<2*(c:Int):=by
       simp only [Bool.and_eq_true,decide_eq_true_eq] at hp
       exact hp.1
      have hcr:0<cr:=by
       simp only [Bool.and_eq_true,decide_eq_true_eq] at hp
       exact hp.2
      refine ⟨_,rfl,.inl ⟨rfl,_,Zu.of hl4⟩,_,rfl,_,rfl,_,_,rfl,rfl,b,_,rfl,bg4,by lia,by lia,fun d H5 hd0 hd1 bg5 f5=>⟨(by show 2<=sizeLine;decide),fun t ht=>?_⟩⟩
      obtain ⟨a1,a2,a3,a4,a5⟩:=Wl "cross" d fr4 bg4 hl4 hL4 hlb hl f5 bg5 ht
      refine ⟨l,_,_,rfl,rfl,a1,hxl,_,rfl,_,_,rfl,rfl,?_⟩
      exact ⟨xs ++ [.ref t],ls ++ [((("cross" : Str),d):Str×Int)],c,_,_,_,_,rfl,hc,a2,a3,a4,a5,W8.cross hW hd0 (by lia),by rw [List.length_append,List.length_singleton];lia,by rw [Uy];lia,by lia⟩
     ·exact ⟨xs,ls,c,_,_,_,_,rfl,hc,bg4,fr4,hl4,hL4,hW,by lia,hx,hx0⟩
  ·
   rintro σ H3 ⟨xs,ls,c,lf,cr,tv,wv,rfl,hc,bg3,fr3,hl3,hL,hW,hlen,hx,hx0⟩
   refine ZcG (fun σ H'=>∃(xs:List V) (ls:List (Str×Int)) (c:Nat),σ = [some (.ref b),some (.int m),some (.int n),some (.ref l),some (.int (2*(c:Int))),some (.int lf),some (.int cr),tv,wv]/\c<=4/\UU H' b/\JV b H H'/\H' l=some (.lst xs)/\ZI H' xs ls/\W8 ls (2*(c:Int))/\ls.length+c<=34/\(nX ls:Int)<=n)
    (fun (σ:L2.St) _=>match σ[4]? with | some (some (V.int m))=>m.toNat | _=>0) ⟨xs,ls,c,rfl,hc,bg3,fr3,hl3,hL,hW,by lia,by lia⟩ ?_ ?_
   ·rintro σ H4 ⟨xs,ls,c,rfl,hc,bg4,fr4,hl4,hL4,hW,hlen,hx⟩
    have hxl:xs.length<sizeLine:=by
     rw [hL4.len]
     exact ZV (by lia)
    refine ⟨_,rfl,_,_,rfl,rfl,_,rfl,?_⟩
    refine Y0 (fun hp=>?_) (fun hp=>?_)
    ·have hp1:0<2*(c:Int):=of_decide_eq_true hp
     refine ⟨_,rfl,.inl ⟨rfl,_,Zu.of hl4⟩,_,rfl,_,rfl,_,_,rfl,rfl,b,_,rfl,bg4,by lia,by lia,fun d H5 hd0 hd1 bg5 f5=>⟨(by show 2<=sizeLine;decide),fun t ht=>?_⟩⟩
     obtain ⟨a1,a2,a3,a4,a5⟩:=Wl "end" d fr4 bg4 hl4 hL4 hlb hl f5 bg5 ht
     refine ⟨l,_,_,rfl,rfl,a1,hxl,_,rfl,_,_,rfl,rfl,?_⟩
     have e:2*((c-1:Nat):Int)=2*(c:Int)-2:=by lia
     refine ⟨⟨xs ++ [.ref t],ls ++ [((("end" : Str),d):Str×Int)],c-1,?_,by lia,a2,a3,a4,a5,?_,by rw [List.length_append,List.length_singleton];lia,by rw [Zi4];exact hx⟩,?_⟩
     ·rw [e]
      rfl
     ·rw [e]
      exact W8.fin hW hd0 (by lia)
     ·show (2*(c:Int)-2).toNat<(2*(c:Int)).toNat
      lia
    ·have hp1:¬ 0<2*(c:Int):=fun z=>hp (decide_eq_true z)
     have hc0:c=0:=by lia
     subst hc0
     refine ⟨_,rfl,k l H4 ls hl bg4 fr4 ⟨xs,hl4,hL4,by simpa using hW.1,by lia⟩ ⟨hx,by simpa using hW.2⟩⟩
   ·rintro σ H Q Q' f ⟨v,e,i,j,e1,e2,kk,e3,q⟩
    exact ⟨v,e,i,j,e1,e2,kk,e3,f _ _ q⟩
abbrev Wc:Stmt:=top 21
theorem Js:ZH ["_law_bag_here", "_law_most", "_law_births", "_law_letters", "_law_turn", "_law_k"] ["_law_bag_here", "_law_most"] (Zl Wc):={}
theorem ZjS {f:Addr}{fd:FuncData} (F:Jl K "_law_plat" "_law_plat" Wc f fd) (Zt:Jm P w K mg base 1 "_law_take" ["_law_bag_here", "_law_many"] Uw) (ZC:mg "range" = none):
  Ys P w K mg base W3 2 f fd ["_law_bag_here", "_law_most"] Zb6:=by
 refine F.ok Js (fun vs H Q E h=>?_) (fun cdv A outer s H vs Q E hr h=>?_)
 ·obtain ⟨b,n,rfl,_⟩:=h
  rfl
 ·obtain ⟨b,n,rfl,hbag,n1,n2,k⟩:=h
  refine ⟨_,(Ze (Zo (i:=2) Js.nd rfl (Or.inl rfl) (Zj Zw Zd (Zz Zt hr (Za (pv 0) (Za Zd Zc)))))
   (Ze (GZ (i:=3) Js.nd rfl (Or.inl rfl) (Ls:=["_law_k"]) (Fs:=[]) (fi:=[]) (ZR.of (show Ym ["_law_bag_here", "_law_most", "_law_births", "_law_letters", "_law_turn", "_law_k"] (Zl Wc) _ [] []=true by decide +kernel)) rfl (Yb (by rfl) ZC (Za (pv 2) Zc)) (fun cl C s3 H3 ex=>⟨(Zk (i:=0) (show ((["_law_k"]:List Str)++([]:List Str)).Nodup by decide +kernel) rfl (Or.inl rfl)),Yh,(ZN (Za ZK (Za (Zj Jx Zd (pv 0)) Zc)))⟩))
   (Ze (Yc PassesOwn.never rfl (Yb (by rfl) ZC (Za (Zz Zt hr (Za (pv 0) (Za (Zj Zw (pv 1) Zd) Zc))) Zc)) (Zk (i:=4) Js.nd rfl (Or.inl rfl)) (Ze (Zo (i:=5) Js.nd rfl (Or.inl rfl) (Zz Zt hr (Za (pv 0) (Za (Zj Yr (Zj Jx Zd (pv 2)) Zd) Zc))))
   (Ze (ZU (PW.pt (Gj (Zr Uu (pv 2) Zd (Zv _)) (Gi (Zr YA (Zz Zt hr (Za (pv 0) (Za Zd Zc))) Zd (Zv _))))) (Zg (Zo (i:=5) Js.nd rfl (Or.inl rfl) (Zj Zw (Zj Jx Zd (Zj JX (Zj ZbR (pv 5) Zd) (Zj Yr (pv 2) Zd))) Zd))) ZG)
   (Zg (Yq (Yt (K:=K) rfl (Jk PySem.F.plainAttrs_list PySem.F.slot_list_append PySem.F.type_list_append Yo (pv 3) (Za (ZN (Za ZK (Za (pv 5) Zc))) Zc))))))))
   (Zg (ZD (Zj Gp (pv 3) (Gz (Ls:=["_law_k"]) (Fs:=[]) (fi:=[]) (ZR.of (show Ym ["_law_bag_here", "_law_most", "_law_births", "_law_letters", "_law_turn", "_law_k"] (Zl Wc) _ [] []=true by decide +kernel)) rfl (Yb (by rfl) ZC (Za (pv 2) Zc)) (fun cl C s3 H3 ex=>⟨(Zk (i:=0) (show ((["_law_k"]:List Str)++([]:List Str)).Nodup by decide +kernel) rfl (Or.inl rfl)),Yh,(ZN (Za ZK (Za Zd Zc)))⟩)))))))),?_⟩
  refine ⟨_,rfl,b,3,rfl,hbag,by decide,by decide,fun d H1 hd0 hd1 bg1 f1=>?_⟩
  refine ⟨_,_,rfl,rfl,?_⟩
  have hc1:1<=(1+d).toNat:=by lia
  have hc2:(1+d).toNat<=3:=by lia
  refine ⟨_,rfl,_,rfl,by lia,by lia,Zav (n:=(1+d).toNat) (Nat.le_of_lt (ZV (by lia))) (fun i ys H'=>Zh H1 H'/\ZI H' ys ((List.range i).map fun (j:Nat)=>(("born", 2*(j:Int)):Str×Int))) ⟨Zh.refl _,.nil⟩
   (fun i ys H' p=>by rw [p.2.len];simp) (fun i ys H' hi p=>?_) (fun ys H2 p l hl=>?_)⟩
  ·refine lcG ?_
   refine ⟨_,rfl,_,_,rfl,rfl,.inl ⟨by decide,by decide⟩,(by show 2<=sizeLine;decide),fun t ht=>⟨p.1.step ht,?_⟩⟩
   rw [List.range_succ,List.map_append]
   have e:(2*(0+(i:Int)))=2*(i:Int):=by lia
   refine ZI.snoc (p.2.same (Zh.laid ht)) ?_
   rw [<- e]
   exact Zb
  ·
   obtain ⟨sm,hL0⟩:=p
   obtain ⟨g0,r0,hg0,hb0⟩:=id bg1
   have hb2:H2 b=some (.lst [.int g0,.int r0]):=sm b _ hb0
   have hlb:l≠b:=(Zf hb2 hl).symm
   have bg2:UU (upd H2 l (.lst ys)) b:=⟨g0,r0,hg0,by rw [Zi (Ne.symm hlb)];exact hb2⟩
   have hlH:H l=none:=f1.free bg1 (sm.free hl)
   have fr2:JV b H (upd H2 l (.lst ys)):=(f1.trans sm.frm).new hl
   have hL2:ZI (upd H2 l (.lst ys)) ys ((List.range (1+d).toNat).map fun (j:Nat)=>(("born", 2*(j:Int)):Str×Int)):=hL0.same (Zh.laid hl)
   refine ⟨_,rfl,_,rfl,_,_,rfl,rfl,b,_,rfl,bg2,by lia,by lia,fun d2 H3 he0 he1 bg3 f3=>?_⟩
   refine ⟨_,rfl,by lia,by lia,YG (n:=d2.toNat) (fun i σ H'=>∃(xs:List V) (ls:List (Str×Int)) (tv kv:Option V),σ = [some (.ref b),some (.int n),some (.int (1+d)),some (.ref l),tv,kv]/\UU H' b/\JV b H H'/\H' l=some (.lst xs)/\ZI H' xs ls/\W8 ls (2*((1+d).toNat:Int))/\ls.length<=3+i/\nX ls<=i)
    ⟨ys,_,none,none,rfl,bg3,fr2.trans f3,f3 l _ Zb hlb,hL2.frm f3 bg2,Zc4 _ (by lia),by rw [List.length_map,List.length_range];lia,by unfold nX;rw [List.countP_map];refine Nat.le_of_eq (List.countP_eq_zero.mpr fun _ _=>by simp;decide)⟩ ?_ ?_⟩
   ·rintro i σ H4 hi ⟨xs,ls,tv,kv,rfl,bg4,fr4,hl4,hL4,hW,hlen,hx⟩
    have hxl:xs.length<sizeLine:=by
     rw [hL4.len]
     exact ZV (by lia)
    refine ⟨_,rfl,_,rfl,_,_,rfl,rfl,.inl ⟨by decide,by decide⟩,_,_,rfl,rfl,b,_,rfl,bg4,by lia,by lia,fun k1 H5 hk0 hk1 bg5 f5=>?_⟩
    have hl5:H5 l=some (.lst xs):=f5 l _ hl4 hlb
    have fr5:JV b H H5:=fr4.trans f5
    have hL5:ZI H5 xs ls:=hL4.frm f5 bg4
    refine ⟨_,rfl,_,_,rfl,rfl,_,rfl,?_⟩
    refine Y0 (fun hp=>?_) (fun hp=>?_)
    ·have hp1:1<1+d:=of_decide_eq_true hp
     refine ⟨_,rfl,b,2,rfl,bg5,by decide,by decide,fun d3 H6 _ _ bg6 f6=>⟨rfl,_,rfl,?_⟩⟩
     have hl6:H6 l=some (.lst xs):=f6 l _ hl5 hlb
     have fr6:JV b H H6:=fr5.trans f6
     have hL6:ZI H6 xs ls:=hL5.frm f6 bg5
     refine Y0 (fun hq=>?_) (fun hq=>?_)
     ·refine ⟨_,rfl,_,_,rfl,rfl,⟨by decide,by decide⟩,_,rfl,_,_,rfl,rfl,_,_,rfl,rfl,(show (0:Int)<1+d-1 by lia),_,_,rfl,rfl,.inl ⟨by decide,by decide⟩,_,_,rfl,rfl,?_⟩
      have z0:0<=k1 / 2 % (1+d-1):=Int.emod_nonneg _ (by lia)
      have z1:k1 / 2 % (1+d-1)<1+d-1:=Int.emod_lt_of_pos _ (by lia)
      refine ⟨_,rfl,.inl ⟨rfl,_,Zu.of hl6⟩,_,rfl,(by show 2<=sizeLine;decide),fun t ht=>?_⟩
      obtain ⟨a1,a2,a3,a4,a5⟩:=Wl "cross" (2*(k1 / 2 % (1+d-1))+1) fr6 bg6 hl6 hL6 hlb hlH (JV.refl b H6) bg6 ht
      refine ⟨l,_,_,rfl,rfl,a1,hxl,?_⟩
      exact ⟨xs ++ [.ref t],_,_,_,rfl,a2,a3,a4,a5,W8.cross hW (by lia) (by lia),by rw [List.length_append,List.length_singleton];lia,by rw [Uy];lia⟩
     ·refine ⟨_,rfl,.inl ⟨rfl,_,Zu.of hl6⟩,_,rfl,(by show 2<=sizeLine;decide),fun t ht=>?_⟩
      obtain ⟨a1,a2,a3,a4,a5⟩:=Wl "cross" k1 fr6 bg6 hl6 hL6 hlb hlH (JV.refl b H6) bg6 ht
      refine ⟨l,_,_,rfl,rfl,a1,hxl,?_⟩
      exact ⟨xs ++ [.ref t],_,_,_,rfl,a2,a3,a4,a5,W8.cross hW (by lia) (by lia),by rw [List.length_append,List.length_singleton];lia,by rw [Uy];lia⟩
    ·refine ⟨_,rfl,.inl ⟨rfl,_,Zu.of hl5⟩,_,rfl,(by show 2<=sizeLine;decide),fun t ht=>?_⟩
     obtain ⟨a1,a2,a3,a4,a5⟩:=Wl "cross" k1 fr5 bg5 hl5 hL5 hlb hlH (JV.refl b H5) bg5 ht
     refine ⟨l,_,_,rfl,rfl,a1,hxl,?_⟩
     exact ⟨xs ++ [.ref t],_,_,_,rfl,a2,a3,a4,a5,W8.cross hW (by lia) (by lia),by rw [List.length_append,List.length_singleton];lia,by rw [Uy];lia⟩
   ·rintro σ H4 ⟨xs,ls,tv,kv,rfl,bg4,fr4,hl4,hL4,hW,hlen,hx⟩
    refine ⟨_,rfl,_,rfl,_,rfl,by lia,by lia,Zav (n:=(1+d).toNat) (Nat.le_of_lt (ZV (by lia))) (fun i ys H'=>Zh H4 H'/\ZI H' ys (List.replicate i ((("end" : Str),0):Str×Int))) ⟨Zh.refl _,.nil⟩
     (fun i ys H' p=>by rw [p.2.len];simp) (fun i ys H' hi p=>?_) (fun zs H5 p D hD=>?_)⟩
    ·refine lcG ?_
     refine ⟨(by show 2<=sizeLine;decide),fun t ht=>⟨p.1.step ht,?_⟩⟩
     rw [List.replicate_succ']
     exact ZI.snoc (p.2.same (Zh.laid ht)) Zb
    ·obtain ⟨sm5,hZ⟩:=p
     have hl5:H5 l=some (.lst xs):=sm5 l _ hl4
     have hZl:=hZ.len
     rw [List.length_replicate] at hZl
     have hXl:=hL4.len
     refine ⟨l,D,xs,zs,rfl,rfl,(by rw [Zi (Zf hl5 hD)];exact hl5),Zb,Nat.le_of_lt (ZV (by lia)),fun p hp=>?_⟩
     have sm6:Zh H4 (upd (upd H5 D (.lst zs)) p (.lst (xs++zs))):=(sm5.step hD).step hp
     have hpH:H p=none:=fr4.free bg4 ((sm5.step hD).free hp)
     obtain ⟨g4,r4,hg4,hb4⟩:=id bg4
     refine k p _ (ls++List.replicate (1+d).toNat ((("end" : Str),0):Str×Int)) hpH ⟨g4,r4,hg4,sm6 b _ hb4⟩ (fr4.trans sm6.frm) ⟨xs++zs,Zb,?_,?_,?_⟩ ⟨by
      rw [Gn]
      have:nX (List.replicate (1+d).toNat ((("end" : Str),0):Str×Int))=0:=List.countP_eq_zero.mpr fun a ha=>by rw [(List.mem_replicate.mp ha).2];decide
      lia,(GN _ hW (1+d).toNat (Nat.le_refl _)).2⟩
     ·exact (hL4.same sm6).append (hZ.same ((Zh.laid hD).step hp))
     ·have:=(GN _ hW (1+d).toNat (Nat.le_refl _)).1
      simpa using this
     ·rw [List.length_append,List.length_replicate]
      lia
abbrev Zap:Stmt:=top 22
theorem Ze0:ZH ["_law_bag_here", "_law_most"] ["_law_bag_here", "_law_most"] (Zl Zap):={}
theorem ZlT {f:Addr}{fd:FuncData} (F:Jl K "_law_any" "_law_any" Zap f fd) (Zt:Jm P w K mg base 1 "_law_take" ["_law_bag_here", "_law_many"] Uw) (JQ:Jm P w K mg base 2 "_law_plat" ["_law_bag_here", "_law_most"] Zb6)
  (WW:Jm P w K mg base 2 "_law_drawing" ["_law_bag_here", "_law_births", "_law_most"] (ZfT 0)):Ys P w K mg base W3 3 f fd ["_law_bag_here", "_law_most"] Zb6:=by
 refine F.ok Ze0 (fun vs H Q E h=>?_) (fun cdv A outer s H vs Q E hr h=>?_)
 ·obtain ⟨b,n,rfl,_⟩:=h
  rfl
 ·obtain ⟨b,n,rfl,hbag,n1,n2,k⟩:=h
  refine ⟨_,(Ze (ZU (Zr YA (Zz Zt hr (Za (pv 0) (Za Zd Zc))) Zd (Zv _)) (Zg (ZD (Zz JQ hr (Za (pv 0) (Za (pv 1) Zc))))) ZG)
   (Zg (ZD (Zz WW hr (Za (pv 0) (Za Zd (Za (pv 1) Zc))))))),?_⟩
  refine ⟨_,rfl,b,3,rfl,hbag,by decide,by decide,fun d H1 _ _ bg1 f1=>⟨rfl,_,rfl,?_⟩⟩
  refine Y0 (fun _=>?_) (fun _=>?_)
  ·exact ⟨_,rfl,_,rfl,b,n,rfl,bg1,n1,n2,fun l H2 ls hl bg2 f2 dr nx=>k l H2 ls (f1.free bg1 hl) bg2 (f1.trans f2) dr nx⟩
  ·exact ⟨_,rfl,_,rfl,b,4,n,rfl,bg1,by decide,by decide,n1,by lia,fun l H2 ls hl bg2 f2 dr nx=>k l H2 ls (f1.free bg1 hl) bg2 (f1.trans f2) dr nx⟩
abbrev Uo:Stmt:=top 23
theorem Y5:ZH ["_law_drawing_here", "_law_rows_here", "_law_born", "_law_word", "_law_k", "_law_row"] ["_law_drawing_here"] (Zl Uo):={}
theorem ZkB {f:Addr}{fd:FuncData} (F:Jl K "_law_rows" "_law_rows" Uo f fd) (Yu:mg "list" = none):Ys P w K mg base W3 1 f fd ["_law_drawing_here"] Zb0:=by
 refine F.ok Y5 (fun vs H Q E h=>?_) (fun cdv A outer s H vs Q E hr h=>?_)
 ·obtain ⟨l,xs,ls,rfl,_⟩:=h
  rfl
 ·obtain ⟨l,xs,ls,rfl,hl,hL,hlen,hW,k⟩:=h
  refine ⟨_,(Ze (Zo (i:=1) Y5.nd rfl (Or.inl rfl) (ZY (Za (ZY Zc) Zc)))
   (Ze (Zo (i:=2) Y5.nd rfl (Or.inl rfl) Zd)
   (Ze (Yc PassesOwn.never rfl (Z8 (K:=K) rfl (pv 0)) (Ye (K:=K) (n:=2) rfl rfl (Zq (Zk (i:=3) Y5.nd rfl (Or.inl rfl)) (Zq (Zk (i:=4) Y5.nd rfl (Or.inl rfl)) Z6))) (Ze (Zo (i:=5) Y5.nd rfl (Or.inl rfl) (Yf (WN (K:=K) rfl) (by rfl) Yu boot_list (Za (Zx (Zm (K:=K) rfl) (pv 1) (Zbu Um Zd) (fun _ _=>rfl)) Zc)))
   (Ze (ZU (Zr YA (pv 3) ZK (Zv _)) (Ze (Yq (Yt (K:=K) rfl (Jk PySem.F.plainAttrs_list PySem.F.slot_list_insert PySem.F.type_list_insert Zdf (pv 5) (Za (pv 4) (Za (Zj Zw (pv 2) Zd) Zc)))))
   (Ze (Yq (Yt (K:=K) rfl (Jk PySem.F.plainAttrs_list PySem.F.slot_list_insert PySem.F.type_list_insert Zdf (pv 5) (Za (pv 4) (Za (pv 2) Zc)))))
   (Zg (Zo (i:=2) Y5.nd rfl (Or.inl rfl) (Zj Zw (pv 2) Zd))))) (Zg (ZU (Zr YA (pv 3) ZK (Zv _)) (Zg (Yv (ZN (Za (Zx (Zm (K:=K) rfl) (pv 5) (Zj Zw (pv 4) Zd) (fun _ _=>rfl)) (Za (Zx (Zm (K:=K) rfl) (pv 5) (pv 4) (fun _ _=>rfl)) Zc))) (Ye (K:=K) (n:=2) rfl rfl (Zq (YC (pv 5) (pv 4) set_list) (Zq (YC (pv 5) (Zj Zw (pv 4) Zd) set_list) Z6))))) (Ze (Yq (Yt (K:=K) rfl (Jk PySem.F.plainAttrs_list PySem.F.slot_list_pop PySem.F.type_list_pop ZcB (pv 5) (Za (pv 4) Zc))))
   (Zg (Yq (Yt (K:=K) rfl (Jk PySem.F.plainAttrs_list PySem.F.slot_list_pop PySem.F.type_list_pop ZcB (pv 5) (Za (pv 4) Zc)))))))))
   (Zg (Yq (Yt (K:=K) rfl (Jk PySem.F.plainAttrs_list PySem.F.slot_list_append PySem.F.type_list_append Yo (pv 1) (Za (pv 5) Zc))))))))
   (Zg (ZD (pv 1)))))),?_⟩
  have hxl:=hL.len
  refine ⟨(by show 0<=sizeLine;decide),fun e0 he0=>⟨(by show 1<=sizeLine;decide),fun R hR=>?_⟩⟩
  have hRH:H R=none:=(Zh.laid he0).free hR
  have hRe:e0≠R:=Zf (Zb (H:=H) (a:=e0) (o:=.lst [])) hR
  have sm0:Zh H (upd (upd H e0 (.lst [])) R (.lst [.ref e0])):=(Zh.laid he0).step hR
  refine ⟨_,rfl,l,rfl,⟨_,Zu.of (sm0 l _ hl)⟩,Uz (K:=K) (a:=l) (xs:=xs) (fun i σ H'=>∃(ys:List V) (v3 v4 v5:Option V),σ = [some (.ref l),some (.ref R),some (.int (rb (ls.take i)).2),v3,v4,v5]/\Zh H H'/\H' R=some (.lst ys)/\Jt H' ys (rowsOf ls (i+1))/\(∀t,V.ref t∈ys->H t=none/\t≠R)/\ys.Nodup)
   ⟨[.ref e0],none,none,none,rfl,sm0,Zb,?_,?_,by simp⟩ (fun i σ H' _ ⟨_,_,_,_,_,sm,_⟩=>Zu.of (sm l _ hl)) ?_ ?_⟩
  ·refine Paired.cons ⟨e0,rfl,?_⟩ .nil
   rw [Zi hRe,Zb]
   rfl
  ·intro t ht
   have:t=e0:=V.ref.inj (List.mem_singleton.mp ht)
   subst this
   exact ⟨he0,hRe⟩
  ·rintro i x σ H' hx ⟨ys,v3,v4,v5,rfl,sm,hR',rv,ap,nd⟩
   obtain ⟨⟨qx,qk⟩,tl,hq,rfl,htl⟩:=hL.get hx
   have htl':=sm tl _ htl
   have hi:i<ls.length:=(List.getElem?_eq_some_iff.mp hq).1
   obtain ⟨ztk,cases3⟩:=Ze3 hW hq
   have rv':=rv
   rw [ZbB] at rv'
   obtain ⟨ys0,t,rfl,ht⟩:=rv'.last
   have hyl:(ys0 ++ [V.ref t]).length<sizeLine:=by
    rw [rv.len]
    unfold rowsOf
    rw [List.length_map,List.length_range]
    exact ZV (by lia)
   have rl:((rb (ls.take i)).1.map V.int).length=(rb (ls.take i)).1.length:=List.length_map _
   obtain ⟨m,hm⟩:=UY hW i
   have r8:(rb (ls.take i)).1.length<=900:=by
    have z1:=Zar hm
    have z2:=Zgj hm
    rw [List.length_take] at z2
    lia
   refine ⟨tl,_,rfl,JZ.of htl',rfl,_,_,rfl,_,_,rfl,rfl,?_⟩
   refine ⟨_,rfl,1,rfl,R,_,_,_,rfl,rfl,Zu.of hR',Ziy _ _,t,_,rfl,.inl (Zu.of ht),fun w hw=>?_⟩
   have hwR:w≠R:=(Zf hR' hw).symm
   refine ⟨_,rfl,rfl,_,rfl,?_⟩
   rcases cases3 with ⟨e,b0,b1⟩ | ⟨e,b0,b1⟩ | ⟨e,b0,b1⟩
   ·have e:qx = "born" := e
    subst e
    refine Y0 (fun _=>?_) (fun hn=>absurd (by simp) hn)
    have b0':0<=qk:=b0
    have b1':qk<=((rb (ls.take i)).1.length:Int):=b1
    refine ⟨_,rfl,.inl ⟨rfl,_,Zu.of Zb⟩,_,rfl,_,rfl,_,_,rfl,rfl,w,_,qk,_,rfl,rfl,Zb,b0',(by rw [rl];exact b1'),(by rw [rl];exact ZV (by lia)),(by rw [rl];lia),?_⟩
    have rl2:(((rb (ls.take i)).1.map V.int).take qk.toNat++V.int ((rb (ls.take i)).2+1)::((rb (ls.take i)).1.map V.int).drop qk.toNat).length=(rb (ls.take i)).1.length+1:=by
     rw [List.length_append,List.length_cons,List.length_take,List.length_drop,rl]
     lia
    refine ⟨_,rfl,.inl ⟨rfl,_,Zu.of Zb⟩,_,rfl,_,rfl,w,_,qk,_,rfl,rfl,Zb,b0',(by rw [rl2];lia),(by rw [rl2];exact ZV (by lia)),(by rw [rl2];lia),?_⟩
    refine ⟨_,rfl,_,_,rfl,rfl,?_⟩
    rw [J7,J7,ZjL _ _ _ _ (by rw [rl];lia)]
    have hR2:(upd H' w (.lst (((rb (ls.take i)).1.map V.int).take qk.toNat ++ [.int (rb (ls.take i)).2,.int ((rb (ls.take i)).2+1)]++((rb (ls.take i)).1.map V.int).drop qk.toNat))) R=some (.lst (ys0 ++ [.ref t])):=(Zh.laid hw) R _ hR'
    refine ⟨_,rfl,.inl ⟨rfl,_,Zu.of hR2⟩,_,rfl,R,_,_,rfl,rfl,hR2,hyl,?_⟩
    obtain ⟨z1,z2,z3,z4⟩:=Zbl (G:=upd (upd H' w (.lst (((rb (ls.take i)).1.map V.int).take qk.toNat ++ [.int (rb (ls.take i)).2,.int ((rb (ls.take i)).2+1)]++((rb (ls.take i)).1.map V.int).drop qk.toNat))) R (.lst ((ys0 ++ [.ref t]) ++ [.ref w]))) hRH sm rv ap nd hw hwR (fun c o e n=>by
      rw [Zi n]
      exact (Zh.laid hw) c _ e) (by
      rw [Zi hwR,Zb,ztk,JI,GB]
      simp [List.map_append,List.map_take,List.map_drop])
    refine ⟨ys0 ++ [.ref t] ++ [.ref w],some (.str "born"),some (.int qk),some (.ref w),?_,z1,Zb,z2,z3,z4⟩
    rw [ztk,JI,GB]
    rfl
   ·have e:qx = "cross" := e
    subst e
    refine Y0 (fun hn=>absurd (V.str.inj (of_decide_eq_true hn)) nb1) (fun _=>?_)
    refine ⟨_,rfl,rfl,_,rfl,?_⟩
    refine Y0 (fun _=>?_) (fun hn=>absurd (by simp) hn)
    obtain ⟨kk,rfl⟩:=Int.eq_ofNat_of_zero_le b0
    have k1:kk+1<(rb (ls.take i)).1.length:=by have b1:(kk:Int)+1<_:=b1;lia
    have ec:((kk:Int)+1)=((kk+1:Nat):Int):=by lia
    have a1:atI ((rb (ls.take i)).1.map V.int) ((kk:Int)+1)=some (V.int ((rb (ls.take i)).1.getD (kk+1) 0)):=by rw [ec];exact Zp (map_getD _ k1)
    have a0:atI ((rb (ls.take i)).1.map V.int) (kk:Int)=some (V.int ((rb (ls.take i)).1.getD kk 0)):=Zp (map_getD _ (by lia))
    refine ⟨_,rfl,_,rfl,_,_,rfl,rfl,w,_,_,_,rfl,rfl,Zu.of Zb,a1,_,rfl,_,rfl,w,_,_,_,rfl,rfl,Zu.of Zb,a0,(by show 2<=sizeLine;decide),fun tt htt=>?_⟩
    have hwt:w≠tt:=Zf (Zb (H:=H') (a:=w)) htt
    refine ⟨tt,_,rfl,JZ.of Zb,rfl,_,_,rfl,_,rfl,_,rfl,w,_,_,kk,rfl,rfl,(by rw [Zi hwt];exact Zb),(by rw [rl];exact YT (by lia)),?_⟩
    refine ⟨_,_,rfl,_,rfl,_,rfl,_,_,rfl,rfl,w,_,_,kk+1,rfl,rfl,Zb,(by rw [List.length_set,rl,ec];exact YT k1),rfl,?_⟩
    rw [J7,Zkw]
    have hR2:(upd (upd (upd H' w (.lst ((rb (ls.take i)).1.map V.int))) tt (.tup [.int ((rb (ls.take i)).1.getD (kk+1) 0),.int ((rb (ls.take i)).1.getD kk 0)])) w (.lst ((swp (rb (ls.take i)).1 kk).map V.int))) R=some (.lst (ys0 ++ [.ref t])):=by
     rw [Zi (Ne.symm hwR)]
     exact (Zh.laid htt) R _ ((Zh.laid hw) R _ hR')
    refine ⟨_,rfl,.inl ⟨rfl,_,Zu.of hR2⟩,_,rfl,R,_,_,rfl,rfl,hR2,hyl,?_⟩
    obtain ⟨z1,z2,z3,z4⟩:=Zbl (G:=upd (upd (upd (upd H' w (.lst ((rb (ls.take i)).1.map V.int))) tt (.tup [.int ((rb (ls.take i)).1.getD (kk+1) 0),.int ((rb (ls.take i)).1.getD kk 0)])) w (.lst ((swp (rb (ls.take i)).1 kk).map V.int))) R (.lst ((ys0 ++ [.ref t]) ++ [.ref w]))) hRH sm rv ap nd hw hwR (fun c o e n=>by
      rw [Zi n,Zi (Zf e hw)]
      exact (Zh.laid htt) c _ ((Zh.laid hw) c _ e)) (by
      rw [Zi hwR,Zb,ztk,JI,WG]
      rfl)
    refine ⟨ys0 ++ [.ref t] ++ [.ref w],some (.str "cross"),some (.int kk),some (.ref w),?_,z1,Zb,z2,z3,z4⟩
    rw [ztk,JI,WG]
    rfl
   ·have e:qx = "end" := e
    subst e
    refine Y0 (fun hn=>absurd (V.str.inj (of_decide_eq_true hn)) nb2) (fun _=>?_)
    refine ⟨_,rfl,rfl,_,rfl,?_⟩
    refine Y0 (fun hn=>absurd (V.str.inj (of_decide_eq_true hn)) nb3) (fun _=>?_)
    have b1':qk+1<((rb (ls.take i)).1.length:Int):=b1
    obtain ⟨kk,rfl⟩:=Int.eq_ofNat_of_zero_le b0
    have k1:kk+1<(rb (ls.take i)).1.length:=by lia
    have l1:(((rb (ls.take i)).1.map V.int).eraseIdx kk).length=(rb (ls.take i)).1.length-1:=by rw [List.length_eraseIdx_of_lt (by rw [rl];lia),rl]
    refine ⟨_,rfl,.inl ⟨rfl,_,Zu.of Zb⟩,_,rfl,w,_,_,kk,_,rfl,rfl,Zb,by lia,by lia,(by rw [rl];exact Zdd (by lia)),map_getD _ (by lia),?_⟩
    obtain ⟨y2,hy2⟩:∃y2,(((rb (ls.take i)).1.map V.int).eraseIdx kk)[kk]? = some y2:=⟨_,List.getElem?_eq_getElem (by rw [l1];lia)⟩
    refine ⟨_,rfl,.inl ⟨rfl,_,Zu.of Zb⟩,_,rfl,w,_,_,kk,_,rfl,rfl,Zb,by lia,by lia,(by rw [l1];exact Zdd (by lia)),hy2,?_⟩
    rw [J7,J7,Zjx]
    have hR2:(upd H' w (.lst (((rb (ls.take i)).1.map V.int).take kk++((rb (ls.take i)).1.map V.int).drop (kk+2)))) R=some (.lst (ys0 ++ [.ref t])):=(Zh.laid hw) R _ hR'
    refine ⟨_,rfl,.inl ⟨rfl,_,Zu.of hR2⟩,_,rfl,R,_,_,rfl,rfl,hR2,hyl,?_⟩
    obtain ⟨z1,z2,z3,z4⟩:=Zbl (G:=upd (upd H' w (.lst (((rb (ls.take i)).1.map V.int).take kk++((rb (ls.take i)).1.map V.int).drop (kk+2)))) R (.lst ((ys0 ++ [.ref t]) ++ [.ref w]))) hRH sm rv ap nd hw hwR (fun c o e n=>by
      rw [Zi n]
      exact (Zh.laid hw) c _ e) (by
      rw [Zi hwR,Zb,ztk,JI,UX,Int.toNat_natCast,List.map_append,List.map_take,List.map_drop])
    refine ⟨ys0 ++ [.ref t] ++ [.ref w],some (.str "end"),some (.int kk),some (.ref w),?_,z1,Zb,z2,z3,z4⟩
    rw [ztk,JI,UX]
    rfl
  ·rintro σ H' ⟨ys,v3,v4,v5,rfl,sm,hR',rv,ap,nd⟩
   rw [hxl] at rv
   exact ⟨_,rfl,k R H' ys hRH sm hR' rv ap nd⟩
def tab {α:Type} (N:Nat) (g:Int -> α):List α:=(List.range N).map fun (x:Nat)=>g (x:Int)
theorem ZlV {α:Type}{N:Nat} (g:Int -> α) {j:Nat} (h:j<N):(tab N g)[j]? = some (g (j:Int)):=by
 unfold tab
 rw [List.getElem?_map]
 simp [h]
theorem Zgi {α β:Type} (N:Nat) (g:Int -> α) (f:α -> β):(tab N g).map f=tab N (fun x=>f (g x)):=by
 unfold tab
 rw [List.map_map]
 rfl
theorem ZjC {α:Type} (N:Nat) (v:α):(List.replicate N [v]).flatten=tab N (fun _=>v):=by
 unfold tab
 induction N with
 | zero=>rfl
 | succ n ih=>rw [List.replicate_succ',List.flatten_append,ih,List.range_succ,List.map_append];simp
theorem Ze2:∀{ps:List (Int×Int)}{u l x:Int},u∉ZL ps->l∉ZL ps->u≠l->JO (ps ++ [(u,l)]) x=if x=l then u else if x=u then l else JO ps x
 | [],u,l,x,_,_,ne=>by
  simp only [List.nil_append,JO]
  by_cases h1:x=u
  ·subst h1;simp [ne]
  ·simp [h1]
 | p::r,u,l,x,hu,hl,ne=>by
  have e:ZL (p::r)=p.1::p.2::ZL r:=by simp [ZL]
  rw [e] at hu hl
  simp only [List.mem_cons,not_or] at hu hl
  have ih:=Ze2 (x:=x) hu.2.2 hl.2.2 ne
  simp only [List.cons_append,JO,ih]
  by_cases h1:x=p.1
  ·subst h1;simp [Ne.symm hu.1,Ne.symm hl.1]
  ·by_cases h2:x=p.2
   ·subst h2;simp [h1,Ne.symm hu.2.1,Ne.symm hl.2.1]
   ·simp [h1,h2]
theorem Zhq {ls:List (Str×Int)} (hW:Wk ls 0):(ZL (Wu ls)).Nodup:=(GG hW).nodup_iff.mpr (W5 _)
theorem ZgB {N:Nat} (m:Int->Int) {x:Int} (h0:0<=x) (h1:x<(N:Int)):atI ((tab N m).map V.int) x=some (V.int (m x)):=by
 obtain ⟨n,rfl⟩:=Int.eq_ofNat_of_zero_le h0
 refine Zp ?_
 rw [List.getElem?_map,ZlV _ (by lia)]
 rfl
def Yn (ps:List (Int×Int)) (x:Int):Int:=if x∈ps.map (·.1) then 1 else -1
inductive DV (H:Hp):List (Key×V)->List (Int×Int)->Prop
 | nil:DV H [] []
 | snoc {kvs:List (Key×V)}{ps:List (Int×Int)}{u l:Int}{a b:Addr}:DV H kvs ps->H a=some (.tup [.int l,.int 1])->H b=some (.tup [.int u,.int (-1)])->DV H (kvs ++ [(Sum.inl u,.ref a),(Sum.inl l,.ref b)]) (ps ++ [(u,l)])
theorem DV.mono {H H':Hp} (h:∀t p,H t=some (.tup p)->H' t=some (.tup p)) {kvs:List (Key×V)}{ps:List (Int×Int)} (d:DV H kvs ps):DV H' kvs ps:=by
 induction d with
 | nil=>exact .nil
 | snoc _ ea eb ih=>exact .snoc ih (h _ _ ea) (h _ _ eb)
theorem DV.keys {H:Hp}{kvs:List (Key×V)}{ps:List (Int×Int)} (d:DV H kvs ps):kvs.map (·.1)=(ZL ps).map Sum.inl:=by
 induction d with
 | nil=>rfl
 | snoc _ _ _ ih=>rw [List.map_append,ih,JU,List.map_append];rfl
theorem DV.len {H:Hp}{kvs:List (Key×V)}{ps:List (Int×Int)} (d:DV H kvs ps):kvs.length=2*ps.length:=by
 have:=congrArg List.length d.keys
 simpa [Gy] using this
theorem Zcf {kvs:List (Key×V)}{k:Key}{v:V} (h:k∉kvs.map (·.1)):putK kvs k v=kvs ++ [(k,v)]:=by
 unfold putK
 rw [if_neg]
 intro z
 rw [List.any_eq_true] at z
 obtain ⟨p,hp,e⟩:=z
 exact h (List.mem_map.mpr ⟨p,hp,of_decide_eq_true e⟩)
theorem ZeU {kvs:List (Key×V)}{k:Key} (h:k∉kvs.map (·.1)):(kvs.find? fun kv=>decide (kv.1=k))=none:=by
 rw [List.find?_eq_none]
 intro p hp z
 exact h (List.mem_map.mpr ⟨p,hp,of_decide_eq_true z⟩)
theorem ZbN {ps:List (Int×Int)}{H:Hp}{kvs:List (Key×V)} (d:DV H kvs ps) {x:Int} (h:x∉ZL ps):(Sum.inl x:Key)∉kvs.map (·.1):=by
 rw [d.keys]
 intro z
 obtain ⟨y,hy,e⟩:=List.mem_map.mp z
 cases e
 exact h hy
theorem DV.look {H:Hp}{kvs:List (Key×V)}{ps:List (Int×Int)} (d:DV H kvs ps):(ZL ps).Nodup -> ∀x∈ZL ps,∃a,JG kvs (Sum.inl x)=some (.ref a)/\H a=some (.tup [.int (JO ps x),.int (Yn ps x)]):=by
 induction d with
 | nil=>intro _ x hx;cases hx
 | @snoc kvs ps u l a b d ea eb ih=>
  intro nd x hx
  rw [JU] at nd hx
  have ef:ZL [(u,l)] = [u,l]:=by simp [ZL]
  rw [ef] at nd hx
  obtain ⟨n1,n2,n3⟩:=List.nodup_append.mp nd
  have hu:u∉ZL ps:=fun z=>n3 u z u (by simp) rfl
  have hl:l∉ZL ps:=fun z=>n3 l z l (by simp) rfl
  have ne:u≠l:=by
   have:=(List.nodup_cons.mp n2).1
   simpa using this
  rw [Ze2 hu hl ne]
  have dn:Yn (ps ++ [(u,l)]) x=if x=u then 1 else Yn ps x:=by
   unfold Yn
   rw [List.map_append]
   by_cases e:x=u
   ·simp [e]
   ·rw [if_neg e]
    by_cases q:x∈ps.map (·.1)
    ·rw [if_pos q,if_pos (List.mem_append_left _ q)]
    ·rw [if_neg q,if_neg (fun z=>(List.mem_append.mp z).elim q (fun z=>e (by simpa using z)))]
  rw [dn]
  rcases List.mem_append.mp hx with z | z
  ·obtain ⟨c,hv,hc⟩:=ih n1 x z
   have e1:x≠u:=fun e=>hu (e ▸ z)
   have e2:x≠l:=fun e=>hl (e ▸ z)
   refine ⟨c,?_,?_⟩
   ·unfold JG at hv ⊢
    rw [List.find?_append]
    cases q:(kvs.find? fun kv=>decide (kv.1=Sum.inl x)) with
    | none=>rw [q] at hv;cases hv
    | some y=>rw [q] at hv;exact hv
   ·rw [if_neg e2,if_neg e1,if_neg e1];exact hc
  ·have z:x=u∨x=l:=by simpa using z
   rcases z with e | e
   ·subst e
    refine ⟨a,?_,?_⟩
    ·unfold JG
     rw [List.find?_append,ZeU (ZbN d hu)]
     simp
    ·rw [if_neg ne,if_pos rfl,if_pos rfl];exact ea
   ·subst e
    refine ⟨b,?_,?_⟩
    ·unfold JG
     rw [List.find?_append,ZeU (ZbN d hl)]
     have:¬((Sum.inl u:Key)=Sum.inl x):=fun z=>ne (by cases z;rfl)
     simp [this]
    ·have:Yn ps x = -1:=by
      unfold Yn
      rw [if_neg]
      intro z
      obtain ⟨p,hp,e⟩:=List.mem_map.mp z
      exact hl (List.mem_flatMap.mpr ⟨p,hp,by simp [e]⟩)
     rw [if_pos rfl,if_neg (Ne.symm ne),this];exact eb
theorem few {ls:List (Str×Int)} (hW:Wk ls 0):∀i,i<=ls.length->(rb (ls.take i)).2+2*((Jy ls i).length:Int)<=2*(i:Int)
 | 0,_=>by simp [Jy,J2,rb]
 | i+1,hi=>by
  have ih:=few hW i (by lia)
  have hq:ls[i]? = some ls[i]:=by simp [show i<ls.length by lia]
  obtain ⟨tk,c⟩:=Ze3 hW hq
  rw [WH,tk,JI]
  have kk:∀pr:Str->Bool,isK ls pr i=pr ls[i].1:=fun pr=>by
   unfold isK
   rw [hq]
   cases h:pr ls[i].1<;>simp [h]
  rw [kk]
  generalize ls[i]=p at c
  obtain ⟨px,pk⟩:=p
  rcases c with ⟨e,_⟩ | ⟨e,_⟩ | ⟨e,_⟩
  ·have e:px = "born" := e
   subst e
   have hf:Uh "born" = false:=by unfold Uh;decide +kernel
   rw [GB,hf]
   simp only [Bool.false_eq_true,if_false,List.append_nil]
   lia
  ·have e:px = "cross" := e
   subst e
   have hf:Uh "cross" = false:=by unfold Uh;decide +kernel
   rw [WG,hf]
   simp only [Bool.false_eq_true,if_false,List.append_nil]
   lia
  ·have e:px = "end" := e
   subst e
   have hf:Uh "end" = true:=by unfold Uh;simp
   rw [UX,hf]
   simp only [if_true,List.length_append,List.length_singleton]
   lia
theorem ZjT {ls:List (Str×Int)} (hW:Wk ls 0):Gb ls<=ls.length:=by
 have h:=few hW ls.length (Nat.le_refl _)
 obtain ⟨g0,g1,g2⟩:=ZaT hW ls.length (Nat.le_refl _)
 have e:rowAt ls ls.length = []:=by
  unfold rowAt
  rw [List.take_of_length_le (Nat.le_refl _)]
  have:=Zar hW
  exact List.length_eq_zero_iff.mp (by lia)
 rw [e,List.nil_append] at g2
 have hl:=g2.length_eq
 rw [Gs,Gy] at hl
 show 2*(Jy ls ls.length).length<=_
 lia
theorem UR:∀n,(Ud n).Pairwise (· < ·)
 | 0=>by simp [Ud]
 | n+1=>by
  unfold Ud
  rw [List.range_succ,List.map_append,List.pairwise_append]
  refine ⟨UR n,by simp,fun a ha b hb=>?_⟩
  have h1:=(Jd (n:=n)).mp ha
  have:b=(n:Int):=by simpa using hb
  lia
def Ga (N:Nat) (ts:List (List Int)):List Int:=(Ud N).filter fun x=>decide (x∉ts.flatten)
theorem ZfV {N:Nat}{ts:List (List Int)}{x:Int}:x∈Ga N ts ↔ (0<=x/\x<(N:Int))/\x∉ts.flatten:=by
 unfold Ga
 rw [List.mem_filter,Jd]
 simp
theorem ZgG {N:Nat}{ts:List (List Int)}{f:Int}{r:List Int} (e:Ga N ts=f::r):(0<=f/\f<(N:Int))/\f∉ts.flatten /\ ∀j:Nat,(j:Int)<f->(j:Int)∈ts.flatten:=by
 have hf:f∈Ga N ts:=by rw [e];exact List.mem_cons_self
 obtain ⟨d,n⟩:=ZfV.mp hf
 refine ⟨d,n,fun j hj=>?_⟩
 by_cases z:(j:Int)∈ts.flatten
 ·exact z
 ·have hm:(j:Int)∈Ga N ts:=ZfV.mpr ⟨⟨by lia,by lia⟩,z⟩
  have pw:(Ga N ts).Pairwise (· < ·):=(UR N).filter _
  rw [e] at hm pw
  rcases List.mem_cons.mp hm with y | y
  ·lia
  ·have:=(List.pairwise_cons.mp pw).1 _ y
   lia
theorem ZgJ {N:Nat}{ts:List (List Int)}{T:List Int}:Ga N (ts ++ [T])=(Ga N ts).filter fun x=>decide (x∉T):=by
 unfold Ga
 rw [List.filter_filter]
 refine List.filter_congr fun x _=>?_
 rw [List.flatten_append]
 by_cases h1:x∈T<;>by_cases h2:x∈ts.flatten<;>simp [h1,h2]
theorem ZkH {N:Nat}{ts:List (List Int)}{T:List Int}{f:Int}{r:List Int} (e:Ga N ts=f::r) (h:f∈T):(Ga N (ts ++ [T])).length<(Ga N ts).length:=by
 rw [ZgJ,e,List.filter_cons,if_neg (by simpa using h)]
 have:=List.length_filter_le (fun x=>decide (x∉T)) r
 simp only [List.length_cons]
 lia
theorem ZlH {m:Int->Int}{N i:Nat}{ts:List (List Int)} (e:Ga N ts = []) (tr:U3 m i ts) (hi:i<=N):U3 m N ts:=by
 have:=tr.jump (N-i) fun j a b=>by
  by_cases z:(j:Int)∈ts.flatten
  ·exact z
  ·have:(j:Int)∈Ga N ts:=ZfV.mpr ⟨⟨by lia,by lia⟩,z⟩
   rw [e] at this
   cases this
 rwa [show i+(N-i)=N by lia] at this
theorem ZjH {m:Int->Int}{N i:Nat}{ts:List (List Int)}{f:Int}{r T:List Int} (e:Ga N ts=f::r) (tr:U3 m i ts) (hi:i<=N) (isT:Jo m f T):∃j:Nat,j<=N/\U3 m j (ts ++ [T]):=by
 obtain ⟨⟨d0,d1⟩,n,lo⟩:=ZgG e
 obtain ⟨fn,rfl⟩:=Int.eq_ofNat_of_zero_le d0
 have hif:i<=fn:=by
  refine Nat.le_of_not_lt fun z=>n (tr.mem fn z)
 have:=tr.jump (fn-i) fun j a b=>lo j (by lia)
 rw [show i+(fn-i)=fn by lia] at this
 exact ⟨fn+1,by lia,this.add n isT⟩
def ev2 (y:Int):Int:=if y % 2=0 then 1 else -1
theorem Zlm (y:Int):y+ev2 y=bw y:=by unfold ev2 bw;split<;>lia
def fl (dn:Int->Int):List Int->Int
 | x::y::r=>dn x+ev2 y+fl dn r
 | _=>0
theorem Zdw (dn:Int->Int) (x y:Int):∀(n:Nat) (A:List Int),A.length=2*n->fl dn (A ++ [x,y])=fl dn A+dn x+ev2 y
 | 0,A,h=>by
  have:A = []:=List.length_eq_zero_iff.mp (by lia)
  subst this
  simp [fl]
 | n+1,[],h=>by simp at h
 | n+1,[a],h=>by simp at h;lia
 | n+1,a::b::r,h=>by
  have ih:=Zdw dn x y n r (by simp at h;lia)
  simp only [List.cons_append,fl,ih]
  lia
theorem Zmd (dn m:Int->Int) (f:Int) (i:Nat):fl dn (W7 m f (i+1))=fl dn (W7 m f i)+dn (gt m f i)+ev2 (m (gt m f i)):=Zdw dn _ _ i _ (GW m f i)
def Zes (i:Int):Int:=if i<0 then -i else i
def WV (z:Addr) (dn:Int->Int) (H:Hp) (ys:List V) (ts:List (List Int)):Prop:=Paired (fun v (T:List Int)=>∃a g,v=V.ref a/\H a=some (.tup [.ref g,.int (Zes (fl dn T) / 2)])/\H g=some (.lst (T.map V.int))/\g≠z) ys ts
theorem WV.mono {z:Addr}{dn:Int->Int}{H H':Hp} (h:∀c o,c≠z->H c=some o->H' c=some o) (hz:∃xs,H z=some (.lst xs)):∀{ys:List V}{ts:List (List Int)},WV z dn H ys ts->WV z dn H' ys ts
 | _,_,.nil=>.nil
 | _,_,.cons ⟨a,g,e,ha,hg,n⟩ r=>.cons ⟨a,g,e,h a _ (fun y=>by obtain ⟨xs,hz⟩:=hz;rw [y,hz] at ha;cases ha) ha,h g _ n hg,n⟩ (WV.mono h hz r)
theorem WV.same {z:Addr}{dn:Int->Int}{H H':Hp} (s:Zh H H'):∀{ys:List V}{ts:List (List Int)},WV z dn H ys ts->WV z dn H' ys ts
 | _,_,.nil=>.nil
 | _,_,.cons ⟨a,g,e,ha,hg,n⟩ r=>.cons ⟨a,g,e,s a _ ha,s g _ hg,n⟩ (WV.same s r)
theorem WV.len {z:Addr}{dn:Int->Int}{H:Hp}{ys:List V}{ts:List (List Int)} (h:WV z dn H ys ts):ys.length=ts.length:=Paired.length h
theorem Zdt {r:List Int}{k:Nat} (h:k+1<r.length):WQ (r.map V.int) (some (k:Int)) (some ((k:Int)+2)) = [V.int (r.getD k 0),V.int (r.getD (k+1) 0)]:=by
 have e1:HT.sIx (r.map V.int).length 0 (some (k:Int))=k:=by
  rw [HT.Gf,List.length_map]
  omega
 have e2:HT.sIx (r.map V.int).length (r.map V.int).length (some ((k:Int)+2))=k+2:=by
  rw [show (k:Int)+2=((k+2:Nat):Int) by omega,HT.Gf,List.length_map]
  omega
 unfold WQ
 rw [e1,e2,show k+2-k=2 by omega,<- List.map_drop,<- List.map_take]
 have c:=Zkj r k h
 have hl:(r.take k).length=k:=by rw [List.length_take];omega
 have e3:r.drop k = [r.getD k 0,r.getD (k+1) 0]++r.drop (k+2):=by
  conv=>lhs;rw [c]
  rw [List.append_assoc,List.drop_append_of_le_length (by omega),List.drop_eq_nil_of_le (by omega),List.nil_append]
 rw [e3]
 simp
theorem ZkZ (y:Int):atI [V.int 1,V.int (-1)] (y % 2)=some (V.int (ev2 y)):=by
 unfold ev2
 rcases Int.emod_two_eq y with e | e<;>rw [e]
 ·exact Zp (j:=0) rfl
 ·exact Zp (j:=1) rfl
def ZdN:Sp:=fun vs H Q _=>∃(l:Addr) (xs:List V) (ls:List (Str×Int)),vs = [.ref l]/\H l=some (.lst xs)/\ZI H xs ls/\ls.length<=60/\Wk ls 0 /\
 ∀(p:Addr) (H':Hp) (ys:List V) (ts:List (List Int)),H p=none->Zh H H'->H' p=some (.lst ys)->WV p (Yn (Wu ls)) H' ys ts->U3 (JO (Wu ls)) (Gb ls) ts->Q (.ref p) H'
abbrev WA:Stmt:=top 24
theorem ZF:ZH ["_law_drawing_here", "_law_rows_here", "_law_mates", "_law_t", "_law_letter", "_law_upper", "_law_lower", "_law_found", "_law_left", "_law_gone", "_law_fall", "_law_here", "_law_there", "_law_down"] ["_law_drawing_here"] (Zl WA):={}
theorem Zii {f:Addr}{fd:FuncData} (F:Jl K "_law_walks" "_law_walks" WA f fd) (YK:Jm P w K mg base 1 "_law_rows" ["_law_drawing_here"] Zb0) (ZA:mg "enumerate" = none) (ZcK:mg "sorted" = none) (Zcw:mg "abs" = none):Ys P w K mg base W3 2 f fd ["_law_drawing_here"] ZdN:=by
 refine F.ok ZF (fun vs H Q E h=>?_) (fun cdv A outer s H vs Q E hr h=>?_)
 ·obtain ⟨l,xs,ls,rfl,_⟩:=h
  rfl
 ·obtain ⟨l,xs,ls,rfl,hl,hL,hlen,hW,k⟩:=h
  have hxl:=hL.len
  have n60:=ZjT hW
  have M:=GD hW
  have nd:=Zhq hW
  have pm:=GG hW
  refine ⟨_,(Ze (Zo (i:=1) ZF.nd rfl (Or.inl rfl) (Zz YK hr (Za (pv 0) Zc)))
   (Ze (Zo (i:=2) ZF.nd rfl (Or.inl rfl) ZhI)
   (Ze (Yc PassesOwn.never rfl (JE (K:=K) rfl (by rfl) ZA (Za (pv 0) Zc)) (Ye (K:=K) (n:=2) rfl rfl (Zq (Zk (i:=3) ZF.nd rfl (Or.inl rfl)) (Zq (Zk (i:=4) ZF.nd rfl (Or.inl rfl)) Z6))) (Zg (ZU (Zr YA (Zx (YF (K:=K) rfl) (pv 4) Zd (fun _ _=>rfl)) ZK (Zv _)) (Ze (Yv (YB (YD (K:=K) rfl) (Zx (Zm (K:=K) rfl) (pv 1) (pv 3) (fun _ _=>rfl)) (YE (Zx (YF (K:=K) rfl) (pv 4) Zd (fun _ _=>rfl))) (YE (Zj Zw (Zx (YF (K:=K) rfl) (pv 4) Zd (fun _ _=>rfl)) Zd))) (Zdq (K:=K) (n:=2) rfl rfl (Zq (Zk (i:=5) ZF.nd rfl (Or.inl rfl)) (Zq (Zk (i:=6) ZF.nd rfl (Or.inl rfl)) Z6))))
   (Zg (Yv (ZN (Za (ZN (Za (pv 6) (Za Zd Zc))) (Za (ZN (Za (pv 5) (Za (Zbu Um Zd) Zc))) Zc))) (Ye (K:=K) (n:=2) rfl rfl (Zq (YC (pv 2) (pv 5) (set_dict (JF hr))) (Zq (YC (pv 2) (pv 6) (set_dict (JF hr))) Z6)))))) ZG)))
   (Ze (Zo (i:=7) ZF.nd rfl (Or.inl rfl) (ZY Zc))
   (Ze (Zo (i:=8) ZF.nd rfl (Or.inl rfl) (ZE (ZdX rfl) (by rfl) ZcK boot_sorted (Za (pv 2) Zc)))
   (Ze (Uj PassesOwn.never (Zr (Zdm (K:=K) rfl hr.units) (pv 8) (ZY Zc) (Zv _)) (Ze (Zo (i:=9) ZF.nd rfl (Or.inr rfl) (ZY Zc))
   (Ze (Zo (i:=10) ZF.nd rfl (Or.inl rfl) Zd)
   (Ze (Zo (i:=11) ZF.nd rfl (Or.inl rfl) (Zx (Zm (K:=K) rfl) (pv 8) Zd (fun _ _=>rfl)))
   (Ze (Uj PassesOwn.never (Zr (Wa (K:=K) rfl) (pv 11) (pv 9) rfl) (Ze (Yv (Zx (Wb (JF hr)) (pv 2) (pv 11) (fun _ _=>rfl)) (Ye (K:=K) (n:=2) rfl rfl (Zq (Zk (i:=12) ZF.nd rfl (Or.inl rfl)) (Zq (Zk (i:=13) ZF.nd rfl (Or.inl rfl)) Z6))))
   (Ze (Zo (i:=9) ZF.nd rfl (Or.inr rfl) (Zj Gp (pv 9) (ZY (Za (pv 11) (Za (pv 12) Zc)))))
   (Ze (Zo (i:=10) ZF.nd rfl (Or.inl rfl) (Zj Zw (Zj Zw (pv 10) (pv 13)) (Zx (Zm (K:=K) rfl) (ZY (Za Zd (Za (Zbu Um Zd) Zc))) (Zj JX (pv 12) Zd) (fun _ _=>rfl))))
   (Zg (Zo (i:=11) ZF.nd rfl (Or.inl rfl) (Zj Zw (pv 12) (Zx (Zm (K:=K) rfl) (ZY (Za Zd (Za (Zbu Um Zd) Zc))) (Zj JX (pv 12) Zd) (fun _ _=>rfl)))))))))
   (Ze (Yq (Yt (K:=K) rfl (Jk PySem.F.plainAttrs_list PySem.F.slot_list_append PySem.F.type_list_append Yo (pv 7) (Za (ZN (Za (pv 9) (Za (Zj ZbR (ZE Zcz (by rfl) Zcw boot_abs (Za (pv 10) Zc)) Zd) Zc))) Zc))))
   (Zg (GZ (i:=8) ZF.nd rfl (Or.inl rfl) (Ls:=["_law_thread"]) (Fs:=["_law_gone"]) (fi:=[9]) (ZR.of (show Ym ["_law_drawing_here", "_law_rows_here", "_law_mates", "_law_t", "_law_letter", "_law_upper", "_law_lower", "_law_found", "_law_left", "_law_gone", "_law_fall", "_law_here", "_law_there", "_law_down"] (Zl WA) _ ["_law_gone"] [9]=true by decide +kernel)) rfl (Z8 (K:=K) rfl (pv 8)) (fun cl C s3 H3 ex=>⟨(Zk (i:=0) (show ((["_law_thread"]:List Str)++(["_law_gone"]:List Str)).Nodup by decide +kernel) rfl (Or.inl rfl)),(ZbU (Zr (Wa (K:=K) rfl) (pv 0) (pv 1) rfl)),(pv 0)⟩)))))))))
   (Zg (ZD (pv 7))))))))),?_⟩
  refine ⟨_,rfl,l,xs,ls,rfl,hl,hL,hlen,hW,fun R H1 ys fR s1 eR rv ap ndr=>?_⟩
  refine fun dA hdA=>?_
  have hdH:H dA=none:=s1.free hdA
  have hl1:=s1 l _ hl
  have hL1:=hL.same s1
  refine ⟨_,rfl,l,rfl,⟨_,Zu.of ((Zh.laid hdA) l _ hl1)⟩,WE (K:=K) (a:=l) (xs:=xs) (fun i σ H'=>∃(kvs:List (Key×V)) (v3 v4 v5 v6:Option V),σ = [some (.ref l),some (.ref R),some (.ref dA),v3,v4,v5,v6,none,none,none,none,none,none,none]/\Zh H1 H'/\H' dA=some (.dK kvs)/\DV H' kvs (Jy ls i))
   ⟨[],none,none,none,none,rfl,Zh.laid hdA,Zb,.nil⟩ (fun i σ H' _ ⟨_,_,_,_,_,_,sm,_⟩=>Zu.of (sm l _ hl1)) ?_ ?_⟩
  ·rintro i x p σ H' hx ⟨kvs,v3,v4,v5,v6,rfl,sm,hd,dv⟩ hp
   obtain ⟨⟨qx,qk⟩,ta,hq,rfl,hta⟩:=hL1.get hx
   have hta':=(sm.step (o:=.tup [.int i,.ref ta]) hp) ta _ hta
   obtain ⟨G0,hG0⟩:∃G0,G0=upd H' p (.tup [.int i,.ref ta]):=⟨_,rfl⟩
   have sp:Zh H' G0:=by rw [hG0];exact Zh.laid hp
   have sg0:Zh H1 G0:=sm.trans sp
   have hd0:=sp dA _ hd
   have kk:isK ls Uh i=Uh qx:=by
    unfold isK
    rw [hq]
    cases h:Uh qx<;>simp [h]
   refine ⟨p,_,rfl,JZ.of Zb,rfl,_,_,rfl,_,_,rfl,rfl,?_⟩
   rw [<- hG0] at hta' ⊢
   refine ⟨_,rfl,ta,_,_,_,rfl,rfl,JZ.of hta',Zp (j:=0) rfl,rfl,_,rfl,?_⟩
   refine Y0 (fun hc=>?_) (fun hc=>?_)
   ·have e:qx = "end" := V.str.inj (of_decide_eq_true hc)
    subst e
    obtain ⟨k0,k1,pe⟩:=Zgz hW hq (fun z=>nb2 z)
    obtain ⟨kn,rfl⟩:=Int.eq_ofNat_of_zero_le (show 0<=qk from k0)
    simp only [Int.toNat_natCast] at k1 pe
    have hi:i<ls.length:=(List.getElem?_eq_some_iff.mp hq).1
    obtain ⟨ra,hra,hrr⟩:=rv.at (Za3 ls (i:=i) (n:=ls.length+1) (by lia))
    have ei:isK ls Uh i=true:=by rw [kk];unfold Uh;simp
    have pin:JA ls i∈Wu ls:=List.mem_map.mpr ⟨(i:Int),by
     unfold J2
     exact List.mem_filterMap.mpr ⟨i,List.mem_range.mpr hi,by rw [if_pos ei]⟩,by simp⟩
    have es:Jy ls (i+1)=Jy ls i ++ [JA ls i]:=by rw [WH,if_pos ei]
    obtain ⟨u,hu⟩:∃u,u=(rowAt ls i).getD kn 0:=⟨_,rfl⟩
    obtain ⟨w,hw⟩:∃w,w=(rowAt ls i).getD (kn+1) 0:=⟨_,rfl⟩
    rw [<- hu,<- hw] at pe
    have nde:(ZL (Jy ls (i+1))).Nodup:=by
     have e:J2 ls Uh (i+1) <+: J2 ls Uh ls.length:=by
      have:∀d,J2 ls Uh (i+1) <+: J2 ls Uh (i+1+d):=by
       intro d
       induction d with
       | zero=>exact List.prefix_refl _
       | succ d ih=>
        refine ih.trans ?_
        show _ <+: J2 ls Uh (i+1+d+1)
        rw [UT]
        exact List.prefix_append _ _
      have:=this (ls.length-(i+1))
      rwa [show i+1+(ls.length-(i+1))=ls.length by lia] at this
     obtain ⟨r,e⟩:=e
     have:Wu ls=Jy ls (i+1)++r.map (fun t=>JA ls t.toNat):=by
      unfold Wu Jy
      rw [<- e,List.map_append]
     rw [this,JU] at nd
     exact (List.nodup_append.mp nd).1
    rw [es,JU,pe] at nde
    have ef:ZL [(u,w)] = [u,w]:=by simp [ZL]
    rw [ef] at nde
    obtain ⟨n1,n2,n3⟩:=List.nodup_append.mp nde
    have nu:u∉ZL (Jy ls i):=fun z=>n3 u z u (by simp) rfl
    have nw:w∉ZL (Jy ls i):=fun z=>n3 w z w (by simp) rfl
    have nuw:u≠w:=by
     have:=(List.nodup_cons.mp n2).1
     simpa using this
    have e2:((Jy ls i).length)<=60:=by
     unfold Jy
     rw [List.length_map]
     exact Nat.le_trans (Zca _ _ _) (by lia)
    refine ⟨_,rfl,_,rfl,R,_,_,_,rfl,rfl,Zu.of (sg0 R _ eR),Zp hra,_,rfl,ta,_,_,_,rfl,rfl,JZ.of hta',Zp (j:=1) rfl,_,rfl,_,rfl,ta,_,_,_,rfl,rfl,JZ.of hta',Zp (j:=1) rfl,_,_,rfl,rfl,_,rfl,ra,_,rfl,Zu.of (sg0 ra _ hrr),fun cA hcA=>?_⟩
    rw [Zdt k1,<- hu,<- hw]
    refine ⟨cA,_,rfl,Zu.of Zb,rfl,_,_,rfl,_,_,rfl,rfl,?_⟩
    obtain ⟨G1,hG1⟩:∃G1,G1=upd G0 cA (.lst [.int u,.int w]):=⟨_,rfl⟩
    have sg1:Zh G0 G1:=by rw [hG1];exact Zh.laid hcA
    rw [<- hG1]
    refine ⟨_,rfl,(by show 2<=sizeLine;decide),fun t1 ht1=>?_⟩
    obtain ⟨G2,hG2⟩:∃G2,G2=upd G1 t1 (.tup [.int w,.int 1]):=⟨_,rfl⟩
    have sg2:Zh G1 G2:=by rw [hG2];exact Zh.laid ht1
    have e21:G2 t1=some (.tup [.int w,.int 1]):=by rw [hG2];exact Zb
    rw [<- hG2]
    refine ⟨_,rfl,1,rfl,(by show 2<=sizeLine;decide),fun t2 ht2=>?_⟩
    obtain ⟨G3,hG3⟩:∃G3,G3=upd G2 t2 (.tup [.int u,.int (-1)]):=⟨_,rfl⟩
    have sg3:Zh G2 G3:=by rw [hG3];exact Zh.laid ht2
    have e32:G3 t2=some (.tup [.int u,.int (-1)]):=by rw [hG3];exact Zb
    rw [<- hG3]
    refine ⟨(by show 2<=sizeLine;decide),fun t3 ht3=>?_⟩
    obtain ⟨G4,hG4⟩:∃G4,G4=upd G3 t3 (.tup [.ref t1,.ref t2]):=⟨_,rfl⟩
    have sg4:Zh G3 G4:=by rw [hG4];exact Zh.laid ht3
    have e43:G4 t3=some (.tup [.ref t1,.ref t2]):=by rw [hG4];exact Zb
    rw [<- hG4]
    have sAll:Zh G0 G4:=((sg1.trans sg2).trans sg3).trans sg4
    have hd4:=sAll dA _ hd0
    have kl:kvs.length<sizeLine:=by rw [dv.len];exact ZV (by lia)
    have o1:(Sum.inl u:Key)∉kvs.map (·.1):=ZbN dv nu
    have p1:putK kvs (Sum.inl u) (.ref t1)=kvs ++ [(Sum.inl u,.ref t1)]:=Zcf o1
    have o2:(Sum.inl w:Key)∉(kvs ++ [((Sum.inl u:Key),V.ref t1)]).map (·.1):=by
     rw [List.map_append]
     intro z
     rcases List.mem_append.mp z with z | z
     ·exact ZbN dv nw z
     ·have:(Sum.inl w:Key)=Sum.inl u:=by simpa using z
      cases this
      exact nuw rfl
    have p2:putK (kvs ++ [((Sum.inl u:Key),V.ref t1)]) (Sum.inl w) (.ref t2)=kvs ++ [((Sum.inl u:Key),V.ref t1),(Sum.inl w,.ref t2)]:=by
     rw [Zcf o2]
     simp
    refine ⟨t3,_,rfl,JZ.of e43,rfl,_,_,rfl,_,rfl,_,rfl,dA,_,rfl,ZcM.k (k:=Sum.inl u) hd4 kl,?_⟩
    rw [p1]
    refine ⟨_,_,rfl,_,rfl,_,rfl,dA,_,rfl,ZcM.k (k:=Sum.inl w) Zb (by rw [List.length_append,dv.len];exact ZV (by show _+1<=1000;lia)),rfl,?_⟩
    rw [p2,J7]
    refine ⟨_,_,_,_,_,rfl,fun c o e=>?_,Zb,?_⟩
    ·rw [Zi (Zf e hdA)]
     exact sAll c o (sg0 c o e)
    ·rw [es,pe]
     have tk:∀t q,G4 t=some (.tup q)->(upd G4 dA (.dK (kvs ++ [((Sum.inl u:Key),V.ref t1),(Sum.inl w,.ref t2)]))) t=some (.tup q):=fun t q e=>by
      rw [Zi (Zie e hd4 (by intro z;cases z))]
      exact e
     exact DV.snoc (dv.mono fun t q e=>tk t q (sAll t _ (sp t _ e))) (tk _ _ (sg4 t1 _ (sg3 t1 _ e21))) (tk _ _ (sg4 t2 _ e32))
   ·have e:¬qx = "end" := fun z=>hc (decide_eq_true (congrArg V.str z))
    have ei:isK ls Uh i=false:=by rw [kk];unfold Uh;simp [e]
    have es:Jy ls (i+1)=Jy ls i:=by rw [WH,ei];simp
    refine ⟨kvs,_,_,_,_,rfl,sg0,hd0,?_⟩
    rw [es]
    exact dv.mono fun t q e=>sp t _ e
  ·rintro σ H2 ⟨kvs,v3,v4,v5,v6,rfl,sm2,hd2,dv2⟩
   rw [hxl] at dv2
   have s02:Zh H H2:=s1.trans sm2
   refine ⟨(by show 0<=sizeLine;decide),fun fA hfA=>?_⟩
   have hfd:dA≠fA:=Zf hd2 hfA
   refine ⟨_,rfl,dA,kvs,ZL (Wu ls),rfl,(Zh.laid hfA) dA _ hd2,dv2.keys,(by rw [Gy];show Gb ls<64;lia),fun lA ns hlA hperm hsort=>?_⟩
   have ens:ns=Ud (Gb ls):=Zcg (hperm.trans pm) hsort ((UR _).imp fun h=>Int.le_of_lt h)
   subst ens
   have hlf:lA≠fA:=(Zf (Zb (H:=H2) (a:=fA) (o:=.lst [])) hlA).symm
   generalize hmm:JO (Wu ls)=m at *
   generalize hdn:Yn (Wu ls)=dn at *
   generalize hnn:Gb ls=N at *
   have dget:∀(G:Hp),Zh H2 G -> ∀x:Int,0<=x->x<(N:Int) -> ∃a,Ue G dA (.int x) (some (.ref a))/\G a=some (.tup [.int (m x),.int (dn x)]):=fun G sG x x0 x1=>by
    obtain ⟨a,hv,ha⟩:=dv2.look nd x (pm.mem_iff.mpr (Jd.mpr ⟨x0,x1⟩))
    have:=Ue.k (k:=Sum.inl x) (sG dA _ hd2)
    rw [hv] at this
    have e1:JO (Jy ls ls.length)=m:=hmm
    have e2:Yn (Jy ls ls.length)=dn:=hdn
    rw [e1,e2] at ha
    exact ⟨a,this,sG a _ ha⟩
   refine ⟨fun mm σ H'=>∃(ts:List (List Int)) (ys:List V) (i:Nat) (lf:Addr) (v9 v10 v11 v12 v13:Option V),mm=(Ga N ts).length /\ σ = [some (.ref l),some (.ref R),some (.ref dA),v3,v4,v5,v6,some (.ref fA),some (.ref lf),v9,v10,v11,v12,v13]/\Zh H2 H'/\H' fA=some (.lst ys)/\H' lf=some (.lst ((Ga N ts).map V.int))/\lf≠fA/\WV fA dn H' ys ts/\U3 m i ts/\i<=N,
    ⟨_,[],[],0,lA,none,none,none,none,none,rfl,rfl,(Zh.laid hfA).step hlA,?_,?_,hlf,.nil,.nil,Nat.zero_le _⟩,?_⟩
   ·rw [Zi (Ne.symm hlf),Zb]
   ·rw [Zb]
    congr 3
    unfold Ga
    rw [List.filter_eq_self.mpr]
    intro x _
    simp
   rintro mm σ H' ⟨ts,ys,i,lf,v9,v10,v11,v12,v13,rfl,rfl,sm,hf,hlf',nlf,wv,tr,hi⟩
   refine ⟨_,rfl,(by show 0<=sizeLine;decide),fun nA hnA=>?_⟩
   obtain ⟨G0,hG0⟩:∃G0,G0=upd H' nA (.lst []):=⟨_,rfl⟩
   have s0:Zh H' G0:=by rw [hG0];exact Zh.laid hnA
   rw [<- hG0]
   refine ⟨lf,nA,_,rfl,rfl,Zu.of (s0 lf _ hlf'),Zu.of (by rw [hG0];exact Zb),_,rfl,?_⟩
   cases elf:Ga N ts with
   | nil=>
    refine Jq ?_
    refine ⟨_,rfl,k fA G0 ys ts (s02.free hfA) (s02.trans (sm.trans s0)) (s0 fA _ hf) (wv.same s0) (ZlH elf tr hi)⟩
   | cons f0 rest=>
    refine Wh ?_
    obtain ⟨⟨f0lo,f0hi⟩,f0n,f0l⟩:=ZgG elf
    have dom:=YO M f0lo f0hi
    refine ⟨fun σ' H''=>∃(ts':List (List Int)) (ys:List V) (i:Nat) (lf:Addr) (v9 v10 v11 v12 v13:Option V),(Ga N ts').length<(f0::rest).length /\ σ' = [some (.ref l),some (.ref R),some (.ref dA),v3,v4,v5,v6,some (.ref fA),some (.ref lf),v9,v10,v11,v12,v13]/\Zh H2 H''/\H'' fA=some (.lst ys)/\H'' lf=some (.lst ((Ga N ts').map V.int))/\lf≠fA/\WV fA dn H'' ys ts'/\U3 m i ts'/\i<=N,
     fun σ' H'' ⟨ts',ys,i,lf,v9,v10,v11,v12,v13,a,b⟩=>⟨_,a,ts',ys,i,lf,v9,v10,v11,v12,v13,rfl,b⟩,?_⟩
    refine ⟨(by show 0<=sizeLine;decide),fun gA hgA=>?_⟩
    have s1':Zh H' (upd G0 gA (.lst [])):=s0.step hgA
    have hgf:gA≠fA:=(Zf (s0 fA _ hf) hgA).symm
    refine ⟨_,rfl,lf,_,_,V.int f0,rfl,rfl,Zu.of (s1' lf _ hlf'),Zp (j:=0) (by rw [elf];rfl),?_⟩
    refine ⟨fun m2 σ H''=>∃(j:Nat) (g:Addr) (v12 v13:Option V),m2+j=N+1 /\ σ = [some (.ref l),some (.ref R),some (.ref dA),v3,v4,v5,v6,some (.ref fA),some (.ref lf),some (.ref g),some (.int (fl dn (W7 m f0 j))),some (.int (gt m f0 j)),v12,v13]/\Zh H' H''/\H'' g=some (.lst ((W7 m f0 j).map V.int))/\g≠fA/\(∀q,1<=q->q<j->gt m f0 q≠f0),
     ⟨N+1,0,gA,v12,v13,rfl,rfl,s1',Zb,hgf,fun q a b=>by lia⟩,?_⟩
    rintro m2 σ H'' ⟨j,g,w12,w13,hj,rfl,sm2',hg,ngf,nf⟩
    have short:=Zbi M f0lo f0hi nf
    have s22:Zh H2 H'':=sm.trans sm2'
    refine ⟨_,rfl,_,rfl,g,_,rfl,.inl (Zu.of hg),rfl,Zdb _,_,rfl,?_⟩
    show if (!inV (V.int (gt m f0 j)) ((W7 m f0 j).map V.int))=true then _ else _
    rw [ZeP]
    by_cases hin:gt m f0 j∈W7 m f0 j
    ·rw [decide_eq_true hin]
     refine Jq ?_
     obtain ⟨j1,ej⟩:=(Zjl M f0lo f0hi nf).mp hin
     have isT:Jo m f0 (W7 m f0 j):=⟨j,j1,ej,nf,rfl⟩
     have hf'':=sm2' fA _ hf
     refine ⟨_,rfl,.inl ⟨rfl,_,Zu.of hf''⟩,_,rfl,_,rfl,_,rfl,_,_,rfl,rfl,⟨by decide,by decide⟩,(by show 2<=sizeLine;decide),fun tt htt=>?_⟩
     have hft:fA≠tt:=Zf hf'' htt
     have yl:ys.length<sizeLine:=by rw [wv.len];have:=tr.len M (by lia);exact ZV (by lia)
     refine ⟨fA,_,_,rfl,rfl,(by rw [Zi hft];exact hf''),yl,?_⟩
     have K5:∀(o1 o2:HO) c o,H'' c=some o->c≠fA->(upd (upd H'' tt o1) fA o2) c=some o:=fun o1 o2 c o e n=>by
      rw [Zi n,Zi (Zf e htt)]
      exact e
     have hlf2:H'' lf=some (.lst ((f0::rest).map V.int)):=by
      have:=sm2' lf _ hlf'
      rw [elf] at this
      exact this
     obtain ⟨j2,hj2,tr2⟩:=ZjH elf tr hi isT
     have f0T:f0∈W7 m f0 j:=isT.self
     have less:=ZkH elf f0T
     rw [elf] at less
     have llen:(f0::rest).length<=120:=by
      rw [<- elf]
      unfold Ga
      refine Nat.le_trans (List.length_filter_le _ _) ?_
      rw [Gs]
      lia
     refine ⟨_,rfl,lf,rfl,⟨_,Zu.of (K5 _ _ lf _ hlf2 nlf)⟩,Jg (K:=K) (a:=lf) (xs:=(f0::rest).map V.int) (by rw [List.length_map];exact Nat.le_of_lt (ZV (by lia))) (fun i zs G=>((∀c o,H'' c=some o->c≠fA->G c=some o)/\G fA=some (.lst (ys ++ [.ref tt]))/\G tt=some (.tup [.ref g,.int (Zes (fl dn (W7 m f0 j)) / 2)]))/\zs=(((f0::rest).take i).filter fun x=>decide (x∉W7 m f0 j)).map V.int)
      ⟨⟨fun c o e n=>K5 _ _ c o e n,Zb,by rw [Zi (Ne.symm hft),Zb];rfl⟩,by simp⟩ (fun i zs G p=>?_) (fun i zs G p=>Zu.of (p.1.1 lf _ hlf2 nlf)) (fun i x zs G hx p=>?_) (fun zs G p D hD=>?_)⟩
     ·rw [p.2,List.length_map]
      exact Nat.le_trans (List.length_filter_le _ _) (by rw [List.length_take];lia)
     ·obtain ⟨kp,rfl⟩:=p
      obtain ⟨t,ht,rfl⟩:=Zff hx
      have tk:((f0::rest).take (i+1)).filter (fun x=>decide (x∉W7 m f0 j))=((f0::rest).take i).filter (fun x=>decide (x∉W7 m f0 j))++(if t∈W7 m f0 j then [] else [t]):=by
       rw [List.take_add_one,ht,List.filter_append]
       by_cases z:t∈W7 m f0 j<;>simp [z]
      refine ⟨_,rfl,_,rfl,g,_,rfl,.inl (Zu.of (kp.1 g _ hg ngf)),rfl,Zdb _,_,rfl,?_⟩
      show if (!inV (V.int t) ((W7 m f0 j).map V.int))=true then _ else _
      rw [ZeP]
      by_cases z:t∈W7 m f0 j
      ·rw [decide_eq_true z]
       refine Jq ⟨kp,?_⟩
       rw [tk,if_pos z,List.append_nil]
      ·rw [decide_eq_false z]
       refine Wh ⟨_,rfl,kp,?_⟩
       rw [tk,if_neg z,List.map_append]
       rfl
     ·obtain ⟨kp,rfl⟩:=p
      have hDf:D≠fA:=(Zf kp.2.1 hD).symm
      have kD:∀c o,H'' c=some o->c≠fA->(upd G D (.lst ((((f0::rest).take ((f0::rest).map V.int).length).filter fun x=>decide (x∉W7 m f0 j)).map V.int))) c=some o:=fun c o e n=>by
       have e2:=kp.1 c o e n
       rw [Zi (Zf e2 hD)]
       exact e2
      refine ⟨ts ++ [W7 m f0 j],ys ++ [.ref tt],j2,D,_,_,_,_,_,less,rfl,fun c o e=>kD c o (s22 c o e) (Zf e hfA),?_,?_,hDf,?_,tr2,hj2⟩
      ·rw [Zi (Ne.symm hDf)]
       exact kp.2.1
      ·rw [Zb,ZgJ,elf,List.length_map,List.take_of_length_le (Nat.le_refl _)]
      ·refine Paired.snoc (wv.mono (fun c o n e=>kD c o (sm2' c o e) n) ⟨_,hf⟩) ⟨tt,g,rfl,?_,kD g _ hg ngf,ngf⟩
       rw [Zi (Zf kp.2.2 hD)]
       exact kp.2.2
    ·rw [decide_eq_false hin]
     refine Wh ?_
     have nf':∀q,1<=q->q<j+1->gt m f0 q≠f0:=fun q a b e=>by
      by_cases z:q=j
      ·subst z;exact hin ((Zjl M f0lo f0hi nf).mpr ⟨a,e⟩)
      ·exact nf q a (by lia) e
     have short2:=Zbi M f0lo f0hi nf'
     refine ⟨fun σ' H3=>∃(g:Addr) (v12 v13:Option V),σ' = [some (.ref l),some (.ref R),some (.ref dA),v3,v4,v5,v6,some (.ref fA),some (.ref lf),some (.ref g),some (.int (fl dn (W7 m f0 (j+1)))),some (.int (gt m f0 (j+1))),v12,v13]/\Zh H' H3/\H3 g=some (.lst ((W7 m f0 (j+1)).map V.int))/\g≠fA,
      fun σ' H3 ⟨g,a,b,e,h1,h2,h3⟩=>⟨m2-1,by lia,j+1,g,a,b,by lia,e,h1,h2,h3,nf'⟩,?_⟩
     obtain ⟨a,dg,ha⟩:=dget H'' s22 (gt m f0 j) (dom j).1 (dom j).2
     refine ⟨_,rfl,_,rfl,dA,_,rfl,dg,?_⟩
     refine ⟨a,_,rfl,JZ.of ha,rfl,_,_,rfl,_,_,rfl,rfl,?_⟩
     refine ⟨_,rfl,_,rfl,_,rfl,(by show 2<=sizeLine;decide),fun b hb=>?_⟩
     refine ⟨g,b,_,_,rfl,rfl,(Zh.laid hb) g _ hg,Zb,(by rw [List.length_map,GW];exact Nat.le_of_lt (ZV (by show _+2<=1000;lia))),fun g' hg'=>?_⟩
     have s3:Zh H'' (upd (upd H'' b (.lst [.int (gt m f0 j),.int (m (gt m f0 j))])) g' (.lst ((W7 m f0 j).map V.int ++ [.int (gt m f0 j),.int (m (gt m f0 j))]))):=(Zh.laid hb).step hg'
     have ng':g'≠fA:=(Zf ((Zh.laid (o:=.lst [.int (gt m f0 j),.int (m (gt m f0 j))]) hb) fA _ (sm2' fA _ hf)) hg').symm
     refine ⟨_,rfl,_,rfl,_,_,rfl,rfl,1,rfl,(by show 2<=sizeLine;decide),fun c hc=>?_⟩
     refine ⟨_,rfl,_,_,rfl,rfl,(by show (0:Int)<2;decide),c,_,_,_,rfl,rfl,Zu.of Zb,ZkZ _,_,_,rfl,rfl,?_⟩
     refine ⟨_,rfl,1,rfl,(by show 2<=sizeLine;decide),fun c2 hc2=>?_⟩
     refine ⟨_,rfl,_,_,rfl,rfl,(by show (0:Int)<2;decide),c2,_,_,_,rfl,rfl,Zu.of Zb,ZkZ _,_,_,rfl,rfl,?_⟩
     refine ⟨g',some (.int (m (gt m f0 j))),some (.int (dn (gt m f0 j))),?_,((sm2'.trans s3).step hc).step hc2,?_,ng'⟩
     ·rw [Zmd,show gt m f0 (j+1)=m (gt m f0 j)+ev2 (m (gt m f0 j)) from (Zlm _).symm]
      rfl
     ·have e1:=(Zh.laid (o:=.lst [.int 1,.int (-1)]) hc) g' _ Zb
      have e2:=(Zh.laid (o:=.lst [.int 1,.int (-1)]) hc2) g' _ e1
      refine e2.trans ?_
      simp [W7]
def stA (dn:Int->Int) (T:List Int) (i:Nat):Int:=if i % 2=0 then dn (T.getD i 0) else ev2 (T.getD i 0)
theorem ZhH (dn:Int->Int) (T:List Int):∀n,2*n<=T.length->((List.range (2*n)).map (stA dn T)).sum=fl dn (T.take (2*n))
 | 0,_=>by simp [fl]
 | n+1,h=>by
  have ih:=ZhH dn T n (by lia)
  have e:2*(n+1)=2*n+1+1:=by lia
  have h1:T[2*n]? = some (T.getD (2*n) 0):=by simp [show 2*n<T.length by lia]
  have h2:T[2*n+1]? = some (T.getD (2*n+1) 0):=by simp [show 2*n+1<T.length by lia]
  rw [e,List.range_succ,List.range_succ,List.take_add_one,List.take_add_one,h1,h2]
  have e2:T.take (2*n)++(some (T.getD (2*n) 0)).toList++(some (T.getD (2*n+1) 0)).toList=T.take (2*n) ++ [T.getD (2*n) 0,T.getD (2*n+1) 0]:=by simp
  rw [e2,Zdw dn _ _ n _ (by rw [List.length_take];lia),<- ih]
  have a1:stA dn T (2*n)=dn (T.getD (2*n) 0):=if_pos (by lia)
  have a2:stA dn T (2*n+1)=ev2 (T.getD (2*n+1) 0):=if_neg (by lia)
  rw [List.map_append,List.map_append,List.sum_append,List.sum_append]
  simp only [List.map_cons,List.map_nil,List.sum_cons,List.sum_nil,a1,a2]
  lia
def ZeA (dn:Int->Int) (T:List Int):Int:=Zes (fl dn T) / 2
def hAt (dn:Int->Int) (T:List Int):Nat->Int
 | 0=>1
 | i+1=>hAt dn T i-stA dn T i
def plc (T:List Int) (x:Int):Nat:=T.idxOf x
def hgt (dn:Int->Int) (T:List Int) (x:Int):Int:=hAt dn T (plc T x)
theorem Zmg {T:List Int} (nd:T.Nodup) {i:Nat} (hi:i<T.length):plc T T[i]=i:=by
 unfold plc
 exact List.Nodup.idxOf_getElem nd i hi
theorem ZlC {dn:Int->Int}{T:List Int} (nd:T.Nodup) {i:Nat} (hi:i<T.length):hgt dn T T[i]=hAt dn T i:=by
 unfold hgt
 rw [Zmg nd hi]
theorem ZgI (dn:Int->Int) (T:List Int):∀i,hAt dn T i=1-((List.range i).map (stA dn T)).sum
 | 0=>by simp [hAt]
 | i+1=>by
  rw [List.range_succ,List.map_append,List.sum_append]
  show hAt dn T i-stA dn T i=_
  rw [ZgI dn T i]
  simp
  lia
theorem ZfE (m:Int->Int) (f:Int):∀(L j:Nat),j<L->(W7 m f L)[2*j]? = some (gt m f j)/\(W7 m f L)[2*j+1]? = some (m (gt m f j))
 | 0,j,h=>by lia
 | L+1,j,h=>by
  have hl:=GW m f L
  by_cases e:j=L
  ·subst e
   constructor
   ·show (W7 m f j ++ [gt m f j,m (gt m f j)])[2*j]? = _
    rw [List.getElem?_append_right (by lia),hl]
    simp
   ·show (W7 m f j ++ [gt m f j,m (gt m f j)])[2*j+1]? = _
    rw [List.getElem?_append_right (by lia),hl]
    simp [show 2*j+1-2*j=1 by lia]
  ·obtain ⟨a,b⟩:=ZfE m f L j (by lia)
   constructor
   ·show (W7 m f L++_)[2*j]? = _
    rw [List.getElem?_append_left (by lia)];exact a
   ·show (W7 m f L++_)[2*j+1]? = _
    rw [List.getElem?_append_left (by lia)];exact b
structure One (ps:List (Int×Int)) (N:Nat) (T:List Int) (L:Nat):Prop where
 M:JT (JO ps) N
 fl0:(ZL ps).Nodup
 T_is:T=W7 (JO ps) 0 L
 L1:1<=L
 back:gt (JO ps) 0 L=0
 nd:T.Nodup
 all:∀x:Int,0<=x->x<N->x∈T
 dom:∀x∈T,0<=x/\x<(N:Int)
 zero:fl (Yn ps) T=0
theorem ZjZ {ps:List (Int×Int)}{u l b:Int} (nd:(ZL ps).Nodup) (h:(u,l)∈ps) (h2:(l,b)∈ps):False:=by
 induction ps with
 | nil=>cases h
 | cons p r ih=>
  have e:ZL (p::r)=p.1::p.2::ZL r:=by simp [ZL]
  have fr:=nd
  rw [e] at nd
  obtain ⟨n1,nd2⟩:=List.nodup_cons.mp nd
  obtain ⟨n2,nd3⟩:=List.nodup_cons.mp nd2
  have inr:∀{a c:Int},(a,c)∈r->a∈ZL r/\c∈ZL r:=fun {a c} z=>⟨List.mem_flatMap.mpr ⟨(a,c),z,by simp⟩,List.mem_flatMap.mpr ⟨(a,c),z,by simp⟩⟩
  rcases List.mem_cons.mp h with z | z
  ·rcases List.mem_cons.mp h2 with y | y
   ·subst z
    have:(u,l)=(l,b):=y.symm
    have e1:u=l:=congrArg Prod.fst this
    exact Zay fr (List.mem_cons_self) e1
   ·subst z
    exact n2 (inr y).1
  ·rcases List.mem_cons.mp h2 with y | y
   ·subst y
    exact n1 (List.mem_cons_of_mem _ (inr z).2)
   ·exact ih nd3 z y
namespace One
variable {ps:List (Int×Int)}{N:Nat}{T:List Int}{L:Nat}
theorem len (o:One ps N T L):T.length=2*L:=by rw [o.T_is];exact GW _ _ _
theorem at0 (o:One ps N T L) {j:Nat} (h:j<L):T[2*j]? = some (gt (JO ps) 0 j):=by rw [o.T_is];exact (ZfE _ _ L j h).1
theorem at1 (o:One ps N T L) {j:Nat} (h:j<L):T[2*j+1]? = some (JO ps (gt (JO ps) 0 j)):=by rw [o.T_is];exact (ZfE _ _ L j h).2
theorem hg (o:One ps N T L) {i:Nat}{x:Int} (h:T[i]? = some x):hgt (Yn ps) T x=hAt (Yn ps) T i:=by
 obtain ⟨hi,e⟩:=List.getElem?_eq_some_iff.mp h
 rw [<- e]
 exact ZlC o.nd hi
theorem stE (o:One ps N T L) {j:Nat} (h:j<L):hAt (Yn ps) T (2*j+1)=hAt (Yn ps) T (2*j)-Yn ps (gt (JO ps) 0 j):=by
 show hAt (Yn ps) T (2*j)-stA (Yn ps) T (2*j)=_
 unfold stA
 rw [if_pos (by lia)]
 have:=o.at0 h
 simp [this]
theorem stO (o:One ps N T L) {j:Nat} (h:j<L):hAt (Yn ps) T (2*j+2)=hAt (Yn ps) T (2*j+1)-ev2 (JO ps (gt (JO ps) 0 j)):=by
 show hAt (Yn ps) T (2*j+1)-stA (Yn ps) T (2*j+1)=_
 unfold stA
 rw [if_neg (by lia)]
 have:=o.at1 h
 simp [this]
theorem Znr (o:One ps N T L):hAt (Yn ps) T (2*L)=1:=by
 rw [ZgI]
 have:=ZhH (Yn ps) T L (by rw [o.len];exact Nat.le_refl _)
 rw [this,List.take_of_length_le (by rw [o.len];exact Nat.le_refl _),o.zero]
 rfl
theorem on (o:One ps N T L) {x:Int} (h0:0<=x) (h1:x<N):∃j,j<L/\(x=gt (JO ps) 0 j∨x=JO ps (gt (JO ps) 0 j)):=by
 have:=o.all x h0 h1
 rw [o.T_is] at this
 exact Y6.mp this
theorem pos (o:One ps N T L):(0:Int)<N:=by
 have:=o.at0 (j:=0) o.L1
 have h:=o.dom _ (List.mem_of_getElem? this)
 have e:gt (JO ps) 0 0=0:=rfl
 rw [e] at h
 exact h.2
theorem ZkC (o:One ps N T L) (j:Nat):0<=gt (JO ps) 0 j/\gt (JO ps) 0 j<(N:Int):=YO o.M (by decide) o.pos j
theorem ends (o:One ps N T L) {u l:Int} (h:(u,l)∈ps) (hu:0<=u/\u<(N:Int)):hgt (Yn ps) T u=hgt (Yn ps) T l+1:=by
 obtain ⟨m1,m2⟩:=Zcc o.fl0 h
 have ne:=Zay o.fl0 h
 have du:Yn ps u=1:=if_pos (List.mem_map.mpr ⟨(u,l),h,rfl⟩)
 have dl:Yn ps l = -1:=by
  unfold Yn
  rw [if_neg]
  intro z
  obtain ⟨⟨a,b⟩,hab,e⟩:=List.mem_map.mp z
  have e:a=l:=e
  subst e
  have q:=(Zcc o.fl0 hab).1
  rw [m2] at q
  subst q
  exact ZjZ o.fl0 h hab
 obtain ⟨j,hj,c⟩:=o.on hu.1 hu.2
 rcases c with c | c
 ·have a0:=o.at0 hj
  have a1:=o.at1 hj
  rw [<- c] at a0 a1
  rw [m1] at a1
  rw [o.hg a0,o.hg a1,o.stE hj,<- c,du]
  lia
 ·have a0:=o.at0 hj
  have a1:=o.at1 hj
  have e:gt (JO ps) 0 j=l:=by
   have:=o.M.inv _ (o.ZkC j).1 (o.ZkC j).2
   rw [<- c,m1] at this
   exact this.symm
  rw [e] at a0
  rw [<- c] at a1
  rw [o.hg a0,o.hg a1,o.stE hj,e,dl]
  lia
theorem ZhN (o:One ps N T L) {x:Int} (h0:0<=x) (h1:x<N) (hx:x % 2=0):hgt (Yn ps) T x=hgt (Yn ps) T (x+1)+1:=by
 have key:∀y:Int,(∃j,j<L/\y=JO ps (gt (JO ps) 0 j))->0<=y->hgt (Yn ps) T (bw y)=hgt (Yn ps) T y-ev2 y:=by
  rintro y ⟨j,hj,e⟩ _
  have a1:=o.at1 hj
  rw [<- e] at a1
  rw [o.hg a1]
  have nx:gt (JO ps) 0 (j+1)=bw y:=by rw [e];rfl
  have st:=o.stO hj
  rw [<- e] at st
  by_cases lt:j+1<L
  ·have a2:=o.at0 lt
   rw [nx] at a2
   rw [o.hg a2,<- st]
   rfl
  ·have eL:j+1=L:=by omega
   have z0:bw y=0:=by rw [<- nx,eL];exact o.back
   have a0:=o.at0 (j:=0) o.L1
   have e0:gt (JO ps) 0 0=0:=rfl
   rw [e0] at a0
   rw [z0,o.hg a0,<- st]
   have:=o.Znr
   rw [show 2*L=2*j+2 by omega] at this
   rw [this]
   rfl
 have hb:bw x=x+1:=if_pos hx
 have hb1:bw (x+1)=x:=by rw [<- hb];exact ZbC x
 have h2:=ZiT o.M.ev h0 h1
 rw [hb] at h2
 obtain ⟨j,hj,c⟩:=o.on h2.1 h2.2
 rcases c with c | c
 ·
  have hx':∃i,i<L/\x=JO ps (gt (JO ps) 0 i):=by
   cases j with
   | zero=>
    have e0:gt (JO ps) 0 0=0:=rfl
    rw [e0] at c
    omega
   | succ i=>
    refine ⟨i,by omega,?_⟩
    have:gt (JO ps) 0 (i+1)=bw (JO ps (gt (JO ps) 0 i)):=rfl
    rw [this] at c
    rw [<- ZbC (JO ps (gt (JO ps) 0 i)),<- c,hb1]
  have q:=key x hx' h0
  rw [hb] at q
  have:ev2 x=1:=if_pos hx
  omega
 ·have q:=key (x+1) ⟨j,hj,c⟩ h2.1
  rw [hb1] at q
  have:ev2 (x+1) = -1:=if_neg (by omega)
  omega
theorem h0 (o:One ps N T L):hgt (Yn ps) T 0=1:=by
 have a0:=o.at0 (j:=0) o.L1
 have e0:gt (JO ps) 0 0=0:=rfl
 rw [e0] at a0
 rw [o.hg a0]
 rfl
theorem h1 (o:One ps N T L):hgt (Yn ps) T 1=0:=by
 have:=o.ZhN (x:=0) (by decide) o.pos (by decide)
 rw [o.h0] at this
 have e:(0:Int)+1=1:=rfl
 rw [e] at this
 lia
end One
theorem Zcy {m:Int->Int}{ts:List (List Int)} (h:U3 m 0 ts):ts = []:=by cases h;rfl
theorem Za7 {m:Int->Int}:∀{n:Nat}{ts:List (List Int)},U3 m (n+1) ts -> ∃T r,ts=T::r/\Jo m 0 T
 | 0,ts,h=>by
  cases h with
  | add a b c=>rw [Zcy a];exact ⟨_,[],rfl,c⟩
  | skip a b=>rw [Zcy a] at b;simp at b
 | n+1,ts,h=>by
  cases h with
  | add a b c=>
   obtain ⟨T,r,e,t⟩:=Za7 a
   rw [e]
   exact ⟨T,_,rfl,t⟩
  | skip a b=>exact Za7 a
theorem Zlq (ps:List (Int×Int)) (x:Int):Yn ps x % 2=1:=by unfold Yn;split<;>decide
theorem ZjG (x:Int):ev2 x % 2=1:=by unfold ev2;split<;>decide
theorem Zf7 (ps:List (Int×Int)):∀T:List Int,fl (Yn ps) T % 2=0
 | []=>rfl
 | [_]=>rfl
 | x::y::r=>by
  have h:=Zf7 ps r
  have a:=Zlq ps x
  have b:=ZjG y
  show (Yn ps x+ev2 y+fl (Yn ps) r) % 2=0
  omega
theorem sub_len:∀{l l':List Int},l.Nodup->(∀x∈l,x∈l')->l.length<=l'.length
 | [],_,_,_=>Nat.zero_le _
 | a::r,l',nd,h=>by
  obtain ⟨na,nr⟩:=List.nodup_cons.mp nd
  have ih:=sub_len (l':=l'.erase a) nr fun x hx=>(List.mem_erase_of_ne (fun z:x=a=>na (by rw [<- z];exact hx))).mpr (h x (List.mem_cons_of_mem _ hx))
  have ha:=h a List.mem_cons_self
  rw [List.length_erase_of_mem ha] at ih
  have:0<l'.length:=List.length_pos_of_mem ha
  rw [List.length_cons]
  lia
theorem ZlQ {ls:List (Str×Int)}{T:List Int} (hW:Wk ls 0) (tr:U3 (JO (Wu ls)) (Gb ls) [T]) (h0:ZeA (Yn (Wu ls)) T=0):∃L,One (Wu ls) (Gb ls) T L/\T.length=Gb ls:=by
 have M:=GD hW
 have nd0:(ZL (Wu ls)).Nodup:=(GG hW).symm.nodup (W5 _)
 cases e:Gb ls with
 | zero=>rw [e] at tr;exact absurd (Zcy tr) (by simp)
 | succ n=>
  rw [e] at tr M
  obtain ⟨T',r,q,t⟩:=Za7 tr
  cases q
  have p0:(0:Int)<((n+1:Nat):Int):=by lia
  obtain ⟨L,L1,bk,no,rfl⟩:=id t
  have nd:=t.nodup M (by decide) p0
  have all:∀x:Int,0<=x->x<((n+1:Nat):Int)->x∈W7 (JO (Wu ls)) 0 L:=fun x x0 x1=>by
   obtain ⟨k,rfl⟩:=Int.eq_ofNat_of_zero_le x0
   simpa using tr.mem k (by lia)
  refine ⟨L,⟨M,nd0,rfl,L1,bk,nd,all,t.dom M (by decide) p0,?_⟩,?_⟩
  ·have:=Zf7 (Wu ls) (W7 (JO (Wu ls)) 0 L)
   unfold ZeA Zes at h0
   split at h0<;>lia
  ·have a:=t.len M (by decide) p0
   have b:n+1<=(W7 (JO (Wu ls)) 0 L).length:=by
    have sub:∀x∈Ud (n+1),x∈W7 (JO (Wu ls)) 0 L:=fun x hx=>all x (Jd.mp hx).1 (Jd.mp hx).2
    have:=sub_len (W5 (n+1)) sub
    rwa [Gs] at this
   lia
def kn (kvs:List (Key×V)) (x:Int):Prop:=(JG kvs (Sum.inl x)).isSome=true
structure Dc (g:Int->Int) (H:Hp) (d:Addr) (n:Nat) (kvs:List (Key×V)):Prop where
 at_:H d=some (.dK kvs)
 le:kvs.length<=n
 ok:∀x v,JG kvs (Sum.inl x)=some v->v = .int (g x)
theorem Za5 {kvs:List (Key×V)}{x y:Int}{v:V}:kn (putK kvs (Sum.inl y) v) x ↔ (x=y∨kn kvs x):=by
 unfold kn
 rw [ZcD]
 by_cases e:x=y
 ·rw [if_pos (congrArg Sum.inl e)]
  simp [e]
 ·rw [if_neg (fun z=>e (Sum.inl.inj z))]
  simp [e]
theorem Dc.put {g:Int->Int}{H:Hp}{d:Addr}{n:Nat}{kvs:List (Key×V)}{y:Int} (h:Dc g H d n kvs):Dc g (upd H d (.dK (putK kvs (Sum.inl y) (.int (g y))))) d (n+1) (putK kvs (Sum.inl y) (.int (g y))):=by
 refine ⟨Zb,?_,fun x v e=>?_⟩
 ·have:=Wg kvs (Sum.inl y) (.int (g y))
  have:=h.le
  lia
 ·rw [ZcD] at e
  split at e
  ·rename_i z
   cases e
   rw [Sum.inl.inj z]
  ·exact h.ok x v e
theorem Dc.val {g:Int->Int}{H:Hp}{d:Addr}{n:Nat}{kvs:List (Key×V)}{x:Int} (h:Dc g H d n kvs) (k:kn kvs x):JG kvs (Sum.inl x)=some (.int (g x)):=by
 unfold kn at k
 cases e:JG kvs (Sum.inl x) with
 | none=>rw [e] at k;cases k
 | some v=>rw [h.ok x v e]
theorem Zc9 {g:Int->Int}{tu tl td:TE} {σ:L2.St}{H:Hp}{d:Addr}{n:Nat}{kvs:List (Key×V)}{u l:Int}{D:Ends} (hu:∀(H:Hp) (Q:VK),Q (.int u) H->tu σ H Q) (hl:∀(H:Hp) (Q:VK),Q (.int l) H->tl σ H Q) (hd:∀(H:Hp) (Q:VK),Q (.ref d) H->td σ H Q)
  (dc:Dc g H d n kvs) (hn:n<1000000) (hg:g u=g l+1)
  (k:∀(H':Hp) (kvs':List (Key×V)),JV d H H'->Dc g H' d (n+1) kvs'->(∀x,kn kvs x->kn kvs' x)->((kn kvs u∨kn kvs l)->kn kvs' u/\kn kvs' l)->D.nx σ H'):
  ZgP (tB (Zjj tu td)) (Zg9 (tOp (rI0 fun i j=>V.int (i-j)) (tOp Zjv td tu) (tC (V.int 1))) (ZlO td tl Zjd))
   (ZgP (tB (Zjj tl td)) (Zg9 (tOp (rI0 fun i j=>V.int (i+j)) (tOp Zjv td tl) (tC (V.int 1))) (ZlO td tu Zjd)) Zk3) D σ H:=by
 have sz:kvs.length<sizeLine:=by have:=dc.le;rw [sizeLine_eq];lia
 refine hu _ _ (hd _ _ ⟨d,_,rfl,Ue.k (k:=Sum.inl u) dc.at_,_,rfl,?_⟩)
 refine Y0 (fun c=>?_) (fun c=>?_)
 ·have ku:kn kvs u:=c
  refine hd _ _ (hu _ _ ⟨d,.int (g u),rfl,?_,_,_,rfl,rfl,hd _ _ (hl _ _ ⟨d,_,rfl,ZcM.k (k:=Sum.inl l) dc.at_ sz,?_⟩)⟩)
  ·have:=Ue.k (k:=Sum.inl u) dc.at_
   rw [dc.val ku] at this
   exact this
  ·have e:g u-1=g l:=by lia
   show D.nx σ (upd H d (.dK (putK kvs (Sum.inl l) (.int (g u-1)))))
   rw [e]
   exact k _ _ JV.upd dc.put (fun x h=>Za5.mpr (.inr h)) (fun _=>⟨Za5.mpr (.inr ku),Za5.mpr (.inl rfl)⟩)
 ·have nu:¬kn kvs u:=c
  refine hl _ _ (hd _ _ ⟨d,_,rfl,Ue.k (k:=Sum.inl l) dc.at_,_,rfl,?_⟩)
  refine Y0 (fun c2=>?_) (fun c2=>?_)
  ·have kl:kn kvs l:=c2
   refine hd _ _ (hl _ _ ⟨d,.int (g l),rfl,?_,_,_,rfl,rfl,hd _ _ (hu _ _ ⟨d,_,rfl,ZcM.k (k:=Sum.inl u) dc.at_ sz,?_⟩)⟩)
   ·have:=Ue.k (k:=Sum.inl l) dc.at_
    rw [dc.val kl] at this
    exact this
   ·have e:g l+1=g u:=hg.symm
    show D.nx σ (upd H d (.dK (putK kvs (Sum.inl u) (.int (g l+1)))))
    rw [e]
    exact k _ _ JV.upd dc.put (fun x h=>Za5.mpr (.inr h)) (fun _=>⟨Za5.mpr (.inl rfl),Za5.mpr (.inr kl)⟩)
  ·have nl:¬kn kvs l:=c2
   exact k H kvs (JV.refl _ _) ⟨dc.at_,by have:=dc.le;lia,dc.ok⟩ (fun x h=>h) (fun z=>z.elim (fun y=>absurd y nu) (fun y=>absurd y nl))
theorem One.pair {ps:List (Int×Int)}{N:Nat}{T:List Int}{L:Nat} (o:One ps N T L) (pf:∀x:Int,0<=x->x<N->x∈ZL ps) {x:Int} (h0:0<=x) (h1:x<N):∃u l,(u,l)∈ps/\((x=u/\JO ps x=l)∨(x=l/\JO ps x=u)):=by
 obtain ⟨⟨u,l⟩,hp,hx⟩:=List.mem_flatMap.mp (pf x h0 h1)
 obtain ⟨a,b⟩:=Zcc o.fl0 hp
 refine ⟨u,l,hp,?_⟩
 rcases List.mem_cons.mp hx with z | z
 ·have z:x=u:=z
  exact .inl ⟨z,by rw [z];exact a⟩
 ·have z:x=l:=List.mem_singleton.mp z
  exact .inr ⟨z,by rw [z];exact b⟩
theorem One.grow {ps:List (Int×Int)}{N:Nat}{T:List Int}{L:Nat} (o:One ps N T L) (pf:∀x:Int,0<=x->x<N->x∈ZL ps) {A B C:List (Key×V)}
  (ab:∀x,kn A x->kn B x) (bc:∀x,kn B x->kn C x) (pe:∀u l,(u,l)∈ps->(kn A u∨kn A l)->kn B u/\kn B l) (pb:∀j:Nat,2*j<N->(kn B (2*j)∨kn B (2*j+1))->kn C (2*j)/\kn C (2*j+1)) {r:Nat}
  (h:∀i x,i<=r->T[i]? = some x->kn A x):∀i x,i<=r+1->T[i]? = some x->kn C x:=by
 intro i x hi hx
 by_cases c:i<=r
 ·exact bc _ (ab _ (h i x c hx))
 ·have e:i=r+1:=by omega
  subst e
  have hlt:r+1<T.length:=(List.getElem?_eq_some_iff.mp hx).1
  have hL:=o.len
  by_cases ev:r % 2=0
  ·obtain ⟨j,rfl⟩:∃j,r=2*j:=⟨r / 2,by omega⟩
   have a0:=o.at0 (j:=j) (by omega)
   have a1:=o.at1 (j:=j) (by omega)
   rw [hx] at a1
   have ex:x=JO ps (gt (JO ps) 0 j):=Option.some.inj a1
   have kA:=h (2*j) _ (Nat.le_refl _) a0
   obtain ⟨u,l,hp,c⟩:=o.pair pf (o.ZkC j).1 (o.ZkC j).2
   rw [ex]
   rcases c with ⟨z1,z2⟩ | ⟨z1,z2⟩
   ·rw [z2];exact bc _ (pe u l hp (.inl (z1 ▸ kA))).2
   ·rw [z2];exact bc _ (pe u l hp (.inr (z1 ▸ kA))).1
  ·obtain ⟨j,rfl⟩:∃j,r=2*j+1:=⟨r / 2,by omega⟩
   have a1:=o.at1 (j:=j) (by omega)
   have a2:=o.at0 (j:=j+1) (by omega)
   have e2:2*(j+1)=2*j+1+1:=by omega
   rw [e2,hx] at a2
   have ex:x=bw (JO ps (gt (JO ps) 0 j)):=Option.some.inj a2
   have kB:=ab _ (h (2*j+1) _ (Nat.le_refl _) a1)
   obtain ⟨y,hy⟩:∃y,y=JO ps (gt (JO ps) 0 j):=⟨_,rfl⟩
   rw [<- hy] at ex kB
   have yd:0<=y/\y<(N:Int):=by rw [hy];exact o.dom _ (List.mem_of_getElem? a1)
   have ne:=o.M.ev
   rw [ex]
   unfold bw
   split
   ·rename_i z
    obtain ⟨q,hq⟩:∃q:Nat,y=2*(q:Int):=⟨(y / 2).toNat,by omega⟩
    rw [hq] at kB yd ⊢
    exact (pb q (by omega) (.inl kB)).2
   ·rename_i z
    obtain ⟨q,hq⟩:∃q:Nat,y=2*(q:Int)+1:=⟨(y / 2).toNat,by omega⟩
    rw [hq] at kB yd ⊢
    have:=(pb q (by omega) (.inr kB)).1
    rwa [show 2*(q:Int)+1-1=2*(q:Int) by omega]
def lhV (sc:Int) (ls:List (Str×Int)) (H H':Hp) (v:V):Prop:=(sc=1 /\ ∃p,v = .ref p/\H p=none/\H' p=some (.lst (tab (Gb ls) fun _=>V.int 0))) ∨
 (sc≠1 /\ ∃ts,U3 (JO (Wu ls)) (Gb ls) ts/\((ts.map (ZeA (Yn (Wu ls))) ≠ [0]/\v = .non)∨(∃p T L,ts = [T]/\ZeA (Yn (Wu ls)) T=0/\One (Wu ls) (Gb ls) T L/\v = .ref p/\H p=none/\H' p=some (.lst (tab (Gb ls) fun x=>V.int (hgt (Yn (Wu ls)) T x))))))
def ZlN:Sp:=fun vs H Q _=>∃(l:Addr) (sc:Int) (xs:List V) (ls:List (Str×Int)),vs = [.ref l,.int sc]/\H l=some (.lst xs)/\ZI H xs ls/\ls.length<=60/\Wk ls 0 /\
 ∀(v:V) (H':Hp),Zh H H'->lhV sc ls H H' v->Q v H'
theorem Zkr {ls:List (Str×Int)}{ts:List (List Int)} (hW:Wk ls 0) (tr:U3 (JO (Wu ls)) (Gb ls) ts):(ts.map fun T=>(T.length:Int)).sum=(Gb ls:Int):=by
 have good:=tr.good (GD hW) (Int.le_refl _)
 have e:∀us:List (List Int),(us.map fun T=>(T.length:Int)).sum=(us.flatten.length:Int):=by
  intro us
  induction us with
  | nil=>rfl
  | cons a r ih=>simp only [List.map_cons,List.sum_cons,ih,List.flatten_cons,List.length_append];lia
 rw [e]
 have a:=Gd (Gb ls) ts.flatten good.1 (fun x hx=>good.2.1 x hx)
 have b:Gb ls<=ts.flatten.length:=by
  have:=sub_len (W5 (Gb ls)) (l':=ts.flatten) (fun x hx=>by
   obtain ⟨x0,x1⟩:=Jd.mp hx
   obtain ⟨k,rfl⟩:=Int.eq_ofNat_of_zero_le x0
   exact tr.mem k (by lia))
  rwa [Gs] at this
 lia
theorem WV.at' {z:Addr}{dn:Int->Int}{H:Hp}:∀{ys:List V}{ts:List (List Int)}{i:Nat}{x:V},WV z dn H ys ts->ys[i]? = some x -> ∃T,ts[i]? = some T /\ ∃a g,x=V.ref a/\H a=some (.tup [.ref g,.int (Zes (fl dn T) / 2)])/\H g=some (.lst (T.map V.int))
 | _,_,_,_,.nil,e=>by simp at e
 | _,_,0,_,.cons ⟨a,g,q,ha,hg,_⟩ _,e=>by simp at e;subst e;exact ⟨_,rfl,a,g,q,ha,hg⟩
 | _,_,i+1,x,.cons _ r,e=>by
  obtain ⟨T,h1,h2⟩:=WV.at' (i:=i) (x:=x) r (by simpa using e)
  exact ⟨T,by simpa using h1,h2⟩
abbrev Jp:Stmt:=top 25
theorem ZQ:ZH ["_law_drawing_here", "_law_scale", "_law_walks_here", "_law_many", "_law_rows_here", "_law_found", "_law_turn", "_law_t", "_law_letter", "_law_upper", "_law_lower", "_law_thread"] ["_law_drawing_here", "_law_scale"] (Zl Jp):={}
theorem Znf {f:Addr}{fd:FuncData} (F:Jl K "_law_heights" "_law_heights" Jp f fd) (GH:Jm P w K mg base 2 "_law_walks" ["_law_drawing_here"] ZdN) (YK:Jm P w K mg base 1 "_law_rows" ["_law_drawing_here"] Zb0)
  (ZA:mg "enumerate" = none) (ZiU:mg "sum" = none) (Yi:mg "len" = none) (ZC:mg "range" = none):Ys P w K mg base W3 3 f fd ["_law_drawing_here", "_law_scale"] ZlN:=by
 refine F.ok ZQ (fun vs H Q E h=>?_) (fun cdv A outer s H vs Q E hr h=>?_)
 ·obtain ⟨l,sc,xs,ls,rfl,_⟩:=h
  rfl
 ·obtain ⟨l,sc,xs,ls,rfl,hl,hL,hlen,hW,k⟩:=h
  have n120:=Zc8 hlen
  have hxl:=hL.len
  refine ⟨_,(Ze (Zo (i:=2) ZQ.nd rfl (Or.inl rfl) (Zz GH hr (Za (pv 0) Zc)))
   (Ze (Zo (i:=3) ZQ.nd rfl (Or.inl rfl) (ZE (Zhl (K:=K) rfl rfl) (by rfl) ZiU boot_sum (Za (Gz (Ls:=["_law_gone", "_law_turn"]) (Fs:=[]) (fi:=[]) (ZR.of (show Ym ["_law_drawing_here", "_law_scale", "_law_walks_here", "_law_many", "_law_rows_here", "_law_found", "_law_turn", "_law_t", "_law_letter", "_law_upper", "_law_lower", "_law_thread"] (Zl Jp) _ [] []=true by decide +kernel)) rfl (Z8 (K:=K) rfl (pv 2)) (fun cl C s3 H3 ex=>⟨(Ye (K:=K) (n:=2) rfl rfl (Zq (Zk (i:=0) (show ((["_law_gone", "_law_turn"]:List Str)++([]:List Str)).Nodup by decide +kernel) rfl (Or.inl rfl)) (Zq (Zk (i:=1) (show ((["_law_gone", "_law_turn"]:List Str)++([]:List Str)).Nodup by decide +kernel) rfl (Or.inl rfl)) Z6))),Yh,(ZE (Yj (K:=K) rfl) (by rfl) Yi PySem.boot_len (Za (pv 0) Zc))⟩)) Zc)))
   (Ze (ZU (Zr YA (pv 1) Zd (Zv _)) (Zg (ZD (Zj Zbo (ZY (Za Zd Zc)) (pv 3)))) ZG)
   (Ze (ZU (PW.pt (Zad (Zr UO (ZE (Yj (K:=K) rfl) (by rfl) Yi PySem.boot_len (Za (pv 2) Zc)) Zd (Zv _)) (Uq (Zr UO (Zx (YF (K:=K) rfl) (Zx (Zm (K:=K) rfl) (pv 2) Zd (fun _ _=>rfl)) Zd (fun _ _=>rfl)) Zd (Zv _))))) (Zg (ZD Gm)) ZG)
   (Ze (Zo (i:=4) ZQ.nd rfl (Or.inl rfl) (Zz YK hr (Za (pv 0) Zc)))
   (Ze (Zo (i:=5) ZQ.nd rfl (Or.inr rfl) (ZkA (ZeN Zd Zd (ZeN Zd Zd Zkt)) rfl rfl (by intro z;cases z) (by decide)))
   (Ze (Yc PassesOwn.never rfl (Yb (by rfl) ZC (Za (pv 3) Zc)) (Zk (i:=6) ZQ.nd rfl (Or.inl rfl)) (Ze (Yc PassesOwn.never rfl (JE (K:=K) rfl (by rfl) ZA (Za (pv 0) Zc)) (Ye (K:=K) (n:=2) rfl rfl (Zq (Zk (i:=7) ZQ.nd rfl (Or.inl rfl)) (Zq (Zk (i:=8) ZQ.nd rfl (Or.inl rfl)) Z6))) (Zg (ZU (Zr YA (Zx (YF (K:=K) rfl) (pv 8) Zd (fun _ _=>rfl)) ZK (Zv _)) (Ze (Yv (YB (YD (K:=K) rfl) (Zx (Zm (K:=K) rfl) (pv 4) (pv 7) (fun _ _=>rfl)) (YE (Zx (YF (K:=K) rfl) (pv 8) Zd (fun _ _=>rfl))) (YE (Zj Zw (Zx (YF (K:=K) rfl) (pv 8) Zd (fun _ _=>rfl)) Zd))) (Zdq (K:=K) (n:=2) rfl rfl (Zq (Zk (i:=9) ZQ.nd rfl (Or.inl rfl)) (Zq (Zk (i:=10) ZQ.nd rfl (Or.inl rfl)) Z6))))
   (Zg (ZU (Zd4 (Zd6 (JF hr) (pv 9) (pv 5))) (Zg (Yv (Zj Yr (Zx (Wb (JF hr)) (pv 5) (pv 9) (fun _ _=>rfl)) Zd) (YC (pv 5) (pv 10) (set_dict (JF hr))))) (Zg (ZU (Zd4 (Zd6 (JF hr) (pv 10) (pv 5))) (Zg (Yv (Zj Zw (Zx (Wb (JF hr)) (pv 5) (pv 10) (fun _ _=>rfl)) Zd) (YC (pv 5) (pv 9) (set_dict (JF hr))))) ZG))))) ZG)))
   (Zg (Yc PassesOwn.never rfl (ZgZ (by rfl) ZC (Za Zd (Za (pv 3) (Za Zd Zc)))) (Zk (i:=11) ZQ.nd rfl (Or.inl rfl)) (Zg (ZU (Zd4 (Zd6 (JF hr) (pv 11) (pv 5))) (Zg (Yv (Zj Yr (Zx (Wb (JF hr)) (pv 5) (pv 11) (fun _ _=>rfl)) Zd) (YC (pv 5) (Zj Zw (pv 11) Zd) (set_dict (JF hr))))) (Zg (ZU (Zd4 (Zd6 (JF hr) (Zj Zw (pv 11) Zd) (pv 5))) (Zg (Yv (Zj Zw (Zx (Wb (JF hr)) (pv 5) (Zj Zw (pv 11) Zd) (fun _ _=>rfl)) Zd) (YC (pv 5) (pv 11) (set_dict (JF hr))))) ZG))))))))
   (Zg (ZD (Gz (Ls:=["_law_thread"]) (Fs:=["_law_found"]) (fi:=[5]) (ZR.of (show Ym ["_law_drawing_here", "_law_scale", "_law_walks_here", "_law_many", "_law_rows_here", "_law_found", "_law_turn", "_law_t", "_law_letter", "_law_upper", "_law_lower", "_law_thread"] (Zl Jp) _ ["_law_found"] [5]=true by decide +kernel)) rfl (Yb (by rfl) ZC (Za (pv 3) Zc)) (fun cl C s3 H3 ex=>⟨(Zk (i:=0) (show ((["_law_thread"]:List Str)++(["_law_found"]:List Str)).Nodup by decide +kernel) rfl (Or.inl rfl)),Yh,(Zx (Wb (JF hr)) (pv 1) (pv 0) (fun _ _=>rfl))⟩))))))))))),?_⟩
  refine ⟨_,rfl,l,xs,ls,rfl,hl,hL,hlen,hW,fun wA H1 ys ts fw s1 ew wv tr=>?_⟩
  have good:=tr.good (GD hW) (Int.le_refl _)
  have tl:=tr.len (GD hW) (Int.le_refl _)
  have yl:=wv.len
  refine ⟨_,rfl,wA,rfl,⟨_,Zu.of ew⟩,Jg (K:=K) (a:=wA) (xs:=ys) (Nat.le_of_lt (ZV (by lia))) (fun i zs G=>Zh H1 G/\zs=((ts.take i).map fun T=>(T.length:Int)).map V.int) ⟨Zh.refl _,rfl⟩
   (fun i zs G q=>by rw [q.2,List.length_map,List.length_map,List.length_take];lia) (fun i zs G q=>Zu.of (q.1 wA _ ew)) (fun i x zs G hx q=>?_) (fun zs G q D hD=>?_)⟩
  ·obtain ⟨sq,rfl⟩:=q
   obtain ⟨T,hT,a,g,rfl,ha,hg⟩:=wv.at' hx
   refine ⟨a,_,rfl,JZ.of (sq _ _ ha),rfl,_,_,rfl,_,_,rfl,rfl,?_⟩
   dsimp only [Zcu]
   rw [if_pos rfl]
   refine ⟨_,rfl,g,_,rfl,.inl (Zu.of (sq _ _ hg)),sq,?_⟩
   rw [List.length_map,Zaf (ns:=ts) _ hT,List.map_append]
   rfl
  obtain ⟨sq,rfl⟩:=q
  rw [yl,List.take_of_length_le (Nat.le_refl _)]
  refine ⟨D,_,rfl,Zu.of Zb,?_⟩
  rw [Zkr hW tr]
  have s2:=(s1.trans sq).step (o:=.lst ((ts.map fun T=>(T.length:Int)).map V.int)) hD
  have s12:=sq.step (o:=.lst ((ts.map fun T=>(T.length:Int)).map V.int)) hD
  generalize upd G D (.lst ((ts.map fun T=>(T.length:Int)).map V.int))=H2 at *
  have ew2:=s12 _ _ ew
  refine ⟨_,rfl,rfl,_,rfl,?_⟩
  refine Y0 (fun c=>?_) (fun c=>?_)
  ·have e:sc=1:=V.int.inj (of_decide_eq_true c)
   refine ⟨(by show 1<=sizeLine;decide),fun l0 hl0=>⟨_,rfl,?_⟩⟩
   refine ⟨l0,_,_,rfl,rfl,Zb,by lia,by lia,(by show 1*_<=sizeLine;exact Nat.le_of_lt (ZV (by lia))),fun rA hrA=>?_⟩
   refine k _ _ ((s2.step hl0).step hrA) (.inl ⟨e,rA,rfl,(s2.step hl0).free hrA,?_⟩)
   rw [Zb,Int.toNat_natCast,ZjC]
  ·have e:sc≠1:=fun z=>c (decide_eq_true (congrArg V.int z))
   refine ⟨_,rfl,wA,_,rfl,.inl (Zu.of ew2),rfl,_,rfl,?_⟩
   by_cases len1:ts.length=1
   ·obtain ⟨T,rfl⟩:∃T,ts = [T]:=by
     cases ts with
     | nil=>simp at len1
     | cons T r=>
      cases r with
      | nil=>exact ⟨T,rfl⟩
      | cons _ _=>simp at len1
    have ly:((ys.length:Nat):Int)=1:=by rw [yl];rfl
    rw [ly]
    refine Zgo rfl ?_
    obtain ⟨T',hT',a,g,e1,ha,hg⟩:=wv.at' (i:=0) (x:=ys[0]'(by rw [yl];exact Nat.zero_lt_one)) (by simp [yl])
    have eT:T'=T:=by simpa using hT'.symm
    subst eT
    refine ⟨_,rfl,wA,_,_,_,rfl,rfl,Zu.of ew2,Zp (j:=0) (by simp [yl];rfl),?_⟩
    rw [e1]
    refine ⟨a,_,_,_,rfl,rfl,JZ.of (s12 _ _ ha),Zp (j:=1) rfl,rfl,_,rfl,?_⟩
    by_cases t0:ZeA (Yn (Wu ls)) T'=0
    ·have t0':Zes (fl (Yn (Wu ls)) T') / 2=0:=t0
     rw [t0']
     refine Zgo rfl ?_
     obtain ⟨L,o,hTl⟩:=ZlQ hW tr t0
     have pf:∀x:Int,0<=x->x<(Gb ls:Int)->x∈ZL (Wu ls):=fun x x0 x1=>(GG hW).mem_iff.mpr (Jd.mpr ⟨x0,x1⟩)
     obtain ⟨gg,hgg⟩:∃gg,gg=hgt (Yn (Wu ls)) T':=⟨_,rfl⟩
     refine ⟨_,rfl,l,xs,ls,rfl,s2 l _ hl,hL.same s2,hlen,hW,fun R H3 rys fR s3 eR rv ap ndr=>?_⟩
     have s03:=s2.trans s3
     refine fun dA hdA=>⟨Zb,[(Sum.inl 0,.int 1),(Sum.inl 1,.int 0)],rfl,by decide,?_⟩
     have hdH:H dA=none:=s03.free hdA
     have mk:Zbq [] [((Sum.inl 0:Key),V.int 1),(Sum.inl 1,.int 0)] = [((Sum.inl 0:Key),V.int 1),(Sum.inl 1,.int 0)]:=by decide +kernel
     rw [mk,J7]
     obtain ⟨Hd,hHd⟩:∃Hd,Hd=upd H3 dA (.dK [((Sum.inl 0:Key),V.int 1),(Sum.inl 1,.int 0)]):=⟨_,rfl⟩
     rw [<- hHd]
     have sd:Zh H3 Hd:=by rw [hHd];exact Zh.laid hdA
     have dc0:Dc gg Hd dA 2 [((Sum.inl 0:Key),V.int 1),(Sum.inl 1,.int 0)]:=by
      refine ⟨by rw [hHd];exact Zb,by decide,fun x v e=>?_⟩
      by_cases x0:x=0
      ·subst x0
       rw [YX rfl] at e
       cases e
       rw [hgg,o.h0]
      ·rw [YW (fun z=>x0 (Sum.inl.inj z).symm)] at e
       by_cases x1:x=1
       ·subst x1
        rw [YX rfl] at e
        cases e
        rw [hgg,o.h1]
       ·rw [YW (fun z=>x1 (Sum.inl.inj z).symm)] at e
        cases e
     have hlH3:=s03 l _ hl
     have hL3:=hL.same s03
     have nld:l≠dA:=Zf hlH3 hdA
     have nRd:R≠dA:=Zf eR hdA
     have keepT:∀{G:Hp},JV dA Hd G -> ∀c o,H3 c=some o->G c=some o:=fun fr c o e=>fr c o (sd c o e) (Zf e hdA)
     refine ⟨_,rfl,_,rfl,by lia,by lia,YG (n:=((Gb ls:Nat):Int).toNat) (fun r σ G=>∃(kvs:List (Key×V)) (v6 v7 v8 v9 v10 v11:Option V),σ = [some (.ref l),some (.int sc),some (.ref wA),some (.int (Gb ls)),some (.ref R),some (.ref dA),v6,v7,v8,v9,v10,v11]/\JV dA Hd G/\Dc gg G dA (2+r*200) kvs /\ ∀i x,i<=r->T'[i]? = some x->kn kvs x)
      ⟨_,none,none,none,none,none,none,rfl,JV.refl _ _,dc0,fun i x hi hx=>?_⟩ ?_ ?_⟩
     ·have:i=0:=by lia
      subst this
      have:=o.at0 (j:=0) o.L1
      rw [show 2*0=0 from rfl,hx] at this
      have e0:x=0:=Option.some.inj this
      rw [e0]
      rfl
     ·rintro r σ G hr' ⟨kvs,v6,v7,v8,v9,v10,v11,rfl,fr,dc,kw⟩
      rw [Int.toNat_natCast] at hr'
      refine ⟨_,rfl,l,rfl,⟨_,Zu.of (keepT fr _ _ hlH3)⟩,WE (K:=K) (a:=l) (xs:=xs) (fun i σ G'=>∃(kv2:List (Key×V)) (v7 v8 v9 v10 v11:Option V),σ = [some (.ref l),some (.int sc),some (.ref wA),some (.int (Gb ls)),some (.ref R),some (.ref dA),some (.int (0+(r:Int))),v7,v8,v9,v10,v11]/\JV dA Hd G'/\Dc gg G' dA (2+r*200+i) kv2/\(∀x,kn kvs x->kn kv2 x) /\ ∀u w,(u,w)∈Jy ls i->(kn kvs u∨kn kvs w)->kn kv2 u/\kn kv2 w)
       ⟨kvs,_,_,_,_,_,rfl,fr,dc,fun _ h=>h,fun u w h=>by unfold Jy J2 at h;simp at h⟩ (fun i σ G' _ ⟨_,_,_,_,_,_,_,fr',_⟩=>Zu.of (keepT fr' _ _ hlH3)) ?_ ?_⟩
      ·rintro i x p σ G1 hx ⟨kv2,v7,v8,v9,v10,v11,rfl,fr1,dc1,mono1,pe1⟩ hp
       obtain ⟨⟨qx,qk⟩,ta,hq,rfl,hta⟩:=hL3.get hx
       have hi:i<ls.length:=(List.getElem?_eq_some_iff.mp hq).1
       obtain ⟨G0,hG0⟩:∃G0,G0=upd G1 p (.tup [.int i,.ref ta]):=⟨_,rfl⟩
       have npd:dA≠p:=Zf dc1.at_ hp
       have fr0:JV dA Hd G0:=by rw [hG0];exact fr1.new hp
       have dc0':Dc gg G0 dA (2+r*200+i) kv2:=⟨by rw [hG0,Zi npd];exact dc1.at_,dc1.le,dc1.ok⟩
       have hta':=keepT fr0 _ _ hta
       have kk:isK ls Uh i=Uh qx:=by
        unfold isK
        rw [hq]
        cases h:Uh qx<;>simp [h]
       refine ⟨p,_,rfl,JZ.of Zb,rfl,_,_,rfl,_,_,rfl,rfl,?_⟩
       rw [<- hG0]
       refine ⟨_,rfl,ta,_,_,_,rfl,rfl,JZ.of hta',Zp (j:=0) rfl,rfl,_,rfl,?_⟩
       refine Y0 (fun hc=>?_) (fun hc=>?_)
       ·have e:qx = "end" := V.str.inj (of_decide_eq_true hc)
        subst e
        obtain ⟨k0,k1,pe⟩:=Zgz hW hq (fun z=>nb2 z)
        obtain ⟨kn',rfl⟩:=Int.eq_ofNat_of_zero_le (show 0<=qk from k0)
        simp only [Int.toNat_natCast] at k1 pe
        obtain ⟨ra,hra,hrr⟩:=rv.at (Za3 ls (i:=i) (n:=ls.length+1) (by lia))
        have ei:isK ls Uh i=true:=by rw [kk];unfold Uh;simp
        have pin:JA ls i∈Wu ls:=List.mem_map.mpr ⟨(i:Int),by
         unfold J2
         exact List.mem_filterMap.mpr ⟨i,List.mem_range.mpr hi,by rw [if_pos ei]⟩,by simp⟩
        have es:Jy ls (i+1)=Jy ls i ++ [JA ls i]:=by rw [WH,if_pos ei]
        obtain ⟨u,hu⟩:∃u,u=(rowAt ls i).getD kn' 0:=⟨_,rfl⟩
        obtain ⟨w',hw⟩:∃w',w'=(rowAt ls i).getD (kn'+1) 0:=⟨_,rfl⟩
        rw [<- hu,<- hw] at pe
        rw [pe] at pin es
        refine ⟨_,rfl,_,rfl,R,_,_,_,rfl,rfl,Zu.of (keepT fr0 R _ eR),Zp hra,_,rfl,ta,_,_,_,rfl,rfl,JZ.of hta',Zp (j:=1) rfl,_,rfl,_,rfl,ta,_,_,_,rfl,rfl,JZ.of hta',Zp (j:=1) rfl,_,_,rfl,rfl,_,rfl,ra,_,rfl,Zu.of (keepT fr0 ra _ hrr),fun cA hcA=>?_⟩
        rw [Zdt k1,<- hu,<- hw]
        refine ⟨cA,_,rfl,Zu.of Zb,rfl,_,_,rfl,_,_,rfl,rfl,?_⟩
        have ncd:dA≠cA:=Zf dc0'.at_ hcA
        have fr2:JV dA Hd (upd G0 cA (.lst [.int u,.int w'])):=fr0.new hcA
        have dc2:Dc gg (upd G0 cA (.lst [.int u,.int w'])) dA (2+r*200+i) kv2:=⟨by rw [Zi ncd];exact dc0'.at_,dc0'.le,dc0'.ok⟩
        have ud:0<=u/\u<(Gb ls:Int):=Jd.mp ((GG hW).mem_iff.mp (List.mem_flatMap.mpr ⟨(u,w'),pin,by simp⟩))
        show ZgP (tB (Zjj (ZdP 9) (ZdP 5))) _ _ _ _ _
        refine Zc9 (g:=gg) (u:=u) (l:=w') (d:=dA) (fun H Q q=>⟨_,rfl,q⟩) (fun H Q q=>⟨_,rfl,q⟩) (fun H Q q=>⟨_,rfl,q⟩) dc2 (by lia) (by rw [hgg];exact o.ends pin ud) fun H' kv3 frx dcx mx px=>?_
        refine ⟨kv3,_,_,_,_,_,rfl,fr2.trans frx,dcx,fun x h=>mx x (mono1 x h),fun u2 w2 h h2=>?_⟩
        rw [es] at h
        rcases List.mem_append.mp h with h | h
        ·obtain ⟨a1,a2⟩:=pe1 u2 w2 h h2
         exact ⟨mx _ a1,mx _ a2⟩
        ·have:=List.mem_singleton.mp h
         cases this
         exact px (h2.elim (fun z=>.inl (mono1 _ z)) (fun z=>.inr (mono1 _ z)))
       ·have e:¬qx = "end" := fun z=>hc (decide_eq_true (congrArg V.str z))
        have ei:isK ls Uh i=false:=by rw [kk];unfold Uh;simp [e]
        have es:Jy ls (i+1)=Jy ls i:=by rw [WH,ei];simp
        refine ⟨kv2,_,_,_,_,_,rfl,fr0,⟨dc0'.at_,by have:=dc0'.le;lia,dc0'.ok⟩,mono1,?_⟩
        rw [es]
        exact pe1
      ·rintro σ G1 ⟨kv2,v7,v8,v9,v10,v11,rfl,fr1,dc1,mono1,pe1⟩
       have ev2':∃hN:Nat,Gb ls=2*hN:=⟨(Wu ls).length,rfl⟩
       obtain ⟨hN,hN2⟩:=ev2'
       refine ⟨_,rfl,hN,?_,by lia,Zfc (lo:=0) (n:=hN) (fun j σ G'=>∃(kv3:List (Key×V)) (v11:Option V),σ = [some (.ref l),some (.int sc),some (.ref wA),some (.int (Gb ls)),some (.ref R),some (.ref dA),some (.int (0+(r:Int))),v7,v8,v9,v10,v11]/\JV dA Hd G'/\Dc gg G' dA (2+r*200+60+j) kv3/\(∀x,kn kv2 x->kn kv3 x) /\ ∀q:Nat,q<j->(kn kv2 (2*q)∨kn kv2 (2*q+1))->kn kv3 (2*q)/\kn kv3 (2*q+1))
        ⟨kv2,_,rfl,fr1,⟨dc1.at_,by have:=dc1.le;lia,dc1.ok⟩,fun _ h=>h,fun q h=>by lia⟩ ?_ ?_⟩
       ·rw [hN2];simp
       ·rintro j σ G2 hj ⟨kv3,v11',rfl,fr2,dc2,mono2,pb2⟩
        have ej:(0:Int)+(j:Int)*2=2*(j:Int):=by lia
        rw [ej]
        show ZgP (tB (Zjj (ZdP 11) (ZdP 5))) _ _ _ _ _
        refine Zc9 (g:=gg) (u:=2*(j:Int)) (l:=2*(j:Int)+1) (d:=dA) (fun H Q q=>⟨_,rfl,q⟩) (fun H Q q=>⟨_,rfl,_,_,rfl,rfl,q⟩) (fun H Q q=>⟨_,rfl,q⟩) dc2 (by lia) (by rw [hgg];exact o.ZhN (by lia) (by lia) (by lia)) fun H' kv4 frx dcx mx px=>?_
        refine ⟨kv4,_,rfl,fr2.trans frx,dcx,fun x h=>mx x (mono2 x h),fun q hq h=>?_⟩
        by_cases c:q<j
        ·obtain ⟨a1,a2⟩:=pb2 q c h
         exact ⟨mx _ a1,mx _ a2⟩
        ·have:q=j:=by lia
         subst this
         exact px (h.elim (fun z=>.inl (mono2 _ z)) (fun z=>.inr (mono2 _ z)))
       ·rintro σ G2 ⟨kv3,v11',rfl,fr2,dc2,mono2,pb2⟩
        refine ⟨kv3,_,_,_,_,_,_,rfl,fr2,⟨dc2.at_,by have:=dc2.le;lia,dc2.ok⟩,?_⟩
        refine o.grow pf mono1 mono2 (fun u w' h h2=>?_) (fun j hj h=>pb2 j (by lia) h) kw
        refine pe1 u w' ?_ h2
        rw [hxl]
        exact h
     ·rintro σ G ⟨kvs,v6,v7,v8,v9,v10,v11,rfl,fr,dc,kw⟩
      rw [Int.toNat_natCast] at kw
      have all:∀x:Int,0<=x->x<(Gb ls:Int)->kn kvs x:=fun x x0 x1=>by
       obtain ⟨i,hi,e⟩:=List.mem_iff_getElem.mp (o.all x x0 x1)
       exact kw i x (by lia) (by simp [hi,e])
      refine ⟨_,rfl,_,rfl,by lia,by lia,Zav (lo:=0) (n:=((Gb ls:Nat):Int).toNat) (Nat.le_of_lt (ZV (by lia))) (fun i zs G'=>Zh G G'/\zs=(List.range i).map fun (x:Nat)=>V.int (gg (x:Int))) ⟨Zh.refl _,rfl⟩
       (fun i zs G' q=>by rw [q.2];simp) (fun i zs G' hi q=>?_) (fun zs G' q D hD=>?_)⟩
      ·obtain ⟨sq',rfl⟩:=q
       refine lcG ?_
       have kx:=all (i:Int) (by lia) (by lia)
       have dg:=Ue.k (k:=Sum.inl (0+(i:Int))) (sq' _ _ dc.at_)
       rw [show (0:Int)+(i:Int)=(i:Int) by lia,dc.val kx] at dg
       refine ⟨_,rfl,_,rfl,dA,.int (gg (i:Int)),rfl,?_,sq',?_⟩
       ·rw [show (0:Int)+(i:Int)=(i:Int) by lia];exact dg
       ·rw [List.range_succ,List.map_append];rfl
      ·obtain ⟨sq',rfl⟩:=q
       have sf:Zh H (upd G' D (.lst ((List.range ((Gb ls:Nat):Int).toNat).map fun (x:Nat)=>V.int (gg (x:Int))))):=fun c u e=>(sq'.step hD) c u (keepT fr c u (s03 c u e))
       refine k _ _ sf (.inr ⟨e,_,tr,.inr ⟨D,T',L,rfl,t0,o,rfl,?_,?_⟩⟩)
       ·cases z:H D with
        | none=>rfl
        | some u=>
         have:=(sq' _ _ (keepT fr _ _ (s03 _ _ z)))
         rw [hD] at this
         cases this
       ·rw [Zb,Int.toNat_natCast,hgg]
        rfl
    ·have t1:¬Zes (fl (Yn (Wu ls)) T') / 2=0:=t0
     refine Y0 (fun _=>?_) (fun hc=>absurd ?_ hc)
     ·exact k .non H2 s2 (.inr ⟨e,_,tr,.inl ⟨by simpa using t0,rfl⟩⟩)
     ·show (!decide (V.int (Zes (fl (Yn (Wu ls)) T') / 2)=V.int 0))=true
      rw [decide_eq_false (fun z=>t1 (V.int.inj z))]
      rfl
   ·refine Y0 (fun _=>?_) (fun hc=>absurd ?_ hc)
    ·refine Wh (k .non H2 s2 (.inr ⟨e,_,tr,.inl ⟨fun z=>len1 ?_,rfl⟩⟩))
     have:=congrArg List.length z
     simpa using this
    ·show (!decide (V.int (ys.length:Int)=V.int 1))=true
     rw [decide_eq_false (fun z=>len1 (by have:=V.int.inj z;lia))]
     rfl
theorem gK:Zho "born" = 2/\Zho "cross" = 0/\Zho "end" = -2:=⟨by decide +kernel,by decide +kernel,by decide +kernel⟩
theorem wkS {ls:List (Str×Int)}{n:Int} (h:Wk ls n):ZaA ls=n:=by
 induction h with
 | nil=>rfl
 | born _ _ _ ih=>rw [Zbc,ih,gK.1]
 | cross _ _ _ ih=>rw [Zbc,ih,gK.2.1];lia
 | fin _ _ _ ih=>rw [Zbc,ih,gK.2.2];lia
theorem Zf2 {A A':List (Str×Int)}{n:Int} (ha:Wk A n) (ha':Wk A' n) {X:List (Str×Int)}{m:Int} (h:Wk X m):∀B,X=A++B->Wk (A'++B) m:=by
 have base:∀{X:List (Str×Int)}{m:Int},Wk X m->X=A->Wk (A' ++ []) m:=fun {X m} hx e=>by
  subst e
  have e1:=wkS hx
  have e2:=wkS ha
  rw [List.append_nil]
  rw [show m=n by lia]
  exact ha'
 have spl:∀{ls B:List (Str×Int)}{p:Str×Int},ls ++ [p]=A++B->(B = []/\ls ++ [p]=A) ∨ ∃B',B=B' ++ [p]/\ls=A++B':=fun {ls B p} e=>by
  rcases List.eq_nil_or_concat B with z | ⟨B',q,z⟩
  rotate_left
  rw [List.concat_eq_append] at z
  rotate_left
  ·subst z
   exact .inl ⟨rfl,by simpa using e⟩
  ·subst z
   rw [<- List.append_assoc] at e
   obtain ⟨e1,e2⟩:=List.append_inj' e rfl
   have e2:p=q:=by simpa using e2
   subst e2
   exact .inr ⟨B',rfl,e1⟩
 induction h with
 | nil=>
  intro B e
  obtain ⟨e1,e2⟩:=List.append_eq_nil_iff.mp e.symm
  subst e2
  exact base .nil e1.symm
 | @born ls n' k h h0 h1 ih=>
  intro B e
  rcases spl e with ⟨z,y⟩ | ⟨B',z,y⟩
  ·subst z;exact base (.born h h0 h1) y
  ·rw [z,<- List.append_assoc];exact .born (ih B' y) h0 h1
 | @cross ls n' k h h0 h1 ih=>
  intro B e
  rcases spl e with ⟨z,y⟩ | ⟨B',z,y⟩
  ·subst z;exact base (.cross h h0 h1) y
  ·rw [z,<- List.append_assoc];exact .cross (ih B' y) h0 h1
 | @fin ls n' k h h0 h1 ih=>
  intro B e
  rcases spl e with ⟨z,y⟩ | ⟨B',z,y⟩
  ·subst z;exact base (.fin h h0 h1) y
  ·rw [z,<- List.append_assoc];exact .fin (ih B' y) h0 h1
def crl (b c:Int):List (Str×Int):=[("born", b),("cross", c),("end", b)]
theorem Zlp {ls:List (Str×Int)}{t:Nat}{b c:Int} (hW:Wk ls 0) (hb0:0<=b) (hb1:b<=ZaA (ls.take t)) (hc0:0<=c) (hc1:c<=ZaA (ls.take t)):Wk (ls.take t++crl b c++ls.drop t) 0:=by
 obtain ⟨n,hn⟩:=UY hW t
 have en:=wkS hn
 rw [en] at hb1 hc1
 have w1:=Wk.born (k:=b) hn hb0 hb1
 have w2:=Wk.cross (k:=c) w1 hc0 (by lia)
 have w3:=Wk.fin (k:=b) w2 hb0 (by lia)
 have e:ls.take t ++ [(("born" : Str),b)] ++ [(("cross" : Str),c)] ++ [(("end" : Str),b)]=ls.take t++crl b c:=by simp [crl]
 rw [e,show n+2-2=n by lia] at w3
 exact Zf2 hn w3 hW (ls.drop t) (List.take_append_drop t ls).symm
theorem Zgl:∀ls:List (Str×Int),(∀p∈ls,Kd p.1)->2*(((ls.map fun p=>V.str p.1).countP fun z=>eqV z (.str "born"):Nat):Int)-2*(((ls.map fun p=>V.str p.1).countP fun z=>eqV z (.str "end"):Nat):Int)=ZaA ls
 | [],_=>rfl
 | p::r,h=>by
  have ih:=Zgl r fun q hq=>h q (List.mem_cons_of_mem _ hq)
  have gk:=gK
  have e:ZaA (p::r)=Zho p.1+ZaA r:=by unfold ZaA;simp
  have eqs:∀x y:Str,eqV (V.str x) (V.str y)=decide (x=y):=fun x y=>by
   unfold eqV
   by_cases z:x=y<;>simp [z]
  rw [List.map_cons,List.countP_cons,List.countP_cons,e,<- ih,eqs,eqs]
  rcases h p List.mem_cons_self with z | z | z
  ·rw [z,gk.1]
   simp [show ¬(("born" : Str) = "end") by decide +kernel]
   lia
  ·rw [z,gk.2.1]
   simp [show ¬(("cross" : Str) = "end") by decide +kernel,show ¬(("cross" : Str) = "born") by decide +kernel]
  ·rw [z,gk.2.2]
   simp [show ¬(("end" : Str) = "born") by decide +kernel]
   lia
theorem Zhs {H:Hp}{xs:List V}{ls:List (Str×Int)} (h:ZI H xs ls):∀t,ZI H (xs.take t) (ls.take t):=by
 induction h with
 | nil=>intro t;rw [List.take_nil,List.take_nil];exact .nil
 | cons a _ ih=>
  intro t
  cases t with
  | zero=>exact .nil
  | succ n=>exact .cons a (ih n)
theorem ZgT {H:Hp}{xs:List V}{ls:List (Str×Int)} (h:ZI H xs ls):∀t,ZI H (xs.drop t) (ls.drop t):=by
 induction h with
 | nil=>intro t;rw [List.drop_nil,List.drop_nil];exact .nil
 | cons a b ih=>
  intro t
  cases t with
  | zero=>exact .cons a b
  | succ n=>exact ih n
theorem YM {H H':Hp}{b:Addr} (s:Zh H H') (x:UU H b):UU H' b:=let ⟨g,r,h,e⟩:=x;⟨g,r,h,s _ _ e⟩
theorem lay {G:Hp}{c:Addr}{o:HO} (fc:G c=none):∃G',upd G c o=G'/\Zh G G'/\G' c=some o:=⟨_,rfl,Zh.laid fc,Zb⟩
theorem Zmj (xs:List V) (k:Nat):WQ xs (some (k:Int)) none=xs.drop k:=by
 unfold WQ
 rw [HT.Gw,HT.Gf]
 by_cases h:k<=xs.length
 ·rw [Nat.min_eq_left h,List.take_of_length_le (by rw [List.length_drop];lia)]
 ·rw [Nat.min_eq_right (by lia),Nat.sub_self,List.take_zero,List.drop_of_length_le (by lia)]
theorem Zke {ls:List (Str×Int)}{n:Int} (h:Wk ls n):n % 2=0:=by
 induction h with
 | nil=>rfl
 | born _ _ _ ih=>omega
 | cross _ _ _ ih=>exact ih
 | fin _ _ _ ih=>omega
theorem Zj5 {A A' B:List (Str×Int)}{m:Int} (x:Lo8 (A++B)) (y:Lo8 A') (ha:Wk A m) (ha':Wk A' m):Lo8 (A'++B):=fun a b n e wa=>by
 rcases List.append_eq_append_iff.mp e with ⟨c,h1,h2⟩ | ⟨c,h1,h2⟩
 ·subst h1
  exact x (A++c) b n (by rw [h2,List.append_assoc]) (Zf2 ha' ha wa c rfl)
 ·exact y a c n h1 wa
theorem Zj9 {ls:List (Str×Int)} (x:Lo8 ls) (t:Nat):Lo8 (ls.take t):=fun a b n e wa=>x a (b++ls.drop t) n (by rw [<- List.append_assoc,<- e,List.take_append_drop]) wa
theorem Zmi {ls:List (Str×Int)}{t:Nat}{b c:Int} (hW:Wk ls 0) (hL:Lo8 ls) (h7:ZaA (ls.take t)<7) (hb0:0<=b) (hb1:b<=ZaA (ls.take t)) (hc0:0<=c) (hc1:c<=ZaA (ls.take t)):Lo8 (ls.take t++crl b c++ls.drop t):=by
 obtain ⟨n,hn⟩:=UY hW t
 rw [wkS hn] at h7 hb1 hc1
 have ev:=Zke hn
 have w1:=W8.born (k:=b) ⟨hn,Zj9 hL t⟩ hb0 hb1 (by lia)
 have w2:=W8.cross (k:=c) w1 hc0 (by lia)
 have w3:=W8.fin (k:=b) w2 hb0 (by lia)
 have e:ls.take t ++ [(("born" : Str),b)] ++ [(("cross" : Str),c)] ++ [(("end" : Str),b)]=ls.take t++crl b c:=by simp [crl]
 rw [e,show n+2-2=n by lia] at w3
 exact Zj5 (by rw [List.take_append_drop];exact hL) w3.2 hn w3.1
def ZdL:Sp:=fun vs H Q _=>∃(b l0:Addr) (m:Int) (ls0:List (Str×Int)),vs = [.ref b,.ref l0,.int m]/\UU H b/\Drw H l0 ls0/\l0≠b/\ls0.length<=40/\(nX ls0<=13/\Lo8 ls0)/\0<=m/\m<=3 /\ ∀(l:Addr) (H':Hp) (ls:List (Str×Int)),H l=none->UU H' b->JV b H H'->Drw H' l ls->(nX ls<=13/\Lo8 ls)->Q (.ref l) H'
theorem Zhe (ls:List (Str×Int)):((ls.map fun p=>V.str p.1).countP fun z=>eqV z (.str "cross"))=nX ls:=by
 unfold nX
 rw [List.countP_map]
 refine List.countP_congr fun p _=>?_
 simp [eqV]
abbrev J9:Stmt:=top 27
theorem Z7:ZH ["_law_bag_here", "_law_letters", "_law_most", "_law_found", "_law_turn", "_law_t", "_law_words", "_law_many", "_law_k", "_law_three"] ["_law_bag_here", "_law_letters", "_law_most"] (Zl J9):={}
theorem Zhi {f:Addr}{fd:FuncData} (F:Jl K "_law_curled" "_law_curled" J9 f fd) (Zt:Jm P w K mg base 1 "_law_take" ["_law_bag_here", "_law_many"] Uw) (Yu:mg "list" = none) (ZC:mg "range" = none) (Yi:mg "len" = none) (Zaj:mg "max" = none):
  Ys P w K mg base W3 2 f fd ["_law_bag_here", "_law_letters", "_law_most"] ZdL:=by
 refine F.ok Z7 (fun vs H Q E h=>?_) (fun cdv A outer s H vs Q E hr h=>?_)
 ·obtain ⟨b,l0,m,ls0,rfl,_⟩:=h
  rfl
 ·obtain ⟨b,l0,m,ls0,rfl,hbag,dr,l0b,len0,nx0,m0,m3,k⟩:=h
  refine ⟨_,(Ze (Zo (i:=3) Z7.nd rfl (Or.inl rfl) (Yf (WN (K:=K) rfl) (by rfl) Yu boot_list (Za (pv 1) Zc)))
   (Ze (Yc PassesOwn.never rfl (Yb (by rfl) ZC (Za (Zz Zt hr (Za (pv 0) (Za (Zj Zw (pv 2) Zd) Zc))) Zc)) (Zk (i:=4) Z7.nd rfl (Or.inl rfl)) (Ze (Zo (i:=5) Z7.nd rfl (Or.inl rfl) (Zz Zt hr (Za (pv 0) (Za (Zj Zw (ZE (Yj (K:=K) rfl) (by rfl) Yi PySem.boot_len (Za (pv 3) Zc)) Zd) Zc))))
   (Ze (GZ (i:=6) Z7.nd rfl (Or.inl rfl) (Ls:=["_law_letter"]) (Fs:=[]) (fi:=[]) (ZR.of (show Ym ["_law_bag_here", "_law_letters", "_law_most", "_law_found", "_law_turn", "_law_t", "_law_words", "_law_many", "_law_k", "_law_three"] (Zl J9) _ [] []=true by decide +kernel)) rfl (Z8 (K:=K) rfl (pv 3)) (fun cl C s3 H3 ex=>⟨(Zk (i:=0) (show ((["_law_letter"]:List Str)++([]:List Str)).Nodup by decide +kernel) rfl (Or.inl rfl)),Yh,(Zx (YF (K:=K) rfl) (pv 0) Zd (fun _ _=>rfl))⟩))
   (Ze (Zo (i:=7) Z7.nd rfl (Or.inl rfl) (Zj Yr (Zj Jx Zd (Yt (K:=K) rfl (Jk PySem.F.plainAttrs_list PySem.F.slot_list_count PySem.F.type_list_count (U4 (K:=K) rfl) (YB (YD (K:=K) rfl) (pv 6) JJ (YE (pv 5))) (Za ZK Zc)))) (Zj Jx Zd (Yt (K:=K) rfl (Jk PySem.F.plainAttrs_list PySem.F.slot_list_count PySem.F.type_list_count (U4 (K:=K) rfl) (YB (YD (K:=K) rfl) (pv 6) JJ (YE (pv 5))) (Za ZK Zc))))))
   (Ze (Zo (i:=8) Z7.nd rfl (Or.inl rfl) (Zz Zt hr (Za (pv 0) (Za (ZE (U6 rfl) (by rfl) Zaj boot_max (Za Zd (Za (pv 7) Zc))) Zc))))
   (Ze (Zo (i:=9) Z7.nd rfl (Or.inl rfl) (ZY (Za (ZN (Za ZK (Za (pv 8) Zc))) (Za (ZN (Za ZK (Za (Zj Zw (pv 8) Zd) Zc))) (Za (ZN (Za ZK (Za (pv 8) Zc))) Zc)))))
   (Zky (ZU (Zr YA (Zz Zt hr (Za (pv 0) (Za Zd Zc))) Zd (Zv _)) (Zg (Zo (i:=9) Z7.nd rfl (Or.inl rfl) (ZY (Za (ZN (Za ZK (Za (Zj Zw (pv 8) Zd) Zc))) (Za (ZN (Za ZK (Za (pv 8) Zc))) (Za (ZN (Za ZK (Za (Zj Zw (pv 8) Zd) Zc))) Zc)))))) ZG)
   (Zg (ZU (PW.pt (Gj (ZeE ZaC ZaC Zd (pv 7) Zd) (Gj (Zr ZaC (Yt (K:=K) rfl (Jk PySem.F.plainAttrs_list PySem.F.slot_list_count PySem.F.type_list_count (U4 (K:=K) rfl) (pv 6) (Za ZK Zc))) Zd (Zv _)) (Gi (Zr ZaC (Yt (K:=K) rfl (Jk PySem.F.plainAttrs_list PySem.F.slot_list_count PySem.F.type_list_count (U4 (K:=K) rfl) (pv 6) (Za ZK Zc))) Zd (Zv _)))))) (Zg (Zo (i:=3) Z7.nd rfl (Or.inl rfl) (Zj Gp (Zj Gp (YB (YD (K:=K) rfl) (pv 3) JJ (YE (pv 5))) (pv 9)) (YB (YD (K:=K) rfl) (pv 3) (YE (pv 5)) JJ)))) ZG)))))))))
   (Zg (ZD (pv 3))))),?_⟩
  obtain ⟨xs0,hl0,hL0,hW0,hlen0⟩:=dr
  refine ⟨_,rfl,l0,xs0,rfl,.inl (Zu.of hl0),fun l hl=>?_⟩
  have s1:=Zh.laid (o:=.lst xs0) hl
  have el1:upd H l (.lst xs0) l=some (.lst xs0):=Zb
  generalize upd H l (.lst xs0)=H1 at *
  have bg1:=YM s1 hbag
  have nb:∀{c:Addr},H c=none->c≠b:=fun {c} h z=>by
   obtain ⟨_,_,_,e⟩:=hbag
   rw [z,e] at h
   cases h
  refine ⟨_,rfl,_,rfl,_,_,rfl,rfl,b,_,rfl,bg1,by lia,by lia,fun d H2 d0 d1 bg2 f2=>?_⟩
  refine ⟨_,rfl,by lia,by lia,YG (n:=d.toNat) (fun i σ G=>∃(lA:Addr) (xs:List V) (ls:List (Str×Int)) (v4 v5 v6 v7 v8 v9:Option V),σ = [some (.ref b),some (.ref l0),some (.int m),some (.ref lA),v4,v5,v6,v7,v8,v9]/\UU G b/\JV b H G/\H lA=none/\G lA=some (.lst xs)/\ZI G xs ls/\Wk ls 0/\ls.length<=40+3*i/\(nX ls<=13/\Lo8 ls))
   ⟨l,xs0,ls0,none,none,none,none,none,none,rfl,bg2,s1.frm.trans f2,hl,f2 _ _ el1 (nb hl),(hL0.same s1).frm f2 bg1,hW0,by lia,nx0⟩ ?_ ?_⟩
  ·rintro i σ G hi ⟨lA,xs,ls,v4,v5,v6,v7,v8,v9,rfl,bg,fr,flA,hG,hL,hW,hlen,hnx⟩
   have hxl:=hL.len
   have i3:i<4:=by lia
   have nlb:=nb flA
   refine ⟨_,rfl,_,rfl,lA,_,rfl,.inl (Zu.of hG),_,_,rfl,rfl,b,_,rfl,bg,by lia,by lia,fun t' G1 e0 e1 bg1' f1=>?_⟩
   obtain ⟨t,rfl⟩:=Int.eq_ofNat_of_zero_le e0
   have hG1:=f1 _ _ hG nlb
   have hL1:=hL.frm f1 bg
   have tl:t<=ls.length:=by lia
   refine ⟨_,rfl,lA,rfl,⟨_,Zu.of hG1⟩,Jg (K:=K) (a:=lA) (xs:=xs) (Nat.le_of_lt (ZV (by lia))) (fun j zs G'=>Zh G1 G'/\zs=(ls.take j).map fun p=>V.str p.1) ⟨Zh.refl _,rfl⟩
    (fun j zs G' q=>by rw [q.2,List.length_map,List.length_take];exact Nat.min_le_left _ _) (fun j zs G' q=>Zu.of (q.1 _ _ hG1)) (fun j x zs G' hx q=>?_) (fun zs G' q wA hwA=>?_)⟩
   ·obtain ⟨sq,rfl⟩:=q
    obtain ⟨p,ta,hp,rfl,hta⟩:=hL1.get hx
    refine lcG ⟨_,rfl,ta,_,_,_,rfl,rfl,JZ.of (sq _ _ hta),Zp (j:=0) rfl,sq,?_⟩
    rw [Zaf (ns:=ls) _ hp]
   obtain ⟨sq,rfl⟩:=q
   rw [hxl,List.take_of_length_le (Nat.le_refl _)]
   have s2:Zh G1 (upd G' wA (.lst (ls.map fun p=>V.str p.1))):=sq.step hwA
   have ew:(upd G' wA (.lst (ls.map fun p=>V.str p.1))) wA=some (.lst (ls.map fun p=>V.str p.1)):=Zb
   generalize upd G' wA (.lst (ls.map fun p=>V.str p.1))=G2 at *
   have fs:∀r:List (Str×Int),(r.map fun p=>V.str p.1).all JS=true:=fun r=>by
    rw [List.all_eq_true]
    intro x hx
    obtain ⟨p,_,rfl⟩:=List.mem_map.mp hx
    rfl
   have ect:WQ (ls.map fun p=>V.str p.1) none (some (t:Int))=(ls.take t).map fun p=>V.str p.1:=by
    rw [Zis (xs:=ls.map fun p=>V.str p.1) (t:=t) (by rw [List.length_map];exact tl),List.map_take]
   refine ⟨_,rfl,_,rfl,_,rfl,wA,_,rfl,Zu.of ew,fun c1 hc1=>?_⟩
   rw [ect]
   obtain ⟨G3,z,s3,e3⟩:=lay (o:=.lst ((ls.take t).map fun p=>V.str p.1)) hc1
   rw [z];clear z
   refine ⟨.inl ⟨rfl,_,Zu.of e3⟩,c1,_,_,rfl,rfl,Zu.of e3,rfl,fs _,_,_,rfl,rfl,.inl ⟨by decide,by decide⟩,?_⟩
   refine ⟨_,rfl,_,rfl,_,rfl,wA,_,rfl,Zu.of (s3 _ _ ew),fun c2 hc2=>?_⟩
   rw [ect]
   obtain ⟨G4,z,s4,e4⟩:=lay (o:=.lst ((ls.take t).map fun p=>V.str p.1)) hc2
   rw [z];clear z
   refine ⟨.inl ⟨rfl,_,Zu.of e4⟩,c2,_,_,rfl,rfl,Zu.of e4,rfl,fs _,_,_,rfl,rfl,.inl ⟨by decide,by decide⟩,_,_,rfl,rfl,?_⟩
   have cs:=Zgl (ls.take t) fun p hp=>hW.kd p (List.mem_of_mem_take hp)
   obtain ⟨mm,hm⟩:∃mm,mm=ZaA (ls.take t):=⟨_,rfl⟩
   dsimp only
   rw [cs,<- hm]
   have m120:mm<=1000:=by
    rw [hm]
    obtain ⟨n,hn⟩:=UY hW t
    have:=Zgj hn
    rw [wkS hn]
    rw [List.length_take] at this
    lia
   have s14:Zh G1 G4:=(s2.trans s3).trans s4
   have bg4:=YM s14 bg1'
   refine ⟨_,rfl,_,rfl,_,_,rfl,b,_,rfl,bg4,(by split<;>lia),(by split<;>lia),fun kk G5 k0 k1 bg5 f5=>?_⟩
   have hG5:=f5 _ _ (s14 _ _ hG1) nlb
   have hL5:ZI G5 xs ls:=(hL1.same s14).frm f5 bg4
   have fr5:JV b H G5:=((fr.trans f1).trans s14.frm).trans f5
   have nwb:wA≠b:=fun z=>by
    obtain ⟨_,_,_,e⟩:=YM sq bg1'
    rw [z,e] at hwA
    cases hwA
   have ew5:=f5 _ _ (s4 _ _ (s3 _ _ ew)) nwb
   have three:∀{X X1 X2 X3 X4:Hp}{u1 u2 u3 cA:Addr}{p q:Int},Zh X X1->X1 u1=some (.tup [.str "born", .int p])->Zh X1 X2->X2 u2=some (.tup [.str "cross", .int q])->Zh X2 X3->X3 u3=some (.tup [.str "end", .int p])->Zh X3 X4->X4 cA=some (.lst [.ref u1,.ref u2,.ref u3])->ZI X4 [.ref u1,.ref u2,.ref u3] (crl p q):=fun a1 b1 a2 b2 a3 b3 a4 b4=>
    .cons ⟨_,rfl,a4 _ _ (a3 _ _ (a2 _ _ b1))⟩ (.cons ⟨_,rfl,a4 _ _ (a3 _ _ b2)⟩ (.cons ⟨_,rfl,a4 _ _ b3⟩ .nil))
   refine ⟨_,rfl,(by show 2<=sizeLine;decide),fun u1 hu1=>?_⟩
   obtain ⟨X1,z,a1,b1⟩:=lay (o:=.tup [.str "born", .int kk]) hu1
   rw [z];clear z
   refine ⟨_,rfl,_,_,rfl,rfl,(by show 2<=sizeLine;decide),fun u2 hu2=>?_⟩
   obtain ⟨X2,z,a2,b2⟩:=lay (o:=.tup [.str "cross", .int (kk+1)]) hu2
   rw [z];clear z
   refine ⟨_,rfl,(by show 2<=sizeLine;decide),fun u3 hu3=>?_⟩
   obtain ⟨X3,z,a3,b3⟩:=lay (o:=.tup [.str "end", .int kk]) hu3
   rw [z];clear z
   refine ⟨(by show 3<=sizeLine;decide),fun cA hcA=>?_⟩
   obtain ⟨X4,z,a4,b4⟩:=lay (o:=.lst [.ref u1,.ref u2,.ref u3]) hcA
   rw [z];clear z
   have L4:=three a1 b1 a2 b2 a3 b3 a4 b4
   have s54:=((a1.trans a2).trans a3).trans a4
   refine ⟨fun σ G=>∃(cA:Addr) (ts:List V) (p q:Int),σ = [some (.ref b),some (.ref l0),some (.int m),some (.ref lA),some (.int (0+(i:Int))),some (.int (t:Nat)),some (.ref wA),some (.int mm),some (.int kk),some (.ref cA)]/\UU G b/\JV b H G/\G lA=some (.lst xs)/\ZI G xs ls/\G wA=some (.lst (ls.map fun p=>V.str p.1))/\G cA=some (.lst ts)/\ZI G ts (crl p q)/\0<=p/\p<=kk+1/\0<=q/\q<=kk+1,?_,?_⟩
   ·refine ⟨_,rfl,b,2,rfl,YM s54 bg5,by decide,by decide,fun sd Y sd0 sd1 bgY fY=>⟨rfl,_,rfl,?_⟩⟩
    have ncb:cA≠b:=fun z=>by
     obtain ⟨_,_,_,e⟩:=YM ((a1.trans a2).trans a3) bg5
     rw [z,e] at hcA
     cases hcA
    have frY:JV b H Y:=(fr5.trans s54.frm).trans fY
    have hLY:ZI Y xs ls:=(hL5.same s54).frm fY (YM s54 bg5)
    have hGY:=fY _ _ (s54 _ _ hG5) nlb
    have ewY:=fY _ _ (s54 _ _ ew5) nwb
    refine Y0 (fun _=>?_) (fun _=>?_)
    ·refine ⟨_,rfl,_,_,rfl,rfl,(by show 2<=sizeLine;decide),fun w1 hw1=>?_⟩
     obtain ⟨Y1,z,c1',d1'⟩:=lay (o:=.tup [.str "born", .int (kk+1)]) hw1
     rw [z];clear z
     refine ⟨_,rfl,(by show 2<=sizeLine;decide),fun w2 hw2=>?_⟩
     obtain ⟨Y2,z,c2',d2'⟩:=lay (o:=.tup [.str "cross", .int kk]) hw2
     rw [z];clear z
     refine ⟨_,rfl,_,_,rfl,rfl,(by show 2<=sizeLine;decide),fun w3 hw3=>?_⟩
     obtain ⟨Y3,z,c3',d3'⟩:=lay (o:=.tup [.str "end", .int (kk+1)]) hw3
     rw [z];clear z
     refine ⟨(by show 3<=sizeLine;decide),fun cB hcB=>?_⟩
     obtain ⟨Y4,z,c4',d4'⟩:=lay (o:=.lst [.ref w1,.ref w2,.ref w3]) hcB
     rw [z];clear z
     have sY:=((c1'.trans c2').trans c3').trans c4'
     exact ⟨cB,_,_,_,rfl,YM sY bgY,frY.trans sY.frm,sY _ _ hGY,hLY.same sY,sY _ _ ewY,d4',three c1' d1' c2' d2' c3' d3' c4' d4',by lia,by lia,by lia,by lia⟩
    ·exact ⟨cA,_,_,_,rfl,bgY,frY,hGY,hLY,ewY,fY _ _ b4 ncb,L4.frm fY (YM s54 bg5),by lia,by lia,by lia,by lia⟩
   ·rintro σ Y ⟨cA,ts,p,q,rfl,bgY,frY,hGY,hLY,ewY,ecY,lcY,p0,p1,q0,q1⟩
    refine ⟨_,rfl,_,_,rfl,rfl,_,rfl,Y0 (fun h1=>?_) (fun h1=>?_)⟩
    rotate_left
    ·refine ⟨_,rfl,Jq (Jq ?_)⟩
     exact ⟨lA,xs,ls,_,_,_,_,_,_,rfl,bgY,frY,flA,hGY,hLY,hW,by lia,hnx⟩
    have m1:0<mm:=of_decide_eq_true h1
    refine ⟨_,_,rfl,rfl,_,rfl,Y0 (fun h2=>?_) (fun h2=>?_)⟩
    rotate_left
    ·refine Jq ?_
     exact ⟨lA,xs,ls,_,_,_,_,_,_,rfl,bgY,frY,flA,hGY,hLY,hW,by lia,hnx⟩
    refine ⟨_,rfl,.inl ⟨rfl,_,Zu.of ewY⟩,wA,_,_,rfl,rfl,Zu.of ewY,rfl,fs _,_,_,rfl,rfl,_,rfl,Y0 (fun h3=>?_) (fun h3=>?_)⟩
    rotate_left
    ·refine Jq ?_
     exact ⟨lA,xs,ls,_,_,_,_,_,_,rfl,bgY,frY,flA,hGY,hLY,hW,by lia,hnx⟩
    refine ⟨_,rfl,.inl ⟨rfl,_,Zu.of ewY⟩,wA,_,_,rfl,rfl,Zu.of ewY,rfl,fs _,_,_,rfl,rfl,_,rfl,Y0 (fun h4=>?_) (fun h4=>?_)⟩
    rotate_left
    ·exact ⟨lA,xs,ls,_,_,_,_,_,_,rfl,bgY,frY,flA,hGY,hLY,hW,by lia,hnx⟩
    have h4:(((ls.map fun p=>V.str p.1).countP fun z=>eqV z (.str "cross"):Nat):Int)<12:=of_decide_eq_true h4
    rw [Zhe] at h4
    have k1':kk<mm:=by revert k1;split<;>lia
    refine ⟨_,rfl,_,rfl,_,rfl,lA,_,rfl,Zu.of hGY,fun f1 hf1=>?_⟩
    rw [Zis (xs:=xs) (t:=t) (by lia)]
    obtain ⟨Z1,z,g1,j1⟩:=lay (o:=.lst (xs.take t)) hf1
    rw [z];clear z
    have lct:=lcY.len
    refine ⟨_,rfl,f1,cA,_,_,rfl,rfl,j1,g1 _ _ ecY,(by rw [List.length_take,lct,sizeLine_eq];show min t xs.length+3<=_;lia),fun f2 hf2=>?_⟩
    obtain ⟨Z2,z,g2,j2⟩:=lay (o:=.lst (xs.take t++ts)) hf2
    rw [z];clear z
    have g12:=g1.trans g2
    refine ⟨_,rfl,_,rfl,_,rfl,lA,_,rfl,Zu.of (g12 _ _ hGY),fun f3 hf3=>?_⟩
    rw [Zmj]
    obtain ⟨Z3,z,g3,j3⟩:=lay (o:=.lst (xs.drop t)) hf3
    rw [z];clear z
    refine ⟨f2,f3,_,_,rfl,rfl,g3 _ _ j2,j3,(by rw [List.length_append,List.length_take,List.length_drop,lct,sizeLine_eq];show min t xs.length+3+(xs.length-t)<=_;lia),fun f4 hf4=>?_⟩
    obtain ⟨Z4,z,g4,j4⟩:=lay (o:=.lst (xs.take t++ts++xs.drop t)) hf4
    rw [z];clear z
    have g14:=(g12.trans g3).trans g4
    have bgZ:=YM g14 bgY
    refine ⟨f4,_,ls.take t++crl p q++ls.drop t,_,_,_,_,_,_,rfl,bgZ,frY.trans g14.frm,?_,j4,?_,Zlp hW p0 (by rw [<- hm];lia) q0 (by rw [<- hm];lia),?_,?_⟩
    ·exact frY.free bgY ((g12.trans g3).free hf4)
    ·exact (((Zhs hLY t).append lcY).append (ZgT hLY t)).same g14
    ·rw [List.length_append,List.length_append,List.length_take,List.length_drop];show min t ls.length+3+_<=_;lia
    ·refine ⟨?_,Zmi hW hnx.2 (by rw [<- hm];exact of_decide_eq_true h2) p0 (by rw [<- hm];lia) q0 (by rw [<- hm];lia)⟩
     have e:nX (ls.take t)+nX (ls.drop t)=nX ls:=by rw [<- Gn,List.take_append_drop]
     have ec:nX (crl p q)=1:=rfl
     rw [Gn,Gn,ec]
     lia
  ·rintro σ G ⟨lA,xs,ls,v4,v5,v6,v7,v8,v9,rfl,bg,fr,flA,hG,hL,hW,hlen,hnx⟩
   exact ⟨_,rfl,k lA G ls flA bg fr ⟨xs,hG,hL,hW,by lia⟩ hnx⟩
theorem ZkX {ls:List (Str×Int)} (hW:Wk ls 0):∀d i,i+d<=ls.length->(rb (ls.take i)).2<=(rb (ls.take (i+d))).2
 | 0,i,_=>Int.le_refl _
 | d+1,i,h=>by
  refine Int.le_trans (ZkX hW d i (by lia)) ?_
  have hq:ls[i+d]? = some ls[i+d]:=by simp [show i+d<ls.length by lia]
  obtain ⟨tk,c⟩:=Ze3 hW hq
  show _<=(rb (ls.take (i+d+1))).2
  rw [tk,JI]
  generalize hp:ls[i+d]=p at c
  obtain ⟨px,pk⟩:=p
  rcases c with ⟨e,_⟩ | ⟨e,_⟩ | ⟨e,_⟩
  ·have e:px = "born" := e
   subst e
   rw [GB]
   show _<=(rb (ls.take (i+d))).2+2
   lia
  ·have e:px = "cross" := e
   subst e
   rw [WG]
   exact Int.le_refl _
  ·have e:px = "end" := e
   subst e
   rw [UX]
   exact Int.le_refl _
theorem Zf1 {ls:List (Str×Int)} (hW:Wk ls 0) {t:Nat} (ht:t<=ls.length) {x:Int} (hx:x∈rowAt ls t):0<=x/\x<(Gb ls:Int):=by
 obtain ⟨h0,h1,h2⟩:=ZaT hW t ht
 have a:=Jd.mp (h2.mem_iff.mp (List.mem_append_left _ hx))
 obtain ⟨g0,g1,g2⟩:=ZaT hW ls.length (Nat.le_refl _)
 have e:rowAt ls ls.length = []:=by
  unfold rowAt
  rw [List.take_of_length_le (Nat.le_refl _)]
  have:=Zar hW
  exact List.length_eq_zero_iff.mp (by lia)
 rw [e,List.nil_append] at g2
 have hl:=g2.length_eq
 rw [Gs,Gy] at hl
 have le:=ZkX hW (ls.length-t) t (by lia)
 rw [show t+(ls.length-t)=ls.length by lia] at le
 have hn:Gb ls=(rb (ls.take ls.length)).2.toNat:=hl
 rw [hn]
 lia
theorem Zh0 {ls:List (Str×Int)} (hW:Wk ls 0) {t:Nat}{q:Str×Int} (hq:ls[t]? = some q) (hb:q.1 ≠ "born"):(0<=(JA ls t).1/\(JA ls t).1<(Gb ls:Int))/\(0<=(JA ls t).2/\(JA ls t).2<(Gb ls:Int)):=by
 obtain ⟨k0,k1,pe⟩:=Zgz hW hq hb
 have ht:t<ls.length:=(List.getElem?_eq_some_iff.mp hq).1
 rw [pe]
 refine ⟨Zf1 hW (Nat.le_of_lt ht) ?_,Zf1 hW (Nat.le_of_lt ht) ?_⟩
 ·show (rowAt ls t).getD q.2.toNat 0∈_
  rw [show (rowAt ls t).getD q.2.toNat 0=(rowAt ls t)[q.2.toNat]'(by lia) by simp [show q.2.toNat<(rowAt ls t).length by lia]]
  exact List.getElem_mem _
 ·show (rowAt ls t).getD (q.2.toNat+1) 0∈_
  rw [show (rowAt ls t).getD (q.2.toNat+1) 0=(rowAt ls t)[q.2.toNat+1]'k1 by simp [k1]]
  exact List.getElem_mem _
theorem ZbP {ls:List (Str×Int)}{i:Nat}{q:Str×Int} (hq:ls[i]? = some q) {pr:Str->Bool}:isK ls pr i=pr q.1:=by
 unfold isK
 rw [hq]
 cases h:pr q.1<;>simp [h]
abbrev isN:Str->Bool:=fun x=>!decide (x = "born")
def HG (sc:Int) (ls:List (Str×Int)) (g:Int->Int):Prop:=(sc=1/\g=fun _=>0)∨(sc≠1 /\ ∃T L,U3 (JO (Wu ls)) (Gb ls) [T]/\ZeA (Yn (Wu ls)) T=0/\One (Wu ls) (Gb ls) T L/\g=hgt (Yn (Wu ls)) T)
theorem HG.uniq {sc:Int}{ls:List (Str×Int)}{g g':Int->Int} (a:HG sc ls g) (b:HG sc ls g'):g=g':=by
 rcases a with ⟨e,rfl⟩ | ⟨ne,T,L,tr,_,_,rfl⟩
 ·rcases b with ⟨_,rfl⟩ | ⟨ne,_⟩
  ·rfl
  ·exact absurd e ne
 ·rcases b with ⟨e,_⟩ | ⟨_,T',L',tr',_,_,rfl⟩
  ·exact absurd e ne
  ·have:=tr.uniq tr'
   cases this
   rfl
def dfs (g:Int->Int) (ls:List (Str×Int)) (ns:List Int):List Int:=ns.map fun t=>g (JA ls t.toNat).1-g (JA ls t.toNat).2
def lnV (sc:Int) (ls:List (Str×Int)) (H H':Hp) (v:V):Prop:=(∃p g,HG sc ls g/\v = .ref p/\H p=none/\H' p=some (.lst ((dfs g ls (J2 ls isN ls.length)).map V.int)))∨(v = .non/\sc≠1 /\ ∃ts,U3 (JO (Wu ls)) (Gb ls) ts/\ts.map (ZeA (Yn (Wu ls))) ≠ [0])
def Zgm:Sp:=fun vs H Q _=>∃(l:Addr) (sc:Int) (xs:List V) (ls:List (Str×Int)),vs = [.ref l,.int sc]/\(sc=0∨sc=1)/\H l=some (.lst xs)/\ZI H xs ls/\ls.length<=60/\Wk ls 0 /\
 ∀(v:V) (H':Hp),Zh H H'->lnV sc ls H H' v->Q v H'
theorem ZhY {sc:Int}{ls:List (Str×Int)}{H H':Hp}{v:V} (h:lhV sc ls H H' v):(∃p g,HG sc ls g/\v = .ref p/\H p=none/\H' p=some (.lst ((tab (Gb ls) g).map V.int)))∨(v = .non/\sc≠1 /\ ∃ts,U3 (JO (Wu ls)) (Gb ls) ts/\ts.map (ZeA (Yn (Wu ls))) ≠ [0]):=by
 rcases h with ⟨e,p,rfl,fp,ep⟩ | ⟨ne,ts,tr,⟨z,rfl⟩ | ⟨p,T,L,rfl,t0,o,rfl,fp,ep⟩⟩
 ·exact .inl ⟨p,fun _=>0,.inl ⟨e,rfl⟩,rfl,fp,by rw [ep,Zgi]⟩
 ·exact .inr ⟨rfl,ne,ts,tr,z⟩
 ·exact .inl ⟨p,hgt (Yn (Wu ls)) T,.inr ⟨ne,T,L,tr,t0,o,rfl⟩,rfl,fp,by rw [ep,Zgi]⟩
theorem HG.atEnd {sc:Int}{ls:List (Str×Int)}{g:Int->Int} (h:HG sc ls g) (hsc:sc=0∨sc=1) (hW:Wk ls 0) {i:Nat}{q:Str×Int} (hq:ls[i]? = some q) (he:q.1 = "end"):g (JA ls i).1-g (JA ls i).2=1-sc:=by
 rcases h with ⟨e,rfl⟩ | ⟨ne,T,L,_,_,o,rfl⟩
 ·rw [e];rfl
 ·have s0:sc=0:=hsc.elim id fun z=>absurd z ne
  have hi:i<ls.length:=(List.getElem?_eq_some_iff.mp hq).1
  have mem:JA ls i∈Wu ls:=by
   unfold Wu Jy
   refine List.mem_map.mpr ⟨(i:Int),?_,by simp⟩
   unfold J2
   refine List.mem_filterMap.mpr ⟨i,List.mem_range.mpr hi,?_⟩
   rw [ZbP hq,if_pos]
   rw [he]
   unfold Uh
   simp
  have dm:=Zh0 hW hq (fun z=>by rw [z] at he;exact absurd he (by decide +kernel))
  have:=o.ends (u:=(JA ls i).1) (l:=(JA ls i).2) mem dm.1
  rw [s0,this]
  lia
theorem Zev {g:Int->Int}{ls:List (Str×Int)}{i:Nat}{q:Str×Int} (hq:ls[i]? = some q) (hb:q.1 ≠ "born"):(dfs g ls (J2 ls isN i)).map V.int ++ [V.int (g (JA ls i).1-g (JA ls i).2)]=(dfs g ls (J2 ls isN (i+1))).map V.int:=by
 have kk:=ZbP hq (pr:=isN)
 rw [UT,kk,if_pos (by simpa using hb)]
 unfold dfs
 simp
theorem ZiK {g:Int->Int}{ls:List (Str×Int)}{i:Nat}{q:Str×Int} (hq:ls[i]? = some q) (hb:q.1 = "born"):dfs g ls (J2 ls isN i)=dfs g ls (J2 ls isN (i+1)):=by
 have kk:=ZbP hq (pr:=isN)
 rw [UT,kk,if_neg (by simp [hb]),List.append_nil]
abbrev Jw:Stmt:=top 26
theorem ZP:ZH ["_law_drawing_here", "_law_scale", "_law_known", "_law_rows_here", "_law_found", "_law_t", "_law_letter", "_law_one", "_law_other"] ["_law_drawing_here", "_law_scale"] (Zl Jw):={}
theorem Zly {f:Addr}{fd:FuncData} (F:Jl K "_law_name_heights" "_law_name_heights" Jw f fd) (WT:Jm P w K mg base 3 "_law_heights" ["_law_drawing_here", "_law_scale"] ZlN) (YK:Jm P w K mg base 1 "_law_rows" ["_law_drawing_here"] Zb0)
  (ZA:mg "enumerate" = none):Ys P w K mg base W3 4 f fd ["_law_drawing_here", "_law_scale"] Zgm:=by
 refine F.ok ZP (fun vs H Q E h=>?_) (fun cdv A outer s H vs Q E hr h=>?_)
 ·obtain ⟨l,sc,xs,ls,rfl,_⟩:=h
  rfl
 ·obtain ⟨l,sc,xs,ls,rfl,hsc,hl,hL,hlen,hW,k⟩:=h
  have n120:=Zc8 hlen
  have hxl:=hL.len
  refine ⟨_,(Ze (Zo (i:=2) ZP.nd rfl (Or.inl rfl) (Zz WT hr (Za (pv 0) (Za (pv 1) Zc))))
   (Ze (ZU (Zr Zi0 (pv 2) Gm (Zv _)) (Zg (ZD Gm)) ZG)
   (Ze (Zo (i:=3) ZP.nd rfl (Or.inl rfl) (Zz YK hr (Za (pv 0) Zc)))
   (Ze (Zo (i:=4) ZP.nd rfl (Or.inl rfl) (ZY Zc))
   (Ze (Yc PassesOwn.never rfl (JE (K:=K) rfl (by rfl) ZA (Za (pv 0) Zc)) (Ye (K:=K) (n:=2) rfl rfl (Zq (Zk (i:=5) ZP.nd rfl (Or.inl rfl)) (Zq (Zk (i:=6) ZP.nd rfl (Or.inl rfl)) Z6))) (Zg (ZU (Zr YA (Zx (YF (K:=K) rfl) (pv 6) Zd (fun _ _=>rfl)) ZK (Zv _)) (Ze (Yv (YB (YD (K:=K) rfl) (Zx (Zm (K:=K) rfl) (pv 3) (pv 5) (fun _ _=>rfl)) (YE (Zx (YF (K:=K) rfl) (pv 6) Zd (fun _ _=>rfl))) (YE (Zj Zw (Zx (YF (K:=K) rfl) (pv 6) Zd (fun _ _=>rfl)) Zd))) (Zdq (K:=K) (n:=2) rfl rfl (Zq (Zk (i:=7) ZP.nd rfl (Or.inl rfl)) (Zq (Zk (i:=8) ZP.nd rfl (Or.inl rfl)) Z6))))
   (Zg (Yq (Yt (K:=K) rfl (Jk PySem.F.plainAttrs_list PySem.F.slot_list_append PySem.F.type_list_append Yo (pv 4) (Za (Zj Yr (Zx (Zm (K:=K) rfl) (pv 2) (pv 7) (fun _ _=>rfl)) (Zx (Zm (K:=K) rfl) (pv 2) (pv 8) (fun _ _=>rfl))) Zc)))))) (Zg (ZU (Zr YA (Zx (YF (K:=K) rfl) (pv 6) Zd (fun _ _=>rfl)) ZK (Zv _)) (Zg (Yq (Yt (K:=K) rfl (Jk PySem.F.plainAttrs_list PySem.F.slot_list_append PySem.F.type_list_append Yo (pv 4) (Za (Zj Yr Zd (pv 1)) Zc))))) ZG)))))
   (Zg (ZD (pv 4)))))))),?_⟩
  refine ⟨_,rfl,_,rfl,l,sc,xs,ls,rfl,hl,hL,hlen,hW,fun v H1 s1 lv=>?_⟩
  rcases ZhY lv with ⟨p,g,hg,rfl,fp,ep⟩ | ⟨rfl,ne,hts⟩
  rotate_left
  ·refine ⟨_,rfl,rfl,_,rfl,Wh ?_⟩
   exact k _ H1 s1 (.inr ⟨rfl,ne,hts⟩)
  refine ⟨_,rfl,rfl,_,rfl,Jq ?_⟩
  refine ⟨_,rfl,l,xs,ls,rfl,s1 l _ hl,hL.same s1,hlen,hW,fun R H2 ys fR s2 eR rv ap ndr=>?_⟩
  refine ⟨(by show 0<=sizeLine;decide),fun fA hfA=>?_⟩
  have s12:=s1.trans s2
  have s3:Zh H2 (upd H2 fA (.lst [])):=Zh.laid hfA
  have e3:(upd H2 fA (.lst [])) fA=some (.lst []):=Zb
  have fH:H fA=none:=s12.free hfA
  generalize upd H2 fA (.lst [])=H3 at *
  have hl2:=s12 _ _ hl
  have hL2:=hL.same s12
  refine ⟨_,rfl,l,rfl,⟨_,Zu.of (s3 _ _ hl2)⟩,WE (K:=K) (a:=l) (xs:=xs) (fun i σ G=>∃(v5 v6 v7 v8:Option V),σ = [some (.ref l),some (.int sc),some (.ref p),some (.ref R),some (.ref fA),v5,v6,v7,v8]/\Zh H2 G/\G fA=some (.lst ((dfs g ls (J2 ls isN i)).map V.int)))
   ⟨none,none,none,none,rfl,s3,e3⟩ (fun i σ G _ ⟨_,_,_,_,_,sm,_⟩=>Zu.of (sm l _ hl2)) ?_ ?_⟩
  ·rintro i x pa σ G hx ⟨v5,v6,v7,v8,rfl,sm,eF⟩ hp
   obtain ⟨⟨qx,qk⟩,ta,hq,rfl,hta⟩:=hL2.get hx
   have hi:i<ls.length:=(List.getElem?_eq_some_iff.mp hq).1
   have sp:Zh G (upd G pa (.tup [.int i,.ref ta])):=Zh.laid hp
   have epa:(upd G pa (.tup [.int i,.ref ta])) pa=some (.tup [.int i,.ref ta]):=Zb
   generalize upd G pa (.tup [.int i,.ref ta])=G0 at *
   have sg0:=sm.trans sp
   have eF0:=sp _ _ eF
   have hta':=sg0 ta _ hta
   have short:((dfs g ls (J2 ls isN i)).map V.int).length<sizeLine:=by
    rw [List.length_map]
    unfold dfs
    rw [List.length_map]
    have:=Zca ls isN i
    exact ZV (by lia)
   refine ⟨pa,_,rfl,JZ.of epa,rfl,_,_,rfl,_,_,rfl,rfl,?_⟩
   refine ⟨_,rfl,ta,_,_,_,rfl,rfl,JZ.of hta',Zp (j:=0) rfl,rfl,_,rfl,?_⟩
   refine Y0 (fun hc=>?_) (fun hc=>?_)
   ·have e:qx = "cross" := V.str.inj (of_decide_eq_true hc)
    subst e
    have nb:(("cross" : Str),qk).1 ≠ "born" := show ("cross" : Str) ≠ "born" by decide +kernel
    obtain ⟨k0,k1,pe⟩:=Zgz hW hq nb
    have dm:=Zh0 hW hq nb
    have sn:=Zev (g:=g) hq nb
    obtain ⟨kn,rfl⟩:=Int.eq_ofNat_of_zero_le (show 0<=qk from k0)
    simp only [Int.toNat_natCast] at k1 pe
    obtain ⟨ra,hra,hrr⟩:=rv.at (Za3 ls (i:=i) (n:=ls.length+1) (by lia))
    obtain ⟨u,hu⟩:∃u,u=(rowAt ls i).getD kn 0:=⟨_,rfl⟩
    obtain ⟨w',hw⟩:∃w',w'=(rowAt ls i).getD (kn+1) 0:=⟨_,rfl⟩
    rw [<- hu,<- hw] at pe
    rw [pe] at dm sn
    refine ⟨_,rfl,_,rfl,R,_,_,_,rfl,rfl,Zu.of (sg0 R _ eR),Zp hra,_,rfl,ta,_,_,_,rfl,rfl,JZ.of hta',Zp (j:=1) rfl,_,rfl,_,rfl,ta,_,_,_,rfl,rfl,JZ.of hta',Zp (j:=1) rfl,_,_,rfl,rfl,_,rfl,ra,_,rfl,Zu.of (sg0 ra _ hrr),fun cA hcA=>?_⟩
    rw [Zdt k1,<- hu,<- hw]
    have s4:Zh G0 (upd G0 cA (.lst [.int u,.int w'])):=Zh.laid hcA
    have e4:(upd G0 cA (.lst [.int u,.int w'])) cA=some (.lst [.int u,.int w']):=Zb
    generalize upd G0 cA (.lst [.int u,.int w'])=G1 at *
    refine ⟨cA,_,rfl,Zu.of e4,rfl,_,_,rfl,_,_,rfl,rfl,?_⟩
    have ep1:=s4 _ _ (sg0 _ _ (s2 _ _ ep))
    have eF1:=s4 _ _ eF0
    refine ⟨_,rfl,.inl ⟨rfl,_,Zu.of eF1⟩,_,rfl,_,rfl,p,_,_,_,rfl,rfl,Zu.of ep1,ZgB g dm.1.1 dm.1.2,_,rfl,_,rfl,p,_,_,_,rfl,rfl,Zu.of ep1,ZgB g dm.2.1 dm.2.2,_,_,rfl,rfl,fA,_,_,rfl,rfl,eF1,short,?_⟩
    refine ⟨_,_,_,_,rfl,(sg0.trans s4).put hfA,?_⟩
    rw [Zb,sn]
   ·have nc:¬qx = "cross" := fun z=>hc (decide_eq_true (congrArg V.str z))
    refine ⟨_,rfl,ta,_,_,_,rfl,rfl,JZ.of hta',Zp (j:=0) rfl,rfl,_,rfl,?_⟩
    refine Y0 (fun hc2=>?_) (fun hc2=>?_)
    ·have e:qx = "end" := V.str.inj (of_decide_eq_true hc2)
     subst e
     have nb:(("end" : Str),qk).1 ≠ "born" := show ("end" : Str) ≠ "born" by decide +kernel
     have sn:=Zev (g:=g) hq nb
     rw [hg.atEnd hsc hW hq rfl] at sn
     refine ⟨_,rfl,.inl ⟨rfl,_,Zu.of eF0⟩,_,rfl,_,_,rfl,rfl,fA,_,_,rfl,rfl,eF0,short,?_⟩
     refine ⟨_,_,_,_,rfl,sg0.put hfA,?_⟩
     rw [Zb,sn]
    ·have ne2:¬qx = "end" := fun z=>hc2 (decide_eq_true (congrArg V.str z))
     have b:qx = "born" := by
      rcases hW.kd _ (List.mem_of_getElem? hq) with z | z | z
      ·exact z
      ·exact absurd z nc
      ·exact absurd z ne2
     refine ⟨_,_,_,_,rfl,sg0,?_⟩
     rw [eF0,ZiK hq b]
  ·rintro σ G ⟨v5,v6,v7,v8,rfl,sm,eF⟩
   rw [hxl] at eF
   exact ⟨_,rfl,k _ G (s12.trans sm) (.inl ⟨fA,g,hg,rfl,fH,eF⟩)⟩
def ZdI:Sp:=fun vs H Q _=>∃(b:Addr) (n:Int),vs = [.ref b,.int n]/\UU H b/\2<=n/\n<=12 /\ ∀(l:Addr) (H':Hp) (ls:List (Str×Int)),H l=none->UU H' b->JV b H H'->Drw H' l ls->(nX ls<=13/\Lo8 ls)->Q (.ref l) H'
theorem ZeV {H:Hp}{t:Addr}{q:Str×Int} (h:H t=some (.tup [.str q.1,.int q.2])):∀n:Nat,ZI H (List.replicate n (V.ref t)) (List.replicate n q)
 | 0=>.nil
 | n+1=>.cons ⟨t,rfl,h⟩ (ZeV h n)
theorem Zl6 (n:Nat) (k:Int):nX (List.replicate n ((("cross" : Str),k):Str×Int))=n:=by
 unfold nX
 rw [List.countP_replicate,if_pos (by show decide (("cross" : Str)=("cross" : Str))=true;decide)]
abbrev GL:Stmt:=top 28
theorem JH:ZH ["_law_bag_here", "_law_most", "_law_way", "_law_letters", "_law_turn"] ["_law_bag_here", "_law_most"] (Zl GL):={}
theorem Zh5 {f:Addr}{fd:FuncData} (F:Jl K "_law_front" "_law_front" GL f fd) (Zt:Jm P w K mg base 1 "_law_take" ["_law_bag_here", "_law_many"] Uw) (Zaz:Jm P w K mg base 3 "_law_any" ["_law_bag_here", "_law_most"] Zb6) (JQ:Jm P w K mg base 2 "_law_plat" ["_law_bag_here", "_law_most"] Zb6)
  (Gq:Jm P w K mg base 2 "_law_curled" ["_law_bag_here", "_law_letters", "_law_most"] ZdL) (ZC:mg "range" = none) (Yi:mg "len" = none) (Zaj:mg "max" = none) (Zc7:mg "min" = none):
  Ys P w K mg base W3 4 f fd ["_law_bag_here", "_law_most"] ZdI:=by
 refine F.ok JH (fun vs H Q E h=>?_) (fun cdv A outer s H vs Q E hr h=>?_)
 ·obtain ⟨b,n,rfl,_⟩:=h
  rfl
 ·obtain ⟨b,n,rfl,hbag,n2,n12,k⟩:=h
  refine ⟨_,(Ze (Zo (i:=2) JH.nd rfl (Or.inl rfl) (Zz Zt hr (Za (pv 0) (Za Zd Zc))))
   (Ze (ZU (Zr YA (pv 2) Zd (Zv _)) (Zg (ZD (Zz Zaz hr (Za (pv 0) (Za (pv 1) Zc))))) ZG)
   (Ze (ZU (Zr YA (pv 2) Zd (Zv _)) (Zg (ZD (Zz JQ hr (Za (pv 0) (Za (pv 1) Zc))))) ZG)
   (Ze (Zo (i:=3) JH.nd rfl (Or.inl rfl) (Zj Gp (ZY (Za (ZN (Za ZK (Za Zd Zc))) (Za (ZN (Za ZK (Za Zd Zc))) Zc))) (Zj Zbo (ZY (Za (ZN (Za ZK (Za Zd Zc))) Zc)) (Zj Zw Zd (Zz Zt hr (Za (pv 0) (Za (pv 1) Zc)))))))
   (Ze (ZU (Zr YA (pv 2) Zd (Zv _)) (Ze (Zo (i:=3) JH.nd rfl (Or.inl rfl) (ZY (Za (ZN (Za ZK (Za Zd Zc))) (Za (ZN (Za ZK (Za Zd Zc))) (Za (ZN (Za ZK (Za Zd Zc))) Zc)))))
   (Ze (Yc PassesOwn.never rfl (Yb (by rfl) ZC (Za (Zj Zw Zd (Zz Zt hr (Za (pv 0) (Za (ZE (U6 rfl) (by rfl) Zaj boot_max (Za Zd (Za (Zj Yr (pv 1) Zd) Zc))) Zc)))) Zc)) (Zk (i:=4) JH.nd rfl (Or.inl rfl)) (Zg (Yq (Yt (K:=K) rfl (Jk PySem.F.plainAttrs_list PySem.F.slot_list_append PySem.F.type_list_append Yo (pv 3) (Za (ZN (Za ZK (Za (Zx (Zm (K:=K) rfl) (ZY (Za Zd (Za Zd (Za Zd Zc)))) (Zj JX (Zz Zt hr (Za (pv 0) (Za Zd Zc))) Zd) (fun _ _=>rfl)) Zc))) Zc))))))
   (Zg (ZD (Zj Gp (pv 3) (ZY (Za (ZN (Za ZK (Za Zd Zc))) (Za (ZN (Za ZK (Za Zd Zc))) (Za (ZN (Za ZK (Za Zd Zc))) Zc))))))))) ZG)
   (Zg (ZD (Zz Gq hr (Za (pv 0) (Za (Zj Gp (pv 3) (ZY (Za (ZN (Za ZK (Za Zd Zc))) (Za (ZN (Za ZK (Za Zd Zc))) Zc)))) (Za (ZE (U6 rfl) (by rfl) Zaj boot_max (Za Zd (Za (ZE (ZcX rfl) (by rfl) Zc7 boot_min (Za Zd (Za (Zj Yr Zd (ZE (Yj (K:=K) rfl) (by rfl) Yi PySem.boot_len (Za (pv 3) Zc))) Zc))) Zc))) Zc))))))))))),?_⟩
  have nb:∀{c:Addr},H c=none->c≠b:=fun {c} h z=>by
   obtain ⟨_,_,_,e⟩:=hbag
   rw [z,e] at h
   cases h
  refine ⟨_,rfl,b,5,rfl,hbag,by decide,by decide,fun wy H1 w0 w1 bg1 f1=>?_⟩
  refine ⟨_,rfl,rfl,_,rfl,Y0 (fun _=>?_) (fun _=>?_)⟩
  ·exact ⟨_,rfl,_,rfl,b,n,rfl,bg1,by lia,by lia,fun l H2 ls hl bg2 f2 dr nx=>k l H2 ls (f1.free bg1 hl) bg2 (f1.trans f2) dr ⟨by lia,nx.2⟩⟩
  refine ⟨_,rfl,rfl,_,rfl,Y0 (fun _=>?_) (fun _=>?_)⟩
  ·exact ⟨_,rfl,_,rfl,b,n,rfl,bg1,by lia,by lia,fun l H2 ls hl bg2 f2 dr nx=>k l H2 ls (f1.free bg1 hl) bg2 (f1.trans f2) dr ⟨by lia,nx.2⟩⟩
  refine ⟨(by show 2<=sizeLine;decide),fun t1 h1=>?_⟩
  obtain ⟨X1,z,a1,b1⟩:=lay (o:=.tup [.str "born", .int 0]) h1
  rw [z];clear z
  refine ⟨(by show 2<=sizeLine;decide),fun t2 h2=>?_⟩
  obtain ⟨X2,z,a2,b2⟩:=lay (o:=.tup [.str "born", .int 2]) h2
  rw [z];clear z
  refine ⟨(by show 2<=sizeLine;decide),fun c1 h3=>?_⟩
  obtain ⟨X3,z,a3,b3⟩:=lay (o:=.lst [.ref t1,.ref t2]) h3
  rw [z];clear z
  refine ⟨(by show 2<=sizeLine;decide),fun t3 h4=>?_⟩
  obtain ⟨X4,z,a4,b4⟩:=lay (o:=.tup [.str "cross", .int 1]) h4
  rw [z];clear z
  refine ⟨(by show 1<=sizeLine;decide),fun c2 h5=>?_⟩
  obtain ⟨X5,z,a5,b5⟩:=lay (o:=.lst [.ref t3]) h5
  rw [z];clear z
  have s15:=(((a1.trans a2).trans a3).trans a4).trans a5
  have bg5:=YM s15 bg1
  have nb5:∀{c:Addr}{G:Hp},UU G b->G c=none->c≠b:=fun {c G} h e z=>by
   obtain ⟨_,_,_,q⟩:=h
   rw [z,q] at e
   cases e
  have n1:c1≠b:=nb5 (YM (a1.trans a2) bg1) h3
  have n2':c2≠b:=nb5 (YM (((a1.trans a2).trans a3).trans a4) bg1) h5
  have L3:ZI X5 [.ref t1,.ref t2] [("born", 0),("born", 2)]:=.cons ⟨t1,rfl,a5 _ _ (a4 _ _ (a3 _ _ (a2 _ _ b1)))⟩ (.cons ⟨t2,rfl,a5 _ _ (a4 _ _ (a3 _ _ b2))⟩ .nil)
  have L4:∀m:Nat,ZI X5 (List.replicate m (V.ref t3)) (List.replicate m ((("cross" : Str),1):Str×Int)):=fun m=>ZeV (a5 _ _ b4) m
  refine ⟨_,rfl,_,rfl,b,n,rfl,bg5,by lia,by lia,fun d H2 d0 d1 bg2 f2=>⟨_,_,rfl,rfl,?_⟩⟩
  obtain ⟨mm,hmm⟩:∃mm:Nat,mm=(1+d).toNat:=⟨_,rfl⟩
  refine ⟨c2,_,_,rfl,rfl,f2 _ _ b5 n2',by lia,by lia,(by rw [<- hmm,sizeLine_eq];simp;lia),fun c3 h6=>?_⟩
  rw [<- hmm,List.flatten_replicate_singleton]
  obtain ⟨X6,z,a6,b6⟩:=lay (o:=.lst (List.replicate mm (V.ref t3))) h6
  rw [z];clear z
  refine ⟨c1,c3,_,_,rfl,rfl,a6 _ _ (f2 _ _ (a5 _ _ (a4 _ _ b3)) n1),b6,(by rw [List.length_replicate,sizeLine_eq];show 2+mm<=_;lia),fun c4 h7=>?_⟩
  obtain ⟨X7,z,a7,b7⟩:=lay (o:=.lst ([.ref t1,.ref t2]++List.replicate mm (V.ref t3))) h7
  rw [z];clear z
  have s27:=a6.trans a7
  have bg7:=YM s27 bg2
  have f17:JV b H X7:=((f1.trans s15.frm).trans f2).trans s27.frm
  have L7:ZI X7 ([.ref t1,.ref t2]++List.replicate mm (V.ref t3)) (([("born", 0),("born", 2)]:List (Str×Int))++List.replicate mm ((("cross" : Str),1):Str×Int)):=((L3.frm f2 bg5).append ((L4 mm).frm f2 bg5)).same s27
  refine ⟨_,rfl,rfl,_,rfl,Y0 (fun _=>?_) (fun _=>?_)⟩
  ·refine ⟨(by show 2<=sizeLine;decide),fun u1 e1=>?_⟩
   obtain ⟨Y1,z,g1,j1⟩:=lay (o:=.tup [.str "born", .int 0]) e1
   rw [z];clear z
   refine ⟨(by show 2<=sizeLine;decide),fun u2 e2=>?_⟩
   obtain ⟨Y2,z,g2,j2⟩:=lay (o:=.tup [.str "born", .int 2]) e2
   rw [z];clear z
   refine ⟨(by show 2<=sizeLine;decide),fun u3 e3=>?_⟩
   obtain ⟨Y3,z,g3,j3⟩:=lay (o:=.tup [.str "born", .int 4]) e3
   rw [z];clear z
   refine ⟨(by show 3<=sizeLine;decide),fun l e4=>?_⟩
   obtain ⟨Y4,z,g4,j4⟩:=lay (o:=.lst [.ref u1,.ref u2,.ref u3]) e4
   rw [z];clear z
   have sY:=((g1.trans g2).trans g3).trans g4
   have bgY:=YM sY bg7
   have fl:H l=none:=f17.free bg7 (((g1.trans g2).trans g3).free e4)
   have hlb:=nb fl
   have LY:ZI Y4 [.ref u1,.ref u2,.ref u3] [("born", 0),("born", 2),("born", 4)]:=.cons ⟨u1,rfl,g4 _ _ (g3 _ _ (g2 _ _ j1))⟩ (.cons ⟨u2,rfl,g4 _ _ (g3 _ _ j2)⟩ (.cons ⟨u3,rfl,g4 _ _ j3⟩ .nil))
   have WY:W8 [("born", 0),("born", 2),("born", 4)] 6:=W8.born (k:=4) (W8.born (k:=2) (W8.born (k:=0) W8.nil0 (by decide) (by decide) (by decide)) (by decide) (by decide) (by decide)) (by decide) (by decide) (by decide)
   refine ⟨_,rfl,_,rfl,_,_,rfl,rfl,_,_,rfl,b,_,rfl,bgY,(by split<;>lia),(by split<;>lia),fun d2 H3 d20 d21 bg3 f3=>⟨_,_,rfl,rfl,?_⟩⟩
   have d2n:d2<=11:=by revert d21;split<;>lia
   refine ⟨_,rfl,by lia,by lia,YG (n:=(2+d2).toNat) (fun i σ G=>∃(xs:List V) (ls:List (Str×Int)) (v4:Option V),σ = [some (.ref b),some (.int n),some (.int wy),some (.ref l),v4]/\UU G b/\JV b H G/\G l=some (.lst xs)/\ZI G xs ls/\W8 ls 6/\ls.length<=3+i/\nX ls<=i)
    ⟨_,_,_,rfl,bg3,(f17.trans sY.frm).trans f3,f3 _ _ j4 hlb,LY.frm f3 bgY,WY,Nat.le_refl _,Nat.le_refl _⟩ ?_ ?_⟩
   ·rintro i σ G hi ⟨xs,ls,v4,rfl,bg,fr4,hG,hL,hW,hlen,hx⟩
    have hxl:=hL.len
    refine ⟨_,rfl,.inl ⟨rfl,_,Zu.of hG⟩,(by show 3<=sizeLine;decide),fun q1 hq1=>?_⟩
    obtain ⟨Z1,z,r1,o1⟩:=lay (o:=.lst [.int 1,.int 3,.int 2]) hq1
    rw [z];clear z
    have bgZ:=YM r1 bg
    refine ⟨_,rfl,b,7,rfl,bgZ,by decide,by decide,fun e Z2 e0 e1' bgZ2 fZ=>⟨_,_,rfl,rfl,(by show (0:Int)<3;decide),?_⟩⟩
    have nq:q1≠b:=nb5 bg hq1
    obtain ⟨jj,hjj⟩:∃jj:Nat,e % 3=(jj:Int):=⟨(e % 3).toNat,by lia⟩
    have jj3:jj<3:=by lia
    dsimp only
    rw [hjj]
    obtain ⟨kk,hkk,k0,k4⟩:∃kk:Int,([V.int 1,.int 3,.int 2]:List V)[jj]? = some (.int kk)/\0<=kk/\kk<=4:=by
     match jj,jj3 with
     | 0,_=>exact ⟨_,rfl,by decide,by decide⟩
     | 1,_=>exact ⟨_,rfl,by decide,by decide⟩
     | 2,_=>exact ⟨_,rfl,by decide,by decide⟩
    refine ⟨q1,_,_,_,rfl,rfl,Zu.of (fZ _ _ o1 nq),Zp hkk,(by show 2<=sizeLine;decide),fun t ht=>?_⟩
    obtain ⟨c1',c2',c3',c4',c5'⟩:=Wl "cross" kk (fr4.trans r1.frm) bgZ (r1 _ _ hG) (hL.same r1) hlb fl fZ bgZ2 ht
    refine ⟨l,_,_,rfl,rfl,c1',ZV (by lia),?_⟩
    exact ⟨xs ++ [.ref t],ls ++ [((("cross" : Str),kk):Str×Int)],_,rfl,c2',c3',c4',c5',W8.cross hW k0 (by lia),by rw [List.length_append,List.length_singleton];lia,by rw [Uy];lia⟩
   ·rintro σ G ⟨xs,ls,v4,rfl,bg,fr4,hG,hL,hW,hlen,hx⟩
    have hxl:=hL.len
    refine ⟨_,rfl,(by show 2<=sizeLine;decide),fun w1' e1'=>?_⟩
    obtain ⟨Z1,z,r1,o1⟩:=lay (o:=.tup [.str "end", .int 0]) e1'
    rw [z];clear z
    refine ⟨(by show 2<=sizeLine;decide),fun w2' e2'=>?_⟩
    obtain ⟨Z2,z,r2,o2⟩:=lay (o:=.tup [.str "end", .int 0]) e2'
    rw [z];clear z
    refine ⟨(by show 2<=sizeLine;decide),fun w3' e3'=>?_⟩
    obtain ⟨Z3,z,r3,o3⟩:=lay (o:=.tup [.str "end", .int 0]) e3'
    rw [z];clear z
    refine ⟨(by show 3<=sizeLine;decide),fun w4' e4'=>?_⟩
    obtain ⟨Z4,z,r4,o4⟩:=lay (o:=.lst [.ref w1',.ref w2',.ref w3']) e4'
    rw [z];clear z
    have sZ:=((r1.trans r2).trans r3).trans r4
    refine ⟨l,w4',_,_,rfl,rfl,sZ _ _ hG,o4,(by rw [hxl,sizeLine_eq];show ls.length+3<=_;lia),fun w5 e5=>?_⟩
    obtain ⟨Z5,z,r5,o5⟩:=lay (o:=.lst (xs ++ [.ref w1',.ref w2',.ref w3'])) e5
    rw [z];clear z
    have sZ5:=sZ.trans r5
    have LE:ZI Z5 [.ref w1',.ref w2',.ref w3'] (List.replicate 3 ((("end" : Str),0):Str×Int)):=.cons ⟨w1',rfl,r5 _ _ (r4 _ _ (r3 _ _ (r2 _ _ o1)))⟩ (.cons ⟨w2',rfl,r5 _ _ (r4 _ _ (r3 _ _ o2))⟩ (.cons ⟨w3',rfl,r5 _ _ (r4 _ _ o3)⟩ .nil))
    refine k w5 Z5 (ls++List.replicate 3 ((("end" : Str),0):Str×Int)) (fr4.free bg (sZ.free e5)) (YM sZ5 bg) (fr4.trans sZ5.frm) ⟨_,o5,(hL.same sZ5).append LE,?_,?_⟩ ?_
    ·have:=(GN 3 hW 3 (Nat.le_refl _)).1
     simpa using this
    ·rw [List.length_append,List.length_replicate];lia
    ·refine ⟨?_,(GN 3 hW 3 (Nat.le_refl _)).2⟩
     rw [Gn]
     have:nX (List.replicate 3 ((("end" : Str),0):Str×Int))=0:=rfl
     lia
  ·refine ⟨_,rfl,_,rfl,(by show 2<=sizeLine;decide),fun w1' e1'=>?_⟩
   obtain ⟨Z1,z,r1,o1⟩:=lay (o:=.tup [.str "end", .int 0]) e1'
   rw [z];clear z
   refine ⟨(by show 2<=sizeLine;decide),fun w2' e2'=>?_⟩
   obtain ⟨Z2,z,r2,o2⟩:=lay (o:=.tup [.str "end", .int 0]) e2'
   rw [z];clear z
   refine ⟨(by show 2<=sizeLine;decide),fun w4' e4'=>?_⟩
   obtain ⟨Z4,z,r4,o4⟩:=lay (o:=.lst [.ref w1',.ref w2']) e4'
   rw [z];clear z
   have sZ:=(r1.trans r2).trans r4
   have l7:([V.ref t1,.ref t2]++List.replicate mm (V.ref t3)).length=2+mm:=by rw [List.length_append,List.length_replicate];rfl
   refine ⟨c4,w4',_,_,rfl,rfl,sZ _ _ b7,o4,(by rw [l7,sizeLine_eq];show 2+mm+2<=_;lia),fun w5 e5=>?_⟩
   obtain ⟨Z5,z,r5,o5⟩:=lay (o:=.lst ([.ref t1,.ref t2]++List.replicate mm (V.ref t3) ++ [.ref w1',.ref w2'])) e5
   rw [z];clear z
   have sZ5:=sZ.trans r5
   have LE:ZI Z5 [.ref w1',.ref w2'] (List.replicate 2 ((("end" : Str),0):Str×Int)):=.cons ⟨w1',rfl,r5 _ _ (r4 _ _ (r2 _ _ o1))⟩ (.cons ⟨w2',rfl,r5 _ _ (r4 _ _ o2)⟩ .nil)
   have bgZ:=YM sZ5 bg7
   have f0:H w5=none:=f17.free bg7 (sZ.free e5)
   have WX:∀m:Nat,W8 (([("born", 0),("born", 2)]:List (Str×Int))++List.replicate m ((("cross" : Str),1):Str×Int)) 4:=fun m=>by
    induction m with
    | zero=>exact W8.born (k:=2) (W8.born (k:=0) W8.nil0 (by decide) (by decide) (by decide)) (by decide) (by decide) (by decide)
    | succ m ih=>rw [List.replicate_succ',<- List.append_assoc];exact W8.cross ih (by decide) (by decide)
   refine ⟨_,rfl,c4,_,rfl,.inl (Zu.of (sZ5 _ _ b7)),_,_,rfl,rfl,_,_,rfl,_,_,rfl,?_⟩
   rw [l7]
   refine ⟨b,w5,_,([("born", 0),("born", 2)]:List (Str×Int))++List.replicate mm ((("cross" : Str),1):Str×Int)++List.replicate 2 ((("end" : Str),0):Str×Int),rfl,bgZ,⟨_,o5,(L7.same sZ5).append LE,?_,?_⟩,nb f0,?_,?_,?_,?_,fun l G ls hl bg fr dr nx=>k l G ls ((f17.trans sZ5.frm).free bgZ hl) bg ((f17.trans sZ5.frm).trans fr) dr nx⟩
   ·have:=(GN 2 (WX mm) 2 (Nat.le_refl _)).1
    simpa using this
   ·rw [List.length_append,List.length_append,List.length_replicate,List.length_replicate];show 2+mm+2<=60;lia
   ·rw [List.length_append,List.length_append,List.length_replicate,List.length_replicate];show 2+mm+2<=40;lia
   ·refine ⟨?_,(GN 2 (WX mm) 2 (Nat.le_refl _)).2⟩
    rw [Gn,Gn,Zl6]
    have e1:nX (List.replicate 2 ((("end" : Str),0):Str×Int))=0:=rfl
    have e2:nX ([("born", 0),("born", 2)]:List (Str×Int))=0:=rfl
    lia
   ·split<;>(try split)<;>lia
   ·split<;>(try split)<;>lia
def ZcL:Sp:=fun vs H Q _=>∃(l:Addr) (ls:List (Str×Int)),vs = [.ref l]/\Drw H l ls /\ ∀(p:Addr) (H':Hp) (scs:List Int),Zh H H'->H p=none->H' p=some (.lst (scs.map V.int))->scs.length<=2->(∀sc∈scs,(sc=0∨sc=1) /\ ∃g,HG sc ls g)->Q (.ref p) H'
abbrev J8:Stmt:=top 29
theorem Zcq:ZH ["_law_drawing_here"] ["_law_drawing_here"] (Zl J8):={}
theorem Zg3 {f:Addr}{fd:FuncData} (F:Jl K "_law_scales" "_law_scales" J8 f fd) (Yg:Jm P w K mg base 4 "_law_name_heights" ["_law_drawing_here", "_law_scale"] Zgm):Ys P w K mg base W3 5 f fd ["_law_drawing_here"] ZcL:=by
 refine F.ok Zcq (fun vs H Q E h=>?_) (fun cdv A outer s H vs Q E hr h=>?_)
 ·obtain ⟨l,ls,rfl,_⟩:=h
  rfl
 ·obtain ⟨l,ls,rfl,⟨xs,hl,hL,hW,hlen⟩,k⟩:=h
  refine ⟨_,(Zg (ZD (Gz (Ls:=["_law_scale"]) (Fs:=["_law_drawing_here"]) (fi:=[0]) (ZR.of (show Ym ["_law_drawing_here"] (Zl J8) _ ["_law_drawing_here"] [0]=true by decide +kernel)) rfl (Z8 (K:=K) rfl (ZY (Za Zd (Za Zd Zc)))) (fun cl C s3 H3 ex=>⟨(Zk (i:=0) (show ((["_law_scale"]:List Str)++(["_law_drawing_here"]:List Str)).Nodup by decide +kernel) rfl (Or.inl rfl)),(ZbU (Zr ZkJ (Zz Yg hr (Za (pv 1) (Za (pv 0) Zc))) Gm (Zv _))),(pv 0)⟩)))),?_⟩
  refine ⟨(by show 2<=sizeLine;decide),fun D hD=>?_⟩
  obtain ⟨G0,z,s0,e0⟩:=lay (o:=.lst [.int 0,.int 1]) hD
  rw [z];clear z
  refine ⟨D,rfl,⟨_,Zu.of e0⟩,Jg (K:=K) (a:=D) (xs:=[.int 0,.int 1]) (by show 2<=sizeLine;decide) (fun i zs G=>Zh G0 G /\ ∃scs:List Int,zs=scs.map V.int/\scs.length<=i /\ ∀sc∈scs,(sc=0∨sc=1) /\ ∃g,HG sc ls g) ⟨Zh.refl _,[],rfl,Nat.le_refl _,fun _ h=>(nomatch h)⟩
   (fun i zs G ⟨_,scs,e,l,_⟩=>by rw [e,List.length_map];exact l) (fun i zs G x=>Zu.of (x.1 _ _ e0)) (fun i y zs G hy x=>?_) (fun zs G x p hp=>?_)⟩
  ·obtain ⟨sG,scs,rfl,ln,al⟩:=x
   obtain ⟨sc,rfl,hsc⟩:∃sc:Int,y = .int sc/\(sc=0∨sc=1):=by
    match i,hy with
    | 0,h=>exact ⟨0,(Option.some.inj h).symm,.inl rfl⟩
    | 1,h=>exact ⟨1,(Option.some.inj h).symm,.inr rfl⟩
   have s2:=s0.trans sG
   refine ⟨_,rfl,_,rfl,l,sc,xs,ls,rfl,hsc,s2 _ _ hl,hL.same s2,hlen,hW,fun v G' s' lv=>⟨rfl,_,rfl,?_⟩⟩
   rcases lv with ⟨p,g,hg,rfl,_,_⟩ | ⟨rfl,_,_⟩
   ·refine Wh ⟨_,rfl,sG.trans s',scs ++ [sc],by simp,by rw [List.length_append];show _+1<=_;lia,fun x hx=>?_⟩
    rcases List.mem_append.mp hx with h | h
    ·exact al x h
    ·rw [List.mem_singleton.mp h];exact ⟨hsc,g,hg⟩
   ·exact Jq ⟨sG.trans s',scs,rfl,by lia,al⟩
  ·obtain ⟨sG,scs,rfl,ln,al⟩:=x
   exact k p _ scs (s0.trans (sG.step hp)) (s0.free (sG.free hp)) Zb ln al
theorem HG.told {sc:Int}{ls:List (Str×Int)}{g:Int->Int}{H H':Hp}{v:V} (h:HG sc ls g) (lv:lnV sc ls H H' v):∃p,v = .ref p/\H p=none/\H' p=some (.lst ((dfs g ls (J2 ls isN ls.length)).map V.int)):=by
 rcases lv with ⟨p,g',hg,rfl,fp,e⟩ | ⟨_,ne,ts,tr,z⟩
 ·have:=h.uniq hg
  subst this
  exact ⟨p,rfl,fp,e⟩
 ·exfalso
  rcases h with ⟨e,_⟩ | ⟨_,T,L,tr',t0,_⟩
  ·exact ne e
  ·have:=tr.uniq tr'
   rw [this] at z
   exact z (by rw [List.map_singleton,t0])
def ZcU (ls:List (Str×Int)) (i m:Nat):List Int:=(List.range' i m).filterMap fun i=>if isK ls isN i=true then some (i:Int) else none
theorem Zc1 (ls:List (Str×Int)) (i m:Nat):ZcU ls i (m+1)=(if isK ls isN i=true then [(i:Int)] else [])++ZcU ls (i+1) m:=by
 unfold ZcU
 rw [List.range'_succ,List.filterMap_cons]
 split
 ·rename_i h
  split at h
  ·cases h
  ·rename_i q;rw [if_neg q];rfl
 ·rename_i h
  split at h
  ·rename_i q;cases h;rw [if_pos q];rfl
  ·cases h
def hgA (g:Int->Int) (ls:List (Str×Int)) (i:Nat):Option Int:=if isK ls isN i=true then some (g (JA ls i).1-g (JA ls i).2) else none
def oI:Option Int->V
 | some i=>.int i
 | none=>.non
def lhL (g:Int->Int) (ls:List (Str×Int)) (n:Nat):List V:=(List.range n).map fun i=>oI (hgA g ls i)
def ZfU:Sp:=fun vs H Q _=>∃(l:Addr) (sc:Int) (ls:List (Str×Int)) (g:Int->Int),vs = [.ref l,.int sc]/\(sc=0∨sc=1)/\Drw H l ls/\HG sc ls g /\ ∀(p:Addr) (H':Hp),Zh H H'->H p=none->H' p=some (.lst (lhL g ls ls.length))->Q (.ref p) H'
abbrev Jf:Stmt:=top 32
theorem Yw:ZH ["_law_drawing_here", "_law_scale", "_law_known", "_law_found", "_law_letter"] ["_law_drawing_here", "_law_scale"] (Zl Jf):={}
theorem ZjX {f:Addr}{fd:FuncData} (F:Jl K "_law_letter_heights" "_law_letter_heights" Jf f fd) (Yg:Jm P w K mg base 4 "_law_name_heights" ["_law_drawing_here", "_law_scale"] Zgm) (Yu:mg "list" = none):Ys P w K mg base W3 5 f fd ["_law_drawing_here", "_law_scale"] ZfU:=by
 refine F.ok Yw (fun vs H Q E h=>?_) (fun cdv A outer s H vs Q E hr h=>?_)
 ·obtain ⟨l,sc,ls,g,rfl,_⟩:=h
  rfl
 ·obtain ⟨l,sc,ls,g,rfl,hsc,⟨xs,hl,hL,hW,hlen⟩,hg,k⟩:=h
  refine ⟨_,(Ze (Zo (i:=2) Yw.nd rfl (Or.inl rfl) (Yf (WN (K:=K) rfl) (by rfl) Yu boot_list (Za (Zz Yg hr (Za (pv 0) (Za (pv 1) Zc))) Zc)))
   (Ze (Zo (i:=3) Yw.nd rfl (Or.inl rfl) (ZY Zc))
   (Ze (Yc PassesOwn.never rfl (Z8 (K:=K) rfl (pv 0)) (Zk (i:=4) Yw.nd rfl (Or.inl rfl)) (Zg (ZU (Zr YA (Zx (YF (K:=K) rfl) (pv 4) Zd (fun _ _=>rfl)) ZK (Zv _)) (Zg (Yq (Yt (K:=K) rfl (Jk PySem.F.plainAttrs_list PySem.F.slot_list_append PySem.F.type_list_append Yo (pv 3) (Za Gm Zc))))) (Zg (Yq (Yt (K:=K) rfl (Jk PySem.F.plainAttrs_list PySem.F.slot_list_append PySem.F.type_list_append Yo (pv 3) (Za (Yt (K:=K) rfl (Jk PySem.F.plainAttrs_list PySem.F.slot_list_pop PySem.F.type_list_pop ZcB (pv 2) (Za Zd Zc))) Zc))))))))
   (Zg (ZD (pv 3)))))),?_⟩
  refine ⟨_,rfl,_,rfl,l,sc,xs,ls,rfl,hsc,hl,hL,hlen,hW,fun v H1 s1 lv=>?_⟩
  obtain ⟨p,rfl,fp,ep⟩:=hg.told lv
  refine ⟨p,_,rfl,.inl (Zu.of ep),fun kn hkn=>?_⟩
  obtain ⟨H2,z,s2,e2⟩:=lay (o:=.lst ((dfs g ls (J2 ls isN ls.length)).map V.int)) hkn
  rw [z];clear z
  refine ⟨(by show 0<=sizeLine;exact Nat.zero_le _),fun q hq=>?_⟩
  obtain ⟨H3,z,s3,e3⟩:=lay (o:=.lst []) hq
  rw [z];clear z
  have s03:=(s1.trans s2).trans s3
  have fk:H kn=none:=s1.free hkn
  have fq:H q=none:=(s1.trans s2).free hq
  have kq:kn≠q:=Zf e2 hq
  have hxl:=hL.len
  have e0:(dfs g ls (J2 ls isN ls.length))=dfs g ls (ZcU ls 0 (ls.length-0)):=by
   unfold J2 ZcU
   rw [List.range_eq_range',Nat.sub_zero]
  rw [e0] at e2
  refine ⟨_,rfl,l,rfl,⟨_,Zu.of (s03 _ _ hl)⟩,Uz (K:=K) (a:=l) (xs:=xs) (fun i σ G=>∃v4:Option V,σ = [some (.ref l),some (.int sc),some (.ref kn),some (.ref q),v4]/\Zh H G/\G kn=some (.lst ((dfs g ls (ZcU ls i (ls.length-i))).map V.int))/\G q=some (.lst (lhL g ls i))) ⟨_,rfl,s03,s3 _ _ e2,e3⟩ (fun i σ G _ ⟨_,_,s,_⟩=>Zu.of (s _ _ hl)) ?_ ?_⟩
  ·rintro i x σ G hx ⟨v4,rfl,sG,ek,eq⟩
   obtain ⟨pq,ta,hp,rfl,hta⟩:=(hL.same sG).get hx
   have hi:i<ls.length:=(List.getElem?_eq_some_iff.mp hp).1
   have kk:=ZbP hp (pr:=isN)
   have lq:(lhL g ls i).length=i:=by simp [lhL]
   have em:ls.length-i=(ls.length-(i+1))+1:=by lia
   have putq:∀{G':Hp}{o:HO},Zh H G'->Zh H (upd G' q o):=fun s c o e=>by rw [Zi (Zf e fq)];exact s c o e
   have putk:∀{G':Hp}{o:HO},Zh H G'->Zh H (upd G' kn o):=fun s c o e=>by rw [Zi (Zf e fk)];exact s c o e
   refine ⟨_,rfl,ta,_,_,_,rfl,rfl,JZ.of hta,Zp (j:=0) rfl,rfl,_,rfl,Y0 (fun hb=>?_) (fun hb=>?_)⟩
   ·have eb:pq.1 = "born" := by
     have:=of_decide_eq_true hb
     injection this
    have kf:isK ls isN i=false:=by rw [kk,eb];decide
    refine ⟨_,rfl,.inl ⟨rfl,_,Zu.of eq⟩,q,_,_,rfl,rfl,eq,(by rw [lq,sizeLine_eq];lia),?_⟩
    refine ⟨_,rfl,putq sG,?_,?_⟩
    ·rw [Zi kq,ek,em,Zc1,kf]
     rfl
    ·rw [Zb]
     unfold lhL
     rw [List.range_succ,List.map_append]
     show some (HO.lst (_ ++ [V.non]))=some (HO.lst (_ ++ [oI (hgA g ls i)]))
     have:hgA g ls i=none:=by unfold hgA;rw [kf];rfl
     rw [this]
     rfl
   ·have kt:isK ls isN i=true:=by
     rw [kk]
     unfold isN
     simp
     intro z
     rw [z] at hb
     exact hb (decide_eq_true rfl)
    have el:ZcU ls i (ls.length-i)=(i:Int)::ZcU ls (i+1) (ls.length-(i+1)):=by rw [em,Zc1,kt];rfl
    rw [el] at ek
    have ek':G kn=some (.lst (V.int (g (JA ls i).1-g (JA ls i).2)::(dfs g ls (ZcU ls (i+1) (ls.length-(i+1)))).map V.int)):=by
     rw [ek]
     unfold dfs
     rw [List.map_cons,List.map_cons]
     simp
    refine ⟨_,rfl,.inl ⟨rfl,_,Zu.of eq⟩,_,rfl,.inl ⟨rfl,_,Zu.of ek'⟩,kn,_,0,0,_,rfl,rfl,ek',by decide,by decide,seqIndex_of (by decide) (by simp),rfl,?_⟩
    have eq2:(upd G kn (.lst (((V.int (g (JA ls i).1-g (JA ls i).2))::(dfs g ls (ZcU ls (i+1) (ls.length-(i+1)))).map V.int).eraseIdx 0))) q=some (.lst (lhL g ls i)):=by rw [Zi (Ne.symm kq)];exact eq
    refine ⟨q,_,_,rfl,rfl,eq2,(by rw [lq,sizeLine_eq];lia),?_⟩
    refine ⟨_,rfl,putq (putk sG),?_,?_⟩
    ·rw [Zi kq,Zb]
     rfl
    ·rw [Zb]
     unfold lhL
     rw [List.range_succ,List.map_append]
     show some (HO.lst (_ ++ [V.int _]))=some (HO.lst (_ ++ [oI (hgA g ls i)]))
     have:hgA g ls i=some (g (JA ls i).1-g (JA ls i).2):=by unfold hgA;rw [kt];rfl
     rw [this]
     rfl
  ·rintro σ G ⟨v4,rfl,sG,ek,eq⟩
   rw [hxl] at eq
   exact ⟨_,rfl,k q G sG fq eq⟩
def Zcm:Sp:=fun vs H Q _=>∃i:Int,vs = [.int i]/\Q (.bl true) H
abbrev Zaw:Stmt:=top 1
theorem Zeo:ZH ["thing"] ["thing"] (Zl Zaw):={}
theorem ZfQ {f:Addr}{fd:FuncData} (F:Jl K "is_whole" "is_whole" Zaw f fd) (Yl:mg "isinstance" = none) (Wj:mg "int" = none) (ZfN:mg "bool" = none):Ys P w K mg base W3 1 f fd ["thing"] Zcm:=by
 refine F.ok Zeo (fun vs H Q E h=>?_) (fun cdv A outer s H vs Q E hr h=>?_)
 ·obtain ⟨i,rfl,_⟩:=h
  rfl
 ·obtain ⟨i,rfl,k⟩:=h
  refine ⟨_,(Zg (ZD (Ziu (ZE (WC (K:=K) rfl) (by rfl) Yl boot_isinstance (Za (pv 0) (Za (ZbT (v:=.ty "int") (by rfl) Wj boot_int rfl) Zc))) (ZiM (Zlu (ZE (WC (K:=K) rfl) (by rfl) Yl boot_isinstance (Za (pv 0) (Za (ZbT (v:=.ty "bool") (by rfl) ZfN boot_bool rfl) Zc)))))))),?_⟩
  refine ⟨_,rfl,_, "int", _,true,rfl,.int i,by rfl,true,rfl,Wh ?_⟩
  exact ⟨_,rfl,_, "bool", _,false,rfl,.int i,by rfl,false,rfl,k⟩
def Jc (n v:Nat):List V:=(ZfF n v).map V.int
theorem YZ (n v:Nat):(Jc n v).length=n:=by rw [Jc,List.length_map,Zh3]
theorem Gg {n v j:Nat} (h:j<n):(Jc n v)[j]? = some (V.int (((v.testBit j).toNat:Nat):Int)):=by rw [Jc,List.getElem?_map,Zkm h];rfl
theorem Wf {n v j:Nat}{x:V} (h:(Jc n v)[j]? = some x):j<n/\x=V.int (((v.testBit j).toNat:Nat):Int):=by
 have hj:j<n:=by
  have:=(List.getElem?_eq_some_iff.mp h).1
  rwa [YZ] at this
 rw [Gg hj] at h
 exact ⟨hj,(Option.some.inj h).symm⟩
theorem ZmX (v j:Nat):inV (.int (((v.testBit j).toNat:Nat):Int)) [V.int 0,V.int 1]=true:=by cases v.testBit j<;>rfl
def Zfi:Sp:=fun vs H Q _=>∃(a:Addr) (n v:Nat),vs = [.ref a,.int n]/\H a=some (.lst (Jc n v))/\n<=8 /\ ∀H',Zh H H'->Q (.bl true) H'
abbrev UW:Stmt:=top 7
theorem ZfX:ZH ["thing", "many"] ["thing", "many"] (Zl UW):={}
theorem ZgQ {f:Addr}{fd:FuncData} (F:Jl K "is_bits" "is_bits" UW f fd) (Zas:Jm P w K mg base 1 "is_whole" ["thing"] Zcm) (Yl:mg "isinstance" = none) (Yu:mg "list" = none) (Yi:mg "len" = none) (ZaF:mg "all" = none):Ys P w K mg base W3 2 f fd ["thing", "many"] Zfi:=by
 refine F.ok ZfX (fun vs H Q E h=>?_) (fun cdv A outer s H vs Q E hr h=>?_)
 ·obtain ⟨a,n,v,rfl,_⟩:=h
  rfl
 ·obtain ⟨a,n,v,rfl,ea,hn,k⟩:=h
  refine ⟨_,(Ze (ZU (PW.pt (Zad (Zbk (Zan (ZE (WC (K:=K) rfl) (by rfl) Yl boot_isinstance (Za (pv 0) (Za (ZbT (v:=.ty "list") (by rfl) Yu boot_list rfl) Zc))))) (Uq (Zr UO (ZE (Yj (K:=K) rfl) (by rfl) Yi PySem.boot_len (Za (pv 0) Zc)) (pv 1) (Zv _))))) (Zg (ZD ZaJ)) ZG)
   (Zg (ZD (ZE (Za6 (K:=K) rfl rfl) (by rfl) ZaF boot_all (Za (Gz (Ls:=["bit"]) (Fs:=[]) (fi:=[]) (ZR.of (show Ym ["thing", "many"] (Zl UW) _ [] []=true by decide +kernel)) rfl (Z8 (K:=K) rfl (pv 0)) (fun cl C s3 H3 ex=>⟨(Zk (i:=0) (show ((["bit"]:List Str)++([]:List Str)).Nodup by decide +kernel) rfl (Or.inl rfl)),Yh,(Ziu (Zz Zas hr (Za (pv 0) Zc)) (ZiM (Jr (ZfH (K:=K) rfl) (pv 0) (ZN (Za Zd (Za Zd Zc))) rfl)))⟩)) Zc))))),?_⟩
  have lr:=YZ n v
  refine ⟨_,rfl,_, "list", _,true,rfl,.lst ea,by rfl,true,rfl,Jq ?_⟩
  refine ⟨_,rfl,a,_,rfl,.inl (Zu.of ea),_,rfl,rfl,_,rfl,?_⟩
  rw [lr]
  refine Zgo rfl ?_
  refine ⟨_,rfl,a,rfl,⟨_,Zu.of ea⟩,Jg (K:=K) (xs:=Jc n v) (by rw [lr,sizeLine_eq];lia) (fun i zs G=>Zh H G/\zs=(List.replicate i true).map V.bl) ⟨Zh.refl _,rfl⟩
   (fun i zs G ⟨_,z⟩=>by rw [z];simp) (fun i zs G ⟨s',_⟩=>Zu.of (s' a _ ea)) ?_ ?_⟩
  ·rintro i x zs G hx ⟨s',rfl⟩
   obtain ⟨hi,rfl⟩:=Wf hx
   dsimp only [W0,Zcu]
   refine Wh ⟨_,rfl,_,rfl,true,rfl,Wh ?_⟩
   refine ⟨_,rfl,(by show 2<=sizeLine;decide),fun c hc=>?_⟩
   refine ⟨c,_,rfl,.inr (JZ.of Zb),rfl,rfl,s'.step hc,?_⟩
   rw [ZmX,List.replicate_succ',List.map_append]
   rfl
  ·rintro zs G ⟨s',rfl⟩ D hD
   refine ⟨D,_,rfl,Zu.of Zb,?_⟩
   rw [show (List.replicate (Jc n v).length true).all id=true by simp]
   exact k _ (s'.step hD)
def W4 (H:Hp) (a:Addr) (n:Nat) (T:Nat->Nat) (rs:List Addr):Prop:=H a=some (.lst (rs.map V.ref))/\rs.length=n /\ ∀r p,rs[r]? = some p->H p=some (.lst (Jc n (T r)))
theorem W4.same {H H':Hp}{a:Addr}{n:Nat}{T:Nat->Nat}{rs:List Addr} (s:Zh H H') (x:W4 H a n T rs):W4 H' a n T rs:=⟨s _ _ x.1,x.2.1,fun r p e=>s _ _ (x.2.2 r p e)⟩
theorem JB {rs:List Addr}{i:Nat}{x:V} (h:(rs.map V.ref)[i]? = some x):∃p,rs[i]? = some p/\x = .ref p:=by
 rw [List.getElem?_map] at h
 obtain ⟨p,e,rfl⟩:=Option.map_eq_some_iff.mp h
 exact ⟨p,e,rfl⟩
def Zeb:Sp:=fun vs H Q _=>∃(a:Addr) (n:Nat) (T:Nat->Nat) (rs:List Addr),vs = [.ref a]/\W4 H a n T rs/\n<=8 /\ ∀H',Zh H H'->Q (.bl true) H'
abbrev Gh:Stmt:=top 8
theorem ZdE:ZH ["thing"] ["thing"] (Zl Gh):={}
theorem Zeh {t1:Tok}{f:Addr}{fd:FuncData} (F:Jl K "has_shape" "has_shape" Gh f fd) (UA:mg "MOST_ROWS" = some (.int 8 t1)) (Zba:Jm P w K mg base 2 "is_bits" ["thing", "many"] Zfi) (Yl:mg "isinstance" = none) (Yu:mg "list" = none) (Yi:mg "len" = none) (ZaF:mg "all" = none):Ys P w K mg base W3 3 f fd ["thing"] Zeb:=by
 refine F.ok ZdE (fun vs H Q E h=>?_) (fun cdv A outer s H vs Q E hr h=>?_)
 ·obtain ⟨a,n,T,rs,rfl,_⟩:=h
  rfl
 ·obtain ⟨a,n,T,rs,rfl,tb,hn,k⟩:=h
  refine ⟨_,(Ze (ZU (PW.pt (Zad (Zbk (Zan (ZE (WC (K:=K) rfl) (by rfl) Yl boot_isinstance (Za (pv 0) (Za (ZbT (v:=.ty "list") (by rfl) Yu boot_list rfl) Zc))))) (Uq (Zr Uu (ZE (Yj (K:=K) rfl) (by rfl) Yi PySem.boot_len (Za (pv 0) Zc)) (ZkD (v:=.int 8) (by rfl) UA ⟨_,rfl⟩) (Zv _))))) (Zg (ZD ZaJ)) ZG)
   (Zg (ZD (ZE (Za6 (K:=K) rfl rfl) (by rfl) ZaF boot_all (Za (Gz (Ls:=["row"]) (Fs:=["thing"]) (fi:=[0]) (ZR.of (show Ym ["thing"] (Zl Gh) _ ["thing"] [0]=true by decide +kernel)) rfl (Z8 (K:=K) rfl (pv 0)) (fun cl C s3 H3 ex=>⟨(Zk (i:=0) (show ((["row"]:List Str)++(["thing"]:List Str)).Nodup by decide +kernel) rfl (Or.inl rfl)),Yh,(Zz Zba hr (Za (pv 0) (Za (ZE (Yj (K:=K) rfl) (by rfl) Yi PySem.boot_len (Za (pv 1) Zc)) Zc)))⟩)) Zc))))),?_⟩
  obtain ⟨ea,ln,er⟩:=id tb
  have lr:(rs.map V.ref).length=n:=by rw [List.length_map,ln]
  refine ⟨_,rfl,_, "list", _,true,rfl,.lst ea,by rfl,true,rfl,Jq ?_⟩
  refine ⟨_,rfl,a,_,rfl,.inl (Zu.of ea),_,_,rfl,rfl,_,rfl,?_⟩
  rw [lr,decide_eq_false (show ¬((8:Int)<(n:Int)) by lia)]
  refine Jq ?_
  refine ⟨_,rfl,a,rfl,⟨_,Zu.of ea⟩,Jg (K:=K) (xs:=rs.map V.ref) (by rw [lr,sizeLine_eq];lia) (fun i zs G=>Zh H G/\zs=(List.replicate i true).map V.bl) ⟨Zh.refl _,rfl⟩
   (fun i zs G ⟨_,z⟩=>by rw [z];simp) (fun i zs G ⟨s',_⟩=>Zu.of (s' a _ ea)) ?_ ?_⟩
  ·rintro i x zs G hx ⟨s',rfl⟩
   obtain ⟨p,hp,rfl⟩:=JB hx
   dsimp only [W0,Zcu]
   refine Wh ⟨_,rfl,_,rfl,a,_,rfl,.inl (Zu.of (s' a _ ea)),p,n,T i,(by rw [lr];rfl),s' _ _ (er i p hp),hn,fun G' s2=>⟨s'.trans s2,?_⟩⟩
   rw [List.replicate_succ',List.map_append]
   rfl
  ·rintro zs G ⟨s',rfl⟩ D hD
   refine ⟨D,_,rfl,Zu.of Zb,?_⟩
   rw [show (List.replicate (rs.map V.ref).length true).all id=true by simp]
   exact k _ (s'.step hD)
theorem Zil (xs:List V) (k:Nat):WQ xs none (some (k:Int))=xs.take k:=by
 unfold WQ
 rw [HT.Gw,HT.Gf,List.drop_zero,Nat.sub_zero,List.take_eq_take_iff]
 lia
def ZdC:Sp:=fun vs H Q _=>∃(a:Addr) (n v:Nat),vs = [.ref a]/\H a=some (.lst (Jc n v))/\n<=8/\v<2 ^ n /\ ∀H',Zh H H'->Q (.int v) H'
abbrev ZaX:Stmt:=top 9
theorem WU:ZH ["row", "mask", "j", "bit"] ["row"] (Zl ZaX):={}
theorem Zhu {f:Addr}{fd:FuncData} (F:Jl K "mask_of" "mask_of" ZaX f fd) (ZA:mg "enumerate" = none):Ys P w K mg base W3 1 f fd ["row"] ZdC:=by
 refine F.ok WU (fun vs H Q E h=>?_) (fun cdv A outer s H vs Q E hr h=>?_)
 ·obtain ⟨a,n,v,rfl,_⟩:=h
  rfl
 ·obtain ⟨a,n,v,rfl,ea,hn,hv,k⟩:=h
  refine ⟨_,(Ze (Zo (i:=1) WU.nd rfl (Or.inl rfl) Zd)
   (Ze (Yc PassesOwn.never rfl (JE (K:=K) rfl (by rfl) ZA (Za (pv 0) Zc)) (Ye (K:=K) (n:=2) rfl rfl (Zq (Zk (i:=2) WU.nd rfl (Or.inl rfl)) (Zq (Zk (i:=3) WU.nd rfl (Or.inl rfl)) Z6))) (Zg (Zfo (i:=1) WU.nd rfl (Or.inl rfl) (Zj ZiE (pv 3) (pv 2)) ZmM)))
   (Zg (ZD (pv 1))))),?_⟩
  have lr:=YZ n v
  refine ⟨_,rfl,a,rfl,⟨_,Zu.of ea⟩,WE (K:=K) (a:=a) (xs:=Jc n v) (fun i σ G=>∃v2 v3:Option V,σ = [some (.ref a),some (.int (Zb1 v i:Nat)),v2,v3]/\Zh H G) ⟨none,none,rfl,Zh.refl _⟩ (fun i σ G _ ⟨_,_,_,s'⟩=>Zu.of (s' a _ ea)) ?_ ?_⟩
  ·rintro i x p σ G hx ⟨v2,v3,rfl,s'⟩ hp
   obtain ⟨hi,rfl⟩:=Wf hx
   refine ⟨p,_,rfl,JZ.of Zb,rfl,_,_,rfl,_,_,rfl,rfl,?_⟩
   have cp:Zkc (((v.testBit i).toNat:Nat):Int) (i:Int):=⟨by lia,by lia,by cases v.testBit i<;>decide⟩
   refine ⟨_,rfl,_,rfl,_,rfl,_,_,rfl,rfl,cp,_,_,rfl,rfl,some (.int i),some (.int (((v.testBit i).toNat:Nat):Int)),?_,s'.step hp⟩
   have:=or8 i (by lia) (Zb1 v i) (ZiL v i) (v.testBit i).toNat (by cases v.testBit i<;>decide)
   show [some (V.ref a),some (V.int (Builtin.bitOr _ _)),_,_]=_
   rw [Int.toNat_natCast,this]
   rfl
  ·rintro σ G ⟨v2,v3,rfl,s'⟩
   rw [lr,Zhj hv]
   exact ⟨_,rfl,k G s'⟩
def ZdY:Sp:=fun vs H Q _=>∃v:Nat,vs = [.int v]/\v<256/\v≠0/\Q (.int (ZcW v:Nat)) H
abbrev Ui:Stmt:=top 10
theorem Zd1:ZH ["mask"] ["mask"] (Zl Ui):={}
theorem ZiC {f:Addr}{fd:FuncData} (F:Jl K "least_bit" "least_bit" Ui f fd):Ys P w K mg base W3 1 f fd ["mask"] ZdY:=by
 refine F.ok Zd1 (fun vs H Q E h=>?_) (fun cdv A outer s H vs Q E hr h=>?_)
 ·obtain ⟨v,rfl,_⟩:=h
  rfl
 ·obtain ⟨v,rfl,hv,hz,k⟩:=h
  refine ⟨_,(Zg (ZD (Zj Yr (ZgK (K:=K) rfl (ZiF PySem.F.plainAttrs_int PySem.F.slot_int_bit_length PySem.F.type_int_bit_length ZjU (Zj ZlW (pv 0) (Zbu Um (pv 0))))) Zd))),?_⟩
  refine ⟨_,rfl,_,rfl,_,rfl,_,_,rfl,rfl,rfl,_,rfl,rfl,_,_,rfl,rfl,?_⟩
  show Q (.int ((Builtin.Int.intBits (Builtin.bitAnd (v:Int) (-(v:Int))):Nat)-1:Int)) H
  rw [Zl7 v hv hz]
  exact k
def ZhU (n:Nat) (T:Nat->Nat):Prop:=∀r,r<n->T r<2 ^ n /\ ∀k,k<=r->(T r).testBit k=false
def Sqr (n:Nat) (T:Nat->Nat):Prop:=∀v,Zy T n (Zy T n v)=0
theorem ZiH {n v i:Nat} (h:∀k,k<=i->v.testBit k=false):inV (.int 1) ((Jc n v).take (i+1))=false:=by
 unfold inV
 rw [List.any_eq_false]
 intro x hx
 obtain ⟨j,hj,rfl⟩:=List.getElem_of_mem hx
 rw [List.length_take,YZ] at hj
 have e:((Jc n v).take (i+1))[j]? = some (V.int (((v.testBit j).toNat:Nat):Int)):=by rw [List.getElem?_take_of_lt (by lia),Gg (by lia)]
 have:=List.getElem?_eq_some_iff.mp e
 rw [this.2,h j (by lia)]
 decide
def ZfZ:Sp:=fun vs H Q _=>∃(a:Addr) (n:Nat) (T:Nat->Nat) (rs:List Addr),vs = [.ref a]/\W4 H a n T rs/\n<=8/\ZhU n T /\ ∀H',Zh H H'->Q (.bl true) H'
abbrev U5:Stmt:=top 11
theorem Zfz:ZH ["table"] ["table"] (Zl U5):={}
theorem Zjy {f:Addr}{fd:FuncData} (F:Jl K "is_high" "is_high" U5 f fd) (ZaF:mg "all" = none) (ZA:mg "enumerate" = none):Ys P w K mg base W3 1 f fd ["table"] ZfZ:=by
 refine F.ok Zfz (fun vs H Q E h=>?_) (fun cdv A outer s H vs Q E hr h=>?_)
 ·obtain ⟨a,n,T,rs,rfl,_⟩:=h
  rfl
 ·obtain ⟨a,n,T,rs,rfl,tb,hn,hi,k⟩:=h
  refine ⟨_,(Zg (ZD (ZE (Za6 (K:=K) rfl rfl) (by rfl) ZaF boot_all (Za (Gz (Ls:=["i", "row"]) (Fs:=[]) (fi:=[]) (ZR.of (show Ym ["table"] (Zl U5) _ [] []=true by decide +kernel)) rfl (JE (K:=K) rfl (by rfl) ZA (Za (pv 0) Zc)) (fun cl C s3 H3 ex=>⟨(Ye (K:=K) (n:=2) rfl rfl (Zq (Zk (i:=0) (show ((["i", "row"]:List Str)++([]:List Str)).Nodup by decide +kernel) rfl (Or.inl rfl)) (Zq (Zk (i:=1) (show ((["i", "row"]:List Str)++([]:List Str)).Nodup by decide +kernel) rfl (Or.inl rfl)) Z6))),Yh,(Jr (Wa (K:=K) rfl) Zd (YB (YD (K:=K) rfl) (pv 1) JJ (YE (Zj Zw (pv 0) Zd))) rfl)⟩)) Zc)))),?_⟩
  obtain ⟨ea,ln,er⟩:=id tb
  have lr:(rs.map V.ref).length=n:=by rw [List.length_map,ln]
  refine ⟨_,rfl,a,rfl,⟨_,Zu.of ea⟩,ZlL (K:=K) (xs:=rs.map V.ref) (by rw [lr,sizeLine_eq];lia) (fun i zs G=>Zh H G/\zs=(List.replicate i true).map V.bl) ⟨Zh.refl _,rfl⟩ (fun i zs G ⟨_,z⟩=>by rw [z];simp) (fun i zs G ⟨s',_⟩=>Zu.of (s' _ _ ea)) ?_ ?_⟩
  ·rintro i x p zs G hx ⟨s',rfl⟩ hp
   obtain ⟨q,hq,rfl⟩:=JB hx
   have hin:i<n:=by rw [<- ln];exact (List.getElem?_eq_some_iff.mp hq).1
   have s1:=s'.step (o:=.tup [.int i,.ref q]) hp
   refine ⟨p,_,rfl,JZ.of Zb,rfl,_,_,rfl,_,_,rfl,rfl,?_⟩
   refine lcT ⟨_,rfl,_,rfl,_,_,rfl,rfl,_,rfl,q,_,rfl,Zu.of (s1 _ _ (er i q hq)),fun c hc=>?_⟩
   have e1:WQ (Jc n (T i)) none (some ((i:Int)+1))=(Jc n (T i)).take (i+1):=by
    rw [show (i:Int)+1=((i+1:Nat):Int) by lia,Zil]
   rw [e1]
   refine ⟨c,_,rfl,.inl (Zu.of Zb),rfl,?_,s1.step hc,?_⟩
   ·rw [List.all_eq_true]
    intro x hx
    have:=List.mem_of_mem_take hx
    obtain ⟨z,_,rfl⟩:=List.mem_map.mp this
    rfl
   ·rw [ZiH (hi i hin).2,List.replicate_succ',List.map_append]
    rfl
  ·rintro zs G ⟨s',rfl⟩ D hD
   refine ⟨D,_,rfl,Zu.of Zb,?_⟩
   rw [show (List.replicate (rs.map V.ref).length true).all id=true by simp]
   exact k _ (s'.step hD)
def Zb9:Sp:=fun vs H Q _=>∃(a:Addr) (n:Nat) (T:Nat->Nat) (rs:List Addr),vs = [.ref a]/\W4 H a n T rs/\n<=8/\ZhU n T/\Sqr n T /\ ∀H',Zh H H'->Q (.bl true) H'
abbrev Ge:Stmt:=top 12
theorem Ja:ZH ["table", "masks", "row", "product", "bit", "mask"] ["table"] (Zl Ge):={}
theorem Zg4 {f:Addr}{fd:FuncData} (F:Jl K "is_square" "is_square" Ge f fd) (WI:Jm P w K mg base 1 "mask_of" ["row"] ZdC) (ZaE:mg "zip" = none):Ys P w K mg base W3 2 f fd ["table"] Zb9:=by
 refine F.ok Ja (fun vs H Q E h=>?_) (fun cdv A outer s H vs Q E hr h=>?_)
 ·obtain ⟨a,n,T,rs,rfl,_⟩:=h
  rfl
 ·obtain ⟨a,n,T,rs,rfl,tb,hn,hi,sq,k⟩:=h
  refine ⟨_,(Ze (GZ (i:=1) Ja.nd rfl (Or.inl rfl) (Ls:=["row"]) (Fs:=[]) (fi:=[]) (ZR.of (show Ym ["table", "masks", "row", "product", "bit", "mask"] (Zl Ge) _ [] []=true by decide +kernel)) rfl (Z8 (K:=K) rfl (pv 0)) (fun cl C s3 H3 ex=>⟨(Zk (i:=0) (show ((["row"]:List Str)++([]:List Str)).Nodup by decide +kernel) rfl (Or.inl rfl)),Yh,(Zz WI hr (Za (pv 0) Zc))⟩))
   (Ze (Yc PassesOwn.never rfl (Z8 (K:=K) rfl (pv 0)) (Zk (i:=2) Ja.nd rfl (Or.inl rfl)) (Ze (Zo (i:=3) Ja.nd rfl (Or.inl rfl) Zd)
   (Ze (Yc PassesOwn.never rfl (Zdv (K:=K) rfl (by rfl) ZaE (Za (pv 2) (Za (pv 1) Zc))) (Ye (K:=K) (n:=2) rfl rfl (Zq (Zk (i:=4) Ja.nd rfl (Or.inl rfl)) (Zq (Zk (i:=5) Ja.nd rfl (Or.inl rfl)) Z6))) (Zg (Zfo (i:=3) Ja.nd rfl (Or.inl rfl) (Zh6 (Za4 (K:=K) rfl (Zcl (pv 4) (fun _=>rfl))) (pv 5) Zd) Zd7)))
   (Zg (ZU (Zr UO (pv 3) Zd (Zv _)) (Zg (ZD ZaJ)) ZG)))))
   (Zg (ZD ZaJ)))),?_⟩
  obtain ⟨ea,ln,er⟩:=id tb
  have lr:(rs.map V.ref).length=n:=by rw [List.length_map,ln]
  obtain ⟨ms,hms⟩:∃ms:Nat->List V,ms=fun i=>(List.range i).map fun r=>V.int (T r):=⟨_,rfl⟩
  refine ⟨_,rfl,a,rfl,⟨_,Zu.of ea⟩,Jg (K:=K) (xs:=rs.map V.ref) (by rw [lr,sizeLine_eq];lia) (fun i zs G=>Zh H G/\zs=ms i) ⟨Zh.refl _,by rw [hms];rfl⟩ (fun i zs G ⟨_,z⟩=>by rw [z,hms];simp) (fun i zs G ⟨s',_⟩=>Zu.of (s' _ _ ea)) ?_ ?_⟩
  ·rintro i x zs G hx ⟨s',rfl⟩
   obtain ⟨q,hq,rfl⟩:=JB hx
   have hin:i<n:=by rw [<- ln];exact (List.getElem?_eq_some_iff.mp hq).1
   refine lcG ⟨_,rfl,q,n,T i,rfl,s' _ _ (er i q hq),hn,(hi i hin).1,fun G' s2=>⟨s'.trans s2,?_⟩⟩
   rw [hms]
   simp [List.range_succ]
  rintro zs G ⟨s',rfl⟩ D hD
  rw [lr]
  have eD:upd G D (.lst (ms n)) D=some (.lst (ms n)):=Zb
  have sG:Zh H (upd G D (.lst (ms n))):=s'.step hD
  generalize upd G D (.lst (ms n))=G1 at *
  have lm:(ms n).length=n:=by rw [hms];simp
  have ma:∀{j:Nat}{y:V},(ms n)[j]? = some y->j<n/\y=V.int (T j):=fun {j y} h=>by
   have hj:j<n:=by
    have:=(List.getElem?_eq_some_iff.mp h).1
    rwa [lm] at this
   rw [hms] at h
   simp [hj] at h
   exact ⟨hj,h.symm⟩
  refine ⟨_,rfl,a,rfl,⟨_,Zu.of (sG _ _ ea)⟩,Uz (K:=K) (a:=a) (xs:=rs.map V.ref) (fun i σ G'=>∃v2 v3 v4 v5:Option V,σ = [some (.ref a),some (.ref D),v2,v3,v4,v5]/\Zh G1 G') ⟨none,none,none,none,rfl,Zh.refl _⟩ (fun i σ G' _ ⟨_,_,_,_,_,s2⟩=>Zu.of (s2 _ _ (sG _ _ ea))) ?_ ?_⟩
  ·rintro i x σ G2 hx ⟨v2,v3,v4,v5,rfl,s2⟩
   obtain ⟨q,hq,rfl⟩:=JB hx
   have hin:i<n:=by rw [<- ln];exact (List.getElem?_eq_some_iff.mp hq).1
   have eq2:=s2 _ _ (sG _ _ (er i q hq))
   have eD2:=s2 _ _ eD
   refine ⟨_,rfl,_,rfl,q,D,rfl,⟨_,Zu.of eq2⟩,⟨_,Zu.of eD2⟩,Zgu (K:=K) (a:=q) (b:=D) (xs:=Jc n (T i)) (ys:=ms n) (by rw [YZ,lm]) (fun j σ G'=>∃v4 v5:Option V,σ = [some (.ref a),some (.ref D),some (.ref q),some (.int (Zy T j (T i):Nat)),v4,v5]/\Zh G2 G') ⟨_,_,rfl,Zh.refl _⟩ (fun j σ G' ⟨_,_,_,s3⟩=>⟨Zu.of (s3 _ _ eq2),Zu.of (s3 _ _ eD2)⟩) ?_ ?_⟩
   ·rintro j x y p σ G3 hx hy ⟨v4,v5,rfl,s3⟩ hp
    obtain ⟨hj,rfl⟩:=Wf hx
    obtain ⟨_,rfl⟩:=ma hy
    refine ⟨p,_,rfl,JZ.of Zb,rfl,_,_,rfl,_,_,rfl,rfl,?_⟩
    have e1:Zy T (j+1) (T i)=Zy T j (T i) ^^^ (if (T i).testBit j=true then T j else 0):=Nat.xor_comm _ _
    refine ⟨_,rfl,_,rfl,_,rfl,?_⟩
    cases hb:(T i).testBit j with
    | true=>
     rw [hb,if_pos rfl] at e1
     refine Wh ⟨_,rfl,_,_,rfl,rfl,some (.int ((true.toNat:Nat):Int)),some (.int (T j)),?_,s3.step hp⟩
     show [_,_,_,some (V.int (Builtin.bitXor _ _)),_,_]=_
     rw [ZiB,<- e1]
    | false=>
     rw [hb,if_neg Bool.false_ne_true] at e1
     refine Jq ⟨_,_,rfl,rfl,some (.int ((false.toNat:Nat):Int)),some (.int (T j)),?_,s3.step hp⟩
     show [_,_,_,some (V.int (Builtin.bitXor _ ((0:Nat):Int))),_,_]=_
     rw [ZiB,<- e1]
   ·rintro σ G3 ⟨v4,v5,rfl,s3⟩
    have z:Zy T n (T i)=0:=by
     have:=sq (2 ^ i)
     rwa [YJ T n i hin] at this
    rw [YZ,z]
    refine ⟨_,rfl,rfl,_,rfl,Zgo rfl ?_⟩
    exact ⟨_,_,_,_,rfl,s2.trans s3⟩
  ·rintro σ G2 ⟨v2,v3,v4,v5,rfl,s2⟩
   exact k _ (sG.trans s2)
theorem ZlG (xs:List V):WQ xs (some 1) none=xs.drop 1:=by
 unfold WQ
 rw [HT.Gw,show (1:Int)=((1:Nat):Int) from rfl,HT.Gf]
 cases xs with
 | nil=>rfl
 | cons x xs=>simp
def ZdR:Stmt->List Stmt
 | .ClassDef _ _ _ body ..=>body
 | _=>[]
def oV:Option Nat->V
 | none=>.non
 | some q=>.int (q:Int)
def sL (n:Nat) (S:Nat->Nat):List V:=(List.range n).map fun r=>V.int (S r:Nat)
def pL (n:Nat) (p:Nat->Option Nat):List V:=(List.range n).map fun r=>oV (p r)
theorem Za1 (n:Nat) (S:Nat->Nat):(sL n S).length=n:=by simp [sL]
theorem Us (n:Nat) (p:Nat->Option Nat):(pL n p).length=n:=by simp [pL]
theorem Zcx {n r:Nat} (S:Nat->Nat) (h:r<n):(sL n S)[r]? = some (V.int (S r:Nat)):=by simp [sL,h]
theorem ZgM {n r:Nat} (p:Nat->Option Nat) (h:r<n):(pL n p)[r]? = some (oV (p r)):=by simp [pL,h]
theorem Zmf {n i:Nat} (S:Nat->Nat) (v:Nat):(sL n S).set i (V.int (v:Nat))=sL n (YV S i v):=by
 refine List.ext_getElem? fun r=>?_
 by_cases hr:r<n
 ·rw [Zcx _ hr]
  by_cases e:r=i
  ·subst e
   rw [List.getElem?_set_self (by rw [Za1];exact hr),Yk]
  ·rw [List.getElem?_set_ne (Ne.symm e),Zcx _ hr,ZJ _ _ e]
 ·rw [List.getElem?_eq_none (by rw [List.length_set,Za1];lia),List.getElem?_eq_none (by rw [Za1];lia)]
theorem Zls {n i:Nat} (p:Nat->Option Nat) (v:Option Nat):(pL n p).set i (oV v)=pL n (YV p i v):=by
 refine List.ext_getElem? fun r=>?_
 by_cases hr:r<n
 ·rw [ZgM _ hr]
  by_cases e:r=i
  ·subst e
   rw [List.getElem?_set_self (by rw [Us];exact hr),Yk]
  ·rw [List.getElem?_set_ne (Ne.symm e),ZgM _ hr,ZJ _ _ e]
 ·rw [List.getElem?_eq_none (by rw [List.length_set,Us];lia),List.getElem?_eq_none (by rw [Us];lia)]
theorem Zih {n:Nat}{S S':Nat->Nat} (h:∀r,r<n->S r=S' r):sL n S=sL n S':=List.map_congr_left fun r hr=>by rw [h r (List.mem_range.mp hr)]
def Wd (a b:Addr) (H H':Hp):Prop:=∀c o,H c=some o->c≠a->c≠b->H' c=some o
theorem Wd.refl {a b:Addr}{H:Hp}:Wd a b H H:=fun _ _ e _ _=>e
theorem Wd.trans {a b:Addr}{H H1 H2:Hp} (x:Wd a b H H1) (y:Wd a b H1 H2):Wd a b H H2:=fun c o e h1 h2=>y c o (x c o e h1 h2) h1 h2
theorem Wd.of {a b:Addr}{H H':Hp} (s:Zh H H'):Wd a b H H':=fun c o e _ _=>s c o e
theorem Wd.a {a b:Addr}{H:Hp}{o:HO}:Wd a b H (upd H a o):=fun c u e h1 _=>by rw [Zi h1];exact e
theorem Wd.b {a b:Addr}{H:Hp}{o:HO}:Wd a b H (upd H b o):=fun c u e _ h2=>by rw [Zi h2];exact e
structure PO (H:Hp) (C x dx pa sa:Addr) (n:Nat) (S:Nat->Nat) (p:Nat->Option Nat):Prop where
 self:H x=some (.ins C dx [("partner", .ref pa),("slid", .ref sa)])
 pp:H pa=some (.lst (pL n p))
 ss:H sa=some (.lst (sL n S))
 ne:pa≠sa
theorem PO.xp {H:Hp}{C x dx pa sa:Addr}{n:Nat}{S:Nat->Nat}{p:Nat->Option Nat} (o:PO H C x dx pa sa n S p):x≠pa/\x≠sa:=⟨(fun z=>by have:=o.self;rw [z,o.pp] at this;cases this),(fun z=>by have:=o.self;rw [z,o.ss] at this;cases this)⟩
theorem PO.same {H H':Hp}{C x dx pa sa:Addr}{n:Nat}{S:Nat->Nat}{p:Nat->Option Nat} (s:Zh H H') (o:PO H C x dx pa sa n S p):PO H' C x dx pa sa n S p:=⟨s _ _ o.self,s _ _ o.pp,s _ _ o.ss,o.ne⟩
theorem PO.putS {H:Hp}{C x dx pa sa:Addr}{n:Nat}{S:Nat->Nat}{p:Nat->Option Nat} (o:PO H C x dx pa sa n S p) (i v:Nat):PO (upd H sa (.lst ((sL n S).set i (V.int (v:Nat))))) C x dx pa sa n (YV S i v) p:=
 ⟨by rw [Zi o.xp.2];exact o.self,by rw [Zi o.ne];exact o.pp,by rw [Zmf];exact Zb,o.ne⟩
theorem PO.putP {H:Hp}{C x dx pa sa:Addr}{n:Nat}{S:Nat->Nat}{p:Nat->Option Nat} (o:PO H C x dx pa sa n S p) (i:Nat) (v:Option Nat):PO (upd H pa (.lst ((pL n p).set i (oV v)))) C x dx pa sa n S (YV p i v):=
 ⟨by rw [Zi o.xp.1];exact o.self,by rw [Zls];exact Zb,by rw [Zi (Ne.symm o.ne)];exact o.ss,o.ne⟩
theorem PO.congr {H:Hp}{C x dx pa sa:Addr}{n:Nat}{S S':Nat->Nat}{p:Nat->Option Nat} (o:PO H C x dx pa sa n S p) (h:∀r,r<n->S r=S' r):PO H C x dx pa sa n S' p:=⟨o.self,o.pp,by rw [<- Zih h];exact o.ss,o.ne⟩
def nL (l:List Nat):List V:=l.map fun j=>V.int (j:Nat)
def Zd3 (C:Addr):Sp:=fun vs H Q _=>∃(x dx pa sa la:Addr) (n i f:Nat) (ls:List Nat) (S:Nat->Nat) (p:Nat->Option Nat),vs = [.ref x,.int (i:Nat),.ref la]/\PO H C x dx pa sa n S p/\H la=some (.lst (nL (f::ls)))/\n<=8/\ls.length<=8/\i<n/\f<n/\(∀l∈ls,f<l/\l<n)/\la≠pa/\la≠sa /\
 ∀H',Wd pa sa H H'->PO H' C x dx pa sa n (YV S f (S f ^^^ Jn (ls.map S))) (YV (YV p i (some f)) f (some i))->Q .non H'
abbrev WM:Stmt:=(ZdR (top 13)).getD 2 (.Pass ⟨0,0,0,0⟩)
theorem Wr:ZH ["self", "i", "lone", "first", "j"] ["self", "i", "lone"] (Zl WM):={}
theorem ZhV {C:Addr}{f:Addr}{fd:FuncData} (F:Jl K "pair" "Pairing.pair" WM f fd) (cl:Cls K C) (n1:Jz K C "partner") (n2:Jz K C "slid"):Ys P w K mg base W3 1 f fd ["self", "i", "lone"] (Zd3 C):=by
 refine F.ok Wr (fun vs H Q E h=>?_) (fun cdv A outer s H vs Q E hr h=>?_)
 ·obtain ⟨x,dx,pa,sa,la,n,i,f,ls,S,p,rfl,_⟩:=h
  rfl
 ·obtain ⟨x,dx,pa,sa,la,n,i,f,ls,S,p,rfl,po,el,hn,l8,hi,hf,hl,nlp,nls,k⟩:=h
  refine ⟨_,(Ze (Zo (i:=3) Wr.nd rfl (Or.inl rfl) (Zx (Zm (K:=K) rfl) (pv 2) Zd (fun _ _=>rfl)))
   (Ze (Yc PassesOwn.never rfl (Z8 (K:=K) rfl (YB (YD (K:=K) rfl) (pv 2) (YE Zd) JJ)) (Zk (i:=4) Wr.nd rfl (Or.inl rfl)) (Zg (Zgs (JY (K:=K) rfl (W6 (pv 0) rfl)) (pv 3) (Zde (K:=K) rfl) (Zx (Zm (K:=K) rfl) (JY (K:=K) rfl (W6 (pv 0) rfl)) (pv 4) (fun _ _=>rfl)) Zd7 set_list)))
   (Ze (Yv (pv 3) (YC (JY (K:=K) rfl (W6 (pv 0) rfl)) (pv 1) set_list))
   (Zg (Yv (pv 1) (YC (JY (K:=K) rfl (W6 (pv 0) rfl)) (pv 3) set_list)))))),?_⟩
  refine ⟨_,rfl,la,_,_,_,rfl,rfl,Zu.of el,Zp (j:=0) rfl,?_⟩
  refine ⟨_,rfl,_,rfl,la,_,rfl,Zu.of el,fun c hc=>?_⟩
  have ecut:WQ (nL (f::ls)) (some 1) none=nL ls:=by rw [ZlG];rfl
  rw [ecut]
  have s1:Zh H (upd H c (.lst (nL ls))):=Zh.laid hc
  have ec:upd H c (.lst (nL ls)) c=some (.lst (nL ls)):=Zb
  have ncp:c≠pa:=fun z=>by rw [z,po.pp] at hc;cases hc
  have ncs:c≠sa:=fun z=>by rw [z,po.ss] at hc;cases hc
  have po1:=po.same s1
  generalize upd H c (.lst (nL ls))=H1 at *
  refine ⟨c,rfl,⟨_,Zu.of ec⟩,Uz (K:=K) (a:=c) (xs:=nL ls) (fun j σ G=>∃v4:Option V,σ = [some (.ref x),some (.int (i:Nat)),some (.ref la),some (.int (f:Nat)),v4]/\Wd pa sa H1 G/\PO G C x dx pa sa n (YV S f (S f ^^^ Jn ((ls.take j).map S))) p) ⟨none,rfl,Wd.refl,po1.congr fun r _=>?_⟩ (fun j σ G _ ⟨_,_,fr,_⟩=>Zu.of (fr c _ ec ncp ncs)) ?_ ?_⟩
  ·by_cases e:r=f
   ·rw [e,Yk];simp [Jn]
   ·rw [ZJ _ _ e]
  ·rintro j y σ G hy ⟨v4,rfl,fr,pg⟩
   obtain ⟨l,hj,rfl⟩:∃l:Nat,ls[j]? = some l/\y=V.int (l:Nat):=by
    unfold nL at hy
    rw [List.getElem?_map] at hy
    obtain ⟨l,e,rfl⟩:=Option.map_eq_some_iff.mp hy
    exact ⟨l,e,rfl⟩
   obtain ⟨h1,h2⟩:=hl l (List.mem_of_getElem? hj)
   refine ⟨_,rfl,x,C,dx,_,_,rfl,pg.self,cl,n2,rfl,_,rfl,sa,_,f,_,rfl,rfl,Zu.of pg.ss,Zcx _ hf,?_⟩
   refine ⟨_,rfl,x,C,dx,_,_,rfl,pg.self,cl,n2,rfl,_,rfl,sa,_,_,_,rfl,rfl,Zu.of pg.ss,Zp (Zcx _ h2),_,_,rfl,rfl,?_⟩
   refine ⟨sa,_,_,f,rfl,rfl,pg.ss,YT (by rw [Za1];exact hf),_,rfl,fr.trans Wd.b,?_⟩
   have e1:Builtin.bitXor ((YV S f (S f ^^^ Jn ((ls.take j).map S)) f:Nat):Int) ((YV S f (S f ^^^ Jn ((ls.take j).map S)) l:Nat):Int)=((S f ^^^ Jn ((ls.take (j+1)).map S):Nat):Int):=by
    rw [ZiB,Yk,ZJ _ _ (by lia),List.take_add_one,hj,List.map_append,ZcJ,<- Nat.xor_assoc]
    simp [Jn]
   show PO (upd G sa (.lst ((sL n _).set f (V.int (Builtin.bitXor _ _))))) C x dx pa sa n _ p
   rw [e1]
   refine (pg.putS f _).congr fun r _=>?_
   by_cases e:r=f
   ·rw [e,Yk,Yk]
   ·rw [ZJ _ _ e,ZJ _ _ e,ZJ _ _ e]
  ·rintro σ G ⟨v4,rfl,fr,pg⟩
   have elen:(nL ls).length=ls.length:=by simp [nL]
   rw [elen,List.take_length] at pg
   refine ⟨_,rfl,_,rfl,x,C,dx,_,_,rfl,pg.self,cl,n1,rfl,_,rfl,pa,_,_,i,rfl,rfl,pg.pp,YT (by rw [Us];exact hi),?_⟩
   have p2:=pg.putP i (some f)
   refine ⟨_,rfl,_,rfl,x,C,dx,_,_,rfl,p2.self,cl,n1,rfl,_,rfl,pa,_,_,f,rfl,rfl,p2.pp,YT (by rw [Us];exact hf),?_⟩
   exact k _ ((((Wd.of s1).trans fr).trans Wd.a).trans Wd.a) (p2.putP f (some i))
theorem Zdz (n:Nat):∀(l:List Nat) (i:Nat),l.Pairwise (· < ·)->(∀x∈l,i<=x/\x<n)->i<=n->l.length+i<=n
 | [],i,_,_,h=>by simpa using h
 | a::l,i,p,h,_=>by
  obtain ⟨h1,h2⟩:=h a List.mem_cons_self
  have:=Zdz n l (a+1) (List.pairwise_cons.mp p).2 (fun x hx=>⟨(List.pairwise_cons.mp p).1 x hx,(h x (List.mem_cons_of_mem _ hx)).2⟩) h2
  rw [List.length_cons]
  lia
def ZdZ (C:Addr):Sp:=fun vs H Q _=>∃(x dx pa sa:Addr) (n i:Nat) (T S:Nat->Nat) (p:Nat->Option Nat),vs = [.ref x,.int (i:Nat),.int (T i:Nat)]/\PO H C x dx pa sa n S p/\n<=8/\i<n/\ZhU n T/\Sqr n T/\Up T n (i+1) S p/\S i=2 ^ i/\p i=none /\
 ∀(H':Hp) (S':Nat->Nat) (p':Nat->Option Nat),Wd pa sa H H'->PO H' C x dx pa sa n S' p'->Up T n i S' p'->(∀r,r<i->S' r=S r/\p' r=p r)->Q .non H'
def muR:List (Option V)->Hp->Nat:=fun σ _=>match σ[2]? with
 | some (some (V.int r))=>if r.toNat=0 then 0 else 9-ZcW r.toNat
 | _=>0
theorem ZiD {n:Nat}{rest rest' j:Nat}{x x' i i' l l' v v':Option V}{H H':Hp} (hb:rest<256) (hb':rest'<256) (z:rest≠0) (hj:ZcW rest=j) (jn:j<8) (cl:∀k,k<=j->rest'.testBit k=false):muR [x',i',some (.int (rest':Nat)),l',v'] H'<muR [x,i,some (.int (rest:Nat)),l,v] H:=by
 show (if ((rest':Nat):Int).toNat=0 then 0 else 9-ZcW ((rest':Nat):Int).toNat)<(if ((rest:Nat):Int).toNat=0 then 0 else 9-ZcW ((rest:Nat):Int).toNat)
 rw [Int.toNat_natCast,Int.toNat_natCast,if_neg z,hj]
 split
 ·lia
 ·rename_i z'
  have:=(Zk8 hb' z').from cl
  lia
abbrev WO:Stmt:=(ZdR (top 13)).getD 1 (.Pass ⟨0,0,0,0⟩)
theorem JK:ZH ["self", "i", "rest", "lone", "j"] ["self", "i", "rest"] (Zl WO):={}
theorem Zjm {C:Addr}{f:Addr}{fd:FuncData} (F:Jl K "take" "Pairing.take" WO f fd) (c_way:Cls K C) (n1:Jz K C "partner") (n2:Jz K C "slid") (UD:Jm P w K mg base 1 "least_bit" ["mask"] ZdY) (Zfp:ZgS P w K mg base 1 C "pair" ["self", "i", "lone"] (Zd3 C)):Ys P w K mg base W3 2 f fd ["self", "i", "rest"] (ZdZ C):=by
 refine F.ok JK (fun vs H Q E h=>?_) (fun cdv A outer s H vs Q E hr h=>?_)
 ·obtain ⟨x,dx,pa,sa,n,i,T,S,p,rfl,_⟩:=h
  rfl
 ·obtain ⟨x,dx,pa,sa,n,i,T,S,p,rfl,po,hn,hi,hh,sq,up,hS,hp0,k⟩:=h
  refine ⟨_,(Ze (Zo (i:=3) JK.nd rfl (Or.inl rfl) (ZY Zc))
   (Ze (Uj PassesOwn.never (Za4 (K:=K) rfl (Zcl (pv 2) (fun _=>rfl))) (Ze (Zo (i:=4) JK.nd rfl (Or.inl rfl) (Zz UD hr (Za (pv 2) Zc)))
   (Ze (Zfo (i:=2) JK.nd rfl (Or.inl rfl) (Zx (Zm (K:=K) rfl) (JY (K:=K) rfl (W6 (pv 0) rfl)) (pv 4) (fun _ _=>rfl)) Zd7)
   (Zg (ZU (Zr Zi0 (Zx (Zm (K:=K) rfl) (JY (K:=K) rfl (W6 (pv 0) rfl)) (pv 4) (fun _ _=>rfl)) Gm (Zv _)) (Zg (Yq (Yt (K:=K) rfl (Jk PySem.F.plainAttrs_list PySem.F.slot_list_append PySem.F.type_list_append Yo (pv 3) (Za (pv 4) Zc))))) (Zg (Zgs (JY (K:=K) rfl (W6 (pv 0) rfl)) (pv 1) (Zde (K:=K) rfl) (Zx (Zm (K:=K) rfl) (JY (K:=K) rfl (W6 (pv 0) rfl)) (Zx (Zm (K:=K) rfl) (JY (K:=K) rfl (W6 (pv 0) rfl)) (pv 4) (fun _ _=>rfl)) (fun _ _=>rfl)) Zd7 set_list)))))))
   (Zg (ZU (Za4 (K:=K) rfl (Zcl (pv 3) (fun _=>rfl))) (Zg (Yq (Zf4 Zfp c_way (hr.mono (by decide)) (pv 0) (Za (pv 1) (Za (pv 3) Zc))))) ZG)))),?_⟩
  have p8:2 ^ n<=256:=(Nat.pow_le_pow_right (by decide) hn:2 ^ n<=2 ^ 8)
  refine ⟨(by show 0<=sizeLine;decide),fun la hla=>?_⟩
  have nlp:la≠pa:=fun z=>by rw [z,po.pp] at hla;cases hla
  have nls:la≠sa:=fun z=>by rw [z,po.ss] at hla;cases hla
  have nlx:x≠la:=fun z=>by rw [<- z,po.self] at hla;cases hla
  have st0:=Tk.start up hi (hh i hi).1 (hh i hi).2
  dsimp only [W0,Zju]
  refine ZcG (fun σ G=>∃(rest a:Nat) (lone:List Nat) (v4:Option V),σ = [some (.ref x),some (.int (i:Nat)),some (.int (rest:Nat)),some (.ref la),v4]/\Wd pa sa H G/\PO G C x dx pa sa n (YV S i a) p/\Tk T n i S p rest a lone/\G la=some (.lst (nL lone))) muR ?_ ?_ ?_
  ·refine ⟨T i,2 ^ i,[],none,rfl,Wd.of (Zh.laid hla),(po.same (Zh.laid hla)).congr (fun r _=>?_),st0,Zb⟩
   by_cases e:r=i
   ·rw [e,Yk,hS]
   ·rw [ZJ _ _ e]
  ·rintro σ G ⟨rest,a,lone,v4,rfl,fr,pg,tk,el⟩
   have b256:rest<256:=Nat.lt_of_lt_of_le tk.br p8
   refine ⟨_,rfl,_,rfl,?_⟩
   by_cases z:rest=0
   ·subst z
    refine Jq ?_
    refine ⟨_,rfl,_,.inl ⟨_,Zu.of el,rfl⟩,?_⟩
    cases lone with
    | nil=>
     refine Jq ?_
     exact k G _ p fr pg (tk.done hp0) fun r hr=>⟨ZJ _ _ (by lia),rfl⟩
    | cons g ls=>
     refine Wh ?_
     have as:=List.pairwise_cons.mp tk.as
     have ll:ls.length<=8:=by
      have:=Zdz n _ 0 tk.as (fun y hy=>⟨Nat.zero_le _,(tk.ln y hy).2.1⟩) (Nat.zero_le _)
      rw [List.length_cons] at this
      lia
     obtain ⟨g1,g2,g3⟩:=tk.ln g List.mem_cons_self
     have lsx:∀l∈ls,g<l/\l<n:=fun l hl=>⟨as.1 l hl,(tk.ln l (List.mem_cons_of_mem _ hl)).2.1⟩
     refine ⟨_,rfl,x,dx,_,rfl,pg.self,rfl,_,rfl,_,rfl,x,dx,pa,sa,la,n,i,g,ls,YV S i a,p,rfl,pg,el,hn,ll,hi,g2,lsx,nlp,nls,fun H' f2 p2=>?_⟩
     refine k H' (YV (YV S g (S g ^^^ Jn (ls.map S))) i a) _ (fr.trans f2) (p2.congr fun r _=>?_) (tk.pair hi) fun r hr=>⟨?_,?_⟩
     ·have em:ls.map (YV S i a)=ls.map S:=List.map_congr_left fun l hl=>ZJ _ _ (by have:=lsx l hl;lia)
      rw [em,ZJ S _ (show g≠i by lia)]
      by_cases e:r=i
      ·rw [e,ZJ _ _ (show i≠g by lia),Yk,Yk]
      ·rw [ZJ _ _ e]
       by_cases e2:r=g
       ·rw [e2,Yk,Yk]
       ·rw [ZJ _ _ e2,ZJ _ _ e2,ZJ _ _ e]
     ·rw [ZJ _ _ (by lia),ZJ _ _ (by lia)]
     ·rw [ZJ _ _ (by lia),ZJ _ _ (by lia)]
   ·have xb:=Zk8 b256 z
    obtain ⟨hij,hjn⟩:=tk.bits xb
    generalize hj:ZcW rest=j at *
    have nz:(((rest:Nat):Int) != 0)=true:=by simp [z]
    rw [nz]
    refine Wh ?_
    refine ⟨_,rfl,rest,rfl,b256,z,?_⟩
    rw [hj]
    have e1:Builtin.bitXor ((rest:Nat):Int) ((YV S i a j:Nat):Int)=((rest ^^^ S j:Nat):Int):=by rw [ZiB,ZJ _ _ (by lia)]
    refine ⟨_,rfl,_,rfl,x,C,dx,_,_,rfl,pg.self,c_way,n2,rfl,_,rfl,sa,_,_,_,rfl,rfl,Zu.of pg.ss,Zp (Zcx _ hjn),_,_,rfl,rfl,?_⟩
    have b':rest ^^^ S j<256:=Nat.lt_of_lt_of_le (Nat.xor_lt_two_pow tk.br (tk.up.bd j hij hjn)) p8
    have lone8:lone.length<=8:=by
     have:=Zdz n _ 0 tk.as (fun y hy=>⟨Nat.zero_le _,(tk.ln y hy).2.1⟩) (Nat.zero_le _)
     lia
    refine ⟨_,rfl,x,C,dx,_,_,rfl,pg.self,c_way,n1,rfl,_,rfl,pa,_,_,_,rfl,rfl,Zu.of pg.pp,Zp (ZgM _ hjn),rfl,_,rfl,?_⟩
    cases hp:p j with
    | none=>
     refine Wh ?_
     refine ⟨_,rfl,.inl ⟨rfl,_,Zu.of el⟩,_,rfl,la,_,_,rfl,rfl,el,by rw [nL,List.length_map,sizeLine_eq];lia,?_⟩
     refine ⟨⟨rest ^^^ S j,a,lone ++ [j],some (.int (j:Nat)),?_,?_,?_,tk.lone xb hp,?_⟩,?_⟩
     ·show [_,_,some (V.int (Builtin.bitXor _ _)),_,_]=_
      rw [e1]
     ·exact fun c o e h1 h2=>by rw [Zi (Zf e hla)];exact fr c o e h1 h2
     ·exact ⟨by rw [Zi nlx];exact pg.self,by rw [Zi (Ne.symm nlp)];exact pg.pp,by rw [Zi (Ne.symm nls)];exact pg.ss,pg.ne⟩
     ·rw [Zb]
      simp [nL]
     ·show muR [_,_,some (V.int (Builtin.bitXor _ _)),_,_] _<_
      rw [e1]
      exact ZiD (n:=n) b256 b' z hj (by lia) (tk.clear xb)
    | some q=>
     refine Jq ?_
     obtain ⟨q1,q2⟩:=tk.below sq xb hp
     have pj:=ZgM p hjn
     rw [hp] at pj
     refine ⟨_,rfl,x,C,dx,_,_,rfl,pg.self,c_way,n2,rfl,_,rfl,sa,_,i,_,rfl,rfl,Zu.of pg.ss,Zcx _ hi,?_⟩
     refine ⟨_,rfl,x,C,dx,_,_,rfl,pg.self,c_way,n2,rfl,_,rfl,x,C,dx,_,_,rfl,pg.self,c_way,n1,rfl,_,rfl,pa,_,_,_,rfl,rfl,Zu.of pg.pp,Zp pj,sa,_,_,_,rfl,rfl,Zu.of pg.ss,Zp (Zcx _ (show q<n by lia)),_,_,rfl,rfl,?_⟩
     refine ⟨sa,_,_,i,rfl,rfl,pg.ss,YT (by rw [Za1];exact hi),?_⟩
     have e2:Builtin.bitXor ((YV S i a i:Nat):Int) ((YV S i a q:Nat):Int)=((a ^^^ S q:Nat):Int):=by rw [ZiB,Yk,ZJ _ _ (by lia)]
     refine ⟨⟨rest ^^^ S j,a ^^^ S q,lone,some (.int (j:Nat)),?_,fr.trans Wd.b,?_,tk.upper sq xb hp,?_⟩,?_⟩
     ·show [_,_,some (V.int (Builtin.bitXor _ _)),_,_]=_
      rw [e1]
     ·show PO (upd G sa (.lst ((sL n _).set i (V.int (Builtin.bitXor _ _))))) C x dx pa sa n _ p
      rw [e2]
      refine (pg.putS i _).congr fun r _=>?_
      by_cases e:r=i
      ·rw [e,Yk,Yk]
      ·rw [ZJ _ _ e,ZJ _ _ e,ZJ _ _ e]
     ·rw [Zi nls];exact el
     ·show muR [_,_,some (V.int (Builtin.bitXor _ _)),_,_] _<_
      rw [e1]
      exact ZiD (n:=n) b256 b' z hj (by lia) (tk.clear xb)
  ·rintro σ G Q1 Q2 m ⟨v,e,kk,t,q⟩
   exact ⟨v,e,kk,t,m _ _ q⟩
def ZdF (C:Addr):Sp:=fun vs H Q _=>∃(x dx a:Addr) (n:Nat) (T:Nat->Nat) (rs:List Addr),vs = [.ref x,.ref a]/\H x=some (.ins C dx [])/\W4 H a n T rs/\n<=8/\ZhU n T/\Sqr n T /\
 ∀(H':Hp) (pa sa:Addr) (S:Nat->Nat) (p:Nat->Option Nat),H pa=none->H sa=none->(∀c o,H c=some o->c≠x->H' c=some o)->PO H' C x dx pa sa n S p->Up T n 0 S p->Q .non H'
abbrev Y7:Stmt:=(ZdR (top 13)).getD 0 (.Pass ⟨0,0,0,0⟩)
theorem Wx:ZH ["self", "table", "i"] ["self", "table"] (Zl Y7):={}
theorem ZkF {C:Addr}{f:Addr}{fd:FuncData} (F:Jl K "__init__" "Pairing.__init__" Y7 f fd) (c_way:Cls K C) (n1:Jz K C "partner") (n2:Jz K C "slid") (WI:Jm P w K mg base 1 "mask_of" ["row"] ZdC) (Zfh:ZgS P w K mg base 2 C "take" ["self", "i", "rest"] (ZdZ C)) (Yi:mg "len" = none) (ZC:mg "range" = none) (Zao:mg "reversed" = none):Ys P w K mg base W3 3 f fd ["self", "table"] (ZdF C):=by
 refine F.ok Wx (fun vs H Q E h=>?_) (fun cdv A outer s H vs Q E hr h=>?_)
 ·obtain ⟨x,dx,a,n,T,rs,rfl,_⟩:=h
  rfl
 ·obtain ⟨x,dx,a,n,T,rs,rfl,hx,tb,hn,hi,sq,k⟩:=h
  refine ⟨_,(Ze (ZgN (K:=K) rfl (ZiJ (pv 0) (Zj Zbo (ZY (Za Gm Zc)) (ZE (Yj (K:=K) rfl) (by rfl) Yi PySem.boot_len (Za (pv 1) Zc))) rfl))
   (Ze (ZgN (K:=K) rfl (ZiJ (pv 0) (Gz (Ls:=["i"]) (Fs:=[]) (fi:=[]) (ZR.of (show Ym ["self", "table", "i"] (Zl Y7) _ [] []=true by decide +kernel)) rfl (Yb (by rfl) ZC (Za (ZE (Yj (K:=K) rfl) (by rfl) Yi PySem.boot_len (Za (pv 1) Zc)) Zc)) (fun cl C s3 H3 ex=>⟨(Zk (i:=0) (show ((["i"]:List Str)++([]:List Str)).Nodup by decide +kernel) rfl (Or.inl rfl)),Yh,(Zj ZiE Zd (pv 0))⟩)) rfl))
   (Zg (Yc PassesOwn.never rfl (ZjJ (by rfl) Zao (Za (Yf ZbF (by rfl) ZC boot_range (Za (ZE (Yj (K:=K) rfl) (by rfl) Yi PySem.boot_len (Za (pv 1) Zc)) Zc)) Zc)) (Zk (i:=2) Wx.nd rfl (Or.inl rfl)) (Zg (Yq (Zf4 Zfh c_way (hr.mono (by decide)) (pv 0) (Za (pv 2) (Za (Zz WI hr (Za (Zx (Zm (K:=K) rfl) (pv 1) (pv 2) (fun _ _=>rfl)) Zc)) Zc))))))))),?_⟩
  obtain ⟨ea,ln,er⟩:=id tb
  have lr:(rs.map V.ref).length=n:=by rw [List.length_map,ln]
  refine ⟨(by show 1<=sizeLine;decide),fun l0 hl0=>?_⟩
  have s0:=Zh.laid (o:=.lst [.non]) hl0
  refine ⟨_,rfl,a,_,rfl,.inl (Zu.of (s0 _ _ ea)),l0,_,_,rfl,rfl,Zb,by lia,by lia,?_,fun pa hpa=>?_⟩
  ·rw [lr];rw [sizeLine_eq];simp;lia
  have erep:(List.replicate ((rs.map V.ref).length:Int).toNat [V.non]).flatten=pL n fun _=>none:=by
   rw [lr,Int.toNat_natCast,pL]
   rw [List.flatten_replicate_singleton]
   refine (List.eq_replicate_iff.mpr ⟨by simp,fun b hb=>?_⟩).symm
   obtain ⟨_,_,rfl⟩:=List.mem_map.mp hb
   rfl
  rw [erep]
  have hpa0:H pa=none:=s0.free hpa
  have s1:=s0.step (o:=.lst (pL n fun _=>none)) hpa
  have ep1:(upd (upd H l0 (.lst [.non])) pa (.lst (pL n fun _=>none))) pa=some (.lst (pL n fun _=>none)):=Zb
  generalize upd (upd H l0 (.lst [.non])) pa (.lst (pL n fun _=>none))=G1 at *
  refine ⟨_,rfl,x,C,dx,_,rfl,s1 _ _ hx,c_way,n1,by decide,?_⟩
  have xpa:pa≠x:=fun z=>by rw [z,hx] at hpa0;cases hpa0
  have hx2:(upd G1 x (.ins C dx (W9 "partner" (.ref pa) []))) x=some (.ins C dx [("partner", .ref pa)]):=Zb
  have f2:∀c o,G1 c=some o->c≠x->(upd G1 x (.ins C dx (W9 "partner" (.ref pa) []))) c=some o:=fun c o e h=>by rw [Zi h];exact e
  generalize upd G1 x (.ins C dx (W9 "partner" (.ref pa) []))=G2 at *
  have xa:∀{c:Addr}{ys:List V},H c=some (.lst ys)->c≠x:=fun e z=>by rw [z,hx] at e;cases e
  have ea2:G2 a=some (.lst (rs.map V.ref)):=f2 _ _ (s1 _ _ ea) (xa ea)
  have ep2:G2 pa=some (.lst (pL n fun _=>none)):=f2 _ _ ep1 xpa
  have hback:∀{c:Addr},G2 c=none->H c=none:=fun {c} h=>by
   cases e:H c with
   | none=>rfl
   | some o=>
    by_cases z:c=x
    ·rw [z,hx2] at h;cases h
    ·rw [f2 _ _ (s1 _ _ e) z] at h;cases h
  refine ⟨_,rfl,a,_,rfl,.inl (Zu.of ea2),?_⟩
  rw [lr]
  refine ⟨n,rfl,by lia,by lia,Zav (n:=n) (by rw [sizeLine_eq];lia) (fun i zs G=>Zh G2 G/\zs=sL i fun r=>2 ^ r) ⟨Zh.refl _,rfl⟩ (fun i zs G p=>by rw [p.2,Za1];exact Nat.le_refl _) (fun i zs G hi p=>?_) (fun zs G p D hD=>?_)⟩
  ·obtain ⟨s',rfl⟩:=p
   have cp:Zkc 1 (0+(i:Int)):=⟨by lia,by lia,by decide⟩
   refine lcG ⟨_,rfl,_,_,rfl,rfl,cp,s',?_⟩
   show _ ++ [V.int (1*2 ^ (0+(i:Int)).toNat)]=_
   rw [show (0+(i:Int)).toNat=i by lia,Int.one_mul]
   unfold sL
   rw [List.range_succ,List.map_append]
   simp
  obtain ⟨s',rfl⟩:=p
  have hD2:G2 D=none:=s'.free hD
  have hDH:H D=none:=hback hD2
  have s3:=s'.step (o:=.lst (sL n fun r=>2 ^ r)) hD
  have eD3:(upd G D (.lst (sL n fun r=>2 ^ r))) D=some (.lst (sL n fun r=>2 ^ r)):=Zb
  generalize upd G D (.lst (sL n fun r=>2 ^ r))=G3 at *
  refine ⟨_,rfl,x,C,dx,_,rfl,s3 _ _ hx2,c_way,n2,(by show (1:Nat)<1000;decide),?_⟩
  have Dx:D≠x:=fun z=>by rw [z,hx2] at hD2;cases hD2
  have pD:pa≠D:=fun z=>by rw [<- z,ep2] at hD2;cases hD2
  have hx4:(upd G3 x (.ins C dx (W9 "slid" (.ref D) [("partner", .ref pa)]))) x=some (.ins C dx [("partner", .ref pa),("slid", .ref D)]):=Zb
  have f4:∀c o,G3 c=some o->c≠x->(upd G3 x (.ins C dx (W9 "slid" (.ref D) [("partner", .ref pa)]))) c=some o:=fun c o e h=>by rw [Zi h];exact e
  generalize upd G3 x (.ins C dx (W9 "slid" (.ref D) [("partner", .ref pa)]))=G4 at *
  have fr4:∀c o,H c=some o->c≠x->G4 c=some o:=fun c o e h=>f4 c o (s3 c o (f2 c o (s1 c o e) h)) h
  have po4:PO G4 C x dx pa D n (fun r=>2 ^ r) (fun _=>none):=⟨hx4,f4 _ _ (s3 _ _ ep2) xpa,f4 _ _ eD3 Dx,pD⟩
  refine ⟨_,rfl,a,_,rfl,.inl (Zu.of (fr4 _ _ ea (xa ea))),?_⟩
  rw [lr]
  refine ⟨n,rfl,fun rg hrg=>⟨rg,n,rfl,Zb,by lia,Zfr (fun t σ G'=>∃(v2:Option V) (S:Nat->Nat) (p:Nat->Option Nat),σ = [some (.ref x),some (.ref a),v2]/\Wd pa D G4 G'/\PO G' C x dx pa D n S p/\Up T n (n-t) S p /\ ∀r,r<n-t->S r=2 ^ r/\p r=none) ⟨none,_,_,rfl,Wd.of (Zh.laid hrg),po4.same (Zh.laid hrg),⟨fun r h1 h2=>by lia,fun r h1 h2=>by lia,fun r q h1 h2=>by lia,fun r q h1 h2=>by lia,fun r h1 h2=>by lia⟩,fun r _=>⟨rfl,rfl⟩⟩ ?_ ?_⟩⟩
  ·rintro t σ G' ht ⟨v2,S,p,rfl,fr,pg,up,ag⟩
   obtain ⟨i,hi'⟩:∃i,i=n-1-t:=⟨_,rfl⟩
   have hin:i<n:=by lia
   have ei:(n:Int)-1+(t:Int)*(-1)=((i:Nat):Int):=by lia
   rw [ei]
   have en:n-t=i+1:=by lia
   rw [en] at up ag
   obtain ⟨q,hq⟩:∃q,rs[i]? = some q:=⟨_,List.getElem?_eq_getElem (by lia)⟩
   have ap:∀{c:Addr}{ys:List V},H c=some (.lst ys)->c≠pa/\c≠D:=fun e=>⟨Zf e hpa0,Zf e hDH⟩
   have ea5:=fr _ _ (fr4 _ _ ea (xa ea)) (ap ea).1 (ap ea).2
   have erq:=er i q hq
   have eq5:=fr _ _ (fr4 _ _ erq (xa erq)) (ap erq).1 (ap erq).2
   have atq:(rs.map V.ref)[i]? = some (V.ref q):=by rw [List.getElem?_map,hq];rfl
   refine ⟨_,rfl,x,dx,_,rfl,pg.self,rfl,_,rfl,_,rfl,_,rfl,a,_,_,_,rfl,rfl,Zu.of ea5,Zp atq,q,n,T i,rfl,eq5,hn,(hi i hin).1,fun G6 s6=>?_⟩
   refine ⟨x,dx,pa,D,n,i,T,S,p,rfl,pg.same s6,hn,hin,hi,sq,up,(ag i (by lia)).1,(ag i (by lia)).2,fun H' S' p' f6 po6 up6 ag6=>?_⟩
   refine ⟨_,S',p',rfl,(fr.trans (Wd.of s6)).trans f6,po6,by rw [show n-(t+1)=i by lia];exact up6,fun r hr=>?_⟩
   have hr':r<i:=by lia
   rw [(ag6 r hr').1,(ag6 r hr').2]
   exact ag r (by lia)
  ·rintro σ G' ⟨v2,S,p,rfl,fr,pg,up,ag⟩
   rw [Nat.sub_self] at up
   exact k G' pa D S p hpa0 hDH (fun c o e h=>fr c o (fr4 c o e h) (Zf e hpa0) (Zf e hDH)) pg up
structure Good (n:Nat) (T:Nat->Nat) (p0:Nat->Option Nat):Prop where
 n8:n<=8
 hi:ZhU n T
 sq:Sqr n T
 up:∃S0,Up T n 0 S0 p0
 full:∀r,r<n->p0 r≠none
theorem Good.one {n:Nat}{T S:Nat->Nat}{p p0:Nat->Option Nat} (g:Good n T p0) (u:Up T n 0 S p) {r:Nat} (h:r<n):p r=p0 r:=let ⟨_,v⟩:=g.up;u.one v h
theorem Zc0 {H H':Hp}{x dx:Addr}{o:HO} (hx:H x=none) (hd:H dx=none) (f:∀c u,(upd (upd H dx (.own x)) x o) c=some u->c≠x->H' c=some u):Zh H H':=fun c u e=>f c u (by rw [Zi (Zf e hx),Zi (Zf e hd)];exact e) (Zf e hx)
theorem Ze5 {H:Hp}{x dx c:Addr}{o:HO} (h:(upd (upd H dx (.own x)) x o) c=none):H c=none:=by
 by_cases e:c=x
 ·rw [e,Zb] at h;cases h
 ·rw [Zi e] at h
  by_cases e2:c=dx
  ·rw [e2,Zb] at h;cases h
  ·rwa [Zi e2] at h
theorem ZgL {H:Hp}{x dx:Addr}{o:HO} (hx:H x=none) (hd:H dx=none):Zh H (upd (upd H dx (.own x)) x o):=fun c u e=>by rw [Zi (Zf e hx),Zi (Zf e hd)];exact e
def ZbQ:Sp:=fun vs H Q _=>∃(a:Addr) (n:Nat) (T:Nat->Nat) (p0:Nat->Option Nat) (rs:List Addr),vs = [.ref a]/\W4 H a n T rs/\Good n T p0 /\ ∀H',Zh H H'->Q (.bl true) H'
theorem ZjV {n:Nat}{p:Nat->Option Nat} (h:∀r,r<n->p r≠none):inV .non (pL n p)=false:=by
 unfold inV
 rw [List.any_eq_false]
 intro x hx
 obtain ⟨r,hr,rfl⟩:=List.mem_map.mp hx
 have:=h r (List.mem_range.mp hr)
 cases e:p r with
 | none=>exact absurd e this
 | some q=>simp [oV,eqV]
theorem Zkl (n:Nat) (p:Nat->Option Nat):(pL n p).all JS=true:=by
 rw [List.all_eq_true]
 intro x hx
 obtain ⟨r,_,rfl⟩:=List.mem_map.mp hx
 cases p r<;>rfl
abbrev Zaq:Stmt:=top 14
theorem Zem:ZH ["thing"] ["thing"] (Zl Zaq):={}
theorem ZhP {C:Addr}{f:Addr}{fd:FuncData} (F:Jl K "is_table" "is_table" Zaq f fd) (c_way:Cls K C) (n1:Jz K C "partner") (WJ:mg "Pairing" = some (.ref C)) (i_Pairing:Zj6 P w K mg base 3 C ["self", "table"] (ZdF C)) (Ur:Jm P w K mg base 3 "has_shape" ["thing"] Zeb) (Za0:Jm P w K mg base 1 "is_high" ["table"] ZfZ) (Ux:Jm P w K mg base 2 "is_square" ["table"] Zb9):Ys P w K mg base W3 5 f fd ["thing"] ZbQ:=by
 refine F.ok Zem (fun vs H Q E h=>?_) (fun cdv A outer s H vs Q E hr h=>?_)
 ·obtain ⟨a,n,T,p0,rs,rfl,_⟩:=h
  rfl
 ·obtain ⟨a,n,T,p0,rs,rfl,tb,g,k⟩:=h
  refine ⟨_,(Ze (ZU (PW.pt (Zad (Zbk (Zan (Zz Ur hr (Za (pv 0) Zc)))) (Zad (Zbk (Zan (Zz Za0 hr (Za (pv 0) Zc)))) (Uq (Zbk (Zan (Zz Ux hr (Za (pv 0) Zc)))))))) (Zg (ZD ZaJ)) ZG)
   (Zg (ZD (Jr (Wa (K:=K) rfl) Gm (JY (K:=K) rfl (W6 (Zgv i_Pairing (hr.mono (by decide)) (by rfl) WJ (Za (pv 0) Zc)) rfl)) rfl)))),?_⟩
  refine ⟨_,rfl,a,n,T,rs,rfl,tb,g.n8,fun H1 s1=>⟨_,rfl,Jq ?_⟩⟩
  refine ⟨_,rfl,a,n,T,rs,rfl,tb.same s1,g.n8,g.hi,fun H2 s2=>⟨_,rfl,Jq ?_⟩⟩
  have s12:=s1.trans s2
  refine ⟨_,rfl,a,n,T,rs,rfl,tb.same s12,g.n8,g.hi,g.sq,fun H3 s3=>⟨_,rfl,Jq ?_⟩⟩
  have s13:=s12.trans s3
  refine ⟨_,rfl,fun x dx hx hd ne=>⟨x,dx,a,n,T,rs,rfl,Zb,(tb.same s13).same (ZgL hx hd),g.n8,g.hi,g.sq,fun H' pa sa S p hpa hsa fr po up=>⟨rfl,?_⟩⟩⟩
  have s4:=Zc0 hx hd fr
  refine ⟨x,C,dx,_,_,rfl,po.self,c_way,n1,rfl,pa,_,rfl,.inl (Zu.of po.pp),rfl,Zkl n p,?_⟩
  rw [ZjV fun r hr=>by rw [g.one up hr];exact g.full r hr]
  exact k H' (s13.trans s4)
def Zbb (C:Addr):Sp:=fun vs H Q _=>∃(a:Addr) (n:Nat) (T:Nat->Nat) (p0:Nat->Option Nat) (rs:List Addr),vs = [.ref a]/\W4 H a n T rs/\Good n T p0 /\ ∀(H':Hp) (x dx pa sa:Addr) (S:Nat->Nat) (p:Nat->Option Nat),Zh H H'->H pa=none->H sa=none->PO H' C x dx pa sa n S p->Up T n 0 S p->Q (.ref x) H'
abbrev Wm:Stmt:=top 15
theorem Zbh:ZH ["thing"] ["thing"] (Zl Wm):={}
theorem Zfv {C:Addr}{f:Addr}{fd:FuncData} (F:Jl K "table_pairing" "table_pairing" Wm f fd) (WJ:mg "Pairing" = some (.ref C)) (i_Pairing:Zj6 P w K mg base 3 C ["self", "table"] (ZdF C)) (J5:Jm P w K mg base 5 "is_table" ["thing"] ZbQ):Ys P w K mg base W3 6 f fd ["thing"] (Zbb C):=by
 refine F.ok Zbh (fun vs H Q E h=>?_) (fun cdv A outer s H vs Q E hr h=>?_)
 ·obtain ⟨a,n,T,p0,rs,rfl,_⟩:=h
  rfl
 ·obtain ⟨a,n,T,p0,rs,rfl,tb,g,k⟩:=h
  refine ⟨_,(Ze (ZU (Zbk (Zan (Zz J5 hr (Za (pv 0) Zc)))) (Zg ZhO) ZG)
   (Zg (ZD (Zgv i_Pairing (hr.mono (by decide)) (by rfl) WJ (Za (pv 0) Zc))))),?_⟩
  refine ⟨_,rfl,a,n,T,p0,rs,rfl,tb,g,fun H1 s1=>⟨_,rfl,Jq ?_⟩⟩
  refine ⟨_,rfl,fun x dx hx hd ne=>⟨x,dx,a,n,T,rs,rfl,Zb,(tb.same s1).same (ZgL hx hd),g.n8,g.hi,g.sq,fun H' pa sa S p hpa hsa fr po up=>⟨rfl,?_⟩⟩⟩
  exact k H' x dx pa sa S p (s1.trans (Zc0 hx hd fr)) (s1.free (Ze5 hpa)) (s1.free (Ze5 hsa)) po up
theorem ZjA {H:Hp}{p q:Addr}{n v:Nat} (h1:H p=some (.lst (Jc n v))) (h2:H q=some (.lst (Jc n v))):Eqv K H 60 (.ref p) (.ref q):=
 .lst (n:=59) (Zu.of h1) (Zu.of h2) rfl fun i x y e1 e2=>by
  rw [e1] at e2
  cases e2
  obtain ⟨_,rfl⟩:=Wf e1
  exact .flat rfl
structure TF (H0:Hp) (b:Addr) (G:Hp) (t:Addr) (n:Nat) (T:Nat->Nat) (ts:List Addr):Prop where
 bg:UU G b
 fr:JV b H0 G
 tb:W4 G t n T ts
 nd:ts.Nodup
 nt:t∉ts
 ft:H0 t=none
 fs:∀r∈ts,H0 r=none
theorem Zjz (a b:Nat) (j:Nat):((((a.testBit j).toNat:Nat):Int)+(((b.testBit j).toNat:Nat):Int)) % 2=((((a ^^^ b).testBit j).toNat:Nat):Int):=by
 rw [Nat.testBit_xor]
 cases a.testBit j<;>cases b.testBit j<;>rfl
theorem ZjK {H:Hp}{a b:Addr}{n:Nat}{T T':Nat->Nat}{as bs:List Addr} (x:W4 H a n T as) (y:W4 H b n T' bs) (e:∀r,r<n->T r=T' r):∀(j:Nat) (u v:V),(as.map V.ref)[j]? = some u->(bs.map V.ref)[j]? = some v->Eqv K H 60 u v:=fun j u v hu hv=>by
 obtain ⟨p,hp,rfl⟩:=JB hu
 obtain ⟨q,hq,rfl⟩:=JB hv
 have hj:j<n:=by rw [<- x.2.1];exact (List.getElem?_eq_some_iff.mp hp).1
 have e2:=y.2.2 j q hq
 rw [<- e j hj] at e2
 exact ZjA (x.2.2 j p hp) e2
def Zak:Sp:=fun vs H Q _=>∃(a:Addr) (n:Nat) (T:Nat->Nat) (p0:Nat->Option Nat) (rs:List Addr),vs = [.ref a]/\W4 H a n T rs/\Good n T p0 /\ ∀(H':Hp) (pa:Addr),Zh H H'->H pa=none->H' pa=some (.lst (pL n p0))->Q (.ref pa) H'
theorem UJ {n:Nat}{p q:Nat->Option Nat} (h:∀r,r<n->p r=q r):pL n p=pL n q:=by
 unfold pL
 exact List.map_congr_left fun r hr=>by rw [h r (List.mem_range.mp hr)]
abbrev J6:Stmt:=top 16
theorem ZaK:ZH ["table"] ["table"] (Zl J6):={}
theorem Zeq {C:Addr}{f:Addr}{fd:FuncData} (F:Jl K "table_partners" "table_partners" J6 f fd) (c_way:Cls K C) (n1:Jz K C "partner") (Ws:Jm P w K mg base 6 "table_pairing" ["thing"] (Zbb C)):Ys P w K mg base W3 7 f fd ["table"] Zak:=by
 refine F.ok ZaK (fun vs H Q E h=>?_) (fun cdv A outer s H vs Q E hr h=>?_)
 ·obtain ⟨a,n,T,p0,rs,rfl,_⟩:=h
  rfl
 ·obtain ⟨a,n,T,p0,rs,rfl,tb,g,k⟩:=h
  refine ⟨_,(Zg (ZD (JY (K:=K) rfl (W6 (Zz Ws hr (Za (pv 0) Zc)) rfl)))),?_⟩
  refine ⟨_,rfl,a,n,T,p0,rs,rfl,tb,g,fun H1 x dx pa sa S p s1 hpa hsa po up=>?_⟩
  refine ⟨x,C,dx,_,_,rfl,po.self,c_way,n1,rfl,?_⟩
  refine k H1 pa s1 hpa ?_
  rw [<- UJ fun r hr=>g.one up hr]
  exact po.pp
def Zbm:Sp:=fun vs H Q _=>∃(o r:Addr) (m v x at':Nat),vs = [.ref o,.ref r,.int (at':Nat)]/\H o=some (.lst (Jc m v))/\H r=some (.lst (Jc m x))/\m<=8/\at'<m /\ ∀(H':Hp) (q:Addr),Zh H H'->H' q=some (.lst (Jc m (clr x at' v)))->Q (.ref q) H'
abbrev JW:Stmt:=top 33
theorem ZbK:ZH ["_law_other", "_law_row", "_law_at"] ["_law_other", "_law_row", "_law_at"] (Zl JW):={}
theorem Zfu {f:Addr}{fd:FuncData} (F:Jl K "_law_cleared" "_law_cleared" JW f fd) (ZaE:mg "zip" = none):Ys P w K mg base W3 1 f fd ["_law_other", "_law_row", "_law_at"] Zbm:=by
 refine F.ok ZbK (fun vs H Q E h=>?_) (fun cdv A outer s H vs Q E hr h=>?_)
 ·obtain ⟨o,r,m,v,x,at',rfl,_⟩:=h
  rfl
 ·obtain ⟨o,r,m,v,x,at',rfl,eo,er,m8,hat,k⟩:=h
  refine ⟨_,(Ze (ZU (Zr YA (Zx (Zm (K:=K) rfl) (pv 0) (pv 2) (fun _ _=>rfl)) Zd (Zv _)) (Zg (ZD (pv 0))) ZG)
   (Zg (ZD (Gz (Ls:=["_law_one", "_law_two"]) (Fs:=[]) (fi:=[]) (ZR.of (show Ym ["_law_other", "_law_row", "_law_at"] (Zl JW) _ [] []=true by decide +kernel)) rfl (Zdv (K:=K) rfl (by rfl) ZaE (Za (pv 0) (Za (pv 1) Zc))) (fun cl C s3 H3 ex=>⟨(Ye (K:=K) (n:=2) rfl rfl (Zq (Zk (i:=0) (show ((["_law_one", "_law_two"]:List Str)++([]:List Str)).Nodup by decide +kernel) rfl (Or.inl rfl)) (Zq (Zk (i:=1) (show ((["_law_one", "_law_two"]:List Str)++([]:List Str)).Nodup by decide +kernel) rfl (Or.inl rfl)) Z6))),Yh,(Zj JX (Zj Zw (pv 0) (pv 1)) Zd)⟩))))),?_⟩
  refine ⟨_,rfl,_,rfl,o,_,_,_,rfl,rfl,Zu.of eo,Zp (Gg hat),?_⟩
  cases hb:v.testBit at' with
  | false=>
   refine ⟨rfl,_,rfl,Wh ?_⟩
   refine ⟨_,rfl,k H o (Zh.refl _) ?_⟩
   unfold clr
   rw [hb,if_neg Bool.false_ne_true]
   exact eo
  | true=>
   refine ⟨rfl,_,rfl,Jq ?_⟩
   refine ⟨_,rfl,_,rfl,o,r,rfl,⟨_,Zu.of eo⟩,⟨_,Zu.of er⟩,ZkI (K:=K) (xs:=Jc m v) (ys:=Jc m x) (by rw [YZ,sizeLine_eq];omega) (by rw [YZ,YZ];omega) (fun e zs G=>Zh H G/\zs=(Jc m (v ^^^ x)).take e) ⟨Zh.refl _,rfl⟩ (fun e zs G ⟨_,z⟩=>by rw [z,List.length_take];omega) (fun e zs G ⟨s5,_⟩=>⟨Zu.of (s5 _ _ eo),Zu.of (s5 _ _ er)⟩) ?_ ?_⟩
   ·rintro e y z p zs G5 hy hz ⟨s5,rfl⟩ hp
    obtain ⟨he,rfl⟩:=Wf hy
    obtain ⟨_,rfl⟩:=Wf hz
    refine ⟨p,_,rfl,JZ.of Zb,rfl,_,_,rfl,_,_,rfl,rfl,?_⟩
    refine lcT ⟨_,rfl,_,rfl,_,_,rfl,rfl,_,_,rfl,rfl,(by show (0:Int)<2;decide),s5.step hp,?_⟩
    rw [List.take_add_one,Gg he]
    show _ ++ [V.int ((_+_) % 2)]=_
    rw [Zjz]
    rfl
   rintro zs G5 ⟨s5,rfl⟩ q hq
   rw [YZ,List.take_of_length_le (by rw [YZ];exact Nat.le_refl _)]
   refine k _ q (s5.step hq) ?_
   unfold clr
   rw [hb,if_pos rfl]
   exact Zb
def Wv (G:Hp) (rs:List Addr) (m:Nat) (L:List Nat):Prop:=rs.length=L.length /\ ∀(r:Nat) (p:Addr),rs[r]? = some p -> ∃v:Nat,L[r]? = some v/\G p=some (.lst (Jc m v))
theorem Wv.same {G G':Hp}{rs:List Addr}{m:Nat}{L:List Nat} (s:Zh G G') (x:Wv G rs m L):Wv G' rs m L:=⟨x.1,fun r p e=>let ⟨v,h1,h2⟩:=x.2 r p e;⟨v,h1,s _ _ h2⟩⟩
def ZfK:Sp:=fun vs H Q _=>∃(a:Addr) (m:Nat) (L:List Nat) (rs:List Addr),vs = [.ref a]/\H a=some (.lst (rs.map V.ref))/\Wv H rs m L/\L.length<=8/\m<=8/\(∀v∈L,v<2 ^ m) /\ ∀(H':Hp) (f:Nat),Zh H H'->Rk L f->Q (.int (f:Nat)) H'
theorem NR.rowsAt {H G:Hp}{m:Nat}{L:List Nat}{ts:List Addr} (l:ts.length=L.length) (h:∀(r:Nat) (q:Addr),ts[r]? = some q->G q=some (.lst (Jc m (L.getD r 0)))):Wv G ts m L:=
 ⟨l,fun r p e=>by
  have hr:r<L.length:=by rw [<- l];exact (List.getElem?_eq_some_iff.mp e).1
  exact ⟨L.getD r 0,by simp [hr],h r p e⟩⟩
theorem Wv.put {G:Hp}{rs:List Addr}{m:Nat}{L:List Nat}{l:Addr}{o:HO} (x:Wv G rs m L) (h:l∉rs):Wv (upd G l o) rs m L:=
 ⟨x.1,fun r p e=>let ⟨v,h1,h2⟩:=x.2 r p e;⟨v,h1,by rw [Zi (fun z=>h (by rw [<- z];exact List.mem_of_getElem? e))];exact h2⟩⟩
def muK:List (Option V)->Hp->Nat:=fun σ G=>match σ[1]? with
 | some (some (V.ref l))=>(match G l with
  | some (.lst xs)=>xs.length
  | _=>0)
 | _=>0
theorem ZfB {x0 x2 x3 x4:Option V}{G:Hp}{l:Addr}{xs:List V} (h:G l=some (.lst xs)):muK [x0,some (.ref l),x2,x3,x4] G=xs.length:=by
 show (match G l with
  | some (.lst xs)=>xs.length
  | _=>0)=_
 rw [h]
theorem ZjM {m v:Nat} (hv:v<2 ^ m):((ZfF m v).map (· != 0)).any id=decide (v≠0):=by
 by_cases z:v=0
 ·subst z
  rw [decide_eq_false (by simp),List.any_eq_false]
  intro x hx
  obtain ⟨y,hy,rfl⟩:=List.mem_map.mp hx
  obtain ⟨j,_,rfl⟩:=List.mem_map.mp hy
  simp
 ·rw [decide_eq_true z,List.any_eq_true]
  obtain ⟨j,hj⟩:=LB.ex z
  refine ⟨true,List.mem_map.mpr ⟨1,List.mem_map.mpr ⟨j,List.mem_range.mpr (hj.lt hv),by rw [hj.1];rfl⟩,rfl⟩,rfl⟩
abbrev Wi:Stmt:=top 34
theorem Y8:ZH ["_law_rows_here", "_law_left", "_law_found", "_law_row", "_law_at"] ["_law_rows_here"] (Zl Wi):={}
theorem Zj2 {f:Addr}{fd:FuncData} (F:Jl K "_law_rank" "_law_rank" Wi f fd) (W2:Jm P w K mg base 1 "_law_cleared" ["_law_other", "_law_row", "_law_at"] Zbm) (Yu:mg "list" = none) (ZiR:mg "any" = none):Ys P w K mg base W3 2 f fd ["_law_rows_here"] ZfK:=by
 refine F.ok Y8 (fun vs H Q E h=>?_) (fun cdv A outer s H vs Q E hr h=>?_)
 ·obtain ⟨a,m,L,rs,rfl,_⟩:=h
  rfl
 ·obtain ⟨a,m,L,rs,rfl,ea,ra,l8,m8,bd,k⟩:=h
  refine ⟨_,(Ze (GZ (i:=1) Y8.nd rfl (Or.inl rfl) (Ls:=["_law_row"]) (Fs:=[]) (fi:=[]) (ZR.of (show Ym ["_law_rows_here", "_law_left", "_law_found", "_law_row", "_law_at"] (Zl Wi) _ [] []=true by decide +kernel)) rfl (Z8 (K:=K) rfl (pv 0)) (fun cl C s3 H3 ex=>⟨(Zk (i:=0) (show ((["_law_row"]:List Str)++([]:List Str)).Nodup by decide +kernel) rfl (Or.inl rfl)),Yh,(Yf (WN (K:=K) rfl) (by rfl) Yu boot_list (Za (pv 0) Zc))⟩))
   (Ze (Zo (i:=2) Y8.nd rfl (Or.inl rfl) Zd)
   (Ze (Uj PassesOwn.never (Zr (Zdm (K:=K) rfl hr.units) (pv 1) (ZY Zc) (Zv _)) (Ze (Zo (i:=3) Y8.nd rfl (Or.inr rfl) (ZgK (K:=K) rfl (ZiF PySem.F.plainAttrs_list PySem.F.slot_list_pop PySem.F.type_list_pop Zlf (pv 1))))
   (Zg (ZU (Zan (ZE (ZfD (K:=K) rfl rfl) (by rfl) ZiR boot_any (Za (pv 3) Zc))) (Ze (Zo (i:=2) Y8.nd rfl (Or.inl rfl) (Zj Zw (pv 2) Zd))
   (Ze (Zo (i:=4) Y8.nd rfl (Or.inr rfl) (Yt (K:=K) rfl (Jk PySem.F.plainAttrs_list PySem.F.slot_list_index PySem.F.type_list_index (Zg6 (K:=K) rfl) (pv 3) (Za Zd Zc))))
   (Zg (GZ (i:=1) Y8.nd rfl (Or.inl rfl) (Ls:=["_law_other"]) (Fs:=["_law_row", "_law_at"]) (fi:=[3,4]) (ZR.of (show Ym ["_law_rows_here", "_law_left", "_law_found", "_law_row", "_law_at"] (Zl Wi) _ ["_law_row", "_law_at"] [3,4]=true by decide +kernel)) rfl (Z8 (K:=K) rfl (pv 1)) (fun cl C s3 H3 ex=>⟨(Zk (i:=0) (show ((["_law_other"]:List Str)++(["_law_row", "_law_at"]:List Str)).Nodup by decide +kernel) rfl (Or.inl rfl)),Yh,(Zz W2 hr (Za (pv 0) (Za (pv 1) (Za (pv 2) Zc))))⟩))))) ZG))))
   (Zg (ZD (pv 2)))))),?_⟩
  have lr:(rs.map V.ref).length=L.length:=by rw [List.length_map,ra.1]
  refine ⟨_,rfl,a,rfl,⟨_,Zu.of ea⟩,Jg (K:=K) (a:=a) (xs:=rs.map V.ref) (by rw [lr,sizeLine_eq];lia) (fun i zs G1=>NR H G1 (fun r=>Jc m (L.getD r 0)) i zs) (NR.nil _ _) (fun _ _ _ x=>x.len) (fun i zs G1 x=>Zu.of (x.1 _ _ ea)) (fun i y zs G1 hy x=>?_) (fun zs G1 x D hD=>?_)⟩
  ·obtain ⟨p,hp,rfl⟩:=JB hy
   obtain ⟨v,hv,ep⟩:=ra.2 i p hp
   have e:L.getD i 0=v:=by simp [hv]
   exact lcG ⟨_,rfl,p,_,rfl,.inl (Zu.of (x.1 _ _ ep)),fun q hq=>x.step (Zh.laid hq) hq (by rw [e];exact Zb)⟩
  rw [lr] at x
  obtain ⟨sD,fD,ts,rfl,lt,_,nt,_,eD,ets⟩:=x.done hD
  have rD:=NR.rowsAt (H:=H) lt ets
  generalize upd G1 D (.lst (ts.map V.ref))=G2 at *
  dsimp only [W0,Zju]
  refine ZcG (fun σ G=>∃(l:Addr) (rs:List Addr) (L':List Nat) (f:Nat) (v3 v4:Option V),σ = [some (.ref a),some (.ref l),some (.int (f:Nat)),v3,v4]/\Zh H G/\H l=none/\G l=some (.lst (rs.map V.ref))/\Wv G rs m L'/\l∉rs/\L'.length<=8/\(∀v∈L',v<2 ^ m)/\RkI L f L') muK ?_ ?_ ?_
  ·exact ⟨D,ts,L,0,none,none,rfl,sD,fD,eD,rD,nt,l8,bd,RkI.start L⟩
  ·rintro σ G ⟨l,rs,L',f',v3,v4,rfl,sG,fl,el,rl,nl,l8',bd',rk⟩
   refine ⟨_,rfl,(by show 0<=sizeLine;decide),fun e he=>?_⟩
   have se:=Zh.laid (o:=.lst []) he
   have sG2:=sG.trans se
   have el2:=se _ _ el
   have rl2:=rl.same se
   have mu0:muK [some (.ref a),some (.ref l),some (.int (f':Nat)),v3,v4] G=L'.length:=by rw [ZfB el,List.length_map,rl.1]
   refine ⟨l,e,_,rfl,rfl,Zu.of el2,Zu.of Zb,_,rfl,?_⟩
   generalize upd G e (.lst [])=G3 at *
   rcases List.eq_nil_or_concat L' with rfl | ⟨M,v,rfl⟩
   ·have r0:rs = []:=List.length_eq_zero_iff.mp rl.1
    subst r0
    refine Jq ?_
    exact ⟨_,rfl,k G3 f' sG2 rk.done⟩
   ·rw [List.concat_eq_append] at *
    have lM:rs.length=M.length+1:=by rw [rl.1,List.length_append];rfl
    have M8:M.length+1<=8:=by rw [List.length_append] at l8';exact l8'
    rcases List.eq_nil_or_concat rs with rfl | ⟨qs,q,rfl⟩
    ·simp at lM
    rw [List.concat_eq_append] at *
    have lq:qs.length=M.length:=by rw [List.length_append] at lM;simpa using lM
    have hq:(qs ++ [q])[M.length]? = some q:=by rw [List.getElem?_append_right (by lia)];simp [lq]
    obtain ⟨v',hv',eq3⟩:=rl2.2 _ q hq
    have ev:v'=v:=by
     rw [List.getElem?_append_right (Nat.le_refl _)] at hv'
     simpa using hv'.symm
    subst ev
    have rq3:Wv G3 qs m M:=⟨lq,fun r p e=>by
     have hr:=(List.getElem?_eq_some_iff.mp e).1
     obtain ⟨u,h1,h2⟩:=rl2.2 r p (by rw [List.getElem?_append_left hr];exact e)
     rw [List.getElem?_append_left (by lia)] at h1
     exact ⟨u,h1,h2⟩⟩
    rw [show (!(((qs ++ [q]).map V.ref).isEmpty))=true by simp]
    refine Wh ?_
    have nlq:l∉qs:=fun h=>nl (List.mem_append_left _ h)
    have nq:q≠l:=fun z=>nl (by rw [<- z];simp)
    refine ⟨_,rfl,.inl ⟨rfl,_,Zu.of el2⟩,l,_,V.ref q,rfl,rfl,el2,(by rw [List.length_map,List.length_append,List.getElem?_map];show Option.map V.ref ((qs ++ [q])[qs.length+1-1]?)=_;rw [show qs.length+1-1=M.length by lia,hq];rfl),?_⟩
    rw [show ((qs ++ [q]).map V.ref).dropLast=qs.map V.ref by simp]
    have hv:v'<2 ^ m:=bd' v' (by simp)
    have s4:Zh H (upd G3 l (.lst (qs.map V.ref))):=fun c o e=>by rw [Zi (Zf e fl)];exact sG2 c o e
    have el4:upd G3 l (.lst (qs.map V.ref)) l=some (.lst (qs.map V.ref)):=Zb
    have eq4:upd G3 l (.lst (qs.map V.ref)) q=some (.lst (Jc m v')):=by rw [Zi nq];exact eq3
    have rq4:Wv (upd G3 l (.lst (qs.map V.ref))) qs m M:=rq3.put nlq
    generalize upd G3 l (.lst (qs.map V.ref))=G4 at *
    refine ⟨_,rfl,q,ZfF m v',rfl,Zu.of eq4,_,rfl,?_⟩
    rw [ZjM hv]
    by_cases z:v'=0
    ·rw [decide_eq_false (by simp [z])]
     refine Jq ⟨⟨l,qs,M,f',_,_,rfl,s4,fl,el4,rq4,nlq,by lia,fun u hu=>bd' u (List.mem_append_left _ hu),?_⟩,?_⟩
     ·rw [z] at rk;exact rk.skip
     ·refine Nat.lt_of_le_of_lt (Nat.le_of_eq (ZfB el4)) ?_
      rw [mu0,List.length_map,List.length_append,lq];exact Nat.lt_succ_self _
    ·rw [decide_eq_true z]
     refine Wh ?_
     obtain ⟨j,hj⟩:=LB.ex z
     have jm:=hj.lt hv
     refine ⟨_,rfl,_,_,rfl,rfl,?_⟩
     refine ⟨_,rfl,.inl ⟨rfl,_,Zu.of eq4⟩,q,_,_,j,rfl,rfl,Zu.of eq4,rfl,(List.all_eq_true.mpr fun x hx=>by
      obtain ⟨i,hi,rfl⟩:=List.getElem_of_mem hx
      obtain ⟨_,e⟩:=Wf (List.getElem?_eq_getElem hi)
      rw [e];rfl),by lia,⟨_,Gg jm,by rw [hj.1];rfl⟩,(fun i x hi hx=>by
      obtain ⟨_,rfl⟩:=Wf hx
      rw [hj.2 i hi];rfl),?_⟩
     have lqr:(qs.map V.ref).length=M.length:=by rw [List.length_map,lq]
     refine ⟨_,rfl,l,rfl,⟨_,Zu.of el4⟩,Jg (K:=K) (a:=l) (xs:=qs.map V.ref) (by rw [lqr,sizeLine_eq];lia) (fun i zs G=>Zh G4 G /\ ∃us:List Addr,zs=us.map V.ref/\us.length=i /\ ∀(r:Nat) (p:Addr),us[r]? = some p->G p=some (.lst (Jc m (clr v' j (M.getD r 0))))) ⟨Zh.refl _,[],rfl,rfl,fun r p e=>by simp at e⟩ (fun i zs G ⟨_,us,e,l,_⟩=>by rw [e,List.length_map,l];exact Nat.le_refl _) (fun i zs G x=>Zu.of (x.1 _ _ el4)) (fun i y zs G5 hy x=>?_) (fun zs G5 x E hE=>?_)⟩
     ·obtain ⟨s5,us,rfl,lu,hu⟩:=x
      obtain ⟨p,hp,rfl⟩:=JB hy
      obtain ⟨w',hw,ep⟩:=rq4.2 i p hp
      have e:M.getD i 0=w':=by simp [hw]
      refine lcG ⟨_,rfl,_,rfl,_,rfl,p,q,m,w',v',j,rfl,s5 _ _ ep,s5 _ _ eq4,m8,jm,fun G6 q2 s6 e6=>⟨s5.trans s6,us ++ [q2],by simp,by rw [List.length_append,lu];rfl,fun r u hr=>?_⟩⟩
      by_cases c:r<us.length
      ·rw [List.getElem?_append_left c] at hr
       exact s6 _ _ (hu r u hr)
      ·rw [List.getElem?_append_right (by lia)] at hr
       have e0:r-us.length=0:=by
        have:=(List.getElem?_eq_some_iff.mp hr).1
        simp at this
        lia
       rw [e0] at hr
       cases hr
       rw [show r=i by lia,e]
       exact e6
     ·obtain ⟨s5,us,rfl,lu,hu⟩:=x
      rw [lqr] at lu
      have E4:G4 E=none:=s5.free hE
      have nE:E∉us:=fun h=>by
       obtain ⟨r,hr,e⟩:=List.getElem_of_mem h
       have:=hu r _ (List.getElem?_eq_getElem hr)
       rw [e,hE] at this
       cases this
      have rE:Wv (upd G5 E (.lst (us.map V.ref))) us m (M.map (clr v' j)):=⟨by rw [List.length_map,lu],fun r p e=>by
       have hr:r<M.length:=by rw [<- lu];exact (List.getElem?_eq_some_iff.mp e).1
       refine ⟨clr v' j (M.getD r 0),by simp [hr],?_⟩
       exact (Zh.laid hE) _ _ (hu r p e)⟩
      have eE:upd G5 E (.lst (us.map V.ref)) E=some (.lst (us.map V.ref)):=Zb
      refine ⟨⟨E,us,M.map (clr v' j),f'+1,_,_,rfl,s4.trans (s5.step hE),s4.free E4,eE,rE,nE,by rw [List.length_map];lia,fun u hu=>?_,rk.step hj⟩,?_⟩
      ·obtain ⟨y,hy,rfl⟩:=List.mem_map.mp hu
       have by':=bd' y (List.mem_append_left _ hy)
       unfold clr
       split
       ·exact Nat.xor_lt_two_pow by' hv
       ·exact by'
      ·refine Nat.lt_of_le_of_lt (Nat.le_of_eq (ZfB eE)) ?_
       rw [mu0,List.length_map,List.length_append,lu];exact Nat.lt_succ_self _
  ·rintro σ G5 Q1 Q2 m ⟨v,e1,hz,h⟩
   refine ⟨v,e1,hz,fun c hc=>?_⟩
   obtain ⟨p,q,xs,a1,a2,a3,a4,bb,a5,a6⟩:=h c hc
   exact ⟨p,q,xs,a1,a2,a3,a4,bb,a5,m _ _ a6⟩
structure Grd (H0 G:Hp) (t:Addr) (n:Nat) (f:Nat->Nat->Int) (ts:List Addr):Prop where
 sm:Zh H0 G
 at_:G t=some (.lst (ts.map V.ref))
 len:ts.length=n
 nd:ts.Nodup
 nt:t∉ts
 ft:H0 t=none
 fs:∀r∈ts,H0 r=none
 row:∀r q,ts[r]? = some q->G q=some (.lst (ZT n (f r)))
theorem Grd.step {H0 G G':Hp}{t:Addr}{n:Nat}{f:Nat->Nat->Int}{ts:List Addr} (x:Grd H0 G t n f ts) (s:Zh G G'):Grd H0 G' t n f ts:=⟨x.sm.trans s,s _ _ x.at_,x.len,x.nd,x.nt,x.ft,x.fs,fun r q e=>s _ _ (x.row r q e)⟩
theorem Grd.congr {H0 G:Hp}{t:Addr}{n:Nat}{f g:Nat->Nat->Int}{ts:List Addr} (x:Grd H0 G t n f ts) (h:∀r c,r<n->c<n->f r c=g r c):Grd H0 G t n g ts:=⟨x.sm,x.at_,x.len,x.nd,x.nt,x.ft,x.fs,fun r q e=>by
 have hr:r<n:=by rw [<- x.len];exact (List.getElem?_eq_some_iff.mp e).1
 have:ZT n (g r)=ZT n (f r):=by
  unfold ZT
  congr 1
  exact List.map_congr_left fun c hc=>(h r c hr (List.mem_range.mp hc)).symm
 rw [this]
 exact x.row r q e⟩
theorem Ul {n j:Nat} (f:Nat->Int) (v:Int) (h:j<n):(ZT n f).set j (V.int v)=ZT n fun c=>if c=j then v else f c:=by
 unfold ZT
 rw [<- List.map_set]
 congr 1
 apply List.ext_getElem
 ·simp
 ·intro i h1 h2
  simp only [List.length_set,List.length_map,List.length_range] at h1
  rw [List.getElem_set]
  by_cases e:j=i
  ·subst e;simp
  ·have:i≠j:=fun z=>e z.symm
   simp [e,this]
def ZaH (f:Nat->Nat->Int) (i j:Nat) (v:Int):Nat->Nat->Int:=fun a c=>if a=i/\c=j then v else f a c
theorem Grd.put {H0 G:Hp}{t q:Addr}{n i j:Nat}{f:Nat->Nat->Int}{ts:List Addr}{v:Int} (x:Grd H0 G t n f ts) (hq:ts[i]? = some q) (hj:j<n):Grd H0 (upd G q (.lst ((ZT n (f i)).set j (V.int v)))) t n (ZaH f i j v) ts:=by
 have mq:q∈ts:=List.mem_of_getElem? hq
 have il:=(List.getElem?_eq_some_iff.mp hq).1
 refine ⟨x.sm.put (x.fs q mq),?_,x.len,x.nd,x.nt,x.ft,x.fs,fun r u e=>?_⟩
 ·rw [Zi (fun z=>x.nt (by rw [z];exact mq))];exact x.at_
 ·by_cases c:r=i
  ·subst c
   rw [hq] at e;cases e
   rw [Zb,Ul _ _ hj]
   congr 3
   funext c'
   unfold ZaH
   by_cases e:c'=j
   ·rw [if_pos e,if_pos ⟨rfl,e⟩]
   ·rw [if_neg e,if_neg (fun z=>e z.2)]
  ·have nu:u≠q:=fun z=>by
    subst z
    exact c ((List.getElem?_inj il x.nd).mp (hq.trans e.symm)).symm
   rw [Zi nu,x.row r u e]
   congr 3
   funext c'
   unfold ZaH
   rw [if_neg (fun z=>c z.1)]
theorem Grd.tab {H0 G:Hp}{t:Addr}{n:Nat}{f:Nat->Nat->Int}{ts:List Addr}{T:Nat->Nat} (x:Grd H0 G t n f ts) (h:∀r c,r<n->c<n->f r c=(((T r).testBit c).toNat:Nat)):W4 G t n T ts:=⟨x.at_,x.len,fun r q e=>by
 rw [(x.congr h).row r q e]
 rfl⟩
theorem ZaU {H:Hp}{a:Addr}{n i j:Nat}{T:Nat->Nat}{rs:List Addr} (tb:W4 H a n T rs) (hi:i<n) (hj:j<n):∃q,rs[i]? = some q/\H a=some (.lst (rs.map V.ref))/\H q=some (.lst (Jc n (T i)))/\(Jc n (T i))[j]? = some (.int ((((T i).testBit j).toNat:Nat):Int)):=by
 have h:i<rs.length:=by rw [tb.2.1];exact hi
 refine ⟨rs[i],by simp,tb.1,tb.2.2 i _ (by simp),?_⟩
 show (ZT n _)[j]? = _
 exact Jb _ hj
def bI (T:Nat->Nat) (i j:Nat):Int:=((((T i).testBit j).toNat:Nat):Int)
theorem Za8 (T:Nat->Nat) (i j:Nat):bI T i j=0∨bI T i j=1:=by unfold bI;cases (T i).testBit j<;>simp
theorem ZgA (x y:Bool):(((x.toNat:Nat):Int)+((y.toNat:Nat):Int)) % 2=(((x ^^ y).toNat:Nat):Int):=by cases x<;>cases y<;>rfl
def slT (k a:Nat) (T:Nat->Nat):Nat->Nat:=if a=1 then sT T k (k+1) else T
theorem GJ {k a:Nat}{T:Nat->Nat} (a2:a<2) (r c:Nat):(slT k a T r).testBit c=if a=1 then (if c=k+1 then ((if r=k then T k ^^^ T (k+1) else T r).testBit (k+1) ^^ (if r=k then T k ^^^ T (k+1) else T r).testBit k) else (if r=k then T k ^^^ T (k+1) else T r).testBit c) else (T r).testBit c:=by
 unfold slT
 by_cases e:a=1
 ·rw [if_pos e,if_pos e]
  unfold sT
  rw [GU]
  by_cases c1:c=k+1
  ·subst c1;rw [if_pos rfl]
  ·rw [if_neg c1,if_neg c1]
 ·rw [if_neg e,if_neg e]
theorem Zmb {k a n:Nat}{T:Nat->Nat} (a2:a<2) (kn:k+1<n) (hi:∀r j,r<n->j<=r->(T r).testBit j=false) (z:(T k).testBit (k+1)=false):∀r c,r<n->(c<=r∨(r=k/\c=k+1))->(slT k a T r).testBit c=false:=fun r c hr h=>by
 rw [GJ a2]
 have h1:∀c,c<=k->(T k ^^^ T (k+1)).testBit c=false:=fun c hc=>by rw [Nat.testBit_xor,hi k c (by lia) hc,hi (k+1) c kn (by lia)];rfl
 have h2:(T k ^^^ T (k+1)).testBit (k+1)=false:=by rw [Nat.testBit_xor,z,hi (k+1) (k+1) kn (Nat.le_refl _)];rfl
 by_cases e:a=1
 ·rw [if_pos e]
  by_cases er:r=k
  ·rw [if_pos er]
   by_cases ec:c=k+1
   ·rw [if_pos ec,h2,h1 k (Nat.le_refl _)];rfl
   ·rw [if_neg ec];exact h1 c (by lia)
  ·rw [if_neg er]
   by_cases ec:c=k+1
   ·rw [if_pos ec,hi r (k+1) hr (by lia),hi r k hr (by lia)];rfl
   ·rw [if_neg ec];exact hi r c hr (by lia)
 ·rw [if_neg e]
  rcases h with h | ⟨rfl,rfl⟩
  ·exact hi r c hr h
  ·exact z
theorem Zgh {k a n i j:Nat}{T:Nat->Nat} (a2:a<2) (kn:k+1<n) (hi:∀r j,r<n->j<=r->(T r).testBit j=false) (z:(T k).testBit (k+1)=false) (hin:i<n) (h:j<=i∨(i=k/\j=k+1)):(swT k n (slT k a T) i).testBit j=false:=by
 unfold swT
 rw [Y9,Zmb a2 kn hi z _ _ (JM kn hin) (by unfold YQ;(repeat' split)<;>lia),Bool.and_false]
theorem Zmn {k a n i j:Nat}{T:Nat->Nat} (a2:a<2) (kn:k+1<n) (hij:i<j) (hj:j<n) (ne:¬(i=k/\j=k+1)):
  (bI T (YQ k i) (YQ k j)+(a:Int)*((if i=k+1 then 1 else 0)+(if j=k then 1 else 0))*bI T i j) % 2=bI (swT k n (slT k a T)) i j:=by
 have e1:bI (swT k n (slT k a T)) i j=(((slT k a T (YQ k i)).testBit (YQ k j)).toNat:Nat):=by
  unfold bI swT
  rw [Y9,decide_eq_true hj,Bool.true_and]
 rw [e1,GJ a2]
 have m1:∀x y,bI T x y % 2=bI T x y:=fun x y=>by rcases Za8 T x y with e | e<;>rw [e]<;>rfl
 by_cases e:a=1
 ·subst e
  rw [if_pos rfl]
  by_cases c1:i=k+1
  ·subst c1
   rw [if_pos rfl,if_neg (show ¬j=k by omega),Zb7,UG (show j≠k by omega) (show j≠k+1 by omega),if_neg (show ¬j=k+1 by omega),if_pos rfl,Nat.testBit_xor,<- ZgA]
   show _=(bI T k j+bI T (k+1) j) % 2
   congr 1
   simp
  ·rw [if_neg c1]
   by_cases c2:j=k
   ·subst c2
    rw [if_pos rfl,Zcr,UG (show i≠j by omega) c1,if_pos rfl,if_neg (show ¬i=j by omega),<- ZgA]
    show _=(bI T i (j+1)+bI T i j) % 2
    congr 1
    simp
   ·rw [if_neg c2]
    have s1:YQ k j≠k+1:=by unfold YQ;(repeat' split)<;>omega
    have s2:YQ k i≠k:=by unfold YQ;(repeat' split)<;>omega
    rw [if_neg s1,if_neg s2]
    show _=bI T (YQ k i) (YQ k j)
    simpa using m1 (YQ k i) (YQ k j)
 ·have:a=0:=by omega
  subst this
  rw [if_neg e]
  show _=bI T (YQ k i) (YQ k j)
  simpa using m1 (YQ k i) (YQ k j)
def ncF (k a n:Nat) (T:Nat->Nat) (i j:Nat):Nat->Nat->Int:=fun r c=>if (r<i∨(r=i/\c<j)) then bI (swT k n (slT k a T)) r c else 0
def Zl5:Sp:=fun vs H Q _=>∃(tA:Addr) (n k a:Nat) (T:Nat->Nat) (rs:List Addr),vs = [.ref tA,.int (k:Int),.int (a:Int)]/\W4 H tA n T rs/\n<=8/\k+1<n/\a<2/\(∀r,r<n->T r<2 ^ n)/\(∀r j,r<n->j<=r->(T r).testBit j=false)/\(T k).testBit (k+1)=false /\
 ∀(p:Addr) (ts:List Addr) (H':Hp),H p=none->(∀r∈ts,H r=none)->Zh H H'->W4 H' p n (swT k n (slT k a T)) ts->Q (.ref p) H'
abbrev YS:Stmt:=top 31
theorem ZO:ZH ["_law_table", "_law_k", "_law_number", "_law_many", "_law_other", "_law_found", "_law_i", "_law_j", "_law_here", "_law_more"] ["_law_table", "_law_k", "_law_number"] (Zl YS):={}
theorem ZmC {f:Addr}{fd:FuncData} (F:Jl K "_law_number_cross" "_law_number_cross" YS f fd) (Yi:mg "len" = none) (Yu:mg "list" = none) (ZC:mg "range" = none) (Wj:mg "int" = none):Ys P w K mg base W3 1 f fd ["_law_table", "_law_k", "_law_number"] Zl5:=by
 refine F.ok ZO (fun vs H Q E h=>?_) (fun cdv A outer s H vs Q E hr h=>?_)
 ·obtain ⟨tA,n,k,a,T,rs,rfl,_⟩:=h
  rfl
 ·obtain ⟨tA,n,k,a,T,rs,rfl,tb,n8,kn,a2,bT,hi,z,q⟩:=h
  refine ⟨_,(Ze (Zo (i:=3) ZO.nd rfl (Or.inr rfl) (ZE (Yj (K:=K) rfl) (by rfl) Yi PySem.boot_len (Za (pv 0) Zc)))
   (Ze (Zo (i:=4) ZO.nd rfl (Or.inl rfl) (Yf (ZfI rfl) (by rfl) Yu boot_list (Za (Yf ZbF (by rfl) ZC boot_range (Za (pv 3) Zc)) Zc)))
   (Ze (Yv (ZN (Za (Zj Zw (pv 1) Zd) (Za (pv 1) Zc))) (Ye (K:=K) (n:=2) rfl rfl (Zq (YC (pv 4) (pv 1) set_list) (Zq (YC (pv 4) (Zj Zw (pv 1) Zd) set_list) Z6))))
   (Ze (GZ (i:=5) ZO.nd rfl (Or.inl rfl) (Ls:=["_law_row"]) (Fs:=["_law_many"]) (fi:=[3]) (ZR.of (show Ym ["_law_table", "_law_k", "_law_number", "_law_many", "_law_other", "_law_found", "_law_i", "_law_j", "_law_here", "_law_more"] (Zl YS) _ ["_law_many"] [3]=true by decide +kernel)) rfl (Yb (by rfl) ZC (Za (pv 3) Zc)) (fun cl C s3 H3 ex=>⟨(Zk (i:=0) (show ((["_law_row"]:List Str)++(["_law_many"]:List Str)).Nodup by decide +kernel) rfl (Or.inl rfl)),Yh,(Zj Zbo (ZY (Za Zd Zc)) (pv 1))⟩))
   (Ze (Yc PassesOwn.never rfl (Yb (by rfl) ZC (Za (pv 3) Zc)) (Zk (i:=6) ZO.nd rfl (Or.inl rfl)) (Zg (Yc PassesOwn.never rfl (Zbg (by rfl) ZC (Za (Zj Zw (pv 6) Zd) (Za (pv 3) Zc))) (Zk (i:=7) ZO.nd rfl (Or.inl rfl)) (Ze (Zo (i:=8) ZO.nd rfl (Or.inl rfl) (Zx (Zm (K:=K) rfl) (Zx (Zm (K:=K) rfl) (pv 0) (Zx (Zm (K:=K) rfl) (pv 4) (pv 6) (fun _ _=>rfl)) (fun _ _=>rfl)) (Zx (Zm (K:=K) rfl) (pv 4) (pv 7) (fun _ _=>rfl)) (fun _ _=>rfl)))
   (Ze (Zo (i:=9) ZO.nd rfl (Or.inl rfl) (Zj Jx (Zj Jx (pv 2) (Zj Zw (Yf JP (by rfl) Wj boot_int (Za (Jr YA (pv 6) (Zj Zw (pv 1) Zd) (Zv _)) Zc)) (Yf JP (by rfl) Wj boot_int (Za (Jr YA (pv 7) (pv 1) (Zv _)) Zc)))) (Zx (Zm (K:=K) rfl) (Zx (Zm (K:=K) rfl) (pv 0) (pv 6) (fun _ _=>rfl)) (pv 7) (fun _ _=>rfl))))
   (Zg (ZU (Zr (Zl9 hr.units) (ZN (Za (pv 6) (Za (pv 7) Zc))) (ZN (Za (pv 1) (Za (Zj Zw (pv 1) Zd) Zc))) (Zv _)) (Zg (Yv (Zj JX (Zj Zw (pv 8) (pv 9)) Zd) (YC (Zx (Zm (K:=K) rfl) (pv 5) (pv 6) (fun _ _=>rfl)) (pv 7) set_list))) ZG)))))))
   (Zg (ZD (pv 5)))))))),?_⟩
  have l0:(rs.map V.ref).length=n:=by rw [List.length_map,tb.2.1]
  refine ⟨_,rfl,tA,_,rfl,.inl (Zu.of tb.1),?_⟩
  rw [l0]
  refine ⟨_,rfl,_,rfl,fun rg hrg=>⟨rg,n,rfl,Zb,by lia,fun ot hot=>?_⟩⟩
  have s1:Zh H (upd (upd H rg (.rng 0 (n:Int))) ot (.lst ((upI n).map V.int))):=(Zh.laid hrg).step hot
  have e1:(upd (upd H rg (.rng 0 (n:Int))) ot (.lst ((upI n).map V.int))) ot=some (.lst ((upI n).map V.int)):=Zb
  have fot:H ot=none:=(Zh.laid hrg).free hot
  generalize upd (upd H rg (.rng 0 (n:Int))) ot (.lst ((upI n).map V.int))=H1 at *
  have eup:(upI n).map V.int=ZT n fun c=>(c:Int):=by unfold upI ZT;rfl
  rw [eup] at e1
  refine ⟨_,rfl,_,_,rfl,rfl,_,rfl,by show 2<=sizeLine;decide,fun tp htp=>?_⟩
  have s2:Zh H1 (upd H1 tp (.tup [.int ((k:Int)+1),.int (k:Int)])):=Zh.laid htp
  have etp:(upd H1 tp (.tup [.int ((k:Int)+1),.int (k:Int)])) tp=some (.tup [.int ((k:Int)+1),.int (k:Int)]):=Zb
  have e2:=s2 _ _ e1
  have fo2:H ot=none:=fot
  have sH2:Zh H (upd H1 tp (.tup [.int ((k:Int)+1),.int (k:Int)])):=s1.trans s2
  generalize upd H1 tp (.tup [.int ((k:Int)+1),.int (k:Int)])=H2 at *
  refine ⟨tp,_,rfl,JZ.of etp,rfl,_,_,rfl,_,rfl,_,rfl,ot,_,_,k,rfl,rfl,e2,by rw [Z9];exact YT (by lia),?_⟩
  refine ⟨_,_,rfl,_,rfl,_,rfl,_,_,rfl,rfl,ot,_,_,k+1,rfl,rfl,Zb,by rw [List.length_set,Z9];exact YT (by lia),rfl,?_⟩
  rw [J7,Ul (v:=(k:Int)+1) _ (show k<n by lia),Ul (v:=(k:Int)) _ (show k+1<n from kn)]
  have eF:(ZT n fun c=>if c=k+1 then (k:Int) else if c=k then (k:Int)+1 else (c:Int))=ZT n fun c=>(YQ k c:Int):=by
   unfold ZT
   congr 1
   refine List.map_congr_left fun c _=>?_
   unfold YQ
   by_cases c1:c=k
   ·subst c1;rw [if_neg (by lia),if_pos rfl,if_pos rfl];rfl
   ·by_cases c2:c=k+1
    ·rw [if_pos c2,if_neg c1,if_pos c2]
    ·rw [if_neg c2,if_neg c1,if_neg c1,if_neg c2]
  rw [eF]
  have s3:Zh H (upd H2 ot (.lst (ZT n fun c=>(YQ k c:Int)))):=sH2.put fot
  have e3:(upd H2 ot (.lst (ZT n fun c=>(YQ k c:Int)))) ot=some (.lst (ZT n fun c=>(YQ k c:Int))):=Zb
  generalize upd H2 ot (.lst (ZT n fun c=>(YQ k c:Int)))=H3 at *
  refine ⟨_,rfl,n,rfl,by lia,by lia,Zav (n:=n) (by rw [sizeLine_eq];lia) (fun i zs G=>NR H3 G (fun _=>ZT n fun _=>0) i zs) (NR.nil _ _) (fun _ _ _ x=>x.len) (fun i zs G hi' x=>?_) (fun zs G x D hD=>?_)⟩
  ·refine lcG ⟨(by show 1<=sizeLine;decide),fun c hc=>⟨_,rfl,c,_,_,rfl,rfl,Zb,by lia,by lia,(by rw [sizeLine_eq];simp;lia),fun q hq=>?_⟩⟩
   have er:(List.replicate (n:Int).toNat [V.int 0]).flatten=ZT n fun _=>0:=by
    rw [Int.toNat_natCast,List.flatten_replicate_singleton]
    unfold ZT
    refine (List.eq_replicate_iff.mpr ⟨by simp,fun b hb=>?_⟩).symm
    obtain ⟨_,h2,rfl⟩:=List.mem_map.mp hb
    obtain ⟨_,_,rfl⟩:=List.mem_map.mp h2
    rfl
   rw [er]
   have sc:=Zh.laid (o:=.lst [.int 0]) hc
   exact x.step (sc.step hq) (sc.free hq) Zb
  obtain ⟨sD,fD,ts,rfl,lt,nd,nt,fr,eD,ets⟩:=x.done hD
  have g0:Grd H3 (upd G D (.lst (ts.map V.ref))) D n (ncF k a n T 0 0) ts:=Grd.congr ⟨sD,eD,lt,nd,nt,fD,fr,ets⟩ fun r c _ _=>by
   unfold ncF;rw [if_neg (by lia)]
  generalize upd G D (.lst (ts.map V.ref))=G0 at *
  have fDH:H D=none:=s3.free fD
  refine ⟨_,rfl,n,rfl,by lia,by lia,YG (n:=n) (fun i σ G=>∃v6 v7 v8 v9:Option V,σ = [some (.ref tA),some (.int (k:Int)),some (.int (a:Int)),some (.int (n:Int)),some (.ref ot),some (.ref D),v6,v7,v8,v9]/\Grd H3 G D n (ncF k a n T i 0) ts) ⟨none,none,none,none,rfl,g0⟩ ?_ ?_⟩
  rotate_left
  ·rintro σ G1 ⟨v6,v7,v8,v9,rfl,g⟩
   refine ⟨_,rfl,q D ts G1 fDH (fun r hr=>s3.free (g.fs r hr)) (s3.trans g.sm) (g.tab fun r c hr hc=>?_)⟩
   unfold ncF
   rw [if_pos (.inl hr)]
   rfl
  rintro i σ G1 hi' ⟨v6,v7,v8,v9,rfl,g⟩
  have hi':i<n:=by simpa using hi'
  refine ⟨_,rfl,_,_,rfl,rfl,_,rfl,_,_,rfl,⟨by lia,by lia,by lia,by lia⟩,?_⟩
  refine YG (fun c σ G=>∃v7 v8 v9:Option V,σ = [some (.ref tA),some (.int (k:Int)),some (.int (a:Int)),some (.int (n:Int)),some (.ref ot),some (.ref D),some (.int (0+(i:Int))),v7,v8,v9]/\Grd H3 G D n (ncF k a n T i (i+1+c)) ts) ⟨_,_,_,rfl,g.congr fun r c _ _=>?_⟩ ?_ ?_
  ·unfold ncF
   by_cases c1:r<i
   ·rw [if_pos (.inl c1),if_pos (.inl c1)]
   ·rw [if_neg (by lia)]
    by_cases c2:r=i/\c<i+1
    ·rw [if_pos (.inr (by lia))]
     unfold bI
     rw [Zgh a2 kn hi z (by lia) (.inl (by lia))];rfl
    ·rw [if_neg (by lia)]
  rotate_left
  ·rintro σ G2 ⟨v7,v8,v9,rfl,g2⟩
   refine ⟨_,_,_,_,rfl,g2.congr fun r c hr hc=>?_⟩
   have ec:i+1+((n:Int)-(0+(i:Int)+1)).toNat=n:=by lia
   unfold ncF
   by_cases c1:r<i+1
   ·rw [if_pos (by lia),if_pos (.inl c1)]
   ·rw [if_neg (by lia),if_neg (by lia)]
  rintro c σ G2 hc ⟨v7,v8,v9,rfl,g2⟩
  obtain ⟨j,hj⟩:∃j,j=i+1+c:=⟨_,rfl⟩
  have hjn:j<n:=by lia
  have ej:(0+(i:Int)+1+(c:Int))=(j:Int):=by lia
  have ei:(0+(i:Int))=(i:Int):=by lia
  (try dsimp only)
  rw [ej,ei]
  rw [<- hj] at g2
  have sG:=s3.trans g2.sm
  have tb2:=tb.same sG
  have ot2:=g2.sm _ _ e3
  obtain ⟨qa,ra,ta,xa,ya⟩:=ZaU tb2 (JM kn hi') (JM kn hjn)
  obtain ⟨qb,rb,_,xb,yb⟩:=ZaU tb2 hi' hjn
  have rfA:(rs.map V.ref)[YQ k i]? = some (.ref qa):=by rw [List.getElem?_map,ra];rfl
  have rfB:(rs.map V.ref)[i]? = some (.ref qb):=by rw [List.getElem?_map,rb];rfl
  refine ⟨_,rfl,_,rfl,_,rfl,ot,_,_,_,rfl,rfl,Zu.of ot2,Zp (Jb _ hi'),tA,_,_,_,rfl,rfl,Zu.of ta,Zp rfA,_,rfl,_,rfl,ot,_,_,_,rfl,rfl,Zu.of ot2,Zp (Jb _ hjn),qa,_,_,_,rfl,rfl,Zu.of xa,Zp ya,?_⟩
  have cm:∀x y:Int,(x=0∨x=1)->Zg0 x y:=fun x y h=>.inl (by rcases h with rfl | rfl<;>exact ⟨by decide,by decide⟩)
  have aa:(a:Int)=0∨(a:Int)=1:=by lia
  refine ⟨_,rfl,_,rfl,_,rfl,_,_,rfl,rfl,rfl,.inr ⟨_,rfl,_,rfl,_,rfl,rfl,.inr ⟨_,rfl,_,_,rfl,rfl,_,_,rfl,rfl,cm _ _ aa,?_⟩⟩⟩
  refine ⟨_,rfl,_,rfl,tA,_,_,_,rfl,rfl,Zu.of ta,Zp rfB,_,rfl,qb,_,_,_,rfl,rfl,Zu.of xb,Zp yb,_,_,rfl,rfl,.inr (by
   rcases Za8 T i j with e | e<;>unfold bI at e<;>rw [e]<;>exact ⟨by decide,by decide⟩),?_⟩
  have d1:decide (V.int (i:Int)=V.int ((k:Int)+1))=decide (i=k+1):=decide_eq_decide.mpr ⟨fun z=>by have:=V.int.inj z;lia,fun z=>by rw [z];rfl⟩
  have d2:decide (V.int (j:Int)=V.int (k:Int))=decide (j=k):=decide_eq_decide.mpr ⟨fun z=>by have:=V.int.inj z;lia,fun z=>by rw [z]⟩
  (try dsimp only)
  rw [d1,d2]
  refine ⟨_,rfl,_,rfl,by show 2<=sizeLine;decide,fun w1 hw1=>?_⟩
  refine ⟨_,rfl,_,rfl,_,_,rfl,rfl,by show 2<=sizeLine;decide,fun w2 hw2=>?_⟩
  have s5:Zh G2 (upd (upd G2 w1 (.tup [.int (i:Int),.int (j:Int)])) w2 (.tup [.int (k:Int),.int ((k:Int)+1)])):=(Zh.laid hw1).step hw2
  have x1:(upd (upd G2 w1 (.tup [.int (i:Int),.int (j:Int)])) w2 (.tup [.int (k:Int),.int ((k:Int)+1)])) w1=some (.tup [.int (i:Int),.int (j:Int)]):=(Zh.laid hw2) _ _ Zb
  have x2:(upd (upd G2 w1 (.tup [.int (i:Int),.int (j:Int)])) w2 (.tup [.int (k:Int),.int ((k:Int)+1)])) w2=some (.tup [.int (k:Int),.int ((k:Int)+1)]):=Zb
  generalize upd (upd G2 w1 (.tup [.int (i:Int),.int (j:Int)])) w2 (.tup [.int (k:Int),.int ((k:Int)+1)])=G3 at *
  have g3:=g2.step s5
  refine ⟨[(i:Int),(j:Int)],[(k:Int),(k:Int)+1],⟨w1,rfl,x1⟩,⟨w2,rfl,x2⟩,_,rfl,?_⟩
  have ecc:i+1+(c+1)=j+1:=by lia
  by_cases ne:i=k/\j=k+1
  ·rw [decide_eq_false (show ¬([(i:Int),(j:Int)] ≠ [(k:Int),(k:Int)+1]) from fun y=>y (by rw [ne.1,ne.2];rfl))]
   refine Jq ⟨_,_,_,rfl,g3.congr fun r c' hr' hc'=>?_⟩
   rw [ecc]
   unfold ncF
   by_cases c1:r=i/\c'=j
   ·rw [if_neg (by lia),if_pos (by lia)]
    unfold bI
    rw [Zgh a2 kn hi z hr' (.inr (by lia))];rfl
   ·by_cases c2:r<i∨(r=i/\c'<j)
    ·rw [if_pos c2,if_pos (by lia)]
    ·rw [if_neg c2,if_neg (by lia)]
  ·rw [decide_eq_true (show [(i:Int),(j:Int)] ≠ [(k:Int),(k:Int)+1] from fun y=>ne (by
    have h1:=(List.cons.inj y).1
    have h2:=(List.cons.inj (List.cons.inj y).2).1
    lia))]
   have ev:=Zmn (T:=T) a2 kn (show i<j by lia) hjn ne
   have hti:i<ts.length:=by rw [lt];exact hi'
   refine Wh ⟨_,rfl,_,rfl,_,_,rfl,rfl,_,_,rfl,rfl,(by decide:(0:Int)<2),?_⟩
   refine ⟨_,rfl,_,rfl,D,_,_,_,rfl,rfl,Zu.of g3.at_,Zp (show (ts.map V.ref)[i]? = some (.ref ts[i]) by simp [hti]),_,rfl,ts[i],_,_,j,rfl,rfl,g3.row i _ (by simp),by rw [Z9];exact YT hjn,?_⟩
   refine ⟨_,_,_,rfl,Grd.congr (g3.put (i:=i) (by simp) hjn) fun r c' hr' hc'=>?_⟩
   rw [ecc]
   unfold ZaH
   by_cases c1:r=i/\c'=j
   ·rw [if_pos c1,c1.1,c1.2]
    have e9:ncF k a n T i (j+1) i j=bI (swT k n (slT k a T)) i j:=by unfold ncF;rw [if_pos (Or.inr ⟨rfl,by lia⟩)]
    rw [e9,<- ev]
    simp only [decide_eq_true_eq]
    rfl
   ·rw [if_neg c1]
    unfold ncF
    by_cases c2:r<i∨(r=i/\c'<j)
    ·rw [if_pos c2,if_pos (by lia)]
    ·rw [if_neg c2,if_neg (by lia)]
def lf (k i:Nat):List Nat:=(List.range i).filter fun c=>decide (c≠k)&&decide (c≠k+1)
theorem ZaQ (k i:Nat):lf k (i+1)=lf k i++(if (decide (i≠k)&&decide (i≠k+1))=true then [i] else []):=by
 unfold lf
 rw [List.range_succ,List.filter_append]
 congr 1
 by_cases c:(decide (i≠k)&&decide (i≠k+1))=true
 ·rw [if_pos c];simp only [List.filter_cons,c,List.filter_nil,if_true]
 ·have c':(decide (i≠k)&&decide (i≠k+1))=false:=by simpa using c
  rw [if_neg c];simp only [List.filter_cons,c',List.filter_nil,Bool.false_eq_true,if_false]
theorem ZiN {k:Nat}:∀i,i<=k->lf k i=List.range i
 | 0,_=>rfl
 | i+1,h=>by
  rw [ZaQ,ZiN i (by lia),if_pos (by simp;lia),List.range_succ]
theorem Znc {k:Nat}:∀n,k<=n->lf k (n+2)=(List.range n).map (Zs k)
 | n,h=>by
  have base:lf k (k+2)=(List.range k).map (Zs k):=by
   rw [ZaQ,ZaQ,ZiN k (Nat.le_refl _),if_neg (by simp),if_neg (by simp),List.append_nil,List.append_nil]
   symm
   refine (List.map_congr_left (g:=id) fun c hc=>?_).trans (List.map_id _)
   exact if_pos (List.mem_range.mp hc)
  obtain ⟨d,rfl⟩:∃d,n=k+d:=⟨n-k,by lia⟩
  induction d with
  | zero=>exact base
  | succ d ih=>
   have e:=ZaQ k (k+d+2)
   rw [ih (by lia),if_pos (by simp;lia)] at e
   show lf k (k+d+2+1)=_
   rw [e,show k+(d+1)=k+d+1 by lia,List.range_succ,List.map_append]
   congr 2
   unfold Zs
   rw [if_neg (by lia)]
def lfV (k n:Nat):List V:=ZT n fun c=>(Zs k c:Int)
theorem Zh2 {k n:Nat} (h:k<=n):(lf k (n+2)).map (fun (c:Nat)=>V.int (c:Int))=lfV k n:=by
 rw [Znc n h]
 unfold lfV ZT
 rw [List.map_map,List.map_map]
 rfl
def bnF (k n:Nat) (T:Nat->Nat) (i j:Nat):Nat->Nat->Int:=fun r c=>if r≠k/\r≠k+1/\c≠k/\c≠k+1/\(YL k r<i∨(YL k r=i/\YL k c<j)) then bI T (YL k r) (YL k c) else 0
theorem Zli {k n i j:Nat}{T:Nat->Nat} (hj:j<n):∀r c,ZaH (bnF k n T i j) (Zs k i) (Zs k j) (bI T i j) r c=bnF k n T i (j+1) r c:=fun r c=>by
 unfold ZaH bnF
 by_cases e:r=Zs k i/\c=Zs k j
 ·rw [if_pos e,e.1,e.2,Zag,Zag,if_pos ⟨(Ji k i).1,(Ji k i).2,(Ji k j).1,(Ji k j).2,.inr ⟨rfl,by lia⟩⟩]
 ·rw [if_neg e]
  by_cases c1:r≠k/\r≠k+1/\c≠k/\c≠k+1/\(YL k r<i∨(YL k r=i/\YL k c<j))
  ·rw [if_pos c1,if_pos (by lia)]
  ·rw [if_neg c1,if_neg (fun z=>?_)]
   obtain ⟨z1,z2,z3,z4,z5⟩:=z
   rcases z5 with z5 | ⟨z5,z6⟩
   ·exact c1 ⟨z1,z2,z3,z4,.inl z5⟩
   ·by_cases z7:YL k c<j
    ·exact c1 ⟨z1,z2,z3,z4,.inr ⟨z5,z7⟩⟩
    ·refine e ⟨by rw [<- z5,UH z1 z2],?_⟩
     rw [<- show YL k c=j by lia,UH z3 z4]
theorem Zme {k n:Nat}{T:Nat->Nat} (hk:k<=n) {r c:Nat} (hr:r<n+2) (hc:c<n+2):ZaH (bnF k n T n 0) k (k+1) 1 r c=bI (Gx k n T) r c:=by
 unfold ZaH bI Gx
 by_cases e:r=k/\c=k+1
 ·rw [if_pos e,if_pos e.1,e.2,Jj,decide_eq_true rfl];rfl
 ·rw [if_neg e]
  unfold bnF
  by_cases r0:r=k
  ·rw [if_neg (by lia),if_pos r0,Jj,decide_eq_false (show ¬k+1=c by lia)];rfl
  ·rw [if_neg r0]
   by_cases r1:r=k+1
   ·rw [if_neg (by lia),if_pos r1];simp
   ·rw [if_neg r1,We,decide_eq_true hc,Bool.true_and]
    have hd:=GY hr r0 r1 hk
    by_cases c0:c=k∨c=k+1
    ·rw [if_neg (by lia),if_neg (show ¬c<k by lia),if_pos (show c<k+2 by lia)];rfl
    ·rw [if_pos ⟨r0,r1,by lia,by lia,.inl hd⟩]
     have ed:YL k c=if c<k then c else c-2:=rfl
     by_cases c1:c<k
     ·rw [if_pos c1,ed,if_pos c1];rfl
     ·rw [if_neg c1,if_neg (show ¬c<k+2 by lia),ed,if_neg c1];rfl
def enF (k a n:Nat) (T:Nat->Nat) (i j:Nat):Nat->Nat->Int:=fun r c=>if (r<i∨(r=i/\c<j)) then bI (ZbJ k n (slT k a T)) r c else bI T (Zs k r) (Zs k c)
theorem ZiZ {k a n:Nat}{T:Nat->Nat} (a2:a<2) {r c:Nat} (hc:c<n):bI (ZbJ k n (slT k a T)) r c=(bI T (Zs k r) (Zs k c)+(bI T (Zs k r) (k+1)+(a:Int)*bI T (Zs k r) k)*(bI T k (Zs k c)+(a:Int)*bI T (k+1) (Zs k c))) % 2:=by
 have u1:=Ji k r
 have u2:=Ji k c
 unfold bI ZbJ
 rw [YU,decide_eq_true hc,Bool.true_and,GJ a2,GJ a2,GJ a2]
 by_cases e:a=1
 ·subst e
  rw [if_pos rfl,if_pos rfl,if_pos rfl,if_neg u2.2,if_pos rfl,if_neg u2.2,if_neg u1.1,if_pos rfl,Nat.testBit_xor]
  cases (T (Zs k r)).testBit (Zs k c)<;>cases (T (Zs k r)).testBit (k+1)<;>cases (T (Zs k r)).testBit k<;>cases (T k).testBit (Zs k c)<;>cases (T (k+1)).testBit (Zs k c)<;>rfl
 ·have:a=0:=by omega
  subst this
  rw [if_neg e,if_neg e,if_neg e]
  cases (T (Zs k r)).testBit (Zs k c)<;>cases (T (Zs k r)).testBit (k+1)<;>cases (T (Zs k r)).testBit k<;>cases (T k).testBit (Zs k c)<;>cases (T (k+1)).testBit (Zs k c)<;>rfl
theorem Zki {k a n:Nat}{T:Nat->Nat} (a2:a<2) (kn:k+1<n+2) (hi:∀r j,r<n+2->j<=r->(T r).testBit j=false) {r c:Nat} (hr:r<n) (hc:c<n) (h:¬(Zs k r<k/\k<Zs k c)):bI (ZbJ k n (slT k a T)) r c=bI T (Zs k r) (Zs k c):=by
 rw [ZiZ a2 hc]
 have u1:=Ji k r
 have u2:=Ji k c
 have z:(bI T (Zs k r) (k+1)+(a:Int)*bI T (Zs k r) k)*(bI T k (Zs k c)+(a:Int)*bI T (k+1) (Zs k c))=0:=by
  by_cases h1:Zs k r<k
  ·have e1:bI T k (Zs k c)=0:=by unfold bI;rw [hi k _ (by lia) (by lia)];rfl
   have e2:bI T (k+1) (Zs k c)=0:=by unfold bI;rw [hi (k+1) _ kn (by lia)];rfl
   rw [e1,e2];simp
  ·have e1:bI T (Zs k r) (k+1)=0:=by unfold bI;rw [hi _ _ (Jh hr) (by lia)];rfl
   have e2:bI T (Zs k r) k=0:=by unfold bI;rw [hi _ _ (Jh hr) (by lia)];rfl
   rw [e1,e2];simp
 rw [z]
 rcases Za8 T (Zs k r) (Zs k c) with e | e<;>rw [e]<;>rfl
def nxT (x:Str) (k a n:Nat) (T:Nat->Nat):Nat->Nat:=if x = "born" then Gx k n T else if x = "cross" then swT k n (slT k a T) else ZbJ k (n-2) (slT k a T)
def nxM (x:Str) (n:Nat):Nat:=if x = "born" then n+2 else if x = "cross" then n else n-2
def Zlz:Sp:=fun vs H Q _=>∃(tA lA:Addr) (n k a:Nat) (x:Str) (T:Nat->Nat) (rs:List Addr),vs = [.ref tA,.ref lA,.int (a:Int)]/\W4 H tA n T rs/\H lA=some (.tup [.str x,.int (k:Int)])/\n<=8/\a<2/\(∀r,r<n->T r<2 ^ n)/\(∀r j,r<n->j<=r->(T r).testBit j=false)/\((x = "born" /\ k<=n/\n<=6)∨(x = "cross" /\ k+1<n/\(T k).testBit (k+1)=false)∨(x = "end" /\ k+1<n)) /\
 ∀(p:Addr) (ts:List Addr) (H':Hp),H p=none->(∀r∈ts,H r=none)->Zh H H'->W4 H' p (nxM x n) (nxT x k a n T) ts->Q (.ref p) H'
abbrev Z0:Stmt:=top 30
theorem Zn:ZH ["_law_table", "_law_letter", "_law_number", "_law_word", "_law_k", "_law_many", "_law_found", "_law_left", "_law_i", "_law_row", "_law_j", "_law_one", "_law_column", "_law_two"] ["_law_table", "_law_letter", "_law_number"] (Zl Z0):={}
theorem ZmH {f:Addr}{fd:FuncData} (F:Jl K "_law_number_table" "_law_number_table" Z0 f fd) (Jv:Jm P w K mg base 1 "_law_number_cross" ["_law_table", "_law_k", "_law_number"] Zl5) (Yi:mg "len" = none) (ZA:mg "enumerate" = none) (ZC:mg "range" = none):Ys P w K mg base W3 2 f fd ["_law_table", "_law_letter", "_law_number"] Zlz:=by
 refine F.ok Zn (fun vs H Q E h=>?_) (fun cdv A outer s H vs Q E hr h=>?_)
 ·obtain ⟨tA,lA,n,k,a,x,T,rs,rfl,_⟩:=h
  rfl
 ·obtain ⟨tA,lA,n,k,a,x,T,rs,rfl,tb,hlA,n8,a2,bT,hi,ft,q⟩:=h
  refine ⟨_,(Ze (Yv (pv 1) (Ye (K:=K) (n:=2) rfl rfl (Zq (Zk (i:=3) Zn.nd rfl (Or.inl rfl)) (Zq (Zk (i:=4) Zn.nd rfl (Or.inr rfl)) Z6))))
   (Ze (Zo (i:=5) Zn.nd rfl (Or.inr rfl) (ZE (Yj (K:=K) rfl) (by rfl) Yi PySem.boot_len (Za (pv 0) Zc)))
   (Ze (ZU (Zr YA (pv 3) ZK (Zv _)) (Ze (GZ (i:=6) Zn.nd rfl (Or.inl rfl) (Ls:=["_law_row"]) (Fs:=["_law_many"]) (fi:=[5]) (ZR.of (show Ym ["_law_table", "_law_letter", "_law_number", "_law_word", "_law_k", "_law_many", "_law_found", "_law_left", "_law_i", "_law_row", "_law_j", "_law_one", "_law_column", "_law_two"] (Zl Z0) _ ["_law_many"] [5]=true by decide +kernel)) rfl (Yb (by rfl) ZC (Za (Zj Zw (pv 5) Zd) Zc)) (fun cl C s3 H3 ex=>⟨(Zk (i:=0) (show ((["_law_row"]:List Str)++(["_law_many"]:List Str)).Nodup by decide +kernel) rfl (Or.inl rfl)),Yh,(Zj Zbo (ZY (Za Zd Zc)) (Zj Zw (pv 1) Zd))⟩))
   (Ze (Zo (i:=7) Zn.nd rfl (Or.inr rfl) (Gz (Ls:=["_law_strand"]) (Fs:=["_law_k"]) (fi:=[4]) (ZR.of (show Ym ["_law_table", "_law_letter", "_law_number", "_law_word", "_law_k", "_law_many", "_law_found", "_law_left", "_law_i", "_law_row", "_law_j", "_law_one", "_law_column", "_law_two"] (Zl Z0) _ ["_law_k"] [4]=true by decide +kernel)) rfl (Yb (by rfl) ZC (Za (Zj Zw (pv 5) Zd) Zc)) (fun cl C s3 H3 ex=>⟨(Zk (i:=0) (show ((["_law_strand"]:List Str)++(["_law_k"]:List Str)).Nodup by decide +kernel) rfl (Or.inl rfl)),(ZbU (PW.pt (Gj (Zr UO (pv 0) (pv 1) (Zv _)) (Gi (Zr UO (pv 0) (Zj Zw (pv 1) Zd) (Zv _)))))),(pv 0)⟩)))
   (Ze (Yc PassesOwn.never rfl (JE (K:=K) rfl (by rfl) ZA (Za (pv 0) Zc)) (Ye (K:=K) (n:=2) rfl rfl (Zq (Zk (i:=8) Zn.nd rfl (Or.inl rfl)) (Zq (Zk (i:=9) Zn.nd rfl (Or.inl rfl)) Z6))) (Zg (Yc PassesOwn.never rfl (JE (K:=K) rfl (by rfl) ZA (Za (pv 9) Zc)) (Ye (K:=K) (n:=2) rfl rfl (Zq (Zk (i:=10) Zn.nd rfl (Or.inl rfl)) (Zq (Zk (i:=11) Zn.nd rfl (Or.inl rfl)) Z6))) (Zg (Yv (pv 11) (YC (Zx (Zm (K:=K) rfl) (pv 6) (Zx (Zm (K:=K) rfl) (pv 7) (pv 8) (fun _ _=>rfl)) (fun _ _=>rfl)) (Zx (Zm (K:=K) rfl) (pv 7) (pv 10) (fun _ _=>rfl)) set_list))))))
   (Ze (Yv Zd (YC (Zx (Zm (K:=K) rfl) (pv 6) (pv 4) (fun _ _=>rfl)) (Zj Zw (pv 4) Zd) set_list))
   (Zg (ZD (pv 6))))))) ZG)
   (Ze (ZU (Zr YA (pv 3) ZK (Zv _)) (Zg (ZD (Zz Jv hr (Za (pv 0) (Za (pv 4) (Za (pv 2) Zc)))))) ZG)
   (Ze (Zo (i:=7) Zn.nd rfl (Or.inr rfl) (Gz (Ls:=["_law_strand"]) (Fs:=["_law_k"]) (fi:=[4]) (ZR.of (show Ym ["_law_table", "_law_letter", "_law_number", "_law_word", "_law_k", "_law_many", "_law_found", "_law_left", "_law_i", "_law_row", "_law_j", "_law_one", "_law_column", "_law_two"] (Zl Z0) _ ["_law_k"] [4]=true by decide +kernel)) rfl (Yb (by rfl) ZC (Za (pv 5) Zc)) (fun cl C s3 H3 ex=>⟨(Zk (i:=0) (show ((["_law_strand"]:List Str)++(["_law_k"]:List Str)).Nodup by decide +kernel) rfl (Or.inl rfl)),(ZbU (PW.pt (Zad (Zr ZaC (pv 0) (pv 1) (Zv _)) (Uq (Zr Uu (pv 0) (Zj Zw (pv 1) Zd) (Zv _)))))),(pv 0)⟩)))
   (Ze (ZlR (i:=6) Zn.nd rfl (Or.inl rfl) (Ls:=["_law_i"]) (Fs:=["_law_left", "_law_table"]) (fi:=[7,0]) (UL.of (show ZdA ["_law_table", "_law_letter", "_law_number", "_law_word", "_law_k", "_law_many", "_law_found", "_law_left", "_law_i", "_law_row", "_law_j", "_law_one", "_law_column", "_law_two"] (Zl Z0) _ ["_law_left", "_law_table"] [7,0]=true by decide +kernel)) rfl (Z8 (K:=K) rfl (pv 7)) (fun cl C s3 H3 ex=>⟨(Zk (i:=0) (show ((["_law_i"]:List Str)++(["_law_left", "_law_table"]:List Str)).Nodup by decide +kernel) rfl (Or.inr rfl)),Yh,(Gz (Ls:=["_law_j"]) (Fs:=["_law_table", "_law_i"]) (fi:=[2,0]) (ZR.of (by rfl)) rfl (Z8 (K:=K) rfl (pv 1)) (fun cl C s3 H3 ex=>⟨(Zk (i:=0) (show ((["_law_j"]:List Str)++(["_law_table", "_law_i"]:List Str)).Nodup by decide +kernel) rfl (Or.inl rfl)),Yh,(Zx (Zm (K:=K) rfl) (Zx (Zm (K:=K) rfl) (pv 1) (pv 2) (fun _ _=>rfl)) (pv 0) (fun _ _=>rfl))⟩))⟩))
   (Ze (Yc PassesOwn.never rfl (JE (K:=K) rfl (by rfl) ZA (Za (pv 7) Zc)) (Ye (K:=K) (n:=2) rfl rfl (Zq (Zk (i:=9) Zn.nd rfl (Or.inl rfl)) (Zq (Zk (i:=8) Zn.nd rfl (Or.inl rfl)) Z6))) (Zg (Yc PassesOwn.never rfl (JE (K:=K) rfl (by rfl) ZA (Za (pv 7) Zc)) (Ye (K:=K) (n:=2) rfl rfl (Zq (Zk (i:=12) Zn.nd rfl (Or.inl rfl)) (Zq (Zk (i:=10) Zn.nd rfl (Or.inl rfl)) Z6))) (Zg (ZU (ZeE ZaC ZaC (pv 8) (pv 4) (pv 10)) (Ze (Zo (i:=11) Zn.nd rfl (Or.inl rfl) (Zj Zw (Zx (Zm (K:=K) rfl) (Zx (Zm (K:=K) rfl) (pv 0) (pv 8) (fun _ _=>rfl)) (Zj Zw (pv 4) Zd) (fun _ _=>rfl)) (Zj Jx (pv 2) (Zx (Zm (K:=K) rfl) (Zx (Zm (K:=K) rfl) (pv 0) (pv 8) (fun _ _=>rfl)) (pv 4) (fun _ _=>rfl)))))
   (Ze (Zo (i:=13) Zn.nd rfl (Or.inl rfl) (Zj Zw (Zx (Zm (K:=K) rfl) (Zx (Zm (K:=K) rfl) (pv 0) (pv 4) (fun _ _=>rfl)) (pv 10) (fun _ _=>rfl)) (Zj Jx (pv 2) (Zx (Zm (K:=K) rfl) (Zx (Zm (K:=K) rfl) (pv 0) (Zj Zw (pv 4) Zd) (fun _ _=>rfl)) (pv 10) (fun _ _=>rfl)))))
   (Zg (Yv (Zj JX (Zj Zw (Zx (Zm (K:=K) rfl) (Zx (Zm (K:=K) rfl) (pv 0) (pv 8) (fun _ _=>rfl)) (pv 10) (fun _ _=>rfl)) (Zj Jx (pv 11) (pv 13))) Zd) (YC (Zx (Zm (K:=K) rfl) (pv 6) (pv 9) (fun _ _=>rfl)) (pv 12) set_list))))) ZG)))))
   (Zg (ZD (pv 6)))))))))),?_⟩
  have l0:(rs.map V.ref).length=n:=by rw [List.length_map,tb.2.1]
  refine ⟨_,rfl,lA,_,rfl,JZ.of hlA,rfl,_,_,rfl,_,_,rfl,rfl,?_⟩
  refine ⟨_,rfl,tA,_,rfl,.inl (Zu.of tb.1),?_⟩
  rw [l0]
  refine ⟨_,rfl,rfl,_,rfl,?_⟩
  have left:∀(m:Nat) (G:Hp) (σ:L2.St) (tc:TT) (Q':VK),(∀(i:Nat) (G':Hp) (K':Bool->Hp->Prop),K' (decide (i≠k)&&decide (i≠k+1)) G'->tc (σ.set 0 (some (.int (0+(i:Int))))) G' K')->m<=100 -> σ.length=2 ->
    (∀(D:Addr) (G':Hp),G D=none->Zh G G'->G' D=some (.lst ((lf k m).map fun (c:Nat)=>V.int (c:Int)))->Q' (.ref D) G')->LcW (Itr 0 m) σ (W0 0) tc (ZdP 0) G Q':=fun m G σ tc Q' htc hm hσ hQ=>by
   refine Zav (n:=m) (by rw [sizeLine_eq];lia) (fun i zs G'=>Zh G G'/\zs=(lf k i).map fun (c:Nat)=>V.int (c:Int)) ⟨Zh.refl _,rfl⟩ (fun i zs G' z=>by
    rw [z.2,List.length_map]
    unfold lf
    exact Nat.le_trans (List.length_filter_le _ _) (by rw [List.length_range];exact Nat.le_refl _)) (fun i zs G' hi' z=>?_) (fun zs G' z D hD=>?_)
   ·obtain ⟨sG,rfl⟩:=z
    refine htc i G' _ ?_
    have e:=ZaQ k i
    by_cases c:(decide (i≠k)&&decide (i≠k+1))=true
    ·rw [if_pos c] at e
     rw [c]
     refine Wh ⟨_,(by rw [List.getElem?_set_self (by lia)]),sG,?_⟩
     rw [e,List.map_append]
     show _ ++ [V.int (0+(i:Int))]=_ ++ [V.int (i:Int)]
     rw [Int.zero_add]
    ·rw [if_neg c] at e
     have c':(decide (i≠k)&&decide (i≠k+1))=false:=by simpa using c
     rw [c']
     refine Jq ⟨sG,?_⟩
     rw [e,List.append_nil]
   ·obtain ⟨sG,rfl⟩:=z
    exact hQ D _ (sG.free hD) (sG.step hD) Zb
  rcases ft with ⟨rfl,hk,n6⟩ | ⟨rfl,hk,z⟩ | ⟨rfl,hk⟩
  ·refine Y0 (fun _=>?_) (fun y=>absurd (decide_eq_true rfl) y)
   have e2:((n:Int)+2).toNat=n+2:=by lia
   refine ⟨_,rfl,_,_,rfl,rfl,_,rfl,by lia,by lia,?_⟩
   (try dsimp only)
   rw [e2]
   refine Zav (n:=n+2) (by rw [sizeLine_eq];lia) (fun i zs G=>NR H G (fun _=>ZT (n+2) fun _=>0) i zs) (NR.nil _ _) (fun _ _ _ x=>x.len) (fun i zs G hi' x=>?_) (fun zs G x D hD=>?_)
   ·refine lcG ⟨(by show 1<=sizeLine;decide),fun c hc=>⟨_,rfl,_,_,rfl,rfl,c,_,_,rfl,rfl,Zb,by lia,by lia,(by rw [sizeLine_eq,e2];simp;lia),fun q hq=>?_⟩⟩
    have er:(List.replicate ((n:Int)+2).toNat [V.int 0]).flatten=ZT (n+2) fun _=>0:=by
     rw [e2,List.flatten_replicate_singleton]
     unfold ZT
     refine (List.eq_replicate_iff.mpr ⟨by simp,fun b hb=>?_⟩).symm
     obtain ⟨_,h2,rfl⟩:=List.mem_map.mp hb
     obtain ⟨_,_,rfl⟩:=List.mem_map.mp h2
     rfl
    (try dsimp only)
    rw [er]
    have sc:=Zh.laid (o:=.lst [.int 0]) hc
    exact x.step (sc.step hq) (sc.free hq) Zb
   obtain ⟨sD,fD,ts,rfl,lt,nd,nt,fr,eD,ets⟩:=x.done hD
   have g0:Grd H (upd G D (.lst (ts.map V.ref))) D (n+2) (bnF k n T 0 0) ts:=Grd.congr ⟨sD,eD,lt,nd,nt,fD,fr,ets⟩ fun r c _ _=>by
    unfold bnF;rw [if_neg (by lia)]
   generalize upd G D (.lst (ts.map V.ref))=G0 at *
   refine ⟨_,rfl,_,_,rfl,rfl,_,rfl,by lia,by lia,?_⟩
   (try dsimp only)
   rw [e2]
   refine left (n+2) G0 _ _ _ (fun i G' K' hK=>?_) (by lia) rfl (fun lf' G1 hlf s1 elf=>?_)
   ·have d1:decide (V.int (0+(i:Int))=V.int (k:Int))=decide (i=k):=decide_eq_decide.mpr ⟨fun z=>by have:=V.int.inj z;lia,fun z=>by rw [z,Int.zero_add]⟩
    have d2:decide (V.int (0+(i:Int))=V.int ((k:Int)+1))=decide (i=k+1):=decide_eq_decide.mpr ⟨fun z=>by have:=V.int.inj z;lia,fun z=>by rw [z,Int.zero_add];rfl⟩
    refine ⟨_,rfl,_,rfl,rfl,_,rfl,?_⟩
    (try dsimp only)
    rw [d1]
    by_cases c0:i=k
    ·rw [decide_eq_true c0]
     rw [decide_eq_false (show ¬i≠k from fun y=>y c0),Bool.false_and] at hK
     exact Jq hK
    ·rw [decide_eq_false c0]
     rw [decide_eq_true (show i≠k from c0),Bool.true_and] at hK
     refine Wh ⟨_,rfl,_,rfl,_,_,rfl,rfl,rfl,_,rfl,?_⟩
     (try dsimp only)
     rw [d2]
     by_cases c1:i=k+1
     ·rw [decide_eq_true c1]
      rw [decide_eq_false (show ¬i≠k+1 from fun y=>y c1)] at hK
      exact hK
     ·rw [decide_eq_false c1]
      rw [decide_eq_true (show i≠k+1 from c1)] at hK
      exact hK
   rw [Zh2 hk] at elf
   have g1:=g0.step s1
   have tbs:=fun {G':Hp} (s:Zh H G')=>tb.same s
   have flf:H lf'=none:=g0.sm.free hlf
   refine ⟨_,rfl,tA,rfl,⟨_,Zu.of (g1.sm _ _ tb.1)⟩,WE (K:=K) (a:=tA) (xs:=rs.map V.ref) (fun i σ G=>∃v8 v9 v10 v11:Option V,σ = [some (.ref tA),some (.ref lA),some (.int (a:Int)),some (.str "born"),some (.int (k:Int)),some (.int (n:Int)),some (.ref D),some (.ref lf'),v8,v9,v10,v11,none,none]/\G lf'=some (.lst (lfV k n))/\Grd H G D (n+2) (bnF k n T i 0) ts) ⟨none,none,none,none,rfl,elf,g1⟩ (fun i σ G _ ⟨_,_,_,_,_,_,g⟩=>Zu.of (g.sm _ _ tb.1)) ?_ ?_⟩
   ·rintro i x p σ G2 hx ⟨v8,v9,v10,v11,rfl,el,g⟩ hp
    rw [List.getElem?_map] at hx
    obtain ⟨ra,hra,rfl⟩:=Option.map_eq_some_iff.mp hx
    have hi':i<n:=by rw [<- tb.2.1];exact (List.getElem?_eq_some_iff.mp hra).1
    refine ⟨p,_,rfl,JZ.of Zb,rfl,_,_,rfl,_,_,rfl,rfl,?_⟩
    have s3:Zh G2 (upd G2 p (.tup [.int i,.ref ra])):=Zh.laid hp
    have g3:=g.step s3
    have el3:=s3 _ _ el
    generalize upd G2 p (.tup [.int i,.ref ra])=G3 at *
    have era:=tb.2.2 i ra hra
    refine ⟨_,rfl,ra,rfl,⟨_,Zu.of (g3.sm _ _ era)⟩,WE (K:=K) (a:=ra) (xs:=Jc n (T i)) (fun j σ G=>∃v10 v11:Option V,σ = [some (.ref tA),some (.ref lA),some (.int (a:Int)),some (.str "born"),some (.int (k:Int)),some (.int (n:Int)),some (.ref D),some (.ref lf'),some (.int (i:Int)),some (.ref ra),v10,v11,none,none]/\G lf'=some (.lst (lfV k n))/\Grd H G D (n+2) (bnF k n T i j) ts) ⟨_,_,rfl,el3,g3⟩ (fun j σ G _ ⟨_,_,_,_,g⟩=>Zu.of (g.sm _ _ era)) ?_ ?_⟩
    ·rintro j x p2 σ G4 hx ⟨v10,v11,rfl,el4,g4⟩ hp2
     obtain ⟨hj,rfl⟩:=Gu (show (ZT n _)[j]? = some x from hx)
     refine ⟨p2,_,rfl,JZ.of Zb,rfl,_,_,rfl,_,_,rfl,rfl,?_⟩
     have s5:Zh G4 (upd G4 p2 (.tup [.int j,.int ((((T i).testBit j).toNat:Nat):Int)])):=Zh.laid hp2
     have g5:=g4.step s5
     have el5:=s5 _ _ el4
     generalize upd G4 p2 (.tup [.int j,.int ((((T i).testBit j).toNat:Nat):Int)])=G5 at *
     have hu:Zs k i<n+2:=Jh hi'
     have hti:Zs k i<ts.length:=by rw [lt];exact hu
     refine ⟨_,rfl,_,rfl,_,rfl,_,rfl,lf',_,_,_,rfl,rfl,Zu.of el5,Zp (Jb _ hi'),D,_,_,_,rfl,rfl,Zu.of g5.at_,Zp (show (ts.map V.ref)[Zs k i]? = some (.ref ts[Zs k i]) by simp [hti]),_,rfl,_,rfl,lf',_,_,_,rfl,rfl,Zu.of el5,Zp (Jb _ hj),ts[Zs k i],_,_,Zs k j,rfl,rfl,g5.row _ _ (List.getElem?_eq_getElem hti),by rw [Z9];exact YT (Jh hj),?_⟩
     have nlt:lf'≠ts[Zs k i]:=(Zf (g0.row (Zs k i) _ (List.getElem?_eq_getElem hti)) hlf).symm
     exact ⟨_,_,rfl,by rw [Zi nlt];exact el5,Grd.congr (g5.put (i:=Zs k i) (List.getElem?_eq_getElem hti) (Jh hj)) fun r c _ _=>Zli hj r c⟩
    ·rintro σ G4 ⟨v10,v11,rfl,el4,g4⟩
     refine ⟨_,_,_,_,rfl,el4,g4.congr fun r c hr' hc'=>?_⟩
     have:(Jc n (T i)).length=n:=Z9 n _
     rw [this]
     unfold bnF
     by_cases c1:r≠k/\r≠k+1/\c≠k/\c≠k+1
     ·obtain ⟨z1,z2,z3,z4⟩:=c1
      have:=GY hc' z3 z4 hk
      by_cases c2:YL k r<i+1
      ·rw [if_pos ⟨z1,z2,z3,z4,by lia⟩,if_pos ⟨z1,z2,z3,z4,by lia⟩]
      ·rw [if_neg (by lia),if_neg (by lia)]
     ·rw [if_neg (by lia),if_neg (by lia)]
   ·rintro σ G2 ⟨v8,v9,v10,v11,rfl,el,g⟩
    rw [l0] at g
    have hti:k<ts.length:=by lia
    refine ⟨_,rfl,_,rfl,D,_,_,_,rfl,rfl,Zu.of g.at_,Zp (show (ts.map V.ref)[k]? = some (.ref ts[k]) by simp [hti]),_,rfl,_,_,rfl,rfl,ts[k],_,_,k+1,rfl,rfl,g.row _ _ (List.getElem?_eq_getElem hti),by rw [Z9];exact YT (show k+1<n+2 by lia),?_⟩
    have g9:=g.put (i:=k) (j:=k+1) (v:=1) (q:=ts[k]) (List.getElem?_eq_getElem hti) (by lia)
    refine ⟨_,rfl,q D ts _ fD g9.fs g9.sm (g9.tab fun r c hr' hc'=>?_)⟩
    exact Zme hk hr' hc'
  ·refine Y0 (fun y=>absurd (of_decide_eq_true y) (fun z=>by have:=V.str.inj z;revert this;decide)) (fun _=>?_)
   refine ⟨_,rfl,rfl,_,rfl,Y0 (fun _=>?_) (fun y=>absurd (decide_eq_true rfl) y)⟩
   refine ⟨_,rfl,_,rfl,_,rfl,tA,n,k,a,T,rs,rfl,tb,n8,hk,a2,bT,hi,z,fun p ts H' hp hs s' tb'=>q p ts H' hp hs s' tb'⟩
  ·refine Y0 (fun y=>absurd (of_decide_eq_true y) (fun z=>by have:=V.str.inj z;revert this;decide)) (fun _=>?_)
   refine ⟨_,rfl,rfl,_,rfl,Y0 (fun y=>absurd (of_decide_eq_true y) (fun z=>by have:=V.str.inj z;revert this;decide)) (fun _=>?_)⟩
   obtain ⟨m,rfl⟩:∃m,n=m+2:=⟨n-2,by lia⟩
   have hk:k<=m:=by lia
   have e2:((m+2:Nat):Int).toNat=m+2:=by lia
   refine ⟨_,rfl,_,rfl,by lia,by lia,?_⟩
   (try dsimp only)
   rw [e2]
   refine left (m+2) H _ _ _ (fun i G' K' hK=>?_) (by lia) rfl (fun lf' G1 hlf s1 elf=>?_)
   ·refine ⟨_,rfl,_,rfl,_,_,rfl,rfl,_,rfl,?_⟩
    by_cases c0:i<k
    ·rw [decide_eq_true (show (0+(i:Int))<(k:Int) by lia)]
     rw [decide_eq_true (show i≠k by lia),decide_eq_true (show i≠k+1 by lia)] at hK
     exact Wh hK
    ·rw [decide_eq_false (show ¬(0+(i:Int))<(k:Int) by lia)]
     refine Jq ⟨_,rfl,_,rfl,_,_,rfl,rfl,_,_,rfl,rfl,_,rfl,?_⟩
     by_cases c1:k+1<i
     ·rw [decide_eq_true (show (k:Int)+1<0+(i:Int) by lia)]
      rw [decide_eq_true (show i≠k by lia),decide_eq_true (show i≠k+1 by lia)] at hK
      exact hK
     ·rw [decide_eq_false (show ¬(k:Int)+1<0+(i:Int) by lia)]
      have:(decide (i≠k)&&decide (i≠k+1))=false:=by
       rw [Bool.and_eq_false_iff,decide_eq_false_iff_not,decide_eq_false_iff_not]
       lia
      rw [this] at hK
      exact hK
   rw [Zh2 hk] at elf
   have lenL:(lfV k m).length=m:=Z9 m _
   refine ⟨_,rfl,lf',rfl,⟨_,Zu.of elf⟩,Jg (K:=K) (a:=lf') (xs:=lfV k m) (by rw [lenL,sizeLine_eq];lia) (fun i zs G=>NR G1 G (fun r=>ZT m fun c=>bI T (Zs k r) (Zs k c)) i zs) (NR.nil _ _) (fun _ _ _ x=>x.len) (fun i zs G x=>Zu.of (x.1 _ _ elf)) (fun i v zs G hv x=>?_) (fun zs G x D hD=>?_)⟩
   ·obtain ⟨hi',rfl⟩:=Gu (show (ZT m _)[i]? = some v from hv)
    refine lcG ?_
    have elG:=x.1 _ _ elf
    refine ⟨_,rfl,lf',rfl,⟨_,Zu.of elG⟩,Jg (K:=K) (a:=lf') (xs:=lfV k m) (by rw [lenL,sizeLine_eq];lia) (fun j ys G'=>Zh G G'/\ys=(ZT m fun c=>bI T (Zs k i) (Zs k c)).take j) ⟨Zh.refl _,rfl⟩ (fun j ys G' z=>by rw [z.2,List.length_take];lia) (fun j ys G' z=>Zu.of (z.1 _ _ elG)) (fun j u ys G' hu z=>?_) (fun ys G' z D' hD'=>?_)⟩
    ·obtain ⟨hj,rfl⟩:=Gu (show (ZT m _)[j]? = some u from hu)
     obtain ⟨sG,rfl⟩:=z
     obtain ⟨qa,ra,ta,xa,ya⟩:=ZaU (tb.same ((s1.trans x.1).trans sG)) (Jh (k:=k) hi') (Jh (k:=k) hj)
     refine lcG ?_
     refine ⟨_,rfl,_,rfl,tA,_,_,_,rfl,rfl,Zu.of ta,Zp (show (rs.map V.ref)[Zs k i]? = some (.ref qa) by rw [List.getElem?_map,ra];rfl),_,rfl,qa,_,_,_,rfl,rfl,Zu.of xa,Zp ya,sG,?_⟩
     exact Zda (fun c=>bI T (Zs k i) (Zs k c)) hj
    ·obtain ⟨sG,rfl⟩:=z
     rw [lenL,ZeL]
     exact x.step (sG.step hD') (sG.free hD') Zb
   rw [lenL] at x
   obtain ⟨sD,fD,ts,rfl,lt,nd,nt,fr,eD,ets⟩:=x.done hD
   have g0:Grd G1 (upd G D (.lst (ts.map V.ref))) D m (enF k a m T 0 0) ts:=Grd.congr ⟨sD,eD,lt,nd,nt,fD,fr,ets⟩ fun r c _ _=>by
    unfold enF;rw [if_neg (by lia)]
   generalize upd G D (.lst (ts.map V.ref))=G0 at *
   have fDH:H D=none:=s1.free fD
   have hi2:∀r j,r<m+2->j<=r->(T r).testBit j=false:=hi
   refine ⟨_,rfl,lf',rfl,⟨_,Zu.of (g0.sm _ _ elf)⟩,WE (K:=K) (a:=lf') (xs:=lfV k m) (fun i σ G=>∃v8 v9 v10 v11 v12 v13:Option V,σ = [some (.ref tA),some (.ref lA),some (.int (a:Int)),some (.str "end"),some (.int (k:Int)),some (.int ((m+2:Nat):Int)),some (.ref D),some (.ref lf'),v8,v9,v10,v11,v12,v13]/\Grd G1 G D m (enF k a m T i 0) ts) ⟨none,none,none,none,none,none,rfl,g0⟩ (fun i σ G _ ⟨_,_,_,_,_,_,_,g⟩=>Zu.of (g.sm _ _ elf)) ?_ ?_⟩
   rotate_left
   ·rintro σ G2 ⟨v8,v9,v10,v11,v12,v13,rfl,g⟩
    rw [lenL] at g
    refine ⟨_,rfl,q D ts G2 fDH (fun r hr=>s1.free (g.fs r hr)) (s1.trans g.sm) (g.tab fun r c hr' hc'=>?_)⟩
    unfold enF
    rw [if_pos (.inl hr')]
    rfl
   rintro i x p σ G2 hx ⟨v8,v9,v10,v11,v12,v13,rfl,g⟩ hp
   obtain ⟨hi',rfl⟩:=Gu (show (ZT m _)[i]? = some x from hx)
   refine ⟨p,_,rfl,JZ.of Zb,rfl,_,_,rfl,_,_,rfl,rfl,?_⟩
   have g3:=g.step (Zh.laid (o:=.tup [.int i,.int (Zs k i:Int)]) hp)
   generalize upd G2 p (.tup [.int i,.int (Zs k i:Int)])=G3 at *
   refine ⟨_,rfl,lf',rfl,⟨_,Zu.of (g3.sm _ _ elf)⟩,WE (K:=K) (a:=lf') (xs:=lfV k m) (fun j σ G=>∃v10 v11 v12 v13:Option V,σ = [some (.ref tA),some (.ref lA),some (.int (a:Int)),some (.str "end"),some (.int (k:Int)),some (.int ((m+2:Nat):Int)),some (.ref D),some (.ref lf'),some (.int (Zs k i:Int)),some (.int (i:Int)),v10,v11,v12,v13]/\Grd G1 G D m (enF k a m T i j) ts) ⟨_,_,_,_,rfl,g3⟩ (fun j σ G _ ⟨_,_,_,_,_,g⟩=>Zu.of (g.sm _ _ elf)) ?_ ?_⟩
   rotate_left
   ·rintro σ G4 ⟨v10,v11,v12,v13,rfl,g4⟩
    refine ⟨_,_,_,_,_,_,rfl,g4.congr fun r c hr' hc'=>?_⟩
    rw [lenL]
    unfold enF
    by_cases c1:r<i+1
    ·rw [if_pos (by lia),if_pos (by lia)]
    ·rw [if_neg (by lia),if_neg (by lia)]
   rintro j x p2 σ G4 hx ⟨v10,v11,v12,v13,rfl,g4⟩ hp2
   obtain ⟨hj,rfl⟩:=Gu (show (ZT m _)[j]? = some x from hx)
   refine ⟨p2,_,rfl,JZ.of Zb,rfl,_,_,rfl,_,_,rfl,rfl,?_⟩
   have g5:=g4.step (Zh.laid (o:=.tup [.int j,.int (Zs k j:Int)]) hp2)
   generalize upd G4 p2 (.tup [.int j,.int (Zs k j:Int)])=G5 at *
   have keep:¬(Zs k i<k/\k<Zs k j)->Grd G1 G5 D m (enF k a m T i (j+1)) ts:=fun hno=>g5.congr fun r c hr' hc'=>by
    unfold enF
    by_cases c1:r=i/\c=j
    ·rw [if_neg (by lia),if_pos (by lia),c1.1,c1.2,Zki a2 (by lia) hi2 hi' hj hno]
    ·by_cases c2:r<i∨(r=i/\c<j)
     ·rw [if_pos c2,if_pos (by lia)]
     ·rw [if_neg c2,if_neg (by lia)]
   have tb5:=tb.same (s1.trans g5.sm)
   have item:∀{r c:Nat} {σ:L2.St}{Q':VK}{tr tc:TE},r<m+2->c<m+2 -> σ[0]? = some (some (.ref tA))->(∀K',K' (V.int (r:Int)) G5->tr σ G5 K')->(∀K',K' (V.int (c:Int)) G5->tc σ G5 K')->Q' (.int (bI T r c)) G5->tOp (Zkk K) (tOp (Zkk K) (ZdP 0) tr) tc σ G5 Q':=fun {r c σ Q' tr tc} hr' hc' h0 h1 h2 hQ=>by
    obtain ⟨qa,ra,ta,xa,ya⟩:=ZaU tb5 hr' hc'
    refine ⟨_,h0,h1 _ ⟨tA,_,_,_,rfl,rfl,Zu.of ta,Zp (show (rs.map V.ref)[r]? = some (.ref qa) by rw [List.getElem?_map,ra];rfl),h2 _ ⟨qa,_,_,_,rfl,rfl,Zu.of xa,Zp ya,hQ⟩⟩⟩
   have uI:=Jh (k:=k) hi'
   have uJ:=Jh (k:=k) hj
   have cm:∀x y:Int,(x=0∨x=1)->Zg0 x y:=fun x y h=>.inl (by rcases h with rfl | rfl<;>exact ⟨by decide,by decide⟩)
   have aa:(a:Int)=0∨(a:Int)=1:=by lia
   refine ⟨_,rfl,_,rfl,_,_,rfl,rfl,_,rfl,?_⟩
   by_cases c1:Zs k i<k
   rotate_left
   ·rw [decide_eq_false (show ¬((Zs k i:Nat):Int)<(k:Int) by lia)]
    exact Jq ⟨_,rfl,Jq ⟨_,_,_,_,rfl,keep (fun y=>c1 y.1)⟩⟩
   rw [decide_eq_true (show ((Zs k i:Nat):Int)<(k:Int) by lia)]
   refine Wh ⟨_,rfl,_,_,rfl,rfl,_,rfl,?_⟩
   by_cases c2:k<Zs k j
   rotate_left
   ·rw [decide_eq_false (show ¬(k:Int)<((Zs k j:Nat):Int) by lia)]
    exact Jq ⟨_,_,_,_,rfl,keep (fun y=>c2 y.2)⟩
   rw [decide_eq_true (show (k:Int)<((Zs k j:Nat):Int) by lia)]
   refine Wh ?_
   have k1:((k:Int)+1)=((k+1:Nat):Int):=by lia
   refine item (r:=Zs k i) (c:=k+1) uI (by lia) rfl (fun K' h=>⟨_,rfl,h⟩) (fun K' h=>⟨_,rfl,_,_,rfl,rfl,by show K' (V.int ((k:Int)+1)) G5;rw [k1];exact h⟩) ?_
   refine ⟨_,rfl,?_⟩
   refine item (r:=Zs k i) (c:=k) uI (by lia) rfl (fun K' h=>⟨_,rfl,h⟩) (fun K' h=>⟨_,rfl,h⟩) ?_
   refine ⟨_,_,rfl,rfl,cm _ _ aa,_,_,rfl,rfl,?_⟩
   refine item (r:=k) (c:=Zs k j) (by lia) uJ rfl (fun K' h=>⟨_,rfl,h⟩) (fun K' h=>⟨_,rfl,h⟩) ?_
   refine ⟨_,rfl,?_⟩
   refine item (r:=k+1) (c:=Zs k j) (by lia) uJ rfl (fun K' h=>⟨_,rfl,_,_,rfl,rfl,by show K' (V.int ((k:Int)+1)) G5;rw [k1];exact h⟩) (fun K' h=>⟨_,rfl,h⟩) ?_
   refine ⟨_,_,rfl,rfl,cm _ _ aa,_,_,rfl,rfl,?_⟩
   refine item (r:=Zs k i) (c:=Zs k j) uI uJ rfl (fun K' h=>⟨_,rfl,h⟩) (fun K' h=>⟨_,rfl,h⟩) ?_
   have hti:i<ts.length:=by rw [lt];exact hi'
   have sm1:∀r c,-(2 ^ 64)<bI T r c/\bI T r c<2 ^ 64:=fun r c=>by rcases Za8 T r c with e | e<;>rw [e]<;>exact ⟨by decide,by decide⟩
   refine ⟨_,rfl,_,rfl,_,_,rfl,rfl,.inl ?_,_,_,rfl,rfl,_,_,rfl,rfl,(by decide:(0:Int)<2),?_⟩
   ·rcases Za8 T (Zs k i) (k+1) with e | e<;>rcases Za8 T (Zs k i) k with e' | e'<;>rcases aa with e'' | e''<;>rw [e,e',e'']<;>exact ⟨by decide,by decide⟩
   refine ⟨_,rfl,_,rfl,D,_,_,_,rfl,rfl,Zu.of g5.at_,Zp (show (ts.map V.ref)[i]? = some (.ref ts[i]) by simp [hti]),_,rfl,ts[i],_,_,j,rfl,rfl,g5.row _ _ (List.getElem?_eq_getElem hti),by rw [Z9];exact YT hj,?_⟩
   refine ⟨_,_,_,_,rfl,Grd.congr (g5.put (i:=i) (List.getElem?_eq_getElem hti) hj) fun r c hr' hc'=>?_⟩
   unfold ZaH
   by_cases c3:r=i/\c=j
   ·rw [if_pos c3,c3.1,c3.2]
    have e9:enF k a m T i (j+1) i j=bI (ZbJ k m (slT k a T)) i j:=by unfold enF;rw [if_pos (Or.inr ⟨rfl,by lia⟩)]
    rw [e9,ZiZ a2 hj]
   ·rw [if_neg c3]
    unfold enF
    by_cases c4:r<i∨(r=i/\c<j)
    ·rw [if_pos c4,if_pos (by lia)]
    ·rw [if_neg c4,if_neg (by lia)]
def pI (p:Nat->Option Nat) (r:Nat):Int:=(((p r).getD 0:Nat):Int)
theorem Uk {n:Nat}{p:Nat->Option Nat} (full:∀r,r<n->p r≠none):pL n p=ZT n (pI p):=by
 unfold pL ZT
 rw [List.map_map]
 refine List.map_congr_left fun r hr=>?_
 obtain ⟨q,hq⟩:=Option.ne_none_iff_exists'.mp (full r (List.mem_range.mp hr))
 show oV (p r)=V.int (((p r).getD 0:Nat):Int)
 rw [hq]
 rfl
theorem ZeK {m:Nat}{xs:List V}{f:Nat->Int} (hl:xs.length=m) (h:∀i,i<m->xs[i]? = some (.int (f i))):xs=ZT m f:=by
 apply List.ext_getElem?
 intro i
 by_cases c:i<m
 ·rw [h i c,Jb f c]
 ·rw [List.getElem?_eq_none (by lia),List.getElem?_eq_none (by rw [Z9];lia)]
theorem ZbE {n k:Nat} (f:Nat->Int):WQ (ZT n f) none (some (k:Int))=(ZT n f).take k:=by
 unfold WQ
 rw [HT.Gw,HT.Gf]
 simp [List.take_eq_take_iff]
theorem Zae {n k:Nat} (f:Nat->Int):WQ (ZT n f) (some (k:Int)) none=(ZT n f).drop k:=by
 unfold WQ
 rw [HT.Gw,HT.Gf]
 rcases Nat.le_total k (ZT n f).length with h | h
 ·rw [Nat.min_eq_left h,List.take_of_length_le (by rw [List.length_drop];lia)]
 ·rw [Nat.min_eq_right h,List.drop_eq_nil_of_le (Nat.le_refl _),List.drop_eq_nil_of_le h,List.take_nil]
theorem Zkb {n k:Nat}{p:Nat->Option Nat} (hk:k<=n) (full:∀r,r<n->p r≠none):(ZT n fun r=>(Zs k ((p r).getD 0):Int)).take k ++ [V.int ((k:Int)+1),.int (k:Int)]++(ZT n fun r=>(Zs k ((p r).getD 0):Int)).drop k=pL (n+2) (JR k p):=by
 have fb:∀r,r<n+2->JR k p r≠none:=fun r hr=>by
  unfold JR
  by_cases h1:r=k
  ·rw [if_pos h1];simp
  ·rw [if_neg h1]
   by_cases h2:r=k+1
   ·rw [if_pos h2];simp
   ·rw [if_neg h2]
    have:=full (YL k r) (GY hr h1 h2 hk)
    cases e:p (YL k r) with
    | none=>exact absurd e this
    | some q=>simp
 rw [Uk fb]
 have lt:((ZT n fun r=>(Zs k ((p r).getD 0):Int)).take k).length=k:=by rw [List.length_take,Z9];lia
 refine ZeK (by rw [List.length_append,List.length_append,lt,List.length_drop,Z9];show k+2+_=_;lia) fun i hi=>?_
 have val:∀r,r<n->(((JR k p (Zs k r)).getD 0:Nat):Int)=(Zs k ((p r).getD 0):Int):=fun r hr=>by
  unfold JR
  rw [if_neg (Ji k r).1,if_neg (Ji k r).2,Zag]
  obtain ⟨q,hq⟩:=Option.ne_none_iff_exists'.mp (full r hr)
  rw [hq];rfl
 rw [List.append_assoc]
 by_cases c1:i<k
 ·rw [List.getElem?_append_left (by lia),List.getElem?_take_of_lt c1,Jb _ (by lia)]
  congr 2
  rw [<- val i (by lia),show Zs k i=i from if_pos c1]
  rfl
 ·rw [List.getElem?_append_right (by lia),lt]
  by_cases c2:i=k
  ·subst c2
   rw [Nat.sub_self]
   show some (V.int ((i:Int)+1))=some (V.int (pI (JR i p) i))
   unfold pI JR
   rw [if_pos rfl];rfl
  ·by_cases c3:i=k+1
   ·subst c3
    rw [show k+1-k=1 by lia]
    show some (V.int (k:Int))=some (V.int (pI (JR k p) (k+1)))
    unfold pI JR
    rw [if_neg (by lia),if_pos rfl];rfl
   ·rw [List.getElem?_append_right (by show 2<=_;lia)]
    show ((ZT n _).drop k)[i-k-2]? = _
    rw [List.getElem?_drop,show k+(i-k-2)=i-2 by lia,Jb _ (by lia)]
    congr 2
    rw [<- val (i-2) (by lia),show Zs k (i-2)=i by unfold Zs;rw [if_neg (by lia)];lia]
    rfl
theorem Zlv {n k:Nat}{T S:Nat->Nat}{p:Nat->Option Nat} (U:Up T (n+2) 0 S p) (hk:k<=n) (full:∀r,r<n+2->p r≠none) (pk:p k=some (k+1)) {f:Nat->Int} (hf:∀r q,r<n+2->p r=some q->q≠k->q≠k+1->f r=(YL k q:Int)):(ZT (n+2) f).take k++(ZT (n+2) f).drop (k+2)=pL n (ZcQ k p):=by
 have pk1:p (k+1)=some k:=(U.inv _ _ (Nat.zero_le _) (by lia) pk).2.2.2
 have oth:∀{r q},r<n+2->r≠k->r≠k+1->p r=some q->q≠k/\q≠k+1:=fun {r q} hr r0 r1 e=>by
  have i4:=(U.inv r q (Nat.zero_le _) hr e).2.2.2
  refine ⟨fun z=>?_,fun z=>?_⟩
  ·rw [z,pk] at i4;exact r1 (Option.some.inj i4).symm
  ·rw [z,pk1] at i4;exact r0 (Option.some.inj i4).symm
 have val:∀r,r<n->f (Zs k r)=pI (ZcQ k p) r:=fun r hr=>by
  obtain ⟨q,hq⟩:=Option.ne_none_iff_exists'.mp (full (Zs k r) (Jh hr))
  have o:=oth (Jh hr) (Ji k r).1 (Ji k r).2 hq
  rw [hf _ q (Jh hr) hq o.1 o.2]
  unfold pI ZcQ
  rw [hq];rfl
 have fe:∀r,r<n->ZcQ k p r≠none:=fun r hr=>by
  obtain ⟨q,hq⟩:=Option.ne_none_iff_exists'.mp (full (Zs k r) (Jh hr))
  unfold ZcQ;rw [hq];simp
 rw [Uk fe]
 have lt:((ZT (n+2) f).take k).length=k:=by rw [List.length_take,Z9];lia
 refine ZeK (by rw [List.length_append,lt,List.length_drop,Z9];lia) fun i hi=>?_
 by_cases c1:i<k
 ·rw [List.getElem?_append_left (by lia),List.getElem?_take_of_lt c1,Jb _ (by lia),<- val i hi,show Zs k i=i from if_pos c1]
 ·rw [List.getElem?_append_right (by lia),lt,List.getElem?_drop,show k+2+(i-k)=i+2 by lia,Jb _ (by lia),<- val i hi,show Zs k i=i+2 from if_neg c1]
theorem ZhF {n k:Nat}{p:Nat->Option Nat} (hk:k+1<n) (full:∀r,r<n->p r≠none):(ZT n fun c=>if c=k+1 then (YQ k ((p k).getD 0):Int) else if c=k then (YQ k ((p (k+1)).getD 0):Int) else (YQ k ((p c).getD 0):Int))=pL n (swP k p):=by
 have fs:∀r,r<n->swP k p r≠none:=fun r hr=>by
  obtain ⟨q,hq⟩:=Option.ne_none_iff_exists'.mp (full (YQ k r) (JM hk hr))
  unfold swP;rw [hq];simp
 rw [Uk fs]
 unfold ZT
 congr 1
 refine List.map_congr_left fun c hc=>?_
 have hc:=List.mem_range.mp hc
 have val:∀r,r<n->pI (swP k p) r=(YQ k ((p (YQ k r)).getD 0):Int):=fun r hr=>by
  obtain ⟨q,hq⟩:=Option.ne_none_iff_exists'.mp (full (YQ k r) (JM hk hr))
  unfold pI swP
  rw [hq];rfl
 rw [val c hc]
 by_cases c1:c=k+1
 ·rw [if_pos c1,c1,Zb7]
 ·rw [if_neg c1]
  by_cases c2:c=k
  ·rw [if_pos c2,c2,Zcr]
  ·rw [if_neg c2,UG c2 c1]
def nxP (x:Str) (k:Nat) (p:Nat->Option Nat):Nat->Option Nat:=if x = "born" then JR k p else if x = "cross" then swP k p else ZcQ k p
def Zmm:Sp:=fun vs H Q _=>∃(pa lA:Addr) (n k:Nat) (x:Str) (T S:Nat->Nat) (p:Nat->Option Nat),vs = [.ref pa,.ref lA]/\H pa=some (.lst (pL n p))/\H lA=some (.tup [.str x,.int (k:Int)])/\n<=8/\Up T n 0 S p/\(∀r,r<n->p r≠none) /\
 ((x = "born" /\ k<=n)∨(x = "cross" /\ k+1<n/\p k≠some (k+1))∨(x = "end" /\ k+1<n/\p k=some (k+1))) /\ ∀(d:Addr) (H':Hp),H d=none->Zh H H'->H' d=some (.lst (pL (nxM x n) (nxP x k p)))->Q (.ref d) H'
abbrev YH:Stmt:=top 36
theorem Yz:ZH ["_law_partners_here", "_law_letter", "_law_word", "_law_k", "_law_found"] ["_law_partners_here", "_law_letter"] (Zl YH):={}
theorem Znd {f:Addr}{fd:FuncData} (F:Jl K "_law_moved_on" "_law_moved_on" YH f fd) (Wj:mg "int" = none):Ys P w K mg base W3 1 f fd ["_law_partners_here", "_law_letter"] Zmm:=by
 refine F.ok Yz (fun vs H Q E h=>?_) (fun cdv A outer s H vs Q E hr h=>?_)
 ·obtain ⟨pa,lA,n,k,x,T,S,p,rfl,_⟩:=h
  rfl
 ·obtain ⟨pa,lA,n,k,x,T,S,p,rfl,hpa,hlA,n8,U,full,ft,q⟩:=h
  refine ⟨_,(Ze (Yv (pv 1) (Ye (K:=K) (n:=2) rfl rfl (Zq (Zk (i:=2) Yz.nd rfl (Or.inl rfl)) (Zq (Zk (i:=3) Yz.nd rfl (Or.inr rfl)) Z6))))
   (Ze (ZU (Zr YA (pv 2) ZK (Zv _)) (Ze (GZ (i:=4) Yz.nd rfl (Or.inl rfl) (Ls:=["_law_one"]) (Fs:=["_law_k"]) (fi:=[3]) (ZR.of (show Ym ["_law_partners_here", "_law_letter", "_law_word", "_law_k", "_law_found"] (Zl YH) _ ["_law_k"] [3]=true by decide +kernel)) rfl (Z8 (K:=K) rfl (pv 0)) (fun cl C s3 H3 ex=>⟨(Zk (i:=0) (show ((["_law_one"]:List Str)++(["_law_k"]:List Str)).Nodup by decide +kernel) rfl (Or.inl rfl)),Yh,(Zj Zw (pv 0) (Zj Jx Zd (Yf JP (by rfl) Wj boot_int (Za (Jr ZkP (pv 0) (pv 1) (Zv _)) Zc))))⟩))
   (Zg (ZD (Zj Gp (Zj Gp (YB (YD (K:=K) rfl) (pv 4) JJ (YE (pv 3))) (ZY (Za (Zj Zw (pv 3) Zd) (Za (pv 3) Zc)))) (YB (YD (K:=K) rfl) (pv 4) (YE (pv 3)) JJ))))) ZG)
   (Ze (ZU (Zr UO (Jr YA (Zx (Zm (K:=K) rfl) (pv 0) (pv 3) (fun _ _=>rfl)) (Zj Zw (pv 3) Zd) (Zv _)) (Jr YA (pv 2) ZK (Zv _)) (Zv _)) (Zg (ZD Gm)) ZG)
   (Ze (ZU (Zr YA (pv 2) ZK (Zv _)) (Ze (GZ (i:=4) Yz.nd rfl (Or.inl rfl) (Ls:=["_law_one"]) (Fs:=["_law_k"]) (fi:=[3]) (ZR.of (show Ym ["_law_partners_here", "_law_letter", "_law_word", "_law_k", "_law_found"] (Zl YH) _ ["_law_k"] [3]=true by decide +kernel)) rfl (Z8 (K:=K) rfl (pv 0)) (fun cl C s3 H3 ex=>⟨(Zk (i:=0) (show ((["_law_one"]:List Str)++(["_law_k"]:List Str)).Nodup by decide +kernel) rfl (Or.inl rfl)),Yh,(Zj Yr (pv 0) (Zj Jx Zd (Yf JP (by rfl) Wj boot_int (Za (Jr Uu (pv 0) (pv 1) (Zv _)) Zc))))⟩))
   (Zg (ZD (Zj Gp (YB (YD (K:=K) rfl) (pv 4) JJ (YE (pv 3))) (YB (YD (K:=K) rfl) (pv 4) (YE (Zj Zw (pv 3) Zd)) JJ))))) ZG)
   (Ze (GZ (i:=4) Yz.nd rfl (Or.inl rfl) (Ls:=["_law_one"]) (Fs:=["_law_k"]) (fi:=[3]) (ZR.of (show Ym ["_law_partners_here", "_law_letter", "_law_word", "_law_k", "_law_found"] (Zl YH) _ ["_law_k"] [3]=true by decide +kernel)) rfl (Z8 (K:=K) rfl (pv 0)) (fun cl C s3 H3 ex=>⟨(Zk (i:=0) (show ((["_law_one"]:List Str)++(["_law_k"]:List Str)).Nodup by decide +kernel) rfl (Or.inl rfl)),Yh,(Zj Yr (Zj Zw (pv 0) (Yf JP (by rfl) Wj boot_int (Za (Jr YA (pv 0) (pv 1) (Zv _)) Zc))) (Yf JP (by rfl) Wj boot_int (Za (Jr YA (pv 0) (Zj Zw (pv 1) Zd) (Zv _)) Zc)))⟩))
   (Ze (Yv (ZN (Za (Zx (Zm (K:=K) rfl) (pv 4) (Zj Zw (pv 3) Zd) (fun _ _=>rfl)) (Za (Zx (Zm (K:=K) rfl) (pv 4) (pv 3) (fun _ _=>rfl)) Zc))) (Ye (K:=K) (n:=2) rfl rfl (Zq (YC (pv 4) (pv 3) set_list) (Zq (YC (pv 4) (Zj Zw (pv 3) Zd) set_list) Z6))))
   (Zg (ZD (pv 4))))))))),?_⟩
  rw [Uk full] at hpa
  have chg:∀(G:Hp) (σ:L2.St) (te:TE) (g:Nat->Int) (Q':VK),Zh H G -> σ.length=2->(∀(i:Nat) (G':Hp) (K':VK),i<n->K' (.int (g i)) G'->te (σ.set 0 (some (.int (pI p i)))) G' K')->(∀(D:Addr) (G':Hp),G D=none->Zh G G'->G' D=some (.lst (ZT n g))->Q' (.ref D) G')->LcW (Itl K pa) σ (W0 0) Zcu te G Q':=fun G σ te g Q' sH hσ hte hQ=>by
   have e:=sH _ _ hpa
   refine Jg (K:=K) (a:=pa) (xs:=ZT n (pI p)) (by rw [Z9,sizeLine_eq];lia) (fun i zs G'=>Zh G G'/\zs=(ZT n g).take i) ⟨Zh.refl _,rfl⟩ (fun i zs G' z=>by rw [z.2,List.length_take];lia) (fun i zs G' z=>Zu.of (z.1 _ _ e)) (fun i x zs G' hx z=>?_) (fun zs G' z D hD=>?_)
   ·obtain ⟨hi,rfl⟩:=Gu hx
    obtain ⟨sG,rfl⟩:=z
    refine lcG (hte i G' _ hi ⟨sG,Zda g hi⟩)
   ·obtain ⟨sG,rfl⟩:=z
    rw [Z9,ZeL]
    exact hQ D _ (sG.free hD) (sG.step hD) Zb
  have cm2:∀y:Int,Zg0 2 y:=fun y=>.inl ⟨by decide,by decide⟩
  refine ⟨_,rfl,lA,_,rfl,JZ.of hlA,rfl,_,_,rfl,_,_,rfl,rfl,?_⟩
  refine ⟨_,rfl,rfl,_,rfl,?_⟩
  have nb:∀{u v:Str}{A B:Prop},u≠v->B->if decide (V.str u=V.str v)=true then A else B:=fun {u v A B} h b=>by rw [decide_eq_false (fun z=>h (V.str.inj z))];exact b
  have nbf:∀{b:Bool}{A B:Prop},b=false->B->if b=true then A else B:=fun {b A B} h y=>by rw [h];exact y
  rcases ft with ⟨rfl,hk⟩ | ⟨rfl,hk,np⟩ | ⟨rfl,hk,pk⟩
  ·refine Y0 (fun _=>?_) (fun y=>absurd (decide_eq_true rfl) y)
   refine ⟨_,rfl,pa,rfl,⟨_,Zu.of hpa⟩,chg H _ _ (fun r=>(Zs k ((p r).getD 0):Int)) _ (Zh.refl _) rfl (fun i G' K' hi hK=>?_) (fun D G1 hD s1 eD=>?_)⟩
   ·refine ⟨_,rfl,_,rfl,_,rfl,_,_,rfl,rfl,.inr ⟨_,rfl,_,_,rfl,rfl,cm2 _,_,_,rfl,rfl,?_⟩⟩
    have:pI p i+2*(if decide ((k:Int)<=pI p i)=true then 1 else 0)=(Zs k ((p i).getD 0):Int):=by
     unfold pI Zs
     by_cases c:(p i).getD 0<k
     ·rw [if_pos c,if_neg (by simp;lia)];lia
     ·rw [if_neg c,if_pos (by simp;lia)];lia
    show K' (V.int (pI p i+2*(if decide ((k:Int)<=pI p i)=true then 1 else 0))) G'
    rw [this];exact hK
   refine ⟨_,rfl,_,rfl,_,rfl,D,_,rfl,Zu.of eD,fun q1 hq1=>?_⟩
   rw [ZbE]
   have d1:Zh G1 (upd G1 q1 (HO.lst (List.take k (ZT n fun r=>(Zs k ((p r).getD 0):Int))))):=Zh.laid hq1
   have eq1:(upd G1 q1 (HO.lst (List.take k (ZT n fun r=>(Zs k ((p r).getD 0):Int))))) q1=some (.lst (List.take k (ZT n fun r=>(Zs k ((p r).getD 0):Int)))):=Zb
   generalize upd G1 q1 (HO.lst (List.take k (ZT n fun r=>(Zs k ((p r).getD 0):Int))))=G2 at *
   refine ⟨_,rfl,_,_,rfl,rfl,_,rfl,by show 2<=sizeLine;decide,fun q2 hq2=>?_⟩
   have d2:Zh G2 (upd G2 q2 (HO.lst [V.int ((k:Int)+1),V.int (k:Int)])):=Zh.laid hq2
   have eq2:(upd G2 q2 (HO.lst [V.int ((k:Int)+1),V.int (k:Int)])) q2=some (.lst [V.int ((k:Int)+1),V.int (k:Int)]):=Zb
   generalize upd G2 q2 (HO.lst [V.int ((k:Int)+1),V.int (k:Int)])=G3 at *
   refine ⟨_,_,_,_,rfl,rfl,d2 _ _ eq1,eq2,by rw [List.length_take,sizeLine_eq];show _+2<=_;lia,fun q3 hq3=>?_⟩
   have d3:=Zh.laid (o:=.lst (List.take k (ZT n fun r=>(Zs k ((p r).getD 0):Int)) ++ [V.int ((k:Int)+1),V.int (k:Int)])) hq3
   have eq3:(upd G3 q3 (.lst (List.take k (ZT n fun r=>(Zs k ((p r).getD 0):Int)) ++ [V.int ((k:Int)+1),V.int (k:Int)]))) q3=some (.lst (List.take k (ZT n fun r=>(Zs k ((p r).getD 0):Int)) ++ [V.int ((k:Int)+1),V.int (k:Int)])):=Zb
   generalize upd G3 q3 (.lst (List.take k (ZT n fun r=>(Zs k ((p r).getD 0):Int)) ++ [V.int ((k:Int)+1),V.int (k:Int)]))=G4 at *
   refine ⟨_,rfl,_,rfl,_,rfl,D,_,rfl,Zu.of (d3 _ _ (d2 _ _ (d1 _ _ eD))),fun q4 hq4=>?_⟩
   rw [Zae]
   refine ⟨_,_,_,_,rfl,rfl,(Zh.laid hq4) _ _ eq3,Zb,by rw [List.length_append,List.length_take,List.length_drop,Z9,sizeLine_eq];show _+2+_<=_;lia,fun q5 hq5=>?_⟩
   have sA:=(((s1.trans d1).trans d2).trans d3)
   refine q _ _ ((sA.step hq4).free hq5) ((sA.step hq4).step hq5) ?_
   rw [Zb,Zkb hk full]
   rfl
  ·refine nb (by decide) ?_
   obtain ⟨pq,hpq⟩:=Option.ne_none_iff_exists'.mp (full k (by lia))
   have nq:pq≠k+1:=fun z=>np (by rw [hpq,z])
   have e1:pI p k=(pq:Int):=by unfold pI;rw [hpq];rfl
   refine ⟨_,rfl,_,rfl,pa,_,_,_,rfl,rfl,Zu.of hpa,(Zp (Jb _ (by lia))),?_⟩
   rw [e1]
   refine ⟨_,rfl,_,_,rfl,rfl,rfl,_,rfl,rfl,rfl,?_⟩
   have ef:(!decide (V.bl (decide (V.int (pq:Int)=V.int ((k:Int)+1)))=V.bl (decide (V.str "cross" = V.str "end"))))=false:=by
    rw [decide_eq_false (p:=V.int (pq:Int)=V.int ((k:Int)+1)) (fun z=>nq (by have:=V.int.inj z;lia)),decide_eq_false (p:=V.str "cross" = V.str "end") (fun z=>absurd (V.str.inj z) (by decide))]
    rfl
   refine ⟨_,rfl,nbf ef ?_⟩
   refine ⟨_,rfl,rfl,_,rfl,nb (by decide) ?_⟩
   refine ⟨_,rfl,pa,rfl,⟨_,Zu.of hpa⟩,chg H _ _ (fun r=>(YQ k ((p r).getD 0):Int)) _ (Zh.refl _) rfl (fun i G' K' hi hK=>?_) (fun D G1 hD s1 eD=>?_)⟩
   ·have vl:pI p i+(if decide (V.int (pI p i)=V.int (k:Int))=true then 1 else 0)-(if decide (V.int (pI p i)=V.int ((k:Int)+1))=true then 1 else 0)=(YQ k ((p i).getD 0):Int):=by
     unfold pI YQ
     by_cases c:(p i).getD 0=k
     ·rw [if_pos c,c,if_pos (by simp),if_neg (by simp;lia)];lia
     ·rw [if_neg c,if_neg (by simp;lia)]
      by_cases c':(p i).getD 0=k+1
      ·rw [if_pos c',c',if_pos (by simp)];lia
      ·rw [if_neg c',if_neg (by simp;lia)];lia
    rw [<- vl] at hK
    refine ⟨_,rfl,_,rfl,_,rfl,rfl,.inr ⟨_,rfl,_,_,rfl,rfl,_,rfl,_,rfl,_,_,rfl,rfl,rfl,.inr ⟨_,rfl,_,_,rfl,rfl,hK⟩⟩⟩
   have lD:∀j,j<n->atI (ZT n fun r=>(YQ k ((p r).getD 0):Int)) (j:Int)=some (V.int (YQ k ((p j).getD 0):Int)):=fun j hj=>Zp (Jb _ hj)
   refine ⟨_,rfl,_,rfl,_,_,rfl,rfl,D,_,_,_,rfl,rfl,Zu.of eD,lD (k+1) hk,_,rfl,_,rfl,D,_,_,_,rfl,rfl,Zu.of eD,lD k (by lia),by show 2<=sizeLine;decide,fun tp htp=>?_⟩
   have s2:Zh G1 (upd G1 tp (.tup [.int (YQ k ((p (k+1)).getD 0):Int),.int (YQ k ((p k).getD 0):Int)])):=Zh.laid htp
   have etp:(upd G1 tp (.tup [.int (YQ k ((p (k+1)).getD 0):Int),.int (YQ k ((p k).getD 0):Int)])) tp=some (.tup [.int (YQ k ((p (k+1)).getD 0):Int),.int (YQ k ((p k).getD 0):Int)]):=Zb
   have e2:=s2 _ _ eD
   have sH2:=s1.trans s2
   generalize upd G1 tp (.tup [.int (YQ k ((p (k+1)).getD 0):Int),.int (YQ k ((p k).getD 0):Int)])=G2 at *
   refine ⟨tp,_,rfl,JZ.of etp,rfl,_,_,rfl,_,rfl,_,rfl,D,_,_,k,rfl,rfl,e2,by rw [Z9];exact YT (by lia),?_⟩
   refine ⟨_,_,rfl,_,rfl,_,rfl,_,_,rfl,rfl,D,_,_,k+1,rfl,rfl,Zb,by rw [List.length_set,Z9];exact YT (by lia),rfl,?_⟩
   rw [J7,Ul _ _ (show k<n by lia),Ul _ _ (show k+1<n from hk)]
   refine ⟨_,rfl,q D _ hD (sH2.put hD) ?_⟩
   rw [Zb,ZhF hk full]
   rfl
  ·refine nb (by decide) ?_
   have e1:pI p k=((k:Int)+1):=by unfold pI;rw [pk];rfl
   obtain ⟨m,rfl⟩:∃m,n=m+2:=⟨n-2,by lia⟩
   refine ⟨_,rfl,_,rfl,pa,_,_,_,rfl,rfl,Zu.of hpa,(Zp (Jb _ (by lia))),?_⟩
   rw [e1]
   refine ⟨_,rfl,_,_,rfl,rfl,rfl,_,rfl,rfl,rfl,?_⟩
   have ef:(!decide (V.bl (decide (V.int ((k:Int)+1)=V.int ((k:Int)+1)))=V.bl (decide (V.str "end" = V.str "end"))))=false:=by simp
   refine ⟨_,rfl,nbf ef ?_⟩
   refine ⟨_,rfl,rfl,_,rfl,Y0 (fun _=>?_) (fun y=>absurd (decide_eq_true rfl) y)⟩
   refine ⟨_,rfl,pa,rfl,⟨_,Zu.of hpa⟩,chg H _ _ (fun r=>pI p r-2*(if decide ((k:Int)<pI p r)=true then 1 else 0)) _ (Zh.refl _) rfl (fun i G' K' hi hK=>?_) (fun D G1 hD s1 eD=>?_)⟩
   ·refine ⟨_,rfl,_,rfl,_,rfl,_,_,rfl,rfl,.inr ⟨_,rfl,_,_,rfl,rfl,cm2 _,_,_,rfl,rfl,hK⟩⟩
   refine ⟨_,rfl,_,rfl,_,rfl,D,_,rfl,Zu.of eD,fun q1 hq1=>?_⟩
   rw [ZbE]
   have d1:=Zh.laid (o:=HO.lst (List.take k (ZT (m+2) fun r=>pI p r-2*(if decide ((k:Int)<pI p r)=true then 1 else 0)))) hq1
   have eq1:(upd G1 q1 (HO.lst (List.take k (ZT (m+2) fun r=>pI p r-2*(if decide ((k:Int)<pI p r)=true then 1 else 0))))) q1=some (.lst (List.take k (ZT (m+2) fun r=>pI p r-2*(if decide ((k:Int)<pI p r)=true then 1 else 0)))):=Zb
   generalize upd G1 q1 (HO.lst (List.take k (ZT (m+2) fun r=>pI p r-2*(if decide ((k:Int)<pI p r)=true then 1 else 0))))=G2 at *
   refine ⟨_,rfl,_,rfl,_,_,rfl,rfl,_,rfl,D,_,rfl,Zu.of (d1 _ _ eD),fun q4 hq4=>?_⟩
   rw [show (k:Int)+2=((k+2:Nat):Int) by lia,Zae]
   refine ⟨_,_,_,_,rfl,rfl,(Zh.laid hq4) _ _ eq1,Zb,by rw [List.length_take,List.length_drop,Z9,sizeLine_eq];lia,fun q5 hq5=>?_⟩
   refine q _ _ (((s1.trans d1).step hq4).free hq5) (((s1.trans d1).step hq4).step hq5) ?_
   rw [Zb,Zlv U (by lia) full pk (fun r q hr hq qk qk1=>?_)]
   ·rfl
   ·unfold pI YL
    rw [hq]
    show (q:Int)-2*_=_
    by_cases c:q<k
    ·rw [if_neg (by simp;lia),if_pos c];lia
    ·rw [if_pos (by simp;lia),if_neg c];lia
def inC (p:Nat->Option Nat) (c k:Nat):Bool:=match p k with | some q=>decide (k<q)&&decide (q<c) | none=>false
def wC (p:Nat->Option Nat) (n i c:Nat):List Nat:=((List.range n).drop i).filter (inC p c)
theorem Zjk {p:Nat->Option Nat}{n i c k:Nat}:k∈wC p n i c ↔ i<=k/\k<n/\inC p c k=true:=by
 unfold wC
 rw [List.mem_filter]
 constructor
 ·rintro ⟨hr,hk⟩
  obtain ⟨j,hj,e⟩:=List.getElem_of_mem hr
  rw [List.getElem_drop,List.getElem_range] at e
  rw [List.length_drop,List.length_range] at hj
  exact ⟨by lia,by lia,hk⟩
 ·rintro ⟨h1,h2,h3⟩
  refine ⟨List.mem_of_getElem? (i:=k-i) ?_,h3⟩
  rw [List.getElem?_drop,List.getElem?_range (by lia)]
  congr 1;lia
theorem Zm1 (p:Nat->Option Nat) (n i c:Nat):(wC p n i c).Nodup:=(List.nodup_range.sublist (List.drop_sublist _ _)).sublist (List.filter_sublist)
def cN (p:Nat->Option Nat) (n i c:Nat):Nat:=(wC p n i c).length
theorem Zgq {p:Nat->Option Nat}{n i c:Nat} (h:i<n):cN p n i c=cN p n (i+1) c+if inC p c i=true then 1 else 0:=by
 unfold cN wC
 rw [List.drop_eq_getElem_cons (by simpa using h),List.getElem_range,List.filter_cons]
 split<;>simp
theorem Zj3 {p:Nat->Option Nat}{n i j:Nat} (h:i<j) (hj:j<n):((cN p n i (j+1):Int)-(cN p n (i+1) (j+1):Int)-(cN p n i j:Int)+(cN p n (i+1) j:Int))=if p i=some j then 1 else 0:=by
 rw [Zgq (c:=j+1) (show i<n by lia),Zgq (c:=j) (show i<n by lia)]
 unfold inC
 cases e:p i with
 | none=>simp;lia
 | some q=>
  by_cases c1:q=j
  ·subst c1
   have:decide (i<q)=true:=decide_eq_true h
   simp [this];lia
  ·have c2:¬some q=some j:=fun z=>c1 (Option.some.inj z)
   rw [if_neg c2]
   by_cases c3:i<q/\q<j
   ·have a1:decide (i<q)=true:=decide_eq_true c3.1
    have a2:decide (q<j+1)=true:=decide_eq_true (by lia)
    have a3:decide (q<j)=true:=decide_eq_true c3.2
    simp only [a1,a2,a3];simp;lia
   ·have a2:(decide (i<q)&&decide (q<j+1))=false:=by simp;lia
    have a3:(decide (i<q)&&decide (q<j))=false:=by simp;lia
    simp only [a2,a3];simp;lia
theorem Zc6 {L:List Nat} (h:∀x∈L,x=0) {v:Nat} (s:Gr L v):v=0:=s (· = 0) rfl (fun a b ha hb=>by rw [ha,hb];rfl) h
def Ze6 (T:Nat->Nat) (n i c:Nat):List Nat:=((List.range n).drop i).map fun r=>T r % 2 ^ c
theorem Zfy {T S:Nat->Nat}{n:Nat}{p:Nat->Option Nat} (U:Up T n 0 S p) (i c:Nat) {f:Nat} (h:Rk (Ze6 T n i c) f):f=cN p n i c:=by
 cases c with
 | succ j=>
  refine Rk.one h (U.rank i j (wC p n i (j+1)) (Zm1 _ _ _ _) fun k=>?_)
  rw [Zjk]
  unfold inC
  cases e:p k with
  | none=>simp
  | some q=>simp;lia
 | zero=>
  have z:cN p n i 0=0:=by
   unfold cN
   refine List.length_eq_zero_iff.mpr (List.eq_nil_iff_forall_not_mem.mpr fun k hk=>?_)
   obtain ⟨_,_,h3⟩:=Zjk.mp hk
   unfold inC at h3
   cases e:p k with
   | none=>rw [e] at h3;cases h3
   | some q=>rw [e] at h3;simp at h3
  rw [z]
  refine Rk.one h ⟨[],.nil,rfl,fun j=>⟨fun ⟨v,s,l⟩=>?_,fun z=>nomatch z⟩⟩
  refine absurd (Zc6 (fun x hx=>?_) s) l.nz
  obtain ⟨r,_,rfl⟩:=List.mem_map.mp hx
  exact Nat.mod_one _
def dnP (p:Nat->Option Nat) (i j r:Nat):Option Nat:=match p r with | some q=>if min r q<i∨(min r q=i/\max r q<j) then some q else none | none=>none
theorem Zht (p:Nat->Option Nat) (r:Nat):dnP p 0 0 r=none:=by
 unfold dnP
 cases p r with
 | none=>rfl
 | some q=>exact if_neg (by lia)
theorem Zj4 {T S:Nat->Nat}{n:Nat}{p:Nat->Option Nat} (U:Up T n 0 S p) {r:Nat} (hr:r<n):dnP p n 0 r=p r:=by
 unfold dnP
 cases e:p r with
 | none=>rfl
 | some q=>exact if_pos (by lia)
theorem ZlF {T S:Nat->Nat}{n:Nat}{p:Nat->Option Nat} (U:Up T n 0 S p) {i r:Nat} (hr:r<n):dnP p i 0 r=dnP p i (i+1) r:=by
 unfold dnP
 cases e:p r with
 | none=>rfl
 | some q=>
  have:=(U.inv r q (Nat.zero_le _) hr e)
  show (if _ then _ else _)=(if _ then _ else _)
  by_cases c:min r q<i
  ·rw [if_pos (.inl c),if_pos (.inl c)]
  ·rw [if_neg (by lia),if_neg (by lia)]
theorem Zkg {T S:Nat->Nat}{n:Nat}{p:Nat->Option Nat} (U:Up T n 0 S p) {i r:Nat} (hr:r<n):dnP p i n r=dnP p (i+1) 0 r:=by
 unfold dnP
 cases e:p r with
 | none=>rfl
 | some q=>
  have:=(U.inv r q (Nat.zero_le _) hr e)
  show (if _ then _ else _)=(if _ then _ else _)
  by_cases c:min r q<i+1
  ·rw [if_pos (by lia),if_pos (by lia)]
  ·rw [if_neg (by lia),if_neg (by lia)]
theorem ZlK {T S:Nat->Nat}{n:Nat}{p:Nat->Option Nat} (U:Up T n 0 S p) {i j r:Nat} (hr:r<n) (hij:i<j) (h:p i≠some j):dnP p i (j+1) r=dnP p i j r:=by
 unfold dnP
 cases e:p r with
 | none=>rfl
 | some q=>
  obtain ⟨_,h2,h3,h4⟩:=(U.inv r q (Nat.zero_le _) hr e)
  show (if _ then _ else _)=(if _ then _ else _)
  by_cases c:min r q=i/\max r q=j
  ·exfalso
   by_cases d:r<=q
   ·have a1:r=i:=by lia
    have a2:q=j:=by lia
    exact h (by rw [<- a1,<- a2];exact e)
   ·have a1:q=i:=by lia
    have a2:r=j:=by lia
    exact h (by rw [<- a1,<- a2];exact h4)
  ·by_cases d:min r q<i∨(min r q=i/\max r q<j)
   ·rw [if_pos (by lia),if_pos d]
   ·rw [if_neg (by lia),if_neg d]
theorem Zkx {T S:Nat->Nat}{n:Nat}{p:Nat->Option Nat} (U:Up T n 0 S p) {i j:Nat} (hij:i<j) (hj:j<n) (h:p i=some j):((pL n (dnP p i j)).set i (.int (j:Int))).set j (.int (i:Int))=pL n (dnP p i (j+1)):=by
 have h':=(U.inv i j (Nat.zero_le _) (by lia) h).2.2.2
 apply List.ext_getElem?
 intro r
 rw [List.getElem?_set,List.getElem?_set,List.length_set,Us]
 unfold pL
 rw [List.getElem?_map,List.getElem?_map]
 by_cases hr:r<n
 ·rw [List.getElem?_range hr]
  show _=some (oV (dnP p i (j+1) r))
  by_cases c1:j=r
  ·subst c1
   rw [if_pos rfl,if_pos hj]
   unfold dnP;rw [h']
   show _=some (oV (if _ then _ else _))
   rw [if_pos (by lia)];rfl
  ·rw [if_neg c1]
   by_cases c2:i=r
   ·subst c2
    rw [if_pos rfl,if_pos (by lia)]
    unfold dnP;rw [h]
    show _=some (oV (if _ then _ else _))
    rw [if_pos (by lia)];rfl
   ·rw [if_neg c2]
    show some (oV (dnP p i j r))=_
    congr 2
    unfold dnP
    cases e:p r with
    | none=>rfl
    | some q=>
     show (if _ then _ else _)=(if _ then _ else _)
     by_cases d:min r q<i∨(min r q=i/\max r q<j)
     ·rw [if_pos d,if_pos (by lia)]
     ·rw [if_neg d,if_neg fun z=>?_]
      obtain ⟨_,i2,i3,i4⟩:=(U.inv r q (Nat.zero_le _) hr e)
      by_cases d1:r<=q
      ·lia
      ·have a1:q=i:=by lia
       rw [a1,h] at i4
       exact c1 (Option.some.inj i4)
 ·rw [List.getElem?_eq_none (by simpa using hr)]
  rw [if_neg (by lia),if_neg (by lia)]
  rfl
theorem ZjI (xs:List V) (k:Nat):WQ xs (some (k:Int)) none=xs.drop k:=by
 unfold WQ
 rw [HT.Gw,HT.Gf]
 by_cases h:k<=xs.length
 ·rw [Nat.min_eq_left h,List.take_of_length_le (by rw [List.length_drop];lia)]
 ·rw [Nat.min_eq_right (by lia),Nat.sub_self,List.take_zero,List.drop_of_length_le (by lia)]
theorem Zhf (n v c:Nat) (h:c<=n):(Jc n v).take c=Jc c (v % 2 ^ c):=by
 cases c with
 | zero=>rfl
 | succ j=>
  refine List.ext_getElem? fun r=>?_
  by_cases c:r<j+1
  ·rw [List.getElem?_take_of_lt c,Gg (by omega),Gg c,Nat.testBit_mod_two_pow,decide_eq_true c,Bool.true_and]
  ·rw [List.getElem?_eq_none (by rw [List.length_take,YZ];omega),List.getElem?_eq_none (by rw [YZ];omega)]
structure Rks (p:Nat->Option Nat) (n:Nat) (H:Hp) (d:Addr) (i c:Nat) (kvs:List (List Key×V)):Prop where
 at_:H d=some (.dT kvs)
 le:kvs.length<=9*i+c
 ok:∀a b,(a<i∨(a=i/\b<c))->b<=n->JG kvs [Sum.inl (a:Int),Sum.inl ((b:Int)-1)]=some (.int (cN p n a b:Int))
theorem Rks.put {p:Nat->Option Nat}{n:Nat}{H:Hp}{d:Addr}{i c:Nat}{kvs:List (List Key×V)} (h:Rks p n H d i c kvs):Rks p n (upd H d (.dT (putK kvs [Sum.inl (i:Int),Sum.inl ((c:Int)-1)] (.int (cN p n i c:Int))))) d i (c+1) (putK kvs [Sum.inl (i:Int),Sum.inl ((c:Int)-1)] (.int (cN p n i c:Int))):=by
 refine ⟨Zb,?_,fun a b o hb=>?_⟩
 ·have:=Wg kvs [Sum.inl (i:Int),Sum.inl ((c:Int)-1)] (.int (cN p n i c:Int))
  have:=h.le
  lia
 ·rw [ZcD]
  by_cases e:a=i/\b=c
  ·rw [e.1,e.2,if_pos rfl]
  ·rw [if_neg fun z=>?_]
   ·exact h.ok a b (by lia) hb
   ·simp only [List.cons.injEq,Sum.inl.injEq,and_true] at z
    lia
theorem ZmK {H:Hp}{d b:Addr}{kvs:List (List Key×V)}{x y:Int}{v:V} (e:H d=some (.dT kvs)) (eb:H b=some (.tup [.int x,.int y])) (hv:JG kvs [Sum.inl x,Sum.inl y]=some v):Ue H d (.ref b) (some v):=hv ▸ Ue.t (k:=[Sum.inl x,Sum.inl y]) e eb
def Ziw:Sp:=fun vs H Q _=>∃(tA:Addr) (n:Nat) (T:Nat->Nat) (p0:Nat->Option Nat) (rs:List Addr),vs = [.ref tA]/\W4 H tA n T rs/\Good n T p0 /\ ∀(p:Addr) (H':Hp),H p=none->Zh H H'->H' p=some (.lst (pL n p0))->Q (.ref p) H'
abbrev JL:Stmt:=top 35
theorem ZW:ZH ["_law_table", "_law_many", "_law_ranks", "_law_i", "_law_j", "_law_found", "_law_outer"] ["_law_table"] (Zl JL):={}
theorem Zl2 {f:Addr}{fd:FuncData} (F:Jl K "_law_partners" "_law_partners" JL f fd) (UP:Jm P w K mg base 2 "_law_rank" ["_law_rows_here"] ZfK) (Yi:mg "len" = none) (ZC:mg "range" = none):Ys P w K mg base W3 3 f fd ["_law_table"] Ziw:=by
 refine F.ok ZW (fun vs H Q E h=>?_) (fun cdv A outer s H vs Q E hr h=>?_)
 ·obtain ⟨tA,n,T,p0,rs,rfl,_⟩:=h
  rfl
 ·obtain ⟨tA,n,T,p0,rs,rfl,tb,gd,q⟩:=h
  refine ⟨_,(Ze (Zo (i:=1) ZW.nd rfl (Or.inl rfl) (ZE (Yj (K:=K) rfl) (by rfl) Yi PySem.boot_len (Za (pv 0) Zc)))
   (Ze (Zo (i:=2) ZW.nd rfl (Or.inl rfl) ZiY)
   (Ze (Yc PassesOwn.never rfl (Yb (by rfl) ZC (Za (Zj Zw (pv 1) Zd) Zc)) (Zk (i:=3) ZW.nd rfl (Or.inl rfl)) (Zg (Yc PassesOwn.never rfl (Zbg (by rfl) ZC (Za (Zbu Um Zd) (Za (pv 1) Zc))) (Zk (i:=4) ZW.nd rfl (Or.inr rfl)) (Zg (Yv (Zz UP hr (Za (Gz (Ls:=["_law_row"]) (Fs:=["_law_j"]) (fi:=[4]) (ZR.of (show Ym ["_law_table", "_law_many", "_law_ranks", "_law_i", "_law_j", "_law_found", "_law_outer"] (Zl JL) _ ["_law_j"] [4]=true by decide +kernel)) rfl (Z8 (K:=K) rfl (YB (YD (K:=K) rfl) (pv 0) (YE (pv 3)) JJ)) (fun cl C s3 H3 ex=>⟨(Zk (i:=0) (show ((["_law_row"]:List Str)++(["_law_j"]:List Str)).Nodup by decide +kernel) rfl (Or.inl rfl)),Yh,(YB (YD (K:=K) rfl) (pv 0) JJ (YE (Zj Zw (pv 1) Zd)))⟩)) Zc)) (YC (pv 2) (ZN (Za (pv 3) (Za (pv 4) Zc))) (set_dict (JF hr))))))))
   (Ze (Zo (i:=5) ZW.nd rfl (Or.inl rfl) (Zj Zbo (ZY (Za Gm Zc)) (pv 1)))
   (Ze (Yc PassesOwn.never rfl (Yb (by rfl) ZC (Za (pv 1) Zc)) (Zk (i:=3) ZW.nd rfl (Or.inl rfl)) (Zg (Yc PassesOwn.never rfl (Zbg (by rfl) ZC (Za (Zj Zw (pv 3) Zd) (Za (pv 1) Zc))) (Zk (i:=4) ZW.nd rfl (Or.inr rfl)) (Ze (Zo (i:=6) ZW.nd rfl (Or.inl rfl) (Zj Yr (Zx (Wb (JF hr)) (pv 2) (ZN (Za (pv 3) (Za (pv 4) Zc))) (fun _ _=>rfl)) (Zx (Wb (JF hr)) (pv 2) (ZN (Za (Zj Zw (pv 3) Zd) (Za (pv 4) Zc))) (fun _ _=>rfl))))
   (Zg (ZU (Zr YA (Zj Zw (Zj Yr (pv 6) (Zx (Wb (JF hr)) (pv 2) (ZN (Za (pv 3) (Za (Zj Yr (pv 4) Zd) Zc))) (fun _ _=>rfl))) (Zx (Wb (JF hr)) (pv 2) (ZN (Za (Zj Zw (pv 3) Zd) (Za (Zj Yr (pv 4) Zd) Zc))) (fun _ _=>rfl))) Zd (Zv _)) (Zg (Yv (ZN (Za (pv 4) (Za (pv 3) Zc))) (Ye (K:=K) (n:=2) rfl rfl (Zq (YC (pv 5) (pv 3) set_list) (Zq (YC (pv 5) (pv 4) set_list) Z6))))) ZG))))))
   (Zg (ZD (pv 5)))))))),?_⟩
  obtain ⟨ea,la,er⟩:=tb
  obtain ⟨n8,hi,sq,⟨S0,up⟩,full⟩:=gd
  have lr:(rs.map V.ref).length=n:=by rw [List.length_map,la]
  refine ⟨_,rfl,tA,_,rfl,.inl (Zu.of ea),?_⟩
  rw [lr]
  refine fun d hd=>?_
  have s0:Zh H (upd H d (.dT [])):=Zh.laid hd
  have r0:Rks p0 n (upd H d (.dT [])) d 0 0 []:=⟨Zb,Nat.zero_le _,fun a b o=>absurd o (by omega)⟩
  generalize upd H d (.dT [])=H0 at *
  refine ⟨_,rfl,_,_,rfl,rfl,_,rfl,by omega,by omega,YG (n:=n+1) (fun i σ G=>∃(v3 v4:Option V) (kvs:List (List Key×V)),σ = [some (.ref tA),some (.int (n:Nat)),some (.ref d),v3,v4,none,none]/\Zh H G/\Rks p0 n G d i 0 kvs) ⟨_,_,_,rfl,s0,r0⟩ ?_ ?_⟩
  ·rintro i σ G hi' ⟨v3,v4,kvs,rfl,sG,rG⟩
   refine ⟨_,rfl,_,rfl,_,_,rfl,⟨by omega,by omega,by omega,by omega⟩,?_⟩
   rw [show ((n:Int) - -1).toNat=n+1 by omega,show (0:Int)+(i:Int)=((i:Nat):Int) by omega]
   refine YG (n:=n+1) (lo:=-1) (fun c σ G=>∃(v4:Option V) (kvs:List (List Key×V)),σ = [some (.ref tA),some (.int (n:Nat)),some (.ref d),some (.int (i:Nat)),v4,none,none]/\Zh H G/\Rks p0 n G d i c kvs) ⟨_,_,rfl,sG,rG⟩ ?_ ?_
   rotate_left
   ·rintro σ G2 ⟨v4',kvs',rfl,s2,r2⟩
    exact ⟨_,_,_,rfl,s2,r2.at_,by have:=r2.le;omega,fun a b o hb=>r2.ok a b (by omega) hb⟩
   rintro c σ G2 hc ⟨v4',kvs',rfl,s2,r2⟩
   have rr:=r2
   refine ⟨_,rfl,_,rfl,_,rfl,tA,_,rfl,Zu.of (s2 _ _ ea),fun l hl=>?_⟩
   rw [ZjI,<- List.map_drop]
   have s5:Zh G2 (upd G2 l (.lst ((rs.drop i).map V.ref))):=Zh.laid hl
   have el:upd G2 l (.lst ((rs.drop i).map V.ref)) l=some (.lst ((rs.drop i).map V.ref)):=Zb
   generalize upd G2 l (.lst ((rs.drop i).map V.ref))=G5 at *
   have ll:((rs.drop i).map V.ref).length=n-i:=by rw [List.length_map,List.length_drop,la]
   refine ⟨l,rfl,⟨_,Zu.of el⟩,Jg (K:=K) (a:=l) (xs:=(rs.drop i).map V.ref) (by rw [ll,sizeLine_eq];omega) (fun d zs G=>NR G5 G (fun r=>Jc c (T (i+r) % 2 ^ c)) d zs) (NR.nil _ _) (fun _ _ _ x=>x.len) (fun d zs G x=>Zu.of (x.1 _ _ el)) (fun d' y zs G6 hy x=>?_) (fun zs G6 x E' hE=>?_)⟩
   ·obtain ⟨q,hq,rfl⟩:=JB hy
    rw [List.getElem?_drop] at hq
    refine lcG ⟨_,rfl,_,rfl,_,_,rfl,rfl,_,rfl,q,_,rfl,Zu.of (x.1 _ _ (s5 _ _ (s2 _ _ (er _ q hq)))),fun u hu=>x.step (Zh.laid hu) hu ?_⟩
    rw [show -1+(c:Int)+1=((c:Nat):Int) by omega,Zil,Zhf _ _ _ (by omega)]
    exact Zb
   rw [ll] at x
   obtain ⟨sE,fE,ts,rfl,lt,_,_,_,eE,ets⟩:=x.done hE
   generalize upd G6 E' (.lst (ts.map V.ref))=G7 at *
   have lp:(Ze6 T n i c).length=n-i:=by unfold Ze6;rw [List.length_map,List.length_drop,List.length_range]
   refine ⟨E',c,Ze6 T n i c,ts,rfl,eE,⟨by rw [lt,lp],fun r p e=>?_⟩,by rw [lp];omega,by omega,fun v hv=>?_,fun G8 f8 s8 rk=>?_⟩
   ·have hr:r<n-i:=by rw [<- lt];exact (List.getElem?_eq_some_iff.mp e).1
    refine ⟨T (i+r) % 2 ^ c,?_,ets r p e⟩
    unfold Ze6
    rw [List.getElem?_map,List.getElem?_drop,List.getElem?_range (by omega)]
    rfl
   ·obtain ⟨r,_,rfl⟩:=List.mem_map.mp hv
    exact Nat.mod_lt _ (Nat.two_pow_pos _)
   rw [Zfy up i c rk]
   have sH8:=s2.trans ((s5.trans sE).trans s8)
   have r8:Rks p0 n G8 d i c kvs':=⟨((s5.trans sE).trans s8) _ _ r2.at_,r2.le,r2.ok⟩
   refine ⟨_,rfl,_,rfl,_,rfl,by show 2<=sizeLine;decide,fun tp htp=>?_⟩
   have s9:Zh G8 (upd G8 tp (.tup [.int (i:Int),.int (-1+(c:Int))])):=Zh.laid htp
   have etp:(upd G8 tp (.tup [.int (i:Int),.int (-1+(c:Int))])) tp=some (.tup [.int (i:Int),.int (-1+(c:Int))]):=Zb
   have sH9:=sH8.trans s9
   have r9:Rks p0 n (upd G8 tp (.tup [.int (i:Int),.int (-1+(c:Int))])) d i c kvs':=⟨s9 _ _ r8.at_,r2.le,r2.ok⟩
   generalize upd G8 tp (.tup [.int (i:Int),.int (-1+(c:Int))])=G9 at *
   rw [show (-1:Int)+(c:Int)=(c:Int)-1 by omega] at etp
   refine ⟨d,_,rfl,ZcM.t (k:=[Sum.inl (i:Int),Sum.inl ((c:Int)-1)]) r9.at_ etp (by have:=r9.le;rw [sizeLine_eq];omega),_,_,rfl,?_,r9.put⟩
   exact sH9.put hd
  ·rintro σ G ⟨v3,v4,kvs,rfl,sG,rG⟩
   refine ⟨by show 1<=sizeLine;decide,fun c hc=>⟨_,rfl,c,_,_,rfl,rfl,Zb,by omega,by omega,(by rw [sizeLine_eq];simp;omega),fun fA hfA=>?_⟩⟩
   have er0:(List.replicate (n:Int).toNat [V.non]).flatten=pL n (dnP p0 0 0):=by
    rw [Int.toNat_natCast,List.flatten_replicate_singleton]
    unfold pL
    refine (List.eq_replicate_iff.mpr ⟨by simp,fun b hb=>?_⟩).symm
    obtain ⟨r,_,rfl⟩:=List.mem_map.mp hb
    rw [Zht];rfl
   rw [er0]
   have sc:Zh G (upd G c (.lst [V.non])):=Zh.laid hc
   have rC:Rks p0 n (upd G c (.lst [V.non])) d (n+1) 0 kvs:=⟨sc _ _ rG.at_,rG.le,rG.ok⟩
   have sHC:=sG.trans sc
   generalize upd G c (.lst [V.non])=GC at *
   have sA:Zh GC (upd GC fA (.lst (pL n (dnP p0 0 0)))):=Zh.laid hfA
   have eA:(upd GC fA (.lst (pL n (dnP p0 0 0)))) fA=some (.lst (pL n (dnP p0 0 0))):=Zb
   generalize upd GC fA (.lst (pL n (dnP p0 0 0)))=GA at *
   have fH:H fA=none:=sHC.free hfA
   have rd:∀(G':Hp) (σ:L2.St) (ta tb:TE) (a b:Nat) (Q':VK),Zh GC G' -> σ[2]? = some (some (.ref d))->(∀(G:Hp) (Q:VK),Q (.int (a:Int)) G->ta σ G Q)->(∀(G:Hp) (Q:VK),Q (.int ((b:Int)-1)) G->tb σ G Q)->a<=n->b<=n->(∀G'',Zh G' G''->Q' (.int (cN p0 n a b:Int)) G'')->tOp Zjv (ZdP 2) (Zne (ZhE ta (ZhE tb Zm0))) σ G' Q':=fun G' σ ta tb a b Q' sG' hσ ha hb an bn hQ=>by
    refine ⟨_,hσ,ha _ _ (hb _ _ ⟨by show 2<=sizeLine;decide,fun tp htp=>?_⟩)⟩
    refine ⟨d,_,rfl,ZmK (x:=(a:Int)) (y:=(b:Int)-1) ((Zh.laid htp) _ _ (sG' _ _ rC.at_)) Zb (rC.ok a b (by omega) bn),hQ _ (Zh.laid htp)⟩
   refine ⟨_,rfl,_,rfl,by omega,by omega,YG (n:=n) (fun i σ G=>∃(v3 v4 v6:Option V),σ = [some (.ref tA),some (.int (n:Nat)),some (.ref d),v3,v4,some (.ref fA),v6]/\Zh GC G/\G fA=some (.lst (pL n (dnP p0 i 0)))) ⟨_,_,_,rfl,sA,eA⟩ ?_ ?_⟩
   rotate_left
   ·rintro σ G2 ⟨v3,v4,v6,rfl,s2,e2⟩
    refine ⟨_,rfl,q fA G2 fH (sHC.trans s2) ?_⟩
    rw [e2,UJ fun r hr=>Zj4 up hr]
   rintro i σ G2 hi' ⟨v3,v4,v6,rfl,s2,e2⟩
   refine ⟨_,rfl,_,_,rfl,rfl,_,rfl,_,_,rfl,⟨by omega,by omega,by omega,by omega⟩,?_⟩
   rw [show ((n:Int)-(0+(i:Int)+1)).toNat=n-(i+1) by omega,show (0:Int)+(i:Int)=((i:Nat):Int) by omega]
   refine YG (n:=n-(i+1)) (lo:=(i:Int)+1) (fun c σ G=>∃(v4 v6:Option V),σ = [some (.ref tA),some (.int (n:Nat)),some (.ref d),some (.int (i:Nat)),v4,some (.ref fA),v6]/\Zh GC G/\G fA=some (.lst (pL n (dnP p0 i (i+1+c))))) ⟨_,_,rfl,s2,by rw [e2,UJ fun r hr=>ZlF up hr]⟩ ?_ ?_
   rotate_left
   ·rintro σ G3 ⟨v4',v6',rfl,s3,e3⟩
    refine ⟨_,_,_,rfl,s3,?_⟩
    rw [e3,show i+1+(n-(i+1))=n by omega,UJ fun r hr=>Zkg up hr]
   rintro cc σ G3 hcc ⟨v4',v6',rfl,s3,e3⟩
   obtain ⟨j,hj⟩:∃j,j=i+1+cc:=⟨_,rfl⟩
   rw [show (i:Int)+1+(cc:Int)=((j:Nat):Int) by omega,show i+1+(cc+1)=j+1 by omega]
   rw [<- hj] at e3
   have jn:j<n:=by omega
   have ij:i<j:=by omega
   refine rd G3 _ _ _ i (j+1) _ s3 rfl (fun G Q h=>⟨_,rfl,h⟩) (fun G Q h=>⟨_,rfl,by rw [show ((j+1:Nat):Int)-1=(j:Int) by omega] at h;exact h⟩) (by omega) (by omega) fun G4 s4=>?_
   refine rd G4 _ _ _ (i+1) (j+1) _ (s3.trans s4) rfl (fun G Q h=>⟨_,rfl,_,_,rfl,rfl,h⟩) (fun G Q h=>⟨_,rfl,by rw [show ((j+1:Nat):Int)-1=(j:Int) by omega] at h;exact h⟩) (by omega) (by omega) fun G5 s5=>?_
   refine ⟨_,_,rfl,rfl,?_⟩
   refine ⟨_,rfl,?_⟩
   refine rd G5 _ _ _ i j _ ((s3.trans s4).trans s5) rfl (fun G Q h=>⟨_,rfl,h⟩) (fun G Q h=>⟨_,rfl,_,_,rfl,rfl,h⟩) (by omega) (by omega) fun G6 s6=>?_
   refine ⟨_,_,rfl,rfl,?_⟩
   refine rd G6 _ _ _ (i+1) j _ (((s3.trans s4).trans s5).trans s6) rfl (fun G Q h=>⟨_,rfl,_,_,rfl,rfl,h⟩) (fun G Q h=>⟨_,rfl,_,_,rfl,rfl,h⟩) (by omega) (by omega) fun G7 s7=>?_
   refine ⟨_,_,rfl,rfl,rfl,?_⟩
   have val:=Zj3 (p:=p0) ij jn
   have s37:=((s4.trans s5).trans s6).trans s7
   have e7:=s37 _ _ e3
   have sC7:=s3.trans s37
   refine ⟨_,rfl,?_⟩
   by_cases hp:p0 i=some j
   ·rw [if_pos hp] at val
    refine Y0 (fun _=>?_) (fun z=>absurd (decide_eq_true (congrArg V.int val)) z)
    refine ⟨_,rfl,_,rfl,by show 2<=sizeLine;decide,fun tp htp=>?_⟩
    have s8:Zh G7 (upd G7 tp (.tup [.int (j:Int),.int (i:Int)])):=Zh.laid htp
    have etp:(upd G7 tp (.tup [.int (j:Int),.int (i:Int)])) tp=some (.tup [.int (j:Int),.int (i:Int)]):=Zb
    generalize upd G7 tp (.tup [.int (j:Int),.int (i:Int)])=G8 at *
    have e8:=s8 _ _ e7
    refine ⟨tp,_,rfl,JZ.of etp,rfl,_,_,rfl,_,rfl,_,rfl,fA,_,_,i,rfl,rfl,e8,by rw [Us];exact YT (by omega),?_⟩
    refine ⟨_,_,rfl,_,rfl,_,rfl,fA,_,_,j,rfl,rfl,Zb,by rw [List.length_set,Us];exact YT jn,rfl,?_⟩
    rw [J7,Zkx up ij jn hp]
    exact ⟨_,_,rfl,(sC7.trans s8).put hfA,Zb⟩
   ·rw [if_neg hp] at val
    refine Y0 (fun z=>absurd (V.int.inj (of_decide_eq_true z)) fun y=>absurd (val.symm.trans y) (by decide)) (fun _=>?_)
    refine ⟨_,_,rfl,sC7,?_⟩
    rw [e7,UJ fun r hr=>ZlK up hr ij hp]
theorem ZgH {n k:Nat}{T:Nat->Nat}{p:Nat->Option Nat} (g:Good n T p) (hk:k+1<n) (hb:(T k).testBit (k+1)=false):p k≠some (k+1):=fun e=>by
 obtain ⟨S,U⟩:=g.up
 obtain ⟨v,s,l⟩:=(U.lead k (k+1) (k+1)).mpr ⟨k,Nat.le_refl _,by lia,e,by lia,Nat.le_refl _⟩
 refine absurd (Zc6 (fun x hx=>?_) s) l.nz
 obtain ⟨r,h1,h2,rfl⟩:=UZ.mp hx
 refine Nat.eq_of_testBit_eq fun c=>?_
 rw [Nat.testBit_mod_two_pow,Nat.zero_testBit]
 by_cases c1:c<=r
 ·rw [U.high h2 c c1,Bool.and_false]
 ·by_cases c2:c<k+1+1
  ·have a1:r=k:=by lia
   have a2:c=k+1:=by lia
   rw [a1,a2,hb,Bool.and_false]
  ·rw [decide_eq_false c2,Bool.false_and]
theorem ZkE {n k:Nat}{T:Nat->Nat}{p:Nat->Option Nat} (g:Good n T p) (hk:k+1<n) (hb:(T k).testBit (k+1)=true):p k=some (k+1):=by
 obtain ⟨S,U⟩:=g.up
 obtain ⟨m,rfl⟩:∃m,n=m+2:=⟨n-2,by lia⟩
 exact U.ends (by lia) hb
theorem Zif {n k a:Nat}{T S:Nat->Nat}{p:Nat->Option Nat} (U:Up T n 0 S p) (hk:k+1<n):∃S',Up (slT k a T) n 0 S' p:=by
 unfold slT
 by_cases e:a=1
 ·rw [if_pos e];exact ⟨_,U.slide (by lia) hk⟩
 ·rw [if_neg e];exact ⟨_,U⟩
theorem ZbX {n:Nat}{T S:Nat->Nat}{p:Nat->Option Nat} (n8:n<=8) (U:Up T n 0 S p) (lt:∀r,r<n->T r<2 ^ n) (full:∀r,r<n->p r≠none):Good n T p:=⟨n8,fun r hr=>⟨lt r hr,U.high hr⟩,U.sqr,⟨S,U⟩,full⟩
theorem Zhp {n k a:Nat}{x:Str}{T:Nat->Nat}{p:Nat->Option Nat} (g:Good n T p) (a2:a<2)
  (h:(x = "born" /\ k<=n/\n<=6)∨(x = "cross" /\ k+1<n/\(T k).testBit (k+1)=false)∨(x = "end" /\ k+1<n/\(T k).testBit (k+1)=true)):
  ∃p',Good (nxM x n) (nxT x k a n T) p'/\(p'=nxP x k p∨(x = "cross" /\ p'=p)):=by
 obtain ⟨S,U⟩:=g.up
 have full:=g.full
 rcases h with ⟨rfl,hk,n6⟩ | ⟨rfl,hk,hb⟩ | ⟨rfl,hk,hb⟩
 ·refine ⟨JR k p,ZbX (n:=n+2) (T:=Gx k n T) (by lia) (U.born hk) (fun r hr=>?_) (fun r hr=>?_),.inl rfl⟩
  ·unfold Gx
   by_cases c1:r=k
   ·rw [if_pos c1];exact Nat.pow_lt_pow_right (by decide) (by lia)
   ·rw [if_neg c1]
    by_cases c2:r=k+1
    ·rw [if_pos c2];exact Nat.two_pow_pos _
    ·rw [if_neg c2];exact US _ _
  ·unfold JR
   by_cases c1:r=k
   ·rw [if_pos c1];exact fun z=>nomatch z
   ·rw [if_neg c1]
    by_cases c2:r=k+1
    ·rw [if_pos c2];exact fun z=>nomatch z
    ·rw [if_neg c2]
     obtain ⟨q,hq⟩:=Option.ne_none_iff_exists'.mp (full (YL k r) (by unfold YL;split<;>lia))
     rw [hq];exact fun z=>nomatch z
 ·have np:=ZgH g hk hb
  obtain ⟨S1,U1⟩:=Zif (a:=a) U hk
  have lt:∀r,r<n->swT k n (slT k a T) r<2 ^ n:=fun r _=>US _ _
  rcases U1.cross hk np full with ⟨S2,U2⟩ | ⟨S2,U2⟩
  ·refine ⟨swP k p,ZbX g.n8 U2 lt (fun r hr=>?_),.inl rfl⟩
   obtain ⟨q,hq⟩:=Option.ne_none_iff_exists'.mp (full (YQ k r) (JM hk hr))
   unfold swP;rw [hq];exact fun z=>nomatch z
  ·exact ⟨p,ZbX g.n8 U2 lt full,.inr ⟨rfl,rfl⟩⟩
 ·obtain ⟨m,rfl⟩:∃m,n=m+2:=⟨n-2,by lia⟩
  obtain ⟨S1,U1⟩:=Zif (a:=a) U hk
  have bd:∀r c,r<m+2->m+2<=c->(T r).testBit c=false:=fun r c hr hc=>Nat.testBit_lt_two_pow (Nat.lt_of_lt_of_le (g.hi r hr).1 (Nat.pow_le_pow_right (by decide) hc))
  have hi2:∀r,r<m+2 -> ∀c,c<=r->(T r).testBit c=false:=fun r hr=>(g.hi r hr).2
  have b1:(slT k a T k).testBit (k+1)=true:=by
   rw [GJ a2]
   by_cases e:a=1
   ·rw [if_pos e,if_pos rfl,if_pos rfl,Nat.testBit_xor,Nat.testBit_xor,hb,hi2 (k+1) hk (k+1) (Nat.le_refl _),hi2 k (by lia) k (Nat.le_refl _),hi2 (k+1) hk k (by lia)];rfl
   ·rw [if_neg e];exact hb
  have l1:slT k a T k<2 ^ (m+2):=Nat.lt_pow_two_of_testBit _ fun c hc=>by
   rw [GJ a2]
   by_cases e:a=1
   ·rw [if_pos e,if_neg (by lia),if_pos rfl,Nat.testBit_xor,bd k c (by lia) hc,bd (k+1) c hk hc];rfl
   ·rw [if_neg e];exact bd k c (by lia) hc
  have U2:=U1.fin (by lia) l1 b1
  refine ⟨ZcQ k p,ZbX (n:=m) (T:=ZbJ k m (slT k a T)) (by have:=g.n8;lia) U2 (fun r _=>US _ _) (fun r hr=>?_),.inl rfl⟩
  obtain ⟨q,hq⟩:=Option.ne_none_iff_exists'.mp (full (Zs k r) (Jh hr))
  unfold ZcQ;rw [hq];exact fun z=>nomatch z
structure Tb where
 a:Addr
 n:Nat
 T:Nat->Nat
 p:Nat->Option Nat
def Zb2 (G:Hp) (b f:Addr) (t:Tb):Prop:=∃rs,W4 G t.a t.n t.T rs/\((t.a≠b/\t.a≠f) /\ ∀r∈rs,r≠b/\r≠f)/\Good t.n t.T t.p
def Fits (x:Str) (k n:Nat) (p:Nat->Option Nat):Prop:=(x = "born" /\ k<=n)∨(x = "cross" /\ k+1<n/\p k≠some (k+1))∨(x = "end" /\ k+1<n/\p k=some (k+1))
def Stp (q:Str×Int) (t t':Tb):Prop:=∃k:Nat,q.2=(k:Int)/\t'.n=nxM q.1 t.n/\Fits q.1 k t.n t.p/\(t'.p=nxP q.1 k t.p∨(q.1 = "cross" /\ t'.p=t.p))
structure ZkW (G:Hp) (b fA:Addr) (ls:List (Str×Int)) (m:Nat) (L:Nat->Tb):Prop where
 at_:G fA=some (.lst ((List.range (m+1)).map fun i=>V.ref (L i).a))
 ok:∀i,i<=m->Zb2 G b fA (L i)
 st:∀i,i<m -> ∃q,ls[i]? = some q/\Stp q (L i) (L (i+1))
 z:(L 0).n=0
theorem Zb2.frm {G G':Hp}{b f:Addr}{t:Tb} (x:Zb2 G b f t) (fr:JV b G G'):Zb2 G' b f t:=by
 obtain ⟨rs,⟨h1,h2,h3⟩,⟨n1,n2⟩,g⟩:=x
 exact ⟨rs,⟨fr _ _ h1 n1.1,h2,fun r q e=>fr _ _ (h3 r q e) (n2 q (List.mem_of_getElem? e)).1⟩,⟨n1,n2⟩,g⟩
theorem Zb2.put {G:Hp}{b f:Addr}{t:Tb}{o:HO} (x:Zb2 G b f t):Zb2 (upd G f o) b f t:=by
 obtain ⟨rs,⟨h1,h2,h3⟩,⟨n1,n2⟩,g⟩:=x
 exact ⟨rs,⟨by rw [Zi n1.2];exact h1,h2,fun r q e=>by rw [Zi (n2 q (List.mem_of_getElem? e)).2];exact h3 r q e⟩,⟨n1,n2⟩,g⟩
theorem Zb2.same {G G':Hp}{b f:Addr}{t:Tb} (x:Zb2 G b f t) (s:Zh G G'):Zb2 G' b f t:=x.frm s.frm
theorem ZhT {α:Type}{l:List α}{i:Nat}{x:α} (hl:l.length=i+1) (h:l[i]? = some x):atI l (-1)=some x:=by
 unfold atI ixN
 rw [if_neg (by decide),if_pos (by lia),hl,show ((-1:Int)+((i+1:Nat):Int)).toNat=i by lia]
 exact h
theorem good0:Good 0 (fun _=>0) (fun _=>none):=⟨by decide,fun r h=>absurd h (Nat.not_lt_zero r),fun _=>rfl,⟨fun _=>0,⟨fun r _ h=>absurd h (Nat.not_lt_zero r),fun r _ h=>absurd h (Nat.not_lt_zero r),fun r _ _ h=>absurd h (Nat.not_lt_zero r),fun r _ _ h=>absurd h (Nat.not_lt_zero r),fun r _ h=>absurd h (Nat.not_lt_zero r)⟩⟩,fun r h=>absurd h (Nat.not_lt_zero r)⟩
def Zid:Sp:=fun vs H Q _=>∃(l b:Addr) (sc:Int) (ls:List (Str×Int)) (g:Int->Int),vs = [.ref l,.int sc,.ref b]/\(sc=0∨sc=1)/\Drw H l ls/\Lo8 ls/\HG sc ls g/\UU H b /\
 ∀(fA:Addr) (H':Hp) (m:Nat) (L:Nat->Tb),H fA=none->UU H' b->JV b H H'->ZkW H' b fA ls m L->Q (.ref fA) H'
abbrev GS:Stmt:=top 37
theorem JC:ZH ["_law_drawing_here", "_law_scale", "_law_bag_here", "_law_found", "_law_letter", "_law_height", "_law_number"] ["_law_drawing_here", "_law_scale", "_law_bag_here"] (Zl GS):={}
theorem ZlX {f:Addr}{fd:FuncData} (F:Jl K "_law_begun" "_law_begun" GS f fd) (Zt:Jm P w K mg base 1 "_law_take" ["_law_bag_here", "_law_many"] Uw) (Je:Jm P w K mg base 5 "_law_letter_heights" ["_law_drawing_here", "_law_scale"] ZfU) (Ju:Jm P w K mg base 2 "_law_number_table" ["_law_table", "_law_letter", "_law_number"] Zlz) (ZaE:mg "zip" = none) (Wj:mg "int" = none):Ys P w K mg base W3 6 f fd ["_law_drawing_here", "_law_scale", "_law_bag_here"] Zid:=by
 refine F.ok JC (fun vs H Q E h=>?_) (fun cdv A outer s H vs Q E hr h=>?_)
 ·obtain ⟨l,b,sc,ls,g,rfl,_⟩:=h
  rfl
 ·obtain ⟨l,b,sc,ls,g,rfl,hsc,hD,lo,hg,bg,q⟩:=h
  refine ⟨_,(Ze (Zo (i:=3) JC.nd rfl (Or.inl rfl) (ZY (Za (ZY Zc) Zc)))
   (Ze (Yc PassesOwn.never rfl (Zdv (K:=K) rfl (by rfl) ZaE (Za (pv 0) (Za (Zz Je hr (Za (pv 0) (Za (pv 1) Zc))) Zc))) (Ye (K:=K) (n:=2) rfl rfl (Zq (Zk (i:=4) JC.nd rfl (Or.inl rfl)) (Zq (Zk (i:=5) JC.nd rfl (Or.inl rfl)) Z6))) (Ze (Zo (i:=6) JC.nd rfl (Or.inl rfl) (Zj Jx (Zz Zt hr (Za (pv 2) (Za Zd Zc))) (Yf JP (by rfl) Wj boot_int (Za (Jr YA (pv 5) Zd (Zv _)) Zc))))
   (Ze (ZU (PW.pt (Gj (Zr UO (Zx (YF (K:=K) rfl) (pv 4) Zd (fun _ _=>rfl)) ZK (Zv _)) (Gi (Zr UO (Zx (Zm (K:=K) rfl) (Zx (Zm (K:=K) rfl) (Zx (Zm (K:=K) rfl) (pv 3) (Zbu Um Zd) (fun _ _=>rfl)) (Zx (YF (K:=K) rfl) (pv 4) Zd (fun _ _=>rfl)) (fun _ _=>rfl)) (Zj Zw (Zx (YF (K:=K) rfl) (pv 4) Zd (fun _ _=>rfl)) Zd) (fun _ _=>rfl)) (Yf JP (by rfl) Wj boot_int (Za (Jr YA (Zx (YF (K:=K) rfl) (pv 4) Zd (fun _ _=>rfl)) ZK (Zv _)) Zc)) (Zv _))))) (Zg (ZD (pv 3))) ZG)
   (Zg (Yq (Yt (K:=K) rfl (Jk PySem.F.plainAttrs_list PySem.F.slot_list_append PySem.F.type_list_append Yo (pv 3) (Za (Zz Ju hr (Za (Zx (Zm (K:=K) rfl) (pv 3) (Zbu Um Zd) (fun _ _=>rfl)) (Za (pv 4) (Za (pv 6) Zc)))) Zc))))))))
   (Zg (ZD (pv 3))))),?_⟩
  obtain ⟨xs,hl,hL,hW,hlen⟩:=id hD
  have nb:∀{c:Addr}{G:Hp},UU G b->G c=none->c≠b:=fun {c G} h e z=>by
   obtain ⟨_,_,_,q⟩:=h
   rw [z,q] at e
   cases e
  refine ⟨by show 0<=sizeLine;decide,fun t0 h0=>⟨by show 1<=sizeLine;decide,fun fA hA=>?_⟩⟩
  have s0:Zh H (upd (upd H t0 (.lst [])) fA (.lst [.ref t0])):=(Zh.laid h0).step hA
  have fA0:H fA=none:=(Zh.laid h0).free hA
  have e0:(upd (upd H t0 (.lst [])) fA (.lst [.ref t0])) fA=some (.lst [.ref t0]):=Zb
  have et0:(upd (upd H t0 (.lst [])) fA (.lst [.ref t0])) t0=some (.lst []):=(Zh.laid hA) _ _ Zb
  generalize upd (upd H t0 (.lst [])) fA (.lst [.ref t0])=H0 at *
  have z0:Zb2 H0 b fA ⟨t0,0,fun _=>0,fun _=>none⟩:=⟨[],⟨et0,rfl,fun r q e=>by simp at e⟩,⟨⟨nb bg h0,fun z=>by have z:t0=fA:=z;rw [z,e0] at et0;cases et0⟩,fun r h=>nomatch h⟩,good0⟩
  have bg0:UU H0 b:=YM s0 bg
  refine ⟨_,rfl,_,rfl,_,rfl,l,sc,ls,g,rfl,hsc,⟨xs,s0 _ _ hl,hL.same s0,hW,hlen⟩,hg,fun p H1 s1 fp ep=>?_⟩
  have lp:(lhL g ls ls.length).length=ls.length:=by unfold lhL;rw [List.length_map,List.length_range]
  have npb:p≠b:=nb bg0 fp
  have nAb:fA≠b:=nb bg fA0
  have nlb:l≠b:=fun z=>by
   obtain ⟨_,_,_,q⟩:=bg
   rw [z,q] at hl
   cases hl
   cases hL with
   | cons h _=>obtain ⟨t,z,_⟩:=h;cases z
  have sl:=(s0.trans s1)
  refine ⟨l,p,rfl,⟨_,Zu.of (sl _ _ hl)⟩,⟨_,Zu.of ep⟩,Zgu (K:=K) (a:=l) (b:=p) (xs:=xs) (ys:=lhL g ls ls.length) (by rw [lp,hL.len]) (fun i σ G=>∃(L:Nat->Tb) (v4 v5 v6:Option V),σ = [some (.ref l),some (.int sc),some (.ref b),some (.ref fA),v4,v5,v6]/\UU G b/\JV b H G/\G l=some (.lst xs)/\ZI G xs ls/\G p=some (.lst (lhL g ls ls.length))/\ZkW G b fA ls i L/\Wk (ls.take i) ((L i).n:Int))
   ⟨fun _=>⟨t0,0,fun _=>0,fun _=>none⟩,none,none,none,rfl,YM s1 bg0,sl.frm,sl _ _ hl,hL.same sl,ep,⟨s1 _ _ e0,fun i hi=>z0.same s1,fun i hi=>absurd hi (Nat.not_lt_zero i),rfl⟩,Wk.nil⟩ (fun i σ G ⟨_,_,_,_,_,_,_,a,_,c,_,_⟩=>⟨Zu.of a,Zu.of c⟩) ?_ ?_⟩
  rotate_left
  ·rintro σ G ⟨L,v4,v5,v6,rfl,bgG,frG,_,_,_,be,_⟩
   exact ⟨_,rfl,q fA G _ L fA0 bgG frG be⟩
  rintro i x y u σ G hx hy ⟨L,v4,v5,v6,rfl,bgG,frG,eG,hLG,epG,be,wk⟩ fu
  obtain ⟨⟨wd,kk⟩,t,hq,rfl,ht⟩:=hLG.get hx
  have sU:Zh G (upd G u (.tup [.ref t,y])):=Zh.laid fu
  have eu:(upd G u (.tup [.ref t,y])) u=some (.tup [.ref t,y]):=Zb
  generalize upd G u (.tup [V.ref t,y])=G1 at *
  refine ⟨u,_,rfl,JZ.of eu,rfl,_,_,rfl,_,_,rfl,rfl,?_⟩
  obtain ⟨o,rfl⟩:∃o,y=oI o:=by
   unfold lhL at hy
   rw [List.getElem?_map] at hy
   obtain ⟨e,_,rfl⟩:=Option.map_eq_some_iff.mp hy
   exact ⟨_,rfl⟩
  have so:Zmk (oI o) (.int 0)=true:=by cases o<;>rfl
  refine ⟨_,rfl,b,2,rfl,YM sU bgG,by decide,by decide,fun d G2 d0 d2 bg2 f2=>?_⟩
  have fu2:=(sU.frm (b:=b)).trans f2
  have ht2:G2 t=some (.tup [.str wd,.int kk]):=fu2 _ _ ht (fun z=>by obtain ⟨_,_,_,q⟩:=bgG;rw [z,q] at ht;cases ht)
  obtain ⟨a,ha,a2⟩:∃a:Nat,d*(if decide (oI o=V.int 0)=true then 1 else 0)=(a:Int)/\a<2:=by
   refine ⟨(d*(if decide (oI o=V.int 0)=true then 1 else 0)).toNat,?_,?_⟩<;>split<;>lia
  refine ⟨_,rfl,so,.inr ⟨_,rfl,d,_,rfl,rfl,.inl ⟨by lia,by lia⟩,?_⟩⟩
  dsimp only [W0]
  rw [ha]
  have hi:i<ls.length:=(List.getElem?_eq_some_iff.mp hq).1
  obtain ⟨m',wm⟩:=UY hW (i+1)
  have m8:m'<=8:=lo _ (ls.drop (i+1)) m' (List.take_append_drop _ _).symm wm
  have tk:ls.take (i+1)=ls.take i ++ [(wd,kk)]:=by rw [List.take_add_one,hq];rfl
  obtain ⟨n',wn,fit⟩:=ZiG (by rw [tk] at wm;exact wm)
  have en:n'=((L i).n:Int):=ZbZ wn wk
  obtain ⟨k,rfl⟩:∃k:Nat,kk=(k:Int):=⟨kk.toNat,by rcases fit with ⟨_,h,_⟩ | ⟨_,h,_⟩ | ⟨_,h,_⟩<;>(have h:0<=kk:=h;lia)⟩
  have fit:(wd = "born" /\ k<=(L i).n/\(L i).n<=6)∨(wd = "cross" /\ k+1<(L i).n)∨(wd = "end" /\ k+1<(L i).n):=by
   rcases fit with ⟨h1,h2,h3⟩ | ⟨h1,h2,h3⟩ | ⟨h1,h2,h3⟩
   ·have h1:wd = "born" := h1
    have h3:(k:Int)<=n':=h3
    subst h1
    have:=ZbZ (by rw [tk] at wm;exact wm) (Wk.born wn h2 h3)
    exact .inl ⟨rfl,by lia,by lia⟩
   ·have h3:(k:Int)+1<n':=h3
    exact .inr (.inl ⟨h1,by lia⟩)
   ·have h3:(k:Int)+1<n':=h3
    exact .inr (.inr ⟨h1,by lia⟩)
  obtain ⟨rs,⟨ea,la,er⟩,⟨nab,nrb⟩,gd⟩:=(be.ok i (Nat.le_refl _)).frm fu2
  have eF:=fu2 _ _ be.at_ nAb
  have eL:atI ((List.range (i+1)).map fun i=>V.ref (L i).a) (-1)=some (V.ref (L i).a):=ZhT (i:=i) (by simp) (by rw [List.getElem?_map,List.getElem?_range (by lia)];rfl)
  refine ZdB (ZcI (β:=!decide (V.str wd=V.str "born")) (γ:=!decide (V.int ((((L i).T k).testBit (k+1)).toNat:Int)=V.int (if decide (V.str wd=V.str "end")=true then 1 else 0))) (fun Q q=>⟨_,rfl,t,_,_,_,rfl,rfl,JZ.of ht2,rfl,rfl,_,rfl,q⟩) (fun hb=>?_)) (fun hp=>?_) (fun hp=>?_)
  ·
   have k1:k+1<(L i).n:=by
    rcases fit with ⟨h,_⟩ | h | h
    ·rw [h] at hb;simp at hb
    ·exact h.2
    ·exact h.2
   obtain ⟨r,hr'⟩:∃r,rs[k]? = some r:=⟨_,List.getElem?_eq_getElem (by lia)⟩
   have eR:=er k r hr'
   refine fun Q q=>⟨_,rfl,_,rfl,fA,_,_,_,rfl,rfl,Zu.of eF,eL,_,rfl,t,_,_,_,rfl,rfl,JZ.of ht2,rfl,(L i).a,_,_,_,rfl,rfl,Zu.of ea,Zp (j:=k) (by rw [List.getElem?_map,hr'];rfl),?_⟩
   have eI:atI (Jc (L i).n ((L i).T k)) ((k:Int)+1)=some (V.int ((((L i).T k).testBit (k+1)).toNat:Int)):=by
    rw [show (k:Int)+1=((k+1:Nat):Int) by lia];exact Zp (Gg k1)
   exact ⟨_,rfl,t,_,_,_,rfl,rfl,JZ.of ht2,rfl,_,_,rfl,rfl,r,_,_,_,rfl,rfl,Zu.of eR,eI,_,rfl,t,_,_,_,rfl,rfl,JZ.of ht2,rfl,rfl,.inr ⟨_,rfl,rfl,_,rfl,q⟩⟩
  ·exact ⟨_,rfl,q fA G2 i L fA0 bg2 (frG.trans fu2) ⟨eF,fun j hj=>(be.ok j hj).frm fu2,be.st,be.z⟩⟩
  ·have cond:(wd = "born" /\ k<=(L i).n/\(L i).n<=6)∨(wd = "cross" /\ k+1<(L i).n/\((L i).T k).testBit (k+1)=false)∨(wd = "end" /\ k+1<(L i).n/\((L i).T k).testBit (k+1)=true):=by
    rcases fit with h | ⟨rfl,h⟩ | ⟨rfl,h⟩
    ·exact .inl h
    ·refine .inr (.inl ⟨rfl,h,?_⟩)
     cases hbt:((L i).T k).testBit (k+1) with
     | false=>rfl
     | true=>rw [hbt] at hp;exact absurd hp (by decide)
    ·refine .inr (.inr ⟨rfl,h,?_⟩)
     cases hbt:((L i).T k).testBit (k+1) with
     | true=>rfl
     | false=>rw [hbt] at hp;exact absurd hp (by decide)
   obtain ⟨p',gd',alt⟩:=Zhp (a:=a) gd a2 cond
   have fts:Fits wd k (L i).n (L i).p:=by
    rcases cond with h | h | h
    ·exact .inl ⟨h.1,h.2.1⟩
    ·exact .inr (.inl ⟨h.1,h.2.1,ZgH gd h.2.1 h.2.2⟩)
    ·exact .inr (.inr ⟨h.1,h.2.1,ZkE gd h.2.1 h.2.2⟩)
   refine ⟨_,rfl,.inl ⟨rfl,_,Zu.of eF⟩,_,rfl,_,rfl,fA,_,_,_,rfl,rfl,Zu.of eF,eL,_,rfl,_,rfl,(L i).a,t,(L i).n,k,a,wd,(L i).T,rs,rfl,⟨ea,la,er⟩,ht2,gd.n8,a2,fun r hr=>(gd.hi r hr).1,fun r j hr hj=>(gd.hi r hr).2 j hj,?_,fun pN ts G3 fN fT s3 tbN=>?_⟩
   ·rcases cond with h | h | h
    ·exact .inl h
    ·exact .inr (.inl h)
    ·exact .inr (.inr ⟨h.1,h.2.1⟩)
   refine ⟨fA,_,_,rfl,rfl,s3 _ _ eF,by rw [List.length_map,List.length_range,sizeLine_eq];lia,?_⟩
   obtain ⟨L',hL'⟩:∃L':Nat->Tb,L'=fun j=>if j=i+1 then ⟨pN,nxM wd (L i).n,nxT wd k a (L i).n (L i).T,p'⟩ else L j:=⟨_,rfl⟩
   have L1:L' (i+1) = ⟨pN,nxM wd (L i).n,nxT wd k a (L i).n (L i).T,p'⟩:=by rw [hL'];exact if_pos rfl
   have L0:∀j,j<=i->L' j=L j:=fun j hj=>by rw [hL'];exact if_neg (by lia)
   have fr3:JV b G G3:=fu2.trans s3.frm
   have frH:JV b H G3:=frG.trans fr3
   have bg3:UU G3 b:=YM s3 bg2
   have ne2:∀c,G2 c=none->c≠b/\c≠fA:=fun c hc=>⟨nb bg2 hc,fun z=>by rw [z,eF] at hc;cases hc⟩
   have nlA:l≠fA:=Zf hl fA0
   have npA:p≠fA:=fun z=>by
    have:=s0
    rw [z,e0] at fp;cases fp
   refine ⟨L',_,_,_,rfl,?_,fun c o e nb'=>by rw [Zi (Zf e fA0)];exact frH c o e nb',by rw [Zi nlA];exact fr3 _ _ eG nlb,?_,by rw [Zi npA];exact fr3 _ _ epG npb,⟨?_,fun j hj=>?_,fun j hj=>?_,?_⟩,?_⟩
   ·obtain ⟨x1,x2,x3,x4⟩:=bg3
    exact ⟨x1,x2,x3,by rw [Zi (Ne.symm nAb)];exact x4⟩
   ·refine (hLG.frm fr3 bgG).mono fun t p e=>?_
    rw [Zi (fun z=>by rw [z,s3 _ _ eF] at e;cases e)];exact e
   ·rw [Zb,List.range_succ (n:=i+1),List.map_append]
    congr 3
    ·refine List.map_congr_left fun j hj=>?_
     rw [L0 j (by have:=List.mem_range.mp hj;lia)]
    ·show [V.ref pN] = [V.ref (L' (i+1)).a]
     rw [L1]
   ·by_cases c:j=i+1
    ·rw [c,L1]
     exact ⟨ts,⟨by rw [Zi (ne2 pN fN).2];exact tbN.1,tbN.2.1,fun r q e=>by rw [Zi (ne2 q (fT q (List.mem_of_getElem? e))).2];exact tbN.2.2 r q e⟩,⟨ne2 pN fN,fun r hr=>ne2 r (fT r hr)⟩,gd'⟩
    ·rw [L0 j (by lia)]
     exact ((be.ok j (by lia)).frm fr3).put
   ·by_cases c:j=i
    ·subst c
     refine ⟨(wd,(k:Int)),hq,?_⟩
     rw [L1,L0 j (Nat.le_refl _)]
     exact ⟨k,rfl,rfl,fts,alt⟩
    ·obtain ⟨q,h1,h2⟩:=be.st j (by lia)
     rw [L0 j (by lia),L0 (j+1) (by lia)]
     exact ⟨q,h1,h2⟩
   ·rw [L0 0 (Nat.zero_le _)];exact be.z
   ·rw [L1,tk]
    show Wk _ ((nxM wd (L i).n:Nat):Int)
    rcases cond with ⟨rfl,h,_⟩ | ⟨rfl,h,_⟩ | ⟨rfl,h,_⟩
    ·have:=Wk.born (k:=(k:Int)) wk (by lia) (by lia)
     exact this
    ·have:=Wk.cross (k:=(k:Int)) wk (by lia) (by lia)
     exact this
    ·have:=Wk.fin (k:=(k:Int)) wk (by lia) (by lia)
     rw [show ((nxM "end" (L i).n:Nat):Int)=((L i).n:Int)-2 by show (((L i).n-2:Nat):Int)=_;lia]
     exact this
theorem Zkz {A B:Prop}{c:Bool} (h1:c=true->A) (h2:c=false->B):if c=true then A else B:=by
 cases c
 ·exact Jq (h2 rfl)
 ·exact Wh (h1 rfl)
def Zgg (K:PySem.W.Frag):Sp:=fun vs H Q _=>∃(a:Addr) (ns:List Int),vs = [.ref a]/\Zu K H a (ns.map V.int)/\ns.length<=63 /\ ∀H',Q (.bl true) H'
abbrev Zcj:Stmt:=top 38
theorem Wq:ZH ["_law_script", "_law_k", "_law_drawing_here", "_law_scale", "_law_tables", "_law_ahead", "_law_t", "_law_table", "_law_handed", "_law_told", "_law_kept"] ["_law_script"] (Zl Zcj):={}
theorem Zlj {f:Addr}{fd:FuncData} (F:Jl K "law" "law" Zcj f fd) (GR:Jm P w K mg base 1 "_law_bag" ["_law_script", "_law_at"] (Zh4 K)) (GQ:Jm P w K mg base 4 "_law_front" ["_law_bag_here", "_law_most"] ZdI) (Gk:Jm P w K mg base 5 "_law_scales" ["_law_drawing_here"] ZcL) (GV:Jm P w K mg base 6 "_law_begun" ["_law_drawing_here", "_law_scale", "_law_bag_here"] Zid) (J4:Jm P w K mg base 7 "table_partners" ["table"] Zak) (J5:Jm P w K mg base 5 "is_table" ["thing"] ZbQ) (Wn:Jm P w K mg base 3 "_law_partners" ["_law_table"] Ziw) (Wt:Jm P w K mg base 1 "_law_moved_on" ["_law_partners_here", "_law_letter"] Zmm)
  (ZC:mg "range" = none) (Yi:mg "len" = none) (Zaj:mg "max" = none) (Zc7:mg "min" = none) (Yu:mg "list" = none) (ZA:mg "enumerate" = none):Ys P w K mg base W3 8 f fd ["_law_script"] (Zgg K):=by
 refine F.ok Wq (fun vs H Q E h=>?_) (fun cdv A outer s H vs Q E hr h=>?_)
 ·obtain ⟨a,ns,rfl,_⟩:=h
  rfl
 ·obtain ⟨a,ns,rfl,hs,hn,k⟩:=h
  refine ⟨_,(Ze (Yc PassesOwn.never rfl (Yb (by rfl) ZC (Za (ZE (U6 rfl) (by rfl) Zaj boot_max (Za Zd (Za (ZE (ZcX rfl) (by rfl) Zc7 boot_min (Za Zd (Za (ZE (Yj (K:=K) rfl) (by rfl) Yi PySem.boot_len (Za (pv 0) Zc)) Zc))) Zc))) Zc)) (Zk (i:=1) Wq.nd rfl (Or.inl rfl)) (Ze (Zo (i:=2) Wq.nd rfl (Or.inl rfl) (Zz GQ hr (Za (Zz GR hr (Za (pv 0) (Za (pv 1) Zc))) (Za Zd Zc))))
   (Zg (Yc PassesOwn.never rfl (Z8 (K:=K) rfl (Zz Gk hr (Za (pv 2) Zc))) (Zk (i:=3) Wq.nd rfl (Or.inl rfl)) (Ze (Zo (i:=4) Wq.nd rfl (Or.inl rfl) (Zz GV hr (Za (pv 2) (Za (pv 3) (Za (Zz GR hr (Za (pv 0) (Za (Zj Zw (Zj Zw (pv 1) Zd) (Zj Jx Zd (pv 3))) Zc))) Zc)))))
   (Ze (Zo (i:=5) Wq.nd rfl (Or.inl rfl) (ZY Zc))
   (Zg (Yc PassesOwn.never rfl (JE (K:=K) rfl (by rfl) ZA (Za (pv 4) Zc)) (Ye (K:=K) (n:=2) rfl rfl (Zq (Zk (i:=6) Wq.nd rfl (Or.inl rfl)) (Zq (Zk (i:=7) Wq.nd rfl (Or.inl rfl)) Z6))) (Ze (GZ (i:=8) Wq.nd rfl (Or.inl rfl) (Ls:=["_law_row"]) (Fs:=[]) (fi:=[]) (ZR.of (show Ym ["_law_script", "_law_k", "_law_drawing_here", "_law_scale", "_law_tables", "_law_ahead", "_law_t", "_law_table", "_law_handed", "_law_told", "_law_kept"] (Zl Zcj) _ [] []=true by decide +kernel)) rfl (Z8 (K:=K) rfl (pv 7)) (fun cl C s3 H3 ex=>⟨(Zk (i:=0) (show ((["_law_row"]:List Str)++([]:List Str)).Nodup by decide +kernel) rfl (Or.inl rfl)),Yh,(Yf (WN (K:=K) rfl) (by rfl) Yu boot_list (Za (pv 0) Zc))⟩))
   (Ze (Zo (i:=9) Wq.nd rfl (Or.inl rfl) (Zz J4 hr (Za (pv 8) Zc)))
   (Ze (ZU (PW.pt (Zad (Zr ZeD (Zz J5 hr (Za (pv 8) Zc)) ZaJ (Zv _)) (Zad (Zr (Zl1 (K:=K) rfl hr.units) (pv 9) (Zz Wn hr (Za (pv 7) Zc)) (Zv _)) (Uq (Zr (ZgE (K:=K) rfl hr.units) (pv 8) (pv 7) (Zv _)))))) (Zg (ZD ZaJ)) ZG)
   (Ze (ZU (Zr Uu (pv 6) Zd (Zv _)) (Ze (Zo (i:=10) Wq.nd rfl (Or.inl rfl) (Zz Wt hr (Za (pv 5) (Za (Zx (Zm (K:=K) rfl) (pv 2) (Zj Yr (pv 6) Zd) (fun _ _=>rfl)) Zc))))
   (Zg (ZU (PW.pt (Gj (Zr (Zge (K:=K) rfl hr.units) (pv 9) (pv 10) (Zv _)) (Gi (PW.pt (Zad (Zr UO (Zx (YF (K:=K) rfl) (Zx (Zm (K:=K) rfl) (pv 2) (Zj Yr (pv 6) Zd) (fun _ _=>rfl)) Zd (fun _ _=>rfl)) ZK (Zv _)) (Uq (Zr (Zge (K:=K) rfl hr.units) (pv 9) (pv 5) (Zv _)))))))) (Zg (ZD ZaJ)) ZG))) ZG)
   (Zg (Zo (i:=5) Wq.nd rfl (Or.inl rfl) (pv 9)))))))))))))))
   (Zg (ZD ZaJ))),?_⟩
  have hS:=hs
  have hlen:=hn
  refine ⟨_,rfl,a,_,rfl,.inl hS,_,_,rfl,_,_,rfl,_,rfl,?_,?_,YG (fun i σ H'=>∃v1 v2 v3 v4 v5 v6 v7 v8 v9 v10:Option V,σ = [some (.ref a),v1,v2,v3,v4,v5,v6,v7,v8,v9,v10]/\Zh H H') ⟨none,none,none,none,none,none,none,none,none,none,rfl,Zh.refl _⟩ ?_ ?_⟩
  ·split<;>(try split)<;>lia
  ·rw [List.length_map]
   split<;>(try split)<;>lia
  ·rintro i σ H0 hi ⟨v1,v2,v3,v4,v5,v6,v7,v8,v9,v10,rfl,sm⟩
   have hi':i<900:=by
    rw [List.length_map] at hi
    revert hi
    split<;>(try split)<;>lia
   refine ⟨_,rfl,_,rfl,a,_,ns,rfl,sm.seq hS,by lia,by lia,fun b0 H1 hb0 s1 bg1=>?_⟩
   refine ⟨b0,6,rfl,bg1,by decide,by decide,fun l H2 ls hl bg2 f2 dr nx=>?_⟩
   refine ⟨_,rfl,l,ls,rfl,dr,fun p H3 scs s3 fp ep sl hsc=>?_⟩
   refine ⟨p,rfl,⟨_,Zu.of ep⟩,Uz (K:=K) (a:=p) (xs:=scs.map V.int) (fun j σ G=>∃v3 v4 v5 v6 v7 v8 v9 v10:Option V,σ = [some (.ref a),some (.int (0+(i:Int))),some (.ref l),v3,v4,v5,v6,v7,v8,v9,v10]/\Zh H3 G) ⟨_,_,_,_,_,_,_,_,rfl,Zh.refl _⟩ (fun j σ G _ ⟨_,_,_,_,_,_,_,_,_,s'⟩=>Zu.of (s' _ _ ep)) ?_ ?_⟩
   ·rintro j y σ G hy ⟨v3,v4,v5,v6,v7,v8,v9,v10,rfl,sG⟩
    rw [List.getElem?_map] at hy
    obtain ⟨sc,e1,rfl⟩:=Option.map_eq_some_iff.mp hy
    obtain ⟨h01,g,hg⟩:=hsc sc (List.mem_of_getElem? e1)
    obtain ⟨xs,hxl,hL,hW,h60⟩:=id dr
    have s2G:=s3.trans sG
    have sHG:Zh H G:=fun c o e=>sG c o (s3 c o (f2 c o (s1 c o (sm c o e)) (Zf (sm c o e) hb0)))
    refine ⟨_,rfl,_,rfl,_,rfl,_,rfl,_,_,rfl,rfl,_,rfl,_,_,rfl,rfl,.inl ⟨by decide,by decide⟩,_,_,rfl,rfl,a,_,ns,rfl,sHG.seq hS,?_,?_,fun b G1 fb sb bgb=>?_⟩
    ·rcases h01 with rfl | rfl<;>lia
    ·rcases h01 with rfl | rfl<;>lia
    have lb:l≠b:=Zf (s2G _ _ hxl) fb
    refine ⟨l,b,sc,ls,g,rfl,h01,⟨xs,sb _ _ (s2G _ _ hxl),hL.same (s2G.trans sb),hW,h60⟩,nx.2,hg,bgb,fun fA G2 m L ffA bg3 fr be=>?_⟩
    have sH3:Zh H3 G2:=fun c o e=>fr c o (sb _ _ (sG c o e)) (Zf (sG c o e) fb)
    have hl2:G2 l=some (.lst xs):=sH3 _ _ (s3 _ _ hxl)
    have hL2:ZI G2 xs ls:=hL.same (s3.trans sH3)
    refine ⟨by show 0<=sizeLine;decide,fun h0 fh0=>?_⟩
    have s0:Zh G2 (upd G2 h0 (.lst [])):=Zh.laid fh0
    generalize upd G2 h0 (.lst [])=G3 at *
    refine ⟨_,rfl,fA,rfl,⟨_,Zu.of (s0 _ _ be.at_)⟩,WE (K:=K) (a:=fA) (xs:=(List.range (m+1)).map fun i=>V.ref (L i).a) (fun t σ G=>∃(hd:Addr) (v6 v7 v8 v9 v10:Option V),σ = [some (.ref a),some (.int (0+(i:Int))),some (.ref l),some (.int sc),some (.ref fA),some (.ref hd),v6,v7,v8,v9,v10]/\Zh G2 G /\ ∀t',t=t'+1->G hd=some (.lst (pL (L t').n (L t').p)))
     ⟨h0,_,_,_,_,_,rfl,s0,fun t' z=>absurd z (by lia)⟩ (fun t σ G _ ⟨_,_,_,_,_,_,_,sG',_⟩=>Zu.of (sG' _ _ be.at_)) ?_ ?_⟩
    rotate_left
    ·rintro σ G ⟨hd,v6,v7,v8,v9,v10,rfl,sG',_⟩
     exact ⟨_,_,_,_,_,_,_,_,rfl,sH3.trans sG'⟩
    rintro t x u σ G4 hx ⟨hd,v6,v7,v8,v9,v10,rfl,s4,eh⟩ fu
    have ht:t<m+1:=by have:=(List.getElem?_eq_some_iff.mp hx).1;simpa using this
    rw [List.getElem?_map,List.getElem?_range ht] at hx
    cases hx
    have s5:Zh G4 (upd G4 u (.tup [.int (t:Int),.ref (L t).a])):=Zh.laid fu
    have eu:(upd G4 u (.tup [.int (t:Int),.ref (L t).a])) u=some (.tup [.int (t:Int),.ref (L t).a]):=Zb
    generalize upd G4 u (.tup [.int (t:Int),.ref (L t).a])=G5 at *
    refine ⟨u,_,rfl,JZ.of eu,rfl,_,_,rfl,_,_,rfl,rfl,?_⟩
    obtain ⟨rs,⟨ea,la,er⟩,_,gd⟩:=(be.ok t (by lia)).same (s4.trans s5)
    refine ⟨_,rfl,(L t).a,rfl,⟨_,Zu.of ea⟩,Jg (K:=K) (a:=(L t).a) (xs:=rs.map V.ref) (by rw [List.length_map,la,sizeLine_eq];have:=gd.n8;lia) (fun d zs G=>NR G5 G (fun r=>Jc (L t).n ((L t).T r)) d zs) (NR.nil _ _) (fun _ _ _ x=>x.len) (fun d zs G x=>Zu.of (x.1 _ _ ea)) (fun d y zs G6 hy x=>?_) (fun zs G6 x D hD=>?_)⟩
    ·obtain ⟨q,hq,rfl⟩:=JB hy
     exact lcG ⟨_,rfl,q,_,rfl,.inl (Zu.of (x.1 _ _ (er _ q hq))),fun u hu=>x.step (Zh.laid hu) hu Zb⟩
    rw [List.length_map,la] at x
    obtain ⟨sE,fE,ts,rfl,lt,_,_,_,eE,ets⟩:=x.done hD
    generalize upd G6 D (.lst (ts.map V.ref))=G7 at *
    have tbD:W4 G7 D (L t).n (L t).T ts:=⟨eE,lt,ets⟩
    refine ⟨_,rfl,D,(L t).n,(L t).T,(L t).p,ts,rfl,tbD,gd,fun G8 pa s8 fpa epa=>?_⟩
    have sA:Zh G5 G8:=sE.trans s8
    have tbA:W4 G5 (L t).a (L t).n (L t).T rs:=⟨ea,la,er⟩
    refine ⟨_,rfl,D,_,_,_,ts,rfl,tbD.same s8,gd,fun G9 s9=>?_⟩
    refine ⟨true,true,rfl,rfl,_,rfl,Jq ?_⟩
    have tb9:=tbA.same (sA.trans s9)
    refine ⟨_,rfl,_,rfl,(L t).a,_,_,_,rs,rfl,tb9,gd,fun q2 G10 fq s10 eq2=>?_⟩
    have epa10:=s10 _ _ (s9 _ _ epa)
    refine .inr ⟨pa,q2,_,_,rfl,rfl,Zu.of epa10,Zu.of eq2,rfl,(fun j x y ex ey=>?_),_,rfl,Jq ?_⟩
    ·rw [ex] at ey
     cases ey
     rw [Uk gd.full] at ex
     unfold ZT at ex
     obtain ⟨z,_,rfl⟩:=List.mem_map.mp (List.mem_of_getElem? ex)
     exact .flat rfl
    have tb10:=tb9.same s10
    have tbD10:=tbD.same ((s8.trans s9).trans s10)
    refine ⟨_,rfl,_,rfl,D,(L t).a,_,_,rfl,rfl,Zu.of tbD10.1,Zu.of tb10.1,(by rw [List.length_map,List.length_map,lt,la]),ZjK tbD10 tb10 (fun _ _=>rfl),_,rfl,Jq ?_⟩
    have s410:Zh G4 G10:=s5.trans (sA.trans (s9.trans s10))
    have s2A:Zh G2 G10:=s4.trans s410
    refine ⟨_,rfl,_,_,rfl,rfl,_,rfl,Zkz (fun hb=>?_) (fun hb=>?_)⟩
    ·have ht0:0<t:=by
      have:=of_decide_eq_true hb
      lia
     obtain ⟨t',rfl⟩:∃t',t=t'+1:=⟨t-1,by lia⟩
     obtain ⟨qq,hq,k',hk,hn,fit,alt⟩:=be.st t' (by lia)
     obtain ⟨_,_,_,gd'⟩:=be.ok t' (by lia)
     obtain ⟨S',up'⟩:=gd'.up
     have ehd:=s410 _ _ (eh t' rfl)
     obtain ⟨lA,hxa,hla⟩:∃lA,xs[t']? = some (.ref lA)/\G10 lA=some (.tup [.str qq.1,.int (k':Int)]):=by
      have hx:t'<xs.length:=by rw [hL2.len];exact (List.getElem?_eq_some_iff.mp hq).1
      obtain ⟨q',lA,e1,e2,e3⟩:=hL2.get (List.getElem?_eq_getElem hx)
      rw [hq] at e1
      cases e1
      exact ⟨lA,by rw [List.getElem?_eq_getElem hx,e2],by rw [<- hk];exact s2A _ _ e3⟩
     have ix:atI xs (((t'+1:Nat):Int)-1)=some (.ref lA):=by
      rw [show ((t'+1:Nat):Int)-1=(t':Int) by lia]
      exact Zp hxa
     have hl10:G10 l=some (.lst xs):=s2A _ _ hl2
     refine ⟨_,rfl,_,rfl,_,rfl,_,_,rfl,rfl,l,xs,_,.ref lA,rfl,rfl,Zu.of hl10,ix,?_⟩
     refine ⟨hd,lA,(L t').n,k',qq.1,(L t').T,S',(L t').p,rfl,ehd,hla,gd'.n8,up',gd'.full,fit,fun d G11 fd s11 ed=>?_⟩
     have fN:∀r,r<nxM qq.1 (L t').n->nxP qq.1 k' (L t').p r≠none:=by
      rcases alt with e | ⟨cr,ep⟩
      ·intro r hr
       rw [<- e]
       exact gd.full r (by rw [hn];exact hr)
      ·intro r hr
       rw [cr] at hr ⊢
       have hk1:k'+1<(L t').n:=by
        rcases fit with ⟨e,_⟩ | ⟨_,h,_⟩ | ⟨e,_⟩
        ·rw [cr] at e;exact absurd e (by decide)
        ·exact h
        ·rw [cr] at e;exact absurd e (by decide)
       have hr':r<(L t').n:=hr
       obtain ⟨z,hz⟩:=Option.ne_none_iff_exists'.mp (gd'.full (YQ k' r) (JM hk1 hr'))
       show swP k' (L t').p r≠none
       unfold swP
       rw [hz]
       exact fun z=>nomatch z
     have ep':=s11 _ _ epa10
     have epF:=ep'
     rw [Uk fN] at ed
     rw [Uk gd.full] at ep'
     have ehd':=s11 _ _ ehd
     rw [Uk gd'.full] at ehd'
     have fin:Zh G2 G11 /\ ∀t'',t'+1+1=t''+1->G11 pa=some (.lst (pL (L t'').n (L t'').p)):=⟨s2A.trans s11,fun t'' z=>by
      obtain rfl:t''=t'+1:=by lia
      exact epF⟩
     refine ⟨_,rfl,_,rfl,pa,d,(List.range (L (t'+1)).n).map (pI (L (t'+1)).p),(List.range (nxM qq.1 (L t').n)).map (pI (nxP qq.1 k' (L t').p)),rfl,rfl,Zu.of ep',Zu.of ed,(by rw [List.length_map,List.length_map,hn]),_,rfl,Zkz (fun hb=>?_) (fun hb=>?_)⟩
     ·rcases alt with e | ⟨cr,ep⟩
      ·rw [hn,e,decide_eq_true rfl] at hb
       cases hb
      ·refine ⟨_,rfl,_,rfl,_,_,rfl,rfl,l,xs,_,.ref lA,rfl,rfl,Zu.of (s11 _ _ hl10),ix,lA,_,_,.str qq.1,rfl,rfl,JZ.of (s11 _ _ hla),Zp (j:=0) rfl,rfl,_,rfl,Zkz (fun hb2=>?_) (fun _=>?_)⟩
       ·have:V.str qq.1=V.str (Str.ofString "cross"):=congrArg V.str cr
        rw [decide_eq_true this] at hb2
        cases hb2
       ·have n2:(L (t'+1)).n=(L t').n:=by rw [hn,cr];rfl
        refine ⟨_,rfl,_,rfl,pa,hd,(List.range (L (t'+1)).n).map (pI (L (t'+1)).p),(List.range (L t').n).map (pI (L t').p),rfl,rfl,Zu.of ep',Zu.of ehd',(by rw [List.length_map,List.length_map,n2]),_,rfl,Zkz (fun hb3=>?_) (fun _=>?_)⟩
        ·rw [n2,ep,decide_eq_true rfl] at hb3
         cases hb3
        ·exact ⟨_,rfl,pa,_,_,_,_,_,rfl,fin⟩
     ·exact ⟨_,rfl,pa,_,_,_,_,_,rfl,fin⟩
    ·refine ⟨_,rfl,pa,_,_,_,_,_,rfl,s2A,fun t'' z=>?_⟩
     obtain rfl:t''=t:=by lia
     exact epa10
   ·rintro σ G ⟨v3,v4,v5,v6,v7,v8,v9,v10,rfl,sG⟩
    exact ⟨_,_,_,_,_,_,_,_,_,_,rfl,fun c o e=>sG c o (s3 c o (f2 c o (s1 c o (sm c o e)) (Zf (sm c o e) hb0)))⟩
  ·rintro σ G ⟨v1,v2,v3,v4,v5,v6,v7,v8,v9,v10,rfl,sm⟩
   exact k _
end
theorem Yd {P:Program}{w:World}{K:PySem.W.Frag}{mg:Str->Option Value}{base:Heap}{k:Nat}{x:Str}{ps:List Str}{sp:Sp}{f:Addr}{fd:FuncData} (G:Ys P w K mg base W3 k f fd ps sp) (m:mg x=some (.ref f)) (kp:PySem.W.keepIn K (.ref f)=true) (b:Binds K fd ps []):Jm P w K mg base k x ps sp:=⟨f,fd,G,m,kp,b⟩
theorem Zgf {P:Program}{w:World}{K:PySem.W.Frag}{mg:Str->Option Value}{base:Heap}{k:Nat}{C:Addr}{m:Str}{ps:List Str}{sp:Sp}{f:Addr}{fd:FuncData} (G:Ys P w K mg base W3 k f fd ps sp) (a:PySem.W.findIn K (.ref C) m=some (some (.ref f))) (fn:PySem.W.isFn K (.ref f)=true) (kp:PySem.W.keepIn K (.ref f)=true) (b:Binds K fd ps []):ZgS P w K mg base k C m ps sp:=⟨f,fd,G,⟨a,fn,kp⟩,b⟩
section
theorem us1 {α:Type}{P:List α -> Prop} (h:∀a,P [a]):∀us:List α,us.length=1->P us
 | [_],_=>h _
theorem us2 {α:Type}{P:List α -> Prop} (h:∀a b,P [a,b]):∀us:List α,us.length=2->P us
 | [_,_],_=>h _ _
theorem us3 {α:Type}{P:List α -> Prop} (h:∀a b c,P [a,b,c]):∀us:List α,us.length=3->P us
 | [_,_,_],_=>h _ _ _
theorem us4 {α:Type}{P:List α -> Prop} (h:∀a b c d,P [a,b,c,d]):∀us:List α,us.length=4->P us
 | [_,_,_,_],_=>h _ _ _ _
theorem all_mk {l:PySem.W.OpenLaw}{w:World}{K:PySem.W.Frag}{h:Heap}{mg:Str->Option Value}{fa:Addr} (X:K.In h) (G:h.Ns mainGlobals mg) (hfa:mg "law" = some (.ref fa))
  {f0 f1 f2 f3 f4 f5 f6 f7 f8 f9 f10 f11 f12 f13 f14 f15 f16 f17 f18 f19 f20 f21 f22 f23 f24 f25 f26 f27 f28 f29 f30 f31 f32 f33:Addr}{d0 d1 d2 d3 d4 d5 d6 d7 d8 d9 d10 d11 d12 d13 d14 d15 d16 d17 d18 d19 d20 d21 d22 d23 d24 d25 d26 d27 d28 d29 d30 d31 d32 d33:FuncData}
  {t_MOST_ROWS:Tok} (GO:PySem.W.nsIn K mainGlobals "MOST_ROWS" = some (some (.int 8 t_MOST_ROWS)))
  {Ya:Addr} (Zax:PySem.W.nsIn K mainGlobals "Pairing" = some (some (.ref Ya)))
  (c_way:L2.Cls K Ya)
  (n_partner:L2.Jz K Ya "partner")
  (n_slid:L2.Jz K Ya "slid")
  (mk_Pairing:PySem.W.makesIn K Ya=true)
  (kp_Pairing:PySem.W.keepIn K (.ref Ya)=true)
  (a0:PySem.W.nsIn K mainGlobals "_law_take" = some (some (.ref f0))) (l0:Jl K "_law_take" "_law_take" Ut f0 d0)
  (a1:PySem.W.nsIn K mainGlobals "_law_bag" = some (some (.ref f1))) (l1:Jl K "_law_bag" "_law_bag" Zal f1 d1)
  (a2:PySem.W.nsIn K mainGlobals "_law_drawing" = some (some (.ref f2))) (l2:Jl K "_law_drawing" "_law_drawing" WL f2 d2)
  (a3:PySem.W.nsIn K mainGlobals "_law_plat" = some (some (.ref f3))) (l3:Jl K "_law_plat" "_law_plat" Wc f3 d3)
  (a4:PySem.W.nsIn K mainGlobals "_law_any" = some (some (.ref f4))) (l4:Jl K "_law_any" "_law_any" Zap f4 d4)
  (a5:PySem.W.nsIn K mainGlobals "_law_rows" = some (some (.ref f5))) (l5:Jl K "_law_rows" "_law_rows" Uo f5 d5)
  (a6:PySem.W.nsIn K mainGlobals "_law_walks" = some (some (.ref f6))) (l6:Jl K "_law_walks" "_law_walks" WA f6 d6)
  (a7:PySem.W.nsIn K mainGlobals "_law_heights" = some (some (.ref f7))) (l7:Jl K "_law_heights" "_law_heights" Jp f7 d7)
  (a8:PySem.W.nsIn K mainGlobals "_law_curled" = some (some (.ref f8))) (l8:Jl K "_law_curled" "_law_curled" J9 f8 d8)
  (a9:PySem.W.nsIn K mainGlobals "_law_name_heights" = some (some (.ref f9))) (l9:Jl K "_law_name_heights" "_law_name_heights" Jw f9 d9)
  (a10:PySem.W.nsIn K mainGlobals "_law_front" = some (some (.ref f10))) (l10:Jl K "_law_front" "_law_front" GL f10 d10)
  (a11:PySem.W.nsIn K mainGlobals "_law_scales" = some (some (.ref f11))) (l11:Jl K "_law_scales" "_law_scales" J8 f11 d11)
  (a12:PySem.W.nsIn K mainGlobals "_law_letter_heights" = some (some (.ref f12))) (l12:Jl K "_law_letter_heights" "_law_letter_heights" Jf f12 d12)
  (a13:PySem.W.nsIn K mainGlobals "is_whole" = some (some (.ref f13))) (l13:Jl K "is_whole" "is_whole" Zaw f13 d13)
  (a14:PySem.W.nsIn K mainGlobals "is_bits" = some (some (.ref f14))) (l14:Jl K "is_bits" "is_bits" UW f14 d14)
  (a15:PySem.W.nsIn K mainGlobals "has_shape" = some (some (.ref f15))) (l15:Jl K "has_shape" "has_shape" Gh f15 d15)
  (a16:PySem.W.nsIn K mainGlobals "mask_of" = some (some (.ref f16))) (l16:Jl K "mask_of" "mask_of" ZaX f16 d16)
  (a17:PySem.W.nsIn K mainGlobals "least_bit" = some (some (.ref f17))) (l17:Jl K "least_bit" "least_bit" Ui f17 d17)
  (a18:PySem.W.findIn K (.ref Ya) "pair" = some (some (.ref f18))) (l18:Jl K "pair" "Pairing.pair" WM f18 d18) (n18:PySem.W.isFn K (.ref f18)=true)
  (a19:PySem.W.findIn K (.ref Ya) "take" = some (some (.ref f19))) (l19:Jl K "take" "Pairing.take" WO f19 d19) (n19:PySem.W.isFn K (.ref f19)=true)
  (a20:PySem.W.findIn K (.ref Ya) "__init__" = some (some (.ref f20))) (l20:Jl K "__init__" "Pairing.__init__" Y7 f20 d20) (n20:PySem.W.isFn K (.ref f20)=true)
  (a21:PySem.W.nsIn K mainGlobals "is_high" = some (some (.ref f21))) (l21:Jl K "is_high" "is_high" U5 f21 d21)
  (a22:PySem.W.nsIn K mainGlobals "is_square" = some (some (.ref f22))) (l22:Jl K "is_square" "is_square" Ge f22 d22)
  (a23:PySem.W.nsIn K mainGlobals "is_table" = some (some (.ref f23))) (l23:Jl K "is_table" "is_table" Zaq f23 d23)
  (a24:PySem.W.nsIn K mainGlobals "table_pairing" = some (some (.ref f24))) (l24:Jl K "table_pairing" "table_pairing" Wm f24 d24)
  (a25:PySem.W.nsIn K mainGlobals "table_partners" = some (some (.ref f25))) (l25:Jl K "table_partners" "table_partners" J6 f25 d25)
  (a26:PySem.W.nsIn K mainGlobals "_law_cleared" = some (some (.ref f26))) (l26:Jl K "_law_cleared" "_law_cleared" JW f26 d26)
  (a27:PySem.W.nsIn K mainGlobals "_law_rank" = some (some (.ref f27))) (l27:Jl K "_law_rank" "_law_rank" Wi f27 d27)
  (a28:PySem.W.nsIn K mainGlobals "_law_number_cross" = some (some (.ref f28))) (l28:Jl K "_law_number_cross" "_law_number_cross" YS f28 d28)
  (a29:PySem.W.nsIn K mainGlobals "_law_number_table" = some (some (.ref f29))) (l29:Jl K "_law_number_table" "_law_number_table" Z0 f29 d29)
  (a30:PySem.W.nsIn K mainGlobals "_law_moved_on" = some (some (.ref f30))) (l30:Jl K "_law_moved_on" "_law_moved_on" YH f30 d30)
  (a31:PySem.W.nsIn K mainGlobals "_law_partners" = some (some (.ref f31))) (l31:Jl K "_law_partners" "_law_partners" JL f31 d31)
  (a32:PySem.W.nsIn K mainGlobals "_law_begun" = some (some (.ref f32))) (l32:Jl K "_law_begun" "_law_begun" GS f32 d32)
  (a33:PySem.W.nsIn K mainGlobals "law" = some (some (.ref f33))) (l33:Jl K "law" "law" Zcj f33 d33)
  (Zib:PySem.W.nsIn K mainGlobals "abs" = some none)
  (ZhJ:PySem.W.nsIn K mainGlobals "all" = some none)
  (Zi9:PySem.W.nsIn K mainGlobals "any" = some none)
  (Zfm:PySem.W.nsIn K mainGlobals "bool" = some none)
  (UI:PySem.W.nsIn K mainGlobals "enumerate" = some none)
  (Zh1:PySem.W.nsIn K mainGlobals "int" = some none)
  (GK:PySem.W.nsIn K mainGlobals "isinstance" = some none)
  (Zh9:PySem.W.nsIn K mainGlobals "len" = some none)
  (ZfG:PySem.W.nsIn K mainGlobals "list" = some none)
  (Zjc:PySem.W.nsIn K mainGlobals "max" = some none)
  (Zi8:PySem.W.nsIn K mainGlobals "min" = some none)
  (Zd8:PySem.W.nsIn K mainGlobals "range" = some none)
  (Zam:PySem.W.nsIn K mainGlobals "reversed" = some none)
  (ZcA:PySem.W.nsIn K mainGlobals "sorted" = some none)
  (Zi3:PySem.W.nsIn K mainGlobals "sum" = some none)
  (ZiW:PySem.W.nsIn K mainGlobals "zip" = some none):
  ∃fd:FuncData,(∀(s:Shared) (v:Value),BindsTo s fd ⟨[v],[]⟩ [("_law_script", v)]) /\ ∀base:Heap,K.In base->base.Ns mainGlobals mg->Ys l.prog w K mg base W3 8 fa fd ["_law_script"] (Zgg K):=by
 have e:=hfa.symm.trans (PySem.W.mg_of X G a33)
 cases e
 have Zcw:mg "abs" = none:=PySem.W.mg_none_of X G Zib
 have ZaF:mg "all" = none:=PySem.W.mg_none_of X G ZhJ
 have ZiR:mg "any" = none:=PySem.W.mg_none_of X G Zi9
 have ZfN:mg "bool" = none:=PySem.W.mg_none_of X G Zfm
 have ZA:mg "enumerate" = none:=PySem.W.mg_none_of X G UI
 have Wj:mg "int" = none:=PySem.W.mg_none_of X G Zh1
 have Yl:mg "isinstance" = none:=PySem.W.mg_none_of X G GK
 have Yi:mg "len" = none:=PySem.W.mg_none_of X G Zh9
 have Yu:mg "list" = none:=PySem.W.mg_none_of X G ZfG
 have Zaj:mg "max" = none:=PySem.W.mg_none_of X G Zjc
 have Zc7:mg "min" = none:=PySem.W.mg_none_of X G Zi8
 have ZC:mg "range" = none:=PySem.W.mg_none_of X G Zd8
 have Zao:mg "reversed" = none:=PySem.W.mg_none_of X G Zam
 have ZcK:mg "sorted" = none:=PySem.W.mg_none_of X G ZcA
 have ZiU:mg "sum" = none:=PySem.W.mg_none_of X G Zi3
 have ZaE:mg "zip" = none:=PySem.W.mg_none_of X G ZiW
 have UA:=PySem.W.mg_of X G GO
 have WJ:mg "Pairing" = some (.ref Ya):=PySem.W.mg_of X G Zax
 have ZbD:=l0
 have ZeF:=ZbD.binds (ps:=["_law_bag_here", "_law_many"]) fun _ _ _ _ _ _=>us2 fun _ _=>rfl
 have Zb5:=l1
 have Zfl:=Zb5.binds (ps:=["_law_script", "_law_at"]) fun _ _ _ _ _ _=>us2 fun _ _=>rfl
 have UQ:=l2
 have ZcH:=UQ.binds (ps:=["_law_bag_here", "_law_births", "_law_most"]) fun _ _ _ _ _ _=>us3 fun _ _ _=>rfl
 have Zbv:=l3
 have Zeg:=Zbv.binds (ps:=["_law_bag_here", "_law_most"]) fun _ _ _ _ _ _=>us2 fun _ _=>rfl
 have ZcF:=l4
 have ZfL:=ZcF.binds (ps:=["_law_bag_here", "_law_most"]) fun _ _ _ _ _ _=>us2 fun _ _=>rfl
 have ZbA:=l5
 have ZeJ:=ZbA.binds (ps:=["_law_drawing_here"]) fun _ _ _ _ _ _=>us1 fun _=>rfl
 have ZaM:=l6
 have ZdU:=ZaM.binds (ps:=["_law_drawing_here"]) fun _ _ _ _ _ _=>us1 fun _=>rfl
 have UE:=l7
 have Zcd:=UE.binds (ps:=["_law_drawing_here", "_law_scale"]) fun _ _ _ _ _ _=>us2 fun _ _=>rfl
 have Zah:=l8
 have ZcV:=Zah.binds (ps:=["_law_bag_here", "_law_letters", "_law_most"]) fun _ _ _ _ _ _=>us3 fun _ _ _=>rfl
 have Wy:=l9
 have Zab:=Wy.binds (ps:=["_law_drawing_here", "_law_scale"]) fun _ _ _ _ _ _=>us2 fun _ _=>rfl
 have ZaO:=l10
 have ZdH:=ZaO.binds (ps:=["_law_bag_here", "_law_most"]) fun _ _ _ _ _ _=>us2 fun _ _=>rfl
 have Zai:=l11
 have ZcP:=Zai.binds (ps:=["_law_drawing_here"]) fun _ _ _ _ _ _=>us1 fun _=>rfl
 have J0:=l12
 have Ug:=J0.binds (ps:=["_law_drawing_here", "_law_scale"]) fun _ _ _ _ _ _=>us2 fun _ _=>rfl
 have Zco:=l13
 have ZfY:=Zco.binds (ps:=["thing"]) fun _ _ _ _ _ _=>us1 fun _=>rfl
 have Zdn:=l14
 have Zhy:=Zdn.binds (ps:=["thing", "many"]) fun _ _ _ _ _ _=>us2 fun _ _=>rfl
 have Zbw:=l15
 have Zef:=Zbw.binds (ps:=["thing"]) fun _ _ _ _ _ _=>us1 fun _=>rfl
 have Zdj:=l16
 have Zhm:=Zdj.binds (ps:=["row"]) fun _ _ _ _ _ _=>us1 fun _=>rfl
 have Zbt:=l17
 have Zer:=Zbt.binds (ps:=["mask"]) fun _ _ _ _ _ _=>us1 fun _=>rfl
 have UK:=l18
 have Zcv:=UK.binds (ps:=["self", "i", "lone"]) fun _ _ _ _ _ _=>us3 fun _ _ _=>rfl
 have UC:=l19
 have Zci:=UC.binds (ps:=["self", "i", "rest"]) fun _ _ _ _ _ _=>us3 fun _ _ _=>rfl
 have WK:=l20
 have Zat:=WK.binds (ps:=["self", "table"]) fun _ _ _ _ _ _=>us2 fun _ _=>rfl
 have ZcZ:=l21
 have ZgY:=ZcZ.binds (ps:=["table"]) fun _ _ _ _ _ _=>us1 fun _=>rfl
 have Zbx:=l22
 have ZeQ:=Zbx.binds (ps:=["table"]) fun _ _ _ _ _ _=>us1 fun _=>rfl
 have Zce:=l23
 have Zf0:=Zce.binds (ps:=["thing"]) fun _ _ _ _ _ _=>us1 fun _=>rfl
 have Ua:=l24
 have ZbG:=Ua.binds (ps:=["thing"]) fun _ _ _ _ _ _=>us1 fun _=>rfl
 have GF:=l25
 have ZaZ:=GF.binds (ps:=["table"]) fun _ _ _ _ _ _=>us1 fun _=>rfl
 have UM:=l26
 have ZcN:=UM.binds (ps:=["_law_other", "_law_row", "_law_at"]) fun _ _ _ _ _ _=>us3 fun _ _ _=>rfl
 have Zbs:=l27
 have Zej:=Zbs.binds (ps:=["_law_rows_here"]) fun _ _ _ _ _ _=>us1 fun _=>rfl
 have Ww:=l28
 have Zaa:=Ww.binds (ps:=["_law_table", "_law_k", "_law_number"]) fun _ _ _ _ _ _=>us3 fun _ _ _=>rfl
 have Wz:=l29
 have U8:=Wz.binds (ps:=["_law_table", "_law_letter", "_law_number"]) fun _ _ _ _ _ _=>us3 fun _ _ _=>rfl
 have Uc:=l30
 have ZbM:=Uc.binds (ps:=["_law_partners_here", "_law_letter"]) fun _ _ _ _ _ _=>us2 fun _ _=>rfl
 have GX:=l31
 have ZbL:=GX.binds (ps:=["_law_table"]) fun _ _ _ _ _ _=>us1 fun _=>rfl
 have ZaN:=l32
 have ZdM:=ZaN.binds (ps:=["_law_drawing_here", "_law_scale", "_law_bag_here"]) fun _ _ _ _ _ _=>us3 fun _ _ _=>rfl
 have Zk7:=l33
 have ZnW:=Zk7.binds (ps:=["_law_script"]) fun _ _ _ _ _ _=>us1 fun _=>rfl
 obtain ⟨oc,od,kV,dc,pm,an,cd,ct,sl,rfl,_,_⟩:=l33.ex
 refine ⟨PySem.W.fnOf "law" "law" (ZaB Zcj) (U0 Zcj) (Zl Zcj) .none kV dc pm an cd ct,fun s v=>.of_eq rfl,fun base _ _=>?_⟩
 have Zt:Jm l.prog w K mg base 1 "_law_take" ["_law_bag_here", "_law_many"] Uw:=Yd (ZjE ZbD) (PySem.W.mg_of X G a0) l0.kp ZeF
 have GR:Jm l.prog w K mg base 1 "_law_bag" ["_law_script", "_law_at"] (Zh4 K):=Yd (ZlM Zb5 Yi Zcw) (PySem.W.mg_of X G a1) l1.kp Zfl
 have WW:Jm l.prog w K mg base 2 "_law_drawing" ["_law_bag_here", "_law_births", "_law_most"] (ZfT 0):=Yd (ZjN UQ Zt ZC) (PySem.W.mg_of X G a2) l2.kp ZcH
 have JQ:Jm l.prog w K mg base 2 "_law_plat" ["_law_bag_here", "_law_most"] Zb6:=Yd (ZjS Zbv Zt ZC) (PySem.W.mg_of X G a3) l3.kp Zeg
 have Zaz:Jm l.prog w K mg base 3 "_law_any" ["_law_bag_here", "_law_most"] Zb6:=Yd (ZlT ZcF Zt JQ WW) (PySem.W.mg_of X G a4) l4.kp ZfL
 have YK:Jm l.prog w K mg base 1 "_law_rows" ["_law_drawing_here"] Zb0:=Yd (ZkB ZbA Yu) (PySem.W.mg_of X G a5) l5.kp ZeJ
 have GH:Jm l.prog w K mg base 2 "_law_walks" ["_law_drawing_here"] ZdN:=Yd (Zii ZaM YK ZA ZcK Zcw) (PySem.W.mg_of X G a6) l6.kp ZdU
 have WT:Jm l.prog w K mg base 3 "_law_heights" ["_law_drawing_here", "_law_scale"] ZlN:=Yd (Znf UE GH YK ZA ZiU Yi ZC) (PySem.W.mg_of X G a7) l7.kp Zcd
 have Gq:Jm l.prog w K mg base 2 "_law_curled" ["_law_bag_here", "_law_letters", "_law_most"] ZdL:=Yd (Zhi Zah Zt Yu ZC Yi Zaj) (PySem.W.mg_of X G a8) l8.kp ZcV
 have Yg:Jm l.prog w K mg base 4 "_law_name_heights" ["_law_drawing_here", "_law_scale"] Zgm:=Yd (Zly Wy WT YK ZA) (PySem.W.mg_of X G a9) l9.kp Zab
 have GQ:Jm l.prog w K mg base 4 "_law_front" ["_law_bag_here", "_law_most"] ZdI:=Yd (Zh5 ZaO Zt Zaz JQ Gq ZC Yi Zaj Zc7) (PySem.W.mg_of X G a10) l10.kp ZdH
 have Gk:Jm l.prog w K mg base 5 "_law_scales" ["_law_drawing_here"] ZcL:=Yd (Zg3 Zai Yg) (PySem.W.mg_of X G a11) l11.kp ZcP
 have Je:Jm l.prog w K mg base 5 "_law_letter_heights" ["_law_drawing_here", "_law_scale"] ZfU:=Yd (ZjX J0 Yg Yu) (PySem.W.mg_of X G a12) l12.kp Ug
 have Zas:Jm l.prog w K mg base 1 "is_whole" ["thing"] Zcm:=Yd (ZfQ Zco Yl Wj ZfN) (PySem.W.mg_of X G a13) l13.kp ZfY
 have Zba:Jm l.prog w K mg base 2 "is_bits" ["thing", "many"] Zfi:=Yd (ZgQ Zdn Zas Yl Yu Yi ZaF) (PySem.W.mg_of X G a14) l14.kp Zhy
 have Ur:Jm l.prog w K mg base 3 "has_shape" ["thing"] Zeb:=Yd (Zeh Zbw UA Zba Yl Yu Yi ZaF) (PySem.W.mg_of X G a15) l15.kp Zef
 have WI:Jm l.prog w K mg base 1 "mask_of" ["row"] ZdC:=Yd (Zhu Zdj ZA) (PySem.W.mg_of X G a16) l16.kp Zhm
 have UD:Jm l.prog w K mg base 1 "least_bit" ["mask"] ZdY:=Yd (ZiC Zbt) (PySem.W.mg_of X G a17) l17.kp Zer
 have Zfp:ZgS l.prog w K mg base 1 Ya "pair" ["self", "i", "lone"] (Zd3 Ya):=Zgf (ZhV UK c_way n_partner n_slid) a18 n18 l18.kp Zcv
 have Zfh:ZgS l.prog w K mg base 2 Ya "take" ["self", "i", "rest"] (ZdZ Ya):=Zgf (Zjm UC c_way n_partner n_slid UD Zfp) a19 n19 l19.kp Zci
 have i_Pairing:Zj6 l.prog w K mg base 3 Ya ["self", "table"] (ZdF Ya):=⟨_,_,ZkF WK c_way n_partner n_slid WI Zfh Yi ZC Zao,⟨mk_Pairing,a20,n20,kp_Pairing⟩,Zat⟩
 have Za0:Jm l.prog w K mg base 1 "is_high" ["table"] ZfZ:=Yd (Zjy ZcZ ZaF ZA) (PySem.W.mg_of X G a21) l21.kp ZgY
 have Ux:Jm l.prog w K mg base 2 "is_square" ["table"] Zb9:=Yd (Zg4 Zbx WI ZaE) (PySem.W.mg_of X G a22) l22.kp ZeQ
 have J5:Jm l.prog w K mg base 5 "is_table" ["thing"] ZbQ:=Yd (ZhP Zce c_way n_partner WJ i_Pairing Ur Za0 Ux) (PySem.W.mg_of X G a23) l23.kp Zf0
 have Ws:Jm l.prog w K mg base 6 "table_pairing" ["thing"] (Zbb Ya):=Yd (Zfv Ua WJ i_Pairing J5) (PySem.W.mg_of X G a24) l24.kp ZbG
 have J4:Jm l.prog w K mg base 7 "table_partners" ["table"] Zak:=Yd (Zeq GF c_way n_partner Ws) (PySem.W.mg_of X G a25) l25.kp ZaZ
 have W2:Jm l.prog w K mg base 1 "_law_cleared" ["_law_other", "_law_row", "_law_at"] Zbm:=Yd (Zfu UM ZaE) (PySem.W.mg_of X G a26) l26.kp ZcN
 have UP:Jm l.prog w K mg base 2 "_law_rank" ["_law_rows_here"] ZfK:=Yd (Zj2 Zbs W2 Yu ZiR) (PySem.W.mg_of X G a27) l27.kp Zej
 have Jv:Jm l.prog w K mg base 1 "_law_number_cross" ["_law_table", "_law_k", "_law_number"] Zl5:=Yd (ZmC Ww Yi Yu ZC Wj) (PySem.W.mg_of X G a28) l28.kp Zaa
 have Ju:Jm l.prog w K mg base 2 "_law_number_table" ["_law_table", "_law_letter", "_law_number"] Zlz:=Yd (ZmH Wz Jv Yi ZA ZC) (PySem.W.mg_of X G a29) l29.kp U8
 have Wt:Jm l.prog w K mg base 1 "_law_moved_on" ["_law_partners_here", "_law_letter"] Zmm:=Yd (Znd Uc Wj) (PySem.W.mg_of X G a30) l30.kp ZbM
 have Wn:Jm l.prog w K mg base 3 "_law_partners" ["_law_table"] Ziw:=Yd (Zl2 GX UP Yi ZC) (PySem.W.mg_of X G a31) l31.kp ZbL
 have GV:Jm l.prog w K mg base 6 "_law_begun" ["_law_drawing_here", "_law_scale", "_law_bag_here"] Zid:=Yd (ZlX ZaN Zt Je Ju ZaE Wj) (PySem.W.mg_of X G a32) l32.kp ZdM
 exact Zlj Zk7 GR GQ Gk GV J4 J5 Wn Wt ZC Yi Zaj Zc7 Yu ZA
theorem walk {l:PySem.W.OpenLaw}{q:Program}{loose:List Str}{XP:(Str->Option Value)->Heap->Prop}{YP:World->Heap->Prop}{d:DefRec}{K:Params->PySem.W.Frag} (hn:l.most=some 63) (hdf:d.params.defaults = [])
  (hY:∀(w:World) (h:Heap),YP w h->(K w.params).In h)
  (F:∀(w:World) (mg:Str->Option Value) (fa:Addr) (h:Heap),(K w.params).In h->h.Ns mainGlobals mg->mg d.name=some (.ref fa) ->
   ∃fd:FuncData,(∀(s:Shared) (u:Value),BindsTo s fd ⟨[u],[]⟩ [("_law_script", u)]) /\ ∀base:Heap,(K w.params).In base->base.Ns mainGlobals mg->Ys l.prog w (K w.params) mg base W3 8 fa fd ["_law_script"] (Zgg (K w.params))):
  PySem.W.WalkO q loose XP YP l.row.toRowW d [] (fun f vs=>PySem.call f vs):=
 L2.Zka (n:=63) (k:=8) (x := "_law_script") (CX:=fun _=>W3) (sp:=fun w=>Zgg (K w.params)) hn (by decide) hdf ⟨rfl,by decide,by decide⟩ hY F (fun _ _ a ns hl _ hS=>⟨a,ns,rfl,hS,hl,fun _=>rfl⟩) fun _ _ _ _ _ z=>z
end
end Qk25
namespace PySem.W.Fast
def tw894438416961823904:=0
def tw9177781057164355936:=0
def tw15578930042676101984:=0
def tw906898430800420832:=0
def tw3288530905826521441:=0
def tw13979390747681806753:=0
def tw8023434508100922817:=0
def tw17822623334000034497:=0
def tw13259207789429086945:=0
def tw8229754704348694305:=0
def tw8297974640010152737:=0
def tw15377684334808595233:=0
def tw10991273241300116289:=0
def tw8614185283342272514:=0
def tw3031022882669138978:=0
def tw2807481840592247874:=0
def tw9413898302752017602:=0
def tw8422075472012009730:=0
def tw13981492639802315106:=0
def tw4252348464239546786:=0
def tw2468338742204079746:=0
def tw11658830121938856610:=0
def tw13493827970783472322:=0
def tw3234792138059139874:=0
def tw9350968403760044866:=0
def tw7272375927046717314:=0
def tw3171667070630856803:=0
def tw537912514066173091:=0
def tw418375069418474787:=0
def tw9041013708690103907:=0
def tw806068987864007267:=0
def tw5383692106932408131:=0
def tw863903149925835651:=0
def tw606271994435808420:=0
def tw14326337699785469092:=0
def tw9379163656934234372:=0
def tw14015161655856159236:=0
def tw9975509526796516932:=0
def tw365281586893093668:=0
def tw9480273058168610853:=0
def tw8390046896122624165:=0
def tw8657566975545980453:=0
def tw2419104389856452229:=0
def tw3969780635223600901:=0
def tw11589354896170912517:=0
def tw18378902082742092613:=0
def tw4505127206028616645:=0
def tw11337515382725792902:=0
def tw15350567270673784230:=0
def tw10951731307575663014:=0
def tw13763389324438363910:=0
def tw6978202475876026375:=0
def tw15264997002885111015:=0
def tw1513758026886864391:=0
def tw1373544076792062535:=0
def tw150079784829329031:=0
def tw6365062178688709511:=0
def tw8187712020689982375:=0
def tw731984509323958183:=0
def tw12550028973223504904:=0
def tw5551684187522303176:=0
def tw12797635269081206984:=0
def tw7404211801658219144:=0
def tw14190500180192306856:=0
def tw5027570442971234056:=0
def tw9989563552091422568:=0
def tw8455024218600397736:=0
def tw4287123365028745225:=0
def tw3506650435112001897:=0
def tw14158014246529781161:=0
def tw17027242879185399209:=0
def tw722119739794980361:=0
def tw17408670282535202601:=0
def tw13097917292365050761:=0
def tw3321381216305432489:=0
def tw3315731351908851914:=0
def tw8209601086737737258:=0
def tw11714907608984413002:=0
def tw15381246228343425930:=0
def tw12497937404554104875:=0
def tw18033411410566573323:=0
def tw171282450907442507:=0
def tw15032936667331315051:=0
def tw3655134613582607787:=0
def tw4152957662430109195:=0
def tw1040008057196485323:=0
def tw3686110957151624939:=0
def tw3672222804096235596:=0
def tw10089109010132105548:=0
def tw16553359006289973932:=0
def tw7700275485595851532:=0
def tw8329304933888065292:=0
def tw4065958069177142381:=0
def tw12198751108140900685:=0
def tw17051867840439350637:=0
def tw9134085998356748717:=0
def tw4647676194530296429:=0
def tw7869156437136875534:=0
def tw13951556735801150478:=0
def tw8779329638942200878:=0
def tw6462493415629954158:=0
def tw13961510379084313774:=0
def tw15600637901929342190:=0
def tw3645277625217766638:=0
def tw3746576649471840590:=0
def tw8065819953792570734:=0
def tw6407637955531477838:=0
def tw10825132177047882767:=0
def tw8884022895310018607:=0
def tw4552817216911926383:=0
def tw17751824038154860239:=0
def tw9939833650062022543:=0
def tw8572227531642317168:=0
def tw116210044464254896:=0
def tw10998212076232119216:=0
def tw10677858299202143216:=0
def tw5915007530785725424:=0
def tw10130683644228695089:=0
def tw17660619273130957905:=0
def tw1847421381185606801:=0
def tw17227341757283004657:=0
def tw1874522278344554865:=0
def tw7905513316408171985:=0
def tw825989914271011569:=0
def tw14484419516026423121:=0
def tw1200187848620844114:=0
def tw4643728324747566354:=0
def tw15856486966673989970:=0
def tw8545988595806900626:=0
def tw837715537490770578:=0
def tw15327834836483208850:=0
def tw1988311631597428658:=0
def tw7335069291495660530:=0
def tw17773084245021239315:=0
def tw12746097194092761395:=0
def tw11184006031150465427:=0
def tw11323436526493426323:=0
def tw18105075684128558899:=0
def tw1344177770963995732:=0
def tw5544276943150944372:=0
def tw6560227859690404052:=0
def tw17808753203438123348:=0
def tw16709564888616334100:=0
def tw15510815191611980596:=0
def tw2358530655913768756:=0
def tw8702379883993636852:=0
def tw12015078530117242868:=0
def tw6011774524074064949:=0
def tw11453021050554024053:=0
def tw7007879535105702197:=0
def tw9572197847016988053:=0
def tw13312499417930431989:=0
def tw13500416569705013:=0
def tw1441408755295991445:=0
def tw8895259367515661013:=0
def tw11863658240533245749:=0
def tw11701985846008810325:=0
def tw3319263782851480437:=0
def tw16351942415079244757:=0
def tw14732979554505216214:=0
def tw13235963473140366614:=0
def tw10796644778780167606:=0
def tw7656909364125856246:=0
def tw10366125123540226678:=0
def tw7766881853550923542:=0
def tw5642260583227957014:=0
def tw14888435935768787830:=0
def tw13731190953325080759:=0
def tw12431116761725619607:=0
def tw3534861852794914231:=0
def tw17036214920874561271:=0
def tw6423837989646876184:=0
def tw15951328233147423320:=0
def tw13299682290701181528:=0
def tw17741328205016119128:=0
def tw14686747250044864440:=0
def tw10143834779874490457:=0
def tw11807274849027882105:=0
def tw12106571433406633177:=0
def tw12855148486679321113:=0
def tw10805331811720305369:=0
def tw10043876220822501241:=0
def tw384582139023301850:=0
def tw14424380304656418106:=0
def tw17075802871196392122:=0
def tw4517630855796012762:=0
def tw16812173524590929626:=0
def tw2647856671566447546:=0
def tw3654090929308742747:=0
def tw4534057839368338683:=0
def tw2849328710836610555:=0
def tw5369407095254518427:=0
def tw15815209756076273371:=0
def tw7033860624885456827:=0
def tw13683483336610575420:=0
def tw1651936535168157820:=0
def tw15946625860079419580:=0
def tw13685407895225543036:=0
def tw8551395633702172220:=0
def tw10657757549356575324:=0
def tw1310741804374909660:=0
def tw7182705617534669596:=0
def tw17088920623087425404:=0
def tw3626859763888525180:=0
def tw3014247296944760989:=0
def tw16095707552830629149:=0
def tw5918627654847603069:=0
def tw2447169718857542301:=0
def tw3009799698558789309:=0
def tw1003324371367738077:=0
def tw9519202798228517629:=0
def tw13468833526364770109:=0
def tw15481745176208832381:=0
def tw7265671772242743229:=0
def tw12935854914913214526:=0
def tw14313555241011005662:=0
def tw10977655664268859646:=0
def tw17959100167494490718:=0
def tw18284033731445862142:=0
def tw3744085621732657118:=0
def tw17981991713915042847:=0
def tw2755914342328929439:=0
def tw17908348884905446847:=0
def tw14238485963745056287:=0
def tw10774174426267395647:=0
def tw11821542616379002463:=0
def tw3707124770893352639:=0
def tw5459243587210009311:=0
def tw10054769754266274527:=0
def tw15028640325188951935:=0
def tw12678352746734421983:=0
end PySem.W.Fast
open PySem PySem.W PyProof.Rows
set_option maxRecDepth 100000 in
set_option maxHeartbeats 0 in
theorem PySem.Challenge.cw_bendfronts_k25_partners_of_settings_holds : PySem.Challenge.rw_bendfronts_k25_partners_of_settings.Holds := by
 w_on; o_law; k_head; (case hw => w_witness2)
 k_fill
 refine Qk25.walk (l := PySem.Challenge.rw_bendfronts_k25_partners_of_settings) rfl rfl (fun w h Y => PySem.W.kIn_of Y) ?F
 case F =>
  intro w mg fa h KX G hmg
  refine' Qk25.all_mk KX G hmg ?GO ?Zax ?c_way ?n_partner ?n_slid ?mk_Pairing ?kp_Pairing ?a0 ?l0 ?a1 ?l1 ?a2 ?l2 ?a3 ?l3 ?a4 ?l4 ?a5 ?l5 ?a6 ?l6 ?a7 ?l7 ?a8 ?l8 ?a9 ?l9 ?a10 ?l10 ?a11 ?l11 ?a12 ?l12 ?a13 ?l13 ?a14 ?l14 ?a15 ?l15 ?a16 ?l16 ?a17 ?l17 ?a18 ?l18 ?n18 ?a19 ?l19 ?n19 ?a20 ?l20 ?n20 ?a21 ?l21 ?a22 ?l22 ?a23 ?l23 ?a24 ?l24 ?a25 ?l25 ?a26 ?l26 ?a27 ?l27 ?a28 ?l28 ?a29 ?l29 ?a30 ?l30 ?a31 ?l31 ?a32 ?l32 ?a33 ?l33 ?Zib ?ZhJ ?Zi9 ?Zfm ?UI ?Zh1 ?GK ?Zh9 ?ZfG ?Zjc ?Zi8 ?Zd8 ?Zam ?ZcA ?Zi3 ?ZiW
  (case GO => first | k_is | rfl)
  (case Zax => k_is)
  (case c_way => exact ⟨by first | k_is | rfl | decide +kernel, by first | k_is | rfl | decide +kernel, by first | k_is | rfl | decide +kernel, by first | k_is | rfl | decide +kernel⟩)
  (case n_partner => (show PySem.W.findIn _ _ _ = _; first | k_is | rfl | decide +kernel))
  (case n_slid => (show PySem.W.findIn _ _ _ = _; first | k_is | rfl | decide +kernel))
  (case mk_Pairing => first | k_is | rfl | decide +kernel)
  (case kp_Pairing => first | k_is | rfl | decide +kernel)
  (case a0 => k_is)
  (case l0 => exact L2.ZX (by k_is) (by k_is) (by k_is))
  (case a1 => k_is)
  (case l1 => exact L2.ZX (by k_is) (by k_is) (by k_is))
  (case a2 => k_is)
  (case l2 => exact L2.ZX (by k_is) (by k_is) (by k_is))
  (case a3 => k_is)
  (case l3 => exact L2.ZX (by k_is) (by k_is) (by k_is))
  (case a4 => k_is)
  (case l4 => exact L2.ZX (by k_is) (by k_is) (by k_is))
  (case a5 => k_is)
  (case l5 => exact L2.ZX (by k_is) (by k_is) (by k_is))
  (case a6 => k_is)
  (case l6 => exact L2.ZX (by k_is) (by k_is) (by k_is))
  (case a7 => k_is)
  (case l7 => exact L2.ZX (by k_is) (by k_is) (by k_is))
  (case a8 => k_is)
  (case l8 => exact L2.ZX (by k_is) (by k_is) (by k_is))
  (case a9 => k_is)
  (case l9 => exact L2.ZX (by k_is) (by k_is) (by k_is))
  (case a10 => k_is)
  (case l10 => exact L2.ZX (by k_is) (by k_is) (by k_is))
  (case a11 => k_is)
  (case l11 => exact L2.ZX (by k_is) (by k_is) (by k_is))
  (case a12 => k_is)
  (case l12 => exact L2.ZX (by k_is) (by k_is) (by k_is))
  (case a13 => k_is)
  (case l13 => exact L2.ZX (by k_is) (by k_is) (by k_is))
  (case a14 => k_is)
  (case l14 => exact L2.ZX (by k_is) (by k_is) (by k_is))
  (case a15 => k_is)
  (case l15 => exact L2.ZX (by k_is) (by k_is) (by k_is))
  (case a16 => k_is)
  (case l16 => exact L2.ZX (by k_is) (by k_is) (by k_is))
  (case a17 => k_is)
  (case l17 => exact L2.ZX (by k_is) (by k_is) (by k_is))
  (case a18 => first | k_is | rfl | decide +kernel)
  (case l18 => exact L2.ZX (by k_is) (by k_is) (by k_is))
  (case n18 => first | k_is | rfl | decide +kernel)
  (case a19 => first | k_is | rfl | decide +kernel)
  (case l19 => exact L2.ZX (by k_is) (by k_is) (by k_is))
  (case n19 => first | k_is | rfl | decide +kernel)
  (case a20 => first | k_is | rfl | decide +kernel)
  (case l20 => exact L2.ZX (by k_is) (by k_is) (by k_is))
  (case n20 => first | k_is | rfl | decide +kernel)
  (case a21 => k_is)
  (case l21 => exact L2.ZX (by k_is) (by k_is) (by k_is))
  (case a22 => k_is)
  (case l22 => exact L2.ZX (by k_is) (by k_is) (by k_is))
  (case a23 => k_is)
  (case l23 => exact L2.ZX (by k_is) (by k_is) (by k_is))
  (case a24 => k_is)
  (case l24 => exact L2.ZX (by k_is) (by k_is) (by k_is))
  (case a25 => k_is)
  (case l25 => exact L2.ZX (by k_is) (by k_is) (by k_is))
  (case a26 => k_is)
  (case l26 => exact L2.ZX (by k_is) (by k_is) (by k_is))
  (case a27 => k_is)
  (case l27 => exact L2.ZX (by k_is) (by k_is) (by k_is))
  (case a28 => k_is)
  (case l28 => exact L2.ZX (by k_is) (by k_is) (by k_is))
  (case a29 => k_is)
  (case l29 => exact L2.ZX (by k_is) (by k_is) (by k_is))
  (case a30 => k_is)
  (case l30 => exact L2.ZX (by k_is) (by k_is) (by k_is))
  (case a31 => k_is)
  (case l31 => exact L2.ZX (by k_is) (by k_is) (by k_is))
  (case a32 => k_is)
  (case l32 => exact L2.ZX (by k_is) (by k_is) (by k_is))
  (case a33 => k_is)
  (case l33 => exact L2.ZX (by k_is) (by k_is) (by k_is))
  (case Zib => k_is)
  (case ZhJ => k_is)
  (case Zi9 => k_is)
  (case Zfm => k_is)
  (case UI => k_is)
  (case Zh1 => k_is)
  (case GK => k_is)
  (case Zh9 => k_is)
  (case ZfG => k_is)
  (case Zjc => k_is)
  (case Zi8 => k_is)
  (case Zd8 => k_is)
  (case Zam => k_is)
  (case ZcA => k_is)
  (case Zi3 => k_is)
  (case ZiW => k_is)

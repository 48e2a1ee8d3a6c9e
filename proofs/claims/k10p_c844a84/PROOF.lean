import PyProof.Rows.All
import Wide.All
import OpenK.AllK
import Wide.FinOn
import Lean
import PyProof.EqAt
import PyProof.EqKinds
import PyProof.TupleCall
import PyProof.AttrMissHeap
import PyProof.FactsAll.zip_1
import KE.KDictOf
import PyProof.Draws
import PySem.Challenge.RW_bendfronts_k10_sums_known
set_option Elab.async false
set_option linter.all false
set_option maxRecDepth 100000
/-! THE HAND LAYER, for ints, bools, texts, own classes, LISTS and tuples (index, slices, in, append, pop ..), calls, loops. Paste it whole ahead of your own text; what your proof does not reach may be deleted. -/
namespace L2
open PySem PySem.Spec PyProof.Rows

/-- a key: an int or a str -/
abbrev Key := Sum Int Str
def keyIs : Key → Value → Bool
  | .inl k, v => Value.isInt k v
  | .inr x, v => Value.isStrOf x v
def keyH (w : World) : Key → Int
  | .inl k => hashInt k
  | .inr x => hashStr w x
theorem keyIs_shape : ∀ {k : Key} {v : Value}, keyIs k v = true → (∃ i t, k = Sum.inl i ∧ v = Value.int i t) ∨ (∃ x t, k = Sum.inr x ∧ v = Value.str x t)
  | .inl i, v, h => by
    obtain ⟨t, e⟩ := Value.isInt_shape (k := i) (v := v) h
    exact .inl ⟨i, t, rfl, e⟩
  | .inr x, v, h => by
    obtain ⟨t, e⟩ := Value.isStrOf_shape (x := x) (v := v) h
    exact .inr ⟨x, t, rfl, e⟩
theorem key_ll (a b : Int) : decide ((Sum.inl a : Key) = Sum.inl b) = (a == b) := by
  by_cases e : a = b
  · subst e; simp
  · have h : ¬ (Sum.inl a : Key) = Sum.inl b := fun q => e (Sum.inl.inj q)
    rw [decide_eq_false h]
    exact (beq_eq_false_iff_ne.mpr e).symm
theorem key_rr (a b : Str) : decide ((Sum.inr a : Key) = Sum.inr b) = decide (a = b) := by
  by_cases e : a = b
  · subst e; simp
  · have h : ¬ (Sum.inr a : Key) = Sum.inr b := fun q => e (Sum.inr.inj q)
    rw [decide_eq_false h, decide_eq_false e]
theorem key_lr (a : Int) (b : Str) : decide ((Sum.inl a : Key) = Sum.inr b) = false := decide_eq_false (fun q => nomatch q)
theorem key_rl (a : Str) (b : Int) : decide ((Sum.inr a : Key) = Sum.inl b) = false := decide_eq_false (fun q => nomatch q)

def mixKind (prog : Program) (w : World) : PySem.KeyKind prog w Key where
  is := keyIs
  hash := keyH w
  inj := fun v a b ha hb => by
    rcases keyIs_shape ha with ⟨i, t, rfl, rfl⟩ | ⟨x, t, rfl, rfl⟩
    · rcases keyIs_shape hb with ⟨j, u, rfl, e⟩ | ⟨y, u, rfl, e⟩
      · injection e with e1 _; rw [e1]
      · exact nomatch e
    · rcases keyIs_shape hb with ⟨j, u, rfl, e⟩ | ⟨y, u, rfl, e⟩
      · exact nomatch e
      · injection e with e1 _; rw [e1]
  byValue := fun k v h => by
    rcases keyIs_shape h with ⟨i, t, rfl, rfl⟩ | ⟨x, t, rfl, rfl⟩ <;> rfl
  pyHash := fun hv h => by
    rcases keyIs_shape hv with ⟨i, t, rfl, rfl⟩ | ⟨x, t, rfl, rfl⟩
    · exact wpAny_pyHash_int h
    · exact wpAny_pyHash_str h
  eqBool := fun hu hv h => by
    rcases keyIs_shape hu with ⟨i, t, rfl, rfl⟩ | ⟨x, t, rfl, rfl⟩
    · rcases keyIs_shape hv with ⟨j, u, rfl, rfl⟩ | ⟨y, u, rfl, rfl⟩
      · rw [key_ll] at h; exact wpAny_eqBool_int h
      · rw [key_lr] at h; exact SeqAt.EqAt.int_str i t y u _ _ _ _ h
    · rcases keyIs_shape hv with ⟨j, u, rfl, rfl⟩ | ⟨y, u, rfl, rfl⟩
      · rw [key_rl] at h; exact SeqAt.EqAt.str_int x t j u _ _ _ _ h
      · rw [key_rr] at h; exact wpAny_eqBool_str h
  «strs» := fun k x t v h => by
    rcases keyIs_shape h with ⟨i, u, rfl, e⟩ | ⟨y, u, rfl, e⟩
    · exact nomatch e
    · injection e with e1 _
      subst e1
      cases v <;> rfl

end L2

namespace L2
open PySem PySem.Spec PyProof.Rows

/-- a value, without the heap -/
inductive V where
  | non | bl (b : Bool) | int (i : Int) | str (x : Str) | byt (b : Array UInt8) | flt (b : UInt64) | ref (a : Addr) | ty (n : String)
  deriving DecidableEq

def RelV : V → Value → Prop
  | .non, u => u = Value.none
  | .bl b, u => u = Value.bool b
  | .int i, u => ∃ t, u = Value.int i t
  | .str x, u => ∃ t, u = Value.str x t
  | .byt b, u => ∃ t, u = Value.bytes b t
  | .flt b, u => ∃ t, u = Value.float b t
  | .ref a, u => u = Value.ref a
  | .ty n, u => u = Value.type n

abbrev Vals : List V → List Value → Prop := Paired RelV
theorem Vals.length {xs : List V} {us : List Value} (r : Vals xs us) : xs.length = us.length := Paired.length r
theorem Vals.get : ∀ {xs : List V} {us : List Value} {i : Nat} {x : V}, Vals xs us → xs[i]? = some x → ∃ u, us[i]? = some u ∧ RelV x u
  | _, _, _, _, .nil, e => by simp at e
  | _, _, 0, _, .cons r _, e => by simp at e; subst e; exact ⟨_, rfl, r⟩
  | _, _, i + 1, x, .cons _ t, e => by
    obtain ⟨u, h1, h2⟩ := Vals.get (i := i) (x := x) t (by simpa using e)
    exact ⟨u, by simpa using h1, h2⟩
theorem Vals.set {x : V} {u : Value} (r : RelV x u) : ∀ {xs : List V} {us : List Value} (i : Nat), Vals xs us → Vals (xs.set i x) (us.set i u)
  | _, _, _, .nil => .nil
  | _, _, 0, .cons _ t => .cons r t
  | _, _, i + 1, .cons q t => .cons q (Vals.set r i t)
theorem Vals.append : ∀ {xs ys : List V} {us ws : List Value}, Vals xs us → Vals ys ws → Vals (xs ++ ys) (us ++ ws)
  | _, _, _, _, .nil, s => s
  | _, _, _, _, .cons r t, s => .cons r (Vals.append t s)
theorem Vals.take : ∀ {xs : List V} {us : List Value} (n : Nat), Vals xs us → Vals (xs.take n) (us.take n)
  | _, _, 0, _ => .nil
  | _, _, _ + 1, .nil => .nil
  | _, _, n + 1, .cons r t => .cons r (Vals.take n t)
theorem Vals.drop : ∀ {xs : List V} {us : List Value} (n : Nat), Vals xs us → Vals (xs.drop n) (us.drop n)
  | _, _, 0, r => r
  | _, _, _ + 1, .nil => .nil
  | _, _, n + 1, .cons _ t => Vals.drop n t
def RelO : Option V → Option Value → Prop
  | some v, some u => RelV v u
  | none, none => True
  | _, _ => False
def KV {κ : Type} : List (κ × V) → List (κ × Value) → Prop := Paired fun (p : κ × V) (q : κ × Value) => p.1 = q.1 ∧ RelV p.2 q.2

/-- a key of a dict (00_mix): an int or a text -/
def kV : Key → V
  | .inl i => .int i
  | .inr x => .str x

/-- what stands at a tracked address -/
inductive HO where
  /-- a list -/
  | lst (xs : List V)
  /-- a tuple (never changes) -/
  | tup (xs : List V)
  /-- a dict whose keys are ints and texts; one whose keys are tuples of ints and texts (the empty one is both) -/
  | dK (kvs : List (Key × V)) | dT (kvs : List (List Key × V))
  /-- a set of ints: its members, its size -/
  | set (S : Int → Bool) (n : Nat)
  /-- an instance of the class at C, its dict at dx, its attributes -/
  | ins (C dx : Addr) (fs : List (Str × V))
  /-- the dict of the instance at x -/
  | own (x : Addr)
  /-- the dict of an exception -/
  | xd (fs : List (Str × V))
  /-- a bound method, f of x -/
  | met (f x : Addr)
  /-- a range object lo, lo + 1, .. below hi -/
  | rng (lo hi : Int)
  /-- a thing that is known to the object (the script; a dict while a loop walks it): read, never written while it is so -/
  | frz (o : Obj) (u : HO)
  /-- a code object's table -/
  | tbl (ps : Array Value)
  /-- any other thing, by what is true of its one object (a def of one's own: SetO a S n := HO.ext fun h => ..) -/
  | ext (φ : Heap → Prop)

abbrev Hp := Addr → Option HO
def upd (H : Hp) (a : Addr) (o : HO) : Hp := fun b => if b = a then some o else H b
theorem upd_same {H : Hp} {a : Addr} {o : HO} : upd H a o a = some o := by unfold upd; rw [if_pos rfl]
theorem upd_ne {H : Hp} {a b : Addr} {o : HO} (h : b ≠ a) : upd H a o b = H b := by unfold upd; rw [if_neg h]
theorem upd_upd {H : Hp} {a : Addr} {o u : HO} : upd (upd H a o) a u = upd H a u := by
  funext b; unfold upd; split <;> rfl
/-- two objects of different content stand apart -/
theorem ne_of {H : Hp} {a b : Addr} {o u : HO} (h : H a = some o) (h' : H b = some u) (d : o ≠ u) : a ≠ b := by
  intro e; subst e; rw [h] at h'; exact d (Option.some.inj h')
theorem ne_of_none {H : Hp} {a b : Addr} {o : HO} (h : H a = some o) (h' : H b = none) : a ≠ b := by
  intro e; subst e; rw [h] at h'; cases h'

section
variable (P : Program) (w : World)
def ObjOk (H : Hp) (h : Heap) (a : Addr) : HO → Prop
  | .lst xs => xs.length ≤ sizeLine ∧ ∃ (its : List Value) (n : Nat), Vals xs its ∧ h.get? a = some { cls := .type "list", data := .seq its.toArray n }
  | .tup xs => xs.length ≤ sizeLine ∧ ∃ its : List Value, Vals xs its ∧ IsTup h a its.toArray
  | .dK kvs => kvs.length ≤ sizeLine ∧ (a == sysModules) = false ∧ ∃ vs, KV kvs vs ∧ h.DictOf (mixKind P w) a vs
  | .dT kvs => kvs.length ≤ sizeLine ∧ (a == sysModules) = false ∧ ∃ xs : List (List Key × Addr × Value),
      Paired (fun (p : List Key × V) (q : List Key × Addr × Value) => p.1 = q.1 ∧ H q.2.1 = some (.tup (p.1.map kV)) ∧ RelV p.2 q.2.2) kvs xs ∧
      ∃ o es ep, h.get? a = some o ∧ o.ExactDict ∧ o.data = .dict es ep ∧ es.toList = xs.map (entryOfKey (tupleKind (mixKind P w))) ∧ (xs.map (·.1)).Nodup
  | .set S n => h.SetOf (intKind P w) a S n
  | .ins C dx fs => H dx = some (.own a) ∧ fs.length ≤ 1000 ∧ dx ≠ a ∧ h.get? a = some (PySem.W.instObj C dx) ∧
      ∃ mA, h.Ns1 dx mA ∧ (∀ f, RelO (fs.lookup f) (mA f)) ∧ PySem.Within mA (fs.map (·.1))
  | .own _ => ∃ o, h.get? a = some o
  | .xd fs => ∃ mA, h.Ns1 a mA ∧ ∀ f, RelO (fs.lookup f) (mA f)
  | .rng lo hi => ∃ t u v, h.get? a = some { cls := .type "range", data := .fields #[.int lo t, .int hi u, .int 1 v] }
  | .frz o u => h.get? a = some o ∧ ObjOk H h a u
  | .tbl ps => h.get? a = some { cls := .none, data := .fields ps }
  | .met f x => h.get? a = some (PySem.W.methodObj (.ref f) (.ref x))
  | .ext φ => φ h ∧ (∃ o, h.get? a = some o) ∧ ∀ h1 h2 : Heap, φ h1 → (∀ o, h1.get? a = some o → h2.get? a = some o) → φ h2
/-- the abstract heap is held -/
def HOk (H : Hp) (h : Heap) : Prop := ∀ a o, H a = some o → ObjOk P w H h a o
end

section
variable {P : Program} {w : World} {H H' : Hp} {h h' : Heap} {a : Addr} {o : HO}
theorem ObjOk.lt (x : ObjOk P w H h a o) : a < h.objs.size := by
  cases o with
  | lst xs => obtain ⟨_, _, _, _, e⟩ := x; exact Heap.lt_size e
  | tup xs => obtain ⟨_, _, _, p⟩ := x; exact p.lt
  | dK kvs => obtain ⟨_, _, _, _, o, _, _, e, _⟩ := x; exact Heap.lt_size e
  | dT kvs => obtain ⟨_, _, _, _, o, _, _, e, _⟩ := x; exact Heap.lt_size e
  | set S n => obtain ⟨o, _, _, _, e, _⟩ := x; exact Heap.lt_size e
  | ins C dx fs => obtain ⟨_, _, _, e, _⟩ := x; exact Heap.lt_size e
  | own y => obtain ⟨_, e⟩ := x; exact Heap.lt_size e
  | xd fs => obtain ⟨_, ⟨_, _, _, e, _⟩, _⟩ := x; exact Heap.lt_size e
  | rng lo hi => obtain ⟨_, _, _, e⟩ := x; exact Heap.lt_size e
  | frz ob u => obtain ⟨e, _⟩ := x; exact Heap.lt_size e
  | tbl ps => exact Heap.lt_size (show h.get? a = some _ from x)
  | met f y => exact Heap.lt_size (show h.get? a = some _ from x)
  | ext φ => obtain ⟨_, ⟨_, e⟩, _⟩ := x; exact Heap.lt_size e
theorem Paired.mapP {α β : Type} {F G : α → β → Prop} : ∀ {l₁ : List α} {l₂ : List β}, Paired F l₁ l₂ → (∀ a b, F a b → G a b) → Paired G l₁ l₂
  | _, _, .nil, _ => .nil
  | _, _, .cons r t, f => .cons (f _ _ r) (Paired.mapP t f)
/-- what an object's description leans on: its own object, its own dict, the tuples -/
theorem ObjOk.stay (x : ObjOk P w H h a o) (k : ∀ b u, (b = a ∨ H b = some (.own a)) → h.get? b = some u → h'.get? b = some u)
    (ho : ∀ b, H b = some (.own a) → H' b = some (.own a)) (ht : ∀ b xs, H b = some (.tup xs) → H' b = some (.tup xs)) : ObjOk P w H' h' a o := by
  induction o with
  | lst xs => obtain ⟨z, its, n, r, e⟩ := x; exact ⟨z, its, n, r, k _ _ (.inl rfl) e⟩
  | tup xs => obtain ⟨z, its, r, ob, e, c⟩ := x; exact ⟨z, its, r, ob, k _ _ (.inl rfl) e, c⟩
  | dK kvs => obtain ⟨z, y, vs, r, ob, es, ep, e, c⟩ := x; exact ⟨z, y, vs, r, ob, es, ep, k _ _ (.inl rfl) e, c⟩
  | dT kvs =>
    obtain ⟨z, y, xs, r, ob, es, ep, e, c⟩ := x
    exact ⟨z, y, xs, Paired.mapP r fun p q z => ⟨z.1, ht _ _ z.2.1, z.2.2⟩, ob, es, ep, k _ _ (.inl rfl) e, c⟩
  | set S n => obtain ⟨ob, es, ep, t, e, c⟩ := x; exact ⟨ob, es, ep, t, k _ _ (.inl rfl) e, c⟩
  | ins C dx fs =>
    obtain ⟨d, z, ne, e, mA, ⟨od, es, ep, e2, c⟩, r⟩ := x
    exact ⟨ho _ d, z, ne, k _ _ (.inl rfl) e, mA, ⟨od, es, ep, k _ _ (.inr d) e2, c⟩, r⟩
  | own y => obtain ⟨ob, e⟩ := x; exact ⟨ob, k _ _ (.inl rfl) e⟩
  | xd fs => obtain ⟨mA, ⟨od, es, ep, e, c⟩, r⟩ := x; exact ⟨mA, ⟨od, es, ep, k _ _ (.inl rfl) e, c⟩, r⟩
  | rng lo hi => obtain ⟨t, u, v, e⟩ := x; exact ⟨t, u, v, k _ _ (.inl rfl) e⟩
  | frz ob u ih => obtain ⟨e, q⟩ := x; exact ⟨k _ _ (.inl rfl) e, ih q⟩
  | tbl ps =>
    have e : h.get? a = some { cls := .none, data := .fields ps } := x
    show h'.get? a = some { cls := .none, data := .fields ps }
    exact k a _ (.inl rfl) e
  | met f y =>
    have e : h.get? a = some (PySem.W.methodObj (.ref f) (.ref y)) := x
    show h'.get? a = some (PySem.W.methodObj (.ref f) (.ref y))
    exact k a _ (.inl rfl) e
  | ext φ => obtain ⟨p, ⟨o, e⟩, st⟩ := x; exact ⟨st _ _ p fun o q => k _ _ (.inl rfl) q, ⟨o, k _ _ (.inl rfl) e⟩, st⟩
theorem HOk.lt (x : HOk P w H h) (e : H a = some o) : a < h.objs.size := (x a o e).lt
theorem HOk.fresh (x : HOk P w H h) (e : h.objs.size ≤ a) : H a = none := by
  cases q : H a with
  | none => rfl
  | some u => exact absurd (Nat.lt_of_lt_of_le (x.lt q) e) (Nat.lt_irrefl _)
/-- every object of the heap is kept -/
theorem HOk.kept (x : HOk P w H h) (k : ∀ b u, h.get? b = some u → h'.get? b = some u) : HOk P w H h' := fun a o e =>
  (x a o e).stay (fun b u _ q => k b u q) (fun _ q => q) fun _ _ q => q
/-- a new object is laid and tracked -/
theorem HOk.laid (x : HOk P w H h) (k : ∀ b u, h.get? b = some u → h'.get? b = some u) (hp : h.objs.size ≤ a) (new : ObjOk P w (upd H a o) h' a o) : HOk P w (upd H a o) h' := fun b u e => by
  have hn := x.fresh hp
  by_cases hb : b = a
  · subst hb; rw [upd_same] at e; cases e; exact new
  · rw [upd_ne hb] at e
    exact (x b u e).stay (fun c v _ q => k c v q) (fun c q => by rw [upd_ne (ne_of_none q hn)]; exact q) fun c xs q => by rw [upd_ne (ne_of_none q hn)]; exact q
end

/-- what may be read as u: it is u, or a known u -/
def Rd (H : Hp) (a : Addr) (u : HO) : Prop := H a = some u ∨ ∃ o, H a = some (.frz o u)
theorem Rd.ok {P : Program} {w : World} {H : Hp} {h : Heap} {a : Addr} {u : HO} (r : Rd H a u) (x : HOk P w H h) : ObjOk P w H h a u := by
  rcases r with r | ⟨o, r⟩
  · exact x a u r
  · obtain ⟨_, q⟩ := x a _ r
    exact q
/-- what may be written -/
def Mut : Option HO → Prop
  | some (.lst _) => True
  | some (.dK _) => True
  | some (.dT _) => True
  | some (.set _ _) => True
  | some (.ins _ _ _) => True
  | some (.ext _) => True
  | _ => False
section
variable {P : Program} {w : World} {H : Hp} {h h' : Heap} {x e : Addr} {o' : HO}
/-- the object at e is changed: x itself, or the dict of the instance x -/
theorem HOk.write (ok : HOk P w H h) (mu : Mut (H x)) (he : e = x ∨ H e = some (.own x)) (k : ∀ b u, b ≠ e → h.get? b = some u → h'.get? b = some u) (heo : ∃ u, h'.get? e = some u)
    (new : ObjOk P w (upd H x o') h' x o') : HOk P w (upd H x o') h' := fun b u q => by
  have nown : ∀ c y, H c = some (.own y) → c ≠ x := fun c y r z => by subst z; rw [r] at mu; exact mu
  have ntup : ∀ c xs, H c = some (.tup xs) → c ≠ x := fun c xs r z => by subst z; rw [r] at mu; exact mu
  by_cases hb : b = x
  · subst hb; rw [upd_same] at q; cases q; exact new
  · rw [upd_ne hb] at q
    by_cases hbe : b = e
    · have q' : H b = some (.own x) := by
        rcases he with z | z
        · exact absurd (hbe.trans z) hb
        · rw [hbe]; exact z
      rw [q] at q'; cases q'
      obtain ⟨v, hv⟩ := heo
      exact ⟨v, by rw [hbe]; exact hv⟩
    · refine (ok b u q).stay (fun c v hc r => k c v ?_ r) (fun c r => by rw [upd_ne (nown c b r)]; exact r) fun c xs r => by rw [upd_ne (ntup c xs r)]; exact r
      rcases hc with rfl | hc
      · exact hbe
      · rintro rfl
        rcases he with z | z
        · exact nown c b hc z
        · rw [hc] at z; cases z; exact hb rfl
end

/-! ### kept unless tracked; of the frames at fs (the callers') the slots may change (an exception that passes writes there); of the records at ex (iterators) nothing is said -/
structure Un (fs ex : List Addr) (H H' : Hp) (h h' : Heap) : Prop where
  keep : ∀ b o, h.get? b = some o → H b = none → b ∉ fs → b ∉ ex → h'.get? b = some o
  slot : ∀ b o, h.get? b = some o → H b = none → b ∈ fs → b ∉ ex → ∃ sl, h'.get? b = some { o with slots := sl }
  free : ∀ b o, h.get? b = some o → H b = none → b ∉ ex → H' b = none
  there : ∀ b o, h.get? b = some o → b ∉ ex → ∃ o', h'.get? b = some o'
  tups : ∀ b xs, H b = some (.tup xs) → H' b = some (.tup xs)
  frzs : ∀ b o u, H b = some (.frz o u) → H' b = some (.frz o u)
  tbls : ∀ b ps, H b = some (.tbl ps) → ∃ more, H' b = some (.tbl (ps ++ more))
section
variable {fs fs' ex ex' : List Addr} {H H1 H2 : Hp} {h h1 h2 h' : Heap} {a x e : Addr} {o : HO}
theorem Un.any (u : Un fs ex H H1 h h1) {b : Addr} {ob : Obj} (q : h.get? b = some ob) (n : H b = none) (hx : b ∉ ex) : ∃ sl, h1.get? b = some { ob with slots := sl } := by
  by_cases hb : b ∈ fs
  · exact u.slot b ob q n hb hx
  · exact ⟨ob.slots, u.keep b ob q n hb hx⟩
theorem Un.kept (k : ∀ b u, h.get? b = some u → h'.get? b = some u) : Un fs ex H H h h' :=
  ⟨fun b ob q _ _ _ => k b ob q, fun b ob q _ _ _ => ⟨ob.slots, k b ob q⟩, fun _ _ _ n _ => n, fun b ob q _ => ⟨ob, k b ob q⟩, fun _ _ q => q, fun _ _ _ q => q, fun _ ps q => ⟨#[], by rw [q]; simp⟩⟩
theorem Un.refl : Un fs ex H H h h := Un.kept fun _ _ q => q
theorem Un.laid (k : ∀ b u, h.get? b = some u → h'.get? b = some u) (hp : h.objs.size ≤ a) (hn : H a = none) : Un fs ex H (upd H a o) h h' where
  keep := fun b u q _ _ _ => k b u q
  slot := fun b u q _ _ _ => ⟨u.slots, k b u q⟩
  free := fun b u q n _ => by rw [upd_ne (Nat.ne_of_lt (Nat.lt_of_lt_of_le (Heap.lt_size q) hp))]; exact n
  there := fun b u q _ => ⟨u, k b u q⟩
  tups := fun b xs q => by rw [upd_ne (ne_of_none q hn)]; exact q
  frzs := fun b u xs q => by rw [upd_ne (ne_of_none q hn)]; exact q
  tbls := fun b ps q => ⟨#[], by rw [upd_ne (ne_of_none q hn), q]; simp⟩
theorem Un.write (mu : Mut (H x)) (he : e = x ∨ H e = some (.own x)) (k : ∀ b u, b ≠ e → h.get? b = some u → h'.get? b = some u) (heo : ∃ u, h'.get? e = some u) : Un fs ex H (upd H x o) h h' := by
  have hx : ∀ b, H b = none → b ≠ x := fun b n z => by subst z; rw [n] at mu; exact mu
  have hb : ∀ b, H b = none → b ≠ e := fun b n z => by
    subst z
    rcases he with r | r
    · exact hx b n r
    · rw [n] at r; cases r
  have hm : ∀ b u, H b = some u → ¬ Mut (some u) → b ≠ x := fun b u q nm z => by subst z; rw [q] at mu; exact nm mu
  refine ⟨fun b u q n _ _ => k b u (hb b n) q, fun b u q n _ _ => ⟨u.slots, k b u (hb b n) q⟩, fun b u q n _ => by rw [upd_ne (hx b n)]; exact n, fun b u q _ => ?_,
    fun b xs q => by rw [upd_ne (hm b _ q fun z => z)]; exact q, fun b u xs q => by rw [upd_ne (hm b _ q fun z => z)]; exact q, fun b ps q => ⟨#[], by rw [upd_ne (hm b _ q fun z => z), q]; simp⟩⟩
  by_cases hbe : b = e
  · subst hbe; exact heo
  · exact ⟨u, k b u hbe q⟩
end

/-! ### the heap without what is tracked -/
def trk (h : Heap) (H : Hp) : List Addr := (List.range h.objs.size).filter fun a => (H a).isSome
def hidT (h : Heap) (H : Hp) : Heap := PySem.W.hideAll h (trk h H)
theorem hidT_size (h : Heap) (H : Hp) : (hidT h H).objs.size = h.objs.size := PySem.W.hideAll_size _ _
theorem hidT_get {h : Heap} {H : Hp} {b : Addr} {o : Obj} (e : h.get? b = some o) (n : H b = none) : (hidT h H).get? b = some o :=
  PySem.W.hideAll_get _ e fun hm => by
    have q : (H b).isSome = true := (List.mem_filter.mp hm).2
    rw [n] at q; simp at q
theorem of_hidT {h : Heap} {H : Hp} {b : Addr} {o : Obj} (e : (hidT h H).get? b = some o) : h.get? b = some o ∧ H b = none := by
  have e' : h.get? b = some o := PySem.W.of_hideAll (trk h H) e
  refine ⟨e', ?_⟩
  cases q : H b with
  | none => rfl
  | some x =>
    have hm : b ∈ trk h H := List.mem_filter.mpr ⟨List.mem_range.mpr (Heap.lt_size e'), by simp [q]⟩
    have z : (hidT h H).get? b = none := PySem.W.hideAll_none (trk h H) hm
    rw [z] at e; cases e

/-! ### OpenK's ledger, filled with every new object but one -/
def allNews (g h : Heap) (L : Addr) : List (Addr × Obj) := (List.range h.objs.size).filterMap fun a => if a = L ∨ (g.get? a).isSome = true then none else (h.get? a).map fun o => (a, o)
theorem mem_allNews {g h : Heap} {L a : Addr} {o : Obj} (h1 : a ≠ L) (h2 : g.get? a = none) (h3 : h.get? a = some o) : (a, o) ∈ allNews g h L :=
  List.mem_filterMap.mpr ⟨a, List.mem_range.mpr (Heap.lt_size h3), by simp [h1, h2, h3]⟩
theorem of_mem_allNews {g h : Heap} {L : Addr} {p : Addr × Obj} (hp : p ∈ allNews g h L) : p.1 ≠ L ∧ g.get? p.1 = none ∧ h.get? p.1 = some p.2 := by
  obtain ⟨b, _, e⟩ := List.mem_filterMap.mp hp
  split at e
  · cases e
  · rename_i hn
    cases q : h.get? b with
    | none => rw [q] at e; simp at e
    | some u =>
      rw [q] at e
      simp only [Option.map_some, Option.some.injEq] at e
      subst e
      refine ⟨fun z => hn (.inl z), ?_, q⟩
      show g.get? b = none
      cases r : g.get? b with
      | none => rfl
      | some v => exact (hn (.inr (by simp [r]))).elim
def rest (g h : Heap) (L d : Addr) : List (Addr × Obj) := (allNews g h L).filter fun p => decide (p.1 ≠ d)
theorem news_all {g h : Heap} {L : Addr} : News g L h (allNews g h L) := fun p hp => let ⟨a, b, c⟩ := of_mem_allNews hp; ⟨c, a, b⟩
end L2

namespace L2
open PySem PySem.Spec PyProof.Rows

/-- the module's facts, over the base: the heap at the law's entry without what is tracked there -/
structure Mod (K : PySem.W.Frag) (mg : Str → Option Value) (base : Heap) : Prop where
  kin : K.In base
  glob : base.Ns mainGlobals mg
  blt : ∃ mb, base.Ns builtinsNs mb ∧ ∀ x : Str, x ≠ "__name__" → mb x = bootBuiltins x
  nolimit : base.NoLimit

/-- the context: a def's body (or a comprehension's block) running. base: fixed through the whole law; s₀, H₀: the entry; outer: the frames whose slots others may change (a def's callers); stack: all frames that run;
   ex: iterators that were made ahead of the entry and are walked here (a comprehension's); fn: the names whose cells were made at the entry (a def: all; a comprehension's block: its own); calm: not within an except suite; pn: pins that every state bears; xe: what is wanted of an exception that leaves the code -/
structure Cx where
  prog : Program
  w : World
  K : PySem.W.Frag
  mg : Str → Option Value
  base : Heap
  A : Around
  N : List Str
  s₀ : Shared
  H₀ : Hp
  env : Env
  outer : List Env
  stack : List Env
  ex : List Addr
  fn : Str → Bool
  calm : Bool
  pn : List (Addr × Obj)
  xe : Value → Shared → Prop
/-- the callers' frames -/
def frs (l : List Env) : List Addr := l.filterMap (·.frame)
abbrev Cx.fs (X : Cx) : List Addr := frs X.outer

def Vis (sc : Scope) (x : Str) : Prop := sc.names.lookup x = some .local ∨ sc.names.lookup x = some .cell ∨ sc.names.lookup x = some .free
def Loc (sc : Scope) (x : Str) : Prop := sc.names.lookup x = some .local ∨ sc.names.lookup x = some .cell
def Look (env : Env) (h : Heap) (m : Str → Option Value) (x : Str) (u : Value) : Prop :=
  (env.kindOf x = some .local ∧ m x = some u) ∨ ((env.kindOf x = some .cell ∨ env.kindOf x = some .free) ∧ ∃ c, env.cells.lookup x = some c ∧ h.IsCell c (some u))

structure Cx.Ok (X : Cx) : Prop where
  mod : Mod X.K X.mg X.base
  kind : X.env.scope.kind = .function
  glob : X.env.globals = mainGlobals
  blt : X.env.builtins = builtinsNs
  above : X.s₀.heap.objs.size ≤ X.env.locals
  inj : ∀ x y c, X.env.cells.lookup x = some c → X.env.cells.lookup y = some c → x = y
  has : ∀ x, (X.env.kindOf x = some .cell ∨ X.env.kindOf x = some .free) → ∃ c, X.env.cells.lookup x = some c
  cab : ∀ x c, X.fn x = true → X.env.cells.lookup x = some c → X.s₀.heap.objs.size ≤ c
  hd : X.calm = true → X.A.handled = none
  frames : X.A.frames = some X.stack
  stk : X.stack = X.outer ∨ (X.stack = X.env :: X.outer ∧ X.env.frame = some X.env.locals)
  exf : ∀ b ∈ X.ex, b ≠ X.env.locals ∧ ∀ x c, X.env.cells.lookup x = some c → c ≠ b
  bs : ∀ b o, X.base.get? b = some o → X.s₀.heap.get? b = some o ∧ X.H₀ b = none
  bsz : X.base.objs.size ≤ X.s₀.heap.objs.size
  noex : ∀ b o, X.base.get? b = some o → b ∉ X.ex
  exfs : ∀ b ∈ X.ex, b ∉ X.fs
  funs : X.s₀.heap.FunFrames X.base X.outer
  frf : ∀ b ∈ X.fs, X.H₀ b = none

structure Inv (X : Cx) (pins : List (Addr × Obj)) (σ : List (Option V)) (H : Hp) (s : Shared) : Prop where
  ok : X.Ok
  os : s.os = X.s₀.os
  bare : AllBare s.gens
  base : Un X.fs X.ex X.H₀ H X.s₀.heap s.heap
  loc : ∃ m, s.heap.Ns X.env.locals m ∧ ∀ (i : Nat) (x : Str) (v : V), X.N[i]? = some x → σ[i]? = some (some v) → Vis X.env.scope x → ∃ u, RelV v u ∧ Look X.env s.heap m x u
  cell : ∀ x c, X.env.cells.lookup x = some c → ∃ v, s.heap.IsCell c v
  free : H X.env.locals = none
  freeC : ∀ x c, X.env.cells.lookup x = some c → H c = none
  pin : ∀ p ∈ X.pn ++ pins, s.heap.get? p.1 = some p.2 ∧ H p.1 = none ∧ p.1 ≠ X.env.locals ∧ p.1 ∉ X.fs ∧ ∀ v, p.2.data ≠ .cell v
  hok : HOk X.prog X.w H s.heap
  len : σ.length = X.N.length

section
variable {X : Cx} {pins : List (Addr × Obj)} {σ : List (Option V)} {H H' : Hp} {s : Shared} {h' : Heap}

theorem Cx.Ok.nofr (ok : X.Ok) {b : Addr} {o : Obj} (e : X.base.get? b = some o) : b ∉ X.fs := fun hb => by
  have := (ok.funs.mem hb).1
  rw [e] at this; cases this
theorem Inv.bs (I : Inv X pins σ H s) : ∀ b o, X.base.get? b = some o → s.heap.get? b = some o ∧ H b = none := fun b o e =>
  ⟨I.base.keep b o (I.ok.bs b o e).1 (I.ok.bs b o e).2 (I.ok.nofr e) (I.ok.noex b o e), I.base.free b o (I.ok.bs b o e).1 (I.ok.bs b o e).2 (I.ok.noex b o e)⟩
theorem Inv.bk (I : Inv X pins σ H s) : ∀ b o, X.base.get? b = some o → s.heap.get? b = some o := fun b o e => (I.bs b o e).1
theorem Inv.mod (I : Inv X pins σ H s) : Mod X.K X.mg X.base := I.ok.mod
theorem Inv.kIn (I : Inv X pins σ H s) : X.K.In s.heap := I.ok.mod.kin.keeps I.bk
/-- the frame over the base: for OpenK's rules (K.In X.base is I.mod.kin) -/
theorem Inv.fr (I : Inv X pins σ H s) : ∃ m, Fr X.base X.env.locals s.heap m :=
  let ⟨m, hn, _⟩ := I.loc
  ⟨m, hn, I.bk, Nat.le_trans I.ok.bsz I.ok.above⟩
theorem Inv.lt (I : Inv X pins σ H s) : X.env.locals < s.heap.objs.size := let ⟨_, hn, _⟩ := I.loc; hn.lt
theorem Inv.sz (I : Inv X pins σ H s) : X.s₀.heap.objs.size ≤ s.heap.objs.size := Nat.le_trans I.ok.above (Nat.le_of_lt I.lt)
theorem Inv.nofs (I : Inv X pins σ H s) {a : Addr} (h : s.heap.objs.size ≤ a) : a ∉ X.fs := fun hb => by
  obtain ⟨_, o, ho, _⟩ := I.ok.funs.mem hb
  exact absurd (Nat.lt_of_lt_of_le (Heap.lt_size ho) (Nat.le_trans I.sz h)) (Nat.lt_irrefl _)
theorem Inv.cne (I : Inv X pins σ H s) : ∀ x c, X.env.cells.lookup x = some c → c ≠ X.env.locals := fun x c e z => by
  obtain ⟨v, o, ho, hd⟩ := I.cell x c e
  obtain ⟨m, ⟨o', es, ep, ho', hd', _⟩, _⟩ := I.loc
  rw [z, ho'] at ho; cases ho; rw [hd'] at hd; cases hd
theorem Inv.funs (I : Inv X pins σ H s) : s.heap.FunFrames X.base X.outer := by
  have all : ∀ (l : List Env), (∀ b ∈ frs l, b ∈ X.fs) → X.s₀.heap.FunFrames X.base l → s.heap.FunFrames X.base l := by
    intro l
    induction l with
    | nil => intro _ _; trivial
    | cons env r ih =>
      intro hs hl
      obtain ⟨hk, ⟨L, o, hf, hn, ho, hd⟩, hr⟩ := hl
      have hL : L ∈ X.fs := hs L (by unfold frs; rw [List.filterMap_cons, hf]; exact List.mem_cons_self)
      obtain ⟨sl, e⟩ := I.base.slot L o ho (I.ok.frf L hL) hL fun z => I.ok.exfs L z hL
      exact ⟨hk, ⟨L, _, hf, hn, e, hd⟩, ih (fun b hb => hs b (by unfold frs; rw [List.filterMap_cons, hf]; exact List.mem_cons_of_mem _ hb)) hr⟩
  exact all X.outer (fun _ hb => hb) I.ok.funs

/-- the frames that run, for a call -/
theorem Inv.stack (I : Inv X pins σ H s) : s.heap.FunFrames X.base X.stack := by
  rcases I.ok.stk with e | ⟨e, hf⟩
  · rw [e]; exact I.funs
  · rw [e]
    obtain ⟨m, hn, _⟩ := I.loc
    refine .cons (by rw [I.ok.kind]; decide) hf hn ?_ I.funs
    exact Heap.get?_none_of_le (Nat.le_trans I.ok.bsz I.ok.above)
theorem Inv.stkSub (I : Inv X pins σ H s) : ∀ b ∈ frs X.stack, b ∈ X.env.locals :: X.fs := fun b hb => by
  rcases I.ok.stk with e | ⟨e, hf⟩
  · rw [e] at hb; exact List.mem_cons_of_mem _ hb
  · rw [e] at hb
    unfold frs at hb
    rw [List.filterMap_cons, hf] at hb
    exact hb
theorem Inv.stkFree (I : Inv X pins σ H s) : ∀ b ∈ frs X.stack, H b = none := fun b hb => by
  rcases List.mem_cons.mp (I.stkSub b hb) with e | hb
  · rw [e]; exact I.free
  · obtain ⟨_, o, ho, _⟩ := I.ok.funs.mem hb
    exact I.base.free b o ho (I.ok.frf b hb) fun z => I.ok.exfs b z hb

/-- THE STEP: the untracked objects but the frame and the records at ch are kept (the callers' frames up to slots), the frame's map is kept, the new abstract heap is held -/
theorem Inv.step {g' : Array GenState} {t' : Nat} {d' : Drawn} {ch : List Addr} (I : Inv X pins σ H s)
    (hch : ∀ b ∈ ch, (b ∈ X.ex ∨ X.s₀.heap.objs.size ≤ b) ∧ b ≠ X.env.locals ∧ (∀ x c, X.env.cells.lookup x = some c → c ≠ b) ∧ ∀ p ∈ X.pn ++ pins, p.1 ≠ b)
    (keep : ∀ b o, b ≠ X.env.locals → b ∉ X.fs → b ∉ ch → s.heap.get? b = some o → H b = none → h'.get? b = some o)
    (slot : ∀ b o, b ≠ X.env.locals → b ∈ X.fs → b ∉ ch → s.heap.get? b = some o → H b = none → ∃ sl, h'.get? b = some { o with slots := sl }) (free : ∀ b o, b ∉ ch → s.heap.get? b = some o → H b = none → H' b = none)
    (there : ∀ b o, b ∉ ch → s.heap.get? b = some o → ∃ o', h'.get? b = some o')
    (tups : ∀ b xs, H b = some (.tup xs) → H' b = some (.tup xs)) (frzs : ∀ b o u, H b = some (.frz o u) → H' b = some (.frz o u)) (tbls : ∀ b ps, H b = some (.tbl ps) → ∃ more, H' b = some (.tbl (ps ++ more)))
    (ns : ∀ m, s.heap.Ns X.env.locals m → h'.Ns X.env.locals m) (hok : HOk X.prog X.w H' h') (hg : AllBare g') :
    Inv X pins σ H' { s with heap := h', gens := g', drawn := d', toks := t' } := by
  have neL : ∀ b o, X.s₀.heap.get? b = some o → b ≠ X.env.locals := fun b o e => Nat.ne_of_lt (Nat.lt_of_lt_of_le (Heap.lt_size e) I.ok.above)
  have neC : ∀ b o, X.s₀.heap.get? b = some o → b ∉ X.ex → b ∉ ch := fun b o e hx hb => by
    rcases (hch b hb).1 with z | z
    · exact hx z
    · exact absurd (Nat.lt_of_lt_of_le (Heap.lt_size e) z) (Nat.lt_irrefl _)
  have cellK : ∀ x c, X.env.cells.lookup x = some c → ∀ v, s.heap.IsCell c v → h'.IsCell c v := fun x c e v ⟨o, ho, hd⟩ => by
    have nch : c ∉ ch := fun z => (hch c z).2.2.1 x c e rfl
    by_cases hc : c ∈ X.fs
    · obtain ⟨sl, q⟩ := slot c o (I.cne x c e) hc nch ho (I.freeC x c e)
      exact ⟨_, q, hd⟩
    · exact ⟨o, keep c o (I.cne x c e) hc nch ho (I.freeC x c e), hd⟩
  refine ⟨I.ok, I.os, hg, ⟨fun b o e n hb hx => ?_, fun b o e n hb hx => ?_, fun b o e n hx => ?_, fun b o e hx => ?_, fun b xs e => tups b xs (I.base.tups b xs e), fun b o xs e => frzs b o xs (I.base.frzs b o xs e), fun b ps e => ?_⟩, ?_, fun x c e => ?_, ?_, fun x c e => ?_, fun p hp => ?_, hok, I.len⟩
  · exact keep b o (neL b o e) hb (neC b o e hx) (I.base.keep b o e n hb hx) (I.base.free b o e n hx)
  · obtain ⟨sl, e1⟩ := I.base.slot b o e n hb hx
    obtain ⟨sl', e2⟩ := slot b _ (neL b o e) hb (neC b o e hx) e1 (I.base.free b o e n hx)
    exact ⟨sl', e2⟩
  · obtain ⟨o', e1⟩ := I.base.there b o e hx
    exact free b o' (neC b o e hx) e1 (I.base.free b o e n hx)
  · obtain ⟨o', e1⟩ := I.base.there b o e hx
    exact there b o' (neC b o e hx) e1
  · obtain ⟨m1, e1⟩ := I.base.tbls b ps e
    obtain ⟨m2, e2⟩ := tbls b _ e1
    exact ⟨m1 ++ m2, by rw [e2, Array.append_assoc]⟩
  · obtain ⟨m, hn, hl⟩ := I.loc
    refine ⟨m, ns m hn, fun i x v e1 e2 e3 => ?_⟩
    obtain ⟨u, r, l⟩ := hl i x v e1 e2 e3
    refine ⟨u, r, ?_⟩
    rcases l with l | ⟨k, c, e, z⟩
    · exact .inl l
    · exact .inr ⟨k, c, e, cellK x c e _ z⟩
  · obtain ⟨v, z⟩ := I.cell x c e
    exact ⟨v, cellK x c e v z⟩
  · obtain ⟨m, ⟨o, _, _, ho, _⟩, _⟩ := I.loc
    exact free _ o (fun z => (hch _ z).2.1 rfl) ho I.free
  · obtain ⟨v, o, ho, hd⟩ := I.cell x c e
    exact free c o (fun z => (hch c z).2.2.1 x c e rfl) ho (I.freeC x c e)
  · obtain ⟨e, n, ne, nf, d⟩ := I.pin p hp
    have nch : p.1 ∉ ch := fun z => (hch p.1 z).2.2.2 p hp rfl
    exact ⟨keep p.1 p.2 ne nf nch e n, free p.1 p.2 nch e n, ne, nf, d⟩
/-- .. where the frame's own object is kept too -/
theorem Inv.un {t' : Nat} (I : Inv X pins σ H s) (u : Un X.fs [] H H' s.heap h') (hok : HOk X.prog X.w H' h') : Inv X pins σ H' { s with heap := h', toks := t' } := by
  obtain ⟨m, ⟨o, es, ep, ho, r⟩, _⟩ := id I.loc
  obtain ⟨sl, hL⟩ := u.any ho I.free (by simp)
  exact I.step (g' := s.gens) (d' := s.drawn) (ch := []) (fun _ z => nomatch z) (fun b o _ hb _ e n => u.keep b o e n hb (by simp)) (fun b o _ hb _ e n => u.slot b o e n hb (by simp)) (fun b o _ e n => u.free b o e n (by simp)) (fun b o _ e => u.there b o e (by simp)) u.tups u.frzs u.tbls (fun m' hm => by
    obtain ⟨o', es', ep', ho', r'⟩ := hm
    rw [ho] at ho'; cases ho'
    exact ⟨_, es', ep', hL, r'⟩) hok I.bare
/-- behind a call (or a comprehension's block): the slots of this frame may have changed too, the records at ch may have turned -/
theorem Inv.call {g' : Array GenState} {t' : Nat} {d' : Drawn} {ch : List Addr} (I : Inv X pins σ H s) (u : Un (frs X.stack) ch H H' s.heap h') (hok : HOk X.prog X.w H' h') (hg : AllBare g')
    (hch : ∀ b ∈ ch, (b ∈ X.ex ∨ X.s₀.heap.objs.size ≤ b) ∧ b ≠ X.env.locals ∧ (∀ x c, X.env.cells.lookup x = some c → c ≠ b) ∧ ∀ p ∈ X.pn ++ pins, p.1 ≠ b) :
    Inv X pins σ H' { s with heap := h', gens := g', drawn := d', toks := t' } := by
  obtain ⟨m, ⟨o, es, ep, ho, r⟩, _⟩ := id I.loc
  obtain ⟨sl, hL⟩ := u.any ho I.free fun z => (hch _ z).2.1 rfl
  exact I.step (ch := ch) hch (fun b o hL hb hc e n => u.keep b o e n (fun z => (List.mem_cons.mp (I.stkSub b z)).elim hL hb) hc) (fun b o _ _ hc e n => u.any e n hc) (fun b o hc e n => u.free b o e n hc) (fun b o hc e => u.there b o e hc) u.tups u.frzs u.tbls (fun m' hm => by
    obtain ⟨o', es', ep', ho', r'⟩ := hm
    rw [ho] at ho'; cases ho'
    exact ⟨_, es', ep', hL, r'⟩) hok hg
/-- an untracked record of ours (an iterator) has turned -/
theorem Inv.turned {t' : Nat} {it : Addr} (I : Inv X pins σ H s) (k : ∀ b o, b ≠ it → s.heap.get? b = some o → h'.get? b = some o) (hn : H it = none) (hL : it ≠ X.env.locals)
    (h1 : it ∈ X.ex ∨ X.s₀.heap.objs.size ≤ it) (h2 : ∀ x c, X.env.cells.lookup x = some c → c ≠ it) (h3 : ∀ p ∈ X.pn ++ pins, p.1 ≠ it) : Inv X pins σ H { s with heap := h', toks := t' } := by
  have nit : ∀ b u, H b = some u → b ≠ it := fun b u e z => by rw [z, hn] at e; cases e
  refine I.step (g' := s.gens) (d' := s.drawn) (ch := [it]) (fun b hb => ?_) (fun b o _ _ hc e _ => k b o (fun z => hc (by simp [z])) e) (fun b o _ _ hc e _ => ⟨o.slots, k b o (fun z => hc (by simp [z])) e⟩) (fun _ _ _ _ n => n)
    (fun b o hc e => ⟨o, k b o (fun z => hc (by simp [z])) e⟩) (fun _ _ e => e) (fun _ _ _ e => e) (fun b ps e => ⟨#[], by rw [e]; simp⟩) (fun m hm => ?_) (fun b u e => ?_) I.bare
  · have e : b = it := by simpa using hb
    subst e
    exact ⟨h1, hL, h2, h3⟩
  · obtain ⟨o, es, ep, ho, r⟩ := hm
    exact ⟨o, es, ep, k _ o (Ne.symm hL) ho, r⟩
  · refine (I.hok b u e).stay (fun c v hc q => k c v ?_ q) (fun _ q => q) fun _ _ q => q
    rcases hc with z | z
    · rw [z]; exact nit b u e
    · exact nit c _ z
theorem Inv.tok (I : Inv X pins σ H s) (t : Nat) : Inv X pins σ H { s with toks := t } := I.un (h' := s.heap) (t' := t) Un.refl I.hok
/-- all objects kept -/
theorem Inv.kept {t' : Nat} (I : Inv X pins σ H s) (k : ∀ b u, s.heap.get? b = some u → h'.get? b = some u) : Inv X pins σ H { s with heap := h', toks := t' } := I.un (Un.kept k) (I.hok.kept k)
/-- a new object laid and tracked -/
theorem Inv.laid {a : Addr} {o : HO} {t' : Nat} (I : Inv X pins σ H s) (k : ∀ b u, s.heap.get? b = some u → h'.get? b = some u) (hp : s.heap.objs.size ≤ a) (new : ObjOk X.prog X.w (upd H a o) h' a o) :
    Inv X pins σ (upd H a o) { s with heap := h', toks := t' } := I.un (Un.laid k hp (I.hok.fresh hp)) (I.hok.laid k hp new)
/-- an object written -/
theorem Inv.write {x e : Addr} {o : HO} {t' : Nat} (I : Inv X pins σ H s) (mu : Mut (H x)) (he : e = x ∨ H e = some (.own x)) (k : ∀ b u, b ≠ e → s.heap.get? b = some u → h'.get? b = some u) (heo : ∃ u, h'.get? e = some u)
    (new : ObjOk X.prog X.w (upd H x o) h' x o) : Inv X pins σ (upd H x o) { s with heap := h', toks := t' } := I.un (Un.write mu he k heo) (I.hok.write mu he k heo new)
theorem Inv.pins_of {pins' : List (Addr × Obj)} (I : Inv X pins σ H s) (h : ∀ p ∈ pins', s.heap.get? p.1 = some p.2 ∧ H p.1 = none ∧ p.1 ≠ X.env.locals ∧ p.1 ∉ X.fs ∧ ∀ v, p.2.data ≠ .cell v) : Inv X pins' σ H s :=
  ⟨I.ok, I.os, I.bare, I.base, I.loc, I.cell, I.free, I.freeC, fun p hp => (List.mem_append.mp hp).elim (fun z => I.pin p (List.mem_append_left _ z)) (h p), I.hok, I.len⟩

theorem nodup_ix {N : List Str} (hN : N.Nodup) {i j : Nat} {x : Str} (a : N[i]? = some x) (b : N[j]? = some x) : i = j := by
  obtain ⟨h1, e1⟩ := List.getElem?_eq_some_iff.mp a
  obtain ⟨h2, e2⟩ := List.getElem?_eq_some_iff.mp b
  exact (List.getElem_inj hN).mp (e1.trans e2.symm)

/-- a name is stored; what changed -/
theorem store_ok2 {M : Model} {A : Around} {E : Value → Shared → Prop} {i : Nat} {x : Str} {v : V} {u : Value} {Q : Unit → Shared → Prop} (I : Inv X pins σ H s) (hN : X.N.Nodup) (hi : X.N[i]? = some x) (hx : Loc X.env.scope x) (r : RelV v u)
    (h : ∀ s', Inv X pins (σ.set i (some v)) H s' → (∃ a, Heap.SameBut a s.heap s'.heap ∧ (a = X.env.locals ∨ X.env.cells.lookup x = some a)) → Q () s') (hf : X.fn x = true ∨ X.env.scope.names.lookup x = some .local := by first | exact .inl rfl | exact .inr rfl | assumption) : wpAny M A (storeName X.env x u) Q E s := by
  obtain ⟨m, hn, hl⟩ := id I.loc
  have hcls : (X.env.scope.kind == .class || (X.env.scope.kind == .module && X.env.locals != X.env.globals)) = false := by rw [I.ok.kind]; rfl
  have hiσ : i < σ.length := by rw [I.len]; exact (List.getElem?_eq_some_iff.mp hi).1
  have cne := I.cne
  have tracked : ∀ {a : Addr} {h' : Heap}, (∃ o, s.heap.get? a = some o ∧ H a = none) → Heap.SameBut a s.heap h' → HOk X.prog X.w H h' := fun {a h'} ha hs b ob e => by
    obtain ⟨_, _, hfree⟩ := ha
    refine (I.hok b ob e).stay (fun c w' hc q => (hs.2 c ?_).trans q) (fun _ q => q) fun _ _ q => q
    rintro rfl
    rcases hc with rfl | hc
    · rw [hfree] at e; cases e
    · rw [hfree] at hc; cases hc
  rcases hx with hk | hk
  · refine wpAny_storeName_local hk hn (fun h' hn' hs => ?_) hcls
    obtain ⟨oL, _, _, hoL, _⟩ := id hn
    refine h _ ⟨I.ok, I.os, I.bare, ⟨fun b o e n hb hx => ?_, fun b o e n hb hx => ?_, I.base.free, fun b o e hx => ?_, I.base.tups, I.base.frzs, I.base.tbls⟩, ⟨_, hn', fun j y v' e1 e2 e3 => ?_⟩, fun y c e => ?_, I.free, I.freeC, fun p hp => ?_, tracked ⟨oL, hoL, I.free⟩ hs, by simpa using I.len⟩ ⟨_, hs, .inl rfl⟩
    · exact (hs.2 b (Nat.ne_of_lt (Nat.lt_of_lt_of_le (Heap.lt_size e) I.ok.above))).trans (I.base.keep b o e n hb hx)
    · obtain ⟨sl, e1⟩ := I.base.slot b o e n hb hx
      exact ⟨sl, (hs.2 b (Nat.ne_of_lt (Nat.lt_of_lt_of_le (Heap.lt_size e) I.ok.above))).trans e1⟩
    · obtain ⟨o', e1⟩ := I.base.there b o e hx
      exact ⟨o', (hs.2 b (Nat.ne_of_lt (Nat.lt_of_lt_of_le (Heap.lt_size e) I.ok.above))).trans e1⟩
    · by_cases hj : j = i
      · subst hj
        rw [hi] at e1; cases e1
        rw [List.getElem?_set_self hiσ] at e2
        cases e2
        exact ⟨u, r, .inl ⟨hk, by simp⟩⟩
      · rw [List.getElem?_set_ne (Ne.symm hj)] at e2
        obtain ⟨u', r', q⟩ := hl j y v' e1 e2 e3
        refine ⟨u', r', ?_⟩
        rcases q with ⟨k, e⟩ | ⟨k, c, e, z⟩
        · refine .inl ⟨k, ?_⟩
          have : y ≠ x := fun e => hj (nodup_ix hN e1 (e ▸ hi))
          simp [this, e]
        · exact .inr ⟨k, c, e, z.sameBut hs (cne y c e)⟩
    · obtain ⟨w', z⟩ := I.cell y c e
      exact ⟨w', z.sameBut hs (cne y c e)⟩
    · obtain ⟨e, n, ne, nf, d⟩ := I.pin p hp
      exact ⟨(hs.2 p.1 ne).trans e, n, ne, nf, d⟩
  · have hfn : X.fn x = true := by
      rcases hf with z | z
      · exact z
      · rw [z] at hk; cases hk
    obtain ⟨c, hc⟩ := I.ok.has x (.inl hk)
    obtain ⟨w', z⟩ := I.cell x c hc
    refine wpAny_storeName_cell I.ok.kind hk hc z (fun h' hc' hs => ?_)
    obtain ⟨oc, hoc, hocd⟩ := id z
    refine h { s with heap := h' } ⟨I.ok, I.os, I.bare, ⟨fun b o e n hb hx => ?_, fun b o e n hb hx => ?_, I.base.free, fun b o e hx => ?_, I.base.tups, I.base.frzs, I.base.tbls⟩, ⟨m, hn.sameBut hs (Ne.symm (cne x c hc)), fun j y v' e1 e2 e3 => ?_⟩, fun y c' e => ?_, I.free, I.freeC, fun p hp => ?_, tracked ⟨oc, hoc, I.freeC x c hc⟩ hs, by simpa using I.len⟩ ⟨c, hs, .inr hc⟩
    · exact (hs.2 b (Nat.ne_of_lt (Nat.lt_of_lt_of_le (Heap.lt_size e) (I.ok.cab x c hfn hc)))).trans (I.base.keep b o e n hb hx)
    · obtain ⟨sl, e1⟩ := I.base.slot b o e n hb hx
      exact ⟨sl, (hs.2 b (Nat.ne_of_lt (Nat.lt_of_lt_of_le (Heap.lt_size e) (I.ok.cab x c hfn hc)))).trans e1⟩
    · obtain ⟨o', e1⟩ := I.base.there b o e hx
      exact ⟨o', (hs.2 b (Nat.ne_of_lt (Nat.lt_of_lt_of_le (Heap.lt_size e) (I.ok.cab x c hfn hc)))).trans e1⟩
    · by_cases hj : j = i
      · subst hj
        rw [hi] at e1; cases e1
        rw [List.getElem?_set_self hiσ] at e2
        cases e2
        exact ⟨u, r, .inr ⟨.inl hk, c, hc, hc'⟩⟩
      · rw [List.getElem?_set_ne (Ne.symm hj)] at e2
        obtain ⟨u', r', q⟩ := hl j y v' e1 e2 e3
        refine ⟨u', r', ?_⟩
        rcases q with q | ⟨k, c', e, z'⟩
        · exact .inl q
        · refine .inr ⟨k, c', e, z'.sameBut hs ?_⟩
          rintro rfl
          exact hj (nodup_ix hN e1 (I.ok.inj _ _ _ e hc ▸ hi))
    · by_cases hcc : c' = c
      · subst hcc; exact ⟨_, hc'⟩
      · obtain ⟨w2, z2⟩ := I.cell y c' e
        exact ⟨w2, z2.sameBut hs hcc⟩
    · obtain ⟨e, n, ne, nf, d⟩ := I.pin p hp
      refine ⟨(hs.2 p.1 ?_).trans e, n, ne, nf, d⟩
      intro q
      rw [q, hoc] at e
      have q' : oc = p.2 := Option.some.inj e
      exact d w' (by rw [← q']; exact hocd)
theorem store_ok {M : Model} {A : Around} {E : Value → Shared → Prop} {i : Nat} {x : Str} {v : V} {u : Value} {Q : Unit → Shared → Prop} (I : Inv X pins σ H s) (hN : X.N.Nodup) (hi : X.N[i]? = some x) (hx : Loc X.env.scope x) (r : RelV v u)
    (h : ∀ s', Inv X pins (σ.set i (some v)) H s' → Q () s') (hf : X.fn x = true ∨ X.env.scope.names.lookup x = some .local := by first | exact .inl rfl | exact .inr rfl | assumption) : wpAny M A (storeName X.env x u) Q E s :=
  store_ok2 I hN hi hx r (fun s' I' _ => h s' I') hf
/-- behind a call or a block, the state as it is -/
theorem Inv.call' {s' : Shared} {ch : List Addr} (I : Inv X pins σ H s) (ho : s'.os = s.os) (u : Un (frs X.stack) ch H H' s.heap s'.heap) (hok : HOk X.prog X.w H' s'.heap) (hg : AllBare s'.gens)
    (hch : ∀ b ∈ ch, (b ∈ X.ex ∨ X.s₀.heap.objs.size ≤ b) ∧ b ≠ X.env.locals ∧ (∀ x c, X.env.cells.lookup x = some c → c ≠ b) ∧ ∀ p ∈ X.pn ++ pins, p.1 ≠ b) : Inv X pins σ H' s' := by
  obtain ⟨h', g', d', t', o'⟩ := s'
  have e : o' = s.os := ho
  subst e
  exact I.call (g' := g') (t' := t') (d' := d') u hok hg hch
end

/-! ### the judgements -/
/-- an exception: its class, its own dict's address (where it has one), the abstract heap behind it -/
abbrev XK := Value → Option Addr → Hp → Prop
abbrev St := List (Option V)
abbrev VK := V → Hp → Prop
/-- an expression's reading; a test's; an argument list's -/
abbrev TE := St → Hp → VK → Prop
abbrev TT := St → Hp → (Bool → Hp → Prop) → Prop
abbrev TA := St → Hp → (List V → Hp → Prop) → Prop
/-- what is wanted behind a statement -/
structure Ends where
  nx : St → Hp → Prop
  rt : VK
  bk : St → Hp → Prop := fun _ _ => False
  ct : St → Hp → Prop := fun _ _ => False
abbrev TS := Ends → St → Hp → Prop

def EP (X : Cx) (pins : List (Addr × Obj)) (σ : St) (Q : VK) (u : Value) (s' : Shared) : Prop := ∃ v H', Inv X pins σ H' s' ∧ RelV v u ∧ Q v H'
def TP (X : Cx) (pins : List (Addr × Obj)) (σ : St) (Q : Bool → Hp → Prop) (b : Bool) (s' : Shared) : Prop := ∃ H', Inv X pins σ H' s' ∧ Q b H'
def AP (X : Cx) (pins : List (Addr × Obj)) (σ : St) (Q : List V → Hp → Prop) (us : List Value) (s' : Shared) : Prop := ∃ vs H', Inv X pins σ H' s' ∧ Vals vs us ∧ Q vs H'
def SP (X : Cx) (pins : List (Addr × Obj)) (D : Ends) (f : Flow) (s' : Shared) : Prop :=
  match f with
  | .next => ∃ σ' H', Inv X pins σ' H' s' ∧ D.nx σ' H'
  | .brk => ∃ σ' H', Inv X pins σ' H' s' ∧ D.bk σ' H'
  | .cont => ∃ σ' H', Inv X pins σ' H' s' ∧ D.ct σ' H'
  | .ret u => ∃ v σ' H', Inv X pins σ' H' s' ∧ RelV v u ∧ D.rt v H'

def PE (X : Cx) (e : Expr) (t : TE) : Prop :=
  ∀ (pins : List (Addr × Obj)) (s : Shared) (σ : St) (H : Hp) (Q : VK), Inv X pins σ H s → t σ H Q → wpAny (model X.prog X.w) X.A (eval e X.env) (EP X pins σ Q) X.xe s
def PT (X : Cx) (e : Expr) (t : TT) : Prop :=
  ∀ (pins : List (Addr × Obj)) (s : Shared) (σ : St) (H : Hp) (Q : Bool → Hp → Prop), Inv X pins σ H s → t σ H Q → wpAny (model X.prog X.w) X.A (isTrue e X.env (eval e X.env)) (TP X pins σ Q) X.xe s
/-- a test whatever its 'whole' is (and, or) -/
def PW (X : Cx) (e : Expr) (t : TT) : Prop :=
  ∀ (whole : Sem Value) (pins : List (Addr × Obj)) (s : Shared) (σ : St) (H : Hp) (Q : Bool → Hp → Prop), Inv X pins σ H s → t σ H Q → wpAny (model X.prog X.w) X.A (isTrue e X.env whole) (TP X pins σ Q) X.xe s
theorem PW.pt {X : Cx} {e : Expr} {t : TT} (h : PW X e t) : PT X e t := h _
/-- an argument list (no star), from the left -/
def PA (X : Cx) (es : List Expr) (t : TA) : Prop :=
  ∀ (pos : Pos) (pins : List (Addr × Obj)) (s : Shared) (σ : St) (H : Hp) (Q : List V → Hp → Prop), Inv X pins σ H s → t σ H Q → wpAny (model X.prog X.w) X.A (spliced (backTo pos (starEach es X.env))) (AP X pins σ Q) X.xe s
def PS (X : Cx) (st : Stmt) (t : TS) : Prop :=
  ∀ (pins : List (Addr × Obj)) (s : Shared) (σ : St) (H : Hp) (D : Ends), Inv X pins σ H s → t D σ H → wpAny (model X.prog X.w) X.A (exec st X.env) (SP X pins D) X.xe s
def PSs (X : Cx) (st : List Stmt) (t : TS) : Prop :=
  ∀ (pins : List (Addr × Obj)) (s : Shared) (σ : St) (H : Hp) (D : Ends), Inv X pins σ H s → t D σ H → wpAny (model X.prog X.w) X.A (execs st X.env) (SP X pins D) X.xe s
/-- weaken the end -/
theorem thn {α : Type} {t : Sem α} {Q Q' : α → Shared → Prop} {M : Model} {A : Around} {E : Value → Shared → Prop} {s : Shared} (h : wpAny M A t Q E s) (hQ : ∀ a s, Q a s → Q' a s) : wpAny M A t Q' E s := wpAny_mono h hQ fun _ _ x => x
end L2

namespace L2
open PySem PySem.Spec PyProof.Rows
section
variable {X : Cx}

/-! ### names and constants -/
def tVar (i : Nat) : TE := fun σ H Q => ∃ v, σ[i]? = some (some v) ∧ Q v H
def tC (v : V) : TE := fun _ H Q => Q v H
theorem pe_var {i : Nat} {x : Str} {pos : Pos} (hN : X.N[i]? = some x) (hv : Vis X.env.scope x) (hd : (x == ("__debug__" : Str)) = false := by decide) (hcd : (x == ("__classdict__" : Str)) = false := by decide) : PE X (.Name x pos) (tVar i) := by
  intro pins s σ H Q I h
  obtain ⟨v, e, h⟩ := h
  obtain ⟨m, hn, hl⟩ := I.loc
  obtain ⟨u, r, l⟩ := hl i x v hN e hv
  have fin : EP X pins σ Q u s := ⟨v, H, I, r, h⟩
  rcases l with ⟨hk, hm⟩ | ⟨hk, c, hc, hcell⟩
  · exact wpAny_Name (wpAny_loadName_local I.ok.kind hk hn hm fin) hd
  · rcases hk with hk | hk
    · exact wpAny_Name (wpAny_loadName_cell I.ok.kind hk hc hcell fin) hd
    · exact wpAny_Name (wpAny_loadName_free I.ok.kind hk hc hcell fin hcd) hd
theorem pe_int {i j pos} : PE X (.Constant (.int i) j pos) (tC (.int i)) := fun _ _ _ H _ I h => wpAny_Constant_int ⟨.int i, H, I.tok _, ⟨_, rfl⟩, h⟩
theorem pe_bl {b j pos} : PE X (.Constant (.bool b) j pos) (tC (.bl b)) := fun _ _ _ H _ I h => Constant_bool ⟨.bl b, H, I, rfl, h⟩
theorem pe_non {j pos} : PE X (.Constant .none j pos) (tC .non) := fun _ _ _ H _ I h => Constant_none ⟨.non, H, I, rfl, h⟩
theorem pe_str {x j pos} : PE X (.Constant (.str x) j pos) (tC (.str x)) := fun _ _ _ H _ I h => Calls.Constant_str ⟨.str x, H, I.tok _, ⟨_, rfl⟩, h⟩

/-- a global name of the def -/
def Gl (X : Cx) (x : Str) : Prop := X.env.kindOf x = some .globalImplicit
theorem ld_glob {E : Value → Shared → Prop} {pins : List (Addr × Obj)} {s : Shared} {σ : St} {H : Hp} {x : Str} {u : Value} {pos : Pos} {Q : Value → Shared → Prop} (I : Inv X pins σ H s) (hg : Gl X x) (hm : X.mg x = some u) (h : Q u s)
    (hd : (x == ("__debug__" : Str)) = false := by decide) : wpAny (model X.prog X.w) X.A (eval (.Name x pos) X.env) Q E s :=
  Calls.Name_function_global I.ok.kind hg (Calls.loadGlobal_global (by rw [I.ok.glob]; exact I.mod.glob.keeps I.bk) hm h) hd
theorem ld_blt {E : Value → Shared → Prop} {pins : List (Addr × Obj)} {s : Shared} {σ : St} {H : Hp} {x : Str} {u : Value} {pos : Pos} {Q : Value → Shared → Prop} (I : Inv X pins σ H s) (hg : Gl X x) (hm : X.mg x = none) (hv : bootBuiltins x = some u) (h : Q u s)
    (hn : x ≠ "__name__" := by decide) (hd : (x == ("__debug__" : Str)) = false := by decide) : wpAny (model X.prog X.w) X.A (eval (.Name x pos) X.env) Q E s := by
  obtain ⟨mb, h1, h2⟩ := I.mod.blt
  exact Calls.Name_function_global I.ok.kind hg (Calls.loadGlobal_builtin (by rw [I.ok.glob]; exact I.mod.glob.keeps I.bk) hm (by rw [I.ok.blt]; exact h1.keeps I.bk) ((h2 x hn).trans hv) h) hd
theorem pe_bltn {x : Str} {v : V} {u : Value} {pos : Pos} (hg : Gl X x) (hm : X.mg x = none) (hv : bootBuiltins x = some u) (r : RelV v u) (hn : x ≠ "__name__" := by decide) (hd : (x == ("__debug__" : Str)) = false := by decide) : PE X (.Name x pos) (tC v) :=
  fun _ _ _ H _ I h => ld_blt I hg hm hv ⟨v, H, I, r, h⟩ hn hd

/-! ### arithmetic -/
variable {a b : Expr} {ta tb : TE} {pos : Pos}
/-! ### comparisons -/
/-- a comparison as a value, as a test -/
def tB (t : TE) : TT := fun σ H Q => t σ H fun x H1 => ∃ c, x = .bl c ∧ Q c H1
/-- an expression whose value is a bool, as a test -/
theorem pt_val {e : Expr} {t : TE} (h : PE X e t) (he : ∀ whole, isTrue e X.env whole = (do let v ← whole; standAt e.pos; holding [v] (truthy v)) := by intro _; rfl) : PT X e (tB t) := by
  intro pins s σ H Q I hw
  refine isTrue_plain (thn (h pins s σ H _ I hw) fun v s1 ⟨x, H1, I1, r1, q1⟩ => ?_) (he _)
  obtain ⟨d, rfl, q⟩ := q1
  cases r1
  exact wpAny_truthy_bool ⟨H1, I1, q⟩

/-! ### and, or, not -/
variable {tA tB' : TT} {rest : List Expr}
def tAnd (t u : TT) : TT := fun σ H Q => t σ H fun c H1 => if c = true then u σ H1 Q else Q false H1
def tOr (t u : TT) : TT := fun σ H Q => t σ H fun c H1 => if c = true then Q true H1 else u σ H1 Q
def tNot (t : TT) : TT := fun σ H Q => t σ H fun c H1 => Q (!c) H1
theorem pw_and1 (ha : PT X a tA) : PW X (.BoolOp .And [a] pos) tA := by
  intro wh pins s σ H Q I h
  refine isTrue_and (thn (ha pins s σ H Q I h) fun c s1 e => ?_)
  cases c with
  | true => exact isTrue_and_nil e
  | false => exact e
theorem pw_or1 (ha : PT X a tA) : PW X (.BoolOp .Or [a] pos) tA := by
  intro wh pins s σ H Q I h
  refine isTrue_or (thn (ha pins s σ H Q I h) fun c s1 e => ?_)
  cases c with
  | false => exact isTrue_or_nil e
  | true => exact e
theorem pw_and (ha : PT X a tA) (hb : PW X (.BoolOp .And (b :: rest) pos) tB') : PW X (.BoolOp .And (a :: b :: rest) pos) (tAnd tA tB') := by
  intro wh pins s σ H Q I h
  refine isTrue_and (thn (ha pins s σ H _ I h) fun c s1 ⟨H1, I1, q1⟩ => ?_)
  cases c with
  | true => exact hb wh pins s1 σ H1 Q I1 q1
  | false => exact ⟨H1, I1, q1⟩
theorem pw_or (ha : PT X a tA) (hb : PW X (.BoolOp .Or (b :: rest) pos) tB') : PW X (.BoolOp .Or (a :: b :: rest) pos) (tOr tA tB') := by
  intro wh pins s σ H Q I h
  refine isTrue_or (thn (ha pins s σ H _ I h) fun c s1 ⟨H1, I1, q1⟩ => ?_)
  cases c with
  | true => exact ⟨H1, I1, q1⟩
  | false => exact hb wh pins s1 σ H1 Q I1 q1
theorem pt_not (ha : PT X a tA) : PT X (.UnaryOp .Not a pos) (tNot tA) := by
  intro pins s σ H Q I h
  exact isTrue_not (ha pins s σ H (fun c H1 => Q (!c) H1) I h)
/-- .. as values (bools) -/
def tAndV (ta tb : TE) : TE := fun σ H Q => ta σ H fun x H1 => ∃ c, x = .bl c ∧ if c = true then tb σ H1 Q else Q (.bl false) H1
def tNotV (ta : TE) : TE := fun σ H Q => ta σ H fun x H1 => ∃ c, x = .bl c ∧ Q (.bl (!c)) H1
theorem pe_one {op} {t : TE} (h : PE X a t) : PE X (.BoolOp op [a] pos) t := fun pins s σ H Q I hw => BoolOp_one (h pins s σ H Q I hw)
theorem pe_and (ha : PE X a ta) (hb : PE X (.BoolOp .And (b :: rest) pos) tb) : PE X (.BoolOp .And (a :: b :: rest) pos) (tAndV ta tb) := by
  intro pins s σ H Q I h
  refine BoolOp_and (thn (ha pins s σ H _ I h) fun v s1 ⟨x, H1, I1, r1, q1⟩ => ?_)
  obtain ⟨c, rfl, q1⟩ := q1
  cases r1
  refine wpAny_truthy_bool ?_
  cases c with
  | true => exact hb pins s1 σ H1 Q I1 q1
  | false => exact ⟨.bl false, H1, I1, rfl, q1⟩
theorem pe_not (ha : PE X a ta) : PE X (.UnaryOp .Not a pos) (tNotV ta) := by
  intro pins s σ H Q I h
  refine UnaryOp_ (thn (ha pins s σ H _ I h) fun v s1 ⟨x, H1, I1, r1, q1⟩ => ?_)
  obtain ⟨c, rfl, q1⟩ := q1
  cases r1
  exact not_of (wpAny_truthy_bool ⟨.bl (!c), H1, I1, rfl, q1⟩)
end
end L2

namespace L2
open PySem PySem.Spec PyProof.Rows

/-! ### a list, a tuple that is read: tracked, frozen, or an object of the module -/
def SqL (K : PySem.W.Frag) (H : Hp) (a : Addr) (xs : List V) : Prop :=
  Rd H a (.lst xs) ∨
    ∃ (o : Obj) (its : Array Value) (n : Nat), K.lookup a = some o ∧ o.cls = .type "list" ∧ o.dict = none ∧ o.data = .seq its n ∧ its.size ≤ sizeLine ∧ Vals xs its.toList
def SqT (K : PySem.W.Frag) (H : Hp) (a : Addr) (xs : List V) : Prop :=
  Rd H a (.tup xs) ∨
    ∃ (o : Obj) (its : Array Value) (n : Nat), K.lookup a = some o ∧ o.cls = .type "tuple" ∧ o.data = .seq its n ∧ its.size ≤ sizeLine ∧ Vals xs its.toList
def absV : Value → Option V
  | .none => some .non
  | .bool b => some (.bl b)
  | .int i _ => some (.int i)
  | .str x _ => some (.str x)
  | .bytes b _ => some (.byt b)
  | .float b _ => some (.flt b)
  | .ref a => some (.ref a)
  | .type n => some (.ty n)
  | _ => none
theorem RelV.abs {x : V} {u : Value} (r : RelV x u) : absV u = some x := by
  cases x with
  | non => cases r; rfl
  | bl _ => cases r; rfl
  | int _ => obtain ⟨t, rfl⟩ := r; rfl
  | str _ => obtain ⟨t, rfl⟩ := r; rfl
  | byt _ => obtain ⟨t, rfl⟩ := r; rfl
  | flt _ => obtain ⟨t, rfl⟩ := r; rfl
  | ref _ => cases r; rfl
  | ty _ => cases r; rfl
theorem RelV.inj {x y : V} {u : Value} (r : RelV x u) (q : RelV y u) : x = y := Option.some.inj (r.abs.symm.trans q.abs)
theorem Vals.inj : ∀ {xs ys : List V} {us : List Value}, Vals xs us → Vals ys us → xs = ys
  | _, _, _, .nil, .nil => rfl
  | _, _, _, .cons r t, .cons r' t' => by rw [r.inj r', Vals.inj t t']
section
variable {X : Cx} {pins : List (Addr × Obj)} {σ : St} {H : Hp} {s : Shared} {a : Addr} {xs ys : List V}
theorem SqL.of {K : PySem.W.Frag} (h : H a = some (.lst xs)) : SqL K H a xs := .inl (.inl h)
theorem SqT.of {K : PySem.W.Frag} (h : H a = some (.tup xs)) : SqT K H a xs := .inl (.inl h)
theorem Inv.list (I : Inv X pins σ H s) (h : SqL X.K H a xs) : ∃ its : List Value, Vals xs its ∧ PlainL s.heap a its.toArray ∧ xs.length ≤ sizeLine := by
  rcases h with h | ⟨o, its, n, hk, hc, hd, hs, hz, r⟩
  · obtain ⟨z, its, n, r, e⟩ := h.ok I.hok
    exact ⟨its, r, ⟨_, n, e, rfl, rfl, rfl⟩, z⟩
  · refine ⟨its.toList, r, ⟨o, n, I.kIn a o hk, hc, hd, by simpa using hs⟩, ?_⟩
    have e := r.length
    simp only [Array.length_toList] at e
    omega
theorem Inv.tuple (I : Inv X pins σ H s) (h : SqT X.K H a xs) : ∃ its : List Value, Vals xs its ∧ IsTup s.heap a its.toArray ∧ xs.length ≤ sizeLine := by
  rcases h with h | ⟨o, its, n, hk, hc, hs, hz, r⟩
  · obtain ⟨z, its, r, p⟩ := h.ok I.hok
    exact ⟨its, r, p, z⟩
  · refine ⟨its.toList, r, ⟨o, I.kIn a o hk, hc, n, by simpa using hs⟩, ?_⟩
    have e := r.length
    simp only [Array.length_toList] at e
    omega
theorem Inv.list_inj (I : Inv X pins σ H s) (h : SqL X.K H a xs) (h' : SqL X.K H a ys) : xs = ys := by
  obtain ⟨its, r, ⟨o, n, e, _, _, d⟩, _⟩ := I.list h
  obtain ⟨its', r', ⟨o', n', e', _, _, d'⟩, _⟩ := I.list h'
  rw [e] at e'; cases e'
  rw [d] at d'
  injection d' with d1 _
  have : its = its' := by simpa using congrArg Array.toList d1
  subst this
  exact r.inj r'
theorem Inv.tuple_inj (I : Inv X pins σ H s) (h : SqT X.K H a xs) (h' : SqT X.K H a ys) : xs = ys := by
  obtain ⟨its, r, ⟨o, e, _, n, d⟩, _⟩ := I.tuple h
  obtain ⟨its', r', ⟨o', e', _, n', d'⟩, _⟩ := I.tuple h'
  rw [e] at e'; cases e'
  rw [d] at d'
  injection d' with d1 _
  have : its = its' := by simpa using congrArg Array.toList d1
  subst this
  exact r.inj r'
end

/-! ### another wish about exceptions -/
abbrev Cx.wish (X : Cx) (E : Value → Shared → Prop) : Cx := { X with xe := E }
/-- no exception leaves -/
abbrev Cx.nox (X : Cx) : Cx := X.wish fun _ _ => False
theorem Cx.Ok.wish {X : Cx} (ok : X.Ok) (E : Value → Shared → Prop) : (X.wish E).Ok :=
  ⟨ok.mod, ok.kind, ok.glob, ok.blt, ok.above, ok.inj, ok.has, ok.cab, ok.hd, ok.frames, ok.stk, ok.exf, ok.bs, ok.bsz, ok.noex, ok.exfs, ok.funs, ok.frf⟩
theorem Cx.Ok.unwish {X : Cx} {E : Value → Shared → Prop} (ok : (X.wish E).Ok) : X.Ok :=
  ⟨ok.mod, ok.kind, ok.glob, ok.blt, ok.above, ok.inj, ok.has, ok.cab, ok.hd, ok.frames, ok.stk, ok.exf, ok.bs, ok.bsz, ok.noex, ok.exfs, ok.funs, ok.frf⟩
section
variable {X : Cx} {pins : List (Addr × Obj)} {σ : St} {H : Hp} {s : Shared} {E : Value → Shared → Prop}
theorem Inv.wish (I : Inv X pins σ H s) (E : Value → Shared → Prop) : Inv (X.wish E) pins σ H s := ⟨I.ok.wish E, I.os, I.bare, I.base, I.loc, I.cell, I.free, I.freeC, I.pin, I.hok, I.len⟩
theorem Inv.unwish (I : Inv (X.wish E) pins σ H s) : Inv X pins σ H s := ⟨I.ok.unwish, I.os, I.bare, I.base, I.loc, I.cell, I.free, I.freeC, I.pin, I.hok, I.len⟩
theorem SP.unwish {D : Ends} {f : Flow} {s' : Shared} (h : SP (X.wish E) pins D f s') : SP X pins D f s' := by
  cases f with
  | next => obtain ⟨σ', H', I, q⟩ := h; exact ⟨σ', H', I.unwish, q⟩
  | brk => obtain ⟨σ', H', I, q⟩ := h; exact ⟨σ', H', I.unwish, q⟩
  | cont => obtain ⟨σ', H', I, q⟩ := h; exact ⟨σ', H', I.unwish, q⟩
  | ret u => obtain ⟨v, σ', H', I, r, q⟩ := h; exact ⟨v, σ', H', I.unwish, r, q⟩
theorem PSs.nox {st : List Stmt} {t : TS} (h : PSs X.nox st t) : PSs X st t := fun pins s σ H D I hw =>
  wpAny_mono (h pins s σ H D (I.wish _) hw) (fun _ _ q => q.unwish) fun _ _ z => False.elim z
end

/-! ### blocks and small statements -/
section
variable {X : Cx} {st : Stmt} {rest : List Stmt} {t u : TS} {e : Expr} {te : TE} {pos : Pos}
def tNext : TS := fun D σ H => D.nx σ H
def tSeq (t u : TS) : TS := fun D σ H => t { D with nx := u D } σ H
theorem pss_nil : PSs X [] tNext := fun _ _ σ H _ I h => wpAny_execs_nil ⟨σ, H, I, h⟩
theorem pss_cons (h1 : PS X st t) (h2 : PSs X rest u) : PSs X (st :: rest) (tSeq t u) := by
  intro pins s σ H D I h
  refine wpAny_execs_cons (thn (h1 pins s σ H { D with nx := u D } I h) fun f s1 q => ?_)
  cases f with
  | next =>
    obtain ⟨σ', H', I', q⟩ := q
    exact h2 pins s1 σ' H' D I' q
  | ret v => exact q
  | brk => exact q
  | cont => exact q
theorem pss_one (h1 : PS X st t) : PSs X [st] t := by
  intro pins s σ H D I h
  refine wpAny_execs_cons (thn (h1 pins s σ H D I h) fun f s1 q => ?_)
  cases f with
  | next => exact wpAny_execs_nil q
  | ret v => exact q
  | brk => exact q
  | cont => exact q
/-- in a def's body nothing is shown -/
theorem Inv.quiet {pins : List (Addr × Obj)} {σ : St} {H : Hp} {s : Shared} (I : Inv X pins σ H s) : interactive X.env = false := by simp [interactive, I.ok.kind]
/-- an expression whose value is dropped -/
def tDrop (te : TE) : TS := fun D σ H => te σ H fun _ H1 => D.nx σ H1
theorem ps_expr (he : PE X e te) (hs : swapsWith e none pos.line X.env = pure false := by rfl) : PS X (.Expr e pos) (tDrop te) := by
  intro pins s σ H D I h
  exact wpAny_Expr_any (thn (he pins s σ H _ I h) fun v s1 ⟨x, H1, I1, r1, q1⟩ => ⟨σ, H1, I1, q1⟩) I.quiet hs
def tRet (te : TE) : TS := fun D σ H => te σ H D.rt
theorem ps_ret (he : PE X e te) : PS X (.Return (some e) pos) (tRet te) := by
  intro pins s σ H D I h
  exact wpAny_Return_some (thn (he pins s σ H _ I h) fun v s1 ⟨x, H1, I1, r1, q1⟩ => ⟨x, σ, H1, I1, r1, q1⟩)
def tIfS (c : TT) (t u : TS) : TS := fun D σ H => c σ H fun b H1 => if b = true then t D σ H1 else u D σ H1
theorem ps_if {c : Expr} {a b : List Stmt} {tc : TT} (hc : PT X c tc) (ha : PSs X a t) (hb : PSs X b u) : PS X (.If c a b pos) (tIfS tc t u) := by
  intro pins s σ H D I h
  refine wpAny_If (thn (hc pins s σ H _ I h) fun d s1 ⟨H1, I1, q1⟩ => ?_)
  cases d with
  | true => exact ha pins s1 σ H1 D I1 q1
  | false => exact hb pins s1 σ H1 D I1 q1
end

/-! ### targets -/
abbrev TG := V → St → Hp → (St → Hp → Prop) → Prop
abbrev TGs := List V → St → Hp → (St → Hp → Prop) → Prop
def PG (X : Cx) (target : Expr) (t : TG) : Prop :=
  ∀ (pins : List (Addr × Obj)) (s : Shared) (σ : St) (H : Hp) (v : V) (u : Value) (Q : St → Hp → Prop), Inv X pins σ H s → RelV v u → t v σ H Q →
    wpAny (model X.prog X.w) X.A (assign target X.env u) (fun _ s' => ∃ σ' H', Inv X pins σ' H' s' ∧ Q σ' H') X.xe s
/-- several targets, one after another -/
def PGs (X : Cx) (ts : List Expr) (t : TGs) : Prop :=
  ∀ (pins : List (Addr × Obj)) (s : Shared) (σ : St) (H : Hp) (vs : List V) (us : List Value) (Q : St → Hp → Prop), Inv X pins σ H s → Vals vs us → t vs σ H Q →
    wpAny (model X.prog X.w) X.A (assignInOrder ((assignEach ts X.env).map (·.2)) us) (fun _ s' => ∃ σ' H', Inv X pins σ' H' s' ∧ Q σ' H') X.xe s
/-- o[i] = v, by values -/
abbrev TSet := V → V → V → Hp → (Hp → Prop) → Prop
def PSet (X : Cx) (t : TSet) : Prop :=
  ∀ (pins : List (Addr × Obj)) (s : Shared) (σ : St) (H : Hp) (o i v : V) (ov iv u : Value) (Q : Hp → Prop), Inv X pins σ H s → RelV o ov → RelV i iv → RelV v u → t o i v H Q →
    wpAny (model X.prog X.w) X.A (setItem ov iv u) (fun _ s' => ∃ H', Inv X pins σ H' s' ∧ Q H') X.xe s
section
variable {X : Cx} {pos : Pos}
def gName (i : Nat) : TG := fun v σ H Q => Q (σ.set i (some v)) H
theorem pg_name {i : Nat} {x : Str} (hN : X.N.Nodup) (hi : X.N[i]? = some x) (hx : Loc X.env.scope x) (hf : X.fn x = true ∨ X.env.scope.names.lookup x = some .local := by first | exact .inl rfl | exact .inr rfl | assumption) : PG X (.Name x pos) (gName i) := by
  intro pins s σ H v u Q I r h
  exact wpAny_assign_Name (store_ok I hN hi hx r (fun s' I' => ⟨_, H, I', h⟩) hf)
def gNil : TGs := fun vs σ H Q => vs = [] ∧ Q σ H
def gCons (t : TG) (u : TGs) : TGs := fun vs σ H Q => ∃ v r, vs = v :: r ∧ t v σ H fun σ' H' => u r σ' H' Q
theorem pgs_nil : PGs X [] gNil := by
  intro pins s σ H vs us Q I r h
  obtain ⟨e, h⟩ := h
  subst e
  cases r
  exact assignInOrder_nil ⟨σ, H, I, h⟩
theorem pgs_cons {e : Expr} {es : List Expr} {t : TG} {u : TGs} (h1 : PG X e t) (h2 : PGs X es u)
    (hs : (assignEach (e :: es) X.env).map (·.2) = assign e X.env :: (assignEach es X.env).map (·.2) := by rfl) : PGs X (e :: es) (gCons t u) := by
  intro pins s σ H vs us Q I r h
  obtain ⟨v, vr, e1, h⟩ := h
  subst e1
  cases r with
  | cons r rr =>
    rw [hs]
    refine assignInOrder_cons (thn (h1 pins s σ H _ _ _ I r h) fun _ s1 ⟨σ1, H1, I1, q1⟩ => ?_)
    exact h2 pins s1 σ1 H1 _ _ Q I1 rr q1
/-- (a, b, ..) = a tuple of that length -/
def gTup (K : PySem.W.Frag) (n : Nat) (t : TGs) : TG := fun v σ H Q => ∃ a xs, v = .ref a ∧ SqT K H a xs ∧ xs.length = n ∧ t xs σ H Q
theorem pg_tup {es : List Expr} {k : Nat} {t : TGs} {n : Nat} (hc : X.calm = true) (h : PGs X es t)
    (hn : (assignEach es X.env).length = n := by rfl) (hst : (assignEach es X.env).findIdx? (·.1) = none := by rfl) : PG X (.Tuple es k pos) (gTup X.K n t) := by
  intro pins s σ H v u Q I r hw
  obtain ⟨a, xs, e1, hq, hl, hw⟩ := hw
  subst e1
  cases r
  obtain ⟨its, rv, ht, hz⟩ := I.tuple hq
  refine assign_Tuple_tuple (I.ok.hd hc) ht (by simp [hn, ← hl, rv.length]) hst fun h' hx => ?_
  have I1 : Inv X pins σ H { s with heap := h' } := I.kept (t' := s.toks) fun b o e => hx b o (Nat.ne_of_lt (Heap.lt_size e)) e
  exact h pins _ σ H xs _ Q I1 (by simpa using rv) hw
/-- o[i] = .. -/
def gSub (to ti : TE) (t : TSet) : TG := fun v σ H Q => to σ H fun o H1 => ti σ H1 fun i H2 => t o i v H2 fun H3 => Q σ H3
theorem pg_sub {o i : Expr} {to ti : TE} {t : TSet} (ho : PE X o to) (hi : PE X i ti) (hs : PSet X t)
    (ha : ∀ v, assign (.Subscript o i pos) X.env v = (do
      let ov ← holding [v] (eval o X.env)
      let iv ← holding [v, ov] (eval i X.env)
      standAt pos
      holding [v, ov, iv] (setItem ov iv v)
      release [v, ov, iv] []) := by intro _; rfl) : PG X (.Subscript o i pos) (gSub to ti t) := by
  intro pins s σ H v u Q I r h
  rw [ha]
  refine wpAny_bind (wpAny_holding (thn (ho pins s σ H _ I h) fun ov s1 ⟨x, H1, I1, r1, q1⟩ => ?_))
  refine wpAny_bind (wpAny_holding (thn (hi pins s1 σ H1 _ I1 q1) fun iv s2 ⟨y, H2, I2, r2, q2⟩ => ?_))
  refine wpAny_bind (wpAny_standAt (wpAny_bind (wpAny_holding (thn (hs pins s2 σ H2 x y v ov iv u _ I2 r1 r2 r q2) fun _ s3 ⟨H3, I3, q3⟩ => ?_))))
  exact wpAny_release ⟨σ, H3, I3, q3⟩
/-- target = value -/
def tAsg (te : TE) (g : TG) : TS := fun D σ H => te σ H fun x H1 => g x σ H1 D.nx
theorem ps_asg {tg e : Expr} {te : TE} {g : TG} (he : PE X e te) (hg : PG X tg g) (hs : swapsWithSole [tg] e pos.line X.env = pure false := by rfl) (hw : swappedStores [tg] e X.env = pure none := by rfl)
    (h1 : (assignEach [tg] X.env).map (·.2) = [assign tg X.env] := by rfl) : PS X (.Assign [tg] e pos) (tAsg te g) := by
  intro pins s σ H D I h
  refine wpAny_Assign_stores (thn (he pins s σ H _ I h) fun v s1 ⟨x, H1, I1, r1, q1⟩ => ?_) hs hw
  rw [h1]
  exact thn (hg pins s1 σ H1 x v _ I1 r1 q1) fun _ s2 q => q
/-- name = value -/
theorem ps_set {i : Nat} {x : Str} {e : Expr} {te : TE} {pos' : Pos} (hN : X.N.Nodup) (hi : X.N[i]? = some x) (hx : Loc X.env.scope x) (he : PE X e te) (hs : swapsWith e (some (.Name x pos')) pos.line X.env = pure false := by rfl) (hf : X.fn x = true ∨ X.env.scope.names.lookup x = some .local := by first | exact .inl rfl | exact .inr rfl | assumption) :
    PS X (.Assign [.Name x pos'] e pos) (tAsg te (gName i)) := by
  intro pins s σ H D I h
  refine wpAny_Assign_Name (thn (he pins s σ H _ I h) fun v s1 ⟨y, H1, I1, r1, q1⟩ => ?_) hs
  exact store_ok I1 hN hi hx r1 (fun s2 I2 => ⟨_, H1, I2, q1⟩) hf
end

/-! ### while -/
section
variable {X : Cx} {pos : Pos}
end

/-! ### what a loop or a comprehension walks -/
/-- at turn i: it yields x (the heap may grow), or it stops -/
structure It where
  go : Nat → Hp → Prop
  yld : Nat → Hp → V → Hp → Prop
  stop : Nat → Hp → Prop
/-- the iterator's own objects may turn: they are not the frame's, not pinned, younger than the entry (or a comprehension's own) -/
def FpOk (X : Cx) (pins : List (Addr × Obj)) (H : Hp) (b : Addr) : Prop :=
  H b = none ∧ b ≠ X.env.locals ∧ b ∉ X.fs ∧ (b ∈ X.ex ∨ X.s₀.heap.objs.size ≤ b) ∧ (∀ x c, X.env.cells.lookup x = some c → c ≠ b) ∧ ∀ p ∈ X.pn ++ pins, p.1 ≠ b
theorem Inv.fpOk {X : Cx} {pins : List (Addr × Obj)} {σ : St} {H H' : Hp} {s : Shared} {b : Addr} (I : Inv X pins σ H s) (hb : s.heap.objs.size ≤ b) (hn : H' b = none) : FpOk X pins H' b := by
  refine ⟨hn, Nat.ne_of_gt (Nat.lt_of_lt_of_le I.lt hb), I.nofs hb, .inr (Nat.le_trans I.sz hb), fun x c e z => ?_, fun p hp z => ?_⟩
  · obtain ⟨v, q⟩ := I.cell x c e
    exact absurd (Nat.lt_of_lt_of_le q.lt (by rw [z]; exact hb)) (Nat.lt_irrefl _)
  · exact absurd (Nat.lt_of_lt_of_le (Heap.lt_size (I.pin p hp).1) (by rw [z]; exact hb)) (Nat.lt_irrefl _)
structure Turn (P : Program) (w : World) (K : PySem.W.Frag) (tg : Expr) (J : It) (fp : List Addr) (it : Addr) (tn : Nat → Heap → Prop) : Prop where
  mem : it ∈ fp
  obj : ∀ i h, tn i h → ∀ b ∈ fp, ∃ o, h.get? b = some o ∧ ∀ v, o.data ≠ .cell v
  keep : ∀ i h h', tn i h → (∀ b ∈ fp, ∀ o, h.get? b = some o → h'.get? b = some o) → tn i h'
  item : ∀ (X : Cx), X.prog = P → X.w = w → X.K = K → X.calm = true → ∀ (i : Nat) (pins : List (Addr × Obj)) (s : Shared) (σ : St) (H : Hp) (E : Value → Shared → Prop), Inv X pins σ H s → (∀ b ∈ fp, FpOk X pins H b) → tn i s.heap → J.go i H →
    wpAny (model P w) X.A (pyNext (.ref it)) (fun r s1 => ∃ u, r = some u ∧
      wpAny (model P w) X.A (letOwnedTupleGo tg (.ref it) u) (fun _ s2 => ∃ x H', Inv X pins σ H' s2 ∧ RelV x u ∧ J.yld i H x H' ∧ tn (i + 1) s2.heap ∧ ∀ b ∈ fp, H' b = none) E s1) E s
  done : ∀ (X : Cx), X.prog = P → X.w = w → X.K = K → X.calm = true → ∀ (i : Nat) (pins : List (Addr × Obj)) (s : Shared) (σ : St) (H : Hp) (E : Value → Shared → Prop), Inv X pins σ H s → (∀ b ∈ fp, FpOk X pins H b) → tn i s.heap → J.stop i H →
    wpAny (model P w) X.A (pyNext (.ref it)) (fun r s1 => r = none ∧ Inv X pins σ H s1) E s
  self : ∀ (A : Around) (i : Nat) (s : Shared) (Q : Value → Shared → Prop) (E : Value → Shared → Prop), tn i s.heap → Q (.ref it) s → wpAny (model P w) A (pyIter (.ref it)) Q E s
abbrev TI := St → Hp → (It → Hp → Prop) → Prop
/-- an iterator has come -/
def PIE (X : Cx) (pins : List (Addr × Obj)) (σ : St) (tg : Expr) (R : It → Hp → Prop) (itv : Value) (s2 : Shared) : Prop :=
  ∃ (it : Addr) (fp : List Addr) (tn : Nat → Heap → Prop) (J : It) (H' : Hp), itv = .ref it ∧ Inv X pins σ H' s2 ∧ Turn X.prog X.w X.K tg J fp it tn ∧ tn 0 s2.heap ∧ (∀ b ∈ fp, FpOk X pins H' b) ∧ R J H'
def PI (X : Cx) (tg iter : Expr) (wi : TI) : Prop :=
  ∀ (pins : List (Addr × Obj)) (s : Shared) (σ : St) (H : Hp) (R : It → Hp → Prop), Inv X pins σ H s → wi σ H R →
    wpAny (model X.prog X.w) X.A (eval iter X.env) (fun v s1 => wpAny (model X.prog X.w) X.A (pyIter v) (PIE X pins σ tg R) X.xe s1) X.xe s

/-- the step ahead of the store is nothing for an iterator that keeps no tuple -/
theorem go_of {M : Model} {A : Around} {E : Value → Shared → Prop} {s : Shared} {tg : Expr} {it : Addr} {u : Value} {o : Obj} {n : String} {vs : Array Value} {Q : Unit → Shared → Prop} (ho : s.heap.get? it = some o) (hc : o.cls = .type n) (hd : o.data = .fields vs)
    (hn : ["enumerate", "zip", "dict_itemiterator", "dict_reverseitemiterator", "odict_iterator", "itertools.zip_longest", "itertools.pairwise"].contains n = false) (hQ : Q () s) : wpAny M A (letOwnedTupleGo tg (.ref it) u) Q E s := by
  unfold letOwnedTupleGo
  cases tg <;> first
    | exact wpAny_pure hQ
    | (cases u <;> first
        | exact wpAny_pure hQ
        | (refine wpAny_bind (wpAny_load ho ?_)
           rw [hc, hd]
           show wpAny M A (if (["enumerate", "zip", "dict_itemiterator", "dict_reverseitemiterator", "odict_iterator", "itertools.zip_longest", "itertools.pairwise"].contains n && vs[0]? == some (rawInt _)) = true then _ else _) Q E s
           rw [if_neg (by intro h; rw [hn, Bool.false_and] at h; cases h)]
           exact wpAny_pure hQ))

/-- the list at a, as it stands at each turn (a loop may append to it) -/
def Itl (K : PySem.W.Frag) (a : Addr) : It :=
  ⟨fun i H => ∃ xs x, SqL K H a xs ∧ xs[i]? = some x, fun i H x H' => H' = H ∧ ∀ xs, SqL K H a xs → xs[i]? = some x, fun i H => ∃ xs, SqL K H a xs ∧ xs.length ≤ i⟩
def Itt (K : PySem.W.Frag) (a : Addr) : It :=
  ⟨fun i H => ∃ xs x, SqT K H a xs ∧ xs[i]? = some x, fun i H x H' => H' = H ∧ ∀ xs, SqT K H a xs → xs[i]? = some x, fun i H => ∃ xs, SqT K H a xs ∧ xs.length ≤ i⟩
/-- lo, lo + 1, .. (n of them) -/
def Itr (lo : Int) (n : Nat) : It := ⟨fun i _ => i < n, fun i H x H' => H' = H ∧ x = .int (lo + i), fun i _ => n ≤ i⟩
theorem turn_list {P : Program} {w : World} {K : PySem.W.Frag} {tg : Expr} (a it : Addr) : Turn P w K tg (Itl K a) [it] it (fun i h => h.IsListIter it a i) where
  mem := by simp
  obj := fun i h st b hb => by
    have e : b = it := by simpa using hb
    subst e
    obtain ⟨o, e, c, d⟩ := st
    exact ⟨o, e, fun v z => by rw [d] at z; cases z⟩
  keep := fun i h h' st k => st.at fun o e => k it (by simp) o e
  item := by
    intro X hP hw hK hc i pins s σ H E I hf st hg
    subst hP hw hK
    obtain ⟨xs, x, hq, hx⟩ := hg
    obtain ⟨its, rv, p, hz⟩ := I.list hq
    obtain ⟨u, hu, ru⟩ := rv.get hx
    obtain ⟨f0, f1, f2, f3, f4, f5⟩ := hf it (by simp)
    refine wpAny_pyNext_list_item st p.isList (x := u) (by simpa using hu) fun h' st' sb => ?_
    have I1 : Inv X pins σ H { s with heap := h' } := I.turned (t' := s.toks) (fun b o hb e => (sb.2 b hb).trans e) f0 f1 f3 f4 f5
    obtain ⟨o, e, c, d⟩ := id st'
    exact ⟨u, rfl, go_of (s := { s with heap := h' }) e c d (by decide) ⟨x, H, I1, ru, ⟨rfl, fun ys hy => by rw [I.list_inj hy hq]; exact hx⟩, st', fun b hb => (hf b hb).1⟩⟩
  done := by
    intro X hP hw hK hc i pins s σ H E I hf st hg
    subst hP hw hK
    obtain ⟨xs, hq, hx⟩ := hg
    obtain ⟨its, rv, p, hz⟩ := I.list hq
    obtain ⟨f0, f1, f2, f3, f4, f5⟩ := hf it (by simp)
    have hl := rv.length
    exact wpAny_pyNext_list_end (I.ok.hd hc) st p.isList (by simp; omega) fun h' eb => ⟨rfl, I.turned (t' := s.toks) (fun b o hb e => eb b o hb e) f0 f1 f3 f4 f5⟩
  self := fun _ _ _ _ _ st h => wpAny_pyIter_listiter st h
theorem turn_tuple {P : Program} {w : World} {K : PySem.W.Frag} {tg : Expr} (a it : Addr) : Turn P w K tg (Itt K a) [it] it (fun i h => h.IsTupleIter it a i) where
  mem := by simp
  obj := fun i h st b hb => by
    have e : b = it := by simpa using hb
    subst e
    obtain ⟨o, e, c, d⟩ := st
    exact ⟨o, e, fun v z => by rw [d] at z; cases z⟩
  keep := fun i h h' st k => st.at fun o e => k it (by simp) o e
  item := by
    intro X hP hw hK hc i pins s σ H E I hf st hg
    subst hP hw hK
    obtain ⟨xs, x, hq, hx⟩ := hg
    obtain ⟨its, rv, p, hz⟩ := I.tuple hq
    obtain ⟨u, hu, ru⟩ := rv.get hx
    obtain ⟨f0, f1, f2, f3, f4, f5⟩ := hf it (by simp)
    refine wpAny_pyNext_tuple_item st (show s.heap.IsTuple a its.toArray from p) (x := u) (by simpa using hu) fun h' st' sb => ?_
    have I1 : Inv X pins σ H { s with heap := h' } := I.turned (t' := s.toks) (fun b o hb e => (sb.2 b hb).trans e) f0 f1 f3 f4 f5
    obtain ⟨o, e, c, d⟩ := id st'
    exact ⟨u, rfl, go_of (s := { s with heap := h' }) e c d (by decide) ⟨x, H, I1, ru, ⟨rfl, fun ys hy => by rw [I.tuple_inj hy hq]; exact hx⟩, st', fun b hb => (hf b hb).1⟩⟩
  done := by
    intro X hP hw hK hc i pins s σ H E I hf st hg
    subst hP hw hK
    obtain ⟨xs, hq, hx⟩ := hg
    obtain ⟨its, rv, p, hz⟩ := I.tuple hq
    obtain ⟨f0, f1, f2, f3, f4, f5⟩ := hf it (by simp)
    have hl := rv.length
    exact wpAny_pyNext_tuple_end (I.ok.hd hc) st (show s.heap.IsTuple a its.toArray from p) (by simp; omega) fun h' eb => ⟨rfl, I.turned (t' := s.toks) (fun b o hb e => eb b o hb e) f0 f1 f3 f4 f5⟩
  self := fun _ _ _ _ _ st h => wpAny_pyIter_tupleiter st h
theorem turn_range {P : Program} {w : World} {K : PySem.W.Frag} {tg : Expr} (it : Addr) (lo : Int) (n : Nat) : Turn P w K tg (Itr lo n) [it] it (fun i h => IsRangeIter h it (lo + (i : Nat) * 1) ((n : Int) - (i : Nat)) 1) where
  mem := by simp
  obj := fun i h st b hb => by
    have e : b = it := by simpa using hb
    subst e
    exact ⟨_, st, fun v z => by
      have z' : Data.fields _ = Data.cell v := z
      cases z'⟩
  keep := fun i h h' st k => k it (by simp) _ st
  item := by
    intro X hP hw hK hc i pins s σ H E I hf st hg
    subst hP hw hK
    obtain ⟨f0, f1, f2, f3, f4, f5⟩ := hf it (by simp)
    have W := Walks.range (prog := X.prog) (w := X.w) (I.ok.hd hc) it lo 1 n
    refine W.item i s _ _ hg st fun v h' tk hv st' kk => ?_
    obtain ⟨t, rfl⟩ := hv
    have I1 : Inv X pins σ H { s with heap := h', toks := tk } := I.turned (fun b o hb e => kk b o (by simpa using hb) e) f0 f1 f3 f4 f5
    refine ⟨_, rfl, go_of (s := { s with heap := h', toks := tk }) (n := "range_iterator") st' rfl rfl (by decide) ⟨.int (lo + i), H, I1, ⟨t, ?_⟩, ⟨rfl, rfl⟩, st', fun b hb => (hf b hb).1⟩⟩
    rw [Int.mul_one]
  done := by
    intro X hP hw hK hc i pins s σ H E I hf st hg
    subst hP hw hK
    obtain ⟨f0, f1, f2, f3, f4, f5⟩ := hf it (by simp)
    exact wpAny_pyNext_range_end (I.ok.hd hc) st (by have : n ≤ i := hg; omega) fun h' eb => ⟨rfl, I.turned (t' := s.toks) (fun b o hb e => eb b o hb e) f0 f1 f3 f4 f5⟩
  self := fun _ _ _ _ _ st h => wpAny_pyIter_rangeiter st h
end L2

namespace L2
open PySem PySem.Spec PyProof.Rows
section
variable {X : Cx} {tg : Expr}
def iList (K : PySem.W.Frag) (tl : TE) : TI := fun σ H R => tl σ H fun x H1 => ∃ a, x = .ref a ∧ (∃ xs, SqL K H1 a xs) ∧ R (Itl K a) H1
def iTup (K : PySem.W.Frag) (tl : TE) : TI := fun σ H R => tl σ H fun x H1 => ∃ a, x = .ref a ∧ (∃ xs, SqT K H1 a xs) ∧ R (Itt K a) H1
theorem pi_list {l : Expr} {tl : TE} (hl : PE X l tl) : PI X tg l (iList X.K tl) := by
  intro pins s σ H R I h
  refine thn (hl pins s σ H _ I h) fun v s1 ⟨x, H1, I1, r1, q1⟩ => ?_
  obtain ⟨a, e, ⟨xs, hq⟩, q⟩ := q1
  subst e
  cases r1
  obtain ⟨its, rv, p, hz⟩ := I1.list hq
  refine wpAny_pyIter_list p.isList ?_
  refine ⟨s1.heap.objs.size, [s1.heap.objs.size], _, _, H1, rfl, I1.kept (t' := s1.toks) fun b o e => Heap.get?_push_of_some _ e, turn_list a _, ⟨_, Heap.get?_push_size _ rfl, rfl, rfl⟩, fun b hb => ?_, q⟩
  have e : b = s1.heap.objs.size := by simpa using hb
  subst e
  exact I1.fpOk (Nat.le_refl _) (I1.hok.fresh (Nat.le_refl _))
theorem pi_tup {l : Expr} {tl : TE} (hl : PE X l tl) : PI X tg l (iTup X.K tl) := by
  intro pins s σ H R I h
  refine thn (hl pins s σ H _ I h) fun v s1 ⟨x, H1, I1, r1, q1⟩ => ?_
  obtain ⟨a, e, ⟨xs, hq⟩, q⟩ := q1
  subst e
  cases r1
  obtain ⟨its, rv, p, hz⟩ := I1.tuple hq
  refine wpAny_pyIter_tuple (show s1.heap.IsTuple a its.toArray from p) ?_
  refine ⟨s1.heap.objs.size, [s1.heap.objs.size], _, _, H1, rfl, I1.kept (t' := s1.toks) fun b o e => Heap.get?_push_of_some _ e, turn_tuple a _, ⟨_, Heap.get?_push_size _ rfl, rfl, rfl⟩, fun b hb => ?_, q⟩
  have e : b = s1.heap.objs.size := by simpa using hb
  subst e
  exact I1.fpOk (Nat.le_refl _) (I1.hok.fresh (Nat.le_refl _))
/-- a range object just made, walked -/
theorem range_it {pins : List (Addr × Obj)} {σ : St} {H : Hp} {s : Shared} {R : It → Hp → Prop} {E : Value → Shared → Prop} {lo hi : Int} {t u v : Tok} {tk : Nat} (I : Inv X pins σ H s) (h1 : -(2 ^ 62) ≤ lo) (h2 : lo < 2 ^ 62) (h3 : -(2 ^ 62) ≤ hi) (h4 : hi < 2 ^ 62)
    (q : R (Itr lo (hi - lo).toNat) H) : wpAny (model X.prog X.w) X.A (pyIter (.ref s.heap.objs.size)) (PIE X pins σ tg R) E { s with heap := s.heap.push { cls := .type "range", data := .fields #[.int lo t, .int hi u, .int 1 v] }, toks := tk } := by
  refine wpAny_pyIter_range (IsRange.new ..) (small_one h1 h2 h3 h4) ?_
  have I1 : Inv X pins σ H { s with heap := s.heap.push { cls := .type "range", data := .fields #[.int lo t, .int hi u, .int 1 v] }, toks := tk } := I.kept fun b o e => Heap.get?_push_of_some _ e
  refine ⟨(s.heap.push { cls := .type "range", data := .fields #[.int lo t, .int hi u, .int 1 v] }).objs.size, [(s.heap.push { cls := .type "range", data := .fields #[.int lo t, .int hi u, .int 1 v] }).objs.size], _, _, H, rfl,
    I1.kept (t' := tk) fun b o e => Heap.get?_push_of_some _ e, turn_range _ lo (hi - lo).toNat, ?_, fun b hb => ?_, q⟩
  · have e1 : lo + ((0 : Nat) : Int) * 1 = lo := by simp
    have e2 : (((hi - lo).toNat : Nat) : Int) - ((0 : Nat) : Int) = Builtin.Range.rangeSize lo hi 1 := by rw [rangeSize_one]; split <;> omega
    show IsRangeIter _ _ (lo + ((0 : Nat) : Int) * 1) ((((hi - lo).toNat : Nat) : Int) - ((0 : Nat) : Int)) 1
    rw [e1, e2]
    exact Heap.get?_push_size _ rfl
  · have e : b = (s.heap.push { cls := .type "range", data := .fields #[.int lo t, .int hi u, .int 1 v] }).objs.size := by simpa using hb
    subst e
    exact I1.fpOk (Nat.le_refl _) (I1.hok.fresh (Nat.le_refl _))
def iRng1 (ta : TA) : TI := fun σ H R => ta σ H fun vs H1 => ∃ j : Int, vs = [.int j] ∧ -(2 ^ 62) ≤ j ∧ j < 2 ^ 62 ∧ R (Itr 0 j.toNat) H1
theorem pi_range1 {a : Expr} {ta : TA} {p pos : Pos} (hg : Gl X "range") (hm : X.mg "range" = none) (ha : PA X [a] ta) (hs : starEach [a] X.env = [(false, eval a X.env)] := by rfl) : PI X tg (.Call (.Name "range" p) [a] [] pos) (iRng1 ta) := by
  intro pins s σ H R I h
  refine Call_ (ld_blt I hg hm boot_range (PyProof.Rows.callWith_type1 (thn (ha pos pins s σ H _ I h) fun us s1 ⟨vs, H1, I1, r1, q1⟩ => ?_) hs rfl))
  obtain ⟨j, e, q1, q2, q⟩ := q1
  subst e
  cases r1 with
  | cons r rr =>
    cases rr
    obtain ⟨t, rfl⟩ := r
    exact call_range_1 (range_it I1 (by omega) (by omega) q1 q2 (by simpa using q))
/-! ### for -/
/-- W: the invariant by the turn and a measure; N: what the body is to reach -/
def tFor (wi : TI) (g : TG) (tb : TS) : TS := fun D σ H => wi σ H fun J H1 => ∃ W : Nat → Nat → St → Hp → Prop, (∃ m, W 0 m σ H1) ∧ ∀ i m σ H, W i m σ H →
  (J.stop i H ∧ D.nx σ H) ∨ (J.go i H ∧ ∃ N : St → Hp → Prop, (∀ σ' H', N σ' H' → ∃ m', m' < m ∧ W (i + 1) m' σ' H') ∧ ∀ x H', J.yld i H x H' → g x σ H' fun σ2 H2 => tb { D with nx := N, ct := N, bk := D.nx } σ2 H2)
/-- the records at fp as they stand -/
def pinsAt (fp : List Addr) (h : Heap) : List (Addr × Obj) := fp.filterMap fun b => (h.get? b).map fun o => (b, o)
theorem mem_pinsAt {fp : List Addr} {h : Heap} {b : Addr} {o : Obj} (hb : b ∈ fp) (e : h.get? b = some o) : (b, o) ∈ pinsAt fp h := List.mem_filterMap.mpr ⟨b, hb, by rw [e]; rfl⟩
theorem of_pinsAt {fp : List Addr} {h : Heap} {p : Addr × Obj} (hp : p ∈ pinsAt fp h) : p.1 ∈ fp ∧ h.get? p.1 = some p.2 := by
  obtain ⟨b, hb, e⟩ := List.mem_filterMap.mp hp
  cases q : h.get? b with
  | none => rw [q] at e; cases e
  | some o =>
    rw [q] at e
    have e' : (b, o) = p := Option.some.inj e
    subst e'
    exact ⟨hb, q⟩
theorem Inv.pinned {pins : List (Addr × Obj)} {σ : St} {H : Hp} {s : Shared} {fp : List Addr} (I : Inv X pins σ H s) (hf : ∀ b ∈ fp, FpOk X pins H b) (ho : ∀ b ∈ fp, ∃ o, s.heap.get? b = some o ∧ ∀ v, o.data ≠ .cell v) : Inv X (pins ++ pinsAt fp s.heap) σ H s :=
  I.pins_of fun p hp => (List.mem_append.mp hp).elim (fun z => I.pin p (List.mem_append_right _ z)) fun z => by
    obtain ⟨hb, e⟩ := of_pinsAt z
    obtain ⟨f0, f1, f2, _⟩ := hf p.1 hb
    obtain ⟨o, e', d⟩ := ho p.1 hb
    rw [e] at e'; cases e'
    exact ⟨e, f0, f1, f2, d⟩
theorem Inv.unpinned {pins pl : List (Addr × Obj)} {σ : St} {H : Hp} {s : Shared} (I : Inv X (pins ++ pl) σ H s) : Inv X pins σ H s := I.pins_of fun p hp => I.pin p (List.mem_append_right _ (List.mem_append_left _ hp))
theorem ps_for {iter : Expr} {body : List Stmt} {wi : TI} {g : TG} {tb : TS} {pos : Pos} (hp : PassesOwn (model X.prog X.w) X.A X.env X.xe) (hc : X.calm = true) (hi : PI X tg iter wi) (hg : PG X tg g) (hb : PSs X body tb)
    (hs : ∀ x, foldedSetIterable iter X.env x = pure x := by intro _; rfl) : PS X (.For tg iter body [] pos) (tFor wi g tb) := by
  intro pins s σ H D I h
  refine wpAny_For (thn (hi pins s σ H _ I h) fun v s1 h1 => thn h1 fun itv s2 h2 => ?_) hs
  obtain ⟨it, fp, tn, J, H2, e, I2, T, st2, f2, W, ⟨m0, w0⟩, turn⟩ := h2
  subst e
  -- what stays true of the iterator's objects through the loop
  have stat : ∀ {H' : Hp}, (∀ b ∈ fp, H' b = none) → ∀ b ∈ fp, FpOk X pins H' b := fun hn b hb => ⟨hn b hb, (f2 b hb).2⟩
  refine codeAny_forLoop_any (fun n s' => ∃ i σ' H', Inv X pins σ' H' s' ∧ tn i s'.heap ∧ (∀ b ∈ fp, H' b = none) ∧ W i n σ' H') ?_ m0 ⟨0, σ, H2, I2, st2, fun b hb => (f2 b hb).1, w0⟩
  rintro n s3 ⟨i, σ3, H3, I3, st3, fr3, w3⟩
  rcases turn i n σ3 H3 w3 with ⟨stop, qn⟩ | ⟨go, N, hN, step⟩
  · refine wpAny_passesOwn hp (thn (T.done X rfl rfl rfl hc i pins s3 σ3 H3 X.xe I3 (stat fr3) st3 stop) fun r s4 ⟨hr, I4⟩ => ?_)
    subst hr
    exact wpAny_execs_nil ⟨σ3, H3, I4, qn⟩
  · refine wpAny_passesOwn hp (thn (T.item X rfl rfl rfl hc i pins s3 σ3 H3 X.xe I3 (stat fr3) st3 go) fun r s4 ⟨u, hr, h4⟩ => ?_)
    subst hr
    refine wpAny_passesOwn hp (thn h4 fun _ s5 ⟨x, H5, I5, r5, y5, st5, fr5⟩ => ?_)
    have I5' := I5.pinned (stat fr5) (T.obj _ _ st5)
    refine wpAny_passesOwn hp (thn (hg _ s5 σ3 H5 x u _ I5' r5 (step x H5 y5)) fun _ s6 ⟨σ6, H6, I6, q6⟩ => ?_)
    refine wpAny_passesOwn hp (thn (hb _ s6 σ6 H6 _ I6 q6) fun f s7 q7 => ?_)
    have again : ∀ {σ7 : St} {H7 : Hp}, Inv X (pins ++ pinsAt fp s5.heap) σ7 H7 s7 → N σ7 H7 → ∃ m, m < n ∧ ∃ i σ' H', Inv X pins σ' H' s7 ∧ tn i s7.heap ∧ (∀ b ∈ fp, H' b = none) ∧ W i m σ' H' := fun {σ7 H7} I7 n7 => by
      obtain ⟨m', hm, w7⟩ := hN σ7 H7 n7
      refine ⟨m', hm, i + 1, σ7, H7, I7.unpinned, T.keep _ _ _ st5 fun b hb o e => (I7.pin (b, o) (List.mem_append_right _ (List.mem_append_right _ (mem_pinsAt hb e)))).1, fun b hb => ?_, w7⟩
      obtain ⟨o, e, d⟩ := T.obj _ _ st5 b hb
      exact (I7.pin (b, o) (List.mem_append_right _ (List.mem_append_right _ (mem_pinsAt hb e)))).2.1
    cases f with
    | next => obtain ⟨σ7, H7, I7, n7⟩ := q7; exact again I7 n7
    | cont => obtain ⟨σ7, H7, I7, n7⟩ := q7; exact again I7 n7
    | brk => obtain ⟨σ7, H7, I7, q7⟩ := q7; exact ⟨σ7, H7, I7.unpinned, q7⟩
    | ret v => obtain ⟨x7, σ7, H7, I7, r7, q7⟩ := q7; exact ⟨x7, σ7, H7, I7.unpinned, r7, q7⟩
end

/-! ### the forms one uses -/
/-- over a list that the body leaves as it is -/
theorem for_list {K : PySem.W.Frag} {a : Addr} {xs : List V} {g : TG} {tb : TS} {D : Ends} {σ : St} {H : Hp} (Pv : Nat → St → Hp → Prop) (h0 : Pv 0 σ H) (hl : ∀ i σ H, i ≤ xs.length → Pv i σ H → SqL K H a xs)
    (hs : ∀ i x σ H, xs[i]? = some x → Pv i σ H → g x σ H fun σ2 H2 => tb { D with nx := Pv (i + 1), ct := Pv (i + 1), bk := D.nx } σ2 H2) (hd : ∀ σ H, Pv xs.length σ H → D.nx σ H) :
    ∃ W : Nat → Nat → St → Hp → Prop, (∃ m, W 0 m σ H) ∧ ∀ i m σ H, W i m σ H →
      ((Itl K a).stop i H ∧ D.nx σ H) ∨ ((Itl K a).go i H ∧ ∃ N : St → Hp → Prop, (∀ σ' H', N σ' H' → ∃ m', m' < m ∧ W (i + 1) m' σ' H') ∧ ∀ x H', (Itl K a).yld i H x H' → g x σ H' fun σ2 H2 => tb { D with nx := N, ct := N, bk := D.nx } σ2 H2) := by
  refine ⟨fun i m σ H => m = xs.length - i ∧ i ≤ xs.length ∧ Pv i σ H, ⟨xs.length, by simp, Nat.zero_le _, h0⟩, ?_⟩
  rintro i m σ H ⟨rfl, hi, p⟩
  have q := hl i σ H hi p
  by_cases hlt : i < xs.length
  · refine .inr ⟨⟨xs, xs[i], q, by simp [hlt]⟩, Pv (i + 1), fun σ' H' p' => ⟨xs.length - (i + 1), by omega, rfl, hlt, p'⟩, fun x H' y => ?_⟩
    obtain ⟨e, y⟩ := y
    subst e
    exact hs i x σ _ (y xs q) p
  · have e : i = xs.length := by omega
    subst e
    exact .inl ⟨⟨xs, q, Nat.le_refl _⟩, hd σ H p⟩
theorem for_range {lo : Int} {n : Nat} {g : TG} {tb : TS} {D : Ends} {σ : St} {H : Hp} (Pv : Nat → St → Hp → Prop) (h0 : Pv 0 σ H)
    (hs : ∀ i σ H, i < n → Pv i σ H → g (.int (lo + i)) σ H fun σ2 H2 => tb { D with nx := Pv (i + 1), ct := Pv (i + 1), bk := D.nx } σ2 H2) (hd : ∀ σ H, Pv n σ H → D.nx σ H) :
    ∃ W : Nat → Nat → St → Hp → Prop, (∃ m, W 0 m σ H) ∧ ∀ i m σ H, W i m σ H →
      ((Itr lo n).stop i H ∧ D.nx σ H) ∨ ((Itr lo n).go i H ∧ ∃ N : St → Hp → Prop, (∀ σ' H', N σ' H' → ∃ m', m' < m ∧ W (i + 1) m' σ' H') ∧ ∀ x H', (Itr lo n).yld i H x H' → g x σ H' fun σ2 H2 => tb { D with nx := N, ct := N, bk := D.nx } σ2 H2) := by
  refine ⟨fun i m σ H => m = n - i ∧ i ≤ n ∧ Pv i σ H, ⟨n, by simp, Nat.zero_le _, h0⟩, ?_⟩
  rintro i m σ H ⟨rfl, hi, p⟩
  by_cases hlt : i < n
  · refine .inr ⟨hlt, Pv (i + 1), fun σ' H' p' => ⟨n - (i + 1), by omega, rfl, hlt, p'⟩, fun x H' y => ?_⟩
    obtain ⟨e, y⟩ := y
    subst e y
    exact hs i σ _ hlt p
  · have e : i = n := by omega
    subst e
    exact .inl ⟨Nat.le_refl _, hd σ H p⟩
end L2

namespace L2
open PySem PySem.Spec PyProof.Rows

abbrev R2 := V → V → Hp → VK → Prop
/-- a two-place operation on values: f is binaryOp op, inplaceOp op or compareOp op -/
def OpR (X : Cx) (f : Value → Value → Sem Value) (r : R2) : Prop :=
  ∀ (pins : List (Addr × Obj)) (s : Shared) (σ : St) (H : Hp) (x y : V) (v u : Value) (Q : VK), Inv X pins σ H s → RelV x v → RelV y u → r x y H Q →
    wpAny (model X.prog X.w) X.A (f v u) (EP X pins σ Q) X.xe s
/-- a one-place operation -/
def UnR (X : Cx) (f : Value → Sem Value) (r : V → Hp → VK → Prop) : Prop :=
  ∀ (pins : List (Addr × Obj)) (s : Shared) (σ : St) (H : Hp) (x : V) (v : Value) (Q : VK), Inv X pins σ H s → RelV x v → r x H Q →
    wpAny (model X.prog X.w) X.A (f v) (EP X pins σ Q) X.xe s
/-- a call of a value that is known (a builtin, a type) with values -/
def CallR (X : Cx) (f : Value) (r : List V → Hp → VK → Prop) : Prop :=
  ∀ (pins : List (Addr × Obj)) (s : Shared) (σ : St) (H : Hp) (xs : List V) (us : List Value) (Q : VK), Inv X pins σ H s → Vals xs us → r xs H Q →
    wpAny (model X.prog X.w) X.A (call f us) (EP X pins σ Q) X.xe s
def tOp (r : R2) (ta tb : TE) : TE := fun σ H Q => ta σ H fun x H1 => tb σ H1 fun y H2 => r x y H2 Q
def tUn (r : V → Hp → VK → Prop) (ta : TE) : TE := fun σ H Q => ta σ H fun x H1 => r x H1 Q
/-- ints in, under C, and a value out -/
def rI (C : Int → Int → Prop) (g : Int → Int → V) : R2 := fun x y H Q => ∃ i j, x = .int i ∧ y = .int j ∧ C i j ∧ Q (g i j) H
def rI0 (g : Int → Int → V) : R2 := fun x y H Q => ∃ i j, x = .int i ∧ y = .int j ∧ Q (g i j) H
def rU (g : Int → V) : V → Hp → VK → Prop := fun x H Q => ∃ i, x = .int i ∧ Q (g i) H

section
variable {X : Cx} {a b c : Expr} {ta tb tc : TE} {pos : Pos}

theorem binT (ha : PE X a ta) (hb : PE X b tb) {pins : List (Addr × Obj)} {s : Shared} {σ : St} {H : Hp} {R : V → V → Hp → Prop} (I : Inv X pins σ H s)
    (h : ta σ H fun x H1 => tb σ H1 fun y H2 => R x y H2) {Q : Value → Shared → Prop} {f : Value → Value → Sem Value}
    (hf : ∀ v u s2 x y H2, Inv X pins σ H2 s2 → RelV x v → RelV y u → R x y H2 → wpAny (model X.prog X.w) X.A (f v u) Q X.xe s2) :
    wpAny (model X.prog X.w) X.A (eval a X.env) (fun v s₁ => wpAny (model X.prog X.w) X.A (eval b X.env) (fun u s₂ => wpAny (model X.prog X.w) X.A (f v u) Q X.xe s₂) X.xe s₁) X.xe s := by
  refine thn (ha pins s σ H _ I h) fun v s1 ⟨x, H1, I1, r1, q1⟩ => ?_
  refine thn (hb pins s1 σ H1 _ I1 q1) fun u s2 ⟨y, H2, I2, r2, q2⟩ => ?_
  exact hf v u s2 x y H2 I2 r1 r2 q2

theorem pe_op {op : Operator} {r : R2} (ho : OpR X (binaryOp op) r) (ha : PE X a ta) (hb : PE X b tb) : PE X (.BinOp a op b pos) (tOp r ta tb) := by
  intro pins s σ H Q I h
  exact wpAny_BinOp (binT ha hb I h fun v u s2 x y H2 I2 rx ry q => ho pins s2 σ H2 x y v u Q I2 rx ry q)
theorem pe_un {op : UnaryOp} {r : V → Hp → VK → Prop} (ho : UnR X (unaryOp op) r) (ha : PE X a ta) : PE X (.UnaryOp op a pos) (tUn r ta) := by
  intro pins s σ H Q I h
  exact UnaryOp_ (thn (ha pins s σ H _ I h) fun v s1 ⟨x, H1, I1, r1, q1⟩ => ho pins s1 σ H1 x v Q I1 r1 q1)
/-! ### ints -/
theorem opI {f : Value → Value → Sem Value} {C : Int → Int → Prop} {g : Int → Int → Int}
    (rule : ∀ (i j : Int) (t u : Tok) (s : Shared) (Q : Value → Shared → Prop) (E : Value → Shared → Prop), C i j → Q (.int (g i j) s.toks) { s with toks := s.toks + 1 } → wpAny (model X.prog X.w) X.A (f (.int i t) (.int j u)) Q E s) :
    OpR X f (rI C fun i j => .int (g i j)) := by
  intro pins s σ H x y v u Q I rx ry h
  obtain ⟨i, j, rfl, rfl, hc, q⟩ := h
  obtain ⟨t, rfl⟩ := rx
  obtain ⟨t', rfl⟩ := ry
  exact rule i j t t' s _ _ hc ⟨.int (g i j), H, I.tok _, ⟨_, rfl⟩, q⟩
theorem opI0 {f : Value → Value → Sem Value} {g : Int → Int → Int}
    (rule : ∀ (i j : Int) (t u : Tok) (s : Shared) (Q : Value → Shared → Prop) (E : Value → Shared → Prop), Q (.int (g i j) s.toks) { s with toks := s.toks + 1 } → wpAny (model X.prog X.w) X.A (f (.int i t) (.int j u)) Q E s) :
    OpR X f (rI0 fun i j => .int (g i j)) := by
  intro pins s σ H x y v u Q I rx ry h
  obtain ⟨i, j, rfl, rfl, q⟩ := h
  obtain ⟨t, rfl⟩ := rx
  obtain ⟨t', rfl⟩ := ry
  exact rule i j t t' s _ _ ⟨.int (g i j), H, I.tok _, ⟨_, rfl⟩, q⟩
theorem opB0 {f : Value → Value → Sem Value} {g : Int → Int → Bool}
    (rule : ∀ (i j : Int) (t u : Tok) (s : Shared) (Q : Value → Shared → Prop) (E : Value → Shared → Prop), Q (.bool (g i j)) s → wpAny (model X.prog X.w) X.A (f (.int i t) (.int j u)) Q E s) :
    OpR X f (rI0 fun i j => .bl (g i j)) := by
  intro pins s σ H x y v u Q I rx ry h
  obtain ⟨i, j, rfl, rfl, q⟩ := h
  obtain ⟨t, rfl⟩ := rx
  obtain ⟨t', rfl⟩ := ry
  exact rule i j t t' s _ _ ⟨.bl (g i j), H, I, rfl, q⟩

def CDiv (i j : Int) : Prop := 0 < j ∧ j < 1073741824
def CPow (i j : Int) : Prop := 0 ≤ j ∧ j ≤ 1000000 ∧ i.natAbs < 2 ^ 64
def CMul (i j : Int) : Prop := (-(2 ^ 64) < i ∧ i < 2 ^ 64) ∨ (-(2 ^ 64) < j ∧ j < 2 ^ 64)
theorem CMul.ok {i j : Int} (h : CMul i j) : IntMulOk i j := by
  rcases h with ⟨h1, h2⟩ | ⟨h1, h2⟩
  · exact .of_left (intBits_le_64 h1 h2)
  · exact .of_right (intBits_le_64 h1 h2)
theorem op_add : OpR X (binaryOp .Add) (rI0 fun i j => .int (i + j)) := opI0 fun _ _ _ _ _ _ _ q => add_int q
theorem op_mul : OpR X (binaryOp .Mult) (rI CMul fun i j => .int (i * j)) := opI fun _ _ _ _ _ _ _ hc q => mul_int q hc.ok
/-- // by a positive divisor -/
theorem op_fdiv : OpR X (binaryOp .FloorDiv) (rI CDiv fun i j => .int (i / j)) := opI fun i j _ _ _ _ _ hc q => by
  have h1 : (0 : Int) < j := hc.1
  have h2 : j < 1073741824 := hc.2
  exact floordiv_int (by omega) (by rw [Int.fdiv_eq_ediv_of_nonneg i (by omega)]; exact q) (.inl (PyProof.noPylong_small (by omega)))
/-- % by a positive divisor of any size -/
theorem op_mod : OpR X (binaryOp .Mod) (rI (fun _ j => 0 < j) fun i j => .int (i % j)) := opI fun i j _ _ _ _ _ hc q => by
  have h1 : (0 : Int) < j := hc
  exact mod_int' (by omega) (by rw [Int.fmod_eq_emod_of_nonneg i (by omega)]; exact q)
theorem op_pow : OpR X (binaryOp .Pow) (rI CPow fun i j => .int (i ^ j.toNat)) := opI fun _ _ _ _ _ _ _ hc q => pow_int_small hc.1 hc.2.1 hc.2.2 q
theorem unI {f : Value → Sem Value} {g : Int → Int}
    (rule : ∀ (i : Int) (t : Tok) (s : Shared) (Q : Value → Shared → Prop) (E : Value → Shared → Prop), Q (.int (g i) s.toks) { s with toks := s.toks + 1 } → wpAny (model X.prog X.w) X.A (f (.int i t)) Q E s) :
    UnR X f (rU fun i => .int (g i)) := by
  intro pins s σ H x v Q I rx h
  obtain ⟨i, rfl, q⟩ := h
  obtain ⟨t, rfl⟩ := rx
  exact rule i t s _ _ ⟨.int (g i), H, I.tok _, ⟨_, rfl⟩, q⟩
theorem un_neg : UnR X (unaryOp .USub) (rU fun i => .int (-i)) := unI fun _ _ _ _ _ q => neg_int q
/-! ### bools among ints: n += (a < b) -/
end

/-! ### comparisons -/
/-- the scalars that == tells apart as data does -/
def scal : V → V → Bool
  | .non, .non => true | .non, .int _ => true | .int _, .non => true | .non, .bl _ => true | .bl _, .non => true | .non, .str _ => true | .str _, .non => true
  | .int _, .int _ => true | .bl _, .bl _ => true | .str _, .str _ => true | .byt _, .byt _ => true
  | .int _, .str _ => true | .str _, .int _ => true | .bl _, .str _ => true | .str _, .bl _ => true
  | _, _ => false
def rEq : R2 := fun x y H Q => scal x y = true ∧ Q (.bl (decide (x = y))) H
def rNe : R2 := fun x y H Q => scal x y = true ∧ Q (.bl (!decide (x = y))) H

theorem dec_int {i j : Int} : decide (V.int i = V.int j) = (i == j) := by
  rw [Bool.eq_iff_iff]
  simp
theorem dec_bl {i j : Bool} : decide (V.bl i = V.bl j) = (i == j) := by
  rw [Bool.eq_iff_iff]
  simp
theorem dec_str {i j : Str} : decide (V.str i = V.str j) = (i == j) := by
  rw [Bool.eq_iff_iff]
  simp
theorem dec_byt {i j : Array UInt8} : decide (V.byt i = V.byt j) = (i.toList == j.toList) := by
  rw [Bool.eq_iff_iff]
  cases i
  cases j
  simp

section
variable {X : Cx} {a b c : Expr} {ta tb tc : TE} {pos : Pos}
theorem fin_bl {pins : List (Addr × Obj)} {σ : St} {H : Hp} {s : Shared} {Q : VK} {k k' : Bool} (I : Inv X pins σ H s) (q : Q (.bl k) H) (e : k = k') : EP X pins σ Q (.bool k') s := by
  subst e
  exact ⟨.bl k, H, I, rfl, q⟩
theorem op_eq : OpR X (compareOp .Eq) rEq := by
  intro pins s σ H x y v u Q I rx ry h
  obtain ⟨hs, q⟩ := h
  cases x with
  | non =>
    cases rx
    cases y with
    | non => cases ry; exact PySem.EqNone.eq_none_none (fin_bl I q (by simp))
    | bl j => cases ry; exact PySem.EqNone.eq_none_bool (fin_bl I q (by simp))
    | int j => obtain ⟨t', rfl⟩ := ry; exact PySem.EqNone.eq_none_int (fin_bl I q (by simp))
    | str j => obtain ⟨t', rfl⟩ := ry; exact PySem.EqNone.eq_none_str (fin_bl I q (by simp))
    | _ => exact absurd (show false = true from hs) Bool.false_ne_true
  | bl i =>
    cases rx
    cases y with
    | non => cases ry; exact PySem.EqNone.eq_bool_none (fin_bl I q (by simp))
    | bl j => cases ry; exact eq_bool (fin_bl I q dec_bl)
    | str j => obtain ⟨t', rfl⟩ := ry; exact PySem.EqMixed.eq_bool_str (fin_bl I q (by simp))
    | _ => exact absurd (show false = true from hs) Bool.false_ne_true
  | int i =>
    obtain ⟨t, rfl⟩ := rx
    cases y with
    | non => cases ry; exact PySem.EqNone.eq_int_none (fin_bl I q (by simp))
    | int j => obtain ⟨t', rfl⟩ := ry; exact eq_int (fin_bl I q dec_int)
    | str j => obtain ⟨t', rfl⟩ := ry; exact PySem.EqMixed.eq_int_str (fin_bl I q (by simp))
    | _ => exact absurd (show false = true from hs) Bool.false_ne_true
  | str i =>
    obtain ⟨t, rfl⟩ := rx
    cases y with
    | non => cases ry; exact PySem.EqNone.eq_str_none (fin_bl I q (by simp))
    | bl j => cases ry; exact PySem.EqMixed.eq_str_bool (fin_bl I q (by simp))
    | int j => obtain ⟨t', rfl⟩ := ry; exact PySem.EqMixed.eq_str_int (fin_bl I q (by simp))
    | str j => obtain ⟨t', rfl⟩ := ry; exact eq_str (fin_bl I q dec_str)
    | _ => exact absurd (show false = true from hs) Bool.false_ne_true
  | byt i =>
    obtain ⟨t, rfl⟩ := rx
    cases y with
    | byt j => obtain ⟨t', rfl⟩ := ry; exact PySem.W.eq_bytes (fin_bl I q dec_byt)
    | _ => exact absurd (show false = true from hs) Bool.false_ne_true
  | _ => cases y <;> exact absurd (show false = true from hs) Bool.false_ne_true
theorem op_ne : OpR X (compareOp .NotEq) rNe := by
  intro pins s σ H x y v u Q I rx ry h
  obtain ⟨hs, q⟩ := h
  cases x with
  | non =>
    cases rx
    cases y with
    | non => cases ry; exact PySem.EqNone.ne_none_none (fin_bl I q (by simp))
    | bl j => cases ry; exact PySem.EqNone.ne_none_bool (fin_bl I q (by simp))
    | int j => obtain ⟨t', rfl⟩ := ry; exact PySem.EqNone.ne_none_int (fin_bl I q (by simp))
    | str j => obtain ⟨t', rfl⟩ := ry; exact PySem.EqNone.ne_none_str (fin_bl I q (by simp))
    | _ => exact absurd (show false = true from hs) Bool.false_ne_true
  | bl i =>
    cases rx
    cases y with
    | non => cases ry; exact PySem.EqNone.ne_bool_none (fin_bl I q (by simp))
    | bl j => cases ry; exact ne_bool (fin_bl I q (congrArg not dec_bl))
    | str j => obtain ⟨t', rfl⟩ := ry; exact PySem.EqMixed.ne_bool_str (fin_bl I q (by simp))
    | _ => exact absurd (show false = true from hs) Bool.false_ne_true
  | int i =>
    obtain ⟨t, rfl⟩ := rx
    cases y with
    | non => cases ry; exact PySem.EqNone.ne_int_none (fin_bl I q (by simp))
    | int j => obtain ⟨t', rfl⟩ := ry; exact ne_int (fin_bl I q (congrArg not dec_int))
    | str j => obtain ⟨t', rfl⟩ := ry; exact PySem.EqMixed.ne_int_str (fin_bl I q (by simp))
    | _ => exact absurd (show false = true from hs) Bool.false_ne_true
  | str i =>
    obtain ⟨t, rfl⟩ := rx
    cases y with
    | non => cases ry; exact PySem.EqNone.ne_str_none (fin_bl I q (by simp))
    | bl j => cases ry; exact PySem.EqMixed.ne_str_bool (fin_bl I q (by simp))
    | int j => obtain ⟨t', rfl⟩ := ry; exact PySem.EqMixed.ne_str_int (fin_bl I q (by simp))
    | str j => obtain ⟨t', rfl⟩ := ry; exact ne_str (fin_bl I q (congrArg not dec_str))
    | _ => exact absurd (show false = true from hs) Bool.false_ne_true
  | byt i =>
    obtain ⟨t, rfl⟩ := rx
    cases y with
    | byt j => obtain ⟨t', rfl⟩ := ry; exact PySem.W.ne_bytes (fin_bl I q (congrArg not dec_byt))
    | _ => exact absurd (show false = true from hs) Bool.false_ne_true
  | _ => cases y <;> exact absurd (show false = true from hs) Bool.false_ne_true

theorem op_lt : OpR X (compareOp .Lt) (rI0 fun i j => .bl (decide (i < j))) := opB0 fun _ _ _ _ _ _ _ q => lt_int q
theorem op_gt : OpR X (compareOp .Gt) (rI0 fun i j => .bl (decide (j < i))) := opB0 fun _ _ _ _ _ _ _ q => gt_int q
theorem op_ge : OpR X (compareOp .GtE) (rI0 fun i j => .bl (decide (j ≤ i))) := opB0 fun _ _ _ _ _ _ _ q => ge_int q
theorem nomark (b : Expr) {op : CmpOp} (h : op ≠ .In := by decide) (h2 : op ≠ .NotIn := by decide) : behindInMarks op b = false := by
  have e1 : (op == CmpOp.In) = false := by cases op <;> first | rfl | exact absurd rfl h
  have e2 : (op == CmpOp.NotIn) = false := by cases op <;> first | rfl | exact absurd rfl h2
  cases b <;> simp [behindInMarks, e1, e2]
/-- a comparison as a value; hm: nomark b, or (for in, not in) by with_unfolding_all rfl -/
theorem pe_cmpR {op : CmpOp} {r : R2} (ho : OpR X (compareOp op) r) (ha : PE X a ta) (hb : PE X b tb) (hm : behindInMarks op b = false) : PE X (.Compare a [op] [b] pos) (tOp r ta tb) := by
  intro pins s σ H Q I h
  exact wpAny_Compare1 (binT ha hb I h fun v u s2 x y H2 I2 rx ry q => ho pins s2 σ H2 x y v u Q I2 rx ry q) hm
/-- a reading of a value as a test -/
def tTest (t : TE) : TT := fun σ H Q => t σ H fun x H' => ∃ k, x = .bl k ∧ Q k H'
theorem pt_cmpR {op : CmpOp} {r : R2} (ho : OpR X (compareOp op) r) (ha : PE X a ta) (hb : PE X b tb) (hm : behindInMarks op b = false) : PT X (.Compare a [op] [b] pos) (tTest (tOp r ta tb)) := by
  intro pins s σ H Q I h
  refine wpAny_isTrue_Compare1 (thn (ha pins s σ H _ I h) fun v s1 ⟨x, H1, I1, r1, q1⟩ => thn (hb pins s1 σ H1 _ I1 q1) fun u s2 ⟨y, H2, I2, r2, q2⟩ =>
    thn (ho pins s2 σ H2 x y v u _ I2 r1 r2 q2) fun c s3 ⟨z, H3, I3, r3, k, e, q3⟩ => ?_) hm
  subst e
  cases r3
  exact wpAny_truthy_bool ⟨H3, I3, q3⟩
/-! ### truth -/
theorem line63 : (sizeLine : Nat) < 2 ^ 63 := by rw [sizeLine_eq]; decide
/-! ### strs and bytes -/
/-! ### scalar builtins, by CallR -/
theorem vals1 {x : V} {us : List Value} (r : Vals [x] us) : ∃ u, us = [u] ∧ RelV x u := by
  cases r with
  | cons r1 r2 => cases r2; exact ⟨_, rfl, r1⟩
theorem vals2 {x y : V} {us : List Value} (r : Vals [x, y] us) : ∃ u w', us = [u, w'] ∧ RelV x u ∧ RelV y w' := by
  cases r with
  | cons r1 r2 =>
    cases r2 with
    | cons r3 r4 => cases r4; exact ⟨_, _, rfl, r1, r3⟩
theorem call_abs : CallR X (.builtin "abs") (fun xs H Q => ∃ i, xs = [.int i] ∧ Q (.int (if i < 0 then -i else i)) H) := by
  intro pins s σ H xs us Q I r h
  obtain ⟨i, rfl, q⟩ := h
  obtain ⟨u, rfl, t, rfl⟩ := vals1 r
  exact call_abs_int fun u tk => ⟨.int (if i < 0 then -i else i), H, I.tok _, ⟨_, rfl⟩, q⟩
theorem call_max2 (hc : X.calm = true) : CallR X (.builtin "max") (fun xs H Q => ∃ i j, xs = [.int i, .int j] ∧ Q (.int (if j > i then j else i)) H) := by
  intro pins s σ H xs us Q I r h
  obtain ⟨i, j, rfl, q⟩ := h
  obtain ⟨u, w', rfl, ⟨t, rfl⟩, ⟨t', rfl⟩⟩ := vals2 r
  refine max_two_ints (I.ok.hd hc) fun h' tk k => ⟨_, H, I.kept k, ?_, q⟩
  by_cases hj : j > i
  · rw [if_pos hj, if_pos hj]; exact ⟨_, rfl⟩
  · rw [if_neg hj, if_neg hj]; exact ⟨_, rfl⟩
theorem call_min2 (hc : X.calm = true) : CallR X (.builtin "min") (fun xs H Q => ∃ i j, xs = [.int i, .int j] ∧ Q (.int (if j < i then j else i)) H) := by
  intro pins s σ H xs us Q I r h
  obtain ⟨i, j, rfl, q⟩ := h
  obtain ⟨u, w', rfl, ⟨t, rfl⟩, ⟨t', rfl⟩⟩ := vals2 r
  refine min_two_ints (I.ok.hd hc) fun h' tk k => ⟨_, H, I.kept k, ?_, q⟩
  by_cases hj : j < i
  · rw [if_pos hj, if_pos hj]; exact ⟨_, rfl⟩
  · rw [if_neg hj, if_neg hj]; exact ⟨_, rfl⟩
end
end L2

namespace L2
open PySem PySem.Spec PyProof.Rows

/-! ### an instance, its attributes a map -/
structure ObjM (h : Heap) (x dx C : Addr) (mA : Str → Option Value) : Prop where
  obj : h.get? x = some (PySem.W.instObj C dx)
  ns : h.Ns1 dx mA
  ne : dx ≠ x

theorem lookIn_ns {h : Heap} {dx : Addr} {mA : Str → Option Value} (n : h.Ns1 dx mA) : ∃ od, h.get? dx = some od ∧ ∀ name, PySem.W.lookIn name od = some (mA name) := by
  obtain ⟨o, es, ep, ho, hd, hk, _, hm⟩ := n
  refine ⟨o, ho, fun name => ?_⟩
  have e := hm name
  unfold nsFind findBy at e
  rw [← Array.find?_toList] at e
  unfold PySem.W.lookIn
  rw [hd]
  dsimp only
  split
  · rename_i y q
    rw [q] at e
    exact congrArg some e
  · rename_i q
    rw [q] at e
    have a : es.toList.any (·.refKey) = false := by
      rw [List.any_eq_false]
      intro y hy
      obtain ⟨z, t, hkey⟩ := hk y (Array.mem_toList_iff.mp hy)
      simp [DictEntry.refKey, hkey]
    have a' : ¬ es.toList.any (·.refKey) = true := by rw [a]; exact Bool.false_ne_true
    rw [if_neg a']
    exact congrArg some e

theorem ObjM.look {h : Heap} {x dx C : Addr} {mA : Str → Option Value} (I : ObjM h x dx C mA) : ∃ od, PySem.W.InstAt h x (PySem.W.instObj C dx) C (some od) ∧ ∀ name, PySem.W.lookIn name od = some (mA name) :=
  let ⟨od, ho, hl⟩ := lookIn_ns I.ns
  ⟨od, ⟨I.obj, rfl, rfl, ho⟩, hl⟩

section
variable {prog : Program} {w : World} {A : Around} {E : Value → Shared → Prop} {s : Shared} {K : PySem.W.Frag} {x dx C f : Addr} {mA : Str → Option Value} {name : Str} {v : Value}

end

/-! ### the attributes as a list of pairs -/
section
variable {P : Program} {w : World} {H H' : Hp} {h h' : Heap} {a C dx : Addr} {fs fs' : List (Str × V)}
theorem ins_get (hok : HOk P w H h) (e : H a = some (.ins C dx fs)) : ∃ mA, ObjM h a dx C mA ∧ (∀ f, RelO (fs.lookup f) (mA f)) ∧ PySem.Within mA (fs.map (·.1)) ∧ fs.length ≤ 1000 ∧ H dx = some (.own a) := by
  obtain ⟨d, z, ne, ob, mA, n, r, q⟩ := (show ObjOk P w H h a (.ins C dx fs) from hok a _ e)
  exact ⟨mA, ⟨ob, n, ne⟩, r, q, z, d⟩
end

/-! ### what of the text a class must have -/
structure Cls (K : PySem.W.Frag) (C : Addr) : Prop where
  pg : PySem.W.plainGet K C Str.empty = true
  hd : PySem.W.hasDictIn K C = true
  po : PySem.W.plainOver K C = true
  sa : PySem.W.findIn K (.ref C) "__setattr__" = some (some (.builtin "object.__setattr__"))
theorem Cls.get {K : PySem.W.Frag} {C : Addr} (c : Cls K C) (f : Str) : PySem.W.plainGet K C f = true := c.pg
/-- a constant of the class -/
structure Con (K : PySem.W.Frag) (C : Addr) (f : Str) (v : V) (u : Value) : Prop where
  at_ : PySem.W.findIn K (.ref C) f = some (some u)
  rel : RelV v u
  get : PySem.W.specialIn K u "__get__" = some none
  cp : PySem.W.copiedNames.contains f = false
/-- a method: a plain def of the class or of one above it -/
structure Meth (K : PySem.W.Frag) (C : Addr) (m : Str) (f : Addr) : Prop where
  at_ : PySem.W.findIn K (.ref C) m = some (some (.ref f))
  fn : PySem.W.isFn K (.ref f) = true
  kp : PySem.W.keepIn K (.ref f) = true

section
variable {X : Cx} {pins : List (Addr × Obj)} {σ : St} {H : Hp} {s : Shared} {a C dx : Addr} {fs : List (Str × V)} {f : Str} {v : V} {A : Around} {E : Value → Shared → Prop}

end

/-! ### readings and rules -/
section
variable {X : Cx} {o e value : Expr} {f : Str} {pos pos' tpos : Pos} {ta tv : TE}
end

/-! ### isinstance -/
section
variable {X : Cx} {pins : List (Addr × Obj)} {σ : St} {H : Hp} {s : Shared} {A : Around} {E : Value → Shared → Prop} {Q : Value → Shared → Prop} {c : Value} {b : Bool}
/-- the type of a value, as the fragment's deciders take it; for an instance its class -/
inductive TyOf (K : PySem.W.Frag) (H : Hp) : V → Value → Prop where
  | non : TyOf K H .non (.type "NoneType")
  | bl (x : Bool) : TyOf K H (.bl x) (.type "bool")
  | int (i : Int) : TyOf K H (.int i) (.type "int")
  | str (x : Str) : TyOf K H (.str x) (.type "str")
  | flt (x : UInt64) : TyOf K H (.flt x) (.type "float")
  | lst {a : Addr} {xs : List V} (e : H a = some (.lst xs)) : TyOf K H (.ref a) (.type "list")
  | frz {a : Addr} {o : Obj} {xs : List V} (e : H a = some (.frz o (.lst xs))) : TyOf K H (.ref a) (.type "list")
  | tup {a : Addr} {xs : List V} (e : H a = some (.tup xs)) : TyOf K H (.ref a) (.type "tuple")
  | dK {a : Addr} {kvs : List (Key × V)} (e : H a = some (.dK kvs)) : TyOf K H (.ref a) (.type "dict")
  | dT {a : Addr} {kvs : List (List Key × V)} (e : H a = some (.dT kvs)) : TyOf K H (.ref a) (.type "dict")
  | ins {a C dx : Addr} {fs : List (Str × V)} (e : H a = some (.ins C dx fs)) (cl : Cls K C) (ha : PySem.W.findIn K (.ref C) "__class__" = some (some (.builtin "object.__class__")))
      (hn : PySem.W.specialIn K (.builtin "object.__class__") "__get__" = some (some (.builtin "getset_descriptor.__get__"))) (htk : PySem.W.takesIn K (.builtin "object.__class__") = some true)
      (hm : PySem.W.mroIn K C (.type "object") = some true) : TyOf K H (.ref a) (.ref C)
/-- isinstance(x, c) for one class c, a built-in or an own one: kitOne's answer -/
theorem isinst_ok {x : V} {u t : Value} (I : Inv X pins σ H s) (rx : RelV x u) (ty : TyOf X.K H x t) (e : PySem.W.kitOne X.K t c = some b) (h : ∀ tk, Q (.bool b) { s with toks := tk }) :
    wpAny (model X.prog X.w) A (call (.builtin "isinstance") [u, c]) Q E s := by
  cases ty with
  | non => cases (show u = Value.none from rx); exact PySem.W.kia_one PySem.W.kitx_none I.kIn True.intro e (fun z => nomatch z) h
  | bl y => cases (show u = Value.bool y from rx); exact PySem.W.kia_one PySem.W.kitx_bool I.kIn True.intro e (fun z => nomatch z) h
  | int i => obtain ⟨t, q⟩ := (show ∃ t, u = Value.int i t from rx); cases q; exact PySem.W.kia_one PySem.W.kitx_int I.kIn True.intro e (fun z => nomatch z) h
  | str y => obtain ⟨t, q⟩ := (show ∃ t, u = Value.str y t from rx); cases q; exact PySem.W.kia_one PySem.W.kitx_str I.kIn True.intro e (fun z => nomatch z) h
  | flt y => obtain ⟨t, q⟩ := (show ∃ t, u = Value.float y t from rx); cases q; exact PySem.W.kia_one PySem.W.kitx_float I.kIn True.intro e (fun z => nomatch z) h
  | @lst a xs ea =>
    cases (show u = Value.ref a from rx)
    obtain ⟨_, _, n, _, h1⟩ := (show ObjOk X.prog X.w H s.heap a (.lst xs) from I.hok a _ ea)
    exact PySem.W.kia_one PySem.W.kitx_list I.kIn ⟨_, h1, rfl⟩ e (fun z => nomatch z) h
  | @frz a ob xs ea =>
    cases (show u = Value.ref a from rx)
    obtain ⟨_, _, _, n, _, h1⟩ := (show ObjOk X.prog X.w H s.heap a (.frz ob (.lst xs)) from I.hok a _ ea)
    exact PySem.W.kia_one PySem.W.kitx_list I.kIn ⟨_, h1, rfl⟩ e (fun z => nomatch z) h
  | @tup a xs ea =>
    cases (show u = Value.ref a from rx)
    obtain ⟨_, _, _, p⟩ := (show ObjOk X.prog X.w H s.heap a (.tup xs) from I.hok a _ ea)
    obtain ⟨o, h1, h2, _⟩ := p
    exact PySem.W.kia_one PySem.W.kitx_tuple I.kIn ⟨o, h1, h2⟩ e (fun z => nomatch z) h
  | @dK a kvs ea =>
    cases (show u = Value.ref a from rx)
    obtain ⟨_, _, vs, _, p⟩ := (show ObjOk X.prog X.w H s.heap a (.dK kvs) from I.hok a _ ea)
    obtain ⟨o, es, ep, h1, h2, _⟩ := p
    exact PySem.W.kia_one PySem.W.kitx_dict I.kIn ⟨o, h1, h2.1⟩ e (fun z => nomatch z) h
  | @dT a kvs ea =>
    cases (show u = Value.ref a from rx)
    obtain ⟨_, _, xs, _, o, es, ep, h1, h2, _⟩ := (show ObjOk X.prog X.w H s.heap a (.dT kvs) from I.hok a _ ea)
    exact PySem.W.kia_one PySem.W.kitx_dict I.kIn ⟨o, h1, h2.1⟩ e (fun z => nomatch z) h
  | @ins a C dx fs ea cl ha hn htk hm =>
    cases (show u = Value.ref a from rx)
    obtain ⟨mA, O, _⟩ := ins_get I.hok ea
    obtain ⟨od, J, _⟩ := O.look
    exact PySem.W.kia_one (PySem.W.kitx_own (cl.get _) cl.hd ha hn htk hm) I.kIn J e (fun z => nomatch z) h
end
end L2

namespace L2
open PySem PySem.Spec PyProof.Rows

/-! ### room -/
structure Room (k : Nat) (A : Around) : Prop where
  hd : A.handled = none
  dp : A.depth + 3 * k + 5 < recursionLimit
  un : A.units + 16 * k + 200 < cLine
theorem Room.mono {j k : Nat} {A : Around} (r : Room k A) (h : j ≤ k) : Room j A := ⟨r.hd, by have := r.dp; omega, by have := r.un; omega⟩
theorem Room.deeper {k : Nat} {A : Around} (r : Room (k + 1) A) (env : Env) : Room k (A.deeper env) :=
  ⟨r.hd, by have := r.dp; show A.depth + 1 + 3 * k + 5 < _; omega, by have := r.un; show A.units + 3 + 16 * k + 200 < _; omega⟩
theorem Room.depth {k : Nat} {A : Around} (r : Room k A) : A.depth < recursionLimit := by have := r.dp; omega
theorem Room.units {k : Nat} {A : Around} (r : Room k A) : A.units + 64 < cLine := by have := r.un; omega
/-! ### argument lists and displays -/
def tNil : TA := fun _ H Q => Q [] H
def tCons (ta : TE) (tr : TA) : TA := fun σ H Q => ta σ H fun x H1 => tr σ H1 fun xs H2 => Q (x :: xs) H2
section
variable {X : Cx} {e : Expr} {es : List Expr} {te : TE} {t : TA} {pos : Pos}
theorem pa_nil : PA X [] tNil := fun _ _ _ _ H Q I h => Calls.spliced_nil ⟨[], H, I, .nil, h⟩
theorem pa_cons (ha : PE X e te) (hr : PA X es t) (hs : starEach (e :: es) X.env = (false, eval e X.env) :: starEach es X.env := by rfl) : PA X (e :: es) (tCons te t) := by
  intro pos pins s σ H Q I h
  rw [hs]
  show wpAny _ _ (spliced ((false, eval e X.env) :: backTo pos (starEach es X.env))) _ _ s
  refine Calls.spliced_cons (thn (ha pins s σ H _ I h) fun u s1 ⟨x, H1, I1, r1, q1⟩ => ?_)
  exact thn (hr pos pins s1 σ H1 _ I1 q1) fun us s2 ⟨xs, H2, I2, r2, q2⟩ => ⟨x :: xs, H2, I2, .cons r1 r2, q2⟩

/-- a tuple, a list of written items -/
def tTup (t : TA) : TE := fun σ H Q => t σ H fun xs H1 => xs.length ≤ sizeLine ∧ ∀ p, H1 p = none → Q (.ref p) (upd H1 p (.tup xs))
def tLst (t : TA) : TE := fun σ H Q => t σ H fun xs H1 => xs.length ≤ sizeLine ∧ ∀ p, H1 p = none → Q (.ref p) (upd H1 p (.lst xs))
theorem pe_tup {x1} (h : PA X es t) : PE X (.Tuple es x1 pos) (tTup t) := by
  intro pins s σ H Q I hq
  refine wpAny_Tuple_spliced (thn (h pos pins s σ H _ I hq) fun us s1 ⟨xs, H1, I1, r, z, q⟩ => ⟨by rw [← r.length]; exact z, ?_⟩)
  have hf : H1 s1.heap.objs.size = none := I1.hok.fresh (Nat.le_refl _)
  refine ⟨.ref s1.heap.objs.size, upd H1 s1.heap.objs.size (.tup xs), I1.laid (t' := s1.toks) (fun b u e => Heap.get?_push_of_some _ e) (Nat.le_refl _) ?_, rfl, q _ hf⟩
  exact ⟨z, us, r, ⟨_, Heap.get?_push_size _ rfl, rfl, _, rfl⟩⟩
theorem pe_lst (h : PA X es t) : PE X (.List es pos) (tLst t) := by
  intro pins s σ H Q I hq
  refine wpAny_List_spliced (thn (h pos pins s σ H _ I hq) fun us s1 ⟨xs, H1, I1, r, z, q⟩ => ⟨by rw [← r.length]; exact z, ?_⟩)
  have hf : H1 s1.heap.objs.size = none := I1.hok.fresh (Nat.le_refl _)
  refine ⟨.ref s1.heap.objs.size, upd H1 s1.heap.objs.size (.lst xs), I1.laid (t' := s1.toks) (fun b u e => Heap.get?_push_of_some _ e) (Nat.le_refl _) ?_, rfl, q _ hf⟩
  exact ⟨z, us, 0, r, Heap.get?_push_size _ rfl⟩
end

/-! ### what a def promises -/
/-- a def's promise: the bound arguments in the parameters' order, the heap, the wanted end, the wanted exception -/
abbrev Sp := List V → Hp → VK → XK → Prop
/-- how an exception lies behind a call (file 08 gives it): the callers' frames, abstract heap and state ahead of the call, the wish, the exception, the state -/
abbrev CXT := List Env → Hp → Shared → XK → Value → Shared → Prop

/-- the state at a call -/
structure Env0 (P : Program) (w : World) (K : PySem.W.Frag) (mg : Str → Option Value) (base : Heap) (A : Around) (outer : List Env) (s : Shared) (H : Hp) : Prop where
  frames : A.frames = some outer
  mod : Mod K mg base
  bs : ∀ b o, base.get? b = some o → s.heap.get? b = some o ∧ H b = none
  bsz : base.objs.size ≤ s.heap.objs.size
  funs : s.heap.FunFrames base outer
  frf : ∀ b ∈ frs outer, H b = none
  hok : HOk P w H s.heap
  bare : AllBare s.gens
/-- a call's end -/
def CE (outer : List Env) (P : Program) (w : World) (H : Hp) (s : Shared) (Q : VK) (u : Value) (s' : Shared) : Prop :=
  ∃ v H', s'.os = s.os ∧ AllBare s'.gens ∧ Un (frs outer) [] H H' s.heap s'.heap ∧ HOk P w H' s'.heap ∧ RelV v u ∧ Q v H'
def CR (CX : CXT) (outer : List Env) (P : Program) (w : World) (H : Hp) (s : Shared) (Q : VK) (E : XK) (r : Result) (s' : Shared) : Prop :=
  match r with
  | .ok (.ret u) => CE outer P w H s Q u s'
  | .ok _ => False
  | .error e => CX outer H s E e s'
structure FnOk (P : Program) (w : World) (K : PySem.W.Frag) (mg : Str → Option Value) (base : Heap) (CX : CXT) (k : Nat) (f : Addr) (fd : FuncData) (ps : List Str) (sp : Sp) : Prop where
  len : ∀ vs H Q E, sp vs H Q E → vs.length = ps.length
  run : ∀ (A : Around) (outer : List Env) (s : Shared) (H : Hp) (args : Args) (us : List Value) (vs : List V) (Q : VK) (E : XK), Room k A → Env0 P w K mg base A outer s H → BindsTo s fd args (ps.zip us) → Vals vs us → sp vs H Q E →
    codeAny (model P w) A (.call (.ref f) args) (CR CX outer P w H s Q E) s
section
variable {X : Cx} {pins : List (Addr × Obj)} {σ : St} {H : Hp} {s s' : Shared}
/-- from a body: what a callee wants -/
theorem Inv.env0 (I : Inv X pins σ H s) : Env0 X.prog X.w X.K X.mg X.base X.A X.stack s H :=
  ⟨I.ok.frames, I.ok.mod, I.bs, Nat.le_trans I.ok.bsz I.sz, I.stack, I.stkFree, I.hok, I.bare⟩
/-- behind a call -/
theorem Inv.after {Q : VK} {u : Value} (I : Inv X pins σ H s) (h : CE X.stack X.prog X.w H s Q u s') : EP X pins σ Q u s' := by
  obtain ⟨v, H', os, bare, un, hok, r, q⟩ := h
  obtain ⟨hh, g, d, t, os'⟩ := s'
  obtain rfl : os' = s.os := os
  exact ⟨v, H', I.call (h' := hh) (g' := g) (d' := d) (t' := t) (ch := []) un hok bare (fun b z => absurd z (by simp)), r, q⟩
end

/-! ### calls -/
/-- f(..): the written arguments, then the defaults dvs; E: what is wanted of an exception -/
def tCall (sp : Sp) (dvs : List V) (E : XK) (t : TA) : TE := fun σ H Q => t σ H fun vs H1 => sp (vs ++ dvs) H1 Q E
/-- how the parameters are bound: us the positional arguments, kw the keywords' values by name, ds the defaults that fill up -/
def Binds (K : PySem.W.Frag) (fd : FuncData) (ps : List Str) (ds : List Value) : Prop :=
  ∀ (s : Shared) (us : List Value), K.In s.heap → (us ++ ds).length = ps.length → BindsTo s fd ⟨us, []⟩ (ps.zip (us ++ ds))
/-- every parameter is given -/
theorem Binds.all {K : PySem.W.Frag} {fd : FuncData} {ps : List Str} (h : ∀ us : List Value, us.length = ps.length → bindArgs fd ⟨us, []⟩ = pure (ps.zip us)) : Binds K fd ps [] := fun s us _ hl => by
  rw [List.append_nil] at hl ⊢
  exact .of_eq (h us hl)

/-- an exception of a callee reaches what this body wants of exceptions -/
def Passes (CX : CXT) (X : Cx) (E : XK) : Prop := ∀ (pins : List (Addr × Obj)) (σ : St) (H : Hp) (s : Shared) (e : Value) (s' : Shared), Inv X pins σ H s → CX X.stack H s E e s' → X.xe e s'

section
variable {X : Cx} {CX : CXT} {k : Nat} {f C : Addr} {fd : FuncData} {ps : List Str} {sp : Sp} {dvs : List V} {ds : List Value} {E : XK} {x m : Str} {p pos apos : Pos} {e o : Expr} {es : List Expr} {ta : TE} {t : TA}

/-- the callee runs -/
theorem run_fn {pins : List (Addr × Obj)} {σ : St} {H : Hp} {s : Shared} {Q : VK} {us : List Value} {vs : List V} (F : FnOk X.prog X.w X.K X.mg X.base CX k f fd ps sp) (hr : Room k X.A) (hb : Binds X.K fd ps ds) (hd : Vals dvs ds) (hx : Passes CX X E)
    (I : Inv X pins σ H s) (r : Vals vs us) (h : sp (vs ++ dvs) H Q E) : wpAny (model X.prog X.w) X.A (call (.ref f) us) (EP X pins σ Q) X.xe s := by
  have r2 : Vals (vs ++ dvs) (us ++ ds) := r.append hd
  have hl : (us ++ ds).length = ps.length := by rw [← r2.length]; exact F.len _ _ _ _ h
  refine wpAny_call (codeAny_mono (F.run X.A X.stack s H ⟨us, []⟩ (us ++ ds) (vs ++ dvs) Q E hr I.env0 (hb s us I.kIn hl) r2 h) fun r s' hq => ?_)
  cases r with
  | error e => exact hx pins σ H s e s' I hq
  | ok fl =>
    cases fl with
    | ret u => exact I.after hq
    | next => exact False.elim hq
    | brk => exact False.elim hq
    | cont => exact False.elim hq

theorem pe_call (F : FnOk X.prog X.w X.K X.mg X.base CX k f fd ps sp) (hr : Room k X.A) (hg : Gl X x) (hm : X.mg x = some (.ref f)) (hk : PySem.W.keepIn X.K (.ref f) = true) (hb : Binds X.K fd ps ds) (hd : Vals dvs ds) (hx : Passes CX X E)
    (ha : PA X (e :: es) t) (hdb : (x == ("__debug__" : Str)) = false := by decide) (he : starEach (e :: es) X.env = (false, eval e X.env) :: starEach es X.env := by rfl) (hpl : (backTo pos (starEach es X.env)).any (·.1) = false := by rfl) :
    PE X (.Call (.Name x p) (e :: es) [] pos) (tCall sp dvs E t) := by
  intro pins s σ H Q I h
  refine wpAny_Call_Name_kw (ld_glob I hg hm ?_ hdb)
  refine PySem.W.callWith_K (h₀ := X.base) I.ok.mod.kin hk (thn (ha pos pins s σ H _ I h) fun us s1 ⟨vs, H1, I1, r, q⟩ => ⟨I1.kIn, ?_⟩) he hpl
  exact run_fn F hr hb hd hx I1 r q
/-- what a class must have to be made -/
structure Mk (K : PySem.W.Frag) (C f : Addr) : Prop where
  makes : PySem.W.makesIn K C = true
  init : PySem.W.findIn K (.ref C) "__init__" = some (some (.ref f))
  fn : PySem.W.isFn K (.ref f) = true
  kp : PySem.W.keepIn K (.ref C) = true

end

/-! ### keywords -/
section
variable {X : Cx} {CX : CXT} {k : Nat} {f C : Addr} {fd : FuncData} {ps ks : List Str} {sp : Sp} {E : XK} {x m : Str} {p pos apos kpos : Pos} {e o : Expr} {es : List Expr} {kws : List Keyword} {te ta : TE} {t tk : TA} {nm : Option Str}
/-- how a call with keywords binds: g puts the positional values us and the keywords' values ws (names ks) in the parameters' order, defaults among them -/
structure KBinds (K : PySem.W.Frag) (fd : FuncData) (ps ks : List Str) (g : List Value → List Value → List Value) (gV : List V → List V → List V) : Prop where
  to : ∀ (s : Shared) (us ws : List Value), K.In s.heap → (g us ws).length = ps.length → BindsTo s fd ⟨us, ks.zip ws⟩ (ps.zip (g us ws))
  rel : ∀ {vs : List V} {us : List Value} {zs : List V} {ws : List Value}, Vals vs us → Vals zs ws → Vals (gV vs zs) (g us ws)
variable {g : List Value → List Value → List Value} {gV : List V → List V → List V}
end

/-! ### a def's body keeps its promise -/
/-- names: the parameters first -/
structure FnScope (N P : List Str) (sc : Scope) : Prop where
  kind : sc.kind = .function
  co : sc.isCoroutine = false
  gen : sc.isGenerator = false
  nd : N.Nodup
  pre : N.take P.length = P
  par : ∀ x ∈ P, sc.names.lookup x = some .local ∨ sc.names.lookup x = some .cell
  nofree : ∀ y ∈ sc.names, y.2 ≠ .free

theorem bindL_out {kindOf : Str → Option NameKind} {x : Str} : ∀ {binds : List (Str × Value)} {m : Str → Option Value}, (∀ v, (x, v) ∉ binds) → bindL kindOf binds m x = m x
  | [], _, _ => rfl
  | (n, v) :: r, m, h => by
    unfold bindL
    rw [bindL_out fun w hw => h w (List.mem_cons_of_mem _ hw)]
    split
    · have : x ≠ n := by rintro rfl; exact h v List.mem_cons_self
      simp [this]
    · rfl
theorem bindC_out {kindOf : Str → Option NameKind} {x : Str} : ∀ {binds : List (Str × Value)} {m : Str → Option Value}, (∀ v, (x, v) ∉ binds) → bindC kindOf binds m x = m x
  | [], _, _ => rfl
  | (n, v) :: r, m, h => by
    unfold bindC
    rw [bindC_out fun w hw => h w (List.mem_cons_of_mem _ hw)]
    split
    · rfl
    · have : x ≠ n := by rintro rfl; exact h v List.mem_cons_self
      simp [this]
theorem bindL_get {kindOf : Str → Option NameKind} {x : Str} {v : Value} : ∀ {P : List Str} {vs : List Value} {i : Nat} {m : Str → Option Value}, P.Nodup → P[i]? = some x → vs[i]? = some v → kindOf x = some .local →
    bindL kindOf (P.zip vs) m x = some v
  | [], _, _, _, _, h, _, _ => by simp at h
  | _ :: _, [], _, _, _, _, h, _ => by simp at h
  | p :: P, w :: vs, 0, m, nd, h1, h2, hk => by
    simp at h1 h2; subst h1; subst h2
    show bindL kindOf ((p, w) :: P.zip vs) m p = _
    unfold bindL
    rw [bindL_out fun v hv => (List.nodup_cons.mp nd).1 (List.of_mem_zip hv).1, if_pos hk]
    simp
  | p :: P, w :: vs, i + 1, m, nd, h1, h2, hk => by
    show bindL kindOf ((p, w) :: P.zip vs) m x = _
    unfold bindL
    exact bindL_get (i := i) (List.nodup_cons.mp nd).2 (by simpa using h1) (by simpa using h2) hk
theorem bindC_get {kindOf : Str → Option NameKind} {x : Str} {v : Value} : ∀ {P : List Str} {vs : List Value} {i : Nat} {m : Str → Option Value}, P.Nodup → P[i]? = some x → vs[i]? = some v → kindOf x ≠ some .local →
    bindC kindOf (P.zip vs) m x = some v
  | [], _, _, _, _, h, _, _ => by simp at h
  | _ :: _, [], _, _, _, _, h, _ => by simp at h
  | p :: P, w :: vs, 0, m, nd, h1, h2, hk => by
    simp at h1 h2; subst h1; subst h2
    show bindC kindOf ((p, w) :: P.zip vs) m p = _
    unfold bindC
    rw [bindC_out fun v hv => (List.nodup_cons.mp nd).1 (List.of_mem_zip hv).1, if_neg hk]
    simp
  | p :: P, w :: vs, i + 1, m, nd, h1, h2, hk => by
    show bindC kindOf ((p, w) :: P.zip vs) m x = _
    unfold bindC
    exact bindC_get (i := i) (List.nodup_cons.mp nd).2 (by simpa using h1) (by simpa using h2) hk

/-- the names' values at the entry -/
def start (N : List Str) (vs : List V) : St := vs.map some ++ List.replicate (N.length - vs.length) none

/-- the context of a def's body, at its entry; an exception leaves the frame, then lies as CX says -/
def cxOf (CX : CXT) (P : Program) (w : World) (K : PySem.W.Frag) (mg : Str → Option Value) (base : Heap) (N : List Str) (qual : Str) (scope : Scope) (f : Addr) (cd : Value) (A : Around) (outer : List Env) (s : Shared) (H : Hp) (E : XK) : Cx where
  prog := P
  w := w
  K := K
  mg := mg
  base := base
  A := A.deeper (envOfC qual scope s.heap.objs.size f cd)
  N := N
  s₀ := s
  H₀ := H
  env := envOfC qual scope s.heap.objs.size f cd
  outer := outer
  stack := envOfC qual scope s.heap.objs.size f cd :: outer
  ex := []
  calm := true
  fn := fun _ => true
  pn := []
  xe := fun e s' => wpAny (model P w) (A.deeper (envOfC qual scope s.heap.objs.size f cd)) (leaving (envOfC qual scope s.heap.objs.size f cd) e) (fun _ s'' => CX outer H s E e s'') (fun e' s'' => CX outer H s E e' s'') s'

theorem cell_has {sc : Scope} {n : Nat} {x : Str} (h : sc.names.lookup x = some .cell) : ∃ c, (cellsFrom n sc.names []).lookup x = some c := by
  have q := PySem.W.cellsFrom_some sc.names n [] (.inl h)
  exact Option.isSome_iff_exists.mp q

theorem inv_start {CX : CXT} {P : Program} {w : World} {K : PySem.W.Frag} {mg : Str → Option Value} {base : Heap} {N ps : List Str} {qual : Str} {scope : Scope} {f : Addr} {cd : Value} {A : Around} {outer : List Env} {s s1 : Shared} {H : Hp} {E : XK} {us : List Value} {vs : List V}
    (S : FnScope N ps scope) (hd : A.handled = none) (e0 : Env0 P w K mg base A outer s H) (hl : vs.length = ps.length) (r : Vals vs us)
    (x : InCallC s s.heap.objs.size (bindL (envOfC qual scope s.heap.objs.size f cd).kindOf (ps.zip us) fun _ => none) (cellsFrom (s.heap.objs.size + 1) scope.names []) (bindC (envOfC qual scope s.heap.objs.size f cd).kindOf (ps.zip us) fun _ => none) s1) :
    Inv (cxOf CX P w K mg base N qual scope f cd A outer s H E) [] (start N vs) H s1 := by
  have hpl : ps.length ≤ N.length := by have := congrArg List.length S.pre; rw [List.length_take] at this; omega
  obtain ⟨h1, tk, rfl, hk⟩ := x.done
  have noA : ∀ b : Addr, b ∉ (cxOf CX P w K mg base N qual scope f cd A outer s H E).ex := fun b z => absurd (show b ∈ ([] : List Addr) from z) (by simp)
  refine ⟨⟨e0.mod, S.kind, rfl, rfl, Nat.le_refl _, fun y z c h1 h2 => ?_, fun y hy => ?_, fun y c _ h => ?_, fun _ => hd, Around.frames_deeper e0.frames, .inr ⟨rfl, rfl⟩, fun b z => absurd z (noA b), e0.bs, e0.bsz, fun b _ _ => noA b, fun b z => absurd z (noA b), e0.funs, e0.frf⟩,
    rfl, e0.bare, Un.kept hk, ⟨_, x.toInCall.ns, fun i y v h1 h2 h3 => ?_⟩, fun y c h => ⟨_, x.cell y c h⟩, e0.hok.fresh (Nat.le_refl _), fun y c h => ?_, fun p hp => absurd (show p ∈ ([] : List (Addr × Obj)) from hp) (by simp), e0.hok.kept hk, ?_⟩
  · exact name_of_addr x.apart (PySem.mem_of_lookup h1) (PySem.mem_of_lookup h2)
  · have hy : scope.names.lookup y = some .cell ∨ scope.names.lookup y = some .free := hy
    rcases hy with hy | hy
    · exact cell_has hy
    · exact absurd rfl (S.nofree _ (PySem.mem_of_lookup hy))
  · exact Nat.le_of_lt (x.above y c (PySem.mem_of_lookup h))
  · have hi : i < vs.length := by
      unfold start at h2
      by_cases hi : i < vs.length
      · exact hi
      · rw [List.getElem?_append_right (by simpa using hi)] at h2
        rw [List.getElem?_replicate] at h2
        split at h2 <;> cases h2
    have ha : vs[i]? = some v := by
      unfold start at h2
      rw [List.getElem?_append_left (by simpa using hi), List.getElem?_map] at h2
      cases e : vs[i]? with
      | none => rw [e] at h2; cases h2
      | some a => rw [e] at h2; cases h2; rfl
    obtain ⟨u, hu, rv⟩ := r.get ha
    have hp : ps[i]? = some y := by
      rw [← S.pre, List.getElem?_take_of_lt (by omega)]; exact h1
    have ndP : ps.Nodup := by rw [← S.pre]; exact S.nd.sublist (List.take_sublist _ _)
    refine ⟨u, rv, ?_⟩
    rcases S.par y (List.mem_of_getElem? hp) with k | k
    · exact .inl ⟨k, bindL_get ndP hp hu k⟩
    · obtain ⟨c, e⟩ := cell_has (n := s.heap.objs.size + 1) k
      refine .inr ⟨.inl k, c, e, ?_⟩
      have q := x.cell y c e
      rw [bindC_get ndP hp hu (by show scope.names.lookup y ≠ _; rw [k]; decide)] at q
      exact q
  · exact e0.hok.fresh (Nat.le_of_lt (x.above y c (PySem.mem_of_lookup h)))
  · unfold start
    show _ = N.length
    rw [List.length_append, List.length_map, List.length_replicate]
    omega

/-- THE RULE: a def (or a method) of the text, by its body. The body's reading t is chosen for each entry; it is run at the parameters' values -/
theorem fn_of {CX : CXT} {P : Program} {w : World} {K : PySem.W.Frag} {mg : Str → Option Value} {base : Heap} {k : Nat} {f : Addr} {name qual : Str} {params : Arguments} {body : List Stmt} {scope : Scope} {dV kV doc pm cdv ct oc : Value} {an od : Option Addr}
    {osl : Array (Option Value)} {N ps : List Str} {sp : Sp} (lk : K.lookup f = some ⟨oc, od, .func (PySem.W.fnOf name qual params body scope dV kV doc pm an cdv ct), osl⟩) (hcd : PySem.W.codeIn K cdv qual = true) (S : FnScope N ps scope)
    (len : ∀ vs H Q E, sp vs H Q E → vs.length = ps.length)
    (hbody : ∀ (A : Around) (outer : List Env) (s : Shared) (H : Hp) (vs : List V) (Q : VK) (E : XK), Room k (A.deeper (envOfC qual scope s.heap.objs.size f cdv)) → sp vs H Q E →
      ∃ t, PSs (cxOf CX P w K mg base N qual scope f cdv A outer s H E) body t ∧ t { nx := fun _ H' => Q .non H', rt := Q } (start N vs) H) :
    FnOk P w K mg base CX (k + 1) f (PySem.W.fnOf name qual params body scope dV kV doc pm an cdv ct) ps sp := by
  refine ⟨len, fun A outer s H args us vs Q E hr e0 hb r hsp => ?_⟩
  have hl := len _ _ _ _ hsp
  have KX : K.In s.heap := e0.mod.kin.keeps fun b o e => (e0.bs b o e).1
  have lim : s.heap.NoLimit := e0.mod.nolimit.keeps fun b o e => (e0.bs b o e).1
  have hkind : ∀ y ∈ ps.zip us, scope.names.lookup y.1 = some .local ∨ (scope.names.lookup y.1 = some .cell ∧ ((cellsFrom (s.heap.objs.size + 1) scope.names []).lookup y.1).isSome = true) := fun ⟨n, v⟩ hy => by
    rcases S.par n (List.of_mem_zip hy).1 with q | q
    · exact .inl q
    · exact .inr ⟨q, PySem.W.cellsFrom_some _ _ _ (.inl q)⟩
  refine codeAny_call_function hr.depth (KX _ _ lk) rfl S.co S.gen rfl (PySem.W.codeRec_of KX hcd) (hb _ _ _ _ ?_)
  refine wpAny_newFunctionEnv_cells S.kind hkind fun env he s1 x => ?_
  subst he
  refine ⟨lim.keeps x.toInCall.keep, codeAny_func ?_⟩
  obtain ⟨t, ht, hq⟩ := hbody A outer s H vs Q E (hr.deeper _) hsp
  have I : Inv (cxOf CX P w K mg base N qual scope f cdv A outer s H E) [] (start N vs) H s1 := inv_start S hr.hd e0 hl r x
  refine wpAny_mono (ht [] s1 (start N vs) H _ I hq) (fun fl s' hs => ?_) fun e s' hs => hs
  have fin : ∀ {σ' : St} {H' : Hp} {v : V} {u : Value}, Inv (cxOf CX P w K mg base N qual scope f cdv A outer s H E) [] σ' H' s' → RelV v u → Q v H' → CE outer P w H s Q u s' :=
    fun {σ' H' v u} J rv q => ⟨v, H', J.os, J.bare, J.base, J.hok, rv, q⟩
  cases fl with
  | ret u =>
    obtain ⟨v, σ', H', J, rv, q⟩ := hs
    exact fin J rv q
  | next =>
    obtain ⟨σ', H', J, q⟩ := hs
    exact fin (v := V.non) (u := Value.none) J rfl q
  | brk =>
    obtain ⟨_, _, _, q⟩ := hs
    exact False.elim q
  | cont =>
    obtain ⟨_, _, _, q⟩ := hs
    exact False.elim q
end L2

namespace L2
open PySem PySem.Spec PyProof.Rows
section
variable {X : Cx} {x : Str} {p pos : Pos} {e : Expr} {es : List Expr} {t : TA} {id T : String} {r : List V → Hp → VK → Prop}

def tCB (r : List V → Hp → VK → Prop) (t : TA) : TE := fun σ H Q => t σ H fun vs H1 => r vs H1 Q
/-- f(e, ..), f a built-in function -/
theorem pe_callB (hc : CallR X (.builtin id) r) (hg : Gl X x) (hm : X.mg x = none) (hv : bootBuiltins x = some (.builtin id)) (ha : PA X (e :: es) t) (hn : x ≠ "__name__" := by decide) (hdb : (x == ("__debug__" : Str)) = false := by decide)
    (he : starEach (e :: es) X.env = (false, eval e X.env) :: starEach es X.env := by rfl) (hpl : (backTo pos (starEach es X.env)).any (·.1) = false := by rfl) : PE X (.Call (.Name x p) (e :: es) [] pos) (tCB r t) := by
  intro pins s σ H Q I h
  refine wpAny_Call_Name_kw (ld_blt I hg hm hv ?_ hn hdb)
  exact PyProof.Rows.callWith_builtin1 (thn (ha pos pins s σ H _ I h) fun us s1 ⟨vs, H1, I1, r1, q1⟩ => hc pins s1 σ H1 vs us Q I1 r1 q1) he hpl
/-- T(e, ..), T a built-in type -/
theorem pe_callTy (hc : CallR X (.type T) r) (hg : Gl X x) (hm : X.mg x = none) (hv : bootBuiltins x = some (.type T)) (ha : PA X (e :: es) t) (hn : x ≠ "__name__" := by decide) (hdb : (x == ("__debug__" : Str)) = false := by decide)
    (he : starEach (e :: es) X.env = (false, eval e X.env) :: starEach es X.env := by rfl) (hpl : (backTo pos (starEach es X.env)).any (·.1) = false := by rfl) : PE X (.Call (.Name x p) (e :: es) [] pos) (tCB r t) := by
  intro pins s σ H Q I h
  refine wpAny_Call_Name_kw (ld_blt I hg hm hv ?_ hn hdb)
  exact PyProof.Rows.callWith_type1 (thn (ha pos pins s σ H _ I h) fun us s1 ⟨vs, H1, I1, r1, q1⟩ => hc pins s1 σ H1 vs us Q I1 r1 q1) he hpl
end
end L2

namespace HT
open PySem PyProof.Rows

/-- t < u of tuples of ints -/
def lexLt : List Int → List Int → Bool
  | [], [] => false
  | [], _ :: _ => true
  | _ :: _, [] => false
  | x :: xs, y :: ys => if x = y then lexLt xs ys else decide (x < y)
theorem lexLt_cons (x y : Int) (xs ys : List Int) : lexLt (x :: xs) (y :: ys) = if x = y then lexLt xs ys else decide (x < y) := rfl
theorem lexLt_nil_nil : lexLt [] [] = false := rfl
theorem lexLt_nil_cons (y : Int) (ys : List Int) : lexLt [] (y :: ys) = true := rfl
theorem lexLt_cons_nil (x : Int) (xs : List Int) : lexLt (x :: xs) [] = false := rfl

theorem eqAt_int (A : Around) (s : Shared) (a : Int) (t : Tok) (c : Int) (u : Tok) : ∃ e, SeqAt.EqAt A s (.int a t) (.int c u) e ∧ (e = true ↔ a = c) :=
  ⟨(a == c), SeqAt.EqAt.int_int a t c u, by simp⟩
theorem rcLt_int (A : Around) (s : Shared) (a : Int) (t : Tok) (c : Int) (u : Tok) (prog : Program) (w : World) (E : Value → Shared → Prop) (Q : Value → Shared → Prop) (h : Q (.bool (decide (a < c))) s) :
    wpAny (model prog w) A (richCompare .Lt (.int a t) (.int c u)) Q E s :=
  (PyProof.Rows.lt_int h : wpAny (model prog w) A (compareOp .Lt (.int a t) (.int c u)) Q E s)

section
open PySem.SeqAt
open PySem.AutoSeq1 (wpAny_loadPart')
open PySem.MeetsSeq PySem.MeetsSeq2 PySem.MeetsSeq3

theorem tuple_lt_ints (l b : Addr) (items items2 : Array Value) (n n2 : Nat) (dd dd2 : Option Addr) (sl sl2 : Array (Option Value)) (ns ms : List Int) (hi : IntsAre items.toList ns) (hj : IntsAre items2.toList ms) :
    Meets (Builtin.«tuple.__lt__» ⟨[.ref l, .ref b], []⟩)
      (fun _ R s => s.heap.get? l = some { cls := .type "tuple", dict := dd, data := .seq items n, slots := sl } ∧ s.heap.get? b = some { cls := .type "tuple", dict := dd2, data := .seq items2 n2, slots := sl2 } ∧
        R (.ok (.ret (.bool (lexLt ns ms)))) s) :=
  .of_wp fun prog w A R s h => by
    obtain ⟨hp, g, d, tk, os⟩ := s; obtain ⟨hl, hb, h⟩ := h
    have f2 := AutoSeq1.sub_tuple_tuple
    have z1 : items.size = ns.length := by rw [← hi.length]; simp
    have z2 : items2.size = ms.length := by rw [← hj.length]; simp
    wp_walk using wpAny_loadPart' hl, wpAny_loadPart' hb, wpAny_forIn_list _ (fun rest b s' => b.1 = none ∧ s' = ⟨hp, g, d, tk, os⟩ ∧ ∃ (vs ws : List Value) (ns' ms' : List Int), rest = vs.zip ws ∧
      IntsAre vs ns' ∧ IntsAre ws ms' ∧ ns'.length + items2.size = ms'.length + items.size ∧ R (.ok (.ret (.bool (lexLt ns' ms')))) ⟨hp, g, d, tk, os⟩) _
    case turn =>
      rintro ⟨y, x⟩ rest b s' ⟨hb', rfl, vs, ws, ns', ms', hz, hvi, hwi, hlen, hR⟩
      cases hvi with
      | nil => rw [List.zip_nil_left] at hz; cases hz
      | cons a t hvi' =>
        cases hwi with
        | nil => rw [List.zip_nil_right] at hz; cases hz
        | cons c u hwi' =>
          rw [List.zip_cons_cons] at hz
          injection hz with hyx hrest
          injection hyx with hy hx
          subst hy hx
          rw [lexLt_cons] at hR
          simp only [List.length_cons] at hlen
          obtain ⟨e, he, hiff⟩ := eqAt_int A.in1 ⟨hp, g, d, tk, os⟩ a t c u
          refine wpAny_bind (he prog w _ _ ?_)
          cases e with
          | true =>
            rw [if_pos (hiff.mp rfl)] at hR
            wp_walk
            exact ⟨rfl, rfl, _, _, _, _, hrest, hvi', hwi', by omega, hR⟩
          | false =>
            rw [if_neg (fun q => absurd (hiff.mpr q) Bool.false_ne_true)] at hR
            have hri := rcLt_int A.in1 ⟨hp, g, d, tk, os⟩ a t c u prog w
            wp_walk using hri
            exact ⟨_, rfl, by simpa using hR⟩
    case fin =>
      rintro ⟨b1, b2⟩ s' ⟨hb', rfl, vs, ws, ns', ms', hz, hvi, hwi, hlen, hR⟩
      simp only at hb'
      subst hb'
      have hv : lexLt ns' ms' = decide (items.size < items2.size) := by
        cases hvi with
        | nil =>
          cases hwi with
          | nil =>
            simp only [List.length_nil] at hlen
            rw [lexLt_nil_nil]
            exact (decide_eq_false (by omega)).symm
          | cons c u hw =>
            simp only [List.length_nil, List.length_cons] at hlen
            rw [lexLt_nil_cons]
            exact (decide_eq_true (by omega)).symm
        | cons a t hv =>
          cases hwi with
          | nil =>
            simp only [List.length_nil, List.length_cons] at hlen
            rw [lexLt_cons_nil]
            exact (decide_eq_false (by omega)).symm
          | cons c u hw =>
            rw [List.zip_cons_cons] at hz
            cases hz
      rw [hv] at hR
      wp_walk
      exact ⟨_, rfl, by simpa [Builtin.Tuple.tupleCompareSizes] using hR⟩
    case h =>
      exact ⟨rfl, rfl, items.toList, items2.toList, ns, ms, rfl, hi, hj, by omega, h⟩
end

section
variable {prog : Program} {w : World} {A : Around} {E : Value → Shared → Prop} {s : Shared}

theorem lt_tupInts {l b : Addr} {items items2 : Array Value} {ns ms : List Int} {Q : Value → Shared → Prop} (hl : IsTup s.heap l items) (hb : IsTup s.heap b items2) (hi : IntsAre items.toList ns) (hj : IntsAre items2.toList ms)
    (hu : A.units < cLine) (h : Q (.bool (lexLt ns ms)) s) : wpAny (model prog w) A (compareOp .Lt (.ref l) (.ref b)) Q E s := by
  obtain ⟨⟨cls, dd, data, sl⟩, ho, hc, n, hd⟩ := id hl
  obtain ⟨⟨cls2, dd2, data2, sl2⟩, ho2, hc2, n2, hd2⟩ := id hb
  simp only at hc hd hc2 hd2
  subst hc hd hc2 hd2
  exact richCompare_meets_room (op := .Lt) ⟨_, ho, rfl⟩ ⟨_, ho2, rfl⟩ PySem.F.slot_tuple_lt PySem.F.entry_tuple_lt (PySem.F.args_tuple_lt_2 _ _) (tuple_lt_ints l b items items2 n n2 dd dd2 sl sl2 ns ms hi hj)
    ⟨ho, ho2, show Value.bool (lexLt ns ms) ≠ Value.notImplemented ∧ Q (.bool (lexLt ns ms)) s from ⟨(fun x => nomatch x), h⟩⟩ hu

/-- t + u, t not empty -/
theorem cat_tup {t b : Addr} {vs ws : List Value} {Q : Value → Shared → Prop} (ht : IsTup s.heap t vs.toArray) (hb : IsTup s.heap b ws.toArray) (hv : vs ≠ [])
    (h1 : ws = [] → Q (.ref t) s) (h2 : ws ≠ [] → Q (.ref s.heap.objs.size) { s with heap := s.heap.push { cls := .type "tuple", data := .seq (vs ++ ws).toArray } })
    (hsz : vs.length + ws.length ≤ sizeLine) : wpAny (model prog w) A (binaryOp .Add (.ref t) (.ref b)) Q E s := by
  obtain ⟨⟨cls, dd, data, sl⟩, ho, hc, n, hd⟩ := id ht
  obtain ⟨⟨cls2, dd2, data2, sl2⟩, ho2, hc2, n2, hd2⟩ := id hb
  simp only at hc hd hc2 hd2
  subst hc hd hc2 hd2
  have e : vs.toArray ++ ws.toArray = (vs ++ ws).toArray := by simp
  by_cases hw : ws = []
  · exact concat_meets ⟨_, ho, rfl⟩ ⟨_, ho2, rfl⟩ noFill_tuple_add seq_tuple_add PySem.F.slot_tuple_add PySem.F.entry_tuple_add (PySem.F.args_tuple_add_2 _ _)
      (tuple_addW1 t b vs.toArray ws.toArray n n2 dd dd2 sl sl2 (by simpa using hv) (by simp [hw])) ⟨ho, ho2, h1 hw⟩
  · refine concat_meets ⟨_, ho, rfl⟩ ⟨_, ho2, rfl⟩ noFill_tuple_add seq_tuple_add PySem.F.slot_tuple_add PySem.F.entry_tuple_add (PySem.F.args_tuple_add_2 _ _)
      (tuple_addW2 t b vs.toArray ws.toArray n n2 dd dd2 sl sl2 (by simpa using hv) (by simpa using hw) (by rw [List.size_toArray, List.size_toArray]; exact hsz)) ⟨ho, ho2, ?_⟩
    rw [e]
    exact h2 hw

/-! ### t[a:b], not the whole -/
/-- a slice's bound as a place among n (d where it is left out) -/
def sIx (n d : Nat) : Option Int → Nat
  | none => d
  | some v => if v < 0 then (v + (n : Int)).toNat else min v.toNat n
theorem sIx_none (n d : Nat) : sIx n d none = d := rfl
theorem sIx_nat (n d k : Nat) : sIx n d (some (k : Int)) = min k n := by
  show (if (k : Int) < 0 then ((k : Int) + (n : Int)).toNat else min (k : Int).toNat n) = min k n
  rw [if_neg (by omega), Int.toNat_natCast]
end
end HT

namespace L2
open PySem PySem.Spec PyProof.Rows

/-! ### the parts of a slice -/
abbrev TO := St → Hp → (Option Int → Hp → Prop) → Prop
/-- a slice's part (left out, or an int) -/
def PO (X : Cx) (e : Option Expr) (t : TO) : Prop :=
  ∀ (pins : List (Addr × Obj)) (s : Shared) (σ : St) (H : Hp) (Q : Option Int → Hp → Prop), Inv X pins σ H s → t σ H Q →
    wpAny (model X.prog X.w) X.A (evalPart e X.env) (fun u s' => ∃ o H', Inv X pins σ H' s' ∧ IsPart u o ∧ Q o H') X.xe s
def tNoPart : TO := fun _ H Q => Q none H
def tPart (t : TE) : TO := fun σ H Q => t σ H fun x H1 => ∃ i, x = .int i ∧ Q (some i) H1

theorem intsAre_of {ns : List Int} : ∀ {us : List Value}, Vals (ns.map V.int) us → IntsAre us ns := by
  induction ns with
  | nil => intro us r; rw [List.map_nil] at r; cases r; exact .nil
  | cons n ns ih =>
    intro us r
    rw [List.map_cons] at r
    cases r with
    | cons r1 r2 =>
      obtain ⟨t, e⟩ := r1
      subst e
      exact .cons n t (ih r2)

section
variable {X : Cx} {e : Expr} {te : TE} {lo hi : Option Expr} {tl th : TO} {pos p2 : Pos}

theorem po_none : PO X none tNoPart := by
  intro pins s σ H Q I h
  rw [evalPart_none]
  exact wpAny_pure ⟨none, H, I, .none, h⟩
theorem po_some (h : PE X e te) : PO X (some e) (tPart te) := by
  intro pins s σ H Q I hw
  rw [evalPart_some]
  refine thn (h pins s σ H _ I hw) fun u s1 ⟨x, H1, I1, r1, q1⟩ => ?_
  obtain ⟨i, rfl, q⟩ := q1
  obtain ⟨t, rfl⟩ := r1
  exact ⟨some i, H1, I1, .int i t, q⟩

/-- what a slice of a value is, by values: the slice object stands at sl -/
def SlR (X : Cx) (r : V → Option Int → Option Int → Hp → VK → Prop) : Prop :=
  ∀ (pins : List (Addr × Obj)) (s : Shared) (σ : St) (H : Hp) (x : V) (v vl vu : Value) (lo hi : Option Int) (sl : Addr) (Q : VK), Inv X pins σ H s → RelV x v → s.heap.IsSliceOf sl vl vu .none → IsPart vl lo → IsPart vu hi → r x lo hi H Q →
    ∃ T id, typeLookup (.type T) "__getitem__" = pure (some (.builtin id)) ∧ s.TypeIs v T ∧ wpAny (model X.prog X.w) X.A (getItem v (.ref sl)) (EP X pins σ Q) X.xe s
def tSl (r : V → Option Int → Option Int → Hp → VK → Prop) (te : TE) (tl th : TO) : TE := fun σ H Q => te σ H fun x H1 => tl σ H1 fun l H2 => th σ H2 fun u H3 => r x l u H3 Q
/-- a[lo:hi], any a -/
theorem pe_slice {r : V → Option Int → Option Int → Hp → VK → Prop} (hr : SlR X r) (he : PE X e te) (hl : PO X lo tl) (hu : PO X hi th) : PE X (.Subscript e (.Slice lo hi none p2) pos) (tSl r te tl th) := by
  intro pins s σ H Q I h
  refine Subscript_ (thn (he pins s σ H _ I h) fun v s1 ⟨x, H1, I1, r1, q1⟩ => ?_)
  refine wpAny_Slice (thn (hl pins s1 σ H1 _ I1 q1) fun vl s2 ⟨l, H2, I2, pl, q2⟩ => thn (hu pins s2 σ H2 _ I2 q2) fun vu s3 ⟨u, H3, I3, pu, q3⟩ => ?_)
  rw [evalPart_none]
  refine wpAny_pure ?_
  have I4 : Inv X pins σ H3 { s3 with heap := s3.heap.push { cls := .type "slice", data := .fields #[vl, vu, .none] } } := I3.kept (t' := s3.toks) fun b ob q => Heap.get?_push_of_some _ q
  obtain ⟨T, id, hT, ht, hg⟩ := hr pins { s3 with heap := s3.heap.push { cls := .type "slice", data := .fields #[vl, vu, .none] } } σ H3 x v vl vu l u s3.heap.objs.size Q I4 r1 (Heap.IsSliceOf.new ..) pl pu q3
  show wpAny (model X.prog X.w) X.A (subscriptTail e (.Slice lo hi none p2) v (.ref s3.heap.objs.size)) (EP X pins σ Q) X.xe { s3 with heap := s3.heap.push { cls := .type "slice", data := .fields #[vl, vu, .none] } }
  exact tail_any (ops := [.ref s3.heap.objs.size, v]) ht hT hg (by with_unfolding_all rfl)

/-- the items of xs[lo:hi] -/
def cutV (xs : List V) (lo hi : Option Int) : List V := (xs.drop (HT.sIx xs.length 0 lo)).take (HT.sIx xs.length xs.length hi - HT.sIx xs.length 0 lo)
theorem cutV_length (xs : List V) (lo hi : Option Int) : (cutV xs lo hi).length ≤ xs.length := by
  unfold cutV
  rw [List.length_take, List.length_drop]
  omega
/-! ### t < u, t + u -/
def rLtT (K : PySem.W.Frag) : R2 := fun x y H Q => ∃ a b ns ms, x = .ref a ∧ y = .ref b ∧ SqT K H a (ns.map V.int) ∧ SqT K H b (ms.map V.int) ∧ Q (.bl (HT.lexLt ns ms)) H
theorem op_ltT (hu : X.A.units < cLine) : OpR X (compareOp .Lt) (rLtT X.K) := by
  intro pins s σ H x y v u Q I rx ry h
  obtain ⟨a, b, ns, ms, rfl, rfl, ha, hb, q⟩ := h
  cases rx
  cases ry
  obtain ⟨its, r1, p1, _⟩ := I.tuple ha
  obtain ⟨its2, r2, p2, _⟩ := I.tuple hb
  have i1 : IntsAre its.toArray.toList ns := intsAre_of r1
  have i2 : IntsAre its2.toArray.toList ms := intsAre_of r2
  exact HT.lt_tupInts p1 p2 i1 i2 hu ⟨.bl (HT.lexLt ns ms), H, I, rfl, q⟩
theorem Vals.nil_iff {xs : List V} {us : List Value} (r : Vals xs us) : us = [] ↔ xs = [] := by
  cases r with
  | nil => simp
  | cons _ _ => simp
end
end L2

namespace L2
open PySem PySem.Spec PyProof.Rows

/-! ### places -/
/-- the place that an index of any sign means -/
def ixN (n : Nat) (i : Int) : Option Nat := if 0 ≤ i then (if i < n then some i.toNat else none) else if -(n : Int) ≤ i then some (i + n).toNat else none
def atI {α : Type} (xs : List α) (i : Int) : Option α := (ixN xs.length i).bind fun j => xs[j]?
theorem ixN_seq {n : Nat} {i : Int} {j : Nat} (h : ixN n i = some j) : seqIndex? i n = some j ∧ j < n ∧ -(n : Int) ≤ i ∧ i < n := by
  unfold ixN at h
  by_cases h0 : 0 ≤ i
  · rw [if_pos h0] at h
    by_cases h1 : i < n
    · rw [if_pos h1] at h
      have e : i.toNat = j := Option.some.inj h
      exact ⟨by rw [seqIndex_of h0 h1, e], by omega, by omega, h1⟩
    · rw [if_neg h1] at h; cases h
  · rw [if_neg h0] at h
    by_cases h1 : -(n : Int) ≤ i
    · rw [if_pos h1] at h
      have e : (i + n).toNat = j := Option.some.inj h
      exact ⟨by rw [seqIndex_neg (by omega) h1, e], by omega, h1, by omega⟩
    · rw [if_neg h1] at h; cases h
theorem atI_get {α : Type} {xs : List α} {i : Int} {v : α} (h : atI xs i = some v) : ∃ j, seqIndex? i xs.length = some j ∧ xs[j]? = some v ∧ j < xs.length ∧ -(xs.length : Int) ≤ i ∧ i < xs.length := by
  unfold atI at h
  cases e : ixN xs.length i with
  | none => rw [e] at h; cases h
  | some j =>
    rw [e] at h
    obtain ⟨h1, h2, h3, h4⟩ := ixN_seq e
    exact ⟨j, h1, h, h2, h3, h4⟩
theorem atI_nat {α : Type} {xs : List α} {j : Nat} {v : α} (h : xs[j]? = some v) : atI xs (j : Int) = some v := by
  have hj : j < xs.length := (List.getElem?_eq_some_iff.mp h).1
  have e : ixN xs.length (j : Int) = some j := by
    unfold ixN
    rw [if_pos (by omega), if_pos (by omega)]; simp
  unfold atI; rw [e]; exact h
/-! ### what may be subscripted -/
/-- what stands as an index of a plain subscript -/
def PlainIx (b : Expr) : Prop := ∀ o i, subscripted b false o i = operate [o, i] (getItem o i)
/-- a subscript by values -/
def IxR (X : Cx) (r : R2) : Prop :=
  ∀ (value slice : Expr) (pins : List (Addr × Obj)) (s : Shared) (σ : St) (H : Hp) (x y : V) (v u : Value) (Q : VK), Inv X pins σ H s → RelV x v → RelV y u → r x y H Q →
    subscripted slice false v u = operate [v, u] (getItem v u) → wpAny (model X.prog X.w) X.A (subscriptTail value slice v u) (EP X pins σ Q) X.xe s
/-- a call of a builtin's method by values: the receiver, the arguments -/
def MtR (X : Cx) (id : String) (r : V → List V → Hp → VK → Prop) : Prop :=
  ∀ (pins : List (Addr × Obj)) (s : Shared) (σ : St) (H : Hp) (x : V) (xs : List V) (v : Value) (us : List Value) (Q : VK), Inv X pins σ H s → RelV x v → Vals xs us → r x xs H Q →
    wpAny (model X.prog X.w) X.A (call (.builtin id) (v :: us)) (EP X pins σ Q) X.xe s
section
variable {X : Cx} {a b : Expr} {ta tb : TE} {pos : Pos}
/-- a[b] -/
theorem pe_ix {r : R2} (hr : IxR X r) (ha : PE X a ta) (hb : PE X b tb) (hs : PlainIx b) : PE X (.Subscript a b pos) (tOp r ta tb) := by
  intro pins s σ H Q I h
  exact Subscript_ (binT ha hb I h fun v u s2 x y H2 I2 rx ry q => hr a b pins s2 σ H2 x y v u Q I2 rx ry q (hs _ _))

def rIxL (K : PySem.W.Frag) : R2 := fun x y H Q => ∃ p xs i v, x = .ref p ∧ y = .int i ∧ SqL K H p xs ∧ atI xs i = some v ∧ Q v H
theorem ix_list : IxR X (rIxL X.K) := by
  intro value slice pins s σ H x y v u Q I rx ry h hs
  obtain ⟨p, xs, i, z, rfl, rfl, hq, he, q⟩ := h
  cases rx
  obtain ⟨t, rfl⟩ := ry
  obtain ⟨its, r, pl, hz⟩ := I.list hq
  obtain ⟨j, h1, h2, h3, h4, h5⟩ := atI_get he
  obtain ⟨w, ew, rw'⟩ := r.get h2
  have hl := r.length
  have hn := line63
  have fin : EP X pins σ Q w s := ⟨z, H, I, rw', q⟩
  by_cases h0 : 0 ≤ i
  · have hj : i.toNat = j := by
      rw [seqIndex_of h0 h5] at h1
      exact Option.some.inj h1
    exact item_listR pl.isList h0 (by omega) (by rw [hj]; simpa using ew) fin hs
  · have hj : (i + (its.toArray.size : Int)).toNat = j := by
      rw [seqIndex_neg (by omega) h4] at h1
      rw [List.size_toArray, ← hl]
      exact Option.some.inj h1
    exact subscriptTail_builtinR (x := w) pl.isList.typeIs slot_list_getitem.lookup
      (wpAny_getItem_list_neg (Q := fun r s' => r = w ∧ EP X pins σ Q r s') pl.isList (by omega) (by rw [List.size_toArray] <;> omega) (by omega) (by rw [hj]; simpa using ew) ⟨rfl, fin⟩) hs
/-! ### xs[i] = v, any sign -/
/-- the list's object behind a store -/
theorem mapSeq_set (its : List Value) (n j : Nat) (u : Value) : Obj.mapSeq (·.setIfInBounds j u) { cls := .type "list", data := .seq its.toArray n } = { cls := .type "list", data := .seq (its.set j u).toArray n } := by
  simp [Obj.mapSeq]
theorem Inv.lst {pins : List (Addr × Obj)} {σ : St} {H : Hp} {s : Shared} {p : Addr} {xs : List V} (I : Inv X pins σ H s) (h : H p = some (.lst xs)) :
    ∃ (its : List Value) (n : Nat), Vals xs its ∧ s.heap.get? p = some { cls := .type "list", data := .seq its.toArray n } ∧ xs.length ≤ sizeLine := by
  obtain ⟨z, its, n, r, e⟩ := I.hok p _ h
  exact ⟨its, n, r, e, z⟩
/-- the list at p is written by an update of its object -/
theorem Inv.lstUpd {pins : List (Addr × Obj)} {σ : St} {H : Hp} {s : Shared} {p : Addr} {xs ys : List V} {its its' : List Value} {n n' : Nat} {f : Obj → Obj} (I : Inv X pins σ H s) (h : H p = some (.lst xs))
    (ho : s.heap.get? p = some { cls := .type "list", data := .seq its.toArray n }) (hf : f { cls := .type "list", data := .seq its.toArray n } = { cls := .type "list", data := .seq its'.toArray n' }) (r : Vals ys its') (hz : ys.length ≤ sizeLine) (t : Nat) :
    Inv X pins σ (upd H p (.lst ys)) { s with heap := s.heap.update p f, toks := t } := by
  have e : (s.heap.update p f).get? p = some { cls := .type "list", data := .seq its'.toArray n' } := by
    rw [Heap.get?_update_self f ho (by rw [hf] <;> rfl), hf]
  refine I.write (x := p) (e := p) (by rw [h]; trivial) (.inl rfl) (fun b u hb q => (Heap.get?_update_other _ _ (Ne.symm hb)).trans q) ⟨_, e⟩ ?_
  exact ⟨hz, its', n', r, e⟩
def rSetL : V → V → V → Hp → (Hp → Prop) → Prop := fun o i v H Q => ∃ p xs k j, o = .ref p ∧ i = .int k ∧ H p = some (.lst xs) ∧ ixN xs.length k = some j ∧ Q (upd H p (.lst (xs.set j v)))
theorem set_list : PSet X rSetL := by
  intro pins s σ H o i v ov iv u Q I ro ri rv h
  obtain ⟨p, xs, k, j, rfl, rfl, hp, hj, q⟩ := h
  cases ro
  obtain ⟨t, rfl⟩ := ri
  obtain ⟨its, n, r, ho, hz⟩ := I.lst hp
  obtain ⟨h1, h2, h3, h4⟩ := ixN_seq hj
  have hl := r.length
  have hn := line63
  have I' : Inv X pins σ (upd H p (.lst (xs.set j v))) { s with heap := s.heap.update p (Obj.mapSeq (·.setIfInBounds j u)) } :=
    I.lstUpd hp ho (mapSeq_set its n j u) (r.set rv j) (by rw [List.length_set]; exact hz) s.toks
  by_cases h0 : 0 ≤ k
  · have hk : k.toNat = j := by
      rw [seqIndex_of h0 h4] at h1
      exact Option.some.inj h1
    exact PySem.W.ki_setAt ho h0 (by omega) (by rw [List.size_toArray, ← hl]; exact h4) (by rw [hk]; exact ⟨_, I', q⟩)
  · have hk : (k + (its.toArray.size : Int)).toNat = j := by
      rw [seqIndex_neg (by omega) h3] at h1
      rw [List.size_toArray, ← hl]
      exact Option.some.inj h1
    exact PySem.W.ki_setBack ho (by omega) (by rw [List.size_toArray, ← hl]; exact h3) (by omega) (by rw [hk]; exact ⟨_, I', q⟩)

/-! ### slices -/
theorem slice_bounds (lo hi : Option Int) (n : Nat) : (sliceBounds lo hi none n).1 = ((HT.sIx n 0 lo : Nat) : Int) ∧ (sliceBounds lo hi none n).2.1 = ((HT.sIx n n hi : Nat) : Int) ∧ (sliceBounds lo hi none n).2.2 = 1 := by
  refine ⟨?_, ?_, rfl⟩
  · cases lo with
    | none => simp [sliceBounds, HT.sIx]
    | some i =>
      simp only [sliceBounds, HT.sIx, Option.getD_none, show (1 : Int) > 0 by decide, if_true]
      by_cases h : i < 0
      · simp only [h, if_true] <;> omega
      · simp only [h, if_false] <;> omega
  · cases hi with
    | none => simp [sliceBounds, HT.sIx]
    | some i =>
      simp only [sliceBounds, HT.sIx, Option.getD_none, show (1 : Int) > 0 by decide, if_true]
      by_cases h : i < 0
      · simp only [h, if_true] <;> omega
      · simp only [h, if_false] <;> omega
theorem slicePick_cut (its : List Value) (lo hi : Option Int) : slicePick its.toArray lo hi none = ((its.drop (HT.sIx its.length 0 lo)).take (HT.sIx its.length its.length hi - HT.sIx its.length 0 lo)).toArray := by
  obtain ⟨h1, h2, h3⟩ := slice_bounds lo hi its.toArray.size
  unfold slicePick
  rw [h1, h2, h3]
  simp only [sliceRange_one, pick_run, List.size_toArray] <;> rfl
/-- xs[lo:hi] of a list: a new list -/
def rSlL (K : PySem.W.Frag) : V → Option Int → Option Int → Hp → VK → Prop := fun x lo hi H Q => ∃ a xs, x = .ref a ∧ SqL K H a xs ∧ ∀ p, H p = none → Q (.ref p) (upd H p (.lst (cutV xs lo hi)))
theorem sl_list : SlR X (rSlL X.K) := by
  intro pins s σ H x v vl vu lo hi sl Q I rx hs pl pu h
  obtain ⟨a, xs, rfl, hx, q⟩ := h
  cases rx
  obtain ⟨its, r, ht, hz⟩ := I.list hx
  have hlen := r.length
  refine ⟨"list", _, slot_list_getitem.lookup, ht.isList.typeIs, ?_⟩
  refine wpAny_getItem_list_slice ht.isList hs pl pu .none (by simp) ?_ (by rw [List.size_toArray] <;> omega)
  rw [slicePick_cut, ← hlen]
  refine ⟨.ref s.heap.objs.size, _, I.laid (t' := s.toks) (o := .lst (cutV xs lo hi)) (fun b ob q => Heap.get?_push_of_some _ q) (Nat.le_refl _) ?_, rfl, q _ (I.hok.fresh (Nat.le_refl _))⟩
  exact ⟨Nat.le_trans (cutV_length xs lo hi) hz, _, 0, (r.drop (HT.sIx xs.length 0 lo)).take (HT.sIx xs.length xs.length hi - HT.sIx xs.length 0 lo), Heap.get?_push_size _ rfl⟩

/-! ### in, not in: flat items -/
def flatV : V → Bool
  | .non => true
  | .bl _ => true
  | .int _ => true
  | .str _ => true
  | _ => false
/-- == of flat values -/
def eqV : V → V → Bool
  | .non, .non => true
  | .bl a, .bl b => a == b
  | .bl a, .int b => (if a then 1 else 0) == b
  | .int a, .bl b => a == (if b then 1 else 0)
  | .int a, .int b => a == b
  | .str a, .str b => a == b
  | _, _ => false
theorem eqAt_V {A : Around} {s : Shared} {y x : V} {u v : Value} (ry : RelV y u) (rx : RelV x v) (fy : flatV y = true) (fx : flatV x = true) : SeqAt.EqAt A s u v (eqV y x) := by
  cases y with
  | non =>
    cases ry
    cases x with
    | non => cases rx; exact SeqAt.EqAt.same _
    | bl b => cases rx; exact SeqAt.EqAt.none_bool b
    | int b => obtain ⟨t, rfl⟩ := rx; exact SeqAt.EqAt.none_int b t
    | str b => obtain ⟨t, rfl⟩ := rx; exact SeqAt.EqAt.none_str b t
    | _ => exact absurd (show false = true from fx) Bool.false_ne_true
  | bl a =>
    cases ry
    cases x with
    | non => cases rx; exact SeqAt.EqAt.bool_none a
    | bl b => cases rx; exact SeqAt.EqAt.bool_bool a b
    | int b => obtain ⟨t, rfl⟩ := rx; exact SeqAt.EqAt.bool_int a b t
    | str b => obtain ⟨t, rfl⟩ := rx; exact SeqAt.EqAt.bool_str a b t
    | _ => exact absurd (show false = true from fx) Bool.false_ne_true
  | int a =>
    obtain ⟨t', rfl⟩ := ry
    cases x with
    | non => cases rx; exact SeqAt.EqAt.int_none a t'
    | bl b => cases rx; exact SeqAt.EqAt.int_bool a t' b
    | int b => obtain ⟨t, rfl⟩ := rx; exact SeqAt.EqAt.int_int a t' b t
    | str b => obtain ⟨t, rfl⟩ := rx; exact SeqAt.EqAt.int_str a t' b t
    | _ => exact absurd (show false = true from fx) Bool.false_ne_true
  | str a =>
    obtain ⟨t', rfl⟩ := ry
    cases x with
    | non => cases rx; exact SeqAt.EqAt.str_none a t'
    | bl b => cases rx; exact SeqAt.EqAt.str_bool a t' b
    | int b => obtain ⟨t, rfl⟩ := rx; exact SeqAt.EqAt.str_int a t' b t
    | str b => obtain ⟨t, rfl⟩ := rx; exact SeqAt.EqAt.str_str a t' b t
    | _ => exact absurd (show false = true from fx) Bool.false_ne_true
  | _ => exact absurd (show false = true from fy) Bool.false_ne_true
/-! ### len, list(x), tuple(x) of any list or tuple that is read -/
theorem call_len_seq : CallR X (.builtin "len") (fun xs H Q => ∃ p ys, xs = [.ref p] ∧ (SqL X.K H p ys ∨ SqT X.K H p ys) ∧ Q (.int ys.length) H) := by
  intro pins s σ H xs us Q I r h
  obtain ⟨p, ys, rfl, hq, q⟩ := h
  obtain ⟨u, rfl, rx⟩ := vals1 r
  cases rx
  have hn := line63
  rcases hq with hq | hq
  · obtain ⟨its, r', pl, hz⟩ := I.list hq
    have hlen := r'.length
    exact Calls.call_len_list pl.isList (by simp only [List.size_toArray] <;> omega) ⟨.int ys.length, H, I.tok _, ⟨s.toks + 1, by rw [List.size_toArray, hlen]⟩, q⟩
  · obtain ⟨its, r', pl, hz⟩ := I.tuple hq
    have hlen := r'.length
    exact len_tuple pl (by simp only [List.size_toArray] <;> omega) ⟨.int ys.length, H, I.tok _, ⟨s.toks + 1, by rw [List.size_toArray, hlen]⟩, q⟩
theorem call_list_of : CallR X (.type "list") (fun xs H Q => ∃ p ys, xs = [.ref p] ∧ (SqL X.K H p ys ∨ SqT X.K H p ys) ∧ ∀ l, H l = none → Q (.ref l) (upd H l (.lst ys))) := by
  intro pins s σ H xs us Q I r h
  obtain ⟨p, ys, rfl, hq, q⟩ := h
  obtain ⟨u, rfl, rx⟩ := vals1 r
  cases rx
  have fin : ∀ (its : List Value), Vals ys its → ys.length ≤ sizeLine → ∀ (h' : Heap) (c' : Nat), (∀ b o', s.heap.get? b = some o' → h'.get? b = some o') →
      h'.get? s.heap.objs.size = some { cls := .type "list", dict := none, data := .seq its.toArray c', slots := #[] } → EP X pins σ Q (.ref s.heap.objs.size) { s with heap := h' } := fun its r' hz h' c' kp e =>
    ⟨.ref s.heap.objs.size, _, I.laid (t' := s.toks) kp (Nat.le_refl _) (show ObjOk X.prog X.w _ h' _ (.lst ys) from ⟨hz, its, c', r', e⟩), rfl, q _ (I.hok.fresh (Nat.le_refl _))⟩
  rcases hq with hq | hq
  · obtain ⟨its, r', pl, hz⟩ := I.list hq
    have hlen := r'.length
    obtain ⟨o, ho, hc, n, hd⟩ := pl.isList
    exact call_list_seq p (.inl rfl) ho hc hd (fun h' c' kp e => fin its r' hz h' c' kp e) (by simp only [List.size_toArray] <;> omega)
  · obtain ⟨its, r', pl, hz⟩ := I.tuple hq
    have hlen := r'.length
    obtain ⟨o, ho, hc, n, hd⟩ := pl
    exact call_list_seq p (.inr rfl) ho hc hd (fun h' c' kp e => fin its r' hz h' c' kp e) (by simp only [List.size_toArray] <;> omega)
theorem call_tuple_of : CallR X (.type "tuple") (fun xs H Q => ∃ p ys, xs = [.ref p] ∧ ((SqL X.K H p ys ∧ ∀ l, H l = none → Q (.ref l) (upd H l (.tup ys))) ∨ (SqT X.K H p ys ∧ Q (.ref p) H))) := by
  intro pins s σ H xs us Q I r h
  obtain ⟨p, ys, rfl, h⟩ := h
  obtain ⟨u, rfl, rx⟩ := vals1 r
  cases rx
  rcases h with ⟨hq, q⟩ | ⟨hq, q⟩
  · obtain ⟨its, r', pl, hz⟩ := I.list hq
    have hlen := r'.length
    refine call_tuple_list pl.isList (fun h' kp => ?_) (by simp only [List.size_toArray] <;> omega)
    have I1 : Inv X pins σ H { s with heap := h' } := I.kept (t' := s.toks) kp
    have I2 : Inv X pins σ (upd H h'.objs.size (.tup ys)) { s with heap := h'.push { cls := .type "tuple", data := .seq its.toArray } } :=
      I1.laid (t' := s.toks) (fun b o e => Heap.get?_push_of_some _ e) (Nat.le_refl _) (show ObjOk X.prog X.w _ _ _ (.tup ys) from ⟨hz, its, r', IsTup.new _ _⟩)
    exact ⟨.ref h'.objs.size, _, I2, rfl, q _ (I1.hok.fresh (Nat.le_refl _))⟩
  · obtain ⟨its, r', pl, hz⟩ := I.tuple hq
    exact call_tuple_same pl ⟨.ref p, H, I, rfl, q⟩

/-! ### the call of a builtin's method: o.m(..) -/
/-- the value is of that builtin type -/
def tyV (K : PySem.W.Frag) (T : String) (x : V) (H : Hp) : Prop := match x with
  | .str _ => T = "str"
  | .int _ => T = "int"
  | .ref p => (T = "list" ∧ ∃ xs, SqL K H p xs) ∨ (T = "tuple" ∧ ∃ o, K.lookup p = some o ∧ o.cls = .type "tuple" ∧ o.dict = none) ∨
      (T = "dict" ∧ ((∃ kvs, H p = some (.dK kvs)) ∨ ∃ kvs, H p = some (.dT kvs))) ∨ (T = "set" ∧ ∃ S n, H p = some (.set S n))
  | _ => False
theorem tyV_is {pins : List (Addr × Obj)} {σ : St} {H : Hp} {s : Shared} {T : String} {x : V} {v : Value} (I : Inv X pins σ H s) (r : RelV x v) (ty : tyV X.K T x H) :
    s.TypeIs v T ∧ ∀ a, v = .ref a → ∃ ob, s.heap.get? a = some ob ∧ ob.dict = none := by
  cases x with
  | str z =>
    obtain ⟨t, rfl⟩ := r
    cases (show T = "str" from ty)
    exact ⟨typeIs_str s z t, fun _ e => nomatch e⟩
  | int i =>
    obtain ⟨t, rfl⟩ := r
    cases (show T = "int" from ty)
    exact ⟨typeIs_int s i t, fun _ e => nomatch e⟩
  | ref p =>
    cases r
    rcases ty with ⟨rfl, xs, hq⟩ | ⟨rfl, o, hk, hc, hd⟩ | ⟨rfl, hk⟩ | ⟨rfl, S, n, hk⟩
    · obtain ⟨its, _, pl, _⟩ := I.list hq
      refine ⟨pl.isList.typeIs, fun a e => ?_⟩
      cases e
      obtain ⟨o, n, e, c, hd, _⟩ := pl
      exact ⟨o, e, hd⟩
    · refine ⟨⟨o, I.kIn p o hk, hc⟩, fun a e => ?_⟩
      cases e
      exact ⟨o, I.kIn _ o hk, hd⟩
    · have z : ∃ o, s.heap.get? p = some o ∧ o.ExactDict := by
        rcases hk with ⟨kvs, hk⟩ | ⟨kvs, hk⟩
        · obtain ⟨_, _, _, _, o, _, _, e, ex, _⟩ := I.hok p _ hk
          exact ⟨o, e, ex⟩
        · obtain ⟨_, _, _, _, o, _, _, e, ex, _⟩ := I.hok p _ hk
          exact ⟨o, e, ex⟩
      obtain ⟨o, e, ex⟩ := z
      refine ⟨⟨o, e, ex.1⟩, fun a e2 => ?_⟩
      cases e2
      exact ⟨o, e, ex.2.1⟩
    · obtain ⟨o, _, _, _, e, ex, _⟩ := I.hok p _ hk
      refine ⟨⟨o, e, ex.1⟩, fun a e2 => ?_⟩
      cases e2
      exact ⟨o, e, ex.2.1⟩
  | _ => exact False.elim ty
def tBM0 (K : PySem.W.Frag) (T : String) (r : V → List V → Hp → VK → Prop) (to : TE) : TE := fun σ H Q => to σ H fun x H1 => tyV K T x H1 ∧ r x [] H1 Q
def tBM (K : PySem.W.Frag) (T : String) (r : V → List V → Hp → VK → Prop) (to : TE) (t : TA) : TE := fun σ H Q => to σ H fun x H1 => tyV K T x H1 ∧ t σ H1 fun xs H2 => r x xs H2 Q
variable {o e : Expr} {es : List Expr} {to : TE} {t : TA} {name : Str} {apos cpos : Pos} {T id : String} {r : V → List V → Hp → VK → Prop}
theorem pe_bm0 (pa : PlainAttrs T) (slot : Slot T name id) (hty : typeOf (.builtin id) = pure (.type "method_descriptor")) (hm : MtR X id r) (ho : PE X o to)
    (hbase : attributeBase o name X.env (eval o X.env) = eval o X.env := by rfl) (hline : (apos.endLine == cpos.line) = true := by rfl) : PE X (.Call (.Attribute o name apos) [] [] cpos) (tBM0 X.K T r to) := by
  intro pins s σ H Q I h
  refine wpAny_Call_method0_late hbase hline (thn (ho pins s σ H _ I h) fun v s1 ⟨x, H1, I1, r1, ty, q1⟩ => ?_)
  obtain ⟨h1, h2⟩ := tyV_is I1 r1 ty
  exact ⟨T, id, pa, slot, hty, h1, h2, Calls.callWith_builtin rfl (PySem.evalArgs_none (hm pins s1 σ H1 x [] v [] Q I1 r1 .nil q1))⟩
theorem pe_bm (pa : PlainAttrs T) (slot : Slot T name id) (hty : typeOf (.builtin id) = pure (.type "method_descriptor")) (hm : MtR X id r) (ho : PE X o to) (ha : PA X (e :: es) t)
    (hbase : attributeBase o name X.env (eval o X.env) = eval o X.env := by rfl)
    (hfew : ((backTo cpos (starEach (e :: es) X.env)).all (fun x => !x.1) && (backToKw cpos (keywordEach [] X.env)).all (fun x => x.1.isSome)
      && decide ((e :: es).length + ([] : List Keyword).length + (if ([] : List Keyword).isEmpty then 0 else 1) < 30)) = true := by rfl)
    (hline : (apos.endLine == cpos.line) = true := by rfl) (hs : starEach (e :: es) X.env = (false, eval e X.env) :: starEach es X.env := by rfl) (hplain : (backTo cpos (starEach es X.env)).any (·.1) = false := by rfl) :
    PE X (.Call (.Attribute o name apos) (e :: es) [] cpos) (tBM X.K T r to t) := by
  intro pins s σ H Q I h
  refine wpAny_Call_method_late hbase hfew hline rfl (thn (ho pins s σ H _ I h) fun v s1 ⟨x, H1, I1, r1, ty, q1⟩ => ?_)
  obtain ⟨h1, h2⟩ := tyV_is I1 r1 ty
  refine ⟨T, id, pa, slot, hty, h1, h2, ?_⟩
  have hA := ha cpos pins s1 σ H1 _ I1 q1
  rw [hs] at hA ⊢
  refine Calls.callWith_builtin (by show (false || (backTo cpos (starEach es X.env)).any (·.1)) = false; rw [hplain] <;> rfl) (Calls.evalArgs_plain ?_)
  exact thn hA fun us s2 ⟨vs, H2, I2, r2, q2⟩ => hm pins s2 σ H2 x vs v us Q I2 r1 r2 q2
/- xs.append(e), list.index on a module's tuple .. are MtR facts of 06m -/
end
end L2

namespace L2
open PySem PySem.Spec PyProof.Rows

def MtM (X : Cx) (id : String) (r : V → List V → Hp → VK → Prop) : Prop :=
  ∀ (pins : List (Addr × Obj)) (s : Shared) (σ : St) (H : Hp) (x : V) (xs : List V) (v : Value) (us : List Value) (Q : VK), Inv X pins σ H s → RelV x v → Vals xs us → r x xs H Q →
    wpAny (model X.prog X.w) X.A (call (.builtin id) (v :: us)) (EP X pins σ Q) X.xe s

/-! ### lists of values -/
theorem Vals.one : ∀ {x : V} {us : List Value}, Vals [x] us → ∃ u, us = [u] ∧ RelV x u
  | _, _, .cons r .nil => ⟨_, rfl, r⟩
theorem Vals.two : ∀ {x y : V} {us : List Value}, Vals [x, y] us → ∃ u v, us = [u, v] ∧ RelV x u ∧ RelV y v
  | _, _, _, .cons r (.cons q .nil) => ⟨_, _, rfl, r, q⟩
theorem Vals.zero : ∀ {us : List Value}, Vals [] us → us = []
  | _, .nil => rfl
theorem Vals.dropLast {xs : List V} {us : List Value} (h : Vals xs us) : Vals xs.dropLast us.dropLast := by
  induction h with
  | nil => exact .nil
  | cons r t ih =>
    cases t with
    | nil => exact .nil
    | cons q t' => exact .cons r ih
theorem erase_last {α : Type} (l : List α) : l.eraseIdx (l.length - 1) = l.dropLast := by
  induction l with
  | nil => rfl
  | cons a r ih =>
    cases r with
    | nil => rfl
    | cons b r =>
      have e : (a :: b :: r).length - 1 = ((b :: r).length - 1) + 1 := by
        have h1 : (a :: b :: r).length = r.length + 2 := rfl
        have h2 : (b :: r).length = r.length + 1 := rfl
        omega
      rw [e, List.eraseIdx_cons_succ, ih]
      all_goals rfl
section
variable {X : Cx} {pins : List (Addr × Obj)} {σ : St} {H : Hp} {s : Shared} {l b : Addr} {xs ys zs : List V}

/-! ### the two steps: a tracked list is rewritten, a new list is laid -/
theorem Inv.lset {its its' : List Value} {n : Nat} {f : Array Value → Array Value} {t' : Nat} (I : Inv X pins σ H s) (hH : H l = some (.lst xs))
    (e : s.heap.get? l = some { cls := .type "list", data := .seq its.toArray n }) (hf : f its.toArray = its'.toArray) (hv : Vals ys its') (hz : ys.length ≤ sizeLine) :
    Inv X pins σ (upd H l (.lst ys)) { s with heap := s.heap.update l (Obj.mapSeq f), toks := t' } := by
  have q := PySem.IsL.update e f
  rw [hf] at q
  refine I.write (x := l) (e := l) (by rw [hH]; exact trivial) (.inl rfl) (fun b' u hb hu => (Heap.get?_update_other s.heap (Obj.mapSeq f) (Ne.symm hb)).trans hu) ⟨_, q⟩ ?_
  exact ⟨hz, its', _, hv, q⟩
theorem Inv.fresh (I : Inv X pins σ H s) : H s.heap.objs.size = none := I.hok.fresh (Nat.le_refl _)
theorem Inv.lstM (I : Inv X pins σ H s) (hH : H l = some (.lst xs)) : xs.length ≤ sizeLine ∧ ∃ (its : List Value) (n : Nat), Vals xs its ∧ xs.length = its.length ∧ s.heap.get? l = some { cls := .type "list", data := .seq its.toArray n } := by
  obtain ⟨z, its, n, r, e⟩ := I.hok l _ hH
  exact ⟨z, its, n, r, r.length, e⟩

theorem notLongL {n : Nat} (h : n ≤ sizeLine) : Builtin.List.listTooLong n = false := by
  unfold Builtin.List.listTooLong
  exact decide_eq_false (by omega)
end

section
variable {X : Cx}

/-! ### methods -/
def rAppend : V → List V → Hp → VK → Prop := fun x vs H Q => ∃ l xs y, x = .ref l ∧ vs = [y] ∧ H l = some (.lst xs) ∧ xs.length < sizeLine ∧ Q .non (upd H l (.lst (xs ++ [y])))
theorem mt_append : MtM X "list.append" rAppend := by
  intro pins s σ H x vs v us Q I rx rv h
  obtain ⟨l, xs, y, rfl, rfl, hH, hz, q⟩ := h
  cases rx
  obtain ⟨u, rfl, ru⟩ := rv.one
  obtain ⟨z, its, n, r, hl, e⟩ := I.lstM hH
  refine call_meets F.slot_list_append ⟨_, e, rfl⟩ F.entry_list_append (F.args_list_append_2 _ _) (PySem.list_append l its.toArray n u (by rw [List.size_toArray]; omega)) ⟨e, ?_⟩
  refine ⟨.non, _, I.lset (its' := its ++ [u]) hH e (by simp) (r.append (.cons ru .nil)) ?_, rfl, q⟩
  rw [List.length_append, List.length_singleton]
  omega

def rPop : V → List V → Hp → VK → Prop := fun x vs H Q => ∃ l xs y, x = .ref l ∧ vs = [] ∧ H l = some (.lst xs) ∧ xs[xs.length - 1]? = some y ∧ Q y (upd H l (.lst xs.dropLast))
theorem mt_pop : MtM X "list.pop" rPop := by
  intro pins s σ H x vs v us Q I rx rv h
  obtain ⟨l, xs, y, rfl, rfl, hH, hy, q⟩ := h
  cases rx
  have hus := rv.zero
  subst hus
  obtain ⟨z, its, n, r, hl, e⟩ := I.lstM hH
  obtain ⟨u, hu, ru⟩ := r.get hy
  have hy' : its.toArray[its.toArray.size - 1]? = some u := by
    show its.toArray[its.length - 1]? = some u
    rw [← Array.getElem?_toList, ← hl]
    exact hu
  refine call_meets F.slot_list_pop ⟨_, e, rfl⟩ F.entry_list_pop (F.args_list_pop_1 _) (MeetsSeq.list_pop_last l its.toArray n u hy' (by rw [List.size_toArray]; omega)) ⟨e, ?_⟩
  refine ⟨y, _, I.lset (its' := its.dropLast) hH e ?_ r.dropLast ?_, ru, q⟩
  · show its.toArray.eraseIdxIfInBounds (its.toArray.size - 1) = its.dropLast.toArray
    rw [List.size_toArray, List.eraseIdxIfInBounds_toArray, erase_last]
  · rw [List.length_dropLast]
    omega

/-! ### list + list, list += list, list * int -/
/-! ### del xs[i] -/
end

/-! ### xs[a:b] = ys -/
section
variable {prog : Program} {w : World} {A : Around} {E : Value → Shared → Prop} {s : Shared}
theorem splice_eq (its its2 : List Value) (a c : Nat) : its.toArray.extract 0 a ++ its2.toArray ++ its.toArray.extract c its.toArray.size = (its.take a ++ its2 ++ its.drop c).toArray := by
  apply Array.toList_inj.mp
  first
    | (simp
       exact List.take_of_length_le (by simp))
    | simp [List.take_of_length_le]
    | simp
end

section
variable {X : Cx}
end
end L2

namespace Att
open PySem PySem.W PySem.Calls PyProof.Rows

/-! ### the script -/
theorem ints_of_wellAll {P : Params} {h : Heap} : ∀ (ns : List Int) (vs : List Value), WellAll P h vs (ns.map WData.int) → IntsAre vs ns := by
  intro ns
  induction ns with
  | nil =>
    intro vs w
    rw [List.map_nil] at w
    cases w
    exact .nil
  | cons n ns ih =>
    intro vs w
    rw [List.map_cons] at w
    cases w with
    | cons a b =>
      cases a
      exact .cons _ _ (ih _ b)

theorem script_of {l : OpenLaw} {n : Nat} (hn : l.most = some n) {P : Params} {h : Heap} {args : List WData} {vals : List Value}
    (hpre : l.row.toRowW.claim.pre args = true) (hwl : WellAll P h vals args) :
    ∃ a vs ns, vals = [Value.ref a] ∧ args = [WData.list (ns.map WData.int)] ∧ h.get? a = some { cls := .type "list", data := .seq vs.toArray } ∧ IntsAre vs ns ∧ ns.length ≤ n := by
  have hsh : WShape.hasAll [] args [.list .int] = true := (pre_splitW hpre).1
  have hc : l.pre.holds [] { args := args } = true := (pre_splitW hpre).2
  obtain ⟨d, r, rfl, h1, h2⟩ := hasAllW_cons hsh
  obtain rfl := hasAllW_nil h2
  obtain ⟨xs, rfl, h3⟩ := hasW_list h1
  obtain ⟨ns, rfl⟩ := items_int h3
  have hlen : ns.length ≤ n := by
    unfold OpenLaw.pre at hc
    have h4 : (WTm.not (.lt (.lit (.int (n : Int))) (.len (.arg 0)))).holds [] { args := [.list (ns.map .int)] } = true := by
      have h4 := (holds_andW hc).1
      rw [hn] at h4
      exact h4
    have h5 := condW_of h4 (w_not (w_lt w_lit (w_len_list (w_arg rfl))))
    rw [List.length_map] at h5
    refine Nat.le_of_not_lt fun q => ?_
    have q' : (n : Int) < ((ns.length : Nat) : Int) := by omega
    first
      | (rw [decide_eq_true q'] at h5; exact absurd h5 (by decide))
      | (simp at h5; omega)
  cases hwl with
  | cons w1 w2 =>
    cases w2
    cases w1 with
    | list ho hall => exact ⟨_, _, ns, rfl, rfl, ho, ints_of_wellAll ns _ hall, hlen⟩

theorem post_true (l : OpenLaw) (args : List WData) : l.row.toRowW.claim.post args (.bool true) args = true :=
  postW_of (r := l.row.toRowW) (X := (true == true))
    (show WShape.has [] (.bool true) .bool = true by first | rfl | decide | simp [WShape.has, WShape.arms, WShape.armsAll])
    (show (WTm.eq .res (.lit (.bool true))).value [] { args := args, res := some (.bool true), after := args } = some (.bool (true == true)) from w_eq_bool (w_res rfl) w_lit) rfl

/-! ### the attachment: holds_open's last premise (the goal 'hc' behind k_head) from a wpAny of the law's body -/
/-- the same from a codeAny of the CALL (for a layer whose function contracts speak of calls) -/
theorem attach_call {l : OpenLaw} {n : Nat} {q : Program} {loose : List Str} {XP : (Str → Option Value) → Heap → Prop} {YP : World → Heap → Prop} {d : DefRec}
    (hn : l.most = some n) (hdf : d.params.defaults = [])
    (call : ∀ (w : World) (s₀ s₁ : Shared) (mg mb : Str → Option Value) (fa : Addr) (o : Obj) (pm cd doc : Value) (a : Addr) (vs : List Value) (ns : List Int),
      Ground q loose [] XP w s₀ mg mb s₁.heap → YP w s₁.heap →
      s₁.heap.get? fa = some o → o.data = .func (docDef d.name d.params d.body d.scope pm cd doc) → s₁.heap.CodeRec cd d.name → mg d.name = some (.ref fa) →
      s₁.heap.get? a = some { cls := .type "list", data := .seq vs.toArray } → IntsAre vs ns → ns.length ≤ n → s₁.gens = #[] →
      codeAny (model l.prog w) callerA (.call (.ref fa) ⟨[.ref a], []⟩) (fun r s' => r = .ok (.ret (.bool true)) ∧ OldK s₁.heap s'.heap ∧ s'.os = s₁.os ∧ AllBare s'.gens) s₁) :
    WalkO q loose XP YP l.row.toRowW d [] (fun f vs => PySem.call f vs) := by
  intro w s₀ s₁ mg mb G Y fa o pm cd doc dV kV ho hd hcd hD hmg hg args vals as hpre hlay hrd hwl hlo
  obtain rfl : dV = .none := Dflts.none hD hdf
  obtain rfl : kV = .none := Dflts.noKw hD
  obtain ⟨a, vs, ns, rfl, rfl, hobj, hints, hlen⟩ := script_of hn hpre hwl
  refine enter_call (codeAny_mono (call w s₀ s₁ mg mb fa o pm cd doc a vs ns G Y ho (fd_plain hd) hcd hmg hobj hints hlen hg) fun r s' hq => ?_)
  obtain ⟨rfl, h2, h3, h4⟩ := hq
  exact ⟨.inl ⟨.bool true, .bool true, [], rfl, fun _ => rfl, .bool true, post_true l _, fun _ => ⟨List.Pairwise.nil, fun _ hm => (nomatch hm)⟩⟩, h2, h3, h4⟩

/-! ### rules over ANY heap (no ledger) from facts about the written part K: the library's own take a ledger (News) for what they write -/
section
variable {prog : Program} {w : World} {A : Around} {E : Value → Shared → Prop} {s : Shared} {K : Frag}

/-! the whole heap as the ledger: makes every rule that writes through a ledger a rule over any heap -/
def ledger (h : Heap) (L d : Addr) : List (Addr × Obj) := (List.range h.objs.size).filterMap fun a => if a = L ∨ a = d then none else (h.get? a).map fun o => (a, o)
end
end Att

namespace L2
open PySem PySem.Spec PyProof.Rows

theorem vals_ints : ∀ {vs : List Value} {ns : List Int}, IntsAre vs ns → Vals (ns.map V.int) vs
  | _, _, .nil => .nil
  | _, _, .cons n t h => .cons ⟨t, rfl⟩ (vals_ints h)

/-- nothing is tracked but the script, known to the object (or it is an object of the module) -/
def Only (H : Hp) : Prop := ∀ b, H b = none ∨ ∃ o xs, H b = some (.frz o (.lst xs))

/-- THE HEAD: the law's promise, at the heap behind the top. F, the promise of the law's def, may use that base is part of the heap (so K.In base, base.Ns mainGlobals mg stand in Mod) -/
theorem law_call {P : Program} {w : World} {K : PySem.W.Frag} {mg mb : Str → Option Value} {CX : CXT} {k : Nat} {fa a : Addr} {fd : FuncData} {x : Str} {sp : Sp} {s₁ : Shared} {vs : List Value} {ns : List Int}
    (KX : K.In s₁.heap) (hns : s₁.heap.Ns mainGlobals mg) (hb : s₁.heap.Ns builtinsNs mb) (hbb : ∀ x : Str, x ≠ "__name__" → mb x = bootBuiltins x) (hlim : s₁.heap.NoLimit) (hg : s₁.gens = #[])
    (ha : s₁.heap.get? a = some { cls := .type "list", data := .seq vs.toArray }) (hi : IntsAre vs ns) (hl : ns.length ≤ sizeLine) (hr : Room k callerA)
    (F : ∀ base : Heap, K.In base → base.Ns mainGlobals mg → FnOk P w K mg base CX k fa fd [x] sp) (hbind : ∀ (s : Shared) (u : Value), BindsTo s fd ⟨[u], []⟩ [(x, u)])
    (hsp : ∀ H : Hp, Only H → SqL K H a (ns.map V.int) → sp [.ref a] H (fun v _ => v = .bl true) fun _ _ _ => False)
    (hCX : ∀ H e s', CX [] H s₁ (fun _ _ _ => False) e s' → False) :
    codeAny (model P w) callerA (.call (.ref fa) ⟨[.ref a], []⟩) (fun r s' => r = .ok (.ret (.bool true)) ∧ OldK s₁.heap s'.heap ∧ s'.os = s₁.os ∧ AllBare s'.gens) s₁ := by
  have rv := vals_ints hi
  have lenV := hi.length
  -- from an abstract heap in which nothing but the script may be tracked
  have core : ∀ H : Hp, Only H → SqL K H a (ns.map V.int) → HOk P w H s₁.heap → (∀ b, H b ≠ none → b = a) → (H a ≠ none → K.lookup a = none) →
      codeAny (model P w) callerA (.call (.ref fa) ⟨[.ref a], []⟩) (fun r s' => r = .ok (.ret (.bool true)) ∧ OldK s₁.heap s'.heap ∧ s'.os = s₁.os ∧ AllBare s'.gens) s₁ := by
    intro H hO hS hok hA hK
    have base_of : ∀ {b : Addr} {o : Obj}, s₁.heap.get? b = some o → H b = none → (hidT s₁.heap H).get? b = some o := fun e n => hidT_get e n
    have noA : ∀ {b : Addr} {o : Obj} {es : Array DictEntry} {ep : Nat}, s₁.heap.get? b = some o → o.data = .dict es ep → H b = none := fun {b o es ep} e d => by
      cases q : H b with
      | none => rfl
      | some u =>
        have e' : b = a := hA b (by rw [q]; simp)
        subst e'
        rw [ha] at e; cases e
        have d' : Data.seq vs.toArray _ = Data.dict es ep := d
        cases d'
    have nsK : ∀ {b : Addr} {m : Str → Option Value}, s₁.heap.Ns b m → (hidT s₁.heap H).Ns b m := fun {b m} ⟨o, es, ep, e, d, r⟩ => ⟨o, es, ep, base_of e (noA e d), d, r⟩
    have hKb : K.In (hidT s₁.heap H) := fun b o e => base_of (KX b o e) (by
      cases q : H b with
      | none => rfl
      | some u =>
        have e' : b = a := hA b (by rw [q]; simp)
        subst e'
        rw [hK (by rw [q]; simp)] at e; cases e)
    have hM : Mod K mg (hidT s₁.heap H) := ⟨hKb, nsK hns, ⟨mb, nsK hb, hbb⟩, let ⟨mc, h1, h2⟩ := hlim; ⟨mc, nsK h1, h2⟩⟩
    have e0 : Env0 P w K mg (hidT s₁.heap H) callerA [] s₁ H := ⟨rfl, hM, fun b o e => of_hidT e, Nat.le_of_eq (hidT_size _ _), trivial, fun b hb => absurd (show b ∈ ([] : List Addr) from hb) (by simp), hok, .of_eq hg⟩
    refine codeAny_mono ((F _ hKb (nsK hns)).run callerA [] s₁ H ⟨[.ref a], []⟩ [.ref a] [.ref a] _ _ hr e0 (hbind s₁ (.ref a)) (.cons rfl .nil) (hsp H hO hS)) fun r s' h => ?_
    cases r with
    | error e => exact (hCX H e s' h).elim
    | ok fl =>
      cases fl with
      | next => exact False.elim h
      | brk => exact False.elim h
      | cont => exact False.elim h
      | ret u =>
        obtain ⟨v, H', os, bare, un, hok', r', q⟩ := h
        have q' : v = .bl true := q
        subst q'
        obtain rfl : u = Value.bool true := r'
        refine ⟨rfl, OldK.of_keep fun b o e => ?_, os, bare⟩
        cases q : H b with
        | none => exact un.keep b o e q (by intro z; exact absurd (show b ∈ ([] : List Addr) from z) (by simp)) (by simp)
        | some u =>
          rcases hO b with z | ⟨ob, xs, z⟩
          · rw [q] at z; cases z
          · have z2 := un.frzs b ob _ z
            obtain ⟨e1, _⟩ := hok b _ z
            obtain ⟨e2, _⟩ := hok' b _ z2
            rw [e] at e1; cases e1
            exact e2
  cases hk : K.lookup a with
  | some o =>
    -- the script is one of the module's own objects
    have e := KX a o hk
    rw [ha] at e
    cases e
    refine core (fun _ => none) (fun _ => .inl rfl) (.inr ⟨_, vs.toArray, _, hk, rfl, rfl, rfl, by rw [List.size_toArray, lenV]; exact hl, by simpa using rv⟩) (fun b u z => by have z' : (none : Option HO) = some u := z; cases z') (fun b z => absurd rfl z) fun z => absurd rfl z
  | none =>
    refine core (fun b => if b = a then some (.frz { cls := .type "list", data := .seq vs.toArray } (.lst (ns.map V.int))) else none) (fun b => ?_) (.inl (.inr ⟨{ cls := .type "list", data := .seq vs.toArray }, if_pos rfl⟩)) (fun b u z => ?_) (fun b z => ?_) fun _ => hk
    · by_cases hb : b = a
      · exact .inr ⟨_, _, if_pos hb⟩
      · exact .inl (if_neg hb)
    · by_cases hb : b = a
      · have z' := (if_pos hb).symm.trans z
        cases z'
        subst hb
        exact ⟨ha, by rw [List.length_map]; exact hl, vs, _, rv, ha⟩
      · have z' := (if_neg hb).symm.trans z
        cases z'
    · by_cases hb : b = a
      · exact hb
      · exact absurd (if_neg hb) z
end L2

namespace L2
open PySem PySem.Spec PyProof.Rows

abbrev KOf {K : PySem.W.Frag} {h : Heap} (_ : K.In h) : PySem.W.Frag := K

/-- the goal that k_head leaves (case hc), from the law's promise. F gives the function object fd (K's own) once, then the promise over every base -/
theorem walk_of {l : PySem.W.OpenLaw} {n k : Nat} {q : Program} {loose : List Str} {XP : (Str → Option Value) → Heap → Prop} {YP : World → Heap → Prop} {d : DefRec} {K : Params → PySem.W.Frag} {CX : World → CXT} {sp : World → Sp} {x : Str}
    (hn : l.most = some n) (hn2 : n ≤ sizeLine) (hdf : d.params.defaults = []) (hr : Room k callerA)
    (hY : ∀ (w : World) (h : Heap), YP w h → (K w.params).In h)
    (F : ∀ (w : World) (mg : Str → Option Value) (fa : Addr) (h : Heap), (K w.params).In h → h.Ns mainGlobals mg → mg d.name = some (.ref fa) →
      ∃ fd : FuncData, (∀ (s : Shared) (u : Value), BindsTo s fd ⟨[u], []⟩ [(x, u)]) ∧
        ∀ base : Heap, (K w.params).In base → base.Ns mainGlobals mg → FnOk l.prog w (K w.params) mg base (CX w) k fa fd [x] (sp w))
    (hsp : ∀ (w : World) (H : Hp) (a : Addr) (ns : List Int), ns.length ≤ n → Only H → SqL (K w.params) H a (ns.map V.int) → sp w [.ref a] H (fun v _ => v = .bl true) fun _ _ _ => False)
    (hCX : ∀ (w : World) (H : Hp) (s : Shared) (e : Value) (s' : Shared), CX w [] H s (fun _ _ _ => False) e s' → False) :
    PySem.W.WalkO q loose XP YP l.row.toRowW d [] (fun f vs => PySem.call f vs) := by
  refine Att.attach_call hn hdf fun w s₀ s₁ mg mb fa o pm cd doc a vs ns G Y ho hd hcd hmg hobj hints hlen hg => ?_
  have KX := hY w _ Y
  obtain ⟨fd, hb, hF⟩ := F w mg fa _ KX G.T.g hmg
  exact law_call KX G.T.g G.T.b G.T.builtins G.T.nolimit hg hobj hints (Nat.le_trans hlen hn2) hr hF hb (fun H hO hS => hsp w H a ns hlen hO hS) fun H e s' => hCX w H s₁ e s'
end L2

/- THE LAST THEOREM (shape; LID, My.* are yours):
   My.Adr: a structure of the addresses that your layer names (classes, functions); My.Txt K t: a structure (Prop) of the equations over K;
   My.txt_mk : {K} {implicit addresses ..} (e1 : nsIn K mainGlobals "law" = some (some (.ref f))) (e2 : K.lookup f = some ⟨oc, od, .func (fnOf "law" "law" params body scope dV kV doc pm an cdv ct), sl⟩) (e3 : codeIn K cdv "law" = true) .. : ∃ t, My.Txt K t

set_option maxRecDepth 100000 in
set_option maxHeartbeats 0 in
theorem PySem.Challenge.cw_LID_holds : PySem.Challenge.rw_LID.Holds := by
  w_on; o_law; k_head; (case hw => w_witness2)
  k_fill
  refine L2.walk_of (l := PySem.Challenge.rw_LID) (n := 63) (k := 40) (x := "script") (CX := fun w => ..) (sp := fun _ => My.sp_law) rfl (by decide) rfl ⟨rfl, by decide, by decide⟩ (fun w h Y => PySem.W.kIn_of Y) ?F ?S ?C
  case F =>
    intro w mg fa h KX G hmg
    have T : ∃ t, My.Txt (L2.KOf KX) t := by
      dsimp only [L2.KOf]                          -- K must stand as «<heap const> w.params» for k_is
      refine' My.txt_mk ?e1 ?e2 ?e3 ..
      (case e1 => PySem.W.k_is)                    -- in the order: a name -> its address -> its object -> its parts
      (case e2 => PySem.W.k_is)
      ..
    obtain ⟨t, T⟩ := T
    have e0 := hmg.symm.trans (PySem.W.mg_of KX G T.law)
    cases e0                                       -- fa is the law's own address
    exact ⟨_, fun s u => .of_eq rfl, fun base kb nb => My.law_fn T kb nb⟩     -- if «.of_eq rfl» comes too early: refine' ⟨_, ?b, fun base kb nb => My.law_fn T kb nb⟩; exact fun s u => .of_eq rfl
  case S => exact fun w H a ns hl hO hS => ..
  case C => exact ..
(the tactic k_is has no namespace: write k_is) -/

/-! SHORT WORDS over the layer: a def of the text, its body, what a loop and a test want. -/
namespace L2
open PySem PySem.Spec PyProof.Rows

/-! ### the text by places -/
def defArgs (s : Stmt) : Arguments := match s with
  | .FunctionDef _ a _ _ _ _ _ _ _ _ => a
  | _ => { posonlyargs := [], args := [], vararg := none, kwonlyargs := [], kw_defaults := [], kwarg := none, defaults := [] }
def defBody (s : Stmt) : List Stmt := match s with
  | .FunctionDef _ _ b _ _ _ _ _ _ _ => b
  | _ => []
def defScope (s : Stmt) : Scope := match s with
  | .FunctionDef _ _ _ _ _ _ sc _ _ _ => sc
  | _ => { kind := .function, names := [], isGenerator := false, isCoroutine := false }

/-! ### no exception leaves a def -/
abbrev CX0 : CXT := fun _ _ _ _ _ _ => False
abbrev E0 : XK := fun _ _ _ => False
theorem pass0 {X : Cx} : Passes CX0 X E0 := fun _ _ _ _ _ _ _ h => h.elim

/-! ### a def (or method) of the text as it stands behind the top -/
structure Fun (K : PySem.W.Frag) (x qual : Str) (st : Stmt) (f : Addr) (fd : FuncData) : Prop where
  ex : ∃ (oc : Value) (od : Option Addr) (kV doc pm : Value) (an : Option Addr) (cdv ct : Value) (osl : Array (Option Value)),
    fd = PySem.W.fnOf x qual (defArgs st) (defBody st) (defScope st) .none kV doc pm an cdv ct ∧ K.lookup f = some ⟨oc, od, .func fd, osl⟩ ∧ PySem.W.codeIn K cdv qual = true
  kp : PySem.W.keepIn K (.ref f) = true
section
variable {P : Program} {w : World} {K : PySem.W.Frag} {mg : Str → Option Value} {base : Heap}
/-- THE RULE for a def: its body as a term of rules, and the reading of that term -/
theorem Fun.ok {x qual : Str} {st : Stmt} {f : Addr} {fd : FuncData} {N ps : List Str} {k : Nat} {sp : Sp} (F : Fun K x qual st f fd) (S : FnScope N ps (defScope st)) (len : ∀ vs H Q E, sp vs H Q E → vs.length = ps.length)
    (hbody : ∀ (cdv : Value) (A : Around) (outer : List Env) (s : Shared) (H : Hp) (vs : List V) (Q : VK) (E : XK), Room k (A.deeper (envOfC qual (defScope st) s.heap.objs.size f cdv)) → sp vs H Q E →
      ∃ t, PSs (cxOf CX0 P w K mg base N qual (defScope st) f cdv A outer s H E).nox (defBody st) t ∧ t { nx := fun _ H' => Q .non H', rt := Q } (start N vs) H) : FnOk P w K mg base CX0 (k + 1) f fd ps sp := by
  obtain ⟨oc, od, kV, doc, pm, an, cdv, ct, osl, rfl, lk, hcd⟩ := F.ex
  refine fn_of lk hcd S len fun A outer s H vs Q E hr hsp => ?_
  obtain ⟨t, h, q⟩ := hbody cdv A outer s H vs Q E hr hsp
  exact ⟨t, h.nox, q⟩
/-- how its arguments bind (no defaults): h is «fun _ _ _ _ _ _ us hl => match us, hl with | [_, _], _ => rfl», one _ a parameter -/
theorem Fun.binds {x qual : Str} {st : Stmt} {f : Addr} {fd : FuncData} {ps : List Str} (F : Fun K x qual st f fd)
    (h : ∀ (kV doc pm : Value) (an : Option Addr) (cdv ct : Value) (us : List Value), us.length = ps.length → bindArgs (PySem.W.fnOf x qual (defArgs st) (defBody st) (defScope st) .none kV doc pm an cdv ct) ⟨us, []⟩ = pure (ps.zip us)) : Binds K fd ps [] := by
  obtain ⟨oc, od, kV, doc, pm, an, cdv, ct, osl, rfl, lk, hcd⟩ := F.ex
  exact .all (h kV doc pm an cdv ct)
theorem fun_mk {x qual : Str} {st : Stmt} {f : Addr} {oc : Value} {od an : Option Addr} {osl : Array (Option Value)} {kV doc pm cdv ct : Value} (l : K.lookup f = some ⟨oc, od, .func (PySem.W.fnOf x qual (defArgs st) (defBody st) (defScope st) .none kV doc pm an cdv ct), osl⟩)
    (c : PySem.W.codeIn K cdv qual = true) (k : PySem.W.keepIn K (.ref f) = true) : Fun K x qual st f (PySem.W.fnOf x qual (defArgs st) (defBody st) (defScope st) .none kV doc pm an cdv ct) := ⟨⟨oc, od, kV, doc, pm, an, cdv, ct, osl, rfl, l, c⟩, k⟩
end
theorem small1000 {n : Nat} (h : n ≤ 1000) : n < sizeLine := Nat.lt_of_le_of_lt h (by decide)

/-! ### expressions in short: the name that stands in the i-th slot -/
section
variable {X : Cx}
theorem pv (i : Nat) {x : Str} {pos : Pos} (hN : X.N[i]? = some x := by rfl) (hv : Vis X.env.scope x := by first | exact Or.inl rfl | exact Or.inr (Or.inl rfl) | exact Or.inr (Or.inr rfl)) (hd : (x == ("__debug__" : Str)) = false := by decide)
    (hcd : (x == ("__classdict__" : Str)) = false := by decide) : PE X (.Name x pos) (tVar i) := pe_var hN hv hd hcd
end

/-! ### tests -/
theorem iteF {A B : Prop} (h : B) : if false = true then A else B := by
  rw [if_neg Bool.false_ne_true]
  exact h
theorem iteT {A B : Prop} (h : A) : if true = true then A else B := by
  rw [if_pos rfl]
  exact h
theorem ite2 {c A B : Prop} [Decidable c] (h1 : c → A) (h2 : ¬ c → B) : if c then A else B := by
  by_cases h : c
  · rw [if_pos h]
    exact h1 h
  · rw [if_neg h]
    exact h2 h
theorem iteNS {c A B : Prop} [Decidable c] (hc : c) (h : B) : if (!decide c) = true then A else B := by
  rw [decide_eq_true hc]
  exact iteF h

/-! ### heaps -/
/-- all that was tracked is as it was -/
def Same (H H' : Hp) : Prop := ∀ b o, H b = some o → H' b = some o
theorem Same.refl (H : Hp) : Same H H := fun _ _ h => h
theorem Same.trans {H H1 H2 : Hp} (a : Same H H1) (b : Same H1 H2) : Same H H2 := fun c o h => b c o (a c o h)
theorem Same.free {H H' : Hp} (e : Same H H') {l : Addr} (h : H' l = Option.none) : H l = Option.none := by
  cases q : H l with
  | none => rfl
  | some o =>
    rw [e l o q] at h
    cases h
theorem Same.seq {K : PySem.W.Frag} {H H' : Hp} {a : Addr} {xs : List V} (e : Same H H') (h : SqL K H a xs) : SqL K H' a xs := by
  rcases h with (h | ⟨o, h⟩) | h
  · exact .inl (.inl (e _ _ h))
  · exact .inl (.inr ⟨o, e _ _ h⟩)
  · exact .inr h

end L2

set_option maxHeartbeats 4000000
/-! Comprehensions over the hand layer: a list by one clause, its tests, its block's own context. -/
namespace L2
open PySem PySem.Spec PyProof.Rows

section
variable {prog : Program} {w : World} {A : Around} {R : Result → Shared → Prop} {s : Shared}
theorem comp_loop {elt target iter : Expr} {ifs : List Expr} {scope : Scope} {pos : Pos} {it acc : Value} {env : Env} (I : Nat → Shared → Prop)
    (turn : ∀ n s, I n s → wpAny (model prog w) A (pyNext it) (fun r s₁ => match r with
      | none => R (.ok .next) s₁
      | some v => wpAny (model prog w) A (letOwnedTupleGo target it v) (fun _ s₁' => wpAny (model prog w) A (assign target env v) (fun _ s₂ =>
          wpAny (model prog w) A (forIn ifs true fun c r => if r = true then do let ok ← isTrue c env (eval c env); pure (ForInStep.yield ok) else pure (ForInStep.yield r)) (fun ok s₃ =>
            if ok = true then wpAny (model prog w) A (eval elt env) (fun x s₄ =>
              wpAny (model prog w) A (call (.builtin "list.append") [acc, x]) (fun _ s₅ => ∃ m, m < n ∧ I m s₅) (fun _ _ => False) s₄) (fun _ _ => False) s₃
            else ∃ m, m < n ∧ I m s₃) (fun _ _ => False) s₂) (fun _ _ => False) s₁') (fun _ _ => False) s₁) (fun _ _ => False) s)
    (n : Nat) (h : I n s) : codeAny (model prog w) A (.compLoop (.ListComp elt [⟨target, iter, ifs, 0⟩] scope pos) 0 it acc env) R s := by
  refine codeAny_loop rfl I (fun n s hI => ?_) n h
  show wpAny _ A ((compTurn (.ListComp elt [⟨target, iter, ifs, 0⟩] scope pos) 0 it acc env).onRaise (fun x => do noteFrame x env; theTreesLotGoes x)) _ _ s
  refine wpAny_noted ?_
  rw [compTurn_list]
  refine wpAny_bind (wpAny_standAt (wpAny_bind (wpAny_mono (turn n s hI) (fun r s₁ h₁ => ?_) fun _ _ h' => h'.elim)))
  cases r with
  | none => exact wpAny_pure h₁
  | some v =>
    refine wpAny_bind (wpAny_mono h₁ (fun _ s₁' h₁' => ?_) fun _ _ h' => h'.elim)
    refine wpAny_bind (wpAny_mono h₁' (fun _ s₂ h₂ => wpAny_bind (wpAny_mono h₂ (fun ok s₃ h₃ => ?_) fun _ _ h' => h'.elim)) fun _ _ h' => h'.elim)
    cases ok with
    | false => exact wpAny_pure ⟨rfl, h₃⟩
    | true =>
      exact wpAny_bind (wpAny_bind (wpAny_mono h₃ (fun x s₄ h₄ => wpAny_bind (wpAny_mono h₄ (fun _ s₅ h₅ => wpAny_pure (wpAny_pure ⟨rfl, h₅⟩)) fun _ _ h' => h'.elim)) fun _ _ h' => h'.elim))
end

/-! ### the cells that a block reads -/
theorem clos_go (env : Env) (f : Str × NameKind → List (Str × Addr) → Sem (ForInStep (List (Str × Addr))))
    (hf : ∀ n k r, f (n, k) r = if (k == NameKind.free) = true then (do let a ← cellOf env n; pure (ForInStep.yield ((n, a) :: r))) else pure (ForInStep.yield r)) :
    ∀ (ns : List (Str × NameKind)) (acc : List (Str × Addr)), (∀ y ∈ ns, y.2 = .free → ∃ c, env.cells.lookup y.1 = some c) → (∀ x c, acc.lookup x = some c → env.cells.lookup x = some c) →
      ∃ cl, forIn ns acc f = pure cl ∧ (∀ x c, cl.lookup x = some c → env.cells.lookup x = some c) ∧ (∀ y ∈ ns, y.2 = .free → ∃ c, cl.lookup y.1 = some c) ∧ (∀ x c, acc.lookup x = some c → ∃ c', cl.lookup x = some c')
  | [], acc, _, ha => ⟨acc, by rw [List.forIn_nil], ha, fun _ h => (nomatch h), fun x c h => ⟨c, h⟩⟩
  | (n, k) :: r, acc, hn, ha => by
    rw [List.forIn_cons, hf]
    by_cases hk : k = .free
    · subst hk
      obtain ⟨c, hc⟩ := hn (n, .free) List.mem_cons_self rfl
      have hc' : env.cells.lookup n = some c := hc
      have e1 : cellOf env n = pure c := by unfold cellOf; rw [hc']
      obtain ⟨cl, h1, h2, h3, h4⟩ := clos_go env f hf r ((n, c) :: acc) (fun y hy => hn y (List.mem_cons_of_mem _ hy)) (fun x c' hx => by
        rw [List.lookup_cons] at hx
        cases e : x == n with
        | true =>
          rw [e] at hx
          have : x = n := by simpa using e
          subst this
          rw [← Option.some.inj hx]; exact hc'
        | false => rw [e] at hx; exact ha x c' hx)
      refine ⟨cl, ?_, h2, fun y hy hyf => ?_, fun x c' hx => ?_⟩
      · rw [if_pos (by rfl), e1]
        exact h1
      · rcases List.mem_cons.mp hy with e | hy
        · subst e
          exact h4 n c (by simp)
        · exact h3 y hy hyf
      · cases e : x == n with
        | true => exact h4 x c (by rw [List.lookup_cons, e])
        | false => exact h4 x c' (by rw [List.lookup_cons, e]; exact hx)
    · have hk' : (k == NameKind.free) = false := by simpa using hk
      obtain ⟨cl, h1, h2, h3, h4⟩ := clos_go env f hf r acc (fun y hy => hn y (List.mem_cons_of_mem _ hy)) ha
      refine ⟨cl, ?_, h2, fun y hy hyf => ?_, h4⟩
      · rw [hk', if_neg Bool.false_ne_true]
        exact h1
      · rcases List.mem_cons.mp hy with e | hy
        · subst e
          exact absurd hyf hk
        · exact h3 y hy hyf
theorem clos_ok {scope : Scope} {env : Env} (h : ∀ y ∈ scope.names, y.2 = .free → ∃ c, env.cells.lookup y.1 = some c) :
    ∃ cl, closureFor scope env = pure cl ∧ (∀ x c, cl.lookup x = some c → env.cells.lookup x = some c) ∧ (∀ y ∈ scope.names, y.2 = .free → ∃ c, cl.lookup y.1 = some c) := by
  obtain ⟨cl, h1, h2, h3, _⟩ := clos_go env (fun x r => match x with
    | (n, k) => if (k == NameKind.free) = true then (do let a ← cellOf env n; pure (ForInStep.yield ((n, a) :: r))) else pure (ForInStep.yield r)) (fun _ _ _ => rfl) scope.names [] h (fun x c q => by simp at q)
  refine ⟨cl, ?_, h2, h3⟩
  unfold closureFor
  refine Eq.trans ?_ h1
  have e : ∀ (m : Sem (List (Str × Addr))), (m >>= fun r => (pure r >>= fun r => pure r)) = m := fun m => by simp only [pure_bind, bind_pure]
  exact e _

/-! ### the block's names and tests -/
def capt (n : Nat) (fi : List Nat) (σ : St) : St := List.replicate n none ++ fi.map fun i => σ.getD i none
def tTrue : TT := fun _ H Q => Q true H
def PTs (X : Cx) (ifs : List Expr) (t : TT) : Prop :=
  ∀ (pins : List (Addr × Obj)) (s : Shared) (σ : St) (H : Hp) (Q : Bool → Hp → Prop), Inv X pins σ H s → t σ H Q →
    wpAny (model X.prog X.w) X.A (forIn ifs true fun c r => if r = true then do let ok ← isTrue c X.env (eval c X.env); pure (ForInStep.yield ok) else pure (ForInStep.yield r)) (TP X pins σ Q) X.xe s
theorem pts_nil {X : Cx} : PTs X [] tTrue := fun pins s σ H Q I h => wpAny_tests_nil ⟨H, I, h⟩
/-- the block: Ls its own names, Fs the names that it reads of the def's, fi their places there -/
structure LcScope (N : List Str) (osc scope : Scope) (Ls Fs : List Str) (fi : List Nat) : Prop where
  kind : scope.kind = .function
  cells : ∀ y ∈ scope.names, y.2 ≠ .cell
  names : ∀ y ∈ scope.names, y.2 = .local → scope.names.lookup y.1 = some .local
  fre : ∀ x ∈ Fs, scope.names.lookup x = some .free
  all : ∀ y ∈ scope.names, y.2 = .free → osc.names.lookup y.1 = some .cell ∨ osc.names.lookup y.1 = some .free
  ix : fi.map (fun i => N[i]?) = Fs.map some
def blk (X : Cx) (scope : Scope) (N : List Str) (cl : List (Str × Addr)) (C : Addr) (s3 : Shared) (H3 : Hp) (ex : List Addr) : Cx :=
  { X with N := N, s₀ := s3, H₀ := H3, env := compEnvC scope cl C X.env, outer := X.stack, stack := X.stack, ex := ex, fn := fun _ => false, pn := [], xe := fun _ _ => False }

theorem relabel_free {env : Env} : ∀ {names : List (Str × NameKind)} {x : Str}, (∀ y ∈ names, y.2 ≠ .cell) →
    ((names.map fun (n, k) => if (k == NameKind.free && env.scope.kind == .function && env.kindOf n == some .cell) then (n, NameKind.cell) else (n, k)).lookup x = some .cell ∨
     (names.map fun (n, k) => if (k == NameKind.free && env.scope.kind == .function && env.kindOf n == some .cell) then (n, NameKind.cell) else (n, k)).lookup x = some .free) → ∃ y ∈ names, y.1 = x ∧ y.2 = .free
  | [], _, _, h => by simp at h
  | (n, k) :: r, x, hc, h => by
    have ih := @relabel_free env r x (fun y hy => hc y (List.mem_cons_of_mem _ hy))
    cases hx : x == n with
    | true =>
      have e : x = n := by simpa using hx
      subst e
      by_cases hb : (k == NameKind.free && env.scope.kind == .function && env.kindOf x == some .cell) = true
      · have : k = .free := by
          simp only [Bool.and_eq_true, beq_iff_eq] at hb
          exact hb.1.1
        exact ⟨(x, k), List.mem_cons_self, rfl, this⟩
      · simp only [List.map_cons, if_neg hb, List.lookup_cons, hx] at h
        rcases h with h | h
        · exact absurd (Option.some.inj h) (hc (x, k) List.mem_cons_self)
        · exact ⟨(x, k), List.mem_cons_self, rfl, Option.some.inj h⟩
    | false =>
      have h' : ((r.map fun (n, k) => if (k == NameKind.free && env.scope.kind == .function && env.kindOf n == some .cell) then (n, NameKind.cell) else (n, k)).lookup x = some .cell ∨
        (r.map fun (n, k) => if (k == NameKind.free && env.scope.kind == .function && env.kindOf n == some .cell) then (n, NameKind.cell) else (n, k)).lookup x = some .free) := by
        by_cases hb : (k == NameKind.free && env.scope.kind == .function && env.kindOf n == some .cell) = true
        · simpa only [List.map_cons, if_pos hb, List.lookup_cons, hx] using h
        · simpa only [List.map_cons, if_neg hb, List.lookup_cons, hx] using h
      obtain ⟨y, hy, z⟩ := ih h'
      exact ⟨y, List.mem_cons_of_mem _ hy, z⟩
theorem relabel_look {env : Env} {x : Str} : ∀ {names : List (Str × NameKind)}, names.lookup x = some .free →
    ((names.map fun (n, k) => if (k == NameKind.free && env.scope.kind == .function && env.kindOf n == some .cell) then (n, NameKind.cell) else (n, k)).lookup x = some .cell ∨
     (names.map fun (n, k) => if (k == NameKind.free && env.scope.kind == .function && env.kindOf n == some .cell) then (n, NameKind.cell) else (n, k)).lookup x = some .free)
  | [], h => by simp at h
  | (n, k) :: r, h => by
    cases hx : x == n with
    | true =>
      have e : x = n := by simpa using hx
      subst e
      rw [List.lookup_cons, hx] at h
      have hk : k = .free := Option.some.inj h
      subst hk
      by_cases hb : (NameKind.free == NameKind.free && env.scope.kind == .function && env.kindOf x == some .cell) = true
      · left; simp only [List.map_cons, if_pos hb, List.lookup_cons, hx]
      · right; simp only [List.map_cons, if_neg hb, List.lookup_cons, hx]
    | false =>
      rw [List.lookup_cons, hx] at h
      have ih := @relabel_look env x r h
      by_cases hb : (k == NameKind.free && env.scope.kind == .function && env.kindOf n == some .cell) = true
      · simpa only [List.map_cons, if_pos hb, List.lookup_cons, hx] using ih
      · simpa only [List.map_cons, if_neg hb, List.lookup_cons, hx] using ih

theorem aLt {h : Heap} {b : Addr} {o : Obj} (e : h.get? b = some o) : @LT.lt Nat _ b h.objs.size := Heap.lt_size e
/-! ### the rule -/
/-- W: by the turn, a measure, the items so far, the heap; N: what a turn is to reach -/
def LcW (J : It) (σ : St) (g : TG) (tc : TT) (te : TE) (H : Hp) (Q : VK) : Prop :=
  ∃ W : Nat → Nat → List V → Hp → Prop, (∃ m, W 0 m [] H) ∧ ∀ i m ys H, W i m ys H →
    (J.stop i H ∧ ys.length ≤ sizeLine ∧ ∀ D, H D = none → Q (.ref D) (upd H D (.lst ys))) ∨
    (J.go i H ∧ ys.length ≤ sizeLine ∧ ∃ N : List V → Hp → Prop, (∀ ys' H', N ys' H' → ∃ m', m' < m ∧ W (i + 1) m' ys' H') ∧ ∀ x H', J.yld i H x H' → g x σ H' fun σ2 H2 =>
      tc σ2 H2 fun b H3 => if b = true then te σ2 H3 fun y H4 => N (ys ++ [y]) H4 else N ys H3)
def tLc (n : Nat) (fi : List Nat) (wi : TI) (g : TG) (tc : TT) (te : TE) : TE := fun σ H Q => wi σ H fun J H1 => LcW J (capt n fi σ) g tc te H1 Q

section
variable {X : Cx} {pins : List (Addr × Obj)} {σ : St} {tg elt iter : Expr} {ifs : List Expr} {scope : Scope} {pos : Pos} {Ls Fs : List Str} {fi : List Nat} {g : TG} {tc : TT} {te : TE}

theorem lc_block {H2 : Hp} {s2 : Shared} {it : Addr} {fp : List Addr} {tn : Nat → Heap → Prop} {J : It} {cl : List (Str × Addr)} {Q : VK} {E : Value → Shared → Prop} {RR : Value → Addr → Result → Shared → Prop}
    (S : LcScope X.N X.env.scope scope Ls Fs fi) (hc : X.calm = true)
    (hb : ∀ C s3 H3 ex, PG (blk X scope (Ls ++ Fs) cl C s3 H3 ex) tg g ∧ PTs (blk X scope (Ls ++ Fs) cl C s3 H3 ex) ifs tc ∧ PE (blk X scope (Ls ++ Fs) cl C s3 H3 ex) elt te)
    (hcl1 : ∀ x c, cl.lookup x = some c → X.env.cells.lookup x = some c) (hcl2 : ∀ y ∈ scope.names, y.2 = .free → ∃ c, cl.lookup y.1 = some c)
    (I2 : Inv X pins σ H2 s2) (T : Turn X.prog X.w X.K tg J fp it tn) (st2 : tn 0 s2.heap) (f2 : ∀ b ∈ fp, FpOk X pins H2 b)
    (hW : ∃ W : Nat → Nat → List V → Hp → Prop, (∃ m, W 0 m [] H2) ∧ ∀ i m ys H, W i m ys H →
      (J.stop i H ∧ ys.length ≤ sizeLine ∧ ∀ D, H D = none → Q (.ref D) (upd H D (.lst ys))) ∨
      (J.go i H ∧ ys.length ≤ sizeLine ∧ ∃ N : List V → Hp → Prop, (∀ ys' H', N ys' H' → ∃ m', m' < m ∧ W (i + 1) m' ys' H') ∧ ∀ x H', J.yld i H x H' → g x (capt Ls.length fi σ) H' fun σ2 H2 =>
        tc σ2 H2 fun b H3 => if b = true then te σ2 H3 fun y H4 => N (ys ++ [y]) H4 else N ys H3))
    (fin : ∀ D C H' s' m, Inv X pins σ H' s' → Q (.ref D) H' → s'.heap.Ns C m → FpOk X pins H' C → RR (.ref D) C (.ok .next) s') :
    wpAny (model X.prog X.w) X.A (newList []) (fun acc s₃ => wpAny (model X.prog X.w) X.A (newFunctionEnv scope X.env.globals cl [] X.env.qual none .none (some X.env)) (fun cenv s₄ =>
      codeAny (model X.prog X.w) X.A (.compStart (.ListComp elt [⟨tg, iter, ifs, 0⟩] scope pos) 0 (.ref it) acc { cenv with scope := relabel scope X.env }) (RR acc cenv.locals) s₄) E s₃) E s2 := by
  refine wpAny_newObj_type (wpAny_newFunctionEnv S.cells (by intro y hy; simp at hy) (fun h₁ hns₁ hsb₁ => ?_) S.kind)
  dsimp only at hns₁ hsb₁ ⊢
  generalize hH3 : s2.heap.push { cls := .type "list", dict := none, data := .seq ([] : List Value).toArray } = h3 at hns₁ hsb₁ ⊢
  generalize hC : h3.objs.size = C at hns₁ hsb₁ ⊢
  generalize hD : s2.heap.objs.size = D
  have hCD : C = D + 1 := by rw [← hC, ← hH3, Heap.size_push, hD]
  have k23 : ∀ b o, s2.heap.get? b = some o → h3.get? b = some o := fun b o e => by rw [← hH3]; exact Heap.get?_push_of_some _ e
  have k34 : ∀ b o, h3.get? b = some o → h₁.get? b = some o := fun b o e => hsb₁.extBut b o (Nat.ne_of_lt (by have := aLt e; omega)) (Heap.get?_push_of_some _ e)
  have hDo : h3.get? D = some { cls := .type "list", data := .seq ([] : List Value).toArray } := by rw [← hH3, ← hD]; exact Heap.get?_push_size _ rfl
  obtain ⟨W, ⟨m0, w0⟩, turn⟩ := hW
  -- the state where the block begins
  have I3 : Inv X pins σ H2 { s2 with heap := h3 } := I2.kept (t' := s2.toks) k23
  have frD : H2 D = none := by rw [← hD]; exact I2.fresh
  have frC : H2 C = none := I2.hok.fresh (by omega)
  have DL : D ≠ X.env.locals := Nat.ne_of_gt (by have : @LT.lt Nat _ X.env.locals s2.heap.objs.size := I2.lt; omega)
  have CL : C ≠ X.env.locals := Nat.ne_of_gt (by have : @LT.lt Nat _ X.env.locals s2.heap.objs.size := I2.lt; omega)
  have cellLt : ∀ x c, X.env.cells.lookup x = some c → @LT.lt Nat _ c D := fun x c e => by
    obtain ⟨v, q⟩ := I2.cell x c e
    have : @LT.lt Nat _ c s2.heap.objs.size := q.lt
    omega
  have fpLt : ∀ b ∈ fp, @LT.lt Nat _ b D := fun b hb => by
    obtain ⟨o, e, _⟩ := T.obj _ _ st2 b hb
    have := aLt e
    omega
  have exLoc : ∀ b ∈ D :: fp, b ≠ C ∧ (∀ x c, X.env.cells.lookup x = some c → c ≠ b) := fun b hb => by
    rcases List.mem_cons.mp hb with e | hb
    · subst e
      exact ⟨Nat.ne_of_lt (by omega), fun x c e => Nat.ne_of_lt (cellLt x c e)⟩
    · exact ⟨Nat.ne_of_lt (by have := fpLt b hb; omega), (f2 b hb).2.2.2.2.1⟩
  have ok' : (blk X scope (Ls ++ Fs) cl C { s2 with heap := h3 } H2 (D :: fp)).Ok := by
    refine ⟨I2.ok.mod, S.kind, I2.ok.glob, I2.ok.blt, ?_, fun x y c e1 e2 => I2.ok.inj x y c (hcl1 x c e1) (hcl1 y c e2), fun x hx => ?_, fun x c hx => absurd hx Bool.false_ne_true, I2.ok.hd, I2.ok.frames, .inl rfl,
      fun b hb => ⟨(exLoc b hb).1, fun x c e => (exLoc b hb).2 x c (hcl1 x c e)⟩, I3.bs, Nat.le_trans I2.ok.bsz I3.sz, fun b o e hb => ?_, fun b hb => ?_, I3.stack, I3.stkFree⟩
    · show h3.objs.size ≤ C
      omega
    · obtain ⟨y, hy, e1, e2⟩ := relabel_free S.cells hx
      obtain ⟨c, q⟩ := hcl2 y hy e2
      exact ⟨c, e1 ▸ q⟩
    · rcases List.mem_cons.mp hb with z | hb
      · exact absurd z (Nat.ne_of_lt (by have := aLt (I2.bk b o e); omega))
      · rcases (f2 b hb).2.2.2.1 with z | z
        · exact I2.ok.noex b o e z
        · have h1 : @LT.lt Nat _ b X.base.objs.size := aLt e
          have h2 : @LE.le Nat _ X.base.objs.size X.s₀.heap.objs.size := I2.ok.bsz
          have h3 : @LE.le Nat _ X.s₀.heap.objs.size b := z
          omega
    · intro hz
      have hz' := I2.stkSub b hz
      rcases List.mem_cons.mp hb with e | hb
      · subst e
        rcases List.mem_cons.mp hz' with z | z
        · exact DL z
        · exact I2.nofs (by omega) z
      · rcases List.mem_cons.mp hz' with z | z
        · exact (f2 b hb).2.1 z
        · exact (f2 b hb).2.2.1 z
  obtain ⟨m2, hn2, hl2⟩ := id I2.loc
  -- the captured values lie in cells that no one changes
  have cap : ∀ (i : Nat) (x : Str) (v : V), (Ls ++ Fs)[i]? = some x → (capt Ls.length fi σ)[i]? = some (some v) → ∃ u c, RelV v u ∧ ((relabel scope X.env).names.lookup x = some .cell ∨ (relabel scope X.env).names.lookup x = some .free) ∧
      cl.lookup x = some c ∧ X.env.cells.lookup x = some c ∧ s2.heap.IsCell c (some u) := by
    intro i x v e1 e2
    unfold capt at e2
    by_cases hi : i < Ls.length
    · rw [List.getElem?_append_left (by simpa using hi), List.getElem?_replicate, if_pos hi] at e2
      cases e2
    · have hi' : Ls.length ≤ i := Nat.le_of_not_lt hi
      rw [List.getElem?_append_right hi'] at e1
      rw [List.getElem?_append_right (by simpa using hi'), List.length_replicate, List.getElem?_map] at e2
      cases e3 : fi[i - Ls.length]? with
      | none => rw [e3] at e2; cases e2
      | some j =>
        rw [e3] at e2
        have e4 : σ.getD j none = some v := Option.some.inj e2
        have e5 : X.N[j]? = some x := by
          have q := congrArg (fun l => l[i - Ls.length]?) S.ix
          simp only [List.getElem?_map, e3, e1, Option.map_some] at q
          exact Option.some.inj q
        have e6 : σ[j]? = some (some v) := by
          rw [List.getD_eq_getElem?_getD] at e4
          cases e7 : σ[j]? with
          | none => rw [e7] at e4; cases e4
          | some z => rw [e7] at e4; exact congrArg some e4
        have fx := S.fre x (List.mem_of_getElem? e1)
        have al := S.all (x, .free) (PySem.mem_of_lookup fx) rfl
        have vis : Vis X.env.scope x := by
          rcases al with z | z
          · exact .inr (.inl z)
          · exact .inr (.inr z)
        obtain ⟨u, ru, lk⟩ := hl2 j x v e5 e6 vis
        rcases lk with ⟨k, _⟩ | ⟨k, c, ec, hcell⟩
        · have k' : X.env.scope.names.lookup x = some .local := k
          rcases al with z | z
          · rw [show X.env.scope.names.lookup x = some .cell from z] at k'; cases k'
          · rw [show X.env.scope.names.lookup x = some .free from z] at k'; cases k'
        · obtain ⟨c', ec'⟩ := hcl2 (x, .free) (PySem.mem_of_lookup fx) rfl
          have : c' = c := Option.some.inj ((hcl1 x c' ec').symm.trans ec)
          subst this
          exact ⟨u, c', ru, relabel_look fx, ec', ec, hcell⟩
  have capLen : (capt Ls.length fi σ).length = (Ls ++ Fs).length := by
    unfold capt
    have q := congrArg List.length S.ix
    simp only [List.length_map] at q
    rw [List.length_append, List.length_replicate, List.length_map, List.length_append, q]
  -- whatever the block's names hold, the captured ones hold what they held
  have re : ∀ {ps : List (Addr × Obj)} {σ' : St} {H' : Hp} {s' : Shared}, Inv (blk X scope (Ls ++ Fs) cl C { s2 with heap := h3 } H2 (D :: fp)) ps σ' H' s' → Inv (blk X scope (Ls ++ Fs) cl C { s2 with heap := h3 } H2 (D :: fp)) ps (capt Ls.length fi σ) H' s' := by
    intro ps σ' H' s' J'
    refine ⟨J'.ok, J'.os, J'.bare, J'.base, ?_, J'.cell, J'.free, J'.freeC, J'.pin, J'.hok, capLen⟩
    obtain ⟨m, hn, _⟩ := J'.loc
    refine ⟨m, hn, fun i x v e1 e2 _ => ?_⟩
    obtain ⟨u, c, ru, kk, ec, ec2, o, ho, hd⟩ := cap i x v e1 e2
    obtain ⟨sl, q⟩ := J'.base.any (k23 c o ho) (I2.freeC x c ec2) fun z => (exLoc c z).2 x c ec2 rfl
    exact ⟨u, ru, .inr ⟨kk, c, ec, _, q, hd⟩⟩
  have I4 : Inv (blk X scope (Ls ++ Fs) cl C { s2 with heap := h3 } H2 (D :: fp)) [(D, { cls := .type "list", data := .seq ([] : List Value).toArray })] (capt Ls.length fi σ) H2 { s2 with heap := h₁, toks := s2.toks + ([] : List (Str × Value)).length } := by
    refine ⟨ok', rfl, I2.bare, Un.kept k34, ⟨_, hns₁, fun i x v e1 e2 _ => ?_⟩, fun x c e => ?_, frC, fun x c e => I2.freeC x c (hcl1 x c e), fun p hp => ?_, I2.hok.kept fun b o e => k34 b o (k23 b o e), capLen⟩
    · obtain ⟨u, c, ru, kk, ec, ec2, o, ho, hd⟩ := cap i x v e1 e2
      exact ⟨u, ru, .inr ⟨kk, c, ec, o, k34 c o (k23 c o ho), hd⟩⟩
    · obtain ⟨v, o, ho, hd⟩ := I2.cell x c (hcl1 x c e)
      exact ⟨v, o, k34 c o (k23 c o ho), hd⟩
    · have hp' : p = (D, { cls := .type "list", data := .seq ([] : List Value).toArray }) := by
        have : p ∈ ([] : List (Addr × Obj)) ++ [(D, { cls := .type "list", data := .seq ([] : List Value).toArray })] := hp
        simpa using this
      subst hp'
      refine ⟨k34 D _ hDo, frD, Nat.ne_of_lt (show @LT.lt Nat _ D C by omega), fun z => ?_, fun v z => by cases z⟩
      rcases List.mem_cons.mp (I2.stkSub D z) with z | z
      · exact DL z
      · exact I2.nofs (by omega) z
  obtain ⟨hg, ht, he⟩ := hb C { s2 with heap := h3 } H2 (D :: fp)
  -- behind the block: what the def's own context knows
  have back : ∀ {ps : List (Addr × Obj)} {σ' : St} {H' : Hp} {s' : Shared} {ys : List V} {its : List Value} {n : Nat}, Inv (blk X scope (Ls ++ Fs) cl C { s2 with heap := h3 } H2 (D :: fp)) ps σ' H' s' → s'.heap.get? D = some { cls := .type "list", data := .seq its.toArray n } →
      H' D = none → Vals ys its → ys.length ≤ sizeLine → Inv X pins σ (upd H' D (.lst ys)) s' ∧ FpOk X pins (upd H' D (.lst ys)) C := by
    intro ps σ' H' s' ys its n J' hDs hDn rv hz
    have neD : ∀ b o, s2.heap.get? b = some o → b ≠ D := fun b o e => Nat.ne_of_lt (by have := aLt e; omega)
    have nex : ∀ b, b ∉ fp → b ≠ D → b ∉ D :: fp := fun b h1 h2 z => (List.mem_cons.mp z).elim h2 h1
    have U : Un (frs X.stack) fp H2 (upd H' D (.lst ys)) s2.heap s'.heap := by
      refine ⟨fun b o e n hb hx => J'.base.keep b o (k23 b o e) n hb (nex b hx (neD b o e)), fun b o e n hb hx => J'.base.slot b o (k23 b o e) n hb (nex b hx (neD b o e)), fun b o e n hx => ?_, fun b o e hx => J'.base.there b o (k23 b o e) (nex b hx (neD b o e)), fun b xs e => ?_, fun b o u e => ?_, fun b ps e => ?_⟩
      · rw [upd_ne (neD b o e)]
        exact J'.base.free b o (k23 b o e) n (nex b hx (neD b o e))
      · rw [upd_ne (ne_of_none e frD)]
        exact J'.base.tups b xs e
      · rw [upd_ne (ne_of_none e frD)]
        exact J'.base.frzs b o u e
      · obtain ⟨more, q⟩ := J'.base.tbls b ps e
        exact ⟨more, by rw [upd_ne (ne_of_none e frD)]; exact q⟩
    have hok' : HOk X.prog X.w (upd H' D (.lst ys)) s'.heap := fun b u q => by
      by_cases hbD : b = D
      · subst hbD
        rw [upd_same] at q
        cases q
        exact ⟨hz, its, n, rv, hDs⟩
      · rw [upd_ne hbD] at q
        exact (J'.hok b u q).stay (fun c v _ r => r) (fun c r => by rw [upd_ne (ne_of_none r hDn)]; exact r) fun c xs r => by rw [upd_ne (ne_of_none r hDn)]; exact r
    refine ⟨I2.call' J'.os U hok' J'.bare fun b hb => ⟨(f2 b hb).2.2.2.1, (f2 b hb).2.1, (f2 b hb).2.2.2.2.1, (f2 b hb).2.2.2.2.2⟩, ?_⟩
    refine ⟨by rw [upd_ne (Nat.ne_of_gt (by omega))]; exact J'.free, CL, I2.nofs (by omega), .inr (by have := I2.sz; omega), fun x c e => Nat.ne_of_lt (by have := cellLt x c e; omega), fun p hp => ?_⟩
    have := aLt (I2.pin p hp).1
    exact Nat.ne_of_lt (by omega)
  have loop : codeAny (model X.prog X.w) X.A (.compLoop (.ListComp elt [⟨tg, iter, ifs, 0⟩] scope pos) 0 (.ref it) (.ref D) (compEnvC scope cl C X.env)) (RR (.ref D) C) { s2 with heap := h₁, toks := s2.toks + ([] : List (Str × Value)).length } := by
    refine comp_loop (fun n s' => ∃ (i : Nat) (ys : List V) (H' : Hp) (its : List Value) (k : Nat), Inv (blk X scope (Ls ++ Fs) cl C { s2 with heap := h3 } H2 (D :: fp)) [(D, { cls := .type "list", data := .seq its.toArray k })] (capt Ls.length fi σ) H' s' ∧
      Vals ys its ∧ tn i s'.heap ∧ (∀ b ∈ fp, H' b = none) ∧ W i n ys H') ?_ m0 ⟨0, [], H2, [], 0, I4, .nil, T.keep _ _ _ st2 fun b _ o e => k34 b o (k23 b o e), fun b hb => (f2 b hb).1, w0⟩
    rintro n s5 ⟨i, ys, H5, its, k, I5, rv, st5, fr5, w5⟩
    have stat : ∀ {H' : Hp} {its' : List Value} {k' : Nat}, (∀ b ∈ fp, H' b = none) → ∀ b ∈ fp, FpOk (blk X scope (Ls ++ Fs) cl C { s2 with heap := h3 } H2 (D :: fp)) [(D, { cls := .type "list", data := .seq its'.toArray k' })] H' b := fun hn b hb => by
      refine ⟨hn b hb, (exLoc b (List.mem_cons_of_mem _ hb)).1, fun z => ok'.exfs b (List.mem_cons_of_mem _ hb) z, .inl (List.mem_cons_of_mem _ hb), fun x c e => (exLoc b (List.mem_cons_of_mem _ hb)).2 x c (hcl1 x c e), fun p hp => ?_⟩
      have hp' : p = _ := List.mem_singleton.mp hp
      rw [hp']
      have := fpLt b hb
      show D ≠ b
      exact Nat.ne_of_gt this
    have pinD := I5.pin (D, { cls := .type "list", data := .seq its.toArray k }) (List.mem_singleton.mpr rfl)
    rcases turn i n ys H5 w5 with ⟨stop, hz, qn⟩ | ⟨go, hz, N, hN, step⟩
    · refine wpAny_mono (T.done (blk X scope (Ls ++ Fs) cl C { s2 with heap := h3 } H2 (D :: fp)) rfl rfl rfl hc i _ s5 _ H5 _ I5 (stat fr5) st5 stop) (fun r s6 ⟨hr, I6⟩ => ?_) fun _ _ h => h
      subst hr
      have pin6 := I6.pin (D, { cls := .type "list", data := .seq its.toArray k }) (List.mem_singleton.mpr rfl)
      obtain ⟨b1, b2⟩ := back I6 pin6.1 pin6.2.1 rv hz
      obtain ⟨m, hn, _⟩ := I6.loc
      exact fin D C _ s6 m b1 (qn D pin6.2.1) hn b2
    · refine wpAny_mono (T.item (blk X scope (Ls ++ Fs) cl C { s2 with heap := h3 } H2 (D :: fp)) rfl rfl rfl hc i _ s5 _ H5 _ I5 (stat fr5) st5 go) (fun r s6 ⟨u, hr, h6⟩ => ?_) fun _ _ h => h
      subst hr
      refine wpAny_mono h6 (fun _ s7 ⟨x, H7, I7, r7, y7, st7, fr7⟩ => ?_) fun _ _ h => h
      have I7' := I7.pinned (stat fr7) (T.obj _ _ st7)
      refine wpAny_mono (hg _ s7 _ H7 x u _ I7' r7 (step x H7 y7)) (fun _ s8 ⟨σ8, H8, I8, q8⟩ => ?_) fun _ _ h => h
      refine wpAny_mono (ht _ s8 σ8 H8 _ I8 q8) (fun ok s9 ⟨H9, I9, q9⟩ => ?_) fun _ _ h => h
      have keepT : ∀ {σ' : St} {H' : Hp} {s' : Shared}, Inv (blk X scope (Ls ++ Fs) cl C { s2 with heap := h3 } H2 (D :: fp)) ([(D, { cls := .type "list", data := .seq its.toArray k })] ++ pinsAt fp s7.heap) σ' H' s' → tn (i + 1) s'.heap ∧ ∀ b ∈ fp, H' b = none := by
        intro σ' H' s' J'
        refine ⟨T.keep _ _ _ st7 fun b hb o e => (J'.pin (b, o) (List.mem_append_right _ (List.mem_append_right _ (mem_pinsAt hb e)))).1, fun b hb => ?_⟩
        obtain ⟨o, e, d⟩ := T.obj _ _ st7 b hb
        exact (J'.pin (b, o) (List.mem_append_right _ (List.mem_append_right _ (mem_pinsAt hb e)))).2.1
      cases ok with
      | false =>
        rw [if_neg Bool.false_ne_true] at q9 ⊢
        obtain ⟨m', hm, w'⟩ := hN _ _ q9
        exact ⟨m', hm, i + 1, ys, H9, its, k, re I9.unpinned, rv, (keepT I9).1, (keepT I9).2, w'⟩
      | true =>
        rw [if_pos rfl] at q9 ⊢
        refine wpAny_mono (he _ s9 σ8 H9 _ I9 q9) (fun v s10 ⟨y, H10, I10, r10, q10⟩ => ?_) fun _ _ h => h
        obtain ⟨m', hm, w'⟩ := hN _ _ q10
        obtain ⟨k10, f10⟩ := keepT I10
        have I11 : Inv (blk X scope (Ls ++ Fs) cl C { s2 with heap := h3 } H2 (D :: fp)) [(D, { cls := .type "list", data := .seq its.toArray k })] (capt Ls.length fi σ) H10 s10 := re I10.unpinned
        have pin11 := I11.pin (D, { cls := .type "list", data := .seq its.toArray k }) (List.mem_singleton.mpr rfl)
        refine wpAny_list_append_plain ⟨k, pin11.1⟩ (fun h' hp' sb => ?_) (by rw [List.size_toArray, ← rv.length]; exact hz)
        obtain ⟨k', hk'⟩ := hp'
        have e1 : its.toArray.push v = (its ++ [v]).toArray := by simp
        rw [e1] at hk'
        have I12 : Inv (blk X scope (Ls ++ Fs) cl C { s2 with heap := h3 } H2 (D :: fp)) [] (capt Ls.length fi σ) H10 { s10 with heap := h', toks := s10.toks } :=
          (I11.pins_of (pins' := []) fun p hp => (nomatch hp)).turned (it := D) (fun b o hb e => (sb.2 b hb).trans e) pin11.2.1 pin11.2.2.1 (.inl List.mem_cons_self) (fun x c e => (exLoc D List.mem_cons_self).2 x c (hcl1 x c e)) fun p hp => (nomatch hp)
        have I13 : Inv (blk X scope (Ls ++ Fs) cl C { s2 with heap := h3 } H2 (D :: fp)) [(D, { cls := .type "list", data := .seq (its ++ [v]).toArray k' })] (capt Ls.length fi σ) H10 { s10 with heap := h', toks := s10.toks } := I12.pins_of fun p hp => by
          have hp' : p = _ := List.mem_singleton.mp hp
          subst hp'
          exact ⟨hk', pin11.2.1, pin11.2.2.1, pin11.2.2.2.1, fun v z => by cases z⟩
        refine ⟨m', hm, i + 1, ys ++ [y], H10, its ++ [v], k', I13, rv.append (.cons r10 .nil), ?_, f10, w'⟩
        exact T.keep _ _ _ k10 fun b hb o e => (sb.2 b (Nat.ne_of_lt (fpLt b hb))).trans e
  exact codeAny_compStart_list loop (T.self _ 0 _ _ _ (T.keep _ _ _ st2 fun b _ o e => k34 b o (k23 b o e)) loop)

/-- [elt for tg in iter if ..], as a value -/
theorem pe_lc {wi : TI} (S : LcScope X.N X.env.scope scope Ls Fs fi) (hc : X.calm = true) (hi : PI X tg iter wi)
    (hb : ∀ cl C s3 H3 ex, PG (blk X scope (Ls ++ Fs) cl C s3 H3 ex) tg g ∧ PTs (blk X scope (Ls ++ Fs) cl C s3 H3 ex) ifs tc ∧ PE (blk X scope (Ls ++ Fs) cl C s3 H3 ex) elt te)
    (hs : ∀ x, foldedSetIterable iter X.env x = pure x := by intro _; rfl) : PE X (.ListComp elt [⟨tg, iter, ifs, 0⟩] scope pos) (tLc Ls.length fi wi g tc te) := by
  intro pins s σ H Q I h
  rw [eval_ListComp]
  obtain ⟨cl, hcl, hcl1, hcl2⟩ := clos_ok (scope := scope) (env := X.env) fun y hy hf => I.ok.has y.1 (S.all y hy hf)
  refine wpAny_comprehension_free (use := none) rfl hs hcl S.kind S.names (wpAny_mono (hi pins s σ H _ I h) (fun v s1 h1 => wpAny_mono h1 (fun itv s2 h2 => ?_) fun _ _ e => e) fun _ _ e => e)
  obtain ⟨it, fp, tn, J, H2, e, I2, T, st2, f2, hW⟩ := h2
  subst e
  refine lc_block (RR := fun acc C => compPost (model X.prog X.w) X.A X.xe none (EP X pins σ Q) acc C) S hc (hb cl) hcl1 hcl2 I2 T st2 f2 hW fun D C H' s' m I' q hn f => ?_
  obtain ⟨f0, f1, f2, f3, f4, f5⟩ := f
  exact ⟨m, hn, fun h' hs' => ⟨.ref D, H', I'.turned (it := C) (t' := s'.toks) (fun b o hb e => (hs'.2 b hb).trans e) f0 f1 f3 f4 f5, rfl, q⟩⟩

end
end L2

/-! More of the language over the hand layer: enumerate, isinstance, all, sorted, deep == and !=, count, a dict of the module's. -/
namespace L2
open PySem PySem.Spec PyProof.Rows PyProof.V

/-! ### enumerate -/
section
variable {X : Cx}
end

/-! ### isinstance, all, sorted, count -/
section
variable {X : Cx}
theorem call_isinst : CallR X (.builtin "isinstance") (fun xs H Q => ∃ x T t b, xs = [x, .ty T] ∧ TyOf X.K H x t ∧ PySem.W.kitOne X.K t (.type T) = some b ∧ Q (.bl b) H) := by
  intro pins s σ H xs us Q I r h
  obtain ⟨x, T, t, b, rfl, ty, e, q⟩ := h
  obtain ⟨u, v, rfl, ru, rv⟩ := r.two
  cases rv
  exact isinst_ok I ru ty e fun tk => ⟨.bl b, H, I.tok _, rfl, q⟩
theorem range_all (bs : List Bool) : (List.range bs.length).all (fun i => bs.getD i false) = bs.all id := by
  rw [Bool.eq_iff_iff, List.all_eq_true, List.all_eq_true]
  constructor
  · intro h b hb
    obtain ⟨i, hi, rfl⟩ := List.mem_iff_getElem.mp hb
    have := h i (List.mem_range.mpr hi)
    simpa [hi] using this
  · intro h i hi
    have hi' : i < bs.length := List.mem_range.mp hi
    have := h bs[i] (List.getElem_mem hi')
    simpa [hi'] using this
theorem call_all (hc : X.calm = true) : CallR X (.builtin "all") (fun xs H Q => ∃ (p : Addr) (bs : List Bool), xs = [.ref p] ∧ SqL X.K H p (bs.map V.bl) ∧ Q (.bl (bs.all id)) H) := by
  intro pins s σ H xs us Q I r h
  obtain ⟨p, bs, rfl, hq, q⟩ := h
  obtain ⟨u, rfl, ru⟩ := r.one
  cases ru
  obtain ⟨its, rv, pl, hz⟩ := I.list hq
  have hlen : bs.length = its.length := by simpa using rv.length
  have hh : X.A.in1.handled = none := I.ok.hd hc
  have hp : p < s.heap.objs.size := by
    obtain ⟨o, ho, _⟩ := pl.isList
    exact Heap.lt_size ho
  refine call_all_walk (wpAny_pyIter_list pl.isList ?_)
  refine ⟨s.heap.objs.size, _, _, _, _, _, fun i => bs.getD i false, rfl, Walks.list hh s.heap.objs.size p (Nat.ne_of_lt hp) its.toArray, ⟨⟨_, Heap.get?_push_size _ rfl, rfl, rfl⟩, ?_⟩, fun i v s2 Q2 E2 hv hq2 => ?_, fun h' tk kk => ?_⟩
  · obtain ⟨o, ho, r⟩ := pl.isList
    exact ⟨o, Heap.get?_push_of_some _ ho, r⟩
  · have hv' : its[i]? = some v := by simpa using hv
    have hi : i < bs.length := by rw [hlen]; exact (List.getElem?_eq_some_iff.mp hv').1
    obtain ⟨w, hw, rw'⟩ := rv.get (i := i) (x := .bl bs[i]) (by simp [hi])
    rw [hv'] at hw
    cases hw
    cases rw'
    refine wpAny_truthy_bool ?_
    have e : bs.getD i false = bs[i] := by simp [hi]
    rw [← e]
    exact hq2
  · have hk : ∀ b o, s.heap.get? b = some o → h'.get? b = some o := fun b o e => kk b o (fun z => by
      have z' : b = s.heap.objs.size := by simpa using z
      exact Nat.lt_irrefl _ (z' ▸ Heap.lt_size e)) (Heap.get?_push_of_some _ e)
    refine ⟨.bl (bs.all id), H, I.kept (t' := tk) hk, ?_, q⟩
    have e : its.toArray.size = bs.length := by rw [List.size_toArray, hlen]
    rw [e, range_all]
    rfl
theorem ints_of_vals : ∀ {ns : List Int} {vs : List Value}, Vals (ns.map V.int) vs → IntsAre vs ns
  | [], _, r => by cases r; exact .nil
  | n :: ns, _, r => by
    cases r with
    | cons r rr =>
      obtain ⟨t, rfl⟩ := r
      exact .cons n t (ints_of_vals rr)
end

/-! ### == and != of what is built of lists, tuples and plain values -/
inductive Eqv (K : PySem.W.Frag) (H : Hp) : Nat → V → V → Prop
  | flat {n : Nat} {x : V} : flatV x = true → Eqv K H n x x
  | same {n : Nat} {a : Addr} : Eqv K H n (.ref a) (.ref a)
  | lst {n : Nat} {a b : Addr} {xs ys : List V} : SqL K H a xs → SqL K H b ys → xs.length = ys.length → (∀ (i : Nat) (x y : V), xs[i]? = some x → ys[i]? = some y → Eqv K H n x y) → Eqv K H (n + 1) (.ref a) (.ref b)
  | tup {n : Nat} {a b : Addr} {xs ys : List V} : SqT K H a xs → SqT K H b ys → xs.length = ys.length → (∀ (i : Nat) (x y : V), xs[i]? = some x → ys[i]? = some y → Eqv K H n x y) → Eqv K H (n + 1) (.ref a) (.ref b)
theorem all_true (n : Nat) : ((List.range n).all fun _ => true) = true := by rw [List.all_eq_true]; intro _ _; rfl
theorem eqV_self {x : V} (h : flatV x = true) : eqV x x = true := by
  cases x <;> simp_all [eqV, flatV]
theorem Eqv.at {X : Cx} {pins : List (Addr × Obj)} {σ : St} {H : Hp} {s : Shared} (I : Inv X pins σ H s) : ∀ {n : Nat} {x y : V} {u v : Value} {A : Around}, Eqv X.K H n x y → RelV x u → RelV y v → A.units + n < cLine → SeqAt.EqAt A s u v true := by
  intro n x y u v A h
  induction h generalizing u v A with
  | flat f =>
    intro ru rv _
    have := eqAt_V (A := A) (s := s) ru rv f f
    rw [eqV_self f] at this
    exact this
  | same =>
    intro ru rv _
    cases ru
    cases rv
    exact SeqAt.EqAt.same _
  | @lst n a b xs ys ha hb hl _ ih =>
    intro ru rv hu
    cases ru
    cases rv
    by_cases e : a = b
    · subst e; exact SeqAt.EqAt.same _
    · obtain ⟨its, r1, p1, _⟩ := I.list ha
      obtain ⟨its2, r2, p2, _⟩ := I.list hb
      have l1 := r1.length
      have l2 := r2.length
      refine SeqAt.EqAt.of_refs e ?_
      have q := SeqAt.RcAt.lists (A := A) (e := fun _ => true) p1.isList p2.isList (by simp only [List.size_toArray]; omega) (by omega) fun j h1 h2 => by
        simp only [List.size_toArray] at h1 h2
        obtain ⟨u1, e1, s1⟩ := r1.get (i := j) (x := xs[j]'(by omega)) (by simp)
        obtain ⟨u2, e2, s2⟩ := r2.get (i := j) (x := ys[j]'(by omega)) (by simp)
        have z1 : its.toArray[j] = u1 := by
          have : its[j]? = some its[j] := by simp [h1]
          rw [this] at e1
          simpa using Option.some.inj e1
        have z2 : its2.toArray[j] = u2 := by
          have : its2[j]? = some its2[j] := by simp [h2]
          rw [this] at e2
          simpa using Option.some.inj e2
        rw [z1, z2]
        exact ih j _ _ (by simp) (by simp) s1 s2 (by show A.units + 1 + n < cLine; omega)
      rw [all_true] at q
      exact q
  | @tup n a b xs ys ha hb hl _ ih =>
    intro ru rv hu
    cases ru
    cases rv
    by_cases e : a = b
    · subst e; exact SeqAt.EqAt.same _
    · obtain ⟨its, r1, p1, _⟩ := I.tuple ha
      obtain ⟨its2, r2, p2, _⟩ := I.tuple hb
      have l1 := r1.length
      have l2 := r2.length
      refine SeqAt.EqAt.of_refs e ?_
      have q := SeqAt.RcAt.tuples (A := A) (s := s) (l := a) (b := b) (items := its.toArray) (items2 := its2.toArray) (e := fun _ => true) p1 p2 (by omega) fun j h1 h2 => by
        simp only [List.size_toArray] at h1 h2
        obtain ⟨u1, e1, s1⟩ := r1.get (i := j) (x := xs[j]'(by omega)) (by simp)
        obtain ⟨u2, e2, s2⟩ := r2.get (i := j) (x := ys[j]'(by omega)) (by simp)
        have z1 : its.toArray[j] = u1 := by
          have : its[j]? = some its[j] := by simp [h1]
          rw [this] at e1
          simpa using Option.some.inj e1
        have z2 : its2.toArray[j] = u2 := by
          have : its2[j]? = some its2[j] := by simp [h2]
          rw [this] at e2
          simpa using Option.some.inj e2
        rw [z1, z2]
        exact ih j _ _ (by simp) (by simp) s1 s2 (by show A.units + 1 + n < cLine; omega)
      have e3 : (its.toArray.size == its2.toArray.size) = true := by
        rw [beq_iff_eq]; simp only [List.size_toArray]; omega
      rw [e3, all_true] at q
      exact q
section
variable {X : Cx}
/-- two lists whose items are alike: == tells True, != tells False -/
def rEqv (K : PySem.W.Frag) (b : Bool) : R2 := fun x y H Q => ∃ (p q : Addr) (xs ys : List V), x = .ref p ∧ y = .ref q ∧ SqL K H p xs ∧ SqL K H q ys ∧ xs.length = ys.length ∧ (∀ (i : Nat) (x y : V), xs[i]? = some x → ys[i]? = some y → Eqv K H 60 x y) ∧ Q (.bl b) H
theorem eqv_items {pins : List (Addr × Obj)} {σ : St} {H : Hp} {s : Shared} {xs ys : List V} {its its2 : List Value} {A : Around} (I : Inv X pins σ H s) (r1 : Vals xs its) (r2 : Vals ys its2) (hl : xs.length = ys.length) (h : ∀ (i : Nat) (x y : V), xs[i]? = some x → ys[i]? = some y → Eqv X.K H 60 x y) (hu : A.units + 62 < cLine) :
    ∀ j (h1 : j < its.toArray.size) (h2 : j < its2.toArray.size), SeqAt.EqAt A.in1 s its.toArray[j] its2.toArray[j] ((fun _ => true) j) := fun j h1 h2 => by
  have l1 := r1.length
  have l2 := r2.length
  simp only [List.size_toArray] at h1 h2
  obtain ⟨u1, e1, s1⟩ := r1.get (i := j) (x := xs[j]'(by omega)) (by simp)
  obtain ⟨u2, e2, s2⟩ := r2.get (i := j) (x := ys[j]'(by omega)) (by simp)
  have z1 : its.toArray[j] = u1 := by
    have : its[j]? = some its[j] := by simp [h1]
    rw [this] at e1
    simpa using Option.some.inj e1
  have z2 : its2.toArray[j] = u2 := by
    have : its2[j]? = some its2[j] := by simp [h2]
    rw [this] at e2
    simpa using Option.some.inj e2
  rw [z1, z2]
  exact Eqv.at I (h j _ _ (by simp) (by simp)) s1 s2 (by show A.units + 1 + 60 < cLine; omega)
theorem op_eqv (hu : X.A.units + 64 < cLine) : OpR X (compareOp .Eq) (rEqv X.K true) := by
  intro pins s σ H x y v u Q I rx ry h
  obtain ⟨p, q, xs, ys, rfl, rfl, hp, hq, hl, he, hQ⟩ := h
  cases rx
  cases ry
  obtain ⟨its, r1, p1, _⟩ := I.list hp
  obtain ⟨its2, r2, p2, _⟩ := I.list hq
  have l1 := r1.length
  have l2 := r2.length
  refine SeqAt.eq_listAt (e := fun _ => true) p1.isList p2.isList (by simp only [List.size_toArray]; omega) (by omega) (eqv_items I r1 r2 hl he (by omega)) ⟨.bl true, H, I, ?_, hQ⟩
  show Value.bool _ = Value.bool true
  simp
theorem op_nev (hu : X.A.units + 64 < cLine) : OpR X (compareOp .NotEq) (rEqv X.K false) := by
  intro pins s σ H x y v u Q I rx ry h
  obtain ⟨p, q, xs, ys, rfl, rfl, hp, hq, hl, he, hQ⟩ := h
  cases rx
  cases ry
  obtain ⟨its, r1, p1, _⟩ := I.list hp
  obtain ⟨its2, r2, p2, _⟩ := I.list hq
  have l1 := r1.length
  have l2 := r2.length
  refine SeqAt.RcNeAt.lists (e := fun _ => true) p1.isList p2.isList (by simp only [List.size_toArray]; omega) (by omega) (eqv_items I r1 r2 hl he (by omega)) X.prog X.w _ _ ⟨.bl false, H, I, ?_, hQ⟩
  show Value.bool _ = Value.bool false
  simp

/-! ### a dict of the module's: texts to ints -/
theorem ix_listK {K : PySem.W.Frag} (h : X.K = K) : IxR X (rIxL K) := h ▸ ix_list
theorem sl_listK {K : PySem.W.Frag} (h : X.K = K) : SlR X (rSlL K) := h ▸ sl_list
theorem op_eqvK {K : PySem.W.Frag} (h : X.K = K) (hu : X.A.units + 64 < cLine) : OpR X (compareOp .Eq) (rEqv K true) := h ▸ op_eqv hu
theorem op_nevK {K : PySem.W.Frag} (h : X.K = K) (hu : X.A.units + 64 < cLine) : OpR X (compareOp .NotEq) (rEqv K false) := h ▸ op_nev hu
theorem call_lenK {K : PySem.W.Frag} (h : X.K = K) : CallR X (.builtin "len") (fun xs H Q => ∃ p ys, xs = [.ref p] ∧ (SqL K H p ys ∨ SqT K H p ys) ∧ Q (.int ys.length) H) := h ▸ call_len_seq
theorem call_isinstK {K : PySem.W.Frag} (h : X.K = K) : CallR X (.builtin "isinstance") (fun xs H Q => ∃ x T t b, xs = [x, .ty T] ∧ TyOf K H x t ∧ PySem.W.kitOne K t (.type T) = some b ∧ Q (.bl b) H) := h ▸ call_isinst
theorem call_allK {K : PySem.W.Frag} (h : X.K = K) (hc : X.calm = true) : CallR X (.builtin "all") (fun xs H Q => ∃ (p : Addr) (bs : List Bool), xs = [.ref p] ∧ SqL K H p (bs.map V.bl) ∧ Q (.bl (bs.all id)) H) := h ▸ call_all hc
theorem call_listK {K : PySem.W.Frag} (h : X.K = K) : CallR X (.type "list") (fun xs H Q => ∃ p ys, xs = [.ref p] ∧ (SqL K H p ys ∨ SqT K H p ys) ∧ ∀ l, H l = none → Q (.ref l) (upd H l (.lst ys))) := h ▸ call_list_of
theorem pg_tupK {K : PySem.W.Frag} {es : List Expr} {k : Nat} {t : TGs} {n : Nat} {pos : Pos} (hk : X.K = K) (hc : X.calm = true) (h : PGs X es t) (hn : (assignEach es X.env).length = n := by rfl) (hst : (assignEach es X.env).findIdx? (·.1) = none := by rfl) : PG X (.Tuple es k pos) (gTup K n t) := hk ▸ pg_tup hc h hn hst
theorem pe_bmK {K : PySem.W.Frag} {T : String} {name : Str} {r : V → List V → Hp → VK → Prop} {o e : Expr} {es : List Expr} {to : TE} {t : TA} {apos pos : Pos} (hk : X.K = K) (h : PE X (.Call (.Attribute o name apos) (e :: es) [] pos) (tBM X.K T r to t)) : PE X (.Call (.Attribute o name apos) (e :: es) [] pos) (tBM K T r to t) := hk ▸ h
theorem pe_bm0K {K : PySem.W.Frag} {T : String} {name : Str} {r : V → List V → Hp → VK → Prop} {o : Expr} {to : TE} {apos pos : Pos} (hk : X.K = K) (h : PE X (.Call (.Attribute o name apos) [] [] pos) (tBM0 X.K T r to)) : PE X (.Call (.Attribute o name apos) [] [] pos) (tBM0 K T r to) := hk ▸ h
theorem pi_listK {K : PySem.W.Frag} {l tg : Expr} {tl : TE} (hk : X.K = K) (hl : PE X l tl) : PI X tg l (iList K tl) := hk ▸ pi_list hl
end
end L2

/-! Forms for comprehensions, callees by name, drawings as data. -/
namespace L2
open PySem PySem.Spec PyProof.Rows

/-! ### comprehensions by an invariant -/
section
variable {g : TG} {tc : TT} {te : TE} {σ : St} {H : Hp} {Q : VK} {K : PySem.W.Frag} {a : Addr} {xs : List V}
theorem lc_gen {J : It} {n : Nat} (hn : n ≤ sizeLine) (Pv : Nat → List V → Hp → Prop) (h0 : Pv 0 [] H) (hlen : ∀ i ys H, Pv i ys H → ys.length ≤ i) (go : ∀ i ys H, i < n → Pv i ys H → J.go i H) (stop : ∀ ys H, Pv n ys H → J.stop n H)
    (hs : ∀ i ys H, i < n → Pv i ys H → ∀ x H', J.yld i H x H' → g x σ H' fun σ2 H2 => tc σ2 H2 fun b H3 => if b = true then te σ2 H3 fun y H4 => Pv (i + 1) (ys ++ [y]) H4 else Pv (i + 1) ys H3)
    (hd : ∀ ys H, Pv n ys H → ∀ D, H D = none → Q (.ref D) (upd H D (.lst ys))) : LcW J σ g tc te H Q := by
  unfold LcW
  refine ⟨fun i m ys H => m = n - i ∧ i ≤ n ∧ Pv i ys H, ⟨n, by simp, Nat.zero_le _, h0⟩, ?_⟩
  rintro i m ys H ⟨rfl, hi, p⟩
  have hy := hlen i ys H p
  by_cases hlt : i < n
  · exact .inr ⟨go i ys H hlt p, by omega, Pv (i + 1), fun ys' H' h2 => ⟨n - (i + 1), by omega, rfl, hlt, h2⟩, fun x H' y => hs i ys H hlt p x H' y⟩
  · have e : i = n := by omega
    subst e
    exact .inl ⟨stop ys H p, by omega, hd ys H p⟩
theorem lc_list (hn : xs.length ≤ sizeLine) (Pv : Nat → List V → Hp → Prop) (h0 : Pv 0 [] H) (hlen : ∀ i ys H, Pv i ys H → ys.length ≤ i) (hS : ∀ i ys H, Pv i ys H → SqL K H a xs)
    (hs : ∀ i x ys H, xs[i]? = some x → Pv i ys H → g x σ H fun σ2 H2 => tc σ2 H2 fun b H3 => if b = true then te σ2 H3 fun y H4 => Pv (i + 1) (ys ++ [y]) H4 else Pv (i + 1) ys H3)
    (hd : ∀ ys H, Pv xs.length ys H → ∀ D, H D = none → Q (.ref D) (upd H D (.lst ys))) : LcW (Itl K a) σ g tc te H Q :=
  lc_gen hn Pv h0 hlen (fun i ys H hi p => ⟨xs, xs[i], hS i ys H p, by simp [hi]⟩) (fun ys H p => ⟨xs, hS _ ys H p, Nat.le_refl _⟩) (fun i ys H hi p x H' y => by
    obtain ⟨e, y⟩ := y
    subst e
    exact hs i x ys _ (y xs (hS i ys _ p)) p) hd
theorem lc_rng {lo : Int} {n : Nat} (hn : n ≤ sizeLine) (Pv : Nat → List V → Hp → Prop) (h0 : Pv 0 [] H) (hlen : ∀ i ys H, Pv i ys H → ys.length ≤ i)
    (hs : ∀ i ys H, i < n → Pv i ys H → g (.int (lo + i)) σ H fun σ2 H2 => tc σ2 H2 fun b H3 => if b = true then te σ2 H3 fun y H4 => Pv (i + 1) (ys ++ [y]) H4 else Pv (i + 1) ys H3)
    (hd : ∀ ys H, Pv n ys H → ∀ D, H D = none → Q (.ref D) (upd H D (.lst ys))) : LcW (Itr lo n) σ g tc te H Q :=
  lc_gen hn Pv h0 hlen (fun i ys H hi p => hi) (fun ys H p => Nat.le_refl _) (fun i ys H hi p x H' y => by
    obtain ⟨e, y⟩ := y
    subst e y
    exact hs i ys _ hi p) hd
end
/-! ### the block's scope, by one look -/
def lcLook (N : List Str) (osc scope : Scope) (Fs : List Str) (fi : List Nat) : Bool :=
  (scope.kind == .function) && scope.names.all (fun y => y.2 != .cell) && scope.names.all (fun y => y.2 != .local || scope.names.lookup y.1 == some .local) && Fs.all (fun x => scope.names.lookup x == some .free) &&
    scope.names.all (fun y => y.2 != .free || osc.names.lookup y.1 == some .cell || osc.names.lookup y.1 == some .free) && (fi.map (fun i => N[i]?) == Fs.map some)
theorem LcScope.of {N : List Str} {osc scope : Scope} {Ls Fs : List Str} {fi : List Nat} (h : lcLook N osc scope Fs fi = true) : LcScope N osc scope Ls Fs fi := by
  simp only [lcLook, Bool.and_eq_true, List.all_eq_true, Bool.or_eq_true, bne_iff_ne, beq_iff_eq] at h
  obtain ⟨⟨⟨⟨⟨h1, h2⟩, h3⟩, h4⟩, h5⟩, h6⟩ := h
  refine ⟨h1, h2, fun y hy hl => (h3 y hy).elim (fun z => absurd hl z) id, h4, fun y hy hf => ?_, h6⟩
  rcases h5 y hy with (z | z) | z
  · exact absurd hf z
  · exact .inl z
  · exact .inr z

/-! ### callees by name -/
def Has (P : Program) (w : World) (K : PySem.W.Frag) (mg : Str → Option Value) (base : Heap) (k : Nat) (x : Str) (ps : List Str) (sp : Sp) : Prop :=
  ∃ (f : Addr) (fd : FuncData), FnOk P w K mg base CX0 k f fd ps sp ∧ mg x = some (.ref f) ∧ PySem.W.keepIn K (.ref f) = true ∧ Binds K fd ps []
theorem pe_has {X : Cx} {k : Nat} {x : Str} {ps : List Str} {sp : Sp} {p pos : Pos} {e : Expr} {es : List Expr} {t : TA} (h : Has X.prog X.w X.K X.mg X.base k x ps sp) (hr : Room k X.A) (ha : PA X (e :: es) t) (hg : Gl X x := by rfl) (hdb : (x == ("__debug__" : Str)) = false := by decide)
    (he : starEach (e :: es) X.env = (false, eval e X.env) :: starEach es X.env := by rfl) (hpl : (backTo pos (starEach es X.env)).any (·.1) = false := by rfl) : PE X (.Call (.Name x p) (e :: es) [] pos) (tCall sp [] E0 t) := by
  obtain ⟨f, fd, G, hm, hk, hb⟩ := h
  exact pe_call G hr hg hm hk hb .nil pass0 ha hdb he hpl
/-- one frame: all that was tracked but b is as it was -/
def Frm (b : Addr) (H H' : Hp) : Prop := ∀ c o, H c = some o → c ≠ b → H' c = some o
theorem Frm.refl (b : Addr) (H : Hp) : Frm b H H := fun _ _ h _ => h
theorem Frm.trans {b : Addr} {H H1 H2 : Hp} (x : Frm b H H1) (y : Frm b H1 H2) : Frm b H H2 := fun c o h n => y c o (x c o h n) n
theorem Same.frm {b : Addr} {H H' : Hp} (x : Same H H') : Frm b H H' := fun c o h _ => x c o h
theorem Same.laid {H : Hp} {p : Addr} {o : HO} (h : H p = none) : Same H (upd H p o) := fun c u e => by rw [upd_ne (ne_of_none e h)]; exact e
theorem Same.step {H H' : Hp} {p : Addr} {o : HO} (s : Same H H') (h : H' p = none) : Same H (upd H' p o) := s.trans (.laid h)
theorem Frm.upd {b : Addr} {H : Hp} {o : HO} : Frm b H (upd H b o) := fun c u e n => by rw [upd_ne n]; exact e
theorem Frm.new {b p : Addr} {H H' : Hp} {o : HO} (s : Frm b H H') (h : H' p = none) : Frm b H (L2.upd H' p o) := s.trans (Same.laid h).frm
def Bag (H : Hp) (b : Addr) : Prop := ∃ g r : Int, 0 ≤ g ∧ H b = some (.lst [.int g, .int r])
theorem Frm.free {b : Addr} {H H' : Hp} (f : Frm b H H') (hb : Bag H' b) {p : Addr} (h : H' p = none) : H p = none := by
  cases q : H p with
  | none => rfl
  | some o =>
    by_cases e : p = b
    · subst e
      obtain ⟨g, r, _, z⟩ := hb
      rw [h] at z; cases z
    · rw [f p o q e] at h; cases h

/-! ### letters as data -/
/-- the letters lead from no strand to n strands -/
inductive Wk : List (Str × Int) → Int → Prop
  | nil : Wk [] 0
  | born {ls : List (Str × Int)} {n k : Int} : Wk ls n → 0 ≤ k → k ≤ n → Wk (ls ++ [((("born" : Str), k) : Str × Int)]) (n + 2)
  | cross {ls : List (Str × Int)} {n k : Int} : Wk ls n → 0 ≤ k → k + 1 < n → Wk (ls ++ [((("cross" : Str), k) : Str × Int)]) n
  | fin {ls : List (Str × Int)} {n k : Int} : Wk ls n → 0 ≤ k → k + 1 < n → Wk (ls ++ [((("end" : Str), k) : Str × Int)]) (n - 2)
end L2

/-! Tests by their truth; a letter put to a list. -/
namespace L2
open PySem PySem.Spec PyProof.Rows
theorem lcT {σ : St} {H : Hp} {A B : Hp → Prop} (h : A H) : tTrue σ H fun b H3 => if b = true then A H3 else B H3 := by
  show if true = true then A H else B H
  exact iteT h
end L2

/-! Numbers of letters by their kind; strands counted. -/
namespace L2
open PySem PySem.Spec PyProof.Rows
theorem lcG {i : Nat} {v : V} {σ : St} {H : Hp} {A B : St → Hp → Prop} (h : A (σ.set i (some v)) H) : gName i v σ H fun σ2 H2 => tTrue σ2 H2 fun b H3 => if b = true then A σ2 H3 else B σ2 H3 := by
  show if true = true then A (σ.set i (some v)) H else B (σ.set i (some v)) H
  exact iteT h
end L2

/-! xs[a:c] = ys, del xs[a:c], xs.insert(i, y), for over enumerate. -/
namespace L2
open PySem PySem.Spec PyProof.Rows
section
variable {X : Cx}
theorem part_rel {v : Value} {a : Int} (h : IsPart v (some a)) : RelV (.int a) v := by
  cases h with
  | int _ t => exact ⟨t, rfl⟩
/-! insert -/
def rInsert : V → List V → Hp → VK → Prop := fun x vs H Q => ∃ (l : Addr) (xs : List V) (i : Int) (y : V), x = .ref l ∧ vs = [.int i, y] ∧ H l = some (.lst xs) ∧ 0 ≤ i ∧ i ≤ xs.length ∧ xs.length < sizeLine ∧ xs.length < 2 ^ 62 ∧ Q .non (upd H l (.lst (xs.take i.toNat ++ y :: xs.drop i.toNat)))
theorem mt_insert : MtM X "list.insert" rInsert := by
  intro pins s σ H x vs v us Q I rx rv h
  obtain ⟨l, xs, i, y, rfl, rfl, hH, h0, h1, hz, hb, q⟩ := h
  cases rx
  obtain ⟨u1, u, rfl, ri, ru⟩ := rv.two
  obtain ⟨t, rfl⟩ := ri
  obtain ⟨z, its, n, r, hl, e⟩ := I.lstM hH
  have hfit : ¬ (!Builtin.List.listFitsIndex i) = true := by
    unfold Builtin.List.listFitsIndex
    simp
    omega
  refine call_meets F.slot_list_insert ⟨_, e, rfl⟩ F.entry_list_insert (F.args_list_insert_3 _ _ _) (AutoSeq1.list_insert_list_int_val_1 l its.toArray n i t u hfit (by rw [List.size_toArray]; omega)) ⟨e, ?_⟩
  refine ⟨.non, _, I.lset (its' := its.take i.toNat ++ u :: its.drop i.toNat) hH e ?_ (Vals.append (r.take _) (.cons ru (r.drop _))) ?_, rfl, q⟩
  · have hi : ¬ i < 0 := by omega
    have hm : min i.toNat its.toArray.size = i.toNat := by rw [List.size_toArray]; omega
    simp only [if_neg hi, hm]
    simp
    rw [List.take_of_length_le (by simp)]
  · rw [List.length_append, List.length_cons, List.length_take, List.length_drop]
    omega
end
/-! the list without its items from a to c -/
section
variable {prog : Program} {w : World} {A : Around} {E : Value → Shared → Prop} {s : Shared}
end
section
variable {X : Cx}
end
/-! for over enumerate, the list left as it is by the body -/
end L2

/-! Threads at each place, as lists of ints. -/
namespace L2
open PySem PySem.Spec PyProof.Rows
end L2

namespace L2
open PySem PySem.Spec PyProof.Rows
theorem ixN_nat {n j : Nat} (h : j < n) : ixN n (j : Int) = some j := by
  unfold ixN
  rw [if_pos (by omega), if_pos (by omega)]
  simp
end L2

namespace L2
open PySem PySem.Spec PyProof.Rows
end L2

namespace L2
open PySem PySem.Spec PyProof.Rows

/-! ### lists of pairs as tables -/
section
variable {κ : Type} [DecidableEq κ]
end


/-! ### a tracked dict, its keys ints and texts or tuples of these -/
section
variable {P : Program} {w : World} {H : Hp} {h : Heap} {a : Addr}
end

section
variable {X : Cx} {pins : List (Addr × Obj)} {σ : St} {H : Hp} {s : Shared} {a : Addr} {y v : V} {u r : Value} {o : Option V} {A : Around} {E : Value → Shared → Prop}

end

section
variable {X : Cx} {pins : List (Addr × Obj)} {σ : St} {H : Hp} {s : Shared} {a : Addr} {kvs : List (Key × V)} {k : Key} {u : Value} {A : Around} {E : Value → Shared → Prop}
end


/-! ### readings and rules -/
section
variable {X : Cx} {o i e value : Expr} {pos pos' tpos : Pos} {td ty tv : TE}
end


/-! ### displays -/
section
variable {X : Cx} {pos : Pos}
end
end L2

/-! sorted(a dict), d[k] as a target and as a value, a, b = a list, xs[::2], xs != []. -/
namespace L2
open PySem PySem.Spec PyProof.Rows
theorem ObjOk.there {P : Program} {w : World} {H : Hp} {h : Heap} {a : Addr} {o : HO} (x : ObjOk P w H h a o) : ∃ ob, h.get? a = some ob := by
  cases o with
  | lst xs => obtain ⟨_, _, _, _, e⟩ := x; exact ⟨_, e⟩
  | tup xs => obtain ⟨_, _, _, _, e, _⟩ := x; exact ⟨_, e⟩
  | dK kvs => obtain ⟨_, _, _, _, o, _, _, e, _⟩ := x; exact ⟨_, e⟩
  | dT kvs => obtain ⟨_, _, _, _, o, _, _, e, _⟩ := x; exact ⟨_, e⟩
  | set S n => obtain ⟨o, _, _, _, e, _⟩ := x; exact ⟨_, e⟩
  | ins C dx fs => obtain ⟨_, _, _, e, _⟩ := x; exact ⟨_, e⟩
  | own y => obtain ⟨_, e⟩ := x; exact ⟨_, e⟩
  | xd fs => obtain ⟨_, ⟨_, _, _, e, _⟩, _⟩ := x; exact ⟨_, e⟩
  | rng lo hi => obtain ⟨_, _, _, e⟩ := x; exact ⟨_, e⟩
  | frz ob u => obtain ⟨e, _⟩ := x; exact ⟨_, e⟩
  | tbl ps => exact ⟨_, x⟩
  | met f y => exact ⟨_, x⟩
  | ext φ => obtain ⟨_, ⟨_, e⟩, _⟩ := x; exact ⟨_, e⟩
theorem ns_inj {h : Heap} {a : Addr} {m m' : Str → Option Value} (x : h.Ns a m) (y : h.Ns a m') : m = m' := by
  obtain ⟨o, es, ep, ho, hd, _, hm⟩ := x
  obtain ⟨o', es', ep', ho', hd', _, hm'⟩ := y
  rw [ho] at ho'
  cases ho'
  rw [hd] at hd'
  cases hd'
  exact funext fun n => (hm n).symm.trans (hm' n)
section
variable {X : Cx} {pins : List (Addr × Obj)} {σ : St} {H : Hp} {s : Shared}
/-- a new object at D, all else kept but the frame's own object, whose map is kept -/
theorem Inv.laidN {h' : Heap} {D : Addr} {o : HO} {t' : Nat} {m : Str → Option Value} (I : Inv X pins σ H s) (F : Fr X.base X.env.locals s.heap m) (F' : Fr X.base X.env.locals h' m)
    (N' : News X.base X.env.locals h' (allNews X.base s.heap X.env.locals)) (hD : s.heap.get? D = none) (hn : H D = none) (new : ObjOk X.prog X.w (upd H D o) h' D o) : Inv X pins σ (upd H D o) { s with heap := h', toks := t' } := by
  have kp : ∀ b u, b ≠ X.env.locals → s.heap.get? b = some u → h'.get? b = some u := fun b u hb e => by
    cases q : X.base.get? b with
    | some v =>
      have e1 := F'.keep b v q
      have e2 := F.keep b v q
      rw [e] at e2
      cases e2
      exact e1
    | none => exact (N' (b, u) (mem_allNews hb q e)).1
  have neL : ∀ b u, H b = some u → b ≠ X.env.locals := fun b u e z => by rw [z, I.free] at e; cases e
  refine I.step (g' := s.gens) (d' := s.drawn) (ch := []) (fun _ z => nomatch z) (fun b ob hb _ _ e _ => kp b ob hb e) (fun b ob hb _ _ e _ => ⟨ob.slots, kp b ob hb e⟩) (fun b ob _ e n => ?_) (fun b ob _ e => ?_) (fun b xs e => ?_) (fun b ob u e => ?_) (fun b ps e => ⟨#[], ?_⟩) (fun m' hm => ?_) (fun b u e => ?_) I.bare
  · rw [upd_ne (fun z => by subst z; rw [hD] at e; cases e)]
    exact n
  · by_cases hb : b = X.env.locals
    · subst hb
      obtain ⟨ob', _, _, z, _⟩ := F'.ns
      exact ⟨ob', z⟩
    · exact ⟨ob, kp b ob hb e⟩
  · rw [upd_ne (ne_of_none e hn)]; exact e
  · rw [upd_ne (ne_of_none e hn)]; exact e
  · rw [upd_ne (ne_of_none e hn), e]; simp
  · rw [ns_inj hm F.ns]; exact F'.ns
  · by_cases hb : b = D
    · subst hb; rw [upd_same] at e; cases e; exact new
    · rw [upd_ne hb] at e
      refine (I.hok b u e).stay (fun c v hc q => kp c v ?_ q) (fun c q => by rw [upd_ne (ne_of_none q hn)]; exact q) fun c xs q => by rw [upd_ne (ne_of_none q hn)]; exact q
      rcases hc with z | z
      · subst z; exact neL _ u e
      · exact neL c _ z
end
section
variable {X : Cx}
end
/-! xs[::2] -/
section
variable {X : Cx}
end
end L2

/-! Going along a piece: partners at ends and at births, orbits, tours. -/
namespace L2
open PySem PySem.Spec PyProof.Rows
def bw (x : Int) : Int := if x % 2 = 0 then x + 1 else x - 1
structure Mates (m : Int → Int) (N : Int) : Prop where
  lo : ∀ x, 0 ≤ x → x < N → 0 ≤ m x
  hi : ∀ x, 0 ≤ x → x < N → m x < N
  inv : ∀ x, 0 ≤ x → x < N → m (m x) = x
  ne : ∀ x, 0 ≤ x → x < N → m x ≠ x
  ev : N % 2 = 0
def gt (m : Int → Int) (f : Int) : Nat → Int
  | 0 => f
  | i + 1 => bw (m (gt m f i))
def orb (m : Int → Int) (f : Int) : Nat → List Int
  | 0 => []
  | i + 1 => orb m f i ++ [gt m f i, m (gt m f i)]
section
variable {m : Int → Int} {N f : Int}
theorem nodup_short : ∀ (n : Nat) (l : List Int), l.Nodup → (∀ x ∈ l, 0 ≤ x ∧ x < (n : Int)) → l.length ≤ n
  | 0, l, _, h => by
    cases l with
    | nil => simp
    | cons x _ => have := h x List.mem_cons_self; omega
  | n + 1, l, nd, h => by
    by_cases hn : (n : Int) ∈ l
    · have h1 := nodup_short n (l.erase (n : Int)) (nd.erase _) fun x hx => by
        have h2 := (nd.mem_erase_iff).mp hx
        have := h x h2.2
        have := h2.1
        omega
      rw [List.length_erase_of_mem hn] at h1
      omega
    · have h1 := nodup_short n l nd fun x hx => by
        have := h x hx
        have h3 : x ≠ (n : Int) := fun z => hn (z ▸ hx)
        omega
      omega
end
/-- the tour from f: till one comes back -/
def IsTour (m : Int → Int) (f : Int) (T : List Int) : Prop := ∃ L, 1 ≤ L ∧ gt m f L = f ∧ (∀ j, 1 ≤ j → j < L → gt m f j ≠ f) ∧ T = orb m f L
inductive Trs (m : Int → Int) : Nat → List (List Int) → Prop
  | nil : Trs m 0 []
  | add {i : Nat} {ts : List (List Int)} {T : List Int} : Trs m i ts → (i : Int) ∉ ts.flatten → IsTour m (i : Int) T → Trs m (i + 1) (ts ++ [T])
  | skip {i : Nat} {ts : List (List Int)} : Trs m i ts → (i : Int) ∈ ts.flatten → Trs m (i + 1) ts
end L2

/-! The threads at letters; who ends with whom. -/
namespace L2
open PySem PySem.Spec PyProof.Rows
end L2

/-! xs != [], in and not in within blocks, pairs as data. -/
namespace L2
open PySem PySem.Spec PyProof.Rows
section
variable {X : Cx}
def rNeNil (K : PySem.W.Frag) : R2 := fun x y H Q => ∃ (p q : Addr) (xs : List V), x = .ref p ∧ y = .ref q ∧ SqL K H p xs ∧ SqL K H q [] ∧ Q (.bl (!xs.isEmpty)) H
theorem op_neNil (hu : X.A.units + 64 < cLine) : OpR X (compareOp .NotEq) (rNeNil X.K) := by
  intro pins s σ H x y v u Q I rx ry h
  obtain ⟨p, q, xs, rfl, rfl, hp, hq, hQ⟩ := h
  cases rx
  cases ry
  obtain ⟨its, r1, p1, _⟩ := I.list hp
  obtain ⟨its2, r2, p2, _⟩ := I.list hq
  have l1 := r1.length
  have l2 := r2.length
  cases xs with
  | nil =>
    refine SeqAt.RcNeAt.lists (e := fun _ => true) p1.isList p2.isList (by simp only [List.size_toArray]; omega) (by omega) (fun j h1 h2 => ?_) X.prog X.w _ _ ⟨.bl false, H, I, ?_, hQ⟩
    · rw [List.size_toArray] at h1
      have : its.length = 0 := by simpa using l1.symm
      omega
    · show Value.bool _ = Value.bool false
      simp
  | cons z zs =>
    refine SeqAt.RcNeAt.lists_lengths p1.isList p2.isList (by simp only [List.size_toArray]; rw [bne_iff_ne]; simp at l1 l2; omega) (by omega) X.prog X.w _ _ ⟨.bl true, H, I, rfl, hQ⟩
theorem op_neNilK {K : PySem.W.Frag} (h : X.K = K) (hu : X.A.units + 64 < cLine) : OpR X (compareOp .NotEq) (rNeNil K) := h ▸ op_neNil hu
end
/-! pairs of ints in tuples -/
/-! rows by their numbers -/
end L2

/-! sum of a list of ints. -/
namespace L2
open PySem PySem.Spec PyProof.Rows
section
variable {X : Cx} {pins : List (Addr × Obj)} {σ : St} {H : Hp} {s : Shared}
end
section
variable {X : Cx}
end
end L2

/-! zip of two lists; max of a list; list.index; x is True. -/
namespace L2
open PySem PySem.Spec PyProof.Rows PyProof.V
def Itz (K : PySem.W.Frag) (a b : Addr) : It :=
  ⟨fun i H => ∃ xs ys x y, SqL K H a xs ∧ SqL K H b ys ∧ xs[i]? = some x ∧ ys[i]? = some y,
   fun i H v H' => ∃ p x y, v = .ref p ∧ H p = none ∧ H' = upd H p (.tup [x, y]) ∧ (∀ xs, SqL K H a xs → xs[i]? = some x) ∧ (∀ ys, SqL K H b ys → ys[i]? = some y),
   fun i H => ∃ xs ys, SqL K H a xs ∧ SqL K H b ys ∧ (xs.length ≤ i ∨ ys.length ≤ i)⟩
theorem turn_zip {P : Program} {w : World} {K : PySem.W.Frag} {es : List Expr} {k : Nat} {pos : Pos} (a b z TI TO i1 i2 : Addr) (ap : ZipApart z TI TO i1 i2 a b) :
    Turn P w K (.Tuple es k pos) (Itz K a b) [z, TI, TO, i1, i2] z (fun i h => IsZip h z TI TO .none ∧ IsPair h TI (.ref i1) (.ref i2) ∧ (∃ u v, IsPair h TO u v) ∧ h.IsListIter i1 a i ∧ h.IsListIter i2 b i) where
  mem := by simp
  obj := fun i h st c hc => by
    obtain ⟨h1, h2, ⟨u, v, h3⟩, ⟨o1, ho1, c1, d1⟩, ⟨o2, ho2, c2, d2⟩⟩ := st
    simp only [List.mem_cons, List.not_mem_nil, or_false] at hc
    rcases hc with e | e | e | e | e
    · subst e; exact ⟨_, h1, fun v z => by have z' : Data.fields _ = Data.cell v := z; cases z'⟩
    · subst e; exact ⟨_, h2, fun v z => by have z' : Data.seq _ _ = Data.cell v := z; cases z'⟩
    · subst e; exact ⟨_, h3, fun v z => by have z' : Data.seq _ _ = Data.cell v := z; cases z'⟩
    · subst e; exact ⟨o1, ho1, fun v z => by rw [d1] at z; cases z⟩
    · subst e; exact ⟨o2, ho2, fun v z => by rw [d2] at z; cases z⟩
  keep := fun i h h' st k => by
    obtain ⟨h1, h2, ⟨u, v, h3⟩, h4, h5⟩ := st
    exact ⟨k z (by simp) _ h1, k TI (by simp) _ h2, ⟨u, v, k TO (by simp) _ h3⟩, h4.at fun o x => k i1 (by simp) o x, h5.at fun o x => k i2 (by simp) o x⟩
  item := by
    intro X hP hw hK hc i pins s σ H E I hf st hg
    subst hP hw hK
    obtain ⟨xs, ys, x, y, hq1, hq2, hx, hy⟩ := hg
    obtain ⟨its1, rv1, p1, hz1⟩ := I.list hq1
    obtain ⟨its2, rv2, p2, hz2⟩ := I.list hq2
    obtain ⟨u, hu, ru⟩ := rv1.get hx
    obtain ⟨v, hv, rv⟩ := rv2.get hy
    obtain ⟨h1, h2, ⟨oa, ob, h3⟩, h4, h5⟩ := st
    refine wpAny_pyNext_zip_item ap h1 h2 h3 h4 h5 p1.isList p2.isList (x := u) (y := v) (by simpa using hu) (by simpa using hv) fun h' g1 g2 g3 g4 g5 hsz kk => ⟨_, rfl, ?_⟩
    refine wpAny_letOwnedTupleGo_zip (s := { s with heap := h' }) g1 fun h'' e1 hs'' => ?_
    have lt : ∀ c ∈ [z, TI, TO, i1, i2], @LT.lt Nat _ c s.heap.objs.size := fun c hc => by
      simp only [List.mem_cons, List.not_mem_nil, or_false] at hc
      rcases hc with e | e | e | e | e
      · subst e; exact aLt h1
      · subst e; exact aLt h2
      · subst e; exact aLt h3
      · subst e; obtain ⟨o, ho, _⟩ := h4; exact aLt ho
      · subst e; obtain ⟨o, ho, _⟩ := h5; exact aLt ho
    have kk2 : ∀ c o, c ≠ z → c ≠ TO → c ≠ i1 → c ≠ i2 → s.heap.get? c = some o → h''.get? c = some o := fun c o n1 n2 n3 n4 q => (hs''.2 c n1).trans (kk c o n1 n2 n3 n4 q)
    have nne : ∀ c o, H c = some o → c ≠ z ∧ c ≠ TO ∧ c ≠ i1 ∧ c ≠ i2 := fun c o q => by
      refine ⟨fun e => ?_, fun e => ?_, fun e => ?_, fun e => ?_⟩
      · rw [e, (hf z (by simp)).1] at q; cases q
      · rw [e, (hf TO (by simp)).1] at q; cases q
      · rw [e, (hf i1 (by simp)).1] at q; cases q
      · rw [e, (hf i2 (by simp)).1] at q; cases q
    have fr : H s.heap.objs.size = none := I.hok.fresh (Nat.le_refl _)
    have hT : h''.get? s.heap.objs.size = some { cls := .type "tuple", data := .seq #[u, v] } := (hs''.2 _ (Nat.ne_of_gt (lt z (by simp)))).trans g5
    have nT : ∀ c o, s.heap.get? c = some o → c ≠ s.heap.objs.size := fun c o q => Nat.ne_of_lt (aLt q)
    have ok' : HOk X.prog X.w (upd H s.heap.objs.size (.tup [x, y])) h'' := fun c o q => by
      by_cases hb : c = s.heap.objs.size
      · subst hb
        rw [upd_same] at q
        cases q
        exact ⟨show 2 ≤ sizeLine by decide, [u, v], .cons ru (.cons rv .nil), ⟨_, hT, rfl, _, rfl⟩⟩
      · rw [upd_ne hb] at q
        refine (I.hok c o q).stay (fun d v hd r => ?_) (fun d r => by rw [upd_ne (ne_of_none r fr)]; exact r) fun d xs r => by rw [upd_ne (ne_of_none r fr)]; exact r
        rcases hd with e | e
        · subst e
          obtain ⟨n1, n2, n3, n4⟩ := nne d o q
          exact kk2 d v n1 n2 n3 n4 r
        · obtain ⟨n1, n2, n3, n4⟩ := nne d _ e
          exact kk2 d v n1 n2 n3 n4 r
    have notin : ∀ c, c ∉ [z, TI, TO, i1, i2] → c ≠ z ∧ c ≠ TO ∧ c ≠ i1 ∧ c ≠ i2 := fun c hc => by
      simp only [List.mem_cons, List.not_mem_nil, or_false, not_or] at hc
      exact ⟨hc.1, hc.2.2.1, hc.2.2.2.1, hc.2.2.2.2⟩
    have I1 : Inv X pins σ (upd H s.heap.objs.size (.tup [x, y])) { s with heap := h'', gens := s.gens, drawn := s.drawn, toks := s.toks } := by
      refine I.step (ch := [z, TI, TO, i1, i2]) (fun c hc => ?_) (fun c o _ _ hc q _ => ?_) (fun c o _ _ hc q _ => ⟨o.slots, ?_⟩)
        (fun c o _ q n => by rw [upd_ne (nT c o q)]; exact n) (fun c o hc q => ⟨o, ?_⟩) (fun c xs q => by rw [upd_ne (ne_of_none q fr)]; exact q) (fun c o u q => by rw [upd_ne (ne_of_none q fr)]; exact q)
        (fun c ps q => ⟨#[], by rw [upd_ne (ne_of_none q fr), q]; simp⟩) (fun m hm => ?_) ok' I.bare
      · obtain ⟨f0, f1, f2, f3, f4, f5⟩ := hf c hc
        exact ⟨f3, f1, f4, f5⟩
      · obtain ⟨n1, n2, n3, n4⟩ := notin c hc; exact kk2 c o n1 n2 n3 n4 q
      · obtain ⟨n1, n2, n3, n4⟩ := notin c hc; exact kk2 c o n1 n2 n3 n4 q
      · obtain ⟨n1, n2, n3, n4⟩ := notin c hc; exact kk2 c o n1 n2 n3 n4 q
      · obtain ⟨o, es, ep, ho, r⟩ := hm
        exact ⟨o, es, ep, kk2 _ o (Ne.symm (hf z (by simp)).2.1) (Ne.symm (hf TO (by simp)).2.1) (Ne.symm (hf i1 (by simp)).2.1) (Ne.symm (hf i2 (by simp)).2.1) ho, r⟩
    refine ⟨.ref s.heap.objs.size, _, I1, rfl, ⟨s.heap.objs.size, x, y, rfl, fr, rfl, fun zs hz => by rw [I.list_inj hz hq1]; exact hx, fun zs hz => by rw [I.list_inj hz hq2]; exact hy⟩,
      ⟨e1, kk2 TI _ ap.TIz ap.TITO ap.TIi1 ap.TIi2 h2, ⟨u, v, (hs''.2 TO ap.TOz).trans g2⟩, g3.at fun o q => (hs''.2 i1 ap.i1z).trans q, g4.at fun o q => (hs''.2 i2 ap.i2z).trans q⟩, fun c hc => ?_⟩
    rw [upd_ne (Nat.ne_of_lt (lt c hc))]
    exact (hf c hc).1
  done := by
    intro X hP hw hK hc i pins s σ H E I hf st hg
    subst hP hw hK
    obtain ⟨xs, ys, hq1, hq2, hx⟩ := hg
    obtain ⟨its1, rv1, p1, hz1⟩ := I.list hq1
    obtain ⟨its2, rv2, p2, hz2⟩ := I.list hq2
    obtain ⟨h1, h2, ⟨oa, ob, h3⟩, h4, h5⟩ := st
    have l1 := rv1.length
    have l2 := rv2.length
    refine wpAny_pyNext_zip_end (I.ok.hd hc) ap h1 h2 h3 h4 h5 p1.isList p2.isList (by rcases hx with e | e; exact .inl (by simp; omega); exact .inr (by simp; omega)) fun h' kk => ⟨rfl, ?_⟩
    have nne : ∀ c o, H c = some o → c ≠ z ∧ c ≠ TO ∧ c ≠ i1 ∧ c ≠ i2 := fun c o q => by
      refine ⟨fun e => ?_, fun e => ?_, fun e => ?_, fun e => ?_⟩
      · rw [e, (hf z (by simp)).1] at q; cases q
      · rw [e, (hf TO (by simp)).1] at q; cases q
      · rw [e, (hf i1 (by simp)).1] at q; cases q
      · rw [e, (hf i2 (by simp)).1] at q; cases q
    have notin : ∀ c, c ∉ [z, TI, TO, i1, i2] → c ≠ z ∧ c ≠ TO ∧ c ≠ i1 ∧ c ≠ i2 := fun c hc => by
      simp only [List.mem_cons, List.not_mem_nil, or_false, not_or] at hc
      exact ⟨hc.1, hc.2.2.1, hc.2.2.2.1, hc.2.2.2.2⟩
    have ok' : HOk X.prog X.w H h' := fun c o q => by
      refine (I.hok c o q).stay (fun d v hd r => ?_) (fun d r => r) fun d xs r => r
      rcases hd with e | e
      · subst e
        obtain ⟨n1, n2, n3, n4⟩ := nne d o q
        exact kk d v n1 n2 n3 n4 r
      · obtain ⟨n1, n2, n3, n4⟩ := nne d _ e
        exact kk d v n1 n2 n3 n4 r
    refine I.step (g' := s.gens) (d' := s.drawn) (t' := s.toks) (ch := [z, TI, TO, i1, i2]) (fun c hc => ?_) (fun c o _ _ hc q _ => ?_) (fun c o _ _ hc q _ => ⟨o.slots, ?_⟩)
        (fun c o _ q n => n) (fun c o hc q => ⟨o, ?_⟩) (fun c xs q => q) (fun c o u q => q) (fun c ps q => ⟨#[], by rw [q]; simp⟩) (fun m hm => ?_) ok' I.bare
    · obtain ⟨f0, f1, f2, f3, f4, f5⟩ := hf c hc
      exact ⟨f3, f1, f4, f5⟩
    · obtain ⟨n1, n2, n3, n4⟩ := notin c hc; exact kk c o n1 n2 n3 n4 q
    · obtain ⟨n1, n2, n3, n4⟩ := notin c hc; exact kk c o n1 n2 n3 n4 q
    · obtain ⟨n1, n2, n3, n4⟩ := notin c hc; exact kk c o n1 n2 n3 n4 q
    · obtain ⟨o, es, ep, ho, r⟩ := hm
      exact ⟨o, es, ep, kk _ o (Ne.symm (hf z (by simp)).2.1) (Ne.symm (hf TO (by simp)).2.1) (Ne.symm (hf i1 (by simp)).2.1) (Ne.symm (hf i2 (by simp)).2.1) ho, r⟩
  self := fun _ _ _ _ _ st h => wpAny_pyIter_zip st.1 h
section
variable {X : Cx}
def iZip (K : PySem.W.Frag) (ta : TA) : TI := fun σ H R => ta σ H fun vs H1 => ∃ a b, vs = [.ref a, .ref b] ∧ (∃ xs, SqL K H1 a xs) ∧ (∃ ys, SqL K H1 b ys) ∧ R (Itz K a b) H1
theorem pi_zip {a b : Expr} {ta : TA} {p pos tpos : Pos} {es : List Expr} {k : Nat} (hg : Gl X "zip") (hm : X.mg "zip" = none) (ha : PA X [a, b] ta) (hs : starEach [a, b] X.env = [(false, eval a X.env), (false, eval b X.env)] := by rfl) (hs2 : starEach [b] X.env = [(false, eval b X.env)] := by rfl) :
    PI X (.Tuple es k tpos) (.Call (.Name "zip" p) [a, b] [] pos) (iZip X.K ta) := by
  intro pins s σ H R I h
  refine Call_ (ld_blt I hg hm boot_zip (PyProof.Rows.callWith_type1 (thn (ha pos pins s σ H _ I h) fun us s1 ⟨vs, H1, I1, r1, q1⟩ => ?_) (by rw [hs, hs2]) (by rw [hs2]; rfl)))
  obtain ⟨l1, l2, e, ⟨xs, hq1⟩, ⟨ys, hq2⟩, q⟩ := q1
  subst e
  obtain ⟨u, v, rfl, ru, rv⟩ := r1.two
  cases ru
  cases rv
  obtain ⟨its1, rv1, p1, hz1⟩ := I1.list hq1
  obtain ⟨its2, rv2, p2, hz2⟩ := I1.list hq2
  have L1 : @LT.lt Nat _ l1 s1.heap.objs.size := by obtain ⟨o, ho, _⟩ := p1.isList; exact aLt ho
  have L2 : @LT.lt Nat _ l2 s1.heap.objs.size := by obtain ⟨o, ho, _⟩ := p2.isList; exact aLt ho
  refine call_zip_2 p1.isList p2.isList fun h' g1 g2 g3 g4 g5 hsz kk => ?_
  have I2 : Inv X pins σ H1 { s1 with heap := h' } := I1.kept (t' := s1.toks) kk
  refine wpAny_pyIter_zip (s := { s1 with heap := h' }) g1 ?_
  have ap : ZipApart (s1.heap.objs.size + 4) (s1.heap.objs.size + 2) (s1.heap.objs.size + 3) s1.heap.objs.size (s1.heap.objs.size + 1) l1 l2 := by
    constructor <;> (intro e; have e' : @Eq Nat _ _ := e; omega)
  refine ⟨_, [s1.heap.objs.size + 4, s1.heap.objs.size + 2, s1.heap.objs.size + 3, s1.heap.objs.size, s1.heap.objs.size + 1], _, _, H1, rfl, I2, turn_zip l1 l2 _ _ _ _ _ ap, ⟨g1, g2, ⟨_, _, g3⟩, g4, g5⟩, fun c hc => ?_, q⟩
  have hb' : @LE.le Nat _ s1.heap.objs.size c := by
    simp only [List.mem_cons, List.not_mem_nil, or_false] at hc
    rcases hc with e | e | e | e | e <;> (subst e; first | exact Nat.le_refl _ | exact Nat.le_add_right _ _)
  exact I1.fpOk hb' (I1.hok.fresh hb')
theorem pi_zipK {K : PySem.W.Frag} {a b : Expr} {ta : TA} {p pos tpos : Pos} {es : List Expr} {k : Nat} (hk : X.K = K) (hg : Gl X "zip") (hm : X.mg "zip" = none) (ha : PA X [a, b] ta) (hs : starEach [a, b] X.env = [(false, eval a X.env), (false, eval b X.env)] := by rfl) (hs2 : starEach [b] X.env = [(false, eval b X.env)] := by rfl) :
    PI X (.Tuple es k tpos) (.Call (.Name "zip" p) [a, b] [] pos) (iZip K ta) := hk ▸ pi_zip hg hm ha hs hs2
/-! max of a list of ints -/
end
end L2

/-! x is not True; a text in a dict of the module's. -/
namespace L2
open PySem PySem.Spec PyProof.Rows PyProof.V
section
variable {X : Cx}
theorem op_isnot_bl : OpR X (compareOp .IsNot) (fun x y H Q => ∃ b c, x = .bl b ∧ y = .bl c ∧ Q (.bl (!decide (b = c))) H) := by
  intro pins s σ H x y v u Q I rx ry h
  obtain ⟨b, c, rfl, rfl, q⟩ := h
  cases rx
  cases ry
  refine wpAny_isNot_plain (by cases b <;> cases c <;> rfl) (fin_bl I q ?_)
  cases b <;> cases c <;> rfl
end
end L2

/-! what is never come to -/
namespace L2
open PySem PySem.Spec PyProof.Rows
section
variable {X : Cx}
end
end L2

/-! xs[a:c] = ys where c may lie past the end; tuple + tuple within a def; things of all kinds. -/
namespace L2
open PySem PySem.Spec PyProof.Rows PyProof.V
section
variable {prog : Program} {w : World} {A : Around} {E : Value → Shared → Prop} {s : Shared}
theorem bounds_past {a c n : Nat} (ha : a ≤ n) (hac : a ≤ c) : sliceBounds (some (a : Int)) (some (c : Int)) none n = ((a : Int), ((min c n : Nat) : Int), 1) := by
  simp only [sliceBounds, Option.getD_none]
  have h1 : ¬ ((a : Int) < 0) := by omega
  have h2 : ¬ ((c : Int) < 0) := by omega
  simp only [h1, h2, if_false, show (1 : Int) > 0 by decide, if_true]
  congr 1
  · omega
  · congr 1; omega
set_option maxRecDepth 100000 in
theorem setItem_past {l b sl : Addr} {items new : Array Value} {n n2 : Nat} {vl vu : Value} {a c : Nat} {Q : Unit → Shared → Prop}
    (e : s.heap.get? l = some { cls := .type "list", data := .seq items n }) (e2 : s.heap.get? b = some { cls := .type "list", data := .seq new n2 }) (hne : l ≠ b)
    (hs : s.heap.IsSliceOf sl vl vu .none) (pl : IsPart vl (some (a : Int))) (pu : IsPart vu (some (c : Int))) (hac : a ≤ c) (ha : a ≤ items.size)
    (hsz : items.size + new.size ≤ sizeLine) (h : Q () { s with heap := s.heap.update l (Obj.mapSeq fun xs => xs.extract 0 a ++ new ++ xs.extract (min c items.size) xs.size) }) :
    wpAny (model prog w) A (setItem (.ref l) (.ref sl) (.ref b)) Q E s := by
  have hl : s.heap.IsList l items := PySem.IsL.isList e
  have hb : s.heap.IsList b new := PySem.IsL.isList e2
  obtain ⟨os, hos, hcs, hds⟩ := id hs
  have hTs : s.TypeIs (.ref sl) "slice" := ⟨os, hos, hcs⟩
  have hstep : ¬ ((rawPart none == rawInt 0) = true) := Bool.false_ne_true
  have hsame : Builtin.List.listSameRef (.ref l) (.ref b) = false := by
    unfold Builtin.List.listSameRef
    exact beq_eq_false_iff_ne.mpr hne
  have hmax : (max (a : Int) ((min c items.size : Nat) : Int)).toNat = min c items.size := by omega
  have hz' : ((fun xs : Array Value => xs.extract 0 a ++ new ++ xs.extract (min c items.size) xs.size) items).size ≤ sizeLine + 1 := by
    simp only [Array.size_append, Array.size_extract]
    omega
  unfold setItem
  try with_reducible refine wpAny_holding ?_
  first | refine wpAny_bind (wpAny_pure ?_) | skip
  refine wpAny_bind (wpAny_sequenceKey hl.typeIs (by decide) ?_)
  refine wpAny_bind (wpAny_callSpecial?_slot (name := Str.ofString "__setitem__") hl.typeIs slot_list_setitem
    (wpAny_call_entry slot_list_setitem hl.typeIs entry_list_setitem ?_ (args_list_setitem _ _ _)))
  show wpAny _ _ (Builtin.List.listSubscript? (.ref sl) >>= _) _ _ s
  refine wpAny_bind ?_
  unfold Builtin.List.listSubscript?
  refine wpAny_bind (wpAny_specialOf hTs slice_no_index ?_)
  simp only [Option.isNone_none, if_true]
  refine wpAny_pure ?_
  show wpAny _ _ (typeOf (.ref sl) >>= _) _ _ s
  refine wpAny_bind (wpAny_typeOf hTs ?_)
  first
    | rw [if_neg (by decide)]
    | refine PySem.W.KFB.if_not (by decide) ?_
  rw [listSliceParts_eq]
  refine wpAny_bind (wpAny_bind (wpAny_field hos hds (x := .none) rfl (wpAny_bind (wpAny_listPart .none ?_))))
  rw [if_neg hstep]
  refine wpAny_bind (wpAny_field hos hds (x := vl) rfl (wpAny_bind (wpAny_listPart pl ?_)))
  refine wpAny_bind (wpAny_field hos hds (x := vu) rfl (wpAny_bind (wpAny_listPart pu (wpAny_pure ?_))))
  first
    | simp only [hsame, Bool.false_eq_true, if_false]
    | refine PySem.W.KFB.if_not hsame ?_
    | (dsimp only
       rw [if_neg (by rw [hsame]; exact Bool.false_ne_true)])
  refine wpAny_bind (m := Builtin.List.listAllItems (.ref b) "must assign iterable to extended slice") ?_
  unfold Builtin.List.listAllItems
  refine wpAny_bind (wpAny_typeOf hb.typeIs ?_)
  first
    | refine PySem.W.KFB.if_so (by decide) ?_
    | rw [if_pos (by decide)]
    | simp only [beq_self_eq_true, Bool.true_or, if_true]
  unfold Builtin.List.listItems
  refine wpAny_bind (wpAny_seqItems e2 rfl (wpAny_pure ?_))
  refine wpAny_bind (wpAny_bind (wpAny_seqItems e rfl (wpAny_pure ?_)))
  refine wpAny_bind (wpAny_of_eq ((sliceIndices_raw (some (a : Int)) (some (c : Int)) none items.size (by simp)).trans (congrArg (pure : Int × Int × Int → Sem (Int × Int × Int)) (bounds_past ha hac))) ?_)
  show wpAny _ _ (if ((1 : Int) == 1) = true then _ else _) _ _ s
  rw [if_pos (by decide)]
  refine wpAny_bind (wpAny_rule ?_)
  first
    | simp only [notLongL hsz, Bool.false_eq_true, if_false]
    | refine PySem.W.KFB.if_not (notLongL hsz) ?_
  first | refine wpAny_bind (wpAny_pure ?_) | skip
  show wpAny _ _ (updateSeq l (fun xs => xs.extract 0 ((a : Int)).toNat ++ new ++ xs.extract (max (a : Int) ((min c items.size : Nat) : Int)).toNat xs.size) >>= _) _ _ s
  rw [hmax, Int.toNat_natCast]
  refine wpAny_bind (wpAny_updateSeq (hz := Nat.le_trans (Nat.le_add_right _ _) hsz) (_hz' := hz') e rfl ?_)
  refine wpAny_bind (wpAny_letGo ?_)
  first
    | exact wpAny_bind (wpAny_pure (wpAny_pure ⟨.none, rfl, wpAny_pure h⟩))
    | exact wpAny_pure ⟨.none, rfl, wpAny_pure h⟩
end
section
variable {X : Cx}
theorem set_past {pins : List (Addr × Obj)} {s : Shared} {σ : St} {H : Hp} {l b sl : Addr} {xs ys : List V} {a c : Int} {vl vu : Value} {Q : Unit → Shared → Prop} (I : Inv X pins σ H s)
    (hH : H l = some (.lst xs)) (hB : H b = some (.lst ys)) (hne : l ≠ b) (hs : s.heap.IsSliceOf sl vl vu .none) (ra : RelV (.int a) vl) (rc : RelV (.int c) vu) (h0 : 0 ≤ a) (hac : a ≤ c) (ha : a ≤ xs.length)
    (hz : xs.length + ys.length ≤ sizeLine) (h : ∀ s', Inv X pins σ (upd H l (.lst (xs.take a.toNat ++ ys ++ xs.drop c.toNat))) s' → Q () s') :
    wpAny (model X.prog X.w) X.A (setItem (.ref l) (.ref sl) (.ref b)) Q X.xe s := by
  obtain ⟨ta, rfl⟩ := ra
  obtain ⟨tc, rfl⟩ := rc
  obtain ⟨z, its, n, r, hl, e⟩ := I.lstM hH
  obtain ⟨z2, its2, n2, r2, hl2, e2⟩ := I.lstM hB
  obtain ⟨a', rfl⟩ := Int.eq_ofNat_of_zero_le h0
  obtain ⟨c', rfl⟩ := Int.eq_ofNat_of_zero_le (Int.le_trans h0 hac)
  simp only [Int.toNat_natCast] at h
  refine setItem_past (a := a') (c := c') e e2 hne hs (.int _ _) (.int _ _) (by omega) (by rw [List.size_toArray]; omega) (by rw [List.size_toArray, List.size_toArray]; omega) (h _ ?_)
  refine I.lset (its' := its.take a' ++ its2 ++ its.drop c') (t' := s.toks) hH e ?_ (Vals.append (Vals.append (r.take _) r2) (r.drop _)) ?_
  · have e3 : its.drop c' = its.drop (min c' its.length) := by
      by_cases q : c' ≤ its.length
      · rw [Nat.min_eq_left q]
      · rw [Nat.min_eq_right (by omega), List.drop_eq_nil_of_le (by omega), List.drop_eq_nil_of_le (Nat.le_refl _)]
    rw [e3, List.size_toArray]
    exact splice_eq its its2 a' (min c' its.length)
  · rw [List.length_append, List.length_append, List.length_take, List.length_drop]
    omega
def gPast (to : TE) (tl th : TO) : TG := fun v σ H Q => to σ H fun x H1 => tl σ H1 fun lo H2 => th σ H2 fun hi H3 => ∃ (l b : Addr) (xs ys : List V) (a c : Int), x = .ref l ∧ v = .ref b ∧ lo = some a ∧ hi = some c ∧ H3 l = some (.lst xs) ∧ H3 b = some (.lst ys) ∧ l ≠ b ∧
  0 ≤ a ∧ a ≤ c ∧ a ≤ xs.length ∧ xs.length + ys.length ≤ sizeLine ∧ Q σ (upd H3 l (.lst (xs.take a.toNat ++ ys ++ xs.drop c.toNat)))
theorem pg_past {o : Expr} {lo hi : Option Expr} {to : TE} {tl th : TO} {p2 pos : Pos} (ho : PE X o to) (hl : PO X lo tl) (hu : PO X hi th) : PG X (.Subscript o (.Slice lo hi none p2) pos) (gPast to tl th) := by
  intro pins s σ H v u Q I r h
  show wpAny _ _ (do
      let ov ← holding [u] (eval o X.env)
      let iv ← holding [u, ov] (eval (.Slice lo hi none p2) X.env)
      standAt pos
      holding [u, ov, iv] (setItem ov iv u)
      release [iv, u, ov] []) _ _ s
  refine wpAny_bind (wpAny_holding (thn (ho pins s σ H _ I h) fun ov s1 ⟨x, H1, I1, r1, q1⟩ => ?_))
  refine wpAny_bind (wpAny_holding (wpAny_Slice (thn (hl pins s1 σ H1 _ I1 q1) fun vl s2 ⟨l', H2, I2, pl, q2⟩ => thn (hu pins s2 σ H2 _ I2 q2) fun vu s3 ⟨u', H3, I3, pu, q3⟩ => ?_)))
  rw [evalPart_none]
  refine wpAny_pure ?_
  have I4 : Inv X pins σ H3 { s3 with heap := s3.heap.push { cls := .type "slice", data := .fields #[vl, vu, .none] } } := I3.kept (t' := s3.toks) fun b ob q => Heap.get?_push_of_some _ q
  obtain ⟨l, b, xs, ys, a, c, rfl, rfl, rfl, rfl, hx, hy, hne, h0, hac, hc, hz, q⟩ := q3
  cases r1
  cases r
  refine wpAny_bind (wpAny_standAt (wpAny_bind (wpAny_holding (set_past I4 hx hy hne (Heap.IsSliceOf.new ..) (part_rel pl) (part_rel pu) h0 hac hc hz fun s5 I5 => ?_))))
  exact wpAny_release ⟨σ, _, I5, q⟩
end
/-! things -/
inductive Sim (H : Hp) : V → Prop
  | non : Sim H .non
  | bl (b : Bool) : Sim H (.bl b)
  | int (i : Int) : Sim H (.int i)
  | str (x : Str) : Sim H (.str x)
  | lst {a : Addr} {xs : List V} (e : H a = some (.lst xs)) : Sim H (.ref a)
  | tup {a : Addr} {xs : List V} (e : H a = some (.tup xs)) : Sim H (.ref a)
def isStr : V → Bool
  | .str _ => true
  | _ => false
def isIn : V → Bool
  | .int _ => true
  | _ => false
/-- a letter's place: a letter's tuple, or another thing -/
inductive LetR (H : Hp) : V → Option (Str × Int) → Prop
  | yes {a : Addr} {x : Str} {k : Int} (e : H a = some (.tup [.str x, .int k])) : LetR H (.ref a) (some (x, k))
  | non : LetR H .non none
  | bl (b : Bool) : LetR H (.bl b) none
  | int (i : Int) : LetR H (.int i) none
  | str (x : Str) : LetR H (.str x) none
  | lst {a : Addr} {xs : List V} (e : H a = some (.lst xs)) : LetR H (.ref a) none
  | len {a : Addr} {xs : List V} (e : H a = some (.tup xs)) (n : xs.length ≠ 2) : LetR H (.ref a) none
  | fst {a : Addr} {u w : V} (e : H a = some (.tup [u, w])) (s : Sim H u) (n : isStr u = false) : LetR H (.ref a) none
  | snd {a : Addr} {x : Str} {w : V} (e : H a = some (.tup [.str x, w])) (s : Sim H w) (n : isIn w = false) : LetR H (.ref a) none
end L2

/-! the arguments of a display, one by one: no star -/
namespace L2
open PySem PySem.Spec PyProof.Rows
section
variable {env : Env} {r : List Expr}
theorem se_Constant {a : Const} {b : Nat} {p : Pos} : starEach (.Constant a b p :: r) env = (false, eval (.Constant a b p) env) :: starEach r env := by rfl
theorem se_Tuple {a : List Expr} {b : Nat} {p : Pos} : starEach (.Tuple a b p :: r) env = (false, eval (.Tuple a b p) env) :: starEach r env := by rfl
theorem se_List {a : List Expr} {p : Pos} : starEach (.List a p :: r) env = (false, eval (.List a p) env) :: starEach r env := by rfl
theorem se_UnaryOp {a : UnaryOp} {b : Expr} {p : Pos} : starEach (.UnaryOp a b p :: r) env = (false, eval (.UnaryOp a b p) env) :: starEach r env := by rfl
end
end L2

/-! the rules of displays, closed: what stands within is not looked into -/
namespace L2
open PySem PySem.Spec PyProof.Rows
section
variable {X : Cx} {e a b : Expr} {es : List Expr} {te ta tb : TE} {t : TA} {pos : Pos} {st : Stmt} {rest : List Stmt} {ts us : TS}
structure PEc (X : Cx) (e : Expr) (t : TE) : Prop where
  out : PE X e t
structure PAc (X : Cx) (es : List Expr) (t : TA) : Prop where
  out : PA X es t
structure PSc (X : Cx) (st : Stmt) (t : TS) : Prop where
  out : PS X st t
structure PSsc (X : Cx) (st : List Stmt) (t : TS) : Prop where
  out : PSs X st t
theorem pec_of (h : PE X e te) : PEc X e te := ⟨h⟩
theorem psc_set {i : Nat} {x : Str} {e : Expr} {te : TE} {pos' : Pos} (hN : X.N.Nodup) (hi : X.N[i]? = some x) (hx : Loc X.env.scope x) (he : PEc X e te) (hs : swapsWith e (some (.Name x pos')) pos.line X.env = pure false := by rfl) (hf : X.fn x = true ∨ X.env.scope.names.lookup x = some .local := by first | exact .inl rfl | exact .inr rfl | assumption) :
    PSc X (.Assign [.Name x pos'] e pos) (tAsg te (gName i)) := ⟨ps_set hN hi hx he.out hs hf⟩
theorem psc_of (h : PS X st ts) : PSc X st ts := ⟨h⟩
theorem pssc_cons (h1 : PSc X st ts) (h2 : PSsc X rest us) : PSsc X (st :: rest) (tSeq ts us) := ⟨pss_cons h1.out h2.out⟩
theorem pssc_of (h : PSs X rest us) : PSsc X rest us := ⟨h⟩
theorem use_c {sts : List Stmt} {p : TS → Prop} : (∃ t, PSsc X sts t ∧ p t) → ∃ t, PSs X sts t ∧ p t := fun ⟨t, h, q⟩ => ⟨t, h.out, q⟩
end
end L2

/-! displays of constants, as trees: one rule for a whole display -/
namespace L2
open PySem PySem.Spec PyProof.Rows
inductive Lit
  | non | bl (b : Bool) | int (i : Int) | str (x : Str) | tup (l : List Lit) | lst (l : List Lit)
mutual
inductive RepL (H : Hp) : V → Lit → Prop
  | non : RepL H .non .non
  | bl (b : Bool) : RepL H (.bl b) (.bl b)
  | int (i : Int) : RepL H (.int i) (.int i)
  | str (x : Str) : RepL H (.str x) (.str x)
  | tup {a : Addr} {xs : List V} {l : List Lit} (e : H a = some (.tup xs)) (r : RepLs H xs l) : RepL H (.ref a) (.tup l)
  | lst {a : Addr} {xs : List V} {l : List Lit} (e : H a = some (.lst xs)) (r : RepLs H xs l) : RepL H (.ref a) (.lst l)
inductive RepLs (H : Hp) : List V → List Lit → Prop
  | nil : RepLs H [] []
  | cons {v : V} {vs : List V} {l : Lit} {ls : List Lit} (a : RepL H v l) (r : RepLs H vs ls) : RepLs H (v :: vs) (l :: ls)
end
mutual
theorem RepL.same {H H' : Hp} (s : Same H H') : ∀ {v : V} {l : Lit}, RepL H v l → RepL H' v l
  | _, _, .non => .non
  | _, _, .bl b => .bl b
  | _, _, .int i => .int i
  | _, _, .str x => .str x
  | _, _, .tup e r => .tup (s _ _ e) (r.same s)
  | _, _, .lst e r => .lst (s _ _ e) (r.same s)
theorem RepLs.same {H H' : Hp} (s : Same H H') : ∀ {vs : List V} {ls : List Lit}, RepLs H vs ls → RepLs H' vs ls
  | _, _, .nil => .nil
  | _, _, .cons a r => .cons (a.same s) (r.same s)
end
theorem RepLs.len {H : Hp} : ∀ {vs : List V} {ls : List Lit}, RepLs H vs ls → vs.length = ls.length
  | _, _, .nil => rfl
  | _, _, .cons _ r => by rw [List.length_cons, List.length_cons, r.len]
theorem RepLs.get {H : Hp} : ∀ {vs : List V} {ls : List Lit} {i : Nat} {x : V}, RepLs H vs ls → vs[i]? = some x → ∃ l, ls[i]? = some l ∧ RepL H x l
  | _, _, _, _, .nil, e => by simp at e
  | _, _, 0, _, .cons a _, e => by simp at e; subst e; exact ⟨_, rfl, a⟩
  | _, _, i + 1, x, .cons _ r, e => by
    obtain ⟨o, h1, h2⟩ := RepLs.get (i := i) (x := x) r (by simpa using e)
    exact ⟨o, by simpa using h1, h2⟩
theorem small100 {n : Nat} (h : n ≤ 100) : n ≤ sizeLine := Nat.le_trans h (by decide)
section
variable {X : Cx} {G : St → Hp → Prop} {e a b : Expr} {es : List Expr} {pos : Pos} {l : Lit} {ls la lb : List Lit}
def tL (G : St → Hp → Prop) (l : Lit) : TE := fun σ H Q => G σ H ∧ ∀ v H', Same H H' → RepL H' v l → Q v H'
def tLs (G : St → Hp → Prop) (l : List Lit) : TA := fun σ H Q => G σ H ∧ ∀ v H', Same H H' → RepLs H' v l → Q v H'
def Keeps (G : St → Hp → Prop) : Prop := ∀ σ H H', Same H H' → G σ H → G σ H'
structure PL (X : Cx) (G : St → Hp → Prop) (e : Expr) (l : Lit) : Prop where
  out : PE X e (tL G l)
structure PLs (X : Cx) (G : St → Hp → Prop) (es : List Expr) (l : List Lit) : Prop where
  out : PA X es (tLs G l)
theorem PE.mono {t t' : TE} (h : PE X e t) (m : ∀ σ H Q, t' σ H Q → t σ H Q) : PE X e t' := fun pins s σ H Q I q => h pins s σ H Q I (m _ _ _ q)
theorem PA.mono {t t' : TA} (h : PA X es t) (m : ∀ σ H Q, t' σ H Q → t σ H Q) : PA X es t' := fun pos pins s σ H Q I q => h pos pins s σ H Q I (m _ _ _ q)
theorem pl_non {j : Nat} : PL X G (.Constant .none j pos) .non := ⟨PE.mono pe_non fun σ H Q h => h.2 _ _ (Same.refl _) .non⟩
theorem pl_bl {b : Bool} {j : Nat} : PL X G (.Constant (.bool b) j pos) (.bl b) := ⟨PE.mono pe_bl fun σ H Q h => h.2 _ _ (Same.refl _) (.bl b)⟩
theorem pl_int {i : Int} {j : Nat} : PL X G (.Constant (.int i) j pos) (.int i) := ⟨PE.mono pe_int fun σ H Q h => h.2 _ _ (Same.refl _) (.int i)⟩
theorem pl_str {x : Str} {j : Nat} : PL X G (.Constant (.str x) j pos) (.str x) := ⟨PE.mono pe_str fun σ H Q h => h.2 _ _ (Same.refl _) (.str x)⟩
theorem pl_neg {i : Int} {j : Nat} {p : Pos} : PL X G (.UnaryOp .USub (.Constant (.int i) j p) pos) (.int (-i)) := ⟨PE.mono (pe_un un_neg pe_int) fun σ H Q h => ⟨i, rfl, h.2 _ _ (Same.refl _) (.int (-i))⟩⟩
theorem pls_nil : PLs X G [] [] := ⟨PA.mono pa_nil fun σ H Q h => h.2 _ _ (Same.refl _) .nil⟩
theorem pls_cons (g : Keeps G) (ha : PL X G e l) (hr : PLs X G es ls) (hs : starEach (e :: es) X.env = (false, eval e X.env) :: starEach es X.env) : PLs X G (e :: es) (l :: ls) :=
  ⟨PA.mono (pa_cons ha.out hr.out hs) fun σ H Q h => ⟨h.1, fun v H1 s1 r1 => ⟨g _ _ _ s1 h.1, fun vs H2 s2 r2 => h.2 _ _ (s1.trans s2) (.cons (r1.same s2) r2)⟩⟩⟩
theorem pl_tup {k : Nat} (h : PLs X G es ls) (hn : ls.length ≤ 100 := by decide) : PL X G (.Tuple es k pos) (.tup ls) :=
  ⟨PE.mono (pe_tup h.out) fun σ H Q h => ⟨h.1, fun v H1 s1 r1 => ⟨by rw [r1.len]; exact small100 hn, fun p hp => h.2 _ _ (s1.step hp) (.tup upd_same (r1.same (Same.laid hp)))⟩⟩⟩
theorem pl_lst (h : PLs X G es ls) (hn : ls.length ≤ 100 := by decide) : PL X G (.List es pos) (.lst ls) :=
  ⟨PE.mono (pe_lst h.out) fun σ H Q h => ⟨h.1, fun v H1 s1 r1 => ⟨by rw [r1.len]; exact small100 hn, fun p hp => h.2 _ _ (s1.step hp) (.lst upd_same (r1.same (Same.laid hp)))⟩⟩⟩
theorem pec_lit (h : PL X G e l) : PEc X e (tL G l) := ⟨h.out⟩
end
end L2
namespace L2
open PySem PySem.Spec PyProof.Rows
theorem keepsT : Keeps (fun _ _ => True) := fun _ _ _ _ _ => trivial
end L2
namespace L2
open PySem PySem.Spec PyProof.Rows
section
variable {X : Cx} {G : St → Hp → Prop} {es : List Expr} {pos : Pos} {ls : List Lit}
end
theorem rep_sim {H : Hp} {v : V} {l : Lit} (h : RepL H v l) : Sim H v := by
  cases h with
  | non => exact .non
  | bl b => exact .bl b
  | int i => exact .int i
  | str x => exact .str x
  | tup e r => exact .tup e
  | lst e r => exact .lst e
end L2

/-! a statement with a word of one's own between it and the rest -/
namespace L2
open PySem PySem.Spec PyProof.Rows
section
variable {X : Cx} {st : Stmt} {rest : List Stmt} {t u : TS}
def tCut (t u : TS) : TS := fun D σ H => ∃ I : St → Hp → Prop, t { D with nx := I } σ H ∧ ∀ σ' H', I σ' H' → u D σ' H'
theorem pss_cut (h1 : PS X st t) (h2 : PSs X rest u) : PSs X (st :: rest) (tCut t u) := by
  intro pins s σ H D I h
  obtain ⟨W, a, b⟩ := h
  have c : PSs X (st :: rest) (tSeq (fun D' σ' H' => σ' = σ ∧ H' = H ∧ D' = { D with nx := u D } ∧ t { D with nx := W } σ H) u) := by
    refine pss_cons (fun pins s σ' H' D' I' q => ?_) h2
    obtain ⟨rfl, rfl, rfl, q⟩ := q
    refine thn (h1 pins s σ' H' _ I' q) fun f s' z => ?_
    cases f with
    | next => obtain ⟨σ2, H2, I2, q2⟩ := z; exact ⟨σ2, H2, I2, b σ2 H2 q2⟩
    | _ => exact z
  exact c pins s σ H D I ⟨rfl, rfl, rfl, a⟩
end
end L2

/-! exceptions over the layer: how one lies behind a call, how it leaves a frame -/
namespace L2
open PySem PySem.Spec PyProof.Rows
section
variable {M : Model} {A : Around} {E : Value → Shared → Prop} {s : Shared} {env : Env} {outer : List Env} {L a T : Addr} {C : Value} {base h : Heap} {Q : Unit → Shared → Prop}
end
end L2

/-! an exception behind a call, within the layer's promise of a def -/
namespace L2
open PySem PySem.Spec PyProof.Rows
section
variable {P : Program} {w : World} {K : PySem.W.Frag} {mg : Str → Option Value} {base : Heap} {N : List Str} {qual : Str} {scope : Scope} {f : Addr} {cd : Value} {A : Around} {outer : List Env} {s₀ s : Shared} {H₀ H : Hp} {E : XK} {CX : CXT} {pins : List (Addr × Obj)} {σ : L2.St}
end
end L2

/-! raise C(..) of an own class -/
namespace L2
open PySem PySem.Spec PyProof.Rows
section
variable {P : Program} {w : World} {K : PySem.W.Frag} {mg : Str → Option Value} {base : Heap} {N : List Str} {qual : Str} {scope : Scope} {f : Addr} {cd : Value} {A : Around} {outer : List Env} {s₀ : Shared} {H₀ : Hp} {E : XK}
end
end L2

/-! isinstance of an exception of an own class -/
namespace L2
open PySem PySem.Spec PyProof.Rows
structure XLook (M : Model) (h : Heap) (C : Addr) : Prop where
  ga : PySem.W.Looks M h (typeLookup (.ref C) "__getattribute__") (some (.builtin "BaseException.__getattribute__"))
  ca : PySem.W.Looks M h (typeLookup (.ref C) "__class__") (some (.builtin "object.__class__"))
  ob : PySem.W.Looks M h (isSubtype (.ref C) (.type "object")) true
  be : PySem.W.Looks M h (isSubtype (.ref C) (.type "BaseException")) true
  gn : PySem.W.Looks M h (typeLookup (.ref C) "__getattr__") none
section
variable {prog : Program} {w : World} {A : Around} {E : Value → Shared → Prop} {h : Heap} {g : Array GenState} {d : Drawn} {t : Nat} {os : OsState} {a C : Addr} {o : Obj}
end
end L2

/-! try: body; except C as n: suite -/
namespace L2
open PySem PySem.Spec PyProof.Rows
section
variable {M : Model} {A : Around} {E : Value → Shared → Prop} {h : Heap} {g : Array GenState} {d : Drawn} {t : Nat} {os : OsState}
variable {nm q nmD qD : Str} {C N D ND : Addr} {bs bm bsD bmD : List Value} {hdct hdD : Bool} {sn snD : List Str} {sub subD : List Value} {ab abD : Bool} {col colD : Option Bool} {dd ddD : Option Addr} {k0 k1 k2 k3 k5 j0 j1 j2 j3 j5 : Option Value} {newId newD : String}
end
section
variable {X : Cx} {pins ps : List (Addr × Obj)} {σ : L2.St} {H : Hp} {s : Shared}
end
end L2

/-! the rule for try -/
namespace L2
open PySem PySem.Spec PyProof.Rows
section
variable {X : Cx} {pins : List (Addr × Obj)} {σ : L2.St} {H : Hp} {s : Shared} {R : Addr → Hp → Prop}
/-- within an except suite -/
abbrev Cx.suite (X : Cx) (pins : List (Addr × Obj)) (a : Addr) : Cx := { X with pn := X.pn ++ pins, A := X.A.mark (some (.ref a)), calm := false, xe := fun _ _ => False }
end
end L2

/-! defs that raise; calls of them; calls of other defs within an except suite; isinstance there -/
namespace L2
open PySem PySem.Spec PyProof.Rows
section
variable {P : Program} {w : World} {K : PySem.W.Frag} {mg : Str → Option Value} {base : Heap}
structure RoomS (k : Nat) (A : Around) : Prop where
  dp : A.depth + 3 * k + 5 < recursionLimit
  un : A.units + 16 * k + 200 < cLine
/-- a def that may be called within an except suite, too -/
structure FnOkS (P : Program) (w : World) (K : PySem.W.Frag) (mg : Str → Option Value) (base : Heap) (k : Nat) (f : Addr) (fd : FuncData) (ps : List Str) (sp : Sp) : Prop where
  len : ∀ vs H Q E, sp vs H Q E → vs.length = ps.length
  run : ∀ (A : Around) (outer : List Env) (s : Shared) (H : Hp) (args : Args) (us : List Value) (vs : List V) (Q : VK), RoomS k A → Env0 P w K mg base A outer s H → BindsTo s fd args (ps.zip us) → Vals vs us → sp vs H Q E0 →
    codeAny (model P w) A (.call (.ref f) args) (CR CX0 outer P w H s Q E0) s
end
end L2

/-! isinstance(an exception, a class) -/
namespace L2
open PySem PySem.Spec PyProof.Rows
structure XCls (K : PySem.W.Frag) (C : Addr) : Prop where
  ga : PySem.W.findIn K (.ref C) "__getattribute__" = some (some (.builtin "BaseException.__getattribute__"))
  gn : PySem.W.findIn K (.ref C) "__getattr__" = some none
  ca : PySem.W.findIn K (.ref C) "__class__" = some (some (.builtin "object.__class__"))
  ob : PySem.W.mroIn K C (.type "object") = some true
  be : PySem.W.mroIn K C (.type "BaseException") = some true
  cl : (PySem.W.clsIn K C).isSome = true
end L2

namespace L2
open PySem PySem.Spec PyProof.Rows

end L2

/-! range(a, b, 2) and zip walked by for -/
namespace L2
open PySem PySem.Spec PyProof.Rows
section
variable {X : Cx} {tg : Expr}
end
end L2

/-! == of two lists of ints, alike or not; != of what is plain or alike; list.index -/
namespace L2
open PySem PySem.Spec PyProof.Rows PyProof.V
section
variable {X : Cx}
theorem ints_at {ns : List Int} {its : List Value} (r : Vals (ns.map V.int) its) {j : Nat} (h : j < its.toArray.size) : ∃ t, its.toArray[j] = .int (ns.getD j 0) t := by
  have l := r.length
  rw [List.length_map] at l
  have hj : j < ns.length := by simp only [List.size_toArray] at h; omega
  obtain ⟨u, e, ru⟩ := r.get (i := j) (x := V.int ns[j]) (by simp [hj])
  obtain ⟨t, q⟩ := (show ∃ t, u = Value.int ns[j] t from ru)
  have hi : j < its.length := by omega
  refine ⟨t, ?_⟩
  have : its[j]? = some its[j] := by simp [hi]
  rw [this] at e
  have e2 := Option.some.inj e
  simp [hj]
  rw [e2, q]
end
end L2

/-! Sets of some of 0, 1, 2, 3: set(a list of such), sorted(such a set). -/
namespace L2
open PySem PySem.Spec PyProof.Rows
def sub4 (b : Nat → Bool) : List Nat := (bif b 0 then [0] else []) ++ ((bif b 1 then [1] else []) ++ ((bif b 2 then [2] else []) ++ (bif b 3 then [3] else [])))
def tab4 (b : Nat → Bool) (led : Bool) (f m : Nat) : SetTable := { mask := 7, place := (sub4 b).toArray, dummies := #[], finger := f, led := led, moves := m, plain := true }
theorem erase_perm {α : Type} : ∀ {l : List α} {i : Nat} (h : i < l.length), ([l[i]] ++ l.eraseIdx i).Perm l
  | _ :: _, 0, _ => .refl _
  | x :: l, i + 1, h => by
    have := erase_perm (l := l) (i := i) (by simpa using h)
    exact (List.Perm.swap _ _ _).trans (this.cons x)
/-- one order is as good as another -/
theorem pick_perm {α : Type} (nx : Nat → Nat) : ∀ (n k : Nat) (left : List α) (out : Array α), left.length = n → (pickOrder.go nx n k left out).toList.Perm (out.toList ++ left)
  | 0, k, left, out, h => by
    cases left with
    | nil => simp [pickOrder.go]
    | cons _ _ => cases h
  | n + 1, k, left, out, h => by
    have hi : nx k % left.length < left.length := Nat.mod_lt _ (by omega)
    unfold pickOrder.go
    rw [List.getElem?_eq_getElem hi]
    dsimp only
    refine (pick_perm nx n (k + 1) _ _ (by rw [List.length_eraseIdx_of_lt hi]; omega)).trans ?_
    rw [Array.toList_push, List.append_assoc]
    exact List.Perm.append_left _ (erase_perm hi)
theorem pick_ok {α : Type} (nx : Nat → Nat) (xs : Array α) : (pickOrder nx xs).toList.Perm xs.toList := by
  have := pick_perm nx xs.size 0 xs.toList #[] (by simp)
  simpa [pickOrder] using this
theorem paired_ins {α β : Type} {F : α → β → Prop} {x : α} {y : β} (hxy : F x y) : ∀ (p : Nat) {l : List α} {r : List β}, Paired F l r → Paired F (l.take p ++ x :: l.drop p) (r.take p ++ y :: r.drop p)
  | 0, _, _, h => .cons hxy h
  | p + 1, _, _, .nil => .cons hxy .nil
  | p + 1, _, _, .cons a t => .cons a (paired_ins hxy p t)
end L2

namespace L2
open PySem PySem.Spec PyProof.Rows
def EK : Int × Value → Nat → Prop := fun e k => e.1 = hashInt (k : Int) ∧ ∃ t, e.2 = .int (k : Int) t
/-- at a stands the set of those of 0, 1, 2, 3 that b tells, which only grew -/
def SO (w : World) (a : Addr) (b : Nat → Bool) (ep : Nat) (es : Array (Int × Value)) (h : Heap) : Prop :=
  ∃ o led f m, h.get? a = some o ∧ o.ExactSet ∧ o.data = .set es ep (tab4 b led f m) ∧ (w.params.followText "set-order" = true ∨ led = true) ∧ Paired EK es.toList (sub4 b)
section
variable {prog : Program} {w : World} {A : Around} {E : Value → Shared → Prop} {s : Shared} {a : Addr} {b : Nat → Bool} {ep : Nat} {es : Array (Int × Value)}
/-! set(a list): what holds of the set while it grows is told by J -/
abbrev set0 (led : Bool) : Obj := { cls := .type "set", dict := none, data := .set #[] 0 (.fresh 0 0 led) }
abbrev Led (w : World) (led : Bool) : Prop := w.params.followText "set-order" = true ∨ led = true
def Adds (prog : Program) (w : World) (u : Nat) (S : Addr) (J : Nat → Heap → Prop) (i : Nat) (v : Value) : Prop :=
  ∀ (A : Around) (E : Value → Shared → Prop) (s : Shared) (Q : Bool → Shared → Prop), A.units ≤ u → J i s.heap →
    (∀ b h' tk, s.toks ≤ tk → J (i + 1) h' → Heap.SameBut S s.heap h' → Q b { s with heap := h', toks := tk }) → wpAny (model prog w) A (setAdd S v) Q E s
theorem grow {R : Result → Shared → Prop} {I : Addr} {fp wr : List Addr} {G : Array GenState → Array GenState → Prop} {n : Nat} {P : Nat → Value → Prop} {St : Nat → Shared → Prop}
    (W : WalksS prog w A.in1 I fp wr G n P St) {S : Addr} (hS : S ∉ fp) {J : Nat → Heap → Prop} (jk : ∀ i h h', J i h → (∀ c o, c ∉ wr → h.get? c = some o → h'.get? c = some o) → J i h') (ja : ∀ i v, P i v → Adds prog w A.in1.units S J i v) :
    ∀ (k i : Nat) (s : Shared), i + k = n → St i s → J i s.heap → (∀ s', Moved (S :: wr) G s s' → J n s'.heap → R (.ok (.ret .none)) s') → codeAny (model prog w) A (.builtin "set.update.loop" ⟨[.ref S, .ref I], []⟩) R s := by
  have sub : ∀ c ∈ wr, c ∈ S :: wr := fun c hc => .tail _ hc
  intro k
  induction k with
  | zero =>
    rintro i s e st j hR
    obtain rfl : i = n := e
    refine codeAny_builtin F.entry_set_update_loop ?_
    rw [Around.under_plainId F.plain_set_update_loop _]
    wp_walk using W.done s _ _ st
    intro s' m
    wp_walk
    exact hR s' (m.mono sub) (jk _ _ _ j m.heap)
  | succ k ih =>
    rintro i s rfl st j hR
    refine codeAny_builtin F.entry_set_update_loop ?_
    rw [Around.under_plainId F.plain_set_update_loop _]
    wp_walk using W.item i s _ _ (by omega) st
    intro v s' p st' m
    have j' := jk _ _ s'.heap j m.heap
    refine wpAny_bind (wpAny_holding (ja i v p _ _ s' _ (Nat.le_refl _) j' fun b h' tk le j2 sb => ?_))
    wp_walk
    refine ⟨plainId_quiet F.plain_set_update_loop _, ih (i + 1) _ (by omega) (W.frame _ s' _ _ st' le fun c hc o e => (sb.2 c fun z => hS (z ▸ hc)).trans e) j2 fun s2 m2 j3 => hR s2 (Moved.trans W.gtrans ((m.mono sub).then_heap le fun c o hc e => (sb.2 c fun z => hc (z ▸ .head _)).trans e) m2) j3⟩
theorem run_ret {M : Model} {c : Code} {R : Result → Shared → Prop} {Q : Value → Shared → Prop} (x : codeAny M A c (wants Q E) s) (ok : ∀ v s1, Q v s1 → R (.ok (.ret v)) s1) (er : ∀ e s1, E e s1 → R (.error e) s1) : codeAny M A c R s :=
  codeAny_mono x fun r s1 h => match r, h with
    | .ok (.ret v), h => ok v s1 h
    | .error e, h => er e s1 h
/-- set(x): a new set, then its __init__ -/
theorem set_called {x : Value} {Q : Value → Shared → Prop}
    (h : ∀ led : Bool, Led w led → wpAny (model prog w) A.in1.in1 (Builtin.«set.__init__» ⟨[.ref s.heap.objs.size, x], []⟩) (fun f s1 => f = .done (.ret .none) ∧ Q (.ref s.heap.objs.size) s1) E { s with heap := s.heap.push (set0 led) }) :
    wpAny (model prog w) A (call (.type "set") [x]) Q E s := by
  have ⟨c, tl, m⟩ := F.called_set.mro
  have := F.called_set.made
  have := F.called_set.sub
  have := F.called_set.notType
  have := F.called_set.canCreate
  have := F.typeCall_set_1 x
  have := sub_set_self
  refine wpAny_call (codeAny_of_tree (wpAny_pure ⟨Code.quiet_builtin _ (by decide +kernel), codeAny_builtin F.entry_type_call ?_⟩))
  rw [Around.under_plain (weight_type_call_type "set" [x] []) rfl]
  wp_walk
  refine run_ret (Q := fun v s1 => ∃ led, Led w led ∧ v = .ref s.heap.objs.size ∧ s1 = { s with heap := s.heap.push (set0 led) }) (E := E) (codeAny_call_builtin F.plain_set_new F.entry_set_new (wpAny_of_eq (F.newCall_set_1 x) ?_)) ?_ fun _ _ e => e
  · obtain ⟨hp, g, d, tk, os⟩ := s
    wp_walk using wpAny_askSetting
    refine ⟨_, ?_, rfl, rfl⟩
    show _ ∨ (!w.params.followText "set-order") = true
    cases w.params.followText "set-order" <;> simp
  · rintro _ _ ⟨led, hl, rfl, rfl⟩
    have ty : Shared.TypeIs { s with heap := s.heap.push (set0 led) } (.ref s.heap.objs.size) "set" := ⟨_, Heap.get?_push_size _ rfl, rfl⟩
    have := F.called_set.init.lookup
    have := F.called_set.init.bind (.ref s.heap.objs.size)
    wp_walk
    refine run_ret (Q := fun r s1 => r = .none ∧ Q (.ref s.heap.objs.size) s1) (E := E) (codeAny_call_builtin F.called_set.init.plain F.entry_set_init (check_set_init_1 ty (wpAny_mono (h led hl) ?_ fun _ _ e => e))) ?_ fun _ _ e => e
    · rintro _ s1 ⟨rfl, q⟩
      exact ⟨rfl, q⟩
    · rintro _ s1 ⟨rfl, q⟩
      wp_walk
      exact q
/-- set(a list) -/
theorem set_run {l : Addr} {its : Array Value} {J : Nat → Heap → Prop} {Q : Value → Shared → Prop} (hh : A.handled = none) (hl : s.heap.IsList l its)
    (jk : ∀ i h h', J i h → (∀ c o, c ≤ s.heap.objs.size → h.get? c = some o → h'.get? c = some o) → J i h') (j0 : ∀ led, Led w led → J 0 (s.heap.push (set0 led))) (ja : ∀ (i : Nat) (v : Value), its[i]? = some v → Adds prog w (A.units + 3) s.heap.objs.size J i v)
    (h : ∀ h' tk, J its.size h' → (∀ c o, c < s.heap.objs.size → s.heap.get? c = some o → h'.get? c = some o) → Q (.ref s.heap.objs.size) { s with heap := h', toks := tk }) : wpAny (model prog w) A (call (.type "set") [.ref l]) Q E s := by
  refine set_called fun led hled => ?_
  have gs : (s.heap.push (set0 led)).get? s.heap.objs.size = some (set0 led) := Heap.get?_push_size _ rfl
  have hl1 := hl.push (set0 led)
  obtain ⟨⟨cls, dd, dat, sl⟩, g1, g2, n, g3⟩ := id hl
  cases g2
  cases g3
  have g1' := Heap.get?_push_of_some (set0 led) g1
  have := F.sub_list_set
  have := F.sub_list_frozenset
  have : (Value.type "list" == Value.type "dict") = false := by decide
  wp_walk using wpAny_pyIter_list hl1
  have sz : (s.heap.push (set0 led)).objs.size = s.heap.objs.size + 1 := Heap.size_push ..
  have ll : l < s.heap.objs.size := Heap.lt_size g1
  have out : ∀ c : Nat, c ≤ s.heap.objs.size → c ∉ [(s.heap.push (set0 led)).objs.size] := fun c hc z => by
    have := List.mem_singleton.mp z
    omega
  refine grow (Walks.list (by simp [hh]) _ l (fun z => out l (Nat.le_of_lt ll) (z ▸ .head _)) its).toS (fun z => ?_) (fun i h h' j k => jk i h h' j fun c o hc e => k c o (out c hc) e) ja its.size 0 _ (Nat.zero_add _) ⟨⟨_, Heap.get?_push_size _ rfl, rfl, rfl⟩, hl1.push _⟩ (jk _ _ _ (j0 led hled) fun c o _ e => Heap.get?_push_of_some _ e) fun s' m j => ?_
  · rcases List.mem_cons.mp z with z | z
    · exact out _ (Nat.le_refl _) (z ▸ .head _)
    · exact Nat.ne_of_gt ll (List.mem_singleton.mp z)
  · wp_walk
    rw [Moved.eq_with m]
    exact ⟨rfl, h _ _ j fun c o hc e => m.heap c o (fun z => (List.mem_cons.mp z).elim (Nat.ne_of_lt hc) (out c (Nat.le_of_lt hc))) (Heap.get?_push_of_some _ (Heap.get?_push_of_some _ e))⟩
end
end L2

namespace L2
open PySem PySem.Spec PyProof.Rows
theorem sit_next : Slot "set_iterator" "__next__" "set_iterator.__next__" := .of (owner := "set_iterator") (n := "__next__") (by rw [typeLookup_type, builtinLookup_eq_fast]; kernel_rfl) (by decide +kernel) (by decide +kernel) (by decide +kernel) (by first | exact .inl (by decide +kernel) | exact .inr (by decide +kernel)) (by rw [isSubtype_type]; kernel_rfl)
theorem sit_iter : Slot "set_iterator" "__iter__" "set_iterator.__iter__" := .of (owner := "set_iterator") (n := "__iter__") (by rw [typeLookup_type, builtinLookup_eq_fast]; kernel_rfl) (by decide +kernel) (by decide +kernel) (by decide +kernel) (by first | exact .inl (by decide +kernel) | exact .inr (by decide +kernel)) (by rw [isSubtype_type]; kernel_rfl)
theorem sit_en : entryFor table "set_iterator.__next__" = some Builtin.«set_iterator.__next__» := entryFor_of_tree (by kernel_rfl)
theorem sit_ei : entryFor table "set_iterator.__iter__" = some Builtin.«dict_keyiterator.__iter__» := entryFor_alias (id' := "dict_keyiterator.__iter__") (by kernel_rfl) rfl (by decide +kernel) (by kernel_rfl)
theorem set_ei : entryFor table "set.__iter__" = some Builtin.«frozenset.__iter__» := entryFor_alias (id' := "frozenset.__iter__") (by kernel_rfl) rfl (by decide +kernel) (by kernel_rfl)
theorem sit_own : Manifest.owners.lookup (String.ofList ['r', 'o', 't', 'a', 'r', 'e', 't', 'i', '_', 't', 'e', 's'].reverse) = some Manifest.sig_set_iterator := by kernel_rfl
theorem sit_an (a : Value) : argsOk "set_iterator.__next__" ⟨[a], []⟩ := by
  unfold argsOk; rw [signature?_of (id := "set_iterator.__next__") (n := ['_', '_', 't', 'x', 'e', 'n', '_', '_']) (o := ['r', 'o', 't', 'a', 'r', 'e', 't', 'i', '_', 't', 'e', 's']) (by kernel_rfl) sit_own]; kernel_rfl
theorem sit_ai (a : Value) : argsOk "set_iterator.__iter__" ⟨[a], []⟩ := by
  unfold argsOk; rw [signature?_of (id := "set_iterator.__iter__") (n := ['_', '_', 'r', 'e', 't', 'i', '_', '_']) (o := ['r', 'o', 't', 'a', 'r', 'e', 't', 'i', '_', 't', 'e', 's']) (by kernel_rfl) sit_own]; kernel_rfl
/-- a walker over the set at a, behind i of n -/
def Wkr (h : Heap) (it : Addr) (f i : Nat) (a : Addr) (n ep : Nat) : Prop := ∃ o, h.get? it = some o ∧ o.cls = .type "set_iterator" ∧ o.data = .fields #[.int f 0, .int i 0, .ref a, .int n 0, .int ep 0]
theorem Wkr.kept {h h' : Heap} {it a : Addr} {f i n ep : Nat} (x : Wkr h it f i a n ep) (k : ∀ o, h.get? it = some o → h'.get? it = some o) : Wkr h' it f i a n ep :=
  let ⟨o, e, r⟩ := x; ⟨o, k o e, r⟩
/-- the order in which the set at a is walked -/
def ord4 (w : World) (a : Addr) (ep : Nat) (es : Array (Int × Value)) : Array (Int × Value) := if w.params.followText "set-order" = true then pickOrder (w.params.setOrder a ep) es else es
theorem ord4_perm (w : World) (a : Addr) (ep : Nat) (es : Array (Int × Value)) : (ord4 w a ep es).toList.Perm es.toList := by
  unfold ord4; split
  · exact pick_ok _ _
  · exact .refl _
section
variable {prog : Program} {w : World} {A : Around} {E : Value → Shared → Prop} {s : Shared} {a it : Addr} {b : Nat → Bool} {ep i : Nat} {es : Array (Int × Value)}
theorem ord4_size (w : World) (a : Addr) (ep : Nat) (es : Array (Int × Value)) : (ord4 w a ep es).size = es.size := by
  have := (ord4_perm w a ep es).length_eq
  simpa using this
end
end L2

namespace L2
open PySem PySem.Spec PyProof.Rows
section
variable {prog : Program} {w : World} {A : Around} {E : Value → Shared → Prop} {s : Shared} {a it : Addr} {b : Nat → Bool} {ep i : Nat} {es : Array (Int × Value)}
theorem Wkr.typeIs {f n : Nat} (x : Wkr s.heap it f i a n ep) : s.TypeIs (.ref it) "set_iterator" := let ⟨o, e, c, _⟩ := x; ⟨o, e, c⟩
theorem stop_up {α : Type} {Q : α → Shared → Prop} (hh : A.handled = none) (h : ∀ h' a, (∀ b o, s.heap.get? b = some o → h'.get? b = some o) → Shared.TypeIs { s with heap := h' } (.ref a) "StopIteration" → E (.ref a) { s with heap := h' }) :
    wpAny (model prog w) A ((newExc (.type "StopIteration") [] >>= raiseNew : Sem α)) Q E s := by
  wp_walk using wpAny_newObj_type, wpAny_raiseNew_none hh
  · exact h _ _ (fun b o e => Heap.get?_push_of_some _ (Heap.get?_push_of_some _ e)) ⟨_, Heap.get?_push_size _ rfl, rfl⟩
  all_goals size_fits
theorem fld_put {M : Model} {x : Addr} {o : Obj} {vs : Array Value} {k : Nat} {v : Value} {Q : Unit → Shared → Prop} (ho : s.heap.get? x = some o) (hd : o.data = .fields vs) (hk : k < vs.size)
    (h : ∀ h', (∃ o', h'.get? x = some o' ∧ o'.cls = o.cls ∧ o'.data = .fields (vs.setIfInBounds k v)) → Heap.SameBut x s.heap h' → Q () { s with heap := h' }) : wpAny M A (setField (.ref x) k v) Q E s :=
  wpAny_setField ho hd hk (h _ ⟨_, Heap.get?_update_self _ ho (Obj.isFreed_of_fields (Obj.data_mapFields hd _)), Obj.cls_mapFields .., Obj.data_mapFields hd _⟩ (Heap.SameBut.update ..))
/-- C tells of a set at a that can be walked; f tells where the next one is looked for -/
structure Wlk (prog : Program) (w : World) (a : Addr) (ep : Nat) (es : Array (Int × Value)) (f : Nat → Nat) (C : Heap → Prop) : Prop where
  there : ∀ {h}, C h → ∃ o t, h.get? a = some o ∧ o.ExactSet ∧ o.data = .set es ep t ∧ t.fits es.size = true ∧ t.plain = true
  kept : ∀ {h h'}, C h → (∀ o, h.get? a = some o → h'.get? a = some o) → C h'
  first : f 0 = 0
  next : ∀ {A E s i} {Q : Option (Value × Nat) → Shared → Prop}, C s.heap → i ≤ es.size → Q (((ord4 w a ep es)[i]?).map fun e => (e.2, f (i + 1))) s → wpAny (model prog w) A (setNext a (f i) i ep) Q E s
theorem hint_4 {Q : Bool → Shared → Prop} (hT : s.TypeIs (.ref a) "set") (h : Q false s) : wpAny (model prog w) A (Builtin.List.listLengthHint (.ref a)) Q E s := by
  unfold Builtin.List.listLengthHint
  refine wpAny_bind (wpAny_specialOf hT PySem.F.slot_set_len.lookup ?_)
  generalize hid : ("set.__len__" : String) = id0
  wp_delta
  rw [show splitId id0 = some ("set", "__len__") from by subst hid; decide +kernel]
  subst hid
  refine wpAny_bind (wpAny_isInstance (T := "set") (b := true) hT (by rw [isSubtype_type]; kernel_rfl) ?_)
  refine wpAny_ite_split (fun q => absurd q (by decide)) fun _ => wpAny_ite_split (fun _ => wpAny_bind (wpAny_typeOf hT (wpAny_pure h))) fun q => absurd (by decide +kernel) q
section
variable {f : Nat → Nat} {C : Heap → Prop} (N : Wlk prog w a ep es f C)
include N
theorem Wlk.typeIs (x : C s.heap) : s.TypeIs (.ref a) "set" := let ⟨o, _, e, c, _⟩ := N.there x; ⟨o, e, c.1⟩
theorem Wlk.go {Q : Option Value → Shared → Prop} (hh : A.handled = none) (k : Wkr s.heap it (f i) i a es.size ep) (x : C s.heap) (hi : i ≤ es.size)
    (h1' : ∀ e h', (ord4 w a ep es)[i]? = some e → Wkr h' it (f (i + 1)) (i + 1) a es.size ep → Heap.SameBut it s.heap h' → Q (some e.2) { s with heap := h' })
    (h2 : (ord4 w a ep es)[i]? = none → ∀ h', Heap.ExtBut it s.heap h' → Q none { s with heap := h' }) : wpAny (model prog w) A (pyNext (.ref it)) Q E s := by
  obtain ⟨oi, k1, k2, k3⟩ := id k
  obtain ⟨o, t, ho, hx, hd, ft, pl⟩ := N.there x
  have ty := k.typeIs
  unfold pyNext
  refine wpAny_bind (wpAny_attempt (wpAny_callSpecial?_slot (name := Str.ofString "__next__") ty sit_next (wpAny_call_entry sit_next ty sit_en ?_ (sit_an _))))
  have nx : ∀ {E Q}, Q (((ord4 w a ep es)[i]?).map fun e => (e.2, f (i + 1))) s → wpAny (model prog w) A.in1 (setNext a (Int.toNat (f i : Int)) (Int.toNat (i : Int)) (Int.toNat (ep : Int))) Q E s := fun q => N.next x hi q
  wp_walk using wpAny_fieldsOf k1 k3, wpAny_setEntries_of ho hd ft, nx
  cases e : (ord4 w a ep es)[i]? with
  | some y =>
    wp_walk using fld_put k1 k3
    · show 0 < 5
      decide
    rintro h1 ⟨o1, m1, m2, m3⟩ sb1
    wp_walk using fld_put (s := { s with heap := h1 }) m1 m3
    · show 1 < 5
      decide
    rintro h2 ⟨o2, n1, n2, n3⟩ sb2
    wp_walk
    exact ⟨_, rfl, wpAny_pure (h1' y h2 e ⟨o2, n1, n2.trans (m2.trans k2), by rw [n3]; simp [rawInt]⟩ (sb1.trans sb2))⟩
  | none =>
    wp_walk using fld_put k1 k3
    · show 2 < 5
      decide
    rintro h1 _ sb
    refine stop_up hh fun h' z kp ty => ?_
    wp_walk using wpAny_isInstance (T := "StopIteration") (b := true) ty isSubtype_stop
    exact h2 e h' fun c o hc g => kp c o ((sb.2 c hc).trans g)
theorem Wlk.walks (hh : A.handled = none) (I : Addr) (hne : a ≠ I) : Walks prog w A I [I, a] [I] es.size (fun i v => ∃ e, (ord4 w a ep es)[i]? = some e ∧ v = e.2) (fun i h => i ≤ es.size ∧ Wkr h I (f i) i a es.size ep ∧ C h) where
  sub := fun c hc => by simp at hc; simp [hc]
  frame := fun _ _ _ st hk => ⟨st.1, st.2.1.kept fun o => hk I (by simp) o, N.kept st.2.2 fun o => hk a (by simp) o⟩
  item := fun i s Q E lt ⟨le, wk, x⟩ hQ => N.go hh wk x le (fun e h' ge wk' sb => hQ _ h' s.toks ⟨e, ge, rfl⟩ ⟨lt, wk', N.kept x fun o => sb.extBut a o hne⟩ fun c o hc => sb.extBut c o fun z => hc (by simp [z])) fun q => absurd (Array.getElem?_eq_none_iff.mp q) (by rw [ord4_size]; omega)
  done := fun s Q E ⟨le, wk, x⟩ hQ => N.go hh wk x le (fun e h' ge => absurd (Array.getElem?_eq_some_iff.mp ge).1 (by rw [ord4_size]; omega)) fun _ h' ex => hQ h' s.toks fun c o hc => ex c o fun z => hc (by simp [z])
  self := fun _ s _ _ ⟨_, wk, _⟩ hQ => wpAny_pyIter_slot wk.typeIs sit_iter (wpAny_call_entry sit_iter wk.typeIs sit_ei (wpAny_pure ⟨_, rfl, _, _, wk.typeIs, sit_next.lookup, hQ⟩) (sit_ai _))
theorem Wlk.iter {Q : Value → Shared → Prop} (x : C s.heap) (h : Q (.ref s.heap.objs.size) { s with heap := s.heap.push { cls := .type "set_iterator", data := .fields #[.int (f 0) 0, .int 0 0, .ref a, .int es.size 0, .int ep 0] } }) : wpAny (model prog w) A (pyIter (.ref a)) Q E s := by
  obtain ⟨o, t, ho, hx, hd, ft, pl⟩ := N.there x
  rw [N.first] at h
  have ty := N.typeIs x
  refine wpAny_pyIter_slot ty F.slot_set_iter (wpAny_call_entry F.slot_set_iter ty set_ei ?_ (F.args_set_iter_1 _))
  wp_walk using wpAny_setEntries_of ho hd ft, wpAny_setEpoch_of ho hd ft, wpAny_setState_of ho hd ft, wpAny_askSetting, wpAny_newObj_type
  refine wpAny_ite_split (fun q => absurd q ?_) fun _ => ?_
  · show ¬ ((!w.params.followText "set-order") && (!t.plain && _)) = true
    rw [pl]
    cases w.params.followText "set-order" <;> simp
  wp_walk using wpAny_setEpoch_of ho hd ft, wpAny_newObj_type
  · exact ⟨_, rfl, _, _, ⟨_, Heap.get?_push_size _ rfl, rfl⟩, sit_next.lookup, by simpa [rawInt] using h⟩
  · size_fits
theorem Wlk.src : PySem.W.KdlSrc prog w "set" a a es.size (fun i v => ∃ e, (ord4 w a ep es)[i]? = some e ∧ v = e.2) C where
  type := fun _ x => N.typeIs x
  there := fun _ x => let ⟨_, _, e, _⟩ := N.there x; ⟨Heap.lt_size e, Heap.lt_size e⟩
  keep := fun _ _ x k => N.kept x fun o => k a (.inl rfl) o
  notList := by decide
  notTuple := by decide
  hint := fun _ _ _ _ x q => hint_4 (N.typeIs x) q
  iter := fun _ s hh x => ⟨_, _, (fun _ _ q => N.iter x q), N.walks hh _ (let ⟨_, _, e, _⟩ := N.there x; Nat.ne_of_lt (Heap.lt_size e)), ⟨Nat.zero_le _, ⟨_, Heap.get?_push_size _ rfl, rfl, rfl⟩, N.kept x fun _ e => Heap.get?_push_of_some _ e⟩⟩
end
end
end L2

namespace L2
open PySem PySem.Spec PyProof.Rows
/-- a set of those of 0, 1, 2, 3 -/
def SetO (w : World) (a : Addr) (ks : List Nat) : HO := .ext fun h => ∃ b ep es, sub4 b = ks ∧ SO w a b ep es h
section
variable {X : Cx}
end
end L2

namespace L2
open PySem PySem.Spec PyProof.Rows
end L2

/-! list.sort of any length: galloping -/
namespace L2
open PySem PySem.Spec PyProof.Rows
def gallop_ : Bool → Keyed → Array Keyed → Nat → Nat → Nat → StateT SortSt Sem (Option Nat) := sortPriv% PySem.Builtin.gallop
def mergeLo_ : Array Keyed → Array Keyed → StateT SortSt Sem (Array Keyed) := sortPriv% PySem.Builtin.mergeLo
def mergeHi_ : Array Keyed → Array Keyed → StateT SortSt Sem (Array Keyed) := sortPriv% PySem.Builtin.mergeHi
def mergeAt_ : Nat → StateT SortSt Sem Bool := sortPriv% PySem.Builtin.mergeAt
/-- a weak order -/
structure Wo (lt : Keyed → Keyed → Bool) : Prop where
  irr : ∀ p, lt p p = false
  asym : ∀ p q, lt p q = true → lt q p = false
  neg : ∀ p q r, lt p r = true → lt p q = true ∨ lt q r = true
theorem Wo.leT {lt : Keyed → Keyed → Bool} (C : Wo lt) {p q r : Keyed} (h1 : lt q p = false) (h2 : lt r q = false) : lt r p = false := by
  cases h : lt r p with
  | false => rfl
  | true => rcases C.neg r q p h with z | z
            · rw [z] at h2; cases h2
            · rw [z] at h1; cases h1
theorem Wo.flip {lt : Keyed → Keyed → Bool} (C : Wo lt) : Wo (fun x y => lt y x) := ⟨fun p => C.irr p, fun p q h => C.asym q p h, fun p q r h => (C.neg r q p h).symm⟩
/-- a comparison that answers by lt for the things of D, and changes nothing -/
structure Cmp (prog : Program) (w : World) (A : Around) (E : Value → Shared → Prop) (s : Shared) (kd : SortKind) (D : Keyed → Prop) (lt : Keyed → Keyed → Bool) : Prop where
  cmp : ∀ (p q : Keyed) (st : SortSt) (Q : Option Bool → SortSt → Prop), D p → D q → kindOf st = kd → Q (some (lt p q)) st → wpS (model prog w) A E s (lt' p q) Q st
  wo : Wo lt
section
variable {prog : Program} {w : World} {A : Around} {E : Value → Shared → Prop} {s : Shared} {kd : SortKind} {D : Keyed → Prop} {lt : Keyed → Keyed → Bool}
/-- how a thing stands to the key -/
def byd (lt : Keyed → Keyed → Bool) (left : Bool) (key : Keyed) (arr : Array Keyed) (base i : Nat) : Bool := match arr[base + i]? with
  | some x => if left = true then lt x key else !lt key x
  | none => false
theorem byd_ok (C : Cmp prog w A E s kd D lt) {left : Bool} {key : Keyed} {arr : Array Keyed} {base i : Nat} {st : SortSt} {Q : Option Bool → SortSt → Prop} (hk : D key) (hx : ∃ x, arr[base + i]? = some x ∧ D x) (hs : kindOf st = kd)
    (h : Q (some (byd lt left key arr base i)) st) : wpS (model prog w) A E s (elem' arr (base + i) >>= fun x => if left = true then lt' x key else (lt' key x >>= fun r => pure (r.map fun x => !x))) Q st := by
  obtain ⟨x, e, d⟩ := hx
  unfold byd at h
  rw [e] at h
  rw [elem'_eq, e]
  refine wpS_bind (wpS_pure ?_)
  cases left with
  | true => rw [if_pos rfl]; exact C.cmp x key st Q d hk hs (by simpa using h)
  | false =>
    rw [if_neg (by simp)]
    exact wpS_bind (C.cmp key x st _ hk d hs (wpS_pure (by simpa using h)))
theorem bin_loop {n : Nat} {st : SortSt} {Q : Option Nat → SortSt → Prop} {body : Nat → Option (Option Nat) × Nat × Nat → StateT SortSt Sem (ForInStep (Option (Option Nat) × Nat × Nat))} {rest : Option (Option Nat) × Nat × Nat → StateT SortSt Sem (Option Nat)} (f : Nat → Bool)
    (mono : ∀ i j, i ≤ j → j < n → f j = true → f i = true)
    (hb1 : ∀ x lo hi (R : ForInStep (Option (Option Nat) × Nat × Nat) → SortSt → Prop), lo ≥ hi → R (.done (none, lo, hi)) st → wpS (model prog w) A E s (body x (none, lo, hi)) R st)
    (hb2 : ∀ x lo hi (R : ForInStep (Option (Option Nat) × Nat × Nat) → SortSt → Prop), lo < hi → hi ≤ n → R (.yield (if f (lo + (hi - lo) / 2) = true then (none, lo + (hi - lo) / 2 + 1, hi) else (none, lo, lo + (hi - lo) / 2))) st → wpS (model prog w) A E s (body x (none, lo, hi)) R st)
    (hr : ∀ lo hi, Q (some hi) st → wpS (model prog w) A E s (rest (none, lo, hi)) Q st)
    (h : ∀ k, k ≤ n → (∀ i, i < k → f i = true) → (∀ i, k ≤ i → i < n → f i = false) → Q (some k) st)
    (lo hi : Nat) (h1 : lo ≤ hi) (h2 : hi ≤ n) (h3 : ∀ i, i < lo → f i = true) (h4 : ∀ i, hi ≤ i → i < n → f i = false) : wpS (model prog w) A E s (forIn [:n] (none, lo, hi) body >>= rest) Q st := by
  refine wpS_bind (wpS_mono (wpS_forRange (I := fun x c st' => st' = st ∧ ∃ lo hi, c = (none, lo, hi) ∧ lo ≤ hi ∧ hi ≤ n ∧ hi - lo ≤ n - x ∧ (∀ i, i < lo → f i = true) ∧ ∀ i, hi ≤ i → i < n → f i = false)
    (Q := fun c st' => st' = st ∧ ∃ lo hi, c = (none, lo, hi) ∧ lo = hi ∧ hi ≤ n ∧ (∀ i, i < lo → f i = true) ∧ ∀ i, hi ≤ i → i < n → f i = false) ?_ ?_ ⟨rfl, lo, hi, rfl, h1, h2, by omega, h3, h4⟩) ?_)
  · rintro x c st' _ hxn ⟨rfl, lo, hi, rfl, g1, g2, g3, g4, g5⟩
    by_cases hge : lo ≥ hi
    · exact hb1 x lo hi _ hge ⟨rfl, lo, hi, rfl, by omega, g2, g4, g5⟩
    · refine hb2 x lo hi _ (by omega) g2 ?_
      cases e : f (lo + (hi - lo) / 2) with
      | true => exact ⟨rfl, _, hi, rfl, by omega, g2, by omega, fun i hi' => mono i _ (by omega) (by omega) e, g5⟩
      | false =>
        refine ⟨rfl, lo, _, rfl, by omega, by omega, by omega, g4, fun i h1 h2 => ?_⟩
        cases z : f i with
        | false => rfl
        | true => rw [mono _ i h1 h2 z] at e; cases e
  · rintro c st' ⟨rfl, lo, hi, rfl, g1, g2, g3, g4, g5⟩
    exact ⟨rfl, lo, hi, rfl, by omega, g2, g4, g5⟩
  · rintro c st' ⟨rfl, lo, hi, rfl, rfl, g2, g4, g5⟩
    exact hr lo lo (h lo g2 g4 g5)
theorem gallop_ok (C : Cmp prog w A E s kd D lt) {left : Bool} {key : Keyed} {arr : Array Keyed} {base n hint : Nat} {st : SortSt} {Q : Option Nat → SortSt → Prop} (hk : D key) (hx : ∀ i, i < n → ∃ x, arr[base + i]? = some x ∧ D x) (hh : hint < n) (hs : kindOf st = kd)
    (mono : ∀ i j, i ≤ j → j < n → byd lt left key arr base j = true → byd lt left key arr base i = true)
    (h : ∀ k, k ≤ n → (∀ i, i < k → byd lt left key arr base i = true) → (∀ i, k ≤ i → i < n → byd lt left key arr base i = false) → Q (some k) st) :
    wpS (model prog w) A E s (gallop_ left key arr base n hint) Q st := by
  have monoF : ∀ i j, i ≤ j → j < n → byd lt left key arr base i = false → byd lt left key arr base j = false := fun i j hij hj z => by
    cases e : byd lt left key arr base j with
    | false => rfl
    | true => rw [mono i j hij hj e] at z; cases z
  refine wpS_bind (byd_ok C hk (hx hint hh) hs ?_)
  cases hr : byd lt left key arr base hint with
  | true =>
    dsimp only
    rw [if_pos rfl]
    refine wpS_bind (wpS_mono (wpS_forRange (I := fun x c st' => st' = st ∧ ∃ lo of, c = (none, lo, of) ∧ lo < of ∧ lo < n - hint ∧ x < of ∧ byd lt left key arr base (hint + lo) = true)
      (Q := fun c st' => st' = st ∧ ∃ lo of, c = (none, lo, of) ∧ lo < of ∧ lo < n - hint ∧ byd lt left key arr base (hint + lo) = true ∧ (of < n - hint → byd lt left key arr base (hint + of) = false)) ?_ ?_ ⟨rfl, 0, 1, rfl, by omega, by omega, by omega, hr⟩) ?_)
    · rintro x c st' _ hxn ⟨rfl, lo, of, rfl, g1, g2, g3, g4⟩
      dsimp only
      by_cases hge : of ≥ n - hint
      · rw [if_pos hge]
        exact wpS_pure ⟨rfl, lo, of, rfl, g1, g2, g4, fun z => by omega⟩
      · rw [if_neg hge]
        refine wpS_bind (byd_ok C hk (hx (hint + of) (by omega)) hs ?_)
        cases e : byd lt left key arr base (hint + of) with
        | true => exact wpS_pure ⟨rfl, of, _, rfl, by omega, by omega, by omega, e⟩
        | false => exact wpS_pure ⟨rfl, lo, of, rfl, g1, g2, g4, fun _ => e⟩
    · rintro c st' ⟨rfl, lo, of, rfl, g1, g2, g3, g4⟩
      exact ⟨rfl, lo, of, rfl, g1, g2, g4, fun z => by omega⟩
    · rintro c st' ⟨rfl, lo, of, rfl, g1, g2, g4, g5⟩
      dsimp only
      refine bin_loop (byd lt left key arr base) mono (fun x lo hi R hge hR => ?_) (fun x lo hi R hlt hn hR => ?_) (fun lo hi hq => wpS_pure hq) h _ _ ?_ ?_ ?_ ?_
      · dsimp only
        rw [if_pos hge]
        exact wpS_pure hR
      · dsimp only
        rw [if_neg (by omega)]
        refine wpS_bind (byd_ok C hk (hx _ (by omega)) hs ?_)
        cases e : byd lt left key arr base (lo + (hi - lo) / 2) with
        | true => rw [e, if_pos rfl] at hR; exact wpS_pure hR
        | false => rw [e, if_neg (by simp)] at hR; exact wpS_pure hR
      · omega
      · omega
      · exact fun i hi => mono i (hint + lo) (by omega) (by omega) g4
      · intro i h1 h2
        by_cases z : of < n - hint
        · exact monoF (hint + of) i (by omega) h2 (g5 z)
        · omega
  | false =>
    dsimp only
    rw [if_neg (by simp)]
    refine wpS_bind (wpS_mono (wpS_forRange (I := fun x c st' => st' = st ∧ ∃ lo of, c = (none, lo, of) ∧ lo < of ∧ lo < hint + 1 ∧ x < of ∧ byd lt left key arr base (hint - lo) = false)
      (Q := fun c st' => st' = st ∧ ∃ lo of, c = (none, lo, of) ∧ lo < of ∧ lo < hint + 1 ∧ byd lt left key arr base (hint - lo) = false ∧ (of < hint + 1 → byd lt left key arr base (hint - of) = true)) ?_ ?_ ⟨rfl, 0, 1, rfl, by omega, by omega, by omega, hr⟩) ?_)
    · rintro x c st' _ hxn ⟨rfl, lo, of, rfl, g1, g2, g3, g4⟩
      dsimp only
      by_cases hge : of ≥ hint + 1
      · rw [if_pos hge]
        exact wpS_pure ⟨rfl, lo, of, rfl, g1, g2, g4, fun z => by omega⟩
      · rw [if_neg hge]
        refine wpS_bind (byd_ok C hk (hx (hint - of) (by omega)) hs ?_)
        cases e : byd lt left key arr base (hint - of) with
        | true => exact wpS_pure ⟨rfl, lo, of, rfl, g1, g2, g4, fun _ => e⟩
        | false => exact wpS_pure ⟨rfl, of, _, rfl, by omega, by omega, by omega, e⟩
    · rintro c st' ⟨rfl, lo, of, rfl, g1, g2, g3, g4⟩
      exact ⟨rfl, lo, of, rfl, g1, g2, g4, fun z => by omega⟩
    · rintro c st' ⟨rfl, lo, of, rfl, g1, g2, g4, g5⟩
      dsimp only
      refine bin_loop (byd lt left key arr base) mono (fun x lo hi R hge hR => ?_) (fun x lo hi R hlt hn hR => ?_) (fun lo hi hq => wpS_pure hq) h _ _ ?_ ?_ ?_ ?_
      · dsimp only
        rw [if_pos hge]
        exact wpS_pure hR
      · dsimp only
        rw [if_neg (by omega)]
        refine wpS_bind (byd_ok C hk (hx _ (by omega)) hs ?_)
        cases e : byd lt left key arr base (lo + (hi - lo) / 2) with
        | true => rw [e, if_pos rfl] at hR; exact wpS_pure hR
        | false => rw [e, if_neg (by simp)] at hR; exact wpS_pure hR
      · omega
      · omega
      · intro i hi
        by_cases z : of < hint + 1
        · exact mono i (hint - of) (by omega) (by omega) (g5 z)
        · omega
      · exact fun i h1 h2 => monoF (hint - lo) i (by omega) h2 g4
end
end L2

/-! list.sort of any length: merging -/
namespace L2
open PySem PySem.Spec PyProof.Rows
section
variable {prog : Program} {w : World} {A : Around} {E : Value → Shared → Prop} {s : Shared} {kd : SortKind} {D : Keyed → Prop} {lt : Keyed → Keyed → Bool}
def Srt (lt : Keyed → Keyed → Bool) (l : List Keyed) : Prop := l.Pairwise fun p q => lt q p = false
theorem srt_get (C : Wo lt) {l : List Keyed} (h : Srt lt l) {i j : Nat} {p q : Keyed} (hi : l[i]? = some p) (hj : l[j]? = some q) (hij : i ≤ j) : lt q p = false := by
  obtain ⟨h1, rfl⟩ := List.getElem?_eq_some_iff.mp hi
  obtain ⟨h2, rfl⟩ := List.getElem?_eq_some_iff.mp hj
  rcases Nat.lt_or_ge i j with z | z
  · exact List.pairwise_iff_getElem.mp h i j h1 h2 z
  · obtain rfl : i = j := by omega
    exact C.irr _
theorem el_ok {arr : Array Keyed} {i : Nat} {x : Keyed} {st : SortSt} {Q : Keyed → SortSt → Prop} {M : Model} (e : arr[i]? = some x) (h : Q x st) : wpS M A E s (elem' arr i) Q st := by
  rw [elem'_eq, e]; exact wpS_pure h
/-- a state alike but for the gallop's measure -/
def Eqg (st st' : SortSt) : Prop := kindOf st' = kindOf st ∧ arrOf st' = arrOf st ∧ pendingOf st' = pendingOf st ∧ failedOf st' = failedOf st
theorem Eqg.refl (st : SortSt) : Eqg st st := ⟨rfl, rfl, rfl, rfl⟩
/-- merged so far: out; a from ia on and b from ib on are left -/
structure Mg (lt : Keyed → Keyed → Bool) (a b out : List Keyed) (ia ib : Nat) : Prop where
  srt : Srt lt out
  pm : (out ++ (a.drop ia ++ b.drop ib)).Perm (a ++ b)
  le : ∀ p ∈ out, ∀ q ∈ a.drop ia ++ b.drop ib, lt q p = false
theorem drop_cons {l : List Keyed} {i : Nat} {x : Keyed} (e : l[i]? = some x) : l.drop i = x :: l.drop (i + 1) := by
  obtain ⟨h, rfl⟩ := List.getElem?_eq_some_iff.mp e
  exact List.drop_eq_getElem_cons h
theorem srt_drop {l : List Keyed} (h : Srt lt l) (i : Nat) : Srt lt (l.drop i) := List.Pairwise.sublist (List.drop_sublist _ _) h
theorem srt_snoc {l : List Keyed} {x : Keyed} (h : Srt lt l) (hx : ∀ p ∈ l, lt x p = false) : Srt lt (l ++ [x]) := by
  refine List.pairwise_append.mpr ⟨h, List.pairwise_singleton _ _, fun p hp q hq => ?_⟩
  rw [List.mem_singleton.mp hq]; exact hx p hp
theorem Mg.takeA (C : Wo lt) {a b out : List Keyed} {ia ib : Nat} (g : Mg lt a b out ia ib) (sa : Srt lt a) (sb : Srt lt b) {x : Keyed} (e : a[ia]? = some x) (h : ∀ y, b[ib]? = some y → lt y x = false) : Mg lt a b (out ++ [x]) (ia + 1) ib := by
  have da := drop_cons e
  have xin : x ∈ a.drop ia ++ b.drop ib := by rw [da]; simp
  refine ⟨srt_snoc g.srt fun p hp => g.le p hp x xin, ?_, fun p hp q hq => ?_⟩
  · have := g.pm
    rw [da] at this
    simpa using this
  · rcases List.mem_append.mp hp with hp | hp
    · refine g.le p hp q ?_
      rw [da]
      rcases List.mem_append.mp hq with z | z
      · exact List.mem_append_left _ (List.mem_cons_of_mem _ z)
      · exact List.mem_append_right _ z
    · rw [List.mem_singleton.mp hp]
      rcases List.mem_append.mp hq with z | z
      · have := srt_drop sa ia
        rw [da] at this
        exact (List.pairwise_cons.mp this).1 q z
      · cases hb : b[ib]? with
        | none => rw [List.drop_eq_nil_of_le (List.getElem?_eq_none_iff.mp hb)] at z; cases z
        | some y =>
          have hy := h y hb
          have db := drop_cons hb
          rw [db] at z
          rcases List.mem_cons.mp z with rfl | z
          · exact hy
          · have sb' := srt_drop sb ib
            rw [db] at sb'
            exact C.leT hy ((List.pairwise_cons.mp sb').1 q z)
theorem Mg.takeB (C : Wo lt) {a b out : List Keyed} {ia ib : Nat} (g : Mg lt a b out ia ib) (sa : Srt lt a) (sb : Srt lt b) {x : Keyed} (e : b[ib]? = some x) (h : ∀ y, a[ia]? = some y → lt y x = false) : Mg lt a b (out ++ [x]) ia (ib + 1) := by
  have db := drop_cons e
  have xin : x ∈ a.drop ia ++ b.drop ib := by rw [db]; simp
  refine ⟨srt_snoc g.srt fun p hp => g.le p hp x xin, ?_, fun p hp q hq => ?_⟩
  · refine List.Perm.trans ?_ g.pm
    rw [db, List.append_assoc]
    refine List.Perm.append_left _ ?_
    exact (List.perm_middle (a := x) (l₁ := a.drop ia) (l₂ := b.drop (ib + 1))).symm
  · rcases List.mem_append.mp hp with hp | hp
    · refine g.le p hp q ?_
      rw [db]
      rcases List.mem_append.mp hq with z | z
      · exact List.mem_append_left _ z
      · exact List.mem_append_right _ (List.mem_cons_of_mem _ z)
    · rw [List.mem_singleton.mp hp]
      rcases List.mem_append.mp hq with z | z
      · cases ha : a[ia]? with
        | none => rw [List.drop_eq_nil_of_le (List.getElem?_eq_none_iff.mp ha)] at z; cases z
        | some y =>
          have hy := h y ha
          have da := drop_cons ha
          rw [da] at z
          rcases List.mem_cons.mp z with rfl | z
          · exact hy
          · have sa' := srt_drop sa ia
            rw [da] at sa'
            exact C.leT hy ((List.pairwise_cons.mp sa').1 q z)
      · have := srt_drop sb ib
        rw [db] at this
        exact (List.pairwise_cons.mp this).1 q z
theorem ext_snoc {l : List Keyed} {i k : Nat} {x : Keyed} (e : l[i + k]? = some x) : (l.drop i).take (k + 1) = (l.drop i).take k ++ [x] := by
  rw [List.take_add_one, List.getElem?_drop, e]; rfl
theorem Mg.takeAs (C : Wo lt) {a b : List Keyed} (sa : Srt lt a) (sb : Srt lt b) {ia ib : Nat} {out : List Keyed} (g : Mg lt a b out ia ib) : ∀ k, ia + k ≤ a.length → (∀ i, i < k → ∀ x y, a[ia + i]? = some x → b[ib]? = some y → lt y x = false) → Mg lt a b (out ++ (a.drop ia).take k) (ia + k) ib
  | 0, _, _ => by simpa using g
  | k + 1, hk, h => by
    have ih := Mg.takeAs C sa sb g k (by omega) fun i hi => h i (by omega)
    obtain ⟨x, hx⟩ : ∃ x, a[ia + k]? = some x := ⟨a[ia + k]'(by omega), List.getElem?_eq_getElem (by omega)⟩
    have := ih.takeA C sa sb hx fun y hy => h k (by omega) x y hx hy
    rw [ext_snoc hx, ← List.append_assoc]
    exact this
theorem Mg.takeBs (C : Wo lt) {a b : List Keyed} (sa : Srt lt a) (sb : Srt lt b) {ia ib : Nat} {out : List Keyed} (g : Mg lt a b out ia ib) : ∀ k, ib + k ≤ b.length → (∀ i, i < k → ∀ x y, b[ib + i]? = some x → a[ia]? = some y → lt y x = false) → Mg lt a b (out ++ (b.drop ib).take k) ia (ib + k)
  | 0, _, _ => by simpa using g
  | k + 1, hk, h => by
    have ih := Mg.takeBs C sa sb g k (by omega) fun i hi => h i (by omega)
    obtain ⟨x, hx⟩ : ∃ x, b[ib + k]? = some x := ⟨b[ib + k]'(by omega), List.getElem?_eq_getElem (by omega)⟩
    have := ih.takeB C sa sb hx fun y hy => h k (by omega) x y hx hy
    rw [ext_snoc hx, ← List.append_assoc]
    exact this
/-- what is to come of merging -/
def Mgd (lt : Keyed → Keyed → Bool) (a b r : List Keyed) : Prop := Srt lt r ∧ r.Perm (a ++ b)
theorem Mg.done {a b out : List Keyed} {ia ib : Nat} (g : Mg lt a b out ia ib) (sa : Srt lt a) (sb : Srt lt b) (h : a.length ≤ ia ∨ b.length ≤ ib) : Mgd lt a b (out ++ a.drop ia ++ b.drop ib) := by
  refine ⟨?_, by rw [List.append_assoc]; exact g.pm⟩
  rw [List.append_assoc]
  refine List.pairwise_append.mpr ⟨g.srt, ?_, fun p hp q hq => g.le p hp q hq⟩
  rcases h with h | h
  · rw [List.drop_eq_nil_of_le h, List.nil_append]; exact srt_drop sb ib
  · rw [List.drop_eq_nil_of_le h, List.append_nil]; exact srt_drop sa ia
theorem Mg.lastA {a b out : List Keyed} {ia ib : Nat} (g : Mg lt a b out ia ib) (sb : Srt lt b) (h : ia + 1 = a.length) (hl : ∀ x, a[ia]? = some x → ∀ y ∈ b, lt x y = false) : Mgd lt a b (out ++ b.drop ib ++ a.drop ia) := by
  obtain ⟨x, hx⟩ : ∃ x, a[ia]? = some x := ⟨a[ia]'(by omega), List.getElem?_eq_getElem (by omega)⟩
  have da : a.drop ia = [x] := by rw [drop_cons hx, List.drop_eq_nil_of_le (by omega)]
  refine ⟨?_, ?_⟩
  · rw [List.append_assoc, da]
    refine List.pairwise_append.mpr ⟨g.srt, srt_snoc (srt_drop sb ib) fun p hp => hl x hx p (List.mem_of_mem_drop hp), fun p hp q hq => g.le p hp q ?_⟩
    rw [da]
    rcases List.mem_append.mp hq with z | z
    · exact List.mem_append_right _ z
    · exact List.mem_append_left _ z
  · rw [List.append_assoc]
    exact (List.Perm.append_left _ List.perm_append_comm).trans g.pm
end
end L2

namespace L2
open PySem PySem.Spec PyProof.Rows
section
variable {prog : Program} {w : World} {A : Around} {E : Value → Shared → Prop} {s : Shared} {kd : SortKind} {D : Keyed → Prop} {lt : Keyed → Keyed → Bool}
theorem ext_to {l : Array Keyed} {i k : Nat} : (l.extract i (i + k)).toList = (l.toList.drop i).take k := by
  rw [Array.toList_extract, List.extract_eq_take_drop]; congr 1; omega
theorem ext_end {l : Array Keyed} {i : Nat} : (l.extract i).toList = l.toList.drop i := by
  rw [Array.toList_extract, List.extract_eq_take_drop]
  exact List.take_of_length_le (by simp)
theorem byd_right {key : Keyed} {arr : Array Keyed} {base i : Nat} {x : Keyed} (e : arr.toList[base + i]? = some x) : byd lt false key arr base i = !lt key x := by
  unfold byd; rw [← Array.getElem?_toList, e]; simp
theorem byd_left {key : Keyed} {arr : Array Keyed} {base i : Nat} {x : Keyed} (e : arr.toList[base + i]? = some x) : byd lt true key arr base i = lt x key := by
  unfold byd; rw [← Array.getElem?_toList, e]; simp
theorem byd_mono (C : Cmp prog w A E s kd D lt) {left : Bool} {key : Keyed} {arr : Array Keyed} {base n : Nat} (hs : Srt lt arr.toList) (hn : base + n ≤ arr.toList.length) :
    ∀ i j, i ≤ j → j < n → byd lt left key arr base j = true → byd lt left key arr base i = true := fun i j hij hj h => by
  have ei : arr.toList[base + i]? = some (arr.toList[base + i]'(by omega)) := List.getElem?_eq_getElem (by omega)
  have ej : arr.toList[base + j]? = some (arr.toList[base + j]'(by omega)) := List.getElem?_eq_getElem (by omega)
  have le := srt_get C.wo hs ei ej (by omega)
  cases left with
  | true =>
    rw [byd_left ej] at h
    rw [byd_left ei]
    rcases C.wo.neg _ (arr.toList[base + i]'(by omega)) _ h with z | z
    · rw [z] at le; cases le
    · exact z
  | false =>
    rw [byd_right ej] at h
    rw [byd_right ei]
    cases z : lt key (arr.toList[base + i]'(by omega)) with
    | false => rfl
    | true =>
      rcases C.wo.neg _ (arr.toList[base + j]'(by omega)) _ z with y | y
      · rw [y] at h; cases h
      · rw [y] at le; cases le
section
variable {β : Type} {st : SortSt} {Q : β → SortSt → Prop} {M : Model}
theorem wpS_if {c : Bool} {X Y : StateT SortSt Sem β} (h1 : c = true → wpS M A E s X Q st) (h2 : c = false → wpS M A E s Y Q st) : wpS M A E s (if c = true then X else Y) Q st := by
  cases c with
  | true => exact h1 rfl
  | false => exact h2 rfl
theorem wpS_gt {k n : Nat} {X Y : StateT SortSt Sem β} (h1 : k > n → wpS M A E s X Q st) (h2 : k ≤ n → wpS M A E s Y Q st) : wpS M A E s (if k > n then X else Y) Q st := by
  by_cases h : k > n
  · rw [if_pos h]; exact h1 h
  · rw [if_neg h]; exact h2 (by omega)
end
theorem beq_no {m n : Nat} (h : (m == n) = false) : m ≠ n := fun e => by rw [e] at h; simp at h
theorem mergeLo_ok (C : Cmp prog w A E s kd D lt) {a b : Array Keyed} {st : SortSt} {Q : Array Keyed → SortSt → Prop} (hda : ∀ x ∈ a.toList, D x) (hdb : ∀ x ∈ b.toList, D x) (sa : Srt lt a.toList) (sb : Srt lt b.toList) (hs : kindOf st = kd)
    (na : 0 < a.toList.length) (nb : 0 < b.toList.length) (hf : ∀ x y, a.toList[0]? = some x → b.toList[0]? = some y → lt x y = false) (hl : ∀ x, a.toList[a.toList.length - 1]? = some x → ∀ y ∈ b.toList, lt x y = false)
    (h : ∀ r st', Mgd lt a.toList b.toList r.toList → Eqg st st' → Q r st') : wpS (model prog w) A E s (mergeLo_ a b) Q st := by
  have za : a.size = a.toList.length := by simp
  have zb : b.size = b.toList.length := by simp
  have ea : ∀ i, i < a.toList.length → ∃ x, a[i]? = some x ∧ D x ∧ a.toList[i]? = some x := fun i hi => ⟨a.toList[i], by rw [← Array.getElem?_toList]; exact List.getElem?_eq_getElem hi, hda _ (List.getElem_mem hi), List.getElem?_eq_getElem hi⟩
  have eb : ∀ i, i < b.toList.length → ∃ x, b[i]? = some x ∧ D x ∧ b.toList[i]? = some x := fun i hi => ⟨b.toList[i], by rw [← Array.getElem?_toList]; exact List.getElem?_eq_getElem hi, hdb _ (List.getElem_mem hi), List.getElem?_eq_getElem hi⟩
  refine wpS_bind (wpS_lift (wpAny_rule ⟨rfl, ?_⟩))
  obtain ⟨b0, hb0, db0, lb0⟩ := eb 0 nb
  obtain ⟨a0, ha0, da0, la0⟩ := ea 0 na
  refine wpS_bind (el_ok hb0 ?_)
  have g0 : Mg lt a.toList b.toList [b0] 0 1 := by
    have g : Mg lt a.toList b.toList [] 0 0 := ⟨.nil, by simp, fun p hp => (by cases hp)⟩
    exact g.takeB C.wo sa sb lb0 fun y hy => hf y b0 hy lb0
  show wpS _ _ _ _ (if (1 == b.size) = true then _ else if (0 + 1 == a.size) = true then _ else _) _ _
  by_cases c1 : (1 == b.size) = true
  · rw [if_pos c1]
    refine wpS_pure (h _ st ?_ (Eqg.refl st))
    simp only [Array.toList_append, ext_end]
    exact g0.done sa sb (.inr (by rw [← zb, ← eq_of_beq c1]; exact Nat.le_refl _))
  rw [if_neg c1]
  by_cases c2 : (0 + 1 == a.size) = true
  · rw [if_pos c2]
    refine wpS_pure (h _ st ?_ (Eqg.refl st))
    simp only [Array.toList_append, ext_end]
    exact g0.lastA sb (by rw [← za]; exact eq_of_beq c2) fun x hx => hl x (by rw [← za, ← eq_of_beq c2]; exact hx)
  rw [if_neg c2]
  have n1 : 1 < b.toList.length := by
    rcases Nat.lt_or_ge 1 b.toList.length with z | z
    · exact z
    · exact absurd (by rw [zb, show b.toList.length = 1 by omega]; rfl) c1
  have n2 : 1 < a.toList.length := by
    rcases Nat.lt_or_ge 1 a.toList.length with z | z
    · exact z
    · exact absurd (by rw [za, show a.toList.length = 1 by omega]; rfl) c2
  refine wpS_bind (wpS_get ?_)
  refine wpS_bind (wpS_mono (wpS_forRange (I := fun x c st' => ∃ (out : Array Keyed) (ia ib mg : Nat), c = (none, out, ia, ib, mg) ∧ Mg lt a.toList b.toList out.toList ia ib ∧ ia + 1 < a.toList.length ∧ ib < b.toList.length ∧ x ≤ ia + ib ∧ Eqg st st')
    (Q := fun c st' => ∃ r, c.1 = some r ∧ Mgd lt a.toList b.toList r.toList ∧ Eqg st st') ?_ ?_ ⟨#[b0], 0, 1, _, rfl, g0, by omega, n1, by omega, Eqg.refl st⟩) ?_)
  · rintro x c st1 _ hx ⟨out, ia, ib, mg, rfl, g, l1, l2, l3, q1⟩
    refine wpS_bind (wpS_mono (wpS_forRange (I := fun y c st' => st' = st1 ∧ ∃ (out : Array Keyed) (ia ib ac bc : Nat), c = (none, out, ia, ib, ac, bc) ∧ Mg lt a.toList b.toList out.toList ia ib ∧ ia + 1 < a.toList.length ∧ ib < b.toList.length ∧ x + y ≤ ia + ib)
      (Q := fun c st' => st' = st1 ∧ ((∃ (out : Array Keyed) (ia ib ac bc : Nat), c = (none, out, ia, ib, ac, bc) ∧ Mg lt a.toList b.toList out.toList ia ib ∧ ia + 1 < a.toList.length ∧ ib < b.toList.length ∧ x + 1 ≤ ia + ib) ∨ ∃ r, c.1 = some r ∧ Mgd lt a.toList b.toList r.toList)) ?_ ?_ ⟨rfl, out, ia, ib, 0, 0, rfl, g, l1, l2, l3⟩) ?_)
    · rintro y c st' _ hy ⟨rfl, out, ia, ib, ac, bc, rfl, g, l1, l2, l3⟩
      obtain ⟨xb, hb, db, lb⟩ := eb ib l2
      obtain ⟨xa, ha, da, la⟩ := ea ia (by omega)
      refine wpS_bind (el_ok hb (wpS_bind (el_ok ha (wpS_bind (C.cmp xb xa _ _ db da (q1.1.trans hs) ?_)))))
      cases e : lt xb xa with
      | true =>
        refine wpS_bind (el_ok hb ?_)
        have g' := g.takeB C.wo sa sb lb fun y hy => by rw [la] at hy; cases hy; exact C.wo.asym _ _ e
        dsimp only
        by_cases c3 : (ib + 1 == b.size) = true
        · rw [if_pos c3]
          refine wpS_pure ⟨rfl, .inr ⟨_, rfl, ?_⟩⟩
          simp only [Array.toList_append, Array.toList_push, ext_end]
          exact g'.done sa sb (.inr (by rw [← zb, ← eq_of_beq c3]; exact Nat.le_refl _))
        · rw [if_neg c3]
          have c4 : ib + 1 < b.toList.length := by
            rcases Nat.lt_or_ge (ib + 1) b.toList.length with z | z
            · exact z
            · exact absurd (by rw [zb, show b.toList.length = ib + 1 by omega]; simp) c3
          split
          · exact wpS_pure ⟨rfl, .inl ⟨_, _, _, _, _, rfl, by rw [Array.toList_push]; exact g', l1, c4, by omega⟩⟩
          · exact wpS_pure ⟨rfl, _, _, _, _, _, rfl, by rw [Array.toList_push]; exact g', l1, c4, by omega⟩
      | false =>
        refine wpS_bind (el_ok ha ?_)
        have g' := g.takeA C.wo sa sb la fun y hy => by rw [lb] at hy; cases hy; exact e
        dsimp only
        by_cases c3 : (ia + 1 + 1 == a.size) = true
        · rw [if_pos c3]
          refine wpS_pure ⟨rfl, .inr ⟨_, rfl, ?_⟩⟩
          simp only [Array.toList_append, Array.toList_push, ext_end]
          have c5 : ia + 1 + 1 = a.toList.length := by rw [← za]; exact eq_of_beq c3
          exact g'.lastA sb c5 fun x hx => hl x (by rw [← c5]; exact hx)
        · rw [if_neg c3]
          have c4 : ia + 1 + 1 < a.toList.length := by
            rcases Nat.lt_or_ge (ia + 1 + 1) a.toList.length with z | z
            · exact z
            · exact absurd (by rw [za, show a.toList.length = ia + 1 + 1 by omega]; simp) c3
          split
          · exact wpS_pure ⟨rfl, .inl ⟨_, _, _, _, _, rfl, by rw [Array.toList_push]; exact g', c4, l2, by omega⟩⟩
          · exact wpS_pure ⟨rfl, _, _, _, _, _, rfl, by rw [Array.toList_push]; exact g', c4, l2, by omega⟩
    · rintro c st' ⟨rfl, out, ia, ib, ac, bc, rfl, g, l1, l2, l3⟩
      omega
    · rintro c st' ⟨rfl, ⟨out, ia, ib, ac, bc, rfl, g, l1, l2, l3⟩ | ⟨r, hr, hm⟩⟩
      · refine wpS_bind (wpS_lift (wpAny_rule ⟨rfl, ?_⟩))
        refine wpS_bind (wpS_mono (wpS_forRange (I := fun y c st' => Eqg st st' ∧ ∃ (out : Array Keyed) (ia ib mg ac bc : Nat), c = (none, out, ia, ib, mg, ac, bc) ∧ Mg lt a.toList b.toList out.toList ia ib ∧ ia + 1 < a.toList.length ∧ ib < b.toList.length ∧ x + 1 + y ≤ ia + ib)
          (Q := fun c st' => Eqg st st' ∧ ((∃ (out : Array Keyed) (ia ib mg ac bc : Nat), c = (none, out, ia, ib, mg, ac, bc) ∧ Mg lt a.toList b.toList out.toList ia ib ∧ ia + 1 < a.toList.length ∧ ib < b.toList.length ∧ x + 1 ≤ ia + ib) ∨ ∃ r, c.1 = some r ∧ Mgd lt a.toList b.toList r.toList)) ?_ ?_ ⟨q1, out, ia, ib, _, ac, bc, rfl, g, l1, l2, l3⟩) ?_)
        · rintro y c st2 _ hy ⟨q2, out, ia, ib, mg, ac, bc, rfl, g, l1, l2, l3⟩
          obtain ⟨xb, hb, db, lb⟩ := eb ib l2
          refine wpS_gt (k := mg) (n := 1) (fun _ => ?_) (fun _ => ?_)
          all_goals (
            refine wpS_bind (wpS_modify ?_)
            refine wpS_bind (el_ok hb ?_)
            refine wpS_bind (gallop_ok (base := ia) (n := a.size - ia) (hint := 0) C db (fun i hi => let ⟨x, h1, h2, _⟩ := ea (ia + i) (by omega); ⟨x, h1, h2⟩) (by omega) (q2.1.trans hs) (byd_mono C sa (by omega)) fun k hk k1 k2 => ?_)
            have f1 : ∀ i, i < k → ∀ x y, a.toList[ia + i]? = some x → b.toList[ib]? = some y → lt y x = false := fun i hi x y hx hy => by
              have := k1 i hi
              rw [byd_right hx] at this
              rw [lb] at hy
              cases hy
              simpa using this
            have gk := g.takeAs C.wo sa sb k (by omega) f1
            have m3 : ∀ x, a.toList[ia + k]? = some x → lt xb x = true := fun x hx => by
              have := k2 k (Nat.le_refl _) (by have := (List.getElem?_eq_some_iff.mp hx).1; omega)
              rw [byd_right hx] at this
              simpa using this
            refine wpS_gt (k := k) (n := 0) (fun k0 => ?_) (fun k0 => ?_)
            · refine wpS_if (c := (ia + k + 1 == a.size)) (fun c3 => ?_) (fun c3 => wpS_if (c := (ia + k == a.size)) (fun c4 => ?_) (fun c4 => ?_))
              · refine wpS_pure ⟨q2, .inr ⟨_, rfl, ?_⟩⟩
                have c3' : ia + k + 1 = a.toList.length := by rw [← za]; exact eq_of_beq c3
                have := gk.lastA sb c3' fun x hx => hl x (by rw [← c3']; exact hx)
                simp only [Array.toList_append, Array.toList_push, ext_end, ext_to] at this ⊢
                exact this
              · refine wpS_pure ⟨q2, .inr ⟨_, rfl, ?_⟩⟩
                have := gk.done sa sb (.inl (by rw [← za, ← eq_of_beq c4]; exact Nat.le_refl _))
                simp only [Array.toList_append, Array.toList_push, ext_end, ext_to] at this ⊢
                exact this
              · have c3' := beq_no c3
                have c4' := beq_no c4
                have m4' := m3
                have g1 : Mg lt a.toList b.toList (out ++ a.extract ia (ia + k)).toList (ia + k) ib := by
                  simp only [Array.toList_append, Array.toList_push, ext_end, ext_to] at gk ⊢
                  exact gk
                refine wpS_bind (el_ok hb ?_)
                have g2 := g1.takeB C.wo sa sb lb fun y hy => C.wo.asym _ _ (m4' y hy)
                refine wpS_if (c := (ib + 1 == b.size)) (fun c5 => ?_) (fun c5 => ?_)
                · refine wpS_pure ⟨q2, .inr ⟨_, rfl, ?_⟩⟩
                  have := g2.done sa sb (.inr (by rw [← zb, ← eq_of_beq c5]; exact Nat.le_refl _))
                  simp only [Array.toList_append, Array.toList_push, ext_end, ext_to] at this ⊢
                  exact this
                · have c6 := beq_no c5
                  obtain ⟨xa, ha, da, la⟩ := ea (ia + k) (by omega)
                  refine wpS_bind (el_ok ha ?_)
                  refine wpS_bind (gallop_ok (left := true) (base := ib + 1) (n := b.size - (ib + 1)) (hint := 0) C da (fun i hi => let ⟨x, h1, h2, _⟩ := eb (ib + 1 + i) (by omega); ⟨x, h1, h2⟩) (by omega) (q2.1.trans hs) (byd_mono C sb (by omega)) fun k' hk' k1' k2' => ?_)
                  have f2 : ∀ i, i < k' → ∀ x y, b.toList[ib + 1 + i]? = some x → a.toList[ia + k]? = some y → lt y x = false := fun i hi x y hx hy => by
                    have := k1' i hi
                    rw [byd_left hx] at this
                    rw [la] at hy
                    cases hy
                    exact C.wo.asym _ _ this
                  have gk' := g2.takeBs C.wo sa sb k' (by omega) f2
                  have m5 : ∀ y, b.toList[ib + 1 + k']? = some y → lt y xa = false := fun y hy => by
                    have := k2' k' (Nat.le_refl _) (by have := (List.getElem?_eq_some_iff.mp hy).1; omega)
                    rw [byd_left hy] at this
                    exact this
                  refine wpS_gt (k := k') (n := 0) (fun k0' => ?_) (fun k0' => ?_)
                  · refine wpS_if (c := (ib + 1 + k' == b.size)) (fun c9 => ?_) (fun c9 => ?_)
                    · refine wpS_pure ⟨q2, .inr ⟨_, rfl, ?_⟩⟩
                      have := gk'.done sa sb (.inr (by rw [← zb, ← eq_of_beq c9]; exact Nat.le_refl _))
                      simp only [Array.toList_append, Array.toList_push, ext_end, ext_to] at this ⊢
                      exact this
                    · have c9' := beq_no c9
                      have m4 := m5
                      have g3 : Mg lt a.toList b.toList (((out ++ a.extract ia (ia + k)).push xb) ++ b.extract (ib + 1) (ib + 1 + k')).toList (ia + k) (ib + 1 + k') := by
                        simp only [Array.toList_append, Array.toList_push, ext_end, ext_to] at gk' ⊢
                        exact gk'
                      refine wpS_bind (el_ok ha ?_)
                      have g4 := g3.takeA C.wo sa sb la m4
                      refine wpS_if (c := ((ia + k) + 1 + 1 == a.size)) (fun c7 => ?_) (fun c7 => ?_)
                      · refine wpS_pure ⟨q2, .inr ⟨_, rfl, ?_⟩⟩
                        have c8 : (ia + k) + 1 + 1 = a.toList.length := by rw [← za]; exact eq_of_beq c7
                        have := g4.lastA sb c8 fun x hx => hl x (by rw [← c8]; exact hx)
                        simp only [Array.toList_append, Array.toList_push, ext_end, ext_to] at this ⊢
                        exact this
                      · have c8 := beq_no c7
                        refine wpS_if (fun _ => ?_) (fun _ => ?_)
                        · exact wpS_pure ⟨q2, .inl ⟨(((out ++ a.extract ia (ia + k)).push xb) ++ b.extract (ib + 1) (ib + 1 + k')).push xa, (ia + k) + 1, (ib + 1 + k'), _, _, _, rfl, by rw [Array.toList_push]; exact g4, by omega, by omega, by omega⟩⟩
                        · exact wpS_pure ⟨q2, (((out ++ a.extract ia (ia + k)).push xb) ++ b.extract (ib + 1) (ib + 1 + k')).push xa, (ia + k) + 1, (ib + 1 + k'), _, _, _, rfl, by rw [Array.toList_push]; exact g4, by omega, by omega, by omega⟩

                  · obtain rfl : k' = 0 := by omega
                    have m4 := m5
                    have g3 : Mg lt a.toList b.toList ((out ++ a.extract ia (ia + k)).push xb).toList (ia + k) (ib + 1) := by
                      rw [Array.toList_push]
                      exact g2
                    refine wpS_bind (el_ok ha ?_)
                    have g4 := g3.takeA C.wo sa sb la m4
                    refine wpS_if (c := ((ia + k) + 1 + 1 == a.size)) (fun c7 => ?_) (fun c7 => ?_)
                    · refine wpS_pure ⟨q2, .inr ⟨_, rfl, ?_⟩⟩
                      have c8 : (ia + k) + 1 + 1 = a.toList.length := by rw [← za]; exact eq_of_beq c7
                      have := g4.lastA sb c8 fun x hx => hl x (by rw [← c8]; exact hx)
                      simp only [Array.toList_append, Array.toList_push, ext_end, ext_to] at this ⊢
                      exact this
                    · have c8 := beq_no c7
                      refine wpS_if (fun _ => ?_) (fun _ => ?_)
                      · exact wpS_pure ⟨q2, .inl ⟨((out ++ a.extract ia (ia + k)).push xb).push xa, (ia + k) + 1, (ib + 1), _, _, _, rfl, by rw [Array.toList_push]; exact g4, by omega, by omega, by omega⟩⟩
                      · exact wpS_pure ⟨q2, ((out ++ a.extract ia (ia + k)).push xb).push xa, (ia + k) + 1, (ib + 1), _, _, _, rfl, by rw [Array.toList_push]; exact g4, by omega, by omega, by omega⟩


            · obtain rfl : k = 0 := by omega
              have m4' := m3
              have g1 := g
              refine wpS_bind (el_ok hb ?_)
              have g2 := g1.takeB C.wo sa sb lb fun y hy => C.wo.asym _ _ (m4' y hy)
              refine wpS_if (c := (ib + 1 == b.size)) (fun c5 => ?_) (fun c5 => ?_)
              · refine wpS_pure ⟨q2, .inr ⟨_, rfl, ?_⟩⟩
                have := g2.done sa sb (.inr (by rw [← zb, ← eq_of_beq c5]; exact Nat.le_refl _))
                simp only [Array.toList_append, Array.toList_push, ext_end, ext_to] at this ⊢
                exact this
              · have c6 := beq_no c5
                obtain ⟨xa, ha, da, la⟩ := ea (ia) (by omega)
                refine wpS_bind (el_ok ha ?_)
                refine wpS_bind (gallop_ok (left := true) (base := ib + 1) (n := b.size - (ib + 1)) (hint := 0) C da (fun i hi => let ⟨x, h1, h2, _⟩ := eb (ib + 1 + i) (by omega); ⟨x, h1, h2⟩) (by omega) (q2.1.trans hs) (byd_mono C sb (by omega)) fun k' hk' k1' k2' => ?_)
                have f2 : ∀ i, i < k' → ∀ x y, b.toList[ib + 1 + i]? = some x → a.toList[ia]? = some y → lt y x = false := fun i hi x y hx hy => by
                  have := k1' i hi
                  rw [byd_left hx] at this
                  rw [la] at hy
                  cases hy
                  exact C.wo.asym _ _ this
                have gk' := g2.takeBs C.wo sa sb k' (by omega) f2
                have m5 : ∀ y, b.toList[ib + 1 + k']? = some y → lt y xa = false := fun y hy => by
                  have := k2' k' (Nat.le_refl _) (by have := (List.getElem?_eq_some_iff.mp hy).1; omega)
                  rw [byd_left hy] at this
                  exact this
                refine wpS_gt (k := k') (n := 0) (fun k0' => ?_) (fun k0' => ?_)
                · refine wpS_if (c := (ib + 1 + k' == b.size)) (fun c9 => ?_) (fun c9 => ?_)
                  · refine wpS_pure ⟨q2, .inr ⟨_, rfl, ?_⟩⟩
                    have := gk'.done sa sb (.inr (by rw [← zb, ← eq_of_beq c9]; exact Nat.le_refl _))
                    simp only [Array.toList_append, Array.toList_push, ext_end, ext_to] at this ⊢
                    exact this
                  · have c9' := beq_no c9
                    have m4 := m5
                    have g3 : Mg lt a.toList b.toList ((out.push xb) ++ b.extract (ib + 1) (ib + 1 + k')).toList (ia) (ib + 1 + k') := by
                      simp only [Array.toList_append, Array.toList_push, ext_end, ext_to] at gk' ⊢
                      exact gk'
                    refine wpS_bind (el_ok ha ?_)
                    have g4 := g3.takeA C.wo sa sb la m4
                    refine wpS_if (c := ((ia) + 1 + 1 == a.size)) (fun c7 => ?_) (fun c7 => ?_)
                    · refine wpS_pure ⟨q2, .inr ⟨_, rfl, ?_⟩⟩
                      have c8 : (ia) + 1 + 1 = a.toList.length := by rw [← za]; exact eq_of_beq c7
                      have := g4.lastA sb c8 fun x hx => hl x (by rw [← c8]; exact hx)
                      simp only [Array.toList_append, Array.toList_push, ext_end, ext_to] at this ⊢
                      exact this
                    · have c8 := beq_no c7
                      refine wpS_if (fun _ => ?_) (fun _ => ?_)
                      · exact wpS_pure ⟨q2, .inl ⟨((out.push xb) ++ b.extract (ib + 1) (ib + 1 + k')).push xa, (ia) + 1, (ib + 1 + k'), _, _, _, rfl, by rw [Array.toList_push]; exact g4, by omega, by omega, by omega⟩⟩
                      · exact wpS_pure ⟨q2, ((out.push xb) ++ b.extract (ib + 1) (ib + 1 + k')).push xa, (ia) + 1, (ib + 1 + k'), _, _, _, rfl, by rw [Array.toList_push]; exact g4, by omega, by omega, by omega⟩

                · obtain rfl : k' = 0 := by omega
                  have m4 := m5
                  have g3 : Mg lt a.toList b.toList (out.push xb).toList (ia) (ib + 1) := by
                    rw [Array.toList_push]
                    exact g2
                  refine wpS_bind (el_ok ha ?_)
                  have g4 := g3.takeA C.wo sa sb la m4
                  refine wpS_if (c := ((ia) + 1 + 1 == a.size)) (fun c7 => ?_) (fun c7 => ?_)
                  · refine wpS_pure ⟨q2, .inr ⟨_, rfl, ?_⟩⟩
                    have c8 : (ia) + 1 + 1 = a.toList.length := by rw [← za]; exact eq_of_beq c7
                    have := g4.lastA sb c8 fun x hx => hl x (by rw [← c8]; exact hx)
                    simp only [Array.toList_append, Array.toList_push, ext_end, ext_to] at this ⊢
                    exact this
                  · have c8 := beq_no c7
                    refine wpS_if (fun _ => ?_) (fun _ => ?_)
                    · exact wpS_pure ⟨q2, .inl ⟨(out.push xb).push xa, (ia) + 1, (ib + 1), _, _, _, rfl, by rw [Array.toList_push]; exact g4, by omega, by omega, by omega⟩⟩
                    · exact wpS_pure ⟨q2, (out.push xb).push xa, (ia) + 1, (ib + 1), _, _, _, rfl, by rw [Array.toList_push]; exact g4, by omega, by omega, by omega⟩)
        · rintro c st' ⟨q2, out, ia, ib, mg, ac, bc, rfl, g, l1, l2, l3⟩
          omega
        · rintro c st' ⟨q2, ⟨out, ia, ib, mg, ac, bc, rfl, g, l1, l2, l3⟩ | ⟨r, hr, hm⟩⟩
          · exact wpS_bind (wpS_modify (wpS_pure ⟨_, _, _, _, rfl, g, l1, l2, l3, q2⟩))
          · obtain ⟨c1, c2⟩ := c
            dsimp only at hr
            subst hr
            exact wpS_pure ⟨r, rfl, hm, q2⟩
      · obtain ⟨c1, c2⟩ := c
        dsimp only at hr
        subst hr
        exact wpS_pure ⟨r, rfl, hm, q1⟩
  · rintro c st' ⟨out, ia, ib, mg, rfl, g, l1, l2, l3, q1⟩
    omega
  · rintro c st' ⟨r, hr, hm, q1⟩
    obtain ⟨c1, c2⟩ := c
    dsimp only at hr
    subst hr
    exact wpS_pure (h r st' hm q1)
end
end L2

namespace L2
open PySem PySem.Spec PyProof.Rows
section
variable {prog : Program} {w : World} {A : Around} {E : Value → Shared → Prop} {s : Shared} {kd : SortKind} {D : Keyed → Prop} {lt : Keyed → Keyed → Bool}
theorem rev_at {l : List Keyed} {n : Nat} (h0 : 0 < n) (h : n ≤ l.length) : l.reverse[l.length - n]? = l[n - 1]? := by
  rw [List.getElem?_reverse (by omega)]; congr 1; omega
theorem rev_drop {l : List Keyed} {n : Nat} (h : n ≤ l.length) : l.reverse.drop (l.length - n) = (l.take n).reverse := by
  rw [List.drop_reverse]; congr 2; omega
theorem rev_take {l : List Keyed} {n m : Nat} (h : n ≤ l.length) (hm : m ≤ n) : (l.reverse.drop (l.length - n)).take (n - m) = ((l.drop m).take (n - m)).reverse := by
  rw [rev_drop h, List.take_reverse, List.length_take, Nat.min_eq_left h, List.drop_take]
  congr 2
  · omega
  · congr 1; omega
theorem mgd_rev {a b r : List Keyed} (h : Mgd (fun x y => lt y x) b.reverse a.reverse r) : Mgd lt a b r.reverse := by
  refine ⟨List.pairwise_reverse.mpr h.1, ?_⟩
  refine (List.reverse_perm r).trans (h.2.trans ?_)
  refine ((List.reverse_perm b).append (List.reverse_perm a)).trans ?_
  exact List.perm_append_comm
/-- merged so far, from the end: na of a and nb of b are left -/
def Mh (lt : Keyed → Keyed → Bool) (a b : List Keyed) (out : List Keyed) (na nb : Nat) : Prop := Mg (fun x y => lt y x) b.reverse a.reverse out (b.length - nb) (a.length - na)
theorem Mh.done {a b out : List Keyed} {na nb : Nat} (g : Mh lt a b out na nb) (sa : Srt lt a) (sb : Srt lt b) (ha : na ≤ a.length) (hb : nb ≤ b.length) (h : na = 0 ∨ nb = 0) : Mgd lt a b (a.take na ++ b.take nb ++ out.reverse) := by
  have := mgd_rev (Mg.done (lt := fun x y => lt y x) g (List.pairwise_reverse.mpr sb) (List.pairwise_reverse.mpr sa) (by rw [List.length_reverse, List.length_reverse]; omega))
  rw [rev_drop ha, rev_drop hb] at this
  simpa using this
theorem Mh.firstB {a b out : List Keyed} {na nb : Nat} (g : Mh lt a b out na nb) (sa : Srt lt a) (ha : na ≤ a.length) (hb : nb ≤ b.length) (h : nb = 1) (hf : ∀ x, b[0]? = some x → ∀ y ∈ a, lt y x = false) : Mgd lt a b (b.take nb ++ a.take na ++ out.reverse) := by
  have := mgd_rev (Mg.lastA (lt := fun x y => lt y x) g (List.pairwise_reverse.mpr sa) (by rw [List.length_reverse]; omega) fun x hx y hy => by
    rw [rev_at (by omega) hb, h] at hx
    exact hf x hx y (by simpa using hy))
  rw [rev_drop ha, rev_drop hb] at this
  simpa using this
theorem Mh.takeA (C : Wo lt) {a b out : List Keyed} {na nb : Nat} (g : Mh lt a b out na nb) (sa : Srt lt a) (sb : Srt lt b) (h0 : 0 < na) (ha : na ≤ a.length) (hb : nb ≤ b.length) {x : Keyed} (e : a[na - 1]? = some x) (h : 0 < nb → ∀ y, b[nb - 1]? = some y → lt x y = false) : Mh lt a b (out ++ [x]) (na - 1) nb := by
  have := Mg.takeB (lt := fun x y => lt y x) C.flip g (List.pairwise_reverse.mpr sb) (List.pairwise_reverse.mpr sa) (x := x) (by rw [rev_at h0 ha]; exact e) fun y hy => by
    have hp : 0 < nb := by
      have := (List.getElem?_eq_some_iff.mp hy).1
      rw [List.length_reverse] at this
      omega
    rw [rev_at hp hb] at hy
    exact h hp y hy
  unfold Mh
  rw [show a.length - (na - 1) = a.length - na + 1 by omega]
  exact this
theorem Mh.takeB (C : Wo lt) {a b out : List Keyed} {na nb : Nat} (g : Mh lt a b out na nb) (sa : Srt lt a) (sb : Srt lt b) (h0 : 0 < nb) (ha : na ≤ a.length) (hb : nb ≤ b.length) {x : Keyed} (e : b[nb - 1]? = some x) (h : 0 < na → ∀ y, a[na - 1]? = some y → lt x y = false) : Mh lt a b (out ++ [x]) na (nb - 1) := by
  have := Mg.takeA (lt := fun x y => lt y x) C.flip g (List.pairwise_reverse.mpr sb) (List.pairwise_reverse.mpr sa) (x := x) (by rw [rev_at h0 hb]; exact e) fun y hy => by
    have hp : 0 < na := by
      have := (List.getElem?_eq_some_iff.mp hy).1
      rw [List.length_reverse] at this
      omega
    rw [rev_at hp ha] at hy
    exact h hp y hy
  unfold Mh
  rw [show b.length - (nb - 1) = b.length - nb + 1 by omega]
  exact this
theorem Mh.takeAs (C : Wo lt) {a b out : List Keyed} {na nb : Nat} (g : Mh lt a b out na nb) (sa : Srt lt a) (sb : Srt lt b) (ha : na ≤ a.length) (hb : nb ≤ b.length) {m : Nat} (hm : m ≤ na) (h : ∀ i, m ≤ i → i < na → ∀ x y, a[i]? = some x → b[nb - 1]? = some y → lt x y = false) : Mh lt a b (out ++ ((a.drop m).take (na - m)).reverse) m nb := by
  have := Mg.takeBs (lt := fun x y => lt y x) C.flip (List.pairwise_reverse.mpr sb) (List.pairwise_reverse.mpr sa) g (na - m) (by rw [List.length_reverse]; omega) fun i hi x y hx hy => by
    have hp : 0 < nb := by
      have := (List.getElem?_eq_some_iff.mp hy).1
      rw [List.length_reverse] at this
      omega
    rw [rev_at hp hb] at hy
    rw [show a.length - na + i = a.length - (na - i) by omega, rev_at (by omega) (by omega)] at hx
    exact h (na - i - 1) (by omega) (by omega) x y hx hy
  unfold Mh
  rw [rev_take ha hm] at this
  rw [show a.length - m = a.length - na + (na - m) by omega]
  exact this
theorem Mh.takeBs (C : Wo lt) {a b out : List Keyed} {na nb : Nat} (g : Mh lt a b out na nb) (sa : Srt lt a) (sb : Srt lt b) (ha : na ≤ a.length) (hb : nb ≤ b.length) {m : Nat} (hm : m ≤ nb) (h : ∀ i, m ≤ i → i < nb → ∀ x y, b[i]? = some x → a[na - 1]? = some y → lt x y = false) : Mh lt a b (out ++ ((b.drop m).take (nb - m)).reverse) na m := by
  have := Mg.takeAs (lt := fun x y => lt y x) C.flip (List.pairwise_reverse.mpr sb) (List.pairwise_reverse.mpr sa) g (nb - m) (by rw [List.length_reverse]; omega) fun i hi x y hx hy => by
    have hp : 0 < na := by
      have := (List.getElem?_eq_some_iff.mp hy).1
      rw [List.length_reverse] at this
      omega
    rw [rev_at hp ha] at hy
    rw [show b.length - nb + i = b.length - (nb - i) by omega, rev_at (by omega) (by omega)] at hx
    exact h (nb - i - 1) (by omega) (by omega) x y hx hy
  unfold Mh
  rw [rev_take hb hm] at this
  rw [show b.length - m = b.length - nb + (nb - m) by omega]
  exact this
theorem ext_fromto {l : Array Keyed} {m n : Nat} : (l.extract m n).toList = (l.toList.drop m).take (n - m) := by
  rw [Array.toList_extract, List.extract_eq_take_drop]
theorem ext_0 {l : Array Keyed} {n : Nat} : (l.extract 0 n).toList = l.toList.take n := by
  rw [Array.toList_extract, List.extract_eq_take_drop]; simp
theorem mergeHi_ok (C : Cmp prog w A E s kd D lt) {a b : Array Keyed} {st : SortSt} {Q : Array Keyed → SortSt → Prop} (hda : ∀ x ∈ a.toList, D x) (hdb : ∀ x ∈ b.toList, D x) (sa : Srt lt a.toList) (sb : Srt lt b.toList) (hs : kindOf st = kd)
    (na0 : 0 < a.toList.length) (nb0 : 0 < b.toList.length) (hf : ∀ x y, a.toList[0]? = some x → b.toList[0]? = some y → lt x y = false) (hl : ∀ x, a.toList[a.toList.length - 1]? = some x → ∀ y ∈ b.toList, lt x y = false)
    (h : ∀ r st', Mgd lt a.toList b.toList r.toList → Eqg st st' → Q r st') : wpS (model prog w) A E s (mergeHi_ a b) Q st := by
  have za : a.size = a.toList.length := by simp
  have zb : b.size = b.toList.length := by simp
  have ea : ∀ i, i < a.toList.length → ∃ x, a[i]? = some x ∧ D x ∧ a.toList[i]? = some x := fun i hi => ⟨a.toList[i], by rw [← Array.getElem?_toList]; exact List.getElem?_eq_getElem hi, hda _ (List.getElem_mem hi), List.getElem?_eq_getElem hi⟩
  have eb : ∀ i, i < b.toList.length → ∃ x, b[i]? = some x ∧ D x ∧ b.toList[i]? = some x := fun i hi => ⟨b.toList[i], by rw [← Array.getElem?_toList]; exact List.getElem?_eq_getElem hi, hdb _ (List.getElem_mem hi), List.getElem?_eq_getElem hi⟩
  have hfb : ∀ x, b.toList[0]? = some x → ∀ y ∈ a.toList, lt y x = false := fun x hx y hy => by
    obtain ⟨i, hi, rfl⟩ := List.getElem_of_mem hy
    obtain ⟨a0, _, _, la0⟩ := ea 0 na0
    exact C.wo.leT (hf a0 x la0 hx) (srt_get C.wo sa la0 (List.getElem?_eq_getElem hi) (Nat.zero_le _))
  refine wpS_bind (wpS_lift (wpAny_rule ⟨rfl, ?_⟩))
  obtain ⟨x0, hx0, dx0, lx0⟩ := ea (a.size - 1) (by omega)
  refine wpS_bind (el_ok hx0 ?_)
  have g0 : Mh lt a.toList b.toList [x0] (a.size - 1) b.size := by
    have g : Mh lt a.toList b.toList [] a.toList.length b.toList.length := ⟨.nil, by
      simp only [Nat.sub_self, List.drop_zero, List.nil_append]
      exact List.Perm.refl _, fun p hp => (by cases hp)⟩
    have := g.takeA C.wo sa sb na0 (Nat.le_refl _) (Nat.le_refl _) (by rw [← za]; exact lx0) fun _ y hy => hl x0 (by rw [← za]; exact lx0) y (List.mem_of_getElem? hy)
    rw [za, zb]
    exact this
  show wpS _ _ _ _ (if (a.size - 1 == 0) = true then _ else if (b.size == 1) = true then _ else _) _ _
  refine wpS_if (fun c1 => ?_) (fun c1 => wpS_if (fun c2 => ?_) (fun c2 => ?_))
  · refine wpS_pure (h _ st ?_ (Eqg.refl st))
    have := g0.done sa sb (by omega) (by omega) (.inl (eq_of_beq c1))
    simp only [Array.toList_append, Array.toList_reverse, ext_0] at this ⊢
    exact this
  · refine wpS_pure (h _ st ?_ (Eqg.refl st))
    have := g0.firstB sa (by omega) (by omega) (eq_of_beq c2) hfb
    simp only [Array.toList_append, Array.toList_reverse, ext_0] at this ⊢
    exact this
  have c1' := beq_no c1
  have c2' := beq_no c2
  refine wpS_bind (wpS_get ?_)
  refine wpS_bind (wpS_mono (wpS_forRange (I := fun x c st' => ∃ (out : Array Keyed) (na nb mg : Nat), c = (none, na, nb, out, mg) ∧ Mh lt a.toList b.toList out.toList na nb ∧ 0 < na ∧ na ≤ a.toList.length ∧ 1 < nb ∧ nb ≤ b.toList.length ∧ x + na + nb ≤ a.size + b.size ∧ Eqg st st')
    (Q := fun c st' => ∃ r, c.1 = some r ∧ Mgd lt a.toList b.toList r.toList ∧ Eqg st st') ?_ ?_ ⟨#[x0], a.size - 1, b.size, _, rfl, g0, by omega, by omega, by omega, by omega, by omega, Eqg.refl st⟩) ?_)
  · rintro x c st1 _ hx ⟨out, na, nb, mg, rfl, g, l1, l1', l2, l2', l3, q1⟩
    refine wpS_bind (wpS_mono (wpS_forRange (I := fun y c st' => st' = st1 ∧ ∃ (out : Array Keyed) (na nb ac bc : Nat), c = (none, na, nb, out, ac, bc) ∧ Mh lt a.toList b.toList out.toList na nb ∧ 0 < na ∧ na ≤ a.toList.length ∧ 1 < nb ∧ nb ≤ b.toList.length ∧ x + y + na + nb ≤ a.size + b.size)
      (Q := fun c st' => st' = st1 ∧ ((∃ (out : Array Keyed) (na nb ac bc : Nat), c = (none, na, nb, out, ac, bc) ∧ Mh lt a.toList b.toList out.toList na nb ∧ 0 < na ∧ na ≤ a.toList.length ∧ 1 < nb ∧ nb ≤ b.toList.length ∧ x + 1 + na + nb ≤ a.size + b.size) ∨ ∃ r, c.1 = some r ∧ Mgd lt a.toList b.toList r.toList)) ?_ ?_ ⟨rfl, out, na, nb, 0, 0, rfl, g, l1, l1', l2, l2', l3⟩) ?_)
    · rintro y c st' _ hy ⟨rfl, out, na, nb, ac, bc, rfl, g, l1, l1', l2, l2', l3⟩
      obtain ⟨xb, hb, db, lb⟩ := eb (nb - 1) (by omega)
      obtain ⟨xa, ha, da, la⟩ := ea (na - 1) (by omega)
      refine wpS_bind (el_ok hb (wpS_bind (el_ok ha (wpS_bind (C.cmp xb xa _ _ db da (q1.1.trans hs) ?_)))))
      cases e : lt xb xa with
      | true =>
        refine wpS_bind (el_ok ha ?_)
        have g' := g.takeA C.wo sa sb l1 l1' l2' la fun _ y hy => by rw [lb] at hy; cases hy; exact C.wo.asym _ _ e
        refine wpS_if (c := (na - 1 == 0)) (fun c3 => ?_) (fun c3 => ?_)
        · refine wpS_pure ⟨rfl, .inr ⟨_, rfl, ?_⟩⟩
          have := g'.done sa sb (by omega) l2' (.inl (eq_of_beq c3))
          simp only [Array.toList_append, Array.toList_push, Array.toList_reverse, ext_0, ext_fromto] at this ⊢
          exact this
        · have c4 := beq_no c3
          dsimp only
          split
          · exact wpS_pure ⟨rfl, .inl ⟨out.push xa, na - 1, nb, _, _, rfl, by rw [Array.toList_push]; exact g', by omega, by omega, l2, l2', by omega⟩⟩
          · exact wpS_pure ⟨rfl, out.push xa, na - 1, nb, _, _, rfl, by rw [Array.toList_push]; exact g', by omega, by omega, l2, l2', by omega⟩
      | false =>
        refine wpS_bind (el_ok hb ?_)
        have g' := g.takeB C.wo sa sb (by omega) l1' l2' lb fun _ y hy => by rw [la] at hy; cases hy; exact e
        refine wpS_if (c := (nb - 1 == 1)) (fun c3 => ?_) (fun c3 => ?_)
        · refine wpS_pure ⟨rfl, .inr ⟨_, rfl, ?_⟩⟩
          have := g'.firstB sa l1' (by omega) (eq_of_beq c3) hfb
          simp only [Array.toList_append, Array.toList_push, Array.toList_reverse, ext_0, ext_fromto] at this ⊢
          exact this
        · have c4 := beq_no c3
          dsimp only
          split
          · exact wpS_pure ⟨rfl, .inl ⟨out.push xb, na, nb - 1, _, _, rfl, by rw [Array.toList_push]; exact g', l1, l1', by omega, by omega, by omega⟩⟩
          · exact wpS_pure ⟨rfl, out.push xb, na, nb - 1, _, _, rfl, by rw [Array.toList_push]; exact g', l1, l1', by omega, by omega, by omega⟩
    · rintro c st' ⟨rfl, out, na, nb, ac, bc, rfl, g, l1, l1', l2, l2', l3⟩
      omega
    · rintro c st' ⟨rfl, ⟨out, na, nb, ac, bc, rfl, g, l1, l1', l2, l2', l3⟩ | ⟨r, hr, hm⟩⟩
      · refine wpS_bind (wpS_lift (wpAny_rule ⟨rfl, ?_⟩))
        refine wpS_bind (wpS_mono (wpS_forRange (I := fun y c st' => Eqg st st' ∧ ∃ (out : Array Keyed) (na nb mg ac bc : Nat), c = (none, na, nb, out, mg, ac, bc) ∧ Mh lt a.toList b.toList out.toList na nb ∧ 0 < na ∧ na ≤ a.toList.length ∧ 1 < nb ∧ nb ≤ b.toList.length ∧ x + 1 + y + na + nb ≤ a.size + b.size)
          (Q := fun c st' => Eqg st st' ∧ ((∃ (out : Array Keyed) (na nb mg ac bc : Nat), c = (none, na, nb, out, mg, ac, bc) ∧ Mh lt a.toList b.toList out.toList na nb ∧ 0 < na ∧ na ≤ a.toList.length ∧ 1 < nb ∧ nb ≤ b.toList.length ∧ x + 1 + na + nb ≤ a.size + b.size) ∨ ∃ r, c.1 = some r ∧ Mgd lt a.toList b.toList r.toList)) ?_ ?_ ⟨q1, out, na, nb, _, ac, bc, rfl, g, l1, l1', l2, l2', l3⟩) ?_)
        · rintro y c st2 _ hy ⟨q2, out, na, nb, mg, ac, bc, rfl, g, l1, l1', l2, l2', l3⟩
          obtain ⟨xb, hb, db, lb⟩ := eb (nb - 1) (by omega)
          refine wpS_gt (k := mg) (n := 1) (fun _ => ?_) (fun _ => ?_)
          all_goals (
            refine wpS_bind (wpS_modify ?_)
            refine wpS_bind (el_ok hb ?_)
            refine wpS_bind (gallop_ok (left := false) (arr := a) (base := 0) (n := na) (hint := na - 1) C db (fun i hi => let ⟨x, h1, h2, _⟩ := ea (0 + i) (by omega); ⟨x, h1, h2⟩) (by omega) (q2.1.trans hs) (byd_mono C sa (by omega)) fun k hk k1 k2 => ?_)
            have gk := g.takeAs C.wo sa sb (by omega) (by omega) (m := k) (by omega) fun i h1 h2 x y hx hy => by
              have := k2 i h1 h2
              rw [byd_right (by rw [Nat.zero_add]; exact hx)] at this
              rw [lb] at hy
              cases hy
              exact C.wo.asym _ _ (by simpa using this)
            have m3 : 0 < k → ∀ y, a.toList[k - 1]? = some y → lt xb y = false := fun hp y hy => by
              have := k1 (k - 1) (by omega)
              rw [byd_right (by rw [Nat.zero_add]; exact hy)] at this
              simpa using this
            refine wpS_gt (k := na - k) (n := 0) (fun k0 => ?_) (fun k0 => ?_)
            · refine wpS_if (c := (k == 0)) (fun c3 => ?_) (fun c3 => ?_)
              · refine wpS_pure ⟨q2, .inr ⟨_, rfl, ?_⟩⟩
                have := gk.done sa sb (by omega) (by omega) (.inl (eq_of_beq c3))
                simp only [Array.toList_append, Array.toList_push, Array.toList_reverse, ext_0, ext_fromto] at this ⊢
                exact this
              · have c3' := beq_no c3
                have g1 : Mh lt a.toList b.toList (out ++ (a.extract k na).reverse).toList k nb := by
                  simp only [Array.toList_append, Array.toList_push, Array.toList_reverse, ext_0, ext_fromto] at gk ⊢
                  exact gk
                refine wpS_bind (el_ok hb ?_)
                have g2 := g1.takeB C.wo sa sb (by omega) (by omega) (by omega) lb m3
                refine wpS_if (c := (nb - 1 == 1)) (fun c5 => ?_) (fun c5 => ?_)
                · refine wpS_pure ⟨q2, .inr ⟨_, rfl, ?_⟩⟩
                  have := g2.firstB sa (by omega) (by omega) (eq_of_beq c5) hfb
                  simp only [Array.toList_append, Array.toList_push, Array.toList_reverse, ext_0, ext_fromto] at this ⊢
                  exact this
                · have c6 := beq_no c5
                  obtain ⟨xa, ha, da, la⟩ := ea (k - 1) (by omega)
                  refine wpS_bind (el_ok ha ?_)
                  refine wpS_bind (gallop_ok (left := true) (arr := b) (base := 0) (n := nb - 1) (hint := nb - 1 - 1) C da (fun i hi => let ⟨x, h1, h2, _⟩ := eb (0 + i) (by omega); ⟨x, h1, h2⟩) (by omega) (q2.1.trans hs) (byd_mono C sb (by omega)) fun k' hk' k1' k2' => ?_)
                  have gk' := g2.takeBs C.wo sa sb (by omega) (by omega) (m := k') (by omega) fun i h1 h2 x y hx hy => by
                    have := k2' i h1 h2
                    rw [byd_left (by rw [Nat.zero_add]; exact hx)] at this
                    rw [la] at hy
                    cases hy
                    exact this
                  have m5 : 0 < k' → ∀ y, b.toList[k' - 1]? = some y → lt xa y = false := fun hp y hy => by
                    have := k1' (k' - 1) (by omega)
                    rw [byd_left (by rw [Nat.zero_add]; exact hy)] at this
                    exact C.wo.asym _ _ this
                  refine wpS_gt (k := nb - 1 - k') (n := 0) (fun k0' => ?_) (fun k0' => ?_)
                  · refine wpS_if (c := (k' == 1)) (fun c9 => ?_) (fun c9 => wpS_if (c := (k' == 0)) (fun c10 => ?_) (fun c10 => ?_))
                    · refine wpS_pure ⟨q2, .inr ⟨_, rfl, ?_⟩⟩
                      have := gk'.firstB sa (by omega) (by omega) (eq_of_beq c9) hfb
                      simp only [Array.toList_append, Array.toList_push, Array.toList_reverse, ext_0, ext_fromto] at this ⊢
                      exact this
                    · refine wpS_pure ⟨q2, .inr ⟨_, rfl, ?_⟩⟩
                      have := gk'.done sa sb (by omega) (by omega) (.inr (eq_of_beq c10))
                      simp only [Array.toList_append, Array.toList_push, Array.toList_reverse, ext_0, ext_fromto] at this ⊢
                      exact this
                    · have c9' := beq_no c9
                      have c10' := beq_no c10
                      have m4 := m5
                      have g3 : Mh lt a.toList b.toList (((out ++ (a.extract k na).reverse).push xb) ++ (b.extract k' (nb - 1)).reverse).toList (k) k' := by
                        simp only [Array.toList_append, Array.toList_push, Array.toList_reverse, ext_0, ext_fromto] at gk' ⊢
                        exact gk'
                      refine wpS_bind (el_ok ha ?_)
                      have g4 := g3.takeA C.wo sa sb (by omega) (by omega) (by omega) la m4
                      refine wpS_if (c := ((k) - 1 == 0)) (fun c7 => ?_) (fun c7 => ?_)
                      · refine wpS_pure ⟨q2, .inr ⟨_, rfl, ?_⟩⟩
                        have := g4.done sa sb (by omega) (by omega) (.inl (eq_of_beq c7))
                        simp only [Array.toList_append, Array.toList_push, Array.toList_reverse, ext_0, ext_fromto] at this ⊢
                        exact this
                      · have c8 := beq_no c7
                        refine wpS_if (fun _ => ?_) (fun _ => ?_)
                        · exact wpS_pure ⟨q2, .inl ⟨(((out ++ (a.extract k na).reverse).push xb) ++ (b.extract k' (nb - 1)).reverse).push xa, (k) - 1, k', _, _, _, rfl, by rw [Array.toList_push]; exact g4, by omega, by omega, by omega, by omega, by omega⟩⟩
                        · exact wpS_pure ⟨q2, (((out ++ (a.extract k na).reverse).push xb) ++ (b.extract k' (nb - 1)).reverse).push xa, (k) - 1, k', _, _, _, rfl, by rw [Array.toList_push]; exact g4, by omega, by omega, by omega, by omega, by omega⟩

                  · obtain rfl : k' = nb - 1 := by omega
                    have m4 := m5
                    have g3 : Mh lt a.toList b.toList ((out ++ (a.extract k na).reverse).push xb).toList (k) (nb - 1) := by
                      rw [Array.toList_push]
                      exact g2
                    refine wpS_bind (el_ok ha ?_)
                    have g4 := g3.takeA C.wo sa sb (by omega) (by omega) (by omega) la m4
                    refine wpS_if (c := ((k) - 1 == 0)) (fun c7 => ?_) (fun c7 => ?_)
                    · refine wpS_pure ⟨q2, .inr ⟨_, rfl, ?_⟩⟩
                      have := g4.done sa sb (by omega) (by omega) (.inl (eq_of_beq c7))
                      simp only [Array.toList_append, Array.toList_push, Array.toList_reverse, ext_0, ext_fromto] at this ⊢
                      exact this
                    · have c8 := beq_no c7
                      refine wpS_if (fun _ => ?_) (fun _ => ?_)
                      · exact wpS_pure ⟨q2, .inl ⟨((out ++ (a.extract k na).reverse).push xb).push xa, (k) - 1, (nb - 1), _, _, _, rfl, by rw [Array.toList_push]; exact g4, by omega, by omega, by omega, by omega, by omega⟩⟩
                      · exact wpS_pure ⟨q2, ((out ++ (a.extract k na).reverse).push xb).push xa, (k) - 1, (nb - 1), _, _, _, rfl, by rw [Array.toList_push]; exact g4, by omega, by omega, by omega, by omega, by omega⟩


            · obtain rfl : k = na := by omega
              have g1 := g
              refine wpS_bind (el_ok hb ?_)
              have g2 := g1.takeB C.wo sa sb (by omega) (by omega) (by omega) lb m3
              refine wpS_if (c := (nb - 1 == 1)) (fun c5 => ?_) (fun c5 => ?_)
              · refine wpS_pure ⟨q2, .inr ⟨_, rfl, ?_⟩⟩
                have := g2.firstB sa (by omega) (by omega) (eq_of_beq c5) hfb
                simp only [Array.toList_append, Array.toList_push, Array.toList_reverse, ext_0, ext_fromto] at this ⊢
                exact this
              · have c6 := beq_no c5
                obtain ⟨xa, ha, da, la⟩ := ea (k - 1) (by omega)
                refine wpS_bind (el_ok ha ?_)
                refine wpS_bind (gallop_ok (left := true) (arr := b) (base := 0) (n := nb - 1) (hint := nb - 1 - 1) C da (fun i hi => let ⟨x, h1, h2, _⟩ := eb (0 + i) (by omega); ⟨x, h1, h2⟩) (by omega) (q2.1.trans hs) (byd_mono C sb (by omega)) fun k' hk' k1' k2' => ?_)
                have gk' := g2.takeBs C.wo sa sb (by omega) (by omega) (m := k') (by omega) fun i h1 h2 x y hx hy => by
                  have := k2' i h1 h2
                  rw [byd_left (by rw [Nat.zero_add]; exact hx)] at this
                  rw [la] at hy
                  cases hy
                  exact this
                have m5 : 0 < k' → ∀ y, b.toList[k' - 1]? = some y → lt xa y = false := fun hp y hy => by
                  have := k1' (k' - 1) (by omega)
                  rw [byd_left (by rw [Nat.zero_add]; exact hy)] at this
                  exact C.wo.asym _ _ this
                refine wpS_gt (k := nb - 1 - k') (n := 0) (fun k0' => ?_) (fun k0' => ?_)
                · refine wpS_if (c := (k' == 1)) (fun c9 => ?_) (fun c9 => wpS_if (c := (k' == 0)) (fun c10 => ?_) (fun c10 => ?_))
                  · refine wpS_pure ⟨q2, .inr ⟨_, rfl, ?_⟩⟩
                    have := gk'.firstB sa (by omega) (by omega) (eq_of_beq c9) hfb
                    simp only [Array.toList_append, Array.toList_push, Array.toList_reverse, ext_0, ext_fromto] at this ⊢
                    exact this
                  · refine wpS_pure ⟨q2, .inr ⟨_, rfl, ?_⟩⟩
                    have := gk'.done sa sb (by omega) (by omega) (.inr (eq_of_beq c10))
                    simp only [Array.toList_append, Array.toList_push, Array.toList_reverse, ext_0, ext_fromto] at this ⊢
                    exact this
                  · have c9' := beq_no c9
                    have c10' := beq_no c10
                    have m4 := m5
                    have g3 : Mh lt a.toList b.toList ((out.push xb) ++ (b.extract k' (nb - 1)).reverse).toList (k) k' := by
                      simp only [Array.toList_append, Array.toList_push, Array.toList_reverse, ext_0, ext_fromto] at gk' ⊢
                      exact gk'
                    refine wpS_bind (el_ok ha ?_)
                    have g4 := g3.takeA C.wo sa sb (by omega) (by omega) (by omega) la m4
                    refine wpS_if (c := ((k) - 1 == 0)) (fun c7 => ?_) (fun c7 => ?_)
                    · refine wpS_pure ⟨q2, .inr ⟨_, rfl, ?_⟩⟩
                      have := g4.done sa sb (by omega) (by omega) (.inl (eq_of_beq c7))
                      simp only [Array.toList_append, Array.toList_push, Array.toList_reverse, ext_0, ext_fromto] at this ⊢
                      exact this
                    · have c8 := beq_no c7
                      refine wpS_if (fun _ => ?_) (fun _ => ?_)
                      · exact wpS_pure ⟨q2, .inl ⟨((out.push xb) ++ (b.extract k' (nb - 1)).reverse).push xa, (k) - 1, k', _, _, _, rfl, by rw [Array.toList_push]; exact g4, by omega, by omega, by omega, by omega, by omega⟩⟩
                      · exact wpS_pure ⟨q2, ((out.push xb) ++ (b.extract k' (nb - 1)).reverse).push xa, (k) - 1, k', _, _, _, rfl, by rw [Array.toList_push]; exact g4, by omega, by omega, by omega, by omega, by omega⟩

                · obtain rfl : k' = nb - 1 := by omega
                  have m4 := m5
                  have g3 : Mh lt a.toList b.toList (out.push xb).toList (k) (nb - 1) := by
                    rw [Array.toList_push]
                    exact g2
                  refine wpS_bind (el_ok ha ?_)
                  have g4 := g3.takeA C.wo sa sb (by omega) (by omega) (by omega) la m4
                  refine wpS_if (c := ((k) - 1 == 0)) (fun c7 => ?_) (fun c7 => ?_)
                  · refine wpS_pure ⟨q2, .inr ⟨_, rfl, ?_⟩⟩
                    have := g4.done sa sb (by omega) (by omega) (.inl (eq_of_beq c7))
                    simp only [Array.toList_append, Array.toList_push, Array.toList_reverse, ext_0, ext_fromto] at this ⊢
                    exact this
                  · have c8 := beq_no c7
                    refine wpS_if (fun _ => ?_) (fun _ => ?_)
                    · exact wpS_pure ⟨q2, .inl ⟨(out.push xb).push xa, (k) - 1, (nb - 1), _, _, _, rfl, by rw [Array.toList_push]; exact g4, by omega, by omega, by omega, by omega, by omega⟩⟩
                    · exact wpS_pure ⟨q2, (out.push xb).push xa, (k) - 1, (nb - 1), _, _, _, rfl, by rw [Array.toList_push]; exact g4, by omega, by omega, by omega, by omega, by omega⟩)
        · rintro c st' ⟨q2, out, na, nb, mg, ac, bc, rfl, g, l1, l1', l2, l2', l3⟩
          omega
        · rintro c st' ⟨q2, ⟨out, na, nb, mg, ac, bc, rfl, g, l1, l1', l2, l2', l3⟩ | ⟨r, hr, hm⟩⟩
          · exact wpS_bind (wpS_modify (wpS_pure ⟨out, na, nb, _, rfl, g, l1, l1', l2, l2', l3, q2⟩))
          · obtain ⟨c1, c2⟩ := c
            dsimp only at hr
            subst hr
            exact wpS_pure ⟨r, rfl, hm, q2⟩
      · obtain ⟨c1, c2⟩ := c
        dsimp only at hr
        subst hr
        exact wpS_pure ⟨r, rfl, hm, q1⟩
  · rintro c st' ⟨out, na, nb, mg, rfl, g, l1, l1', l2, l2', l3, q1⟩
    omega
  · rintro c st' ⟨r, hr, hm, q1⟩
    obtain ⟨c1, c2⟩ := c
    dsimp only at hr
    subst hr
    exact wpS_pure (h r st' hm q1)
end
end L2

namespace L2
open PySem PySem.Spec PyProof.Rows
def countRun_ : Nat → Nat → StateT SortSt Sem (Option Nat) := sortPriv% PySem.Builtin.countRun
def binarySort_ : Nat → Nat → Nat → StateT SortSt Sem Bool := sortPriv% PySem.Builtin.binarySort
def sortRuns_ : StateT SortSt Sem Unit := sortPriv% PySem.Builtin.sortRuns
theorem put_back : ∀ (M : List Keyed) (n o : Nat) (arr : Array Keyed) (A B C : List Keyed), arr.toList = A ++ (B ++ C) → A.length = o + n → B.length = M.length →
    ((M.zipIdx n).foldl (fun a x => match x with | (p, j) => a.setIfInBounds (o + j) p) arr).toList = A ++ (M ++ C)
  | [], n, o, arr, A, B, C, h, _, hb => by
    obtain rfl : B = [] := List.length_eq_zero_iff.mp hb
    simpa using h
  | x :: M, n, o, arr, A, [], C, h, _, hb => by cases hb
  | x :: M, n, o, arr, A, y :: B, C, h, ha, hb => by
    rw [List.zipIdx_cons, List.foldl_cons]
    have e : (arr.setIfInBounds (o + n) x).toList = (A ++ [x]) ++ (B ++ C) := by
      rw [Array.toList_setIfInBounds, h, ← ha, List.set_append_right _ _ (Nat.le_refl _), Nat.sub_self]
      simp
    have := put_back M (n + 1) o _ (A ++ [x]) B C e (by simp; omega) (by simpa using hb)
    rw [this]
    simp
section
variable {prog : Program} {w : World} {A : Around} {E : Value → Shared → Prop} {s : Shared} {kd : SortKind} {D : Keyed → Prop} {lt : Keyed → Keyed → Bool}
theorem wpS_set {M : Model} {st st' : SortSt} {Q : PUnit → SortSt → Prop} (h : Q ⟨⟩ st') : wpS M A E s (set st' : StateT SortSt Sem PUnit) Q st := by
  unfold wpS; rw [StateT.run_set]; exact wpAny_pure ⟨rfl, h⟩
theorem byd_seg {left : Bool} {key : Keyed} {arr : Array Keyed} {base i : Nat} {x : Keyed} (e : arr.toList[base + i]? = some x) : byd lt left key arr base i = if left = true then lt x key else !lt key x := by
  cases left with
  | true => rw [byd_left e]; rfl
  | false => rw [byd_right e]; rfl
theorem byd_monoS (C : Wo lt) {left : Bool} {key : Keyed} {arr : Array Keyed} {base : Nat} {X : List Keyed} (hX : ∀ i, i < X.length → arr.toList[base + i]? = X[i]?) (sX : Srt lt X) :
    ∀ i j, i ≤ j → j < X.length → byd lt left key arr base j = true → byd lt left key arr base i = true := fun i j hij hj h => by
  have hi : i < X.length := by omega
  have ei : arr.toList[base + i]? = some X[i] := by rw [hX i hi, List.getElem?_eq_getElem hi]
  have ej : arr.toList[base + j]? = some X[j] := by rw [hX j hj, List.getElem?_eq_getElem hj]
  have le := srt_get C sX (List.getElem?_eq_getElem (by omega : i < X.length)) (List.getElem?_eq_getElem hj) hij
  rw [byd_seg ej] at h
  rw [byd_seg ei]
  cases left with
  | true =>
    simp only [if_true] at h ⊢
    rcases C.neg _ (X[i]'(by omega)) _ h with z | z
    · rw [z] at le; cases le
    · exact z
  | false =>
    simp only [Bool.false_eq_true, if_false] at h ⊢
    cases z : lt key (X[i]'(by omega)) with
    | false => rfl
    | true =>
      rcases C.neg _ (X[j]'hj) _ z with y | y
      · rw [y] at h; cases h
      · rw [y] at le; cases le
theorem mergeAt_ok (C : Cmp prog w A E s kd D lt) {i sa na pw sb nb pw2 : Nat} {st : SortSt} {P X Y S : List Keyed} {Q : Bool → SortSt → Prop}
    (hp1 : (pendingOf st)[i]? = some (sa, na, pw)) (hp2 : (pendingOf st)[i + 1]? = some (sb, nb, pw2)) (hA : (arrOf st).toList = P ++ (X ++ (Y ++ S))) (hsa : sa = P.length) (hna : na = X.length) (hsb : sb = P.length + X.length) (hnb : nb = Y.length)
    (x0 : 0 < X.length) (y0 : 0 < Y.length) (sX : Srt lt X) (sY : Srt lt Y) (hD : ∀ x ∈ (arrOf st).toList, D x) (hk : kindOf st = kd) (hf : failedOf st = none)
    (h : ∀ Z st', Srt lt Z → Z.Perm (X ++ Y) → (arrOf st').toList = P ++ (Z ++ S) → pendingOf st' = ((pendingOf st).setIfInBounds i (sa, na + nb, pw)).eraseIdxIfInBounds (i + 1) → kindOf st' = kd → failedOf st' = none → Q true st') :
    wpS (model prog w) A E s (mergeAt_ i) Q st := by
  subst hsa hna hsb hnb
  have eX : ∀ j, j < X.length → (arrOf st).toList[P.length + j]? = X[j]? := fun j hj => by
    rw [hA, List.getElem?_append_right (by omega), Nat.add_sub_cancel_left, List.getElem?_append_left hj]
  have eY : ∀ j, j < Y.length → (arrOf st).toList[P.length + X.length + j]? = Y[j]? := fun j hj => by
    rw [hA, List.getElem?_append_right (by omega), List.getElem?_append_right (by omega), List.getElem?_append_left (by omega)]
    congr 1; omega
  have dX : ∀ x ∈ X, D x := fun x hx => hD x (by rw [hA]; simp [hx])
  have dY : ∀ x ∈ Y, D x := fun x hx => hD x (by rw [hA]; simp [hx])
  refine wpS_bind (wpS_get ?_)
  rw [show (sortPriv% PySem.Builtin.SortState.pending) st = pendingOf st from rfl, hp1, hp2]
  refine wpS_bind (wpS_set ?_)
  have ey0 : (arrOf st)[P.length + X.length]? = some (Y[0]'y0) := by
    have := eY 0 y0
    rw [← Array.getElem?_toList, Nat.add_zero] at *
    rw [this, List.getElem?_eq_getElem y0]
  refine wpS_bind (el_ok ey0 ?_)
  refine wpS_bind (gallop_ok (left := false) (arr := arrOf st) (base := P.length) (n := X.length) (hint := 0) C (dY _ (List.getElem_mem y0)) (fun j hj => ⟨X[j], by rw [← Array.getElem?_toList, eX j hj, List.getElem?_eq_getElem hj], dX _ (List.getElem_mem hj)⟩) x0 hk (byd_monoS C.wo eX sX) fun k hk1 k1 k2 => ?_)
  have f1 : ∀ j (hj : j < X.length), j < k → lt (Y[0]'y0) X[j] = false := fun j hj hjk => by
    have := k1 j hjk
    rw [byd_seg (by rw [eX j hj, List.getElem?_eq_getElem hj])] at this
    simpa using this
  have f2 : ∀ j (hj : j < X.length), k ≤ j → lt (Y[0]'y0) X[j] = true := fun j hj hjk => by
    have := k2 j hjk hj
    rw [byd_seg (by rw [eX j hj, List.getElem?_eq_getElem hj])] at this
    simpa using this
  have lowX : ∀ x ∈ X.take k, ∀ y ∈ Y, lt y x = false := fun x hx y hy => by
    obtain ⟨j, hj, rfl⟩ := List.getElem_of_mem hx
    rw [List.length_take] at hj
    rw [List.getElem_take]
    obtain ⟨j2, hj2, rfl⟩ := List.getElem_of_mem hy
    exact C.wo.leT (f1 j (by omega) (by omega)) (srt_get C.wo sY (List.getElem?_eq_getElem y0) (List.getElem?_eq_getElem hj2) (Nat.zero_le _))
  refine wpS_if (c := (X.length - k == 0)) (fun c1 => ?_) (fun c1 => ?_)
  · refine wpS_pure (h (X ++ Y) _ ?_ (List.Perm.refl _) (by rw [List.append_assoc]; exact hA) rfl hk hf)
    have ek : X.take k = X := List.take_of_length_le (by have := eq_of_beq c1; omega)
    rw [ek] at lowX
    exact List.pairwise_append.mpr ⟨sX, sY, lowX⟩
  have c1' := beq_no c1
  have exl : (arrOf st)[P.length + k + (X.length - k) - 1]? = some (X[X.length - 1]'(by omega)) := by
    have := eX (X.length - 1) (by omega)
    rw [← Array.getElem?_toList, show P.length + k + (X.length - k) - 1 = P.length + (X.length - 1) by omega, this, List.getElem?_eq_getElem (by omega)]
  refine wpS_bind (el_ok exl ?_)
  refine wpS_bind (gallop_ok (left := true) (arr := arrOf st) (base := P.length + X.length) (n := Y.length) (hint := Y.length - 1) C (dX _ (List.getElem_mem (by omega))) (fun j hj => ⟨Y[j], by rw [← Array.getElem?_toList, eY j hj, List.getElem?_eq_getElem hj], dY _ (List.getElem_mem hj)⟩) (by omega) hk (byd_monoS C.wo eY sY) fun m hm1 m1 m2 => ?_)
  have f3 : ∀ j (hj : j < Y.length), j < m → lt Y[j] (X[X.length - 1]'(by omega)) = true := fun j hj hjm => by
    have := m1 j hjm
    rw [byd_seg (by rw [eY j hj, List.getElem?_eq_getElem hj])] at this
    simpa using this
  have f4 : ∀ j (hj : j < Y.length), m ≤ j → lt Y[j] (X[X.length - 1]'(by omega)) = false := fun j hj hjm => by
    have := m2 j hjm hj
    rw [byd_seg (by rw [eY j hj, List.getElem?_eq_getElem hj])] at this
    simpa using this
  have m0 : m ≠ 0 := fun z => by
    have := f4 0 y0 (by omega)
    rw [f2 (X.length - 1) (by omega) (by omega)] at this
    cases this
  refine wpS_if (c := (m == 0)) (fun c2 => absurd (eq_of_beq c2) m0) (fun c2 => ?_)
  have tx : ((arrOf st).extract (P.length + k) (P.length + X.length)).toList = X.drop k := by
    rw [ext_fromto, hA, List.drop_append, List.drop_eq_nil_of_le (by omega), List.nil_append, show P.length + k - P.length = k by omega, List.drop_append_of_le_length (by omega), List.take_append_of_le_length (by rw [List.length_drop]; omega), List.take_of_length_le (by rw [List.length_drop]; omega)]
  have ty : ((arrOf st).extract (P.length + X.length) (P.length + X.length + m)).toList = Y.take m := by
    rw [ext_fromto, hA, ← List.append_assoc, List.drop_append, List.drop_eq_nil_of_le (by simp), List.nil_append, List.length_append, Nat.sub_self, List.drop_zero, List.take_append_of_le_length (by omega)]
    congr 1; omega
  have sX2 : Srt lt (X.drop k) := srt_drop sX k
  have sY1 : Srt lt (Y.take m) := List.Pairwise.sublist (List.take_sublist _ _) sY
  have lX2 : (X.drop k).length = X.length - k := List.length_drop
  have lY1 : (Y.take m).length = m := by rw [List.length_take]; omega
  have hff : ∀ x y, (X.drop k)[0]? = some x → (Y.take m)[0]? = some y → lt x y = false := fun x y hx hy => by
    rw [List.getElem?_drop, Nat.add_zero, List.getElem?_eq_getElem (by omega)] at hx
    rw [List.getElem?_take_of_lt (by omega), List.getElem?_eq_getElem y0] at hy
    cases hx; cases hy
    exact C.wo.asym _ _ (f2 k (by omega) (Nat.le_refl _))
  have hll : ∀ x, (X.drop k)[(X.drop k).length - 1]? = some x → ∀ y ∈ Y.take m, lt x y = false := fun x hx y hy => by
    rw [lX2, List.getElem?_drop, show k + (X.length - k - 1) = X.length - 1 by omega, List.getElem?_eq_getElem (by omega)] at hx
    cases hx
    obtain ⟨j, hj, rfl⟩ := List.getElem_of_mem hy
    rw [lY1] at hj
    rw [List.getElem_take]
    exact C.wo.asym _ _ (f3 j (by omega) hj)
  have fin : ∀ (r : Array Keyed) (st' : SortSt), Mgd lt (X.drop k) (Y.take m) r.toList → Eqg (SortSt.mk' (kindOf st) (arrOf st) (((pendingOf st).setIfInBounds i (P.length, X.length + Y.length, pw)).eraseIdxIfInBounds (i + 1)) (gallopOf st) (failedOf st)) st' →
      Q true (SortSt.mk' (kindOf st') (List.foldl (fun a x => match x with | (p, j) => a.setIfInBounds (P.length + k + j) p) (arrOf st') r.toList.zipIdx) (pendingOf st') (gallopOf st') (failedOf st')) := fun r st' hm q => by
    obtain ⟨q1, q2, q3, q4⟩ := q
    refine h (X.take k ++ (r.toList ++ Y.drop m)) _ ?_ ?_ ?_ q3 (q1.trans hk) (q4.trans hf)
    · have rle : ∀ p ∈ r.toList, ∀ q ∈ Y.drop m, lt q p = false := fun p hp q hq => by
        have hq' : ∃ j, ∃ hj : j < Y.length, m ≤ j ∧ Y[j] = q := by
          obtain ⟨j, hj, rfl⟩ := List.getElem_of_mem hq
          rw [List.length_drop] at hj
          exact ⟨m + j, by omega, by omega, by rw [List.getElem_drop]⟩
        obtain ⟨j, hj, hmj, rfl⟩ := hq'
        rcases List.mem_append.mp (hm.2.mem_iff.mp hp) with z | z
        · obtain ⟨j2, hj2, rfl⟩ := List.getElem_of_mem (List.mem_of_mem_drop z)
          exact C.wo.leT (srt_get C.wo sX (List.getElem?_eq_getElem hj2) (List.getElem?_eq_getElem (by omega : X.length - 1 < X.length)) (by omega)) (f4 j hj hmj)
        · obtain ⟨j2, hj2, rfl⟩ := List.getElem_of_mem z
          rw [lY1] at hj2
          rw [List.getElem_take]
          exact srt_get C.wo sY (List.getElem?_eq_getElem (by omega)) (List.getElem?_eq_getElem hj) (by omega)
      refine List.pairwise_append.mpr ⟨List.Pairwise.sublist (List.take_sublist _ _) sX, List.pairwise_append.mpr ⟨hm.1, srt_drop sY m, rle⟩, fun p hp q hq => ?_⟩
      rcases List.mem_append.mp hq with z | z
      · rcases List.mem_append.mp (hm.2.mem_iff.mp z) with y | y
        · have : Srt lt (X.take k ++ X.drop k) := by rw [List.take_append_drop]; exact sX
          exact (List.pairwise_append.mp this).2.2 p hp q y
        · exact lowX p hp q (List.mem_of_mem_take y)
      · exact lowX p hp q (List.mem_of_mem_drop z)
    · have e1 : (X.take k ++ (r.toList ++ Y.drop m)).Perm (X.take k ++ ((X.drop k ++ Y.take m) ++ Y.drop m)) := List.Perm.append_left _ (hm.2.append_right _)
      refine e1.trans ?_
      rw [List.append_assoc, List.take_append_drop, ← List.append_assoc, List.take_append_drop]
    · show (List.foldl _ (arrOf st') r.toList.zipIdx).toList = _
      rw [q2]
      have := put_back r.toList 0 (P.length + k) (arrOf st) (P ++ X.take k) (X.drop k ++ Y.take m) (Y.drop m ++ S) (by
        show (arrOf st).toList = _
        rw [hA]
        have e1 : X = X.take k ++ X.drop k := (List.take_append_drop k X).symm
        have e2 : Y = Y.take m ++ Y.drop m := (List.take_append_drop m Y).symm
        conv => lhs; rw [e1, e2]
        simp only [List.append_assoc]) (by rw [List.length_append, List.length_take]; omega) hm.2.length_eq.symm
      rw [show (List.foldl (fun a x => match x with | (p, j) => a.setIfInBounds (P.length + k + j) p) (arrOf st) r.toList.zipIdx) = _ from rfl] at this
      rw [this]
      simp only [List.append_assoc]
  have dx : ∀ x ∈ ((arrOf st).extract (P.length + k) (P.length + X.length)).toList, D x := fun x hx => dX x (by rw [tx] at hx; exact List.mem_of_mem_drop hx)
  have dy : ∀ x ∈ ((arrOf st).extract (P.length + X.length) (P.length + X.length + m)).toList, D x := fun x hx => dY x (by rw [ty] at hx; exact List.mem_of_mem_take hx)
  show wpS _ _ _ _ (if X.length - k ≤ m then _ else _) _ _
  by_cases c3 : X.length - k ≤ m
  · rw [if_pos c3]
    refine wpS_bind (mergeLo_ok (a := (arrOf st).extract (P.length + k) (P.length + X.length)) (b := (arrOf st).extract (P.length + X.length) (P.length + X.length + m)) C dx dy (by rw [tx]; exact sX2) (by rw [ty]; exact sY1) hk (by rw [tx, lX2]; omega) (by rw [ty, lY1]; omega) (by rw [tx, ty]; exact hff) (by rw [tx, ty]; exact hll) fun r st' hm q => ?_)
    rw [tx, ty] at hm
    refine wpS_bind (wpS_modify (wpS_bind (wpS_get (wpS_pure ?_))))
    have e : (failedOf st').isNone = true := by rw [q.2.2.2]; show (failedOf st).isNone = true; rw [hf]; rfl
    have := fin r st' hm q
    rw [← e] at this
    exact this
  · rw [if_neg c3]
    refine wpS_bind (mergeHi_ok (a := (arrOf st).extract (P.length + k) (P.length + X.length)) (b := (arrOf st).extract (P.length + X.length) (P.length + X.length + m)) C dx dy (by rw [tx]; exact sX2) (by rw [ty]; exact sY1) hk (by rw [tx, lX2]; omega) (by rw [ty, lY1]; omega) (by rw [tx, ty]; exact hff) (by rw [tx, ty]; exact hll) fun r st' hm q => ?_)
    rw [tx, ty] at hm
    refine wpS_bind (wpS_modify (wpS_bind (wpS_get (wpS_pure ?_))))
    have e : (failedOf st').isNone = true := by rw [q.2.2.2]; show (failedOf st).isNone = true; rw [hf]; rfl
    have := fin r st' hm q
    rw [← e] at this
    exact this
end
end L2

/-! list.sort of any length: runs counted, things put in -/
namespace L2
open PySem PySem.Spec PyProof.Rows
section
variable {prog : Program} {w : World} {A : Around} {E : Value → Shared → Prop} {s : Shared} {kd : SortKind} {D : Keyed → Prop} {lt : Keyed → Keyed → Bool}
def SrtS (lt : Keyed → Keyed → Bool) (arr : Array Keyed) (lo m : Nat) : Prop := ∀ i j p q, i ≤ j → j < m → arr[lo + i]? = some p → arr[lo + j]? = some q → lt q p = false
def NonS (lt : Keyed → Keyed → Bool) (arr : Array Keyed) (lo m : Nat) : Prop := ∀ i j p q, i ≤ j → j < m → arr[lo + i]? = some p → arr[lo + j]? = some q → lt p q = false
def EqS (lt : Keyed → Keyed → Bool) (arr : Array Keyed) (b e : Nat) : Prop := ∀ i j p q, b ≤ i → i < e → b ≤ j → j < e → arr[i]? = some p → arr[j]? = some q → lt p q = false
/-- a state alike but for the order of what stands from lo on, n things -/
structure Kp (lo n : Nat) (st st' : SortSt) : Prop where
  kind : kindOf st' = kindOf st
  pend : pendingOf st' = pendingOf st
  fail : failedOf st' = failedOf st
  perm : (arrOf st').toList.Perm (arrOf st).toList
  out : ∀ i, i < lo ∨ lo + n ≤ i → (arrOf st')[i]? = (arrOf st)[i]?
theorem Kp.refl (lo n : Nat) (st : SortSt) : Kp lo n st st := ⟨rfl, rfl, rfl, .refl _, fun _ _ => rfl⟩
theorem Kp.trans {lo n : Nat} {a b c : SortSt} (x : Kp lo n a b) (y : Kp lo n b c) : Kp lo n a c := ⟨y.kind.trans x.kind, y.pend.trans x.pend, y.fail.trans x.fail, y.perm.trans x.perm, fun i h => (y.out i h).trans (x.out i h)⟩
theorem Kp.size {lo n : Nat} {a b : SortSt} (x : Kp lo n a b) : (arrOf b).size = (arrOf a).size := by
  have := x.perm.length_eq
  simpa using this
theorem at_ok {arr : Array Keyed} {i : Nat} (h : i < arr.size) : ∃ x, arr[i]? = some x := ⟨arr[i], getElem?_pos arr i h⟩
theorem ltAt_ok (C : Cmp prog w A E s kd D lt) {st : SortSt} {i j : Nat} {Q : Option Bool → SortSt → Prop} (hi : i < (arrOf st).size) (hj : j < (arrOf st).size) (hD : ∀ x ∈ (arrOf st).toList, D x) (hk : kindOf st = kd)
    (h : ∀ p q, (arrOf st)[i]? = some p → (arrOf st)[j]? = some q → Q (some (lt p q)) st) : wpS (model prog w) A E s (ltAt' i j) Q st := by
  obtain ⟨p, hp⟩ := at_ok hi
  obtain ⟨q, hq⟩ := at_ok hj
  rw [ltAt'_eq]
  refine wpS_bind (wpS_get ?_)
  show wpS _ _ _ _ (elem' (arrOf st) i >>= fun x => elem' (arrOf st) j >>= fun y => lt' x y) Q st
  refine wpS_bind (el_ok hp (wpS_bind (el_ok hq (C.cmp p q st Q (hD p ?_) (hD q ?_) hk (h p q hp hq)))))
  · exact List.mem_of_getElem? (by rw [Array.getElem?_toList]; exact hp)
  · exact List.mem_of_getElem? (by rw [Array.getElem?_toList]; exact hq)
theorem rev_ok {M : Model} {i j : Nat} {st : SortSt} {Q : Unit → SortSt → Prop} (h : Q () (setArr st (mirror (arrOf st) i j ((j - i) / 2)))) : wpS M A E s (reverseSlice' i j) Q st := by
  rw [reverseSlice'_eq]; exact wpS_modify h
theorem kp_mirror {lo n i j : Nat} {st : SortSt} (h1 : lo ≤ i) (h2 : j ≤ lo + n) (h3 : lo + n ≤ (arrOf st).size) : Kp lo n st (setArr st (mirror (arrOf st) i j ((j - i) / 2))) := by
  refine ⟨rfl, rfl, rfl, Array.perm_iff_toList_perm.mp (mirror_perm _ _ _ _), fun k hk => ?_⟩
  show (mirror (arrOf st) i j ((j - i) / 2))[k]? = _
  rw [getElem?_mirror_all (by omega), if_neg (by omega)]
theorem non_mirror {arr : Array Keyed} {lo m b e : Nat} (h : NonS lt arr lo m) (he : EqS lt arr b e) (h1 : lo ≤ b) (h2 : e ≤ lo + m) (h3 : lo + m ≤ arr.size) : NonS lt (mirror arr b e ((e - b) / 2)) lo m := by
  intro i j p q hij hj hp hq
  rw [getElem?_mirror_all (by omega)] at hp hq
  by_cases ci : b ≤ lo + i ∧ lo + i < e <;> by_cases cj : b ≤ lo + j ∧ lo + j < e
  · rw [if_pos ci] at hp
    rw [if_pos cj] at hq
    exact he _ _ p q (by omega) (by omega) (by omega) (by omega) hp hq
  · rw [if_pos ci] at hp
    rw [if_neg cj] at hq
    exact h (b + e - 1 - (lo + i) - lo) j p q (by omega) hj (by rw [show lo + (b + e - 1 - (lo + i) - lo) = b + e - 1 - (lo + i) by omega]; exact hp) hq
  · rw [if_neg ci] at hp
    rw [if_pos cj] at hq
    exact h i (b + e - 1 - (lo + j) - lo) p q (by omega) (by omega) hp (by rw [show lo + (b + e - 1 - (lo + j) - lo) = b + e - 1 - (lo + j) by omega]; exact hq)
  · rw [if_neg ci] at hp
    rw [if_neg cj] at hq
    exact h i j p q hij hj hp hq
theorem srt_mirror {arr : Array Keyed} {lo m : Nat} (h : NonS lt arr lo m) (h3 : lo + m ≤ arr.size) : SrtS lt (mirror arr lo (lo + m) ((lo + m - lo) / 2)) lo m := by
  intro i j p q hij hj hp hq
  rw [getElem?_mirror_all (by omega), if_pos (by omega)] at hp hq
  exact h (m - 1 - j) (m - 1 - i) q p (by omega) (by omega) (by rw [← hq]; congr 1; omega) (by rw [← hp]; congr 1; omega)
theorem non_snoc (C : Wo lt) {arr : Array Keyed} {lo m : Nat} (h : NonS lt arr lo m) (hm : 0 < m) {d e : Keyed} (hd : arr[lo + m - 1]? = some d) (he : arr[lo + m]? = some e) (hde : lt d e = false) : NonS lt arr lo (m + 1) := by
  intro i j p q hij hj hp hq
  by_cases c : j < m
  · exact h i j p q hij c hp hq
  · obtain rfl : j = m := by omega
    rw [he] at hq
    cases hq
    by_cases c2 : i = j
    · subst c2
      rw [he] at hp
      cases hp
      exact C.irr _
    · exact C.leT hde (h i (j - 1) p d (by omega) (by omega) hp (by rw [show lo + (j - 1) = lo + j - 1 by omega]; exact hd))
theorem srt_snocS (C : Wo lt) {arr : Array Keyed} {lo m : Nat} (h : SrtS lt arr lo m) (hm : 0 < m) {d e : Keyed} (hd : arr[lo + m - 1]? = some d) (he : arr[lo + m]? = some e) (hde : lt e d = false) : SrtS lt arr lo (m + 1) := by
  intro i j p q hij hj hp hq
  by_cases c : j < m
  · exact h i j p q hij c hp hq
  · obtain rfl : j = m := by omega
    rw [he] at hq
    cases hq
    by_cases c2 : i = j
    · subst c2
      rw [he] at hp
      cases hp
      exact C.irr _
    · exact C.leT (h i (j - 1) p d (by omega) (by omega) hp (by rw [show lo + (j - 1) = lo + j - 1 by omega]; exact hd)) hde
theorem eq_one (C : Wo lt) {x lo : Nat} (arr : Array Keyed) : EqS lt arr (lo + x - (0 + 1)) (lo + x) := fun i j p q i1 i2 j1 j2 hp hq => by
  obtain rfl : i = j := by omega
  rw [hp] at hq; cases hq; exact C.irr _
theorem eq_snoc (C : Wo lt) {arr : Array Keyed} {b e : Nat} (h : EqS lt arr b e) (hb : b < e) {d x : Keyed} (hd : arr[e - 1]? = some d) (hx : arr[e]? = some x) (h1 : lt x d = false) (h2 : lt d x = false) : EqS lt arr b (e + 1) := fun i j p q i1 i2 j1 j2 hp hq => by
  by_cases ci : i < e <;> by_cases cj : j < e
  · exact h i j p q i1 ci j1 cj hp hq
  · obtain rfl : j = e := by omega
    rw [hx] at hq; cases hq
    exact C.leT h2 (h i (j - 1) p d i1 ci (by omega) (by omega) hp hd)
  · obtain rfl : i = e := by omega
    rw [hx] at hp; cases hp
    exact C.leT (h (i - 1) j d q (by omega) (by omega) j1 cj hd hq) h1
  · obtain rfl : i = e := by omega
    obtain rfl : j = i := by omega
    rw [hp] at hq; cases hq; exact C.irr _
theorem asc_loop (C : Cmp prog w A E s kd D lt) {lo n a : Nat} {st : SortSt} {Q : Option (Option Nat) × Nat → SortSt → Prop} {body : Nat → Option (Option Nat) × Nat → StateT SortSt Sem (ForInStep (Option (Option Nat) × Nat))}
    (hb : ∀ x m (R : ForInStep (Option (Option Nat) × Nat) → SortSt → Prop), 1 ≤ m → m < n → (∀ p q, (arrOf st)[lo + m]? = some p → (arrOf st)[lo + m - 1]? = some q → R (if lt p q = true then .done (none, m) else .yield (none, m + 1)) st) → wpS (model prog w) A E s (body x (none, m)) R st)
    (ha : 1 ≤ a) (han : a ≤ n) (hsz : lo + n ≤ (arrOf st).size) (hs : SrtS lt (arrOf st) lo a)
    (h : ∀ m, a ≤ m → m ≤ n → SrtS lt (arrOf st) lo m → (m < n → ∀ p q, (arrOf st)[lo + m]? = some p → (arrOf st)[lo + m - 1]? = some q → lt p q = true) → Q (none, m) st) : wpS (model prog w) A E s (forIn [a:n] (none, a) body) Q st := by
  refine wpS_forRange (I := fun x c st' => st' = st ∧ c = (none, x) ∧ SrtS lt (arrOf st) lo x) ?_ ?_ ⟨rfl, rfl, hs⟩
  · rintro x c st' hax hxn ⟨rfl, rfl, g⟩
    refine hb x x _ (by omega) hxn fun p q hp hq => ?_
    cases e : lt p q with
    | true =>
      exact h x hax (by omega) g fun _ p' q' hp' hq' => by
        rw [hp] at hp'; rw [hq] at hq'; cases hp'; cases hq'; exact e
    | false => exact ⟨rfl, rfl, srt_snocS C.wo g (by omega) hq hp e⟩
  · rintro c st' ⟨rfl, rfl, g⟩
    rw [show max a n = n by omega] at g ⊢
    exact h n han (Nat.le_refl _) g fun z => by omega
theorem countRun_ok (C : Cmp prog w A E s kd D lt) {lo n : Nat} {st : SortSt} {Q : Option Nat → SortSt → Prop} (hn : 0 < n) (hsz : lo + n ≤ (arrOf st).size) (hD : ∀ x ∈ (arrOf st).toList, D x) (hk : kindOf st = kd)
    (h : ∀ m st', 1 ≤ m → m ≤ n → Kp lo n st st' → SrtS lt (arrOf st') lo m → Q (some m) st') : wpS (model prog w) A E s (countRun_ lo n) Q st := by
  have s1 : ∀ arr : Array Keyed, SrtS lt arr lo 1 := fun arr i j p q hij hj hp hq => by
    obtain rfl : i = 0 := by omega
    obtain rfl : j = 0 := by omega
    rw [hp] at hq; cases hq; exact C.wo.irr _
  refine wpS_bind (asc_loop C (lo := lo) (n := n) (a := 1) (st := st) (fun x m R h1 h2 hR => ?_) (Nat.le_refl _) hn hsz (s1 _) fun m hm1 hm2 g nx => ?_)
  · refine wpS_bind (ltAt_ok C (by omega) (by omega) hD hk fun p q hp hq => ?_)
    have := hR p q hp hq
    cases e : lt p q with
    | true => rw [e] at this; exact wpS_pure this
    | false => rw [e] at this; exact wpS_pure this
  refine wpS_if (c := (m == n)) (fun c1 => wpS_pure (h m st hm1 hm2 (Kp.refl _ _ _) g)) (fun c1 => ?_)
  have c1' := beq_no c1
  obtain ⟨pl, hpl⟩ := at_ok (show lo + m < (arrOf st).size by omega)
  obtain ⟨ql, hql⟩ := at_ok (show lo + m - 1 < (arrOf st).size by omega)
  have less := nx (by omega) pl ql hpl hql
  refine wpS_gt (k := m) (n := 1) (fun z => ?_) (fun z => ?_)
  · refine wpS_bind (ltAt_ok C (i := lo) (j := lo + m - 1) (by omega) (by omega) hD hk fun p q hp hq => ?_)
    cases e : lt p q with
    | true => exact wpS_pure (h m st hm1 hm2 (Kp.refl _ _ _) g)
    | false =>
      have eqs : EqS lt (arrOf st) lo (lo + m) := fun i j a b i1 i2 j1 j2 ha hb => by
        have ha' : (arrOf st)[lo + (i - lo)]? = some a := by rw [show lo + (i - lo) = i by omega]; exact ha
        have hb' : (arrOf st)[lo + (j - lo)]? = some b := by rw [show lo + (j - lo) = j by omega]; exact hb
        have l1 := g (i - lo) (m - 1) a q (by omega) (by omega) ha' (by rw [← hq]; congr 1; omega)
        have l2 := g 0 (j - lo) p b (by omega) (by omega) (by rw [Nat.add_zero]; exact hp) hb'
        have l3 := g 0 (i - lo) p a (by omega) (by omega) (by rw [Nat.add_zero]; exact hp) ha'
        have l4 := g (j - lo) (m - 1) b q (by omega) (by omega) hb' (by rw [← hq]; congr 1; omega)
        exact C.wo.leT l4 (C.wo.leT e l3)
      refine wpS_bind (rev_ok (i := lo) (j := lo + m) ?_)
      have k1 := kp_mirror (lo := lo) (n := n) (i := lo) (j := lo + m) (st := st) (Nat.le_refl _) (by omega) hsz
      have non0 : NonS lt (arrOf st) lo m := fun i j a b hij hj ha hb => eqs _ _ a b (by omega) (by omega) (by omega) (by omega) ha hb
      have non1 : NonS lt (arrOf (setArr st (mirror (arrOf st) lo (lo + m) ((lo + m - lo) / 2)))) lo (m + 1) := non_mirror (non_snoc C.wo non0 (by omega) hql hpl (C.wo.asym _ _ less)) eqs (Nat.le_refl _) (by omega) (by omega)
      generalize setArr st (mirror (arrOf st) lo (lo + m) ((lo + m - lo) / 2)) = st1 at k1 non1 ⊢
      refine wpS_bind (wpS_lift (wpAny_rule ⟨rfl, ?_⟩))
      refine wpS_bind (wpS_mono (wpS_forRange (a := m + 1) (b := n) (I := fun x c st' => ∃ neq, c = (none, x, neq) ∧ Kp lo n st st' ∧ NonS lt (arrOf st') lo x ∧ neq + 1 ≤ x ∧ EqS lt (arrOf st') (lo + x - (neq + 1)) (lo + x))
        (Q := fun c st' => ∃ x neq, c = (none, x, neq) ∧ m + 1 ≤ x ∧ x ≤ n ∧ Kp lo n st st' ∧ NonS lt (arrOf st') lo x ∧ neq + 1 ≤ x ∧ EqS lt (arrOf st') (lo + x - (neq + 1)) (lo + x)) ?_ ?_ ⟨0, rfl, k1, non1, by omega, eq_one C.wo _⟩) ?_)
      · rintro x c st2 hx1 hx2 ⟨neq, rfl, k2, g2, e1, e2⟩
        have z2 := k2.size
        have hD2 : ∀ y ∈ (arrOf st2).toList, D y := fun y hy => hD y (k2.perm.mem_iff.mp hy)
        have hk2 := k2.kind.trans hk
        refine wpS_bind (ltAt_ok C (i := lo + x) (j := lo + x - 1) (by omega) (by omega) hD2 hk2 fun p q hp hq => ?_)
        cases e : lt p q with
        | true =>
          have gs := non_snoc C.wo g2 (by omega) hq hp (C.wo.asym _ _ e)
          refine wpS_gt (k := neq) (n := 0) (fun z => ?_) (fun z => ?_)
          · refine wpS_bind (rev_ok (i := lo + x - (neq + 1)) (j := lo + x) ?_)
            exact wpS_pure ⟨0, rfl, k2.trans (kp_mirror (by omega) (by omega) (by omega)), non_mirror gs e2 (by omega) (by omega) (by omega), by omega, eq_one C.wo _⟩
          · exact wpS_pure ⟨0, rfl, k2, gs, by omega, eq_one C.wo _⟩
        | false =>
          refine wpS_bind (ltAt_ok C (i := lo + x - 1) (j := lo + x) (by omega) (by omega) hD2 hk2 fun q' p' hq' hp' => ?_)
          rw [hq] at hq'
          rw [hp] at hp'
          cases hq'; cases hp'
          cases e' : lt q p with
          | true => exact wpS_pure ⟨x, neq, rfl, hx1, by omega, k2, g2, e1, e2⟩
          | false =>
            refine wpS_pure ⟨neq + 1, rfl, k2, non_snoc C.wo g2 (by omega) hq hp e', by omega, ?_⟩
            have := eq_snoc C.wo e2 (by omega) hq hp e e'
            rw [show lo + (x + 1) - (neq + 1 + 1) = lo + x - (neq + 1) by omega]
            exact this
      · rintro c st2 ⟨neq, rfl, k2, g2, e1, e2⟩
        rw [show max (m + 1) n = n by omega] at g2 e1 e2 ⊢
        exact ⟨n, neq, rfl, by omega, Nat.le_refl _, k2, g2, e1, e2⟩
      · rintro c st2 ⟨x, neq, rfl, x1, x2, k2, g2, e1, e2⟩
        have z2 := k2.size
        refine wpS_gt (k := neq) (n := 0) (fun z => ?_) (fun z => ?_)
        · refine wpS_bind (rev_ok (i := lo + x - (neq + 1)) (j := lo + x) ?_)
          have k3 := k2.trans (kp_mirror (lo := lo) (n := n) (i := lo + x - (neq + 1)) (j := lo + x) (st := st2) (by omega) (by omega) (by omega))
          have g3 : NonS lt (arrOf (setArr st2 (mirror (arrOf st2) (lo + x - (neq + 1)) (lo + x) ((lo + x - (lo + x - (neq + 1))) / 2)))) lo x := non_mirror g2 e2 (by omega) (by omega) (by omega)
          generalize setArr st2 (mirror (arrOf st2) (lo + x - (neq + 1)) (lo + x) ((lo + x - (lo + x - (neq + 1))) / 2)) = st3 at k3 g3 ⊢
          refine wpS_bind (rev_ok (i := lo) (j := lo + x) ?_)
          have z3 := k3.size
          have k4 := k3.trans (kp_mirror (lo := lo) (n := n) (i := lo) (j := lo + x) (st := st3) (Nat.le_refl _) (by omega) (by omega))
          have g4 := srt_mirror g3 (by omega)
          refine wpS_bind (asc_loop C (lo := lo) (n := n) (a := x) (st := setArr st3 (mirror (arrOf st3) lo (lo + x) ((lo + x - lo) / 2))) (fun y m' R h1 h2 hR => ?_) (by omega) x2 (by rw [k4.size]; exact hsz) g4 fun m' a1 a2 g5 _ => wpS_pure (h m' _ (by omega) a2 k4 g5))
          refine wpS_bind (ltAt_ok C (by rw [k4.size]; omega) (by rw [k4.size]; omega) (fun y hy => hD y (k4.perm.mem_iff.mp hy)) (k4.kind.trans hk) fun p q hp hq => ?_)
          have := hR p q hp hq
          cases e : lt p q with
          | true => rw [e] at this; exact wpS_pure this
          | false => rw [e] at this; exact wpS_pure this

        · have k3 := k2
          have g3 := g2
          refine wpS_bind (rev_ok (i := lo) (j := lo + x) ?_)
          have z3 := k3.size
          have k4 := k3.trans (kp_mirror (lo := lo) (n := n) (i := lo) (j := lo + x) (st := st2) (Nat.le_refl _) (by omega) (by omega))
          have g4 := srt_mirror g3 (by omega)
          refine wpS_bind (asc_loop C (lo := lo) (n := n) (a := x) (st := setArr st2 (mirror (arrOf st2) lo (lo + x) ((lo + x - lo) / 2))) (fun y m' R h1 h2 hR => ?_) (by omega) x2 (by rw [k4.size]; exact hsz) g4 fun m' a1 a2 g5 _ => wpS_pure (h m' _ (by omega) a2 k4 g5))
          refine wpS_bind (ltAt_ok C (by rw [k4.size]; omega) (by rw [k4.size]; omega) (fun y hy => hD y (k4.perm.mem_iff.mp hy)) (k4.kind.trans hk) fun p q hp hq => ?_)
          have := hR p q hp hq
          cases e : lt p q with
          | true => rw [e] at this; exact wpS_pure this
          | false => rw [e] at this; exact wpS_pure this


  · obtain rfl : m = 1 := by omega
    have k1 := Kp.refl lo n st
    have non1 : NonS lt (arrOf st) lo (1 + 1) := non_snoc C.wo (fun i j a b hij hj ha hb => by
      obtain rfl : i = 0 := by omega
      obtain rfl : j = 0 := by omega
      rw [ha] at hb; cases hb; exact C.wo.irr _) (by omega) hql hpl (C.wo.asym _ _ less)
    refine wpS_bind (wpS_lift (wpAny_rule ⟨rfl, ?_⟩))
    refine wpS_bind (wpS_mono (wpS_forRange (a := 1 + 1) (b := n) (I := fun x c st' => ∃ neq, c = (none, x, neq) ∧ Kp lo n st st' ∧ NonS lt (arrOf st') lo x ∧ neq + 1 ≤ x ∧ EqS lt (arrOf st') (lo + x - (neq + 1)) (lo + x))
      (Q := fun c st' => ∃ x neq, c = (none, x, neq) ∧ 1 + 1 ≤ x ∧ x ≤ n ∧ Kp lo n st st' ∧ NonS lt (arrOf st') lo x ∧ neq + 1 ≤ x ∧ EqS lt (arrOf st') (lo + x - (neq + 1)) (lo + x)) ?_ ?_ ⟨0, rfl, k1, non1, by omega, eq_one C.wo _⟩) ?_)
    · rintro x c st2 hx1 hx2 ⟨neq, rfl, k2, g2, e1, e2⟩
      have z2 := k2.size
      have hD2 : ∀ y ∈ (arrOf st2).toList, D y := fun y hy => hD y (k2.perm.mem_iff.mp hy)
      have hk2 := k2.kind.trans hk
      refine wpS_bind (ltAt_ok C (i := lo + x) (j := lo + x - 1) (by omega) (by omega) hD2 hk2 fun p q hp hq => ?_)
      cases e : lt p q with
      | true =>
        have gs := non_snoc C.wo g2 (by omega) hq hp (C.wo.asym _ _ e)
        refine wpS_gt (k := neq) (n := 0) (fun z => ?_) (fun z => ?_)
        · refine wpS_bind (rev_ok (i := lo + x - (neq + 1)) (j := lo + x) ?_)
          exact wpS_pure ⟨0, rfl, k2.trans (kp_mirror (by omega) (by omega) (by omega)), non_mirror gs e2 (by omega) (by omega) (by omega), by omega, eq_one C.wo _⟩
        · exact wpS_pure ⟨0, rfl, k2, gs, by omega, eq_one C.wo _⟩
      | false =>
        refine wpS_bind (ltAt_ok C (i := lo + x - 1) (j := lo + x) (by omega) (by omega) hD2 hk2 fun q' p' hq' hp' => ?_)
        rw [hq] at hq'
        rw [hp] at hp'
        cases hq'; cases hp'
        cases e' : lt q p with
        | true => exact wpS_pure ⟨x, neq, rfl, hx1, by omega, k2, g2, e1, e2⟩
        | false =>
          refine wpS_pure ⟨neq + 1, rfl, k2, non_snoc C.wo g2 (by omega) hq hp e', by omega, ?_⟩
          have := eq_snoc C.wo e2 (by omega) hq hp e e'
          rw [show lo + (x + 1) - (neq + 1 + 1) = lo + x - (neq + 1) by omega]
          exact this
    · rintro c st2 ⟨neq, rfl, k2, g2, e1, e2⟩
      rw [show max (1 + 1) n = n by omega] at g2 e1 e2 ⊢
      exact ⟨n, neq, rfl, by omega, Nat.le_refl _, k2, g2, e1, e2⟩
    · rintro c st2 ⟨x, neq, rfl, x1, x2, k2, g2, e1, e2⟩
      have z2 := k2.size
      refine wpS_gt (k := neq) (n := 0) (fun z => ?_) (fun z => ?_)
      · refine wpS_bind (rev_ok (i := lo + x - (neq + 1)) (j := lo + x) ?_)
        have k3 := k2.trans (kp_mirror (lo := lo) (n := n) (i := lo + x - (neq + 1)) (j := lo + x) (st := st2) (by omega) (by omega) (by omega))
        have g3 : NonS lt (arrOf (setArr st2 (mirror (arrOf st2) (lo + x - (neq + 1)) (lo + x) ((lo + x - (lo + x - (neq + 1))) / 2)))) lo x := non_mirror g2 e2 (by omega) (by omega) (by omega)
        generalize setArr st2 (mirror (arrOf st2) (lo + x - (neq + 1)) (lo + x) ((lo + x - (lo + x - (neq + 1))) / 2)) = st3 at k3 g3 ⊢
        refine wpS_bind (rev_ok (i := lo) (j := lo + x) ?_)
        have z3 := k3.size
        have k4 := k3.trans (kp_mirror (lo := lo) (n := n) (i := lo) (j := lo + x) (st := st3) (Nat.le_refl _) (by omega) (by omega))
        have g4 := srt_mirror g3 (by omega)
        refine wpS_bind (asc_loop C (lo := lo) (n := n) (a := x) (st := setArr st3 (mirror (arrOf st3) lo (lo + x) ((lo + x - lo) / 2))) (fun y m' R h1 h2 hR => ?_) (by omega) x2 (by rw [k4.size]; exact hsz) g4 fun m' a1 a2 g5 _ => wpS_pure (h m' _ (by omega) a2 k4 g5))
        refine wpS_bind (ltAt_ok C (by rw [k4.size]; omega) (by rw [k4.size]; omega) (fun y hy => hD y (k4.perm.mem_iff.mp hy)) (k4.kind.trans hk) fun p q hp hq => ?_)
        have := hR p q hp hq
        cases e : lt p q with
        | true => rw [e] at this; exact wpS_pure this
        | false => rw [e] at this; exact wpS_pure this

      · have k3 := k2
        have g3 := g2
        refine wpS_bind (rev_ok (i := lo) (j := lo + x) ?_)
        have z3 := k3.size
        have k4 := k3.trans (kp_mirror (lo := lo) (n := n) (i := lo) (j := lo + x) (st := st2) (Nat.le_refl _) (by omega) (by omega))
        have g4 := srt_mirror g3 (by omega)
        refine wpS_bind (asc_loop C (lo := lo) (n := n) (a := x) (st := setArr st2 (mirror (arrOf st2) lo (lo + x) ((lo + x - lo) / 2))) (fun y m' R h1 h2 hR => ?_) (by omega) x2 (by rw [k4.size]; exact hsz) g4 fun m' a1 a2 g5 _ => wpS_pure (h m' _ (by omega) a2 k4 g5))
        refine wpS_bind (ltAt_ok C (by rw [k4.size]; omega) (by rw [k4.size]; omega) (fun y hy => hD y (k4.perm.mem_iff.mp hy)) (k4.kind.trans hk) fun p q hp hq => ?_)
        have := hR p q hp hq
        cases e : lt p q with
        | true => rw [e] at this; exact wpS_pure this
        | false => rw [e] at this; exact wpS_pure this


end
end L2

namespace L2
open PySem PySem.Spec PyProof.Rows
section
variable {prog : Program} {w : World} {A : Around} {E : Value → Shared → Prop} {s : Shared} {kd : SortKind} {D : Keyed → Prop} {lt : Keyed → Keyed → Bool}
theorem move_ok {M : Model} {i j : Nat} {st : SortSt} {Q : Unit → SortSt → Prop} (h : Q () (setArr st (bubble (arrOf st) i (i - j)))) : wpS M A E s (moveDown' i j) Q st := by
  rw [moveDown'_eq]; exact wpS_modify h
theorem binarySort_ok (C : Cmp prog w A E s kd D lt) {lo n ok : Nat} {st : SortSt} {Q : Bool → SortSt → Prop} (h1 : 1 ≤ ok) (hok : ok ≤ n) (hsz : lo + n ≤ (arrOf st).size) (hD : ∀ x ∈ (arrOf st).toList, D x) (hk : kindOf st = kd) (hs : SrtS lt (arrOf st) lo ok)
    (h : ∀ st', Kp lo n st st' → SrtS lt (arrOf st') lo n → Q true st') : wpS (model prog w) A E s (binarySort_ lo n ok) Q st := by
  refine wpS_bind (wpS_mono (wpS_forRange (a := max ok 1) (b := n) (I := fun k c st' => c = (none, ()) ∧ Kp lo n st st' ∧ SrtS lt (arrOf st') lo k) (Q := fun c st' => c = (none, ()) ∧ Kp lo n st st' ∧ SrtS lt (arrOf st') lo n) ?_ ?_ ⟨rfl, Kp.refl _ _ _, by rw [show max ok 1 = ok by omega]; exact hs⟩) ?_)
  · rintro k c st1 hk1 hk2 ⟨rfl, kp, g⟩
    have z1 := kp.size
    obtain ⟨e, he⟩ := at_ok (show lo + k < (arrOf st1).size by omega)
    refine wpS_bind (wpS_mono (wpS_forRange (a := 0) (b := k) (I := fun x c st' => st' = st1 ∧ ∃ l r, c = (none, l, r) ∧ l ≤ r ∧ r ≤ k ∧ r - l ≤ k - x ∧ (∀ i p, i < l → (arrOf st1)[lo + i]? = some p → lt e p = false) ∧ ∀ i p, r ≤ i → i < k → (arrOf st1)[lo + i]? = some p → lt e p = true)
      (Q := fun c st' => st' = st1 ∧ ∃ l r, c = (none, l, r) ∧ l ≤ k ∧ (∀ i p, i < l → (arrOf st1)[lo + i]? = some p → lt e p = false) ∧ ∀ i p, l ≤ i → i < k → (arrOf st1)[lo + i]? = some p → lt e p = true) ?_ ?_ ⟨rfl, 0, k, rfl, by omega, by omega, by omega, fun i p hi => by omega, fun i p h1 h2 => by omega⟩) ?_)
    · rintro x c st' _ hx ⟨rfl, l, r, rfl, g1, g2, g3, g4, g5⟩
      dsimp only
      by_cases hge : l ≥ r
      · rw [if_pos hge]
        obtain rfl : l = r := by omega
        exact wpS_pure ⟨rfl, l, l, rfl, g2, g4, g5⟩
      · rw [if_neg hge]
        refine wpS_bind (ltAt_ok C (i := lo + k) (j := lo + (l + r) / 2) (by omega) (by omega) (fun y hy => hD y (kp.perm.mem_iff.mp hy)) (kp.kind.trans hk) fun p q hp hq => ?_)
        rw [he] at hp
        cases hp
        cases c : lt e q with
        | true =>
          refine wpS_pure ⟨rfl, l, (l + r) / 2, rfl, by omega, by omega, by omega, g4, fun i p i1 i2 hp => ?_⟩
          rcases C.wo.neg e p q c with z | z
          · exact z
          · rw [g ((l + r) / 2) i q p i1 i2 hq hp] at z; cases z
        | false =>
          refine wpS_pure ⟨rfl, (l + r) / 2 + 1, r, rfl, by omega, by omega, by omega, fun i p i1 hp => ?_, g5⟩
          exact C.wo.leT (g i ((l + r) / 2) p q (by omega) (by omega) hp hq) c
    · rintro c st' ⟨rfl, l, r, rfl, g1, g2, g3, g4, g5⟩
      obtain rfl : l = r := by omega
      exact ⟨rfl, l, l, rfl, g2, g4, g5⟩
    · rintro c st' ⟨rfl, l, r, rfl, g2, g4, g5⟩
      refine wpS_bind (move_ok (i := lo + k) (j := lo + l) ?_)
      have sz : lo + k < (arrOf st').size := by omega
      refine wpS_pure ⟨rfl, kp.trans ⟨rfl, rfl, rfl, Array.perm_iff_toList_perm.mp (bubble_perm _ _ _), fun i hi => ?_⟩, fun i j p q hij hj hp hq => ?_⟩
      · show (bubble (arrOf st') (lo + k) (lo + k - (lo + l)))[i]? = _
        rw [getElem?_bubble sz _ (by omega), if_neg (by omega), if_neg (by omega)]
      · rw [show arrOf (setArr st' (bubble (arrOf st') (lo + k) (lo + k - (lo + l)))) = bubble (arrOf st') (lo + k) (lo + k - (lo + l)) from rfl, getElem?_bubble sz _ (by omega)] at hp hq
        rw [show lo + k - (lo + k - (lo + l)) = lo + l by omega] at hp hq
        by_cases ci : i = l <;> by_cases cj : j = l
        · subst ci; subst cj
          rw [if_pos rfl] at hp hq
          rw [hp] at hq; cases hq; exact C.wo.irr _
        · subst ci
          rw [if_pos rfl, he] at hp
          cases hp
          rw [if_neg (by omega), if_pos (by omega)] at hq
          exact C.wo.asym _ _ (g5 (j - 1) q (by omega) (by omega) (by rw [← hq]; congr 1; omega))
        · subst cj
          rw [if_neg (by omega), if_neg (by omega)] at hp
          rw [if_pos rfl, he] at hq
          cases hq
          exact g4 i p (by omega) hp
        · rw [if_neg (by omega)] at hp hq
          by_cases di : i < l <;> by_cases dj : j < l
          · rw [if_neg (by omega)] at hp hq
            exact g i j p q hij (by omega) hp hq
          · rw [if_neg (by omega)] at hp
            rw [if_pos (by omega)] at hq
            exact g i (j - 1) p q (by omega) (by omega) hp (by rw [← hq]; congr 1; omega)
          · omega
          · rw [if_pos (by omega)] at hp hq
            exact g (i - 1) (j - 1) p q (by omega) (by omega) (by rw [← hp]; congr 1; omega) (by rw [← hq]; congr 1; omega)
  · rintro c st1 ⟨rfl, kp, g⟩
    rw [show max (max ok 1) n = n by omega] at g
    exact ⟨rfl, kp, g⟩
  · rintro c st1 ⟨rfl, kp, g⟩
    exact wpS_pure (h st1 kp g)
/-- the runs that are waiting to be merged -/
def PendOk (p : List (Nat × Nat × Nat)) (rs : List (List Keyed)) : Prop := p.length = rs.length ∧ ∀ i r, rs[i]? = some r → ∃ pw, p[i]? = some ((rs.take i).flatten.length, r.length, pw)
theorem pend_nil : PendOk [] [] := ⟨rfl, fun i r h => by simp at h⟩
theorem pend_push {p : List (Nat × Nat × Nat)} {rs : List (List Keyed)} (h : PendOk p rs) (r : List Keyed) (pw : Nat) : PendOk (p ++ [(rs.flatten.length, r.length, pw)]) (rs ++ [r]) := by
  refine ⟨by simp [h.1], fun i x hx => ?_⟩
  by_cases c : i < rs.length
  · rw [List.getElem?_append_left c] at hx
    obtain ⟨q, hq⟩ := h.2 i x hx
    exact ⟨q, by rw [List.getElem?_append_left (by rw [h.1]; exact c), hq, List.take_append_of_le_length (by omega)]⟩
  · have hi : i = rs.length := by
      have := (List.getElem?_eq_some_iff.mp hx).1
      rw [List.length_append, List.length_singleton] at this
      omega
    subst hi
    rw [List.getElem?_append_right (Nat.le_refl _), Nat.sub_self] at hx
    simp at hx
    subst hx
    refine ⟨pw, ?_⟩
    rw [← h.1, List.getElem?_append_right (Nat.le_refl _), Nat.sub_self, h.1, List.take_append_of_le_length (Nat.le_refl _), List.take_of_length_le (Nat.le_refl _)]
    rfl
theorem pend_pow {p : List (Nat × Nat × Nat)} {rs : List (List Keyed)} (h : PendOk p rs) (k : Nat) (f : Nat × Nat × Nat → Nat × Nat × Nat) (hf : ∀ a b c, ∃ d, f (a, b, c) = (a, b, d)) : PendOk (p.modify k f) rs := by
  refine ⟨by rw [List.length_modify]; exact h.1, fun i x hx => ?_⟩
  obtain ⟨q, hq⟩ := h.2 i x hx
  rw [List.getElem?_modify, hq]
  by_cases c : k = i
  · obtain ⟨d, hd⟩ := hf (rs.take i).flatten.length x.length q
    exact ⟨d, by rw [Option.map_eq_map, Option.map_some, if_pos c, hd]⟩
  · exact ⟨q, by simp [c]⟩
theorem pend_merge {p : List (Nat × Nat × Nat)} {U B : List (List Keyed)} {X Y Z : List Keyed} {pw : Nat} (h : PendOk p (U ++ (X :: Y :: B))) (hz : Z.length = X.length + Y.length) : PendOk ((p.set U.length (U.flatten.length, X.length + Y.length, pw)).eraseIdx (U.length + 1)) (U ++ (Z :: B)) := by
  have hl := h.1
  simp only [List.length_append, List.length_cons] at hl
  refine ⟨by rw [List.length_eraseIdx_of_lt (by rw [List.length_set]; omega), List.length_set]; simp only [List.length_append, List.length_cons]; omega, fun i x hx => ?_⟩
  rw [List.getElem?_eraseIdx]
  by_cases c1 : i < U.length
  · rw [if_pos (by omega), List.getElem?_set_ne (by omega)]
    rw [List.getElem?_append_left c1] at hx
    obtain ⟨q, hq⟩ := h.2 i x (by rw [List.getElem?_append_left c1]; exact hx)
    refine ⟨q, ?_⟩
    rw [hq, List.take_append_of_le_length (by omega), List.take_append_of_le_length (by omega)]
  · by_cases c2 : i = U.length
    · subst c2
      rw [List.getElem?_append_right (Nat.le_refl _), Nat.sub_self] at hx
      simp at hx
      subst hx
      refine ⟨pw, ?_⟩
      rw [if_pos (by omega), List.getElem?_set_self (by omega), hz, List.take_append_of_le_length (Nat.le_refl _), List.take_of_length_le (Nat.le_refl _)]
    · rw [if_neg (by omega), List.getElem?_set_ne (by omega)]
      obtain ⟨j, rfl⟩ : ∃ j, i = U.length + (j + 1) := ⟨i - U.length - 1, by omega⟩
      rw [List.getElem?_append_right (by omega), Nat.add_sub_cancel_left, List.getElem?_cons_succ] at hx
      obtain ⟨q, hq⟩ := h.2 (U.length + (j + 1 + 1)) x (by
        rw [List.getElem?_append_right (by omega), Nat.add_sub_cancel_left, List.getElem?_cons_succ, List.getElem?_cons_succ]
        exact hx)
      refine ⟨q, ?_⟩
      rw [show U.length + (j + 1) + 1 = U.length + (j + 1 + 1) by omega, hq]
      congr 2
      rw [List.take_append, List.take_append, List.take_of_length_le (l := U) (by omega), List.take_of_length_le (l := U) (by omega), Nat.add_sub_cancel_left, Nat.add_sub_cancel_left]
      simp only [List.take_succ_cons, List.flatten_append, List.flatten_cons, List.length_append]
      omega
end
end L2

namespace L2
open PySem PySem.Spec PyProof.Rows
section
variable {prog : Program} {w : World} {A : Around} {E : Value → Shared → Prop} {s : Shared} {kd : SortKind} {D : Keyed → Prop} {lt : Keyed → Keyed → Bool}
/-- runs waiting, behind which S stands -/
structure Rn (lt : Keyed → Keyed → Bool) (kd : SortKind) (l₀ : List Keyed) (rs : List (List Keyed)) (S : List Keyed) (st : SortSt) : Prop where
  arr : (arrOf st).toList = rs.flatten ++ S
  srt : ∀ r ∈ rs, Srt lt r ∧ 0 < r.length
  pend : PendOk (pendingOf st).toList rs
  perm : (arrOf st).toList.Perm l₀
  kind : kindOf st = kd
  fail : failedOf st = none
theorem Rn.cut {l₀ : List Keyed} {rs : List (List Keyed)} {S : List Keyed} {st : SortSt} (R : Rn lt kd l₀ rs S st) {i : Nat} (hi : i + 1 < rs.length) : ∃ U X Y B, rs = U ++ (X :: Y :: B) ∧ U.length = i := by
  refine ⟨rs.take i, rs[i], rs[i + 1], rs.drop (i + 2), ?_, by rw [List.length_take]; omega⟩
  conv => lhs; rw [← List.take_append_drop i rs, List.drop_eq_getElem_cons (by omega), List.drop_eq_getElem_cons (by omega)]
theorem mergeRn (C : Cmp prog w A E s kd D lt) {l₀ : List Keyed} {rs : List (List Keyed)} {S : List Keyed} {st : SortSt} {i : Nat} {Q : Bool → SortSt → Prop} (R : Rn lt kd l₀ rs S st) (hD : ∀ x ∈ l₀, D x) (hi : i + 1 < rs.length)
    (h : ∀ rs' st', Rn lt kd l₀ rs' S st' → rs'.length + 1 = rs.length → rs'.flatten.length = rs.flatten.length → Q true st') : wpS (model prog w) A E s (mergeAt_ i) Q st := by
  obtain ⟨U, X, Y, B, rfl, rfl⟩ := R.cut hi
  obtain ⟨p1, e1⟩ := R.pend.2 U.length X (by rw [List.getElem?_append_right (Nat.le_refl _), Nat.sub_self]; rfl)
  obtain ⟨p2, e2⟩ := R.pend.2 (U.length + 1) Y (by rw [List.getElem?_append_right (by omega), Nat.add_sub_cancel_left]; rfl)
  rw [List.take_append_of_le_length (Nat.le_refl _), List.take_of_length_le (Nat.le_refl _), Array.getElem?_toList] at e1
  rw [List.take_append, List.take_of_length_le (by omega), Nat.add_sub_cancel_left, List.take_succ_cons, List.take_zero, Array.getElem?_toList] at e2
  simp only [List.flatten_append, List.flatten_cons, List.flatten_nil, List.append_nil, List.length_append] at e2
  have hX := R.srt X (by simp)
  have hY := R.srt Y (by simp)
  refine mergeAt_ok C (P := U.flatten) (X := X) (Y := Y) (S := B.flatten ++ S) e1 e2 (by rw [R.arr]; simp only [List.flatten_append, List.flatten_cons, List.append_assoc]) rfl rfl rfl rfl hX.2 hY.2 hX.1 hY.1 (fun x hx => hD x (R.perm.mem_iff.mp hx)) R.kind R.fail fun Z st' sZ pZ aZ pe kz fz => ?_
  have lz : Z.length = X.length + Y.length := by rw [pZ.length_eq, List.length_append]
  refine h (U ++ (Z :: B)) st' ⟨?_, fun r hr => ?_, ?_, ?_, kz, fz⟩ ?_ ?_
  · rw [aZ]; simp only [List.flatten_append, List.flatten_cons, List.append_assoc]
  · rcases List.mem_append.mp hr with z | z
    · exact R.srt r (List.mem_append_left _ z)
    · rcases List.mem_cons.mp z with rfl | z
      · exact ⟨sZ, by omega⟩
      · exact R.srt r (by simp [z])
  · rw [pe, Array.toList_eraseIdxIfInBounds, Array.toList_setIfInBounds]
    exact pend_merge R.pend lz
  · refine List.Perm.trans ?_ R.perm
    rw [aZ, R.arr]
    simp only [List.flatten_append, List.flatten_cons, List.append_assoc]
    refine List.Perm.append_left _ ?_
    rw [← List.append_assoc X]
    exact pZ.append_right _
  · simp
    omega
  · simp only [List.flatten_append, List.flatten_cons, List.length_append]
    omega
theorem Rn.low {l₀ : List Keyed} {rs : List (List Keyed)} {S : List Keyed} {st : SortSt} (R : Rn lt kd l₀ rs S st) : rs.length ≤ rs.flatten.length := by
  have : ∀ rs : List (List Keyed), (∀ r ∈ rs, 0 < r.length) → rs.length ≤ rs.flatten.length := by
    intro rs
    induction rs with
    | nil => intro _; exact Nat.le_refl _
    | cons r rs ih =>
      intro hr
      have h1 := hr r List.mem_cons_self
      have h2 := ih fun x hx => hr x (List.mem_cons_of_mem _ hx)
      rw [List.length_cons, List.flatten_cons, List.length_append]
      omega
  exact this rs fun r hr => (R.srt r hr).2
/-- what stands behind the runs is put in another order -/
theorem Rn.put {l₀ : List Keyed} {rs : List (List Keyed)} {S : List Keyed} {st st' : SortSt} {n : Nat} (R : Rn lt kd l₀ rs S st) (k : Kp rs.flatten.length n st st') : ∃ S', Rn lt kd l₀ rs S' st' ∧ S'.length = S.length := by
  have hlen : (arrOf st').toList.length = (arrOf st).toList.length := k.perm.length_eq
  have et : (arrOf st').toList.take rs.flatten.length = rs.flatten := by
    have e0 : (arrOf st).toList.take rs.flatten.length = rs.flatten := by rw [R.arr, List.take_append_of_le_length (Nat.le_refl _), List.take_of_length_le (Nat.le_refl _)]
    rw [← e0]
    refine List.ext_getElem? fun i => ?_
    by_cases c : i < rs.flatten.length
    · rw [List.getElem?_take_of_lt (by rw [e0]; exact c), List.getElem?_take_of_lt c, Array.getElem?_toList, Array.getElem?_toList]
      exact k.out i (.inl c)
    · rw [List.getElem?_eq_none (by rw [List.length_take, e0]; omega), List.getElem?_eq_none (by rw [List.length_take]; omega)]
  refine ⟨(arrOf st').toList.drop rs.flatten.length, ⟨?_, R.srt, by rw [k.pend]; exact R.pend, k.perm.trans R.perm, k.kind.trans R.kind, k.fail.trans R.fail⟩, ?_⟩
  · conv => lhs; rw [← List.take_append_drop rs.flatten.length (arrOf st').toList, et]
  · rw [List.length_drop, hlen, R.arr, List.length_append]; omega
theorem Rn.seg {l₀ : List Keyed} {rs : List (List Keyed)} {S : List Keyed} {st : SortSt} (C : Wo lt) (R : Rn lt kd l₀ rs S st) {n : Nat} (hn : n ≤ S.length) (h : SrtS lt (arrOf st) rs.flatten.length n) : Srt lt (S.take n) := by
  refine List.pairwise_iff_getElem.mpr fun i j hi hj hij => ?_
  rw [List.length_take] at hi hj
  have at_ : ∀ k (hk : k < S.length), (arrOf st)[rs.flatten.length + k]? = some S[k] := fun k hk => by
    rw [← Array.getElem?_toList, R.arr, List.getElem?_append_right (by omega), Nat.add_sub_cancel_left, List.getElem?_eq_getElem hk]
  rw [List.getElem_take, List.getElem_take]
  exact h i j _ _ (by omega) (by omega) (at_ i (by omega)) (at_ j (by omega))
theorem Rn.more {l₀ : List Keyed} {rs : List (List Keyed)} {S : List Keyed} {st : SortSt} (R : Rn lt kd l₀ rs S st) {n : Nat} (h0 : 0 < n) (hn : n ≤ S.length) (h : Srt lt (S.take n)) {g : Nat} {pw : Nat} :
    Rn lt kd l₀ (rs ++ [S.take n]) (S.drop n) (SortSt.mk' (kindOf st) (arrOf st) ((pendingOf st).push (rs.flatten.length, n, pw)) g (failedOf st)) := by
  refine ⟨?_, fun r hr => ?_, ?_, R.perm, R.kind, R.fail⟩
  · show (arrOf st).toList = _
    rw [R.arr]
    simp only [List.flatten_append, List.flatten_cons, List.flatten_nil, List.append_nil, List.append_assoc, List.take_append_drop]
  · rcases List.mem_append.mp hr with z | z
    · exact R.srt r z
    · rw [List.mem_singleton.mp z]
      exact ⟨h, by rw [List.length_take]; omega⟩
  · show PendOk ((pendingOf st).push _).toList _
    rw [Array.toList_push]
    have := pend_push R.pend (S.take n) pw
    rw [show (S.take n).length = n by rw [List.length_take]; omega] at this
    exact this
theorem ite_pred {c : Bool} {k : Nat} : (if c = true then k - 1 else k) ≤ k := by split <;> omega
theorem Rn.pow {l₀ : List Keyed} {rs : List (List Keyed)} {S : List Keyed} {st : SortSt} (R : Rn lt kd l₀ rs S st) {k g : Nat} {f : Nat × Nat × Nat → Nat × Nat × Nat} (hf : ∀ a b c, ∃ d, f (a, b, c) = (a, b, d)) :
    Rn lt kd l₀ rs S (SortSt.mk' (kindOf st) (arrOf st) ((pendingOf st).modify k f) g (failedOf st)) := by
  refine ⟨R.arr, R.srt, ?_, R.perm, R.kind, R.fail⟩
  show PendOk ((pendingOf st).modify k f).toList rs
  rw [Array.toList_modify]
  exact pend_pow R.pend k f hf
theorem wpS_le {β : Type} {M : Model} {st : SortSt} {Q : β → SortSt → Prop} {k n : Nat} {X Y : StateT SortSt Sem β} (h1 : k ≤ n → wpS M A E s X Q st) (h2 : n < k → wpS M A E s Y Q st) : wpS M A E s (if k ≤ n then X else Y) Q st := by
  by_cases h : k ≤ n
  · rw [if_pos h]; exact h1 h
  · rw [if_neg h]; exact h2 (by omega)
theorem wpS_lt {β : Type} {M : Model} {st : SortSt} {Q : β → SortSt → Prop} {k n : Nat} {X Y : StateT SortSt Sem β} (h1 : k < n → wpS M A E s X Q st) (h2 : n ≤ k → wpS M A E s Y Q st) : wpS M A E s (if k < n then X else Y) Q st := by
  by_cases h : k < n
  · rw [if_pos h]; exact h1 h
  · rw [if_neg h]; exact h2 (by omega)
theorem sortRuns_ok (C : Cmp prog w A E s kd D lt) {st : SortSt} {Q : Unit → SortSt → Prop} (hD : ∀ x ∈ (arrOf st).toList, D x) (hk : kindOf st = kd) (hf : failedOf st = none) (hp : pendingOf st = #[])
    (h : ∀ st', (arrOf st').toList.Perm (arrOf st).toList → Srt lt (arrOf st').toList → failedOf st' = none → Q () st') : wpS (model prog w) A E s sortRuns_ Q st := by
  have zs : (arrOf st).size = (arrOf st).toList.length := by simp
  have R0 : Rn lt kd (arrOf st).toList [] (arrOf st).toList st := ⟨rfl, fun r hr => (by cases hr), by rw [hp]; exact pend_nil, .refl _, hk, hf⟩
  refine wpS_bind (wpS_get ?_)
  refine wpS_bind (wpS_mono (wpS_forRange (a := 0) (b := (arrOf st).size) (I := fun x c st' => ∃ rs S, c = (none, rs.flatten.length) ∧ Rn lt kd (arrOf st).toList rs S st' ∧ (x ≤ rs.flatten.length ∨ S = []))
    (Q := fun c st' => ∃ rs, c.1 = none ∧ Rn lt kd (arrOf st).toList rs [] st') ?_ ?_ ⟨[], _, rfl, R0, .inl (Nat.zero_le _)⟩) ?_)
  · rintro x c st1 _ hx ⟨rs, S, rfl, R, pr⟩
    have ln : rs.flatten.length + S.length = (arrOf st).size := by
      have := R.perm.length_eq
      rw [R.arr, List.length_append] at this
      omega
    have z1 : (arrOf st1).size = (arrOf st).size := by
      have := R.perm.length_eq
      simpa using this
    by_cases c0 : rs.flatten.length ≥ (arrOf st).size
    · show wpS _ _ _ _ (if rs.flatten.length ≥ (arrOf st).size then _ else _) _ _
      rw [if_pos c0]
      obtain rfl : S = [] := List.length_eq_zero_iff.mp (by omega)
      exact wpS_pure ⟨rs, rfl, R⟩
    · show wpS _ _ _ _ (if rs.flatten.length ≥ (arrOf st).size then _ else _) _ _
      rw [if_neg c0]
      refine wpS_bind (countRun_ok C (lo := rs.flatten.length) (n := (arrOf st).size - rs.flatten.length) (by omega) (by omega) (fun y hy => hD y (R.perm.mem_iff.mp hy)) R.kind fun m st2 m1 m2 kp sm => ?_)
      obtain ⟨S2, R2, l2⟩ := R.put kp
      have sz2 : m ≤ S2.length := by omega
      have z2 : (arrOf st2).size = (arrOf st).size := by rw [kp.size, z1]
      have prx : x ≤ rs.flatten.length := by
        rcases pr with z | z
        · exact z
        · have := congrArg List.length z
          rw [List.length_nil] at this
          omega
      show wpS _ _ _ _ (if m < (sortPriv% PySem.Builtin.minRun) (arrOf st).size (arrOf st).size 0 then _ else _) _ _
      generalize (sortPriv% PySem.Builtin.minRun) (arrOf st).size (arrOf st).size 0 = mr
      refine wpS_lt (fun c1 => ?_) (fun c1 => ?_)
      · refine wpS_bind (wpS_lift (wpAny_rule ⟨rfl, ?_⟩))
        refine wpS_bind (binarySort_ok C (lo := rs.flatten.length) (n := min ((arrOf st).size - rs.flatten.length) mr) (ok := m) m1 (by omega) (by omega) (fun y hy => hD y (R2.perm.mem_iff.mp hy)) R2.kind sm fun st3 kp3 sm3 => ?_)
        obtain ⟨S3, R3, l3⟩ := R2.put kp3
        have hn0 : 0 < min ((arrOf st).size - rs.flatten.length) mr := by omega
        have hn1 : min ((arrOf st).size - rs.flatten.length) mr ≤ S3.length := by omega
        have hs := R3.seg C.wo hn1 sm3
        refine wpS_bind (wpS_get ?_)
        generalize hbk : (pendingOf st3).back? = bk
        cases bk with
        | none =>
          have l5 : rs.flatten.length = rs.flatten.length := rfl
          refine wpS_bind (wpS_modify ?_)
          have R6 := R3.more (pw := 0) (g := gallopOf (st3)) hn0 hn1 hs
          rw [l5] at R6
          refine wpS_pure ⟨rs ++ [S3.take (min ((arrOf st).size - rs.flatten.length) mr)], S3.drop (min ((arrOf st).size - rs.flatten.length) mr), ?_, R6, .inl ?_⟩
          · show ((none : Option Unit), rs.flatten.length + (min ((arrOf st).size - rs.flatten.length) mr)) = _
            congr 1
            simp only [List.flatten_append, List.flatten_cons, List.flatten_nil, List.append_nil, List.length_append, List.length_take]
            omega
          · simp only [List.flatten_append, List.flatten_cons, List.flatten_nil, List.append_nil, List.length_append, List.length_take]
            omega

        | some t =>
          obtain ⟨s1, n1, w1⟩ := t
          refine wpS_bind (wpS_mono (wpS_forRange (a := 0) (b := (arrOf st).size) (I := fun _ c st' => c = (none, ()) ∧ ∃ rs', Rn lt kd (arrOf st).toList rs' S3 st' ∧ rs'.flatten.length = rs.flatten.length) (Q := fun c st' => c = (none, ()) ∧ ∃ rs', Rn lt kd (arrOf st).toList rs' S3 st' ∧ rs'.flatten.length = rs.flatten.length) ?_ (fun _ _ z => z) ⟨rfl, rs, R3, rfl⟩) ?_)
          · rintro y c st4 _ _ ⟨rfl, rs', R4, l4⟩
            have pl : (pendingOf st4).size = rs'.length := by rw [← R4.pend.1]; simp
            refine wpS_bind (wpS_get ?_)
            show wpS _ _ _ _ (match (if (pendingOf st4).size > 1 then (pendingOf st4)[(pendingOf st4).size - 2]? else none) with | some (_, _, older) => _ | x => _) _ _
            by_cases hp1 : (pendingOf st4).size > 1
            · rw [if_pos hp1]
              obtain ⟨t, ht⟩ : ∃ t, (pendingOf st4)[(pendingOf st4).size - 2]? = some t := ⟨_, getElem?_pos _ _ (by omega)⟩
              rw [ht]
              obtain ⟨a1, a2, older⟩ := t
              refine wpS_le (fun _ => wpS_pure ⟨rfl, rs', R4, l4⟩) (fun _ => ?_)
              refine wpS_bind (mergeRn C R4 hD (i := (pendingOf st4).size - 2) (by omega) fun rs'' st5 R5 a5 b5 => ?_)
              exact wpS_pure ⟨rfl, rs'', R5, by omega⟩
            · rw [if_neg hp1]
              exact wpS_pure ⟨rfl, rs', R4, l4⟩
          · rintro c st4 ⟨rfl, rs', R4, l5⟩
            refine wpS_bind (wpS_modify ?_)
            have R5 := R4.pow (k := (pendingOf st4).size - 1) (f := fun x => match x with | (u, len, _) => (u, len, (sortPriv% PySem.Builtin.power) (arrOf st).size (2 * s1 + n1) (2 * s1 + n1 + n1 + (min ((arrOf st).size - rs.flatten.length) mr)) (arrOf st).size)) (g := gallopOf st4) fun a b c => ⟨_, rfl⟩
            refine wpS_bind (wpS_modify ?_)
            have R6 := R5.more (pw := 0) (g := gallopOf (st4)) hn0 hn1 hs
            rw [l5] at R6
            refine wpS_pure ⟨rs' ++ [S3.take (min ((arrOf st).size - rs.flatten.length) mr)], S3.drop (min ((arrOf st).size - rs.flatten.length) mr), ?_, R6, .inl ?_⟩
            · show ((none : Option Unit), rs.flatten.length + (min ((arrOf st).size - rs.flatten.length) mr)) = _
              congr 1
              simp only [List.flatten_append, List.flatten_cons, List.flatten_nil, List.append_nil, List.length_append, List.length_take]
              omega
            · simp only [List.flatten_append, List.flatten_cons, List.flatten_nil, List.append_nil, List.length_append, List.length_take]
              omega


      · have hs := R2.seg C.wo sz2 sm
        have hn0 : 0 < m := by omega
        refine wpS_bind (wpS_get ?_)
        generalize hbk : (pendingOf st2).back? = bk
        cases bk with
        | none =>
          have l5 : rs.flatten.length = rs.flatten.length := rfl
          refine wpS_bind (wpS_modify ?_)
          have R6 := R2.more (pw := 0) (g := gallopOf (st2)) hn0 sz2 hs
          rw [l5] at R6
          refine wpS_pure ⟨rs ++ [S2.take (m)], S2.drop (m), ?_, R6, .inl ?_⟩
          · show ((none : Option Unit), rs.flatten.length + (m)) = _
            congr 1
            simp only [List.flatten_append, List.flatten_cons, List.flatten_nil, List.append_nil, List.length_append, List.length_take]
            omega
          · simp only [List.flatten_append, List.flatten_cons, List.flatten_nil, List.append_nil, List.length_append, List.length_take]
            omega

        | some t =>
          obtain ⟨s1, n1, w1⟩ := t
          refine wpS_bind (wpS_mono (wpS_forRange (a := 0) (b := (arrOf st).size) (I := fun _ c st' => c = (none, ()) ∧ ∃ rs', Rn lt kd (arrOf st).toList rs' S2 st' ∧ rs'.flatten.length = rs.flatten.length) (Q := fun c st' => c = (none, ()) ∧ ∃ rs', Rn lt kd (arrOf st).toList rs' S2 st' ∧ rs'.flatten.length = rs.flatten.length) ?_ (fun _ _ z => z) ⟨rfl, rs, R2, rfl⟩) ?_)
          · rintro y c st4 _ _ ⟨rfl, rs', R4, l4⟩
            have pl : (pendingOf st4).size = rs'.length := by rw [← R4.pend.1]; simp
            refine wpS_bind (wpS_get ?_)
            show wpS _ _ _ _ (match (if (pendingOf st4).size > 1 then (pendingOf st4)[(pendingOf st4).size - 2]? else none) with | some (_, _, older) => _ | x => _) _ _
            by_cases hp1 : (pendingOf st4).size > 1
            · rw [if_pos hp1]
              obtain ⟨t, ht⟩ : ∃ t, (pendingOf st4)[(pendingOf st4).size - 2]? = some t := ⟨_, getElem?_pos _ _ (by omega)⟩
              rw [ht]
              obtain ⟨a1, a2, older⟩ := t
              refine wpS_le (fun _ => wpS_pure ⟨rfl, rs', R4, l4⟩) (fun _ => ?_)
              refine wpS_bind (mergeRn C R4 hD (i := (pendingOf st4).size - 2) (by omega) fun rs'' st5 R5 a5 b5 => ?_)
              exact wpS_pure ⟨rfl, rs'', R5, by omega⟩
            · rw [if_neg hp1]
              exact wpS_pure ⟨rfl, rs', R4, l4⟩
          · rintro c st4 ⟨rfl, rs', R4, l5⟩
            refine wpS_bind (wpS_modify ?_)
            have R5 := R4.pow (k := (pendingOf st4).size - 1) (f := fun x => match x with | (u, len, _) => (u, len, (sortPriv% PySem.Builtin.power) (arrOf st).size (2 * s1 + n1) (2 * s1 + n1 + n1 + (m)) (arrOf st).size)) (g := gallopOf st4) fun a b c => ⟨_, rfl⟩
            refine wpS_bind (wpS_modify ?_)
            have R6 := R5.more (pw := 0) (g := gallopOf (st4)) hn0 sz2 hs
            rw [l5] at R6
            refine wpS_pure ⟨rs' ++ [S2.take (m)], S2.drop (m), ?_, R6, .inl ?_⟩
            · show ((none : Option Unit), rs.flatten.length + (m)) = _
              congr 1
              simp only [List.flatten_append, List.flatten_cons, List.flatten_nil, List.append_nil, List.length_append, List.length_take]
              omega
            · simp only [List.flatten_append, List.flatten_cons, List.flatten_nil, List.append_nil, List.length_append, List.length_take]
              omega


  · rintro c st1 ⟨rs, S, rfl, R, pr⟩
    have ln : rs.flatten.length + S.length = (arrOf st).size := by
      have := R.perm.length_eq
      rw [R.arr, List.length_append] at this
      omega
    obtain rfl : S = [] := by
      rcases pr with z | z
      · exact List.length_eq_zero_iff.mp (by omega)
      · exact z
    exact ⟨rs, rfl, R⟩
  · rintro c st1 ⟨rs, hc, R⟩
    obtain ⟨c1, c2⟩ := c
    dsimp only at hc
    subst hc
    refine wpS_bind (wpS_mono (wpS_forRange (a := 0) (b := (arrOf st).size) (I := fun x c st' => c = (none, ()) ∧ ∃ rs', Rn lt kd (arrOf st).toList rs' [] st' ∧ rs'.length + x ≤ (arrOf st).size) (Q := fun c st' => c = (none, ()) ∧ ∃ rs', Rn lt kd (arrOf st).toList rs' [] st' ∧ rs'.length ≤ 1) ?_ ?_ ⟨rfl, rs, R, ?_⟩) ?_)
    · rintro y c st4 _ _ ⟨rfl, rs', R4, l4⟩
      have pl : (pendingOf st4).size = rs'.length := by rw [← R4.pend.1]; simp
      refine wpS_bind (wpS_get ?_)
      show wpS _ _ _ _ (if (pendingOf st4).size ≤ 1 then _ else _) _ _
      refine wpS_le (fun z => wpS_pure ⟨rfl, rs', R4, by omega⟩) (fun z => ?_)
      refine wpS_bind (mergeRn C R4 hD ?_ fun rs'' st5 R5 a5 b5 => ?_)
      · show (if _ = true then (pendingOf st4).size - 2 - 1 else (pendingOf st4).size - 2) + 1 < _
        exact Nat.lt_of_le_of_lt (Nat.succ_le_succ ite_pred) (by omega)
      · exact wpS_pure ⟨rfl, rs'', R5, by omega⟩
    · rintro c st4 ⟨rfl, rs', R4, l4⟩
      exact ⟨rfl, rs', R4, by omega⟩
    · have := R.low
      have := R.perm.length_eq
      rw [R.arr, List.append_nil] at this
      omega
    · rintro c st4 ⟨rfl, rs', R4, l4⟩
      refine wpS_pure (h st4 R4.perm ?_ R4.fail)
      rw [R4.arr, List.append_nil]
      match rs', l4, R4 with
      | [], _, _ => exact .nil
      | [r], _, R4 => simpa using (R4.srt r (by simp)).1
      | _ :: _ :: _, l4, _ => simp at l4
end
end L2

/-! tuples of ints, one less than another -/
namespace L2
open PySem PySem.Spec PyProof.Rows
def lexLt : List Int → List Int → Bool
  | [], [] => false
  | [], _ :: _ => true
  | _ :: _, [] => false
  | a :: as, b :: bs => if a = b then lexLt as bs else decide (a < b)
open PySem.SeqAt AutoSeq1 in
theorem tuple_ltAt (l b : Addr) (items items2 : Array Value) (n n2 : Nat) (dd dd2 : Option Addr) (sl sl2 : Array (Option Value)) (xs ys : List Int) (hx : IntsAre items.toList xs) (hy : IntsAre items2.toList ys) :
    Meets (Builtin.«tuple.__lt__» ⟨[.ref l, .ref b], []⟩) (fun A R s => s.heap.get? l = some { cls := .type "tuple", dict := dd, data := .seq items n, slots := sl } ∧ s.heap.get? b = some { cls := .type "tuple", dict := dd2, data := .seq items2 n2, slots := sl2 } ∧ R (.ok (.ret (.bool (lexLt xs ys)))) s) :=
  .of_wp fun prog w A R s h => by
    obtain ⟨hp, g, d, tk, os⟩ := s; obtain ⟨hl, hb, h⟩ := h
    have := AutoSeq1.sub_tuple_tuple
    have lx : items.size = xs.length := by rw [← Array.length_toList]; exact IntsAre.length hx
    have ly : items2.size = ys.length := by rw [← Array.length_toList]; exact IntsAre.length hy
    wp_walk using wpAny_loadPart' hl, wpAny_loadPart' hb, wpAny_forIn_list _ (fun rest r s' => r.1 = none ∧ s' = ⟨hp, g, d, tk, os⟩ ∧ ∃ us vs ps qs, rest = us.zip vs ∧ IntsAre us ps ∧ IntsAre vs qs ∧ lexLt xs ys = lexLt ps qs ∧ (xs.length < ys.length ↔ ps.length < qs.length)) _
    case turn =>
      rintro _ rest r s' ⟨_, rfl, us, vs, ps, qs, e, hu, hv, le, ln⟩
      cases hu with
      | nil => cases e
      | cons p t hu =>
        cases hv with
        | nil => cases e
        | cons q u hv =>
          cases e
          rw [lexLt] at le
          refine wpAny_bind (wpAny_eqBool_int ?_)
          by_cases z : p = q
          · rw [if_neg (by simp [z])]
            exact wpAny_pure ⟨rfl, rfl, _, _, _, _, rfl, hu, hv, by rw [le, if_pos z], by simpa using ln⟩
          · rw [if_pos (by simp [z])]
            rw [le, if_neg z] at h
            refine wpAny_bind (wpAny_rule (wpAny_bind (wpAny_lt_int ?_)))
            wp_walk
            exact ⟨_, rfl, h⟩
    case fin =>
      rintro ⟨_, _⟩ s' ⟨hr, rfl, us, vs, ps, qs, e, hu, hv, le, ln⟩
      cases hr
      have : lexLt ps qs = decide (items.size < items2.size) := by
        rw [lx, ly, show decide (xs.length < ys.length) = decide (ps.length < qs.length) from decide_eq_decide.mpr ln]
        cases hu with
        | nil => cases hv <;> simp [lexLt]
        | cons => cases hv with
          | nil => simp [lexLt]
          | cons => cases e
      rw [le, this] at h
      wp_walk
      exact ⟨_, rfl, h⟩
    case h => exact ⟨rfl, rfl, _, _, _, _, rfl, hx, hy, rfl, Iff.rfl⟩
theorem lex_irr : ∀ xs : List Int, lexLt xs xs = false
  | [] => rfl
  | a :: as => by rw [lexLt, if_pos rfl]; exact lex_irr as
theorem lex_neg : ∀ (xs ys zs : List Int), lexLt xs zs = true → lexLt xs ys = true ∨ lexLt ys zs = true
  | [], [], [], h => by simp [lexLt] at h
  | [], [], _ :: _, h => .inr rfl
  | [], _ :: _, _, h => .inl rfl
  | _ :: _, _, [], h => by simp [lexLt] at h
  | _ :: _, [], _ :: _, h => .inr rfl
  | a :: as, b :: bs, c :: cs, h => by
    simp only [lexLt] at h ⊢
    by_cases e1 : a = c
    · subst e1
      rw [if_pos rfl] at h
      by_cases e2 : a = b
      · subst e2
        rw [if_pos rfl, if_pos rfl]
        exact lex_neg as bs cs h
      · rw [if_neg e2, if_neg (Ne.symm e2), decide_eq_true_eq, decide_eq_true_eq]
        omega
    · rw [if_neg e1, decide_eq_true_eq] at h
      by_cases e2 : a = b
      · subst e2
        rw [if_neg e1]
        exact .inr (decide_eq_true h)
      · rw [if_neg e2]
        by_cases e3 : b = c
        · subst e3
          exact .inl (decide_eq_true h)
        · rw [if_neg e3, decide_eq_true_eq, decide_eq_true_eq]
          omega
theorem lex_asym : ∀ (xs ys : List Int), lexLt xs ys = true → lexLt ys xs = false
  | [], [], h => by simp [lexLt] at h
  | [], _ :: _, _ => rfl
  | _ :: _, [], h => by simp [lexLt] at h
  | a :: as, b :: bs, h => by
    simp only [lexLt] at h ⊢
    by_cases e : a = b
    · subst e
      rw [if_pos rfl] at h ⊢
      exact lex_asym as bs h
    · rw [if_neg e, decide_eq_true_eq] at h
      rw [if_neg (Ne.symm e)]
      exact decide_eq_false (by omega)
section
variable {prog : Program} {w : World} {A : Around} {E : Value → Shared → Prop} {s : Shared} {a b : Addr} {xs ys : List Int}
/-- at a stands the tuple, or list, of these ints -/
def SeqI (T : String) (h : Heap) (a : Addr) (ks : List Int) : Prop := ∃ (vs : Array Value) (dd : Option Addr) (n : Nat) (sl : Array (Option Value)), h.get? a = some { cls := .type T, dict := dd, data := .seq vs n, slots := sl } ∧ IntsAre vs.toList ks
abbrev TupI := SeqI "tuple"
theorem rich_ltT {Q : Value → Shared → Prop} (ha : TupI s.heap a xs) (hb : TupI s.heap b ys) (hu : A.units < cLine) (h : Q (.bool (lexLt xs ys)) s) : wpAny (model prog w) A (richCompare .Lt (.ref a) (.ref b)) Q E s := by
  obtain ⟨vs, dd, n, sl, e, i⟩ := ha
  obtain ⟨vs2, dd2, n2, sl2, e2, i2⟩ := hb
  exact richCompare_meets_room (op := .Lt) ⟨_, e, rfl⟩ ⟨_, e2, rfl⟩ F.slot_tuple_lt F.entry_tuple_lt (F.args_tuple_lt_2 _ _) (tuple_ltAt a b vs vs2 n n2 dd dd2 sl sl2 xs ys i i2) ⟨e, e2, show Value.bool (lexLt xs ys) ≠ Value.notImplemented ∧ Q _ s from ⟨(fun x => nomatch x), h⟩⟩ hu
theorem one_gen {Q : Bool → Shared → Prop} (ha : TupI s.heap a xs) (hb : TupI s.heap b ys) (hu : A.units < cLine) (h : Q (lexLt xs ys) s) : wpAny (model prog w) A (oneLt' false (.ref a) (.ref b)) Q E s := by
  rw [oneLt'_eq]
  simp only [Bool.false_eq_true, if_false]
  exact wpAny_bind (rich_ltT ha hb hu (wpAny_truthy_bool h))
end
end L2

/-! list.sort and sorted of tuples of ints, however many -/
namespace L2
open PySem PySem.Spec PyProof.Rows
section
variable {prog : Program} {w : World} {A : Around} {E : Value → Shared → Prop} {s : Shared} {a b : Addr} {xs ys : List Int}
def keyW (h : Heap) : Value → List Int
  | .ref a => match h.get? a with
    | some o => match o.data with
      | .seq vs _ => vs.toList.map numOf
      | _ => []
    | none => []
  | _ => []
theorem SeqI.key {T : String} {h : Heap} (x : SeqI T h a xs) : keyW h (.ref a) = xs := by
  obtain ⟨vs, dd, n, sl, e, i⟩ := x
  show (match h.get? a with | some o => _ | none => _) = _
  rw [e]
  exact i.nums
theorem SeqI.kept {T : String} {h h' : Heap} (x : SeqI T h a xs) (k : ∀ o, h.get? a = some o → h'.get? a = some o) : SeqI T h' a xs :=
  let ⟨vs, dd, n, sl, e, i⟩ := x; ⟨vs, dd, n, sl, k _ e, i⟩
theorem one_one {Q : Bool → Shared → Prop} (ha : TupI s.heap a xs) (hb : TupI s.heap b ys) (hu : A.units < cLine) (h : Q (lexLt xs ys) s) : wpAny (model prog w) A (oneLt' true (.ref a) (.ref b)) Q E s := by
  rw [oneLt'_eq]
  simp only [if_true]
  refine wpAny_bind (wpAny_cRoomFor hu ?_)
  obtain ⟨vs, dd, n, sl, e, i⟩ := ha
  obtain ⟨vs2, dd2, n2, sl2, e2, i2⟩ := hb
  refine wpAny_bind (wpAny_callSpecialIfBound?_slot (T := "tuple") ⟨_, e, rfl⟩ F.slot_tuple_lt ?_)
  refine call_meets F.slot_tuple_lt ⟨_, e, rfl⟩ F.entry_tuple_lt (F.args_tuple_lt_2 _ _) (tuple_ltAt a b vs vs2 n n2 dd dd2 sl sl2 xs ys i i2) ⟨e, e2, ?_⟩
  exact wpAny_bind (wpAny_truthy_bool (wpAny_pure h))
theorem lex_kat {c : Bool} {Q : Bool → Shared → Prop} : ∀ {us vs : List Value} {xs ys : List Int}, IntsAre us xs → IntsAre vs ys → ∀ (i : Nat) (fin : Bool), (xs.length < ys.length ↔ fin = true) → Q (lexLt xs ys) s → W.KatLex prog w A c fin Q (us.zip vs) i s
  | _, _, _, _, .nil, .nil, i, fin, hf, h => by
    have : fin = false := by cases fin with | false => rfl | true => exact absurd (hf.mpr rfl) (by simp)
    subst this; exact h
  | _, _, _, _, .nil, .cons n t hr, i, fin, hf, h => by
    have : fin = true := hf.mp (by simp)
    subst this; exact h
  | _, _, _, _, .cons n t hr, .nil, i, fin, hf, h => by
    have : fin = false := by cases fin with | false => rfl | true => exact absurd (hf.mpr rfl) (by simp)
    subst this; exact h
  | _, _, _, _, .cons n t hr, .cons m u hs, i, fin, hf, h => by
    refine W.kat_cons (wpAny_eqBool_int ?_)
    rw [lexLt] at h
    by_cases e : n = m
    · rw [if_pos e] at h
      rw [show (n == m) = true by simp [e]]
      exact W.kat_yes (lex_kat hr hs (i + 1) fin (by simpa using hf) h)
    · rw [if_neg e] at h
      rw [show (n == m) = false by simp [e]]
      refine W.kat_no ?_
      cases hc : (c && i == 0) with
      | true => exact oneLt_int h
      | false => exact W.kat_one _ _ (wpAny_lt_int h)
theorem tup_lt {c : Bool} {Q : Bool → Shared → Prop} (ha : TupI s.heap a xs) (hb : TupI s.heap b ys) (h : Q (lexLt xs ys) s) : wpAny (model prog w) A (keyLt' (tuples' c) (.ref a) (.ref b)) Q E s := by
  obtain ⟨vs, dd, n, sl, e, i⟩ := ha
  obtain ⟨vs2, dd2, n2, sl2, e2, i2⟩ := hb
  refine W.kat_lt e rfl e2 rfl (lex_kat i i2 0 _ ?_ h)
  have l1 := IntsAre.length i
  have l2 := IntsAre.length i2
  rw [Array.length_toList] at l1 l2
  rw [decide_eq_true_eq]
  omega
def Kd3 (kd : SortKind) : Prop := (∃ c, kd = tuples' c) ∨ kd = general' ∨ kd = oneType'
def DS (T : String) (s : Shared) (p : Keyed) : Prop := ∃ a ks, p.1 = .ref a ∧ SeqI T s.heap a ks
def ltW (s : Shared) (p q : Keyed) : Bool := lexLt (keyW s.heap p.1) (keyW s.heap q.1)
theorem cmp_words {kd : SortKind} (hkd : Kd3 kd) (hu : A.units < cLine) : Cmp prog w A E s kd (DS "tuple" s) (ltW s) where
  wo := ⟨fun p => lex_irr _, fun p q h => lex_asym _ _ h, fun p q r h => lex_neg _ _ _ h⟩
  cmp := fun p q st Q ⟨a, ks, e1, h1⟩ ⟨b, js, e2, h2⟩ hk h => by
    unfold ltW at h
    rw [e1, e2, h1.key, h2.key] at h
    rw [lt'_eq]
    refine wpS_bind (wpS_get ?_)
    rw [hk, e1, e2]
    refine wpS_bind (wpS_lift (wpAny_attempt ?_))
    rcases hkd with ⟨c, rfl⟩ | rfl | rfl
    · exact tup_lt h1 h2 ⟨rfl, wpS_pure h⟩
    · exact one_gen h1 h2 hu ⟨rfl, wpS_pure h⟩
    · exact one_one h1 h2 hu ⟨rfl, wpS_pure h⟩
theorem firsts_any {M : Model} : ∀ (vs : List Value) {Q : List (Option Value) → Shared → Prop}, (∀ v ∈ vs, ∃ a ks, v = .ref a ∧ TupI s.heap a ks) → (∀ fs : List (Option Value), (∀ f ∈ fs, f = none ∨ ∃ n t, f = some (.int n t)) → Q fs s) → wpAny M A (vs.mapM firstOfTuple') Q E s
  | [], Q, _, h => by rw [List.mapM_nil]; exact wpAny_pure (h [] fun f hf => by cases hf)
  | v :: vs, Q, hv, h => by
    obtain ⟨a, ks, rfl, ws, dd, n, sl, e, i⟩ := hv v List.mem_cons_self
    rw [List.mapM_cons]
    refine wpAny_bind ?_
    rw [W.kas_first_eq]
    refine wpAny_bind (wpAny_typeOf (T := "tuple") ⟨_, e, rfl⟩ ?_)
    rw [if_neg (by first | decide | simp)]
    refine wpAny_bind (listItems_at e rfl (wpAny_pure ?_))
    refine wpAny_bind (firsts_any vs (fun v hv' => hv v (List.mem_cons_of_mem _ hv')) fun fs hfs => wpAny_pure (h _ fun f hf => ?_))
    rcases List.mem_cons.mp hf with rfl | hf
    · cases e0 : ws[0]? with
      | none => exact .inl rfl
      | some x =>
        obtain ⟨t, et⟩ := IntsAre.int_at i 0 x (by rw [Array.getElem?_toList]; exact e0)
        exact .inr ⟨_, t, by rw [et]⟩
    · exact hfs f hf
theorem kind_words {M : Model} {vs : List Value} {Q : SortKind → Shared → Prop} (hv : ∀ v ∈ vs, ∃ a ks, v = .ref a ∧ TupI s.heap a ks) (h : ∀ kd, Kd3 kd → Q kd s) : wpAny M A (keyKind' vs.toArray) Q E s := by
  rw [kat_kind_eq, List.mapM_toArray, map_eq_pure_bind]
  refine wpAny_bind (wpAny_bind (firsts_any vs hv fun fs hfs => wpAny_pure ?_))
  refine wpAny_ite_split (fun _ => ?_) (fun _ => wpAny_ite_split (fun _ => wpAny_pure (h _ (.inr (.inl rfl)))) fun _ => ?_)
  · refine wpAny_bind (wpAny_rule ?_)
    have hfm : (fs.toArray.filterMap id) = (fs.filterMap id).toArray := by simp
    rw [hfm, oneTypeOnly'_eq, List.mapM_toArray, map_eq_pure_bind]
    refine wpAny_bind (wpAny_bind (wpAny_bind (W.kas_mapM (r := .type "int") _ (fun v hv' Q' hq => ?_) (wpAny_pure ?_))))
    · obtain ⟨f, hf, ef⟩ := List.mem_filterMap.mp hv'
      rcases hfs f hf with rfl | ⟨n, t, rfl⟩
      · cases ef
      · cases ef
        exact wpAny_typeOf (typeIs_int s n t) hq
    · split
      · exact wpAny_pure (wpAny_pure (h _ (.inl ⟨_, rfl⟩)))
      · exact wpAny_pure (wpAny_pure (h _ (.inl ⟨_, rfl⟩)))
  · rw [oneTypeOnly'_eq, List.mapM_toArray, map_eq_pure_bind]
    refine wpAny_bind (wpAny_bind (wpAny_bind (W.kas_mapM (r := .type "tuple") _ (fun v hv' Q' hq => ?_) (wpAny_pure ?_))))
    · obtain ⟨a, ks, rfl, ws, dd, n, sl, e, i⟩ := hv v hv'
      exact wpAny_typeOf (T := "tuple") ⟨_, e, rfl⟩ hq
    · split
      · refine wpAny_pure (wpAny_pure (h _ ?_))
        split
        · exact .inr (.inr rfl)
        · exact .inr (.inl rfl)
      · exact wpAny_pure (wpAny_pure (h _ (.inr (.inl rfl))))
/-- vs in rising order -/
def RiseW (h : Heap) (l : List Value) : Prop := l.Pairwise fun u v => lexLt (keyW h v) (keyW h u) = false
theorem ite_binds {M : Model} {α β : Type} {c : Prop} [Decidable c] {m n : Sem α} {f : α → Sem β} {Q : β → Shared → Prop} (R : α → Prop) (h1 : c → ∀ Q' : α → Shared → Prop, (∀ x, R x → Q' x s) → wpAny M A m Q' E s) (h2 : ¬ c → ∀ Q' : α → Shared → Prop, (∀ x, R x → Q' x s) → wpAny M A n Q' E s)
    (h : ∀ x, R x → wpAny M A (f x) Q E s) : wpAny M A (if c then m >>= f else n >>= f) Q E s := by
  split
  · exact wpAny_bind (h1 (by assumption) _ h)
  · exact wpAny_bind (h2 (by assumption) _ h)
theorem sort_tree {T : String} (kp : SortKind → Prop) {D : Addr} {vs : List Value} {n : Nat} {P : PySem.Fin → Shared → Prop} (cm : ∀ s' kd, kp kd → Cmp prog w A E s' kd (DS T s') (ltW s'))
    (kn : ∀ (s' : Shared) (Q : SortKind → Shared → Prop), vs ≠ [] → (∀ v ∈ vs, ∃ a ks, v = .ref a ∧ SeqI T s'.heap a ks) → (∀ kd, kp kd → Q kd s') → wpAny (model prog w) A (keyKind' vs.toArray) Q E s')
    (ho : s.heap.get? D = some (seqObj "list" vs.toArray n)) (hv : ∀ v ∈ vs, ∃ a ks, v = .ref a ∧ a ≠ D ∧ SeqI T s.heap a ks) (hz : vs.length ≤ sizeLine)
    (h : ∀ out : Array Value, out.toList.Perm vs → RiseW s.heap out.toList → P (.done (.ret .none)) { s with heap := sortedHeap s.heap D vs out }) :
    wpAny (model prog w) A (Builtin.«list.sort» ⟨[.ref D], []⟩) P E s := by
  rw [list_sort_plain]
  obtain ⟨ep, he⟩ : ∃ ep, (s.heap.update D (Obj.mapSeq fun _ => #[])).get? D = some (seqObj "list" #[] ep) := ⟨_, get?_update_seq ho fun _ => #[]⟩
  refine wpAny_bind (listItems_at ho rfl (wpAny_bind (listUpdate_at ho rfl (wpAny_bind (seqEpoch_at he rfl (wpAny_bind (wpAny_newTuple (wpAny_bind (wpAny_newList (wpAny_holding ?_))) (by simpa using hz))))) (by simpa using hz))))
  obtain ⟨u, eu⟩ : ∃ u : Shared, u = { s with heap := ((s.heap.update D (Obj.mapSeq fun _ => #[])).push (seqObj "tuple" vs.toArray 0)).push (seqObj "list" #[] 0) } := ⟨_, rfl⟩
  have keep : ∀ b o, b ≠ D → s.heap.get? b = some o → u.heap.get? b = some o := fun b o hb e => by
    rw [eu]
    exact Heap.get?_push_of_some _ (Heap.get?_push_of_some _ ((Heap.get?_update_other _ _ (Ne.symm hb)).trans e))
  have hD : u.heap.get? D = some (seqObj "list" #[] ep) := by rw [eu]; exact Heap.get?_push_of_some _ (Heap.get?_push_of_some _ he)
  have hu4 : ∀ v ∈ vs, (∃ a ks, v = .ref a ∧ SeqI T u.heap a ks) ∧ keyW u.heap v = keyW s.heap v := fun v hv' => by
    obtain ⟨a, ks, rfl, ne, t⟩ := hv v hv'
    have t' := t.kept fun o q => keep a o ne q
    exact ⟨⟨a, ks, rfl, t'⟩, by rw [t.key, t'.key]⟩
  show wpAny (model prog w) A _ P E { s with heap := ((s.heap.update D (Obj.mapSeq fun _ => #[])).push (seqObj "tuple" vs.toArray 0)).push (seqObj "list" #[] 0) }
  rw [← eu]
  dsimp only
  refine ite_binds (fun kd => vs.toArray.size < 2 ∨ kp kd) (fun h2 Q' q => wpAny_pure (q _ (.inl h2))) (fun h2 Q' q => kn u Q' (fun z => h2 (by rw [z]; decide)) (fun v hv' => (hu4 v hv').1) fun kd hk => q kd (.inr hk)) fun kd hk => ?_
  refine wpAny_bind (wpAny_mono (Q := fun r s'' => s'' = u ∧ (arrOf r.2).toList.Perm (pairsOf vs).toList ∧ Srt (ltW u) (arrOf r.2).toList ∧ failedOf r.2 = none) ?_ (fun r s'' hr => ?_) fun _ _ e => e)
  · by_cases h2 : vs.toArray.size < 2
    · rw [if_pos h2, StateT.run_pure]
      refine wpAny_pure ⟨rfl, List.Perm.refl _, ?_, rfl⟩
      have lp : (pairsOf vs).toList.length < 2 := by rw [Array.length_toList, pairsOf_size]; simpa using h2
      show Srt _ (pairsOf vs).toList
      generalize (pairsOf vs).toList = L at lp ⊢
      cases L with
      | nil => exact .nil
      | cons x t =>
        cases t with
        | nil => exact List.pairwise_singleton _ _
        | cons y t => exact absurd lp (by simp)
    · rw [if_neg h2]
      refine wpAny_mono (sortRuns_ok (cm u kd (hk.resolve_left h2)) (st := SortSt.mk' kd (vs.toArray.zip vs.toArray) #[] 7 none) (Q := fun _ st' => (arrOf st').toList.Perm (pairsOf vs).toList ∧ Srt (ltW u) (arrOf st').toList ∧ failedOf st' = none)
        (fun p hp => ?_) rfl rfl rfl fun st' a1 a2 a3 => ⟨a1, a2, a3⟩) (fun r s'' x => x) fun _ _ e => e
      have hp' : p ∈ (pairsOf vs).toList := hp
      rw [pairsOf_toList] at hp'
      exact (hu4 _ (mem_zip_self hp').2).1
  obtain ⟨rfl, hp, hs, hf⟩ := hr
  refine wpAny_bind (seqEpoch_at hD rfl (wpAny_bind (listUpdate_at hD rfl ?_ (hsz2 := by
    have := hp.length_eq
    rw [Array.length_toList, Array.length_toList, pairsOf_size] at this
    rw [Array.size_map, this]; omega))))
  have same : ∀ p ∈ (arrOf r.2).toList, p.1 = p.2 ∧ p.1 ∈ vs := fun p hp' => by
    have := hp.mem_iff.mp hp'
    rw [pairsOf_toList] at this
    exact mem_zip_self this
  have := h ((arrOf r.2).map (·.2)) (by
    rw [Array.toList_map]
    refine (hp.map _).trans ?_
    rw [pairsOf_toList, List.map_snd_zip (Nat.le_refl _)]) (by
    rw [Array.toList_map]
    refine List.pairwise_map.mpr (List.Pairwise.imp_of_mem (fun {p q} hp' hq' x => ?_) hs)
    rw [← (same p hp').1, ← (same q hq').1, ← (hu4 _ (same p hp').2).2, ← (hu4 _ (same q hq').2).2]
    exact x)
  unfold sortedHeap at this
  subst eu
  rw [hf, if_neg (by simp)]
  exact wpAny_pure this
theorem sort_treeW {D : Addr} {vs : List Value} {n : Nat} {P : PySem.Fin → Shared → Prop} (hu : A.units < cLine) (ho : s.heap.get? D = some (seqObj "list" vs.toArray n)) (hv : ∀ v ∈ vs, ∃ a ks, v = .ref a ∧ a ≠ D ∧ TupI s.heap a ks) (hz : vs.length ≤ sizeLine)
    (h : ∀ out : Array Value, out.toList.Perm vs → RiseW s.heap out.toList → P (.done (.ret .none)) { s with heap := sortedHeap s.heap D vs out }) :
    wpAny (model prog w) A (Builtin.«list.sort» ⟨[.ref D], []⟩) P E s := sort_tree Kd3 (fun s' kd hk => cmp_words hk hu) (fun s' Q _ hv h => kind_words hv h) ho hv hz h
theorem sorted_seqs {T : String} (kp : SortKind → Prop) {l : Addr} {vs : List Value} {Q : Value → Shared → Prop} (cm : ∀ A, A.units < cLine → ∀ E s' kd, kp kd → Cmp prog w A E s' kd (DS T s') (ltW s'))
    (kn : ∀ (A : Around) E (s' : Shared) (Q : SortKind → Shared → Prop), vs ≠ [] → (∀ v ∈ vs, ∃ a ks, v = .ref a ∧ SeqI T s'.heap a ks) → (∀ kd, kp kd → Q kd s') → wpAny (model prog w) A (keyKind' vs.toArray) Q E s')
    (hu : A.units + 2 < cLine) (hl : s.heap.IsList l vs.toArray) (hv : ∀ v ∈ vs, ∃ a ks, v = .ref a ∧ SeqI T s.heap a ks) (hz : vs.length ≤ sizeLine)
    (h : ∀ (out : Array Value), out.toList.Perm vs → (∃ h1 : Heap, (∀ a ks, SeqI T s.heap a ks → SeqI T h1 a ks) ∧ RiseW h1 out.toList) → Q (.ref (s.heap.objs.size + 1)) { s with heap := sortedAll s.heap vs out }) :
    wpAny (model prog w) A (call (.builtin "sorted") [.ref l]) Q E s := by
  refine Calls.call_function_entry kind_sorted plain_sorted entry_sorted (args_sorted1 _) ?_
  unfold Builtin.«sorted»
  refine wpAny_bind (wpAny_of_eq (a := ()) rfl (wpAny_bind (collect_list hl (wpAny_bind (wpAny_newList ?_ hz)) hz)))
  obtain ⟨u, eu⟩ : ∃ u : Heap, u = (s.heap.push (seqObj "list" #[] 0)).update s.heap.objs.size (Obj.mapSeq (· ++ vs.toArray)) := ⟨_, rfl⟩
  have zu : u.objs.size = s.heap.objs.size + 1 := by rw [eu, Heap.size_update, size_push']
  have kp' : ∀ b o, s.heap.get? b = some o → (u.push (seqObj "list" vs.toArray 0)).get? b = some o := fun b o e => Heap.get?_push_of_some _ (by
    rw [eu, Heap.get?_update_ne _ _ _ _ (Nat.ne_of_lt (Heap.lt_size e))]
    exact Heap.get?_push_of_some _ e)
  have nw : (u.push (seqObj "list" vs.toArray 0)).get? (s.heap.objs.size + 1) = some (seqObj "list" vs.toArray 0) := zu ▸ Heap.get?_push_size _ rfl
  show wpAny _ _ _ _ _ { s with heap := ((s.heap.push (seqObj "list" #[] 0)).update s.heap.objs.size (Obj.mapSeq (· ++ vs.toArray))).push (seqObj "list" vs.toArray 0) }
  unfold sortedAll at h
  rw [← eu] at h ⊢
  rw [zu]
  refine wpAny_bind (wpAny_holding (wpAny_call_entry slot_list_sort ⟨_, nw, rfl⟩ entry_list_sort (sort_tree kp (cm _ (by exact hu) _) (kn _ _) nw (fun v hv' => ?_) hz fun out a2 a3 => ⟨_, rfl, wpAny_pure ⟨_, rfl, h out a2 ⟨_, fun a ks t => t.kept fun o e => kp' a o e, a3⟩⟩⟩) (args_list_sort _)))
  obtain ⟨a, ks, e, t⟩ := hv v hv'
  refine ⟨a, ks, e, ?_, t.kept fun o e => kp' a o e⟩
  obtain ⟨_, _, _, _, e', _⟩ := t
  exact Nat.ne_of_lt (Nat.lt_succ_of_lt (Heap.lt_size e'))
end
end L2

namespace L2
open PySem PySem.Spec PyProof.Rows
section
variable {prog : Program} {w : World} {K : Type} [DecidableEq K] {knd : HeapKind prog w K} {A : Around} {E : Value → Shared → Prop} {s : Shared}
end
section
variable {X : Cx} {pins : List (Addr × Obj)} {σ : St} {H : Hp} {s : Shared} {a b : Addr} {kvs : List (List Key × V)} {k : List Key} {A : Around} {E : Value → Shared → Prop}
end
end L2

namespace L2
open PySem PySem.Spec PyProof.Rows
/-! a dict's keys, walked, whatever they are -/
section
variable {prog : Program} {w : World} {A : Around} {E : Value → Shared → Prop} {s : Shared} {d it : Addr} {es : Array DictEntry} {ep i : Nat}
end
/-! words -/
def Word (H : Hp) (v : V) (ks : List Int) : Prop := ∃ a, v = .ref a ∧ H a = some (.tup (ks.map V.int))
abbrev Words (H : Hp) (xs : List V) (ws : List (List Int)) : Prop := Paired (Word H) xs ws
theorem Paired.perm2 {α β : Type} {F : α → β → Prop} {l : List α} {m m' : List β} (p : m.Perm m') : Paired F l m → ∃ l', l.Perm l' ∧ Paired F l' m' := by
  induction p generalizing l with
  | nil => intro r; cases r; exact ⟨[], .nil, .nil⟩
  | cons x _ ih => intro r; cases r with | cons h t => obtain ⟨l', a, b⟩ := ih t; exact ⟨_ :: l', a.cons _, .cons h b⟩
  | swap x y t => intro r; cases r with | cons h t => cases t with | cons h2 t => exact ⟨_, .swap _ _ _, .cons h2 (.cons h t)⟩
  | trans _ _ i1 i2 => intro r; obtain ⟨l1, a, b⟩ := i1 r; obtain ⟨l2, c, d⟩ := i2 b; exact ⟨l2, a.trans c, d⟩
theorem Paired.flip {α β : Type} {F : α → β → Prop} : ∀ {l : List α} {m : List β}, Paired F l m → Paired (fun b a => F a b) m l
  | _, _, .nil => .nil
  | _, _, .cons h t => .cons h (Paired.flip t)
theorem Paired.mem1 {α β : Type} {F : α → β → Prop} : ∀ {l : List α} {m : List β}, Paired F l m → ∀ a ∈ l, ∃ b ∈ m, F a b
  | _, _, .nil, a, h => by cases h
  | _, _, .cons r t, a, h => by
    rcases List.mem_cons.mp h with rfl | h
    · exact ⟨_, List.mem_cons_self, r⟩
    · obtain ⟨b, hb, f⟩ := Paired.mem1 t a h
      exact ⟨b, List.mem_cons_of_mem _ hb, f⟩
/-- words in rising order, alike ones side by side -/
def Rise (ws : List (List Int)) : Prop := ws.Pairwise fun u v => lexLt v u = false
section
variable {X : Cx} {pins : List (Addr × Obj)} {σ : St} {H : Hp} {s : Shared}
theorem tupI_of {P : Program} {w : World} {h : Heap} {a : Addr} {ks : List Int} (ok : HOk P w H h) (e : H a = some (.tup (ks.map V.int))) : TupI h a ks := by
  obtain ⟨_, its, r, o, h1, h2, n, h3⟩ := (show ObjOk P w H h a (.tup (ks.map V.int)) from ok a _ e)
  obtain ⟨cls, dd, data, sl⟩ := o
  dsimp only at h2 h3
  subst h2 h3
  exact ⟨its.toArray, dd, n, sl, h1, by simpa using ints_of_vals r⟩
theorem word_val {P : Program} {w : World} {h : Heap} {v : V} {u : Value} {ks : List Int} (ok : HOk P w H h) (x : Word H v ks) (r : RelV v u) : ∃ a, u = .ref a ∧ H a = some (.tup (ks.map V.int)) ∧ TupI h a ks := by
  obtain ⟨a, rfl, e⟩ := x
  exact ⟨a, r, e, tupI_of ok e⟩
/-- what has been sorted, as rows of ints -/
theorem seqs_out {T : String} {F : V → List Int → Prop} {h h1 : Heap} (hF : ∀ {v u ks}, F v ks → RelV v u → ∃ a, u = .ref a ∧ SeqI T h a ks) {xs : List V} {us out : List Value} {ws : List (List Int)} (r : Vals xs us) (x : Paired F xs ws) (hp : out.Perm us)
    (hk : ∀ a ks, SeqI T h a ks → SeqI T h1 a ks) (hr : RiseW h1 out) : ∃ ys vs, Vals ys out ∧ Paired F ys vs ∧ ys.Perm xs ∧ vs.Perm ws ∧ Rise vs := by
  obtain ⟨ys, p1, r1⟩ := Paired.perm2 hp.symm r
  obtain ⟨vs, p2, r2⟩ := Paired.perm2 p1 (Paired.flip x)
  have x2 : Paired F ys vs := Paired.flip r2
  refine ⟨ys, vs, r1, x2, p1.symm, p2.symm, ?_⟩
  have key : ∀ {ys : List V} {out : List Value} {vs : List (List Int)}, Vals ys out → Paired F ys vs → out.map (keyW h1) = vs := by
    intro ys out vs a b
    induction a generalizing vs with
    | nil => cases b; rfl
    | cons r _ ih =>
      cases b with
      | cons f t =>
        obtain ⟨q, e1, e3⟩ := hF f r
        rw [List.map_cons, ih t, e1, (hk _ _ e3).key]
  rw [← key r1 x2]
  unfold Rise
  rw [List.pairwise_map]
  exact hr
end
section
variable {prog : Program} {w : World} {A : Around} {E : Value → Shared → Prop} {s : Shared}
theorem sorted_words {l : Addr} {vs : List Value} {Q : Value → Shared → Prop} (hu : A.units + 2 < cLine) (hl : s.heap.IsList l vs.toArray) (hv : ∀ v ∈ vs, ∃ a ks, v = .ref a ∧ TupI s.heap a ks) (hz : vs.length ≤ sizeLine)
    (h : ∀ (out : Array Value), out.toList.Perm vs → (∃ h1 : Heap, (∀ a ks, TupI s.heap a ks → TupI h1 a ks) ∧ RiseW h1 out.toList) → Q (.ref (s.heap.objs.size + 1)) { s with heap := sortedAll s.heap vs out }) :
    wpAny (model prog w) A (call (.builtin "sorted") [.ref l]) Q E s := sorted_seqs Kd3 (fun A hu E s' kd hk => cmp_words hk hu) (fun A E s' Q _ hv h => kind_words hv h) hu hl hv hz h
end
section
variable {X : Cx}
def rSortW (K : PySem.W.Frag) : List V → Hp → VK → Prop := fun xs H Q => ∃ (p : Addr) (ys : List V) (ws : List (List Int)), xs = [.ref p] ∧ SqL K H p ys ∧ Words H ys ws ∧
    ∀ (l : Addr) (zs : List V) (vs : List (List Int)), H l = none → zs.Perm ys → vs.Perm ws → Words H zs vs → Rise vs → Q (.ref l) (upd H l (.lst zs))
theorem call_sortedW (hu : X.A.units + 64 < cLine) : CallR X (.builtin "sorted") (rSortW X.K) := by
  intro pins s σ H xs us Q I r h
  obtain ⟨p, ys, ws, rfl, hq, hw, q⟩ := h
  obtain ⟨u, rfl, ru⟩ := r.one
  cases ru
  obtain ⟨its, rv, pl, hz⟩ := I.list hq
  have hlen : ys.length = its.length := rv.length
  refine sorted_words (by omega) pl.isList (fun v hv => ?_) (by omega) fun out a2 ⟨h1, k1, a3⟩ => ?_
  · obtain ⟨y, hy, ry⟩ := Paired.mem1 (Paired.flip rv) v hv
    obtain ⟨ks, _, hk⟩ := Paired.mem1 hw y hy
    obtain ⟨a, e1, e2, e3⟩ := word_val I.hok hk ry
    exact ⟨a, ks, e1, e3⟩
  obtain ⟨zs, vs, b1, b2, b3, b4, b5⟩ := seqs_out (fun f r => (word_val I.hok f r).imp fun _ z => ⟨z.1, z.2.2⟩) rv hw a2 k1 a3
  obtain ⟨e, he⟩ := sortedAll_at s.heap its out
  have fr : H (s.heap.objs.size + 1) = none := I.hok.fresh (Nat.le_succ _)
  refine ⟨.ref (s.heap.objs.size + 1), _, I.laid (a := s.heap.objs.size + 1) (o := .lst zs) (t' := s.toks) (fun b o q => sortedAll_old q) (Nat.le_succ _) ⟨?_, out.toList, e, b1, ?_⟩, rfl, q _ _ _ fr b3 b4 b2 b5⟩
  · rw [b3.length_eq]; omega
  · simpa [seqObj] using he
end
end L2

namespace L2
open PySem PySem.Spec PyProof.Rows
section
variable {prog : Program} {w : World} {A : Around} {E : Value → Shared → Prop} {s : Shared} {h₀ : Heap} {L D : Addr} {m : Str → Option Value} {news : List (Addr × Obj)} {n : Nat} {vs : List Value} {Q : Value → Shared → Prop}
theorem lsortW (hu : A.units + 1 < cLine) (F : Fr h₀ L s.heap m) (N : News h₀ L s.heap ((D, W.listOf vs.toArray n) :: news)) (lt : ∀ q ∈ news, q.1 < D) (hv : ∀ v ∈ vs, ∃ a ks, v = .ref a ∧ a ≠ D ∧ TupI s.heap a ks) (hz : vs.length ≤ sizeLine)
    (h : ∀ vs' c h', Fr h₀ L h' m → News h₀ L h' ((D, W.listOf (List.toArray vs') c) :: news) → vs'.Perm vs → RiseW s.heap vs' → Q .none { s with heap := h' }) :
    wpAny (model prog w) A (call (.builtin "list.sort") [.ref D]) Q E s := by
  have z := N (D, W.listOf vs.toArray n) List.mem_cons_self
  have ho : s.heap.get? D = some (seqObj "list" vs.toArray n) := z.1
  refine wpAny_call_entry PyProof.Rows.slot_list_sort ⟨_, z.1, rfl⟩ PyProof.Rows.entry_list_sort (sort_treeW (n := n) (vs := vs) (by exact hu) ho hv hz fun out hp hP => ⟨.none, rfl, ?_⟩) (PyProof.Rows.args_list_sort _)
  obtain ⟨c, hc⟩ := sortedHeap_at (vs := vs) (out := out) ho
  have F4 : Fr h₀ L (sortedHeap s.heap D vs out) m :=
    ksk_fr (((ksk_fr F (Heap.SameBut.update s.heap D (Obj.mapSeq fun _ => #[])) z.2.1 z.2.2).push (seqObj "tuple" vs.toArray 0)).push (seqObj "list" #[] 0)) (Heap.SameBut.update _ D (Obj.mapSeq fun _ => out)) z.2.1 z.2.2
  refine h out.toList c _ F4 ?_ hp hP
  intro p hq
  rcases List.mem_cons.mp hq with rfl | hq
  · exact ⟨hc, z.2⟩
  · have y := N p (.tail _ hq)
    exact ⟨(sortedHeap_old (Nat.ne_of_lt (lt p hq)) (Heap.lt_size y.1)).trans y.1, y.2⟩
end
section
variable {X : Cx}
end
end L2

namespace L2
open PySem PySem.Spec PyProof.Rows PyProof.V
section
variable {X : Cx}
/-- t == u, words -/
def rEqW : R2 := fun x y H Q => ∃ a b : List Int, Word H x a ∧ Word H y b ∧ Q (.bl (decide (a = b))) H
theorem op_eqW (hu : X.A.units + 64 < cLine) : OpR X (compareOp .Eq) rEqW := by
  intro pins s σ H x y v u Q I rx ry h
  obtain ⟨ns, ms, ⟨p, rfl, hp⟩, ⟨r, rfl, hr⟩, hQ⟩ := h
  cases rx
  cases ry
  obtain ⟨_, its, r1, p1⟩ := (show ObjOk X.prog X.w H s.heap p (.tup (ns.map V.int)) from I.hok p _ hp)
  obtain ⟨_, its2, r2, p2⟩ := (show ObjOk X.prog X.w H s.heap r (.tup (ms.map V.int)) from I.hok r _ hr)
  have l1 : ns.length = its.length := by simpa using r1.length
  have l2 : ms.length = its2.length := by simpa using r2.length
  refine SeqAt.eq_tupleAt (e := fun j => ns.getD j 0 == ms.getD j 0) p1 p2 (by omega) (fun j h1 h2 => ?_) ⟨.bl (decide (ns = ms)), H, I, ?_, hQ⟩
  · obtain ⟨t1, e1⟩ := ints_at r1 h1
    obtain ⟨t2, e2⟩ := ints_at r2 h2
    rw [e1, e2]
    exact SeqAt.EqAt.int_int _ _ _ _
  · show Value.bool _ = Value.bool _
    congr 1
    rw [Bool.eq_iff_iff, Bool.and_eq_true, List.all_eq_true, decide_eq_true_iff, beq_iff_eq]
    simp only [List.size_toArray]
    constructor
    · rintro ⟨z, zl⟩
      refine List.ext_getElem (by omega) fun i h1 h2 => ?_
      have := z i (List.mem_range.mpr (by omega))
      simpa [h1, h2] using this
    · intro z
      subst z
      exact ⟨fun i _ => by simp, by omega⟩
theorem lex_same : ∀ (a b : List Int), HT.lexLt a b = lexLt a b
  | [], [] => rfl
  | [], _ :: _ => rfl
  | _ :: _, [] => rfl
  | x :: a, y :: b => by
    rw [HT.lexLt_cons, lexLt, lex_same a b]
/-- t < u, words -/
def rLtW : R2 := fun x y H Q => ∃ a b : List Int, Word H x a ∧ Word H y b ∧ Q (.bl (lexLt a b)) H
theorem op_ltW (hu : X.A.units + 64 < cLine) : OpR X (compareOp .Lt) rLtW := by
  intro pins s σ H x y v u Q I rx ry h
  obtain ⟨ns, ms, ⟨p, rfl, hp⟩, ⟨r, rfl, hr⟩, hQ⟩ := h
  refine op_ltT (by omega) pins s σ H _ _ v u Q I rx ry ⟨p, r, ns, ms, rfl, rfl, .inl (.inl hp), .inl (.inl hr), ?_⟩
  rw [lex_same]
  exact hQ
theorem pi_tupK {K : PySem.W.Frag} {l tg : Expr} {tl : TE} (hk : X.K = K) (hl : PE X l tl) : PI X tg l (iTup K tl) := hk ▸ pi_tup hl
theorem call_range1 : CallR X (.type "range") (fun xs H Q => ∃ j : Int, xs = [.int j] ∧ ∀ p, H p = none → Q (.ref p) (upd H p (.rng 0 j))) := by
  intro pins s σ H xs us Q I r h
  obtain ⟨j, rfl, q⟩ := h
  obtain ⟨u, rfl, ru⟩ := r.one
  obtain ⟨t, rfl⟩ := ru
  refine call_range_1 ⟨.ref s.heap.objs.size, _, I.laid (a := s.heap.objs.size) (o := .rng 0 j) (t' := s.toks + 1 + 1) (fun _ _ q => Heap.get?_push_of_some _ q) (Nat.le_refl _) ⟨s.toks, t, s.toks + 1, Heap.get?_push_size _ rfl⟩, rfl, q _ (I.hok.fresh (Nat.le_refl _))⟩
def upI (n : Nat) : List Int := (List.range n).map fun (k : Nat) => (k : Int)
theorem call_listR (hc : X.calm = true) : CallR X (.type "list") (fun xs H Q => ∃ (p : Addr) (n : Nat), xs = [.ref p] ∧ H p = some (.rng 0 n) ∧ n ≤ 1000 ∧ ∀ l, H l = none → Q (.ref l) (upd H l (.lst ((upI n).map V.int)))) := by
  intro pins s σ H xs us Q I r h
  obtain ⟨p, n, rfl, hp, hn, q⟩ := h
  obtain ⟨u, rfl, ru⟩ := r.one
  cases ru
  obtain ⟨t, u, v, hr⟩ := (show ObjOk X.prog X.w H s.heap p (.rng 0 n) from I.hok p _ hp)
  refine call_list_range (n := n) (I.ok.hd hc) hr (small_one (by omega) (by omega) (by omega) (by omega)) (by rw [rangeSize_one]; split <;> omega) (by omega) fun h' tk acc' c' kp e hacc => ?_
  refine ⟨.ref s.heap.objs.size, _, I.laid (a := s.heap.objs.size) (o := .lst ((upI n).map V.int)) (t' := tk) kp (Nat.le_refl _) ⟨?_, acc'.toList, c', ?_, ?_⟩, rfl, q _ (I.hok.fresh (Nat.le_refl _))⟩
  · rw [List.length_map, upI, List.length_map, List.length_range, sizeLine_eq]; omega
  · have key : ∀ (xs : List V) (us : List Value), xs.length = us.length → (∀ (j : Nat) (x : V) (u : Value), xs[j]? = some x → us[j]? = some u → RelV x u) → Vals xs us := by
      intro xs
      induction xs with
      | nil => intro us hl _; cases us with
        | nil => exact .nil
        | cons _ _ => cases hl
      | cons x xs ih =>
        intro us hl h
        cases us with
        | nil => cases hl
        | cons u us => exact .cons (h 0 x u rfl rfl) (ih us (by simpa using hl) fun j x u e1 e2 => h (j + 1) x u (by simpa using e1) (by simpa using e2))
    refine key _ _ (by rw [List.length_map, upI, List.length_map, List.length_range, Array.length_toList, hacc.1]) fun j x u e1 e2 => ?_
    obtain ⟨t, e3⟩ := hacc.2 j u (by rw [← Array.getElem?_toList]; exact e2)
    rw [List.getElem?_map, upI, List.getElem?_map] at e1
    cases e4 : (List.range n)[j]? with
    | none => rw [e4] at e1; cases e1
    | some k =>
      rw [e4] at e1
      cases e1
      rw [List.getElem?_eq_some_iff] at e4
      obtain ⟨_, e5⟩ := e4
      rw [List.getElem_range] at e5
      subst e5
      exact ⟨t, by rw [e3]; congr 1; show (0 : Int) + (j : Int) * 1 = (j : Int); omega⟩
  · rw [Array.toArray_toList]; exact e
end
section
variable {g : TG} {tc : TT} {te : TE} {σ : St} {H : Hp} {Q : VK} {K : PySem.W.Frag} {a b : Addr} {xs ys : List V}
theorem lc_tup (hn : xs.length ≤ sizeLine) (Pv : Nat → List V → Hp → Prop) (h0 : Pv 0 [] H) (hlen : ∀ i ys H, Pv i ys H → ys.length ≤ i) (hS : ∀ i ys H, Pv i ys H → SqT K H a xs)
    (hs : ∀ i x ys H, xs[i]? = some x → Pv i ys H → g x σ H fun σ2 H2 => tc σ2 H2 fun b H3 => if b = true then te σ2 H3 fun y H4 => Pv (i + 1) (ys ++ [y]) H4 else Pv (i + 1) ys H3)
    (hd : ∀ ys H, Pv xs.length ys H → ∀ D, H D = none → Q (.ref D) (upd H D (.lst ys))) : LcW (Itt K a) σ g tc te H Q :=
  lc_gen hn Pv h0 hlen (fun i ys H hi p => ⟨xs, xs[i], hS i ys H p, by simp [hi]⟩) (fun ys H p => ⟨xs, hS _ ys H p, Nat.le_refl _⟩) (fun i ys H hi p x H' y => by
    obtain ⟨e, y⟩ := y
    subst e
    exact hs i x ys _ (y xs (hS i ys _ p)) p) hd
/-- zip, the second one the shorter -/
theorem lc_zipS (hn : ys.length ≤ sizeLine) (hl : ys.length ≤ xs.length) (Pv : Nat → List V → Hp → Prop) (h0 : Pv 0 [] H) (hlen : ∀ i zs H, Pv i zs H → zs.length ≤ i) (hS : ∀ i zs H, Pv i zs H → SqL K H a xs ∧ SqL K H b ys)
    (hs : ∀ i x y p zs H, xs[i]? = some x → ys[i]? = some y → Pv i zs H → H p = none → g (.ref p) σ (upd H p (.tup [x, y])) fun σ2 H2 => tc σ2 H2 fun b H3 => if b = true then te σ2 H3 fun y H4 => Pv (i + 1) (zs ++ [y]) H4 else Pv (i + 1) zs H3)
    (hd : ∀ zs H, Pv ys.length zs H → ∀ D, H D = none → Q (.ref D) (upd H D (.lst zs))) : LcW (Itz K a b) σ g tc te H Q :=
  lc_gen hn Pv h0 hlen (fun i zs H hi p => ⟨xs, ys, xs[i]'(by omega), ys[i], (hS i zs H p).1, (hS i zs H p).2, by simp [show i < xs.length by omega], by simp [hi]⟩) (fun zs H p => ⟨xs, ys, (hS _ zs H p).1, (hS _ zs H p).2, .inr (Nat.le_refl _)⟩) (fun i zs H hi p x H' y => by
    obtain ⟨q, u, v, e1, e2, e3, y1, y2⟩ := y
    subst e1 e3
    exact hs i u v q zs _ (y1 xs (hS i zs _ p).1) (y2 ys (hS i zs _ p).2) p e2) hd
end
end L2

/-! sums of words by what two leaves -/
namespace L2
open PySem PySem.Spec PyProof.Rows
abbrev WS := List (List Int)
theorem lex_tri : ∀ (a b : List Int), lexLt a b = false → lexLt b a = false → a = b
  | [], [], _, _ => rfl
  | [], _ :: _, h, _ => by simp [lexLt] at h
  | _ :: _, [], _, h => by simp [lexLt] at h
  | x :: a, y :: b, h, h' => by
    rw [lexLt] at h h'
    by_cases e : x = y
    · subst e
      rw [if_pos rfl] at h h'
      rw [lex_tri a b h h']
    · rw [if_neg e] at h
      rw [if_neg (Ne.symm e)] at h'
      have h1 := of_decide_eq_false h
      have h2 := of_decide_eq_false h'
      omega
def SR (r : WS) : Prop := r.Pairwise fun u v => lexLt u v = true
theorem sr_one : ∀ (r r' : WS), SR r → SR r' → (∀ w, w ∈ r ↔ w ∈ r') → r = r'
  | [], [], _, _, _ => rfl
  | [], b :: _, _, _, h => by have := (h b).mpr List.mem_cons_self; cases this
  | a :: _, [], _, _, h => by have := (h a).mp List.mem_cons_self; cases this
  | a :: r, b :: r', h1, h2, h => by
    obtain ⟨p1, q1⟩ := List.pairwise_cons.mp h1
    obtain ⟨p2, q2⟩ := List.pairwise_cons.mp h2
    have e : a = b := by
      rcases List.mem_cons.mp ((h a).mp List.mem_cons_self) with e | e
      · exact e
      · rcases List.mem_cons.mp ((h b).mpr List.mem_cons_self) with e' | e'
        · exact e'.symm
        · have z1 := p2 a e
          have z2 := p1 b e'
          rw [lex_asym _ _ z1] at z2
          cases z2
    subst e
    have no : ∀ {l : WS}, (∀ x ∈ l, lexLt a x = true) → a ∉ l := fun {l} p m => by
      have := p a m
      rw [lex_irr] at this
      cases this
    rw [sr_one r r' q1 q2 fun w => ⟨fun m => ?_, fun m => ?_⟩]
    · rcases List.mem_cons.mp ((h w).mp (List.mem_cons_of_mem _ m)) with e | e
      · subst e; exact absurd m (no p1)
      · exact e
    · rcases List.mem_cons.mp ((h w).mpr (List.mem_cons_of_mem _ m)) with e | e
      · subst e; exact absurd m (no p2)
      · exact e
theorem SR.nodup {r : WS} (h : SR r) : r.Nodup := h.imp fun {u v} z e => by subst e; rw [lex_irr] at z; cases z
theorem sr_of {r : WS} (h : Rise r) (n : r.Nodup) : SR r := (List.Pairwise.and h n).imp fun {u v} ⟨a, b⟩ => by
  cases e : lexLt u v with
  | true => rfl
  | false => exact absurd (lex_tri _ _ e a) b
structure IsOdd (L r : WS) : Prop where
  rise : SR r
  mem : ∀ w, w ∈ r ↔ L.count w % 2 = 1
def Par (L L' : WS) : Prop := ∀ w, L.count w % 2 = L'.count w % 2
theorem IsOdd.par {L L' r : WS} (x : IsOdd L r) (p : Par L L') : IsOdd L' r := ⟨x.rise, fun w => by rw [x.mem w, p w]⟩
theorem IsOdd.sub {L r : WS} (x : IsOdd L r) {w : List Int} (h : w ∈ r) : w ∈ L := by
  have := (x.mem w).mp h
  exact List.count_pos_iff.mp (by omega)
theorem sub_len : ∀ {r L : WS}, r.Nodup → (∀ w ∈ r, w ∈ L) → r.length ≤ L.length
  | [], _, _, _ => Nat.zero_le _
  | a :: r, L, n, h => by
    obtain ⟨n1, n2⟩ := List.nodup_cons.mp n
    have ha := h a List.mem_cons_self
    have := sub_len (r := r) (L := L.erase a) n2 fun w hw => (List.mem_erase_of_ne (fun (e : w = a) => n1 (e ▸ hw))).mpr (h w (List.mem_cons_of_mem _ hw))
    rw [List.length_erase_of_mem ha] at this
    have := List.length_pos_of_mem ha
    rw [List.length_cons]; omega
theorem IsOdd.len {L r : WS} (x : IsOdd L r) : r.length ≤ L.length := sub_len x.rise.nodup fun _ h => x.sub h
theorem odd_nil : IsOdd [] [] := ⟨.nil, fun w => by simp⟩
theorem odd_same {P r : WS} {w : List Int} (x : IsOdd P (r ++ [w])) : IsOdd (P ++ [w]) r := by
  have n := x.rise.nodup
  have s := x.rise
  unfold SR at s
  rw [List.nodup_append] at n
  rw [List.pairwise_append] at s
  refine ⟨s.1, fun y => ?_⟩
  have m := x.mem y
  rw [List.count_append, List.count_singleton]
  by_cases e : w = y
  · subst e
    have : ¬ w ∈ r := fun h => n.2.2 w h w (by simp) rfl
    have := m.mp (by simp)
    simp only [beq_self_eq_true, if_true]
    constructor
    · intro h; contradiction
    · intro h; omega
  · have e' : ¬ y = w := fun z => e z.symm
    simp only [List.mem_append, List.mem_singleton, e', or_false] at m
    rw [m]
    simp [e]
theorem odd_new {P r : WS} {w : List Int} (x : IsOdd P r) (hw : ∀ p ∈ P, lexLt w p = false) (hl : r.getLast? ≠ some w) : IsOdd (P ++ [w]) (r ++ [w]) := by
  have no : w ∉ r := fun h => by
    obtain ⟨a, b, rfl⟩ := List.append_of_mem h
    cases hb : b.getLast? with
    | none =>
      have : b = [] := List.getLast?_eq_none_iff.mp hb
      subst this
      exact hl (by simp)
    | some l =>
      have hlb : l ∈ b := List.mem_of_getLast? hb
      have s := x.rise
      unfold SR at s
      rw [List.pairwise_append, List.pairwise_cons] at s
      have z1 := s.2.1.1 l hlb
      have z2 := hw l (x.sub (by simp [hlb]))
      rw [z1] at z2
      cases z2
  refine ⟨?_, fun y => ?_⟩
  · unfold SR
    rw [List.pairwise_append]
    refine ⟨x.rise, List.pairwise_singleton _ _, fun u hu v hv => ?_⟩
    rw [List.mem_singleton.mp hv]
    cases e : lexLt u w with
    | true => rfl
    | false => exact absurd (lex_tri _ _ e (hw u (x.sub hu))) fun z => no (z ▸ hu)
  · have m := x.mem y
    rw [List.count_append, List.count_singleton, List.mem_append, List.mem_singleton]
    by_cases e : w = y
    · subst e
      have := mt m.mpr no
      simp only [beq_self_eq_true, if_true]
      constructor
      · intro _; omega
      · intro _; exact .inr trivial
    · have e' : ¬ y = w := fun z => e z.symm
      simp only [e', or_false]
      rw [m]
      simp [e]
/-- the keys that came an odd number of times -/
structure OddK (L ks : WS) : Prop where
  nd : ks.Nodup
  mem : ∀ w, w ∈ ks ↔ L.count w % 2 = 1
/-! products -/
/-! how many, how long -/
def Gd (n m : Nat) (L : WS) : Prop := L.length ≤ n ∧ ∀ w ∈ L, w.length ≤ m ∧ ∀ k ∈ w, 0 ≤ k
theorem IsOdd.gd {L r : WS} {n m : Nat} (x : IsOdd L r) (g : Gd n m L) : Gd n m r := ⟨Nat.le_trans x.len g.1, fun w h => g.2 w (x.sub h)⟩
theorem Gd.mono {n m n' m' : Nat} {L : WS} (g : Gd n m L) (h1 : n ≤ n') (h2 : m ≤ m') : Gd n' m' L := ⟨Nat.le_trans g.1 h1, fun w h => ⟨Nat.le_trans (g.2 w h).1 h2, (g.2 w h).2⟩⟩
theorem gd_nil {n m : Nat} : Gd n m [] := ⟨Nat.zero_le _, fun _ h => nomatch h⟩
/-! lists of words in the heap -/
def WL (H : Hp) (a : Addr) (L : WS) : Prop := ∃ xs, H a = some (.lst xs) ∧ Words H xs L
theorem Word.mono {H H' : Hp} {v : V} {w : List Int} (k : ∀ t p, H t = some (.tup p) → H' t = some (.tup p)) (x : Word H v w) : Word H' v w := let ⟨a, e, q⟩ := x; ⟨a, e, k _ _ q⟩
theorem Words.mono {H H' : Hp} {xs : List V} {L : WS} (k : ∀ t p, H t = some (.tup p) → H' t = some (.tup p)) (x : Words H xs L) : Words H' xs L := Paired.mapP x fun _ _ q => Word.mono k q
theorem Words.same {H H' : Hp} {xs : List V} {L : WS} (s : Same H H') (x : Words H xs L) : Words H' xs L := Words.mono (fun t p e => s t _ e) x
theorem Word.same {H H' : Hp} {v : V} {w : List Int} (s : Same H H') (x : Word H v w) : Word H' v w := Word.mono (fun t p e => s t _ e) x
theorem WL.same {H H' : Hp} {a : Addr} {L : WS} (s : Same H H') (x : WL H a L) : WL H' a L := let ⟨xs, e, q⟩ := x; ⟨xs, s _ _ e, Words.same s q⟩
theorem Words.len {H : Hp} {xs : List V} {L : WS} (x : Words H xs L) : xs.length = L.length := Paired.length x
theorem Words.get {H : Hp} : ∀ {xs : List V} {L : WS} {i : Nat} {x : V}, Words H xs L → xs[i]? = some x → ∃ w, L[i]? = some w ∧ Word H x w
  | _, _, _, _, .nil, e => by simp at e
  | _, _, 0, _, .cons r _, e => by simp at e; subst e; exact ⟨_, rfl, r⟩
  | _, _, i + 1, x, .cons _ t, e => by
    obtain ⟨w, h1, h2⟩ := Words.get (i := i) (x := x) t (by simpa using e)
    exact ⟨w, by simpa using h1, h2⟩
theorem Words.snoc {H : Hp} {xs : List V} {L : WS} {x : V} {w : List Int} (h : Words H xs L) (e : Word H x w) : Words H (xs ++ [x]) (L ++ [w]) := Paired.snoc h e
/-- a frame about a list or a dict keeps the tuples -/
theorem Frm.tups {b : Addr} {H H' : Hp} (f : Frm b H H') (hb : ∀ p, H b ≠ some (.tup p)) : ∀ t p, H t = some (.tup p) → H' t = some (.tup p) := fun t p e => f t _ e fun z => hb p (z ▸ e)
end L2

namespace L2
open PySem PySem.Spec PyProof.Rows
section
variable {X : Cx}
theorem call_sortedWK {K : PySem.W.Frag} (h : X.K = K) (hu : X.A.units + 64 < cLine) : CallR X (.builtin "sorted") (rSortW K) := h ▸ call_sortedW hu
theorem call_tupleL : CallR X (.type "tuple") (fun xs H Q => ∃ p ys, xs = [.ref p] ∧ H p = some (.lst ys) ∧ ∀ l, H l = none → Q (.ref l) (upd H l (.tup ys))) := by
  intro pins s σ H xs us Q I r ⟨p, ys, e, hp, q⟩
  exact call_tuple_of pins s σ H xs us Q I r ⟨p, ys, e, .inl ⟨SqL.of hp, q⟩⟩
end
end L2

/-! instances without an __init__, methods by name, a text with a number in it, != of words -/
namespace L2
open PySem PySem.Spec PyProof.Rows PyProof.V
section
variable {X : Cx} {C : Addr} {x m : Str} {p pos apos : Pos} {e o : Expr} {es : List Expr} {ta : TE} {t : TA}
structure MkO (K : PySem.W.Frag) (C : Addr) : Prop where
  makes : PySem.W.makesIn K C = true
  init : PySem.W.findIn K (.ref C) "__init__" = some (some (.builtin "object.__init__"))
  kp : PySem.W.keepIn K (.ref C) = true
end
end L2

/-! the one sum that a list of words comes to; tables of sums -/
namespace L2
open PySem PySem.Spec PyProof.Rows
theorem lex_trans {x y z : List Int} (h1 : lexLt x y = true) (h2 : lexLt y z = true) : lexLt x z = true := by
  rcases lex_neg x z y h1 with h | h
  · exact h
  · rw [lex_asym _ _ h2] at h; cases h
/-! rows and tables in the heap -/
/-! what stands behind each letter -/
end L2

namespace L2
open PySem PySem.Spec PyProof.Rows
section
variable {X : Cx}
end
end L2

/-! try with an except that names nothing: what is known of the names stays -/
namespace L2
open PySem PySem.Spec PyProof.Rows
section
variable {X : Cx} {pins : List (Addr × Obj)} {σ : L2.St} {H : Hp} {s : Shared} {R : L2.St → Addr → Hp → Prop}
end
end L2

/-! range(n - 1, -1, -1) walked by for -/
namespace L2
open PySem PySem.Spec PyProof.Rows
section
variable {X : Cx} {tg : Expr}
end
end L2

/-! a zip walked without a for: its tuple stays handed out from the first item on; it has no keys -/
namespace L2
open PySem PySem.Spec PyProof.Rows
section
variable {prog : Program} {w : World} {A : Around} {E : Value → Shared → Prop} {s : Shared}
/-- a zip whose tuple has been handed out -/
abbrev IsZipT (h : Heap) (z TI TO T : Addr) (b : Bool) : Prop :=
  h.get? z = some { cls := .type "zip", dict := none, data := .fields #[rawInt T, .bool b, .bool false, .ref TI, .ref TO], slots := #[] }
structure ZS (h : Heap) (z TI TO i1 i2 l1 l2 : Addr) (k : Nat) : Prop where
  zp : (IsZip h z TI TO .none ∧ ∃ a b, IsPair h TO a b) ∨ ∃ T b o, IsZipT h z TI TO T b ∧ h.get? T = some o ∧ o.cls = .type "tuple" ∧ T ≠ z ∧ T ≠ TO ∧ T ≠ i1 ∧ T ≠ i2
  ti : IsPair h TI (.ref i1) (.ref i2)
  j1 : h.IsListIter i1 l1 k
  j2 : h.IsListIter i2 l2 k
end
end L2

/-! dict(zip(list, list)): the walk -/
namespace L2
open PySem PySem.Spec PyProof.Rows
section
variable {prog : Program} {w : World} {A : Around} {R : Result → Shared → Prop}
end
end L2

/-! dict(zip(list of ints, list)): the rule -/
namespace L2
open PySem PySem.Spec PyProof.Rows
section
variable {X : Cx}
end
end L2

/-! enumerate(tuple) -/
namespace L2
open PySem PySem.Spec PyProof.Rows
section
variable {prog : Program} {w : World} {A : Around} {E : Value → Shared → Prop} {s : Shared}
end
open AutoSeq1 (wpAny_loadPart') in
section
variable {prog : Program} {w : World} {A : Around} {E : Value → Shared → Prop} {s : Shared}
end
end L2

/-! for over enumerate(tuple) -/
namespace L2
open PySem PySem.Spec PyProof.Rows
section
variable {X : Cx}
end
end L2

/-! words cut -/
namespace L2
open PySem PySem.Spec PyProof.Rows
end L2

/-! Tables of sets that only grew: where a hash is looked for, where it is put. -/
namespace L2
open PySem PySem.Spec PyProof.Rows
def adv (mask : Nat) (p : SetTable.Probe) : SetTable.Probe :=
  if p.more > 0 then { p with j := p.j + 1, more := p.more - 1 } else
  { p with j := (SetTable.leap mask p.i p.perturb).1, more := SetTable.runEnd mask (SetTable.leap mask p.i p.perturb).1 - (SetTable.leap mask p.i p.perturb).1, i := (SetTable.leap mask p.i p.perturb).1, perturb := (SetTable.leap mask p.i p.perturb).2 }
theorem adv_eq (t : SetTable) (p : SetTable.Probe) : t.advance p = adv t.mask p := rfl
/-- the n-th look for a hash -/
def stH (mask : Nat) (h : Int) : Nat → SetTable.Probe
  | 0 => { j := SetTable.bits h % (mask + 1), more := SetTable.runEnd mask (SetTable.bits h % (mask + 1)) - SetTable.bits h % (mask + 1), i := SetTable.bits h % (mask + 1), perturb := SetTable.bits h, dummy := none }
  | n + 1 => adv mask (stH mask h n)
def pj (mask : Nat) (h : Int) (n : Nat) : Nat := (stH mask h n).j
def lpI (mask b : Nat) : Nat → Nat × Nat
  | 0 => (b % (mask + 1), b)
  | n + 1 => SetTable.leap mask (lpI mask b n).1 (lpI mask b n).2
theorem run_le (mask i : Nat) : SetTable.runEnd mask i - i ≤ 9 := by unfold SetTable.runEnd; split <;> omega
theorem st_run {mask i q : Nat} {h : Int} {s : Nat} (e : stH mask h s = { j := i, more := SetTable.runEnd mask i - i, i := i, perturb := q, dummy := none }) : ∀ m, m ≤ SetTable.runEnd mask i - i → stH mask h (s + m) = { j := i + m, more := SetTable.runEnd mask i - i - m, i := i, perturb := q, dummy := none }
  | 0, _ => e
  | m + 1, hm => by
    show adv mask (stH mask h (s + m)) = _
    rw [st_run e m (by omega)]
    unfold adv
    dsimp only
    rw [if_pos (by omega)]
    congr 1
theorem st_leap (mask : Nat) (h : Int) : ∀ n, ∃ s, s ≤ 10 * n ∧ stH mask h s = { j := (lpI mask (SetTable.bits h) n).1, more := SetTable.runEnd mask (lpI mask (SetTable.bits h) n).1 - (lpI mask (SetTable.bits h) n).1, i := (lpI mask (SetTable.bits h) n).1, perturb := (lpI mask (SetTable.bits h) n).2, dummy := none }
  | 0 => ⟨0, by omega, rfl⟩
  | n + 1 => by
    obtain ⟨s, hs, e⟩ := st_leap mask h n
    have r := run_le mask (lpI mask (SetTable.bits h) n).1
    have e2 := st_run e _ (Nat.le_refl _)
    refine ⟨s + (SetTable.runEnd mask (lpI mask (SetTable.bits h) n).1 - (lpI mask (SetTable.bits h) n).1) + 1, by omega, ?_⟩
    show adv mask (stH mask h _) = _
    rw [e2]
    unfold adv
    dsimp only
    rw [if_neg (by omega)]
    rfl
theorem lp_two (mask b : Nat) : ∀ n, (lpI mask b n).2 = b / 32 ^ n
  | 0 => by simp [lpI]
  | n + 1 => by
    show (lpI mask b n).2 / 32 = _
    rw [lp_two mask b n, Nat.div_div_eq_div_mul, Nat.pow_succ]
theorem lp_lt (mask b : Nat) : ∀ n, (lpI mask b n).1 < mask + 1
  | 0 => Nat.mod_lt _ (by omega)
  | n + 1 => Nat.mod_lt _ (by omega)
def lcg (mask : Nat) : Nat → Nat → Nat
  | 0, i => i
  | k + 1, i => (lcg mask k i * 5 + 1) % (mask + 1)
theorem bits_lt (h : Int) : SetTable.bits h < 2 ^ 64 := by
  unfold SetTable.bits
  have := Int.emod_lt_of_pos h (b := 2 ^ 64) (by decide)
  have := Int.emod_nonneg h (b := 2 ^ 64) (by decide)
  omega
theorem lp_lcg (mask : Nat) {b : Nat} (hb : b < 2 ^ 64) : ∀ k, (lpI mask b (13 + k)).1 = lcg mask k (lpI mask b 13).1
  | 0 => rfl
  | k + 1 => by
    show ((lpI mask b (13 + k)).1 * 5 + 1 + (lpI mask b (13 + k)).2 / 32) % (mask + 1) = (lcg mask k _ * 5 + 1) % (mask + 1)
    have z : (lpI mask b (13 + k)).2 = 0 := by
      rw [lp_two]
      refine Nat.div_eq_of_lt (Nat.lt_of_lt_of_le hb ?_)
      calc 2 ^ 64 ≤ 32 ^ 13 := by decide
        _ ≤ 32 ^ (13 + k) := Nat.pow_le_pow_right (by decide) (by omega)
    rw [z, lp_lcg mask hb k]
theorem cov7 : ∀ i, i < 8 → ∀ j, j < 8 → ∃ k, k < 8 ∧ lcg 7 k i = j := by decide +kernel
theorem cov31 : ∀ i, i < 32 → ∀ j, j < 32 → ∃ k, k < 32 ∧ lcg 31 k i = j := by decide +kernel
/-- each place is looked at -/
theorem cover {mask : Nat} (hm : mask = 7 ∨ mask = 31) (h : Int) {j : Nat} (hj : j ≤ mask) : ∃ s, s < 10 * SetTable.turns mask ∧ pj mask h s = j := by
  have key : ∃ n, n + 1 < SetTable.turns mask ∧ (lpI mask (SetTable.bits h) n).1 = j := by
    have lt := lp_lt mask (SetTable.bits h) 13
    rcases hm with rfl | rfl
    · obtain ⟨k, hk, e⟩ := cov7 _ lt j (by omega)
      exact ⟨13 + k, by unfold SetTable.turns; omega, by rw [lp_lcg _ (bits_lt h), e]⟩
    · obtain ⟨k, hk, e⟩ := cov31 _ lt j (by omega)
      exact ⟨13 + k, by unfold SetTable.turns; omega, by rw [lp_lcg _ (bits_lt h), e]⟩
  obtain ⟨n, hn, e⟩ := key
  obtain ⟨s, hs, es⟩ := st_leap mask h n
  refine ⟨s, by omega, ?_⟩
  unfold pj
  rw [es]
  exact e
theorem first_of {P : Nat → Prop} [DecidablePred P] : ∀ N, (∃ s, s < N ∧ P s) → ∃ s, s < N ∧ P s ∧ ∀ m, m < s → ¬ P m
  | 0, ⟨s, h, _⟩ => by omega
  | N + 1, h => by
    by_cases c : ∃ s, s < N ∧ P s
    · obtain ⟨s, a, b⟩ := first_of N c
      exact ⟨s, by omega, b⟩
    · obtain ⟨s, a, b⟩ := h
      have : s = N := by
        by_cases z : s < N
        · exact absurd ⟨s, z, b⟩ c
        · omega
      subst this
      exact ⟨s, a, b, fun m hm z => c ⟨m, hm, z⟩⟩
/-- one place at least is free -/
theorem free_place {l : List Nat} {N : Nat} (r : l.Pairwise (· < ·)) (d : ∀ j ∈ l, j ≤ N) (hl : l.length ≤ N) : ∃ j, j ≤ N ∧ j ∉ l := by
  have key : ∀ (l : List Nat) (b : Nat), l.Pairwise (· < ·) → (∀ j ∈ l, b ≤ j) → (∀ j, b ≤ j → j < b + l.length + 1 → j ∈ l) → False := by
    intro l
    induction l with
    | nil => intro b _ _ h; have := h b (Nat.le_refl _) (by simp); cases this
    | cons x l ih =>
      intro b r lo h
      obtain ⟨r1, r2⟩ := List.pairwise_cons.mp r
      have hx : x = b := by
        have := h b (Nat.le_refl _) (by omega)
        rcases List.mem_cons.mp this with z | z
        · exact z.symm
        · have := r1 b z
          have := lo x List.mem_cons_self
          omega
      subst hx
      refine ih (x + 1) r2 (fun j hj => r1 j hj) fun j h1 h2 => ?_
      have := h j (by omega) (by rw [List.length_cons]; omega)
      rcases List.mem_cons.mp this with z | z
      · omega
      · exact z
  by_cases c : ∃ j, j < N + 1 ∧ j ∉ l
  · obtain ⟨j, a, b⟩ := c
    exact ⟨j, by omega, b⟩
  · refine (key l 0 r (fun _ _ => Nat.zero_le _) fun j _ h2 => ?_).elim
    by_cases z : j ∈ l
    · exact z
    · exact absurd ⟨j, by omega, z⟩ c
/-! where a number stands among rising ones -/
theorem rise_get {l : List Nat} (r : l.Pairwise (· < ·)) {i k x y : Nat} (hi : l[i]? = some x) (hk : l[k]? = some y) (h : i < k) : x < y := by
  obtain ⟨h1, e1⟩ := List.getElem?_eq_some_iff.mp hi
  obtain ⟨h2, e2⟩ := List.getElem?_eq_some_iff.mp hk
  rw [← e1, ← e2]
  exact List.pairwise_iff_getElem.mp r i k h1 h2 h
theorem below_go {xs : Array Nat} {j : Nat} (r : xs.toList.Pairwise (· < ·)) : ∀ (fuel lo hi : Nat), hi - lo ≤ fuel → lo ≤ hi → hi ≤ xs.size → (∀ i x, xs.toList[i]? = some x → i < lo → x < j) → (∀ i x, xs.toList[i]? = some x → hi ≤ i → j ≤ x) →
    SetTable.below.go xs j fuel lo hi ≤ xs.size ∧ ∀ i x, xs.toList[i]? = some x → (i < SetTable.below.go xs j fuel lo hi ↔ x < j)
  | 0, lo, hi, hf, hl, hh, a, b => by
    have : lo = hi := by omega
    subst this
    show lo ≤ _ ∧ ∀ i x, _ → (i < lo ↔ _)
    refine ⟨hh, fun i x e => ⟨fun z => a i x e z, fun z => ?_⟩⟩
    by_cases c : i < lo
    · exact c
    · have := b i x e (by omega); omega
  | fuel + 1, lo, hi, hf, hl, hh, a, b => by
    unfold SetTable.below.go
    by_cases c : lo < hi
    · rw [if_pos c]
      dsimp only
      have hm : (lo + hi) / 2 < xs.size := by omega
      have em : xs.toList[(lo + hi) / 2]? = some xs[(lo + hi) / 2] := by simp [hm]
      have eg : xs.getD ((lo + hi) / 2) j = xs[(lo + hi) / 2] := by simp [Array.getD, hm]
      rw [eg]
      generalize xs[(lo + hi) / 2] = v at em
      by_cases q : v < j
      · rw [if_pos q]
        refine below_go r fuel _ _ (by omega) (by omega) hh (fun i x e z => ?_) b
        by_cases y : i = (lo + hi) / 2
        · subst y; rw [em] at e; cases e; exact q
        · have := rise_get r e em (by omega); omega
      · rw [if_neg q]
        refine below_go r fuel _ _ (by omega) (by omega) (by omega) a fun i x e z => ?_
        by_cases y : i = (lo + hi) / 2
        · subst y; rw [em] at e; cases e; omega
        · have := rise_get r em e (by omega); omega
    · rw [if_neg c]
      have : lo = hi := by omega
      subst this
      refine ⟨hh, fun i x e => ⟨fun z => a i x e z, fun z => ?_⟩⟩
      by_cases c : i < lo
      · exact c
      · have := b i x e (by omega); omega
theorem below_ok {xs : Array Nat} (r : xs.toList.Pairwise (· < ·)) (j : Nat) : SetTable.below xs j ≤ xs.size ∧ ∀ i x, xs.toList[i]? = some x → (i < SetTable.below xs j ↔ x < j) :=
  below_go r _ _ _ (by omega) (Nat.zero_le _) (Nat.le_refl _) (fun i x _ h => by omega) fun i x e h => by
    have := (List.getElem?_eq_some_iff.mp e).1
    simp at this; omega
theorem below_at {xs : Array Nat} (r : xs.toList.Pairwise (· < ·)) {i j : Nat} (e : xs.toList[i]? = some j) : SetTable.below xs j = i := by
  obtain ⟨a, b⟩ := below_ok r j
  have h1 := (b i j e)
  have hi := (List.getElem?_eq_some_iff.mp e).1
  by_cases c : SetTable.below xs j < i
  · have e2 : xs.toList[SetTable.below xs j]? = some (xs.toList[SetTable.below xs j]'(by omega)) := by simp
    have h2 := rise_get r e2 e c
    have := (b _ _ e2).mpr h2
    omega
  · have : ¬ i < SetTable.below xs j := fun z => by have := h1.mp z; omega
    omega
theorem slot_live {t : SetTable} (r : t.place.toList.Pairwise (· < ·)) {i j : Nat} (e : t.place.toList[i]? = some j) : t.slot j = .live i := by
  unfold SetTable.slot
  rw [below_at r e]
  have : t.place[i]? = some j := by rw [← Array.getElem?_toList]; exact e
  dsimp only
  rw [this]
  simp
theorem slot_empty {t : SetTable} (d : t.dummies = #[]) {j : Nat} (h : j ∉ t.place.toList) : t.slot j = .empty := by
  unfold SetTable.slot
  have : (t.place[SetTable.below t.place j]? == some j) = false := by
    rw [beq_eq_false_iff_ne]
    intro z
    rw [← Array.getElem?_toList] at z
    exact h (List.mem_of_getElem? z)
  dsimp only
  rw [this, d]
  rfl
theorem rise_ins {xs : Array Nat} (r : xs.toList.Pairwise (· < ·)) {j : Nat} (h : j ∉ xs.toList) : (SetTable.insertAt xs (SetTable.below xs j) j).toList.Pairwise (· < ·) := by
  obtain ⟨a, b⟩ := below_ok r j
  rw [SetTable.toList_insertAt, List.pairwise_append]
  refine ⟨r.sublist (List.take_sublist _ _), List.pairwise_cons.mpr ⟨fun y hy => ?_, r.sublist (List.drop_sublist _ _)⟩, fun x hx y hy => ?_⟩
  · obtain ⟨k, hk⟩ := List.mem_iff_getElem?.mp hy
    rw [List.getElem?_drop] at hk
    have := (b _ _ hk)
    have ne : y ≠ j := fun z => h (z ▸ List.mem_of_getElem? hk)
    have : ¬ y < j := fun z => by have := this.mpr z; omega
    omega
  · obtain ⟨k, hk⟩ := List.mem_iff_getElem?.mp hx
    have hkl := (List.getElem?_eq_some_iff.mp hk).1
    rw [List.length_take] at hkl
    rw [List.getElem?_take, if_pos (by omega)] at hk
    have xj := (b _ _ hk).mp (by omega)
    rcases List.mem_cons.mp hy with z | z
    · rw [z]; exact xj
    · obtain ⟨m, hm⟩ := List.mem_iff_getElem?.mp z
      rw [List.getElem?_drop] at hm
      exact rise_get r hk hm (by omega)
end L2

namespace L2
open PySem PySem.Spec PyProof.Rows
/-- a hash is found at j: ahead of it all places that are looked at are taken -/
def Rch (mask : Nat) (P : Nat → Prop) (h : Int) (j : Nat) : Prop := ∃ s, s < 10 * SetTable.turns mask ∧ pj mask h s = j ∧ ∀ m, m < s → P (pj mask h m)
theorem Rch.mono {mask : Nat} {P Q : Nat → Prop} {h : Int} {j : Nat} (k : ∀ x, P x → Q x) (r : Rch mask P h j) : Rch mask Q h j := let ⟨s, a, b, c⟩ := r; ⟨s, a, b, fun m hm => k _ (c m hm)⟩
structure TbG (t : SetTable) (hs : List Int) : Prop where
  dum : t.dummies = #[]
  rise : t.place.toList.Pairwise (· < ·)
  dom : ∀ j ∈ t.place.toList, j ≤ t.mask
  len : t.place.size = hs.length
  msk : t.mask = 7 ∨ t.mask = 31
  few : hs.length * 5 < t.mask * 3
  rch : ∀ (i j : Nat) (h : Int), t.place.toList[i]? = some j → hs[i]? = some h → Rch t.mask (· ∈ t.place.toList) h j
theorem TbG.fits {t : SetTable} {hs : List Int} (x : TbG t hs) : t.fits hs.length = true := by
  unfold SetTable.fits SetTable.fill
  have := x.few
  rw [x.len, x.dum]
  simp
  omega
theorem TbG.free {t : SetTable} {hs : List Int} (x : TbG t hs) (h : Int) : ∃ s, s < 10 * SetTable.turns t.mask ∧ pj t.mask h s ∉ t.place.toList ∧ ∀ m, m < s → pj t.mask h m ∈ t.place.toList := by
  have f := x.few
  obtain ⟨j, hj, nj⟩ := free_place x.rise x.dom (by rw [Array.length_toList, x.len]; omega)
  obtain ⟨s, hs', e⟩ := cover x.msk h hj
  obtain ⟨s, a, b, c⟩ := first_of (P := fun s => pj t.mask h s ∉ t.place.toList) _ ⟨s, hs', by rw [e]; exact nj⟩
  exact ⟨s, a, b, fun m hm => Decidable.not_not.mp (c m hm)⟩
theorem st_dum (mask : Nat) (h : Int) : ∀ n, (stH mask h n).dummy = none
  | 0 => rfl
  | n + 1 => by
    show (adv mask (stH mask h n)).dummy = none
    unfold adv
    split <;> exact st_dum mask h n
theorem probe_go {t : SetTable} {hashAt : Nat → Int} {h : Int} : ∀ (d fuel s0 : Nat), d < fuel → (∀ m, m < d → ∃ i, t.slot (pj t.mask h (s0 + m)) = .live i ∧ (hashAt i == h) = false) → SetTable.probe.go t hashAt h fuel (stH t.mask h s0) = SetTable.probe.go t hashAt h (fuel - d) (stH t.mask h (s0 + d))
  | 0, fuel, s0, _, _ => rfl
  | d + 1, 0, s0, hd, _ => by omega
  | d + 1, fuel + 1, s0, hd, H => by
    obtain ⟨i, e1, e2⟩ := H 0 (by omega)
    conv => lhs; unfold SetTable.probe.go
    have e1' : t.slot (stH t.mask h s0).j = .live i := e1
    rw [e1']
    dsimp only
    rw [e2, if_neg (by decide), adv_eq]
    have := probe_go (t := t) (hashAt := hashAt) (h := h) d fuel (s0 + 1) (by omega) fun m hm => by
      have := H (m + 1) (by omega)
      rwa [show s0 + (m + 1) = s0 + 1 + m by omega] at this
    show SetTable.probe.go t hashAt h fuel (stH t.mask h (s0 + 1)) = _
    rw [this, show fuel + 1 - (d + 1) = fuel - d by omega, show s0 + (d + 1) = s0 + 1 + d by omega]
theorem mem_at {l : List Nat} {x : Nat} (h : x ∈ l) : ∃ i : Nat, l[i]? = some x := List.mem_iff_getElem?.mp h
theorem probe_at {t : SetTable} {hs : List Int} (x : TbG t hs) {hashAt : Nat → Int} (hH : ∀ (i : Nat) (h' : Int), hs[i]? = some h' → hashAt i = h') (h : Int) {se s0 : Nat} (hse : se < 10 * SetTable.turns t.mask) (emp : pj t.mask h se ∉ t.place.toList) (liv : ∀ m, m < se → pj t.mask h m ∈ t.place.toList) (h0 : s0 ≤ se) :
    (t.probe hashAt h (stH t.mask h s0) = some (.empty (pj t.mask h se) none) ∧ ∀ m i : Nat, s0 ≤ m → m < se → t.place.toList[i]? = some (pj t.mask h m) → hs[i]? ≠ some h) ∨
    ∃ s1 i : Nat, s0 ≤ s1 ∧ s1 < se ∧ t.place.toList[i]? = some (pj t.mask h s1) ∧ hs[i]? = some h ∧ t.probe hashAt h (stH t.mask h s0) = some (.candidate (pj t.mask h s1) i (stH t.mask h (s1 + 1))) ∧ ∀ m i' : Nat, s0 ≤ m → m < s1 → t.place.toList[i']? = some (pj t.mask h m) → hs[i']? ≠ some h := by
  have hl := x.len
  have look : ∀ m, m < se → ∃ (i : Nat) (h' : Int), t.place.toList[i]? = some (pj t.mask h m) ∧ hs[i]? = some h' ∧ t.slot (pj t.mask h m) = .live i ∧ hashAt i = h' := fun m hm => by
    obtain ⟨i, e⟩ := mem_at (liv m hm)
    have hi := (List.getElem?_eq_some_iff.mp e).1
    have e2 : hs[i]? = some (hs[i]'(by simp at hi; omega)) := by simp
    exact ⟨i, _, e, e2, slot_live x.rise e, hH i _ e2⟩
  have uniq : ∀ {i i' j : Nat}, t.place.toList[i]? = some j → t.place.toList[i']? = some j → i = i' := fun {i i' j} a b => by rw [← below_at x.rise a, ← below_at x.rise b]
  by_cases c : ∃ s, s < se ∧ (s0 ≤ s ∧ ∃ i, t.slot (pj t.mask h s) = .live i ∧ hashAt i = h)
  · obtain ⟨s1, a, ⟨b, i, d, e⟩, f⟩ := (by classical exact first_of (P := fun s => s0 ≤ s ∧ ∃ i, t.slot (pj t.mask h s) = .live i ∧ hashAt i = h) se c)
    right
    obtain ⟨i', h', g1, g2, g3, g4⟩ := look s1 a
    rw [d] at g3
    cases g3
    refine ⟨s1, i, b, a, g1, by rw [g2, ← g4, e], ?_, fun m i' a1 a2 a3 a4 => f m a2 ⟨a1, i', slot_live x.rise a3, hH i' h a4⟩⟩
    unfold SetTable.probe
    rw [probe_go (s1 - s0) _ s0 (by omega) fun m hm => ?_]
    · rw [show s0 + (s1 - s0) = s1 by omega]
      obtain ⟨fu, hf⟩ : ∃ fu, 10 * SetTable.turns t.mask - (s1 - s0) = fu + 1 := ⟨10 * SetTable.turns t.mask - (s1 - s0) - 1, by omega⟩
      rw [hf]
      unfold SetTable.probe.go
      have d' : t.slot (stH t.mask h s1).j = .live i := d
      rw [d']
      dsimp only
      rw [e, if_pos (by simp), adv_eq]
      rfl
    · obtain ⟨i', h', g1, g2, g3, g4⟩ := look (s0 + m) (by omega)
      refine ⟨i', g3, ?_⟩
      rw [beq_eq_false_iff_ne]
      intro z
      exact f (s0 + m) (by omega) ⟨by omega, i', g3, z⟩
  · left
    refine ⟨?_, fun m i hm1 hm2 e z => c ⟨m, hm2, hm1, i, slot_live x.rise e, hH i h z⟩⟩
    unfold SetTable.probe
    rw [probe_go (se - s0) _ s0 (by omega) fun m hm => ?_]
    · rw [show s0 + (se - s0) = se by omega]
      obtain ⟨fu, hf⟩ : ∃ fu, 10 * SetTable.turns t.mask - (se - s0) = fu + 1 := ⟨10 * SetTable.turns t.mask - (se - s0) - 1, by omega⟩
      rw [hf]
      unfold SetTable.probe.go
      have d' : t.slot (stH t.mask h se).j = .empty := slot_empty x.dum emp
      rw [d']
      dsimp only
      rw [st_dum]
      rfl
    · obtain ⟨i', h', g1, g2, g3, g4⟩ := look (s0 + m) (by omega)
      refine ⟨i', g3, ?_⟩
      rw [beq_eq_false_iff_ne]
      intro z
      exact c ⟨s0 + m, by omega, by omega, i', g3, z⟩
/-- a new one is put where its look ends -/
theorem put_ok {t : SetTable} {hs : List Int} (x : TbG t hs) {h : Int} {se : Nat} (hse : se < 10 * SetTable.turns t.mask) (emp : pj t.mask h se ∉ t.place.toList) (liv : ∀ m, m < se → pj t.mask h m ∈ t.place.toList) (le : pj t.mask h se ≤ t.mask) (plain led : Bool) :
    (t.put (pj t.mask h se)).2 = SetTable.below t.place (pj t.mask h se) ∧ (t.put (pj t.mask h se)).1 = { t with place := SetTable.insertAt t.place (SetTable.below t.place (pj t.mask h se)) (pj t.mask h se) } := by
  refine ⟨rfl, ?_⟩
  unfold SetTable.put
  have : SetTable.has t.dummies (pj t.mask h se) = false := by rw [x.dum]; rfl
  dsimp only
  rw [this, if_neg (by decide)]
theorem ins_getH {α : Type} {l : List α} {p : Nat} {y : α} (hp : p ≤ l.length) {i : Nat} {z : α} (e : (l.take p ++ y :: l.drop p)[i]? = some z) : (i = p ∧ z = y) ∨ (i < p ∧ l[i]? = some z) ∨ (p < i ∧ l[i - 1]? = some z) := by
  have lt : (l.take p).length = p := by rw [List.length_take]; omega
  by_cases c : i < p
  · rw [List.getElem?_append_left (by omega), List.getElem?_take, if_pos c] at e
    exact .inr (.inl ⟨c, e⟩)
  · rw [List.getElem?_append_right (by omega), lt] at e
    by_cases d : i = p
    · subst d
      rw [Nat.sub_self] at e
      exact .inl ⟨rfl, (by simpa using e.symm)⟩
    · rw [show i - p = (i - p - 1) + 1 by omega, List.getElem?_cons_succ, List.getElem?_drop, show p + (i - p - 1) = i - 1 by omega] at e
      exact .inr (.inr ⟨by omega, e⟩)
/-- behind that the table is good, if it is not too full -/
theorem put_tg {t : SetTable} {hs : List Int} (x : TbG t hs) {h : Int} {se : Nat} (hse : se < 10 * SetTable.turns t.mask) (emp : pj t.mask h se ∉ t.place.toList) (liv : ∀ m, m < se → pj t.mask h m ∈ t.place.toList) (le : pj t.mask h se ≤ t.mask)
    (few : (hs.length + 1) * 5 < t.mask * 3) : TbG { t with place := SetTable.insertAt t.place (SetTable.below t.place (pj t.mask h se)) (pj t.mask h se) } (hs.take (SetTable.below t.place (pj t.mask h se)) ++ h :: hs.drop (SetTable.below t.place (pj t.mask h se))) := by
  obtain ⟨b1, b2⟩ := below_ok x.rise (pj t.mask h se)
  have hl := x.len
  have mem : ∀ y, y ∈ t.place.toList → y ∈ (SetTable.insertAt t.place (SetTable.below t.place (pj t.mask h se)) (pj t.mask h se)).toList := fun y hy => by
    rw [SetTable.toList_insertAt]
    rw [← List.take_append_drop (SetTable.below t.place (pj t.mask h se)) t.place.toList] at hy
    rcases List.mem_append.mp hy with z | z
    · exact List.mem_append_left _ z
    · exact List.mem_append_right _ (List.mem_cons_of_mem _ z)
  refine ⟨x.dum, rise_ins x.rise emp, fun j hj => ?_, ?_, x.msk, ?_, fun i j h' e1 e2 => ?_⟩
  · rw [SetTable.toList_insertAt] at hj
    rcases List.mem_append.mp hj with z | z
    · exact x.dom j (List.mem_of_mem_take z)
    · rcases List.mem_cons.mp z with z | z
      · rw [z]; exact le
      · exact x.dom j (List.mem_of_mem_drop z)
  · rw [← Array.length_toList, SetTable.toList_insertAt]
    simp
    omega
  · simp only [List.length_append, List.length_cons, List.length_take, List.length_drop]
    omega
  · rw [SetTable.toList_insertAt] at e1
    dsimp only at e1 ⊢
    rcases ins_getH (by simpa using b1) e1 with ⟨a, b⟩ | ⟨a, b⟩ | ⟨a, b⟩
    · rcases ins_getH (by omega) e2 with ⟨c, d⟩ | ⟨c, d⟩ | ⟨c, d⟩
      · rw [b, d]
        exact ⟨se, hse, rfl, fun m hm => mem _ (liv m hm)⟩
      · omega
      · omega
    · rcases ins_getH (by omega) e2 with ⟨c, d⟩ | ⟨c, d⟩ | ⟨c, d⟩
      · omega
      · exact (x.rch i j h' b d).mono mem
      · omega
    · rcases ins_getH (by omega) e2 with ⟨c, d⟩ | ⟨c, d⟩ | ⟨c, d⟩
      · omega
      · omega
      · exact (x.rch (i - 1) j h' b d).mono mem
theorem pj_le (mask : Nat) (h : Int) : ∀ n, (stH mask h n).i ≤ mask ∧ (stH mask h n).j + (stH mask h n).more = SetTable.runEnd mask (stH mask h n).i
  | 0 => by
    have : SetTable.bits h % (mask + 1) < mask + 1 := Nat.mod_lt _ (by omega)
    show SetTable.bits h % (mask + 1) ≤ mask ∧ SetTable.bits h % (mask + 1) + (SetTable.runEnd mask (SetTable.bits h % (mask + 1)) - SetTable.bits h % (mask + 1)) = _
    refine ⟨by omega, ?_⟩
    show _ = SetTable.runEnd mask (SetTable.bits h % (mask + 1))
    have : SetTable.bits h % (mask + 1) ≤ SetTable.runEnd mask (SetTable.bits h % (mask + 1)) := by unfold SetTable.runEnd; split <;> omega
    omega
  | n + 1 => by
    obtain ⟨a, b⟩ := pj_le mask h n
    show (adv mask (stH mask h n)).i ≤ mask ∧ (adv mask (stH mask h n)).j + (adv mask (stH mask h n)).more = SetTable.runEnd mask (adv mask (stH mask h n)).i
    unfold adv
    split
    · exact ⟨a, by dsimp only; omega⟩
    · dsimp only
      have l : (SetTable.leap mask (stH mask h n).i (stH mask h n).perturb).1 < mask + 1 := Nat.mod_lt _ (by omega)
      generalize (SetTable.leap mask (stH mask h n).i (stH mask h n).perturb).1 = v at *
      refine ⟨by omega, ?_⟩
      have : v ≤ SetTable.runEnd mask v := by unfold SetTable.runEnd; split <;> omega
      omega
theorem pj_dom (mask : Nat) (h : Int) (n : Nat) : pj mask h n ≤ mask := by
  obtain ⟨a, b⟩ := pj_le mask h n
  unfold pj
  have : SetTable.runEnd mask (stH mask h n).i ≤ mask := by unfold SetTable.runEnd; split <;> omega
  omega
end L2

/-! A table laid anew. -/
namespace L2
open PySem PySem.Spec PyProof.Rows
def occ (owner : Array (Option Nat)) (j : Nat) : Prop := ∃ k, owner[j]? = some (some k)
theorem occ_iff {owner : Array (Option Nat)} {j : Nat} (hj : j < owner.size) : (owner.getD j (some 0)).isNone = true ↔ ¬ occ owner j := by
  have e : owner.getD j (some 0) = owner[j] := by simp [Array.getD, hj]
  unfold occ
  rw [e, Array.getElem?_eq_getElem hj]
  cases owner[j] <;> simp
theorem free_go {mask : Nat} {owner : Array (Option Nat)} (hsz : owner.size = mask + 1) (h : Int) : ∀ (fuel n s : Nat), s ≤ 10 * n → stH mask h s = { j := (lpI mask (SetTable.bits h) n).1, more := SetTable.runEnd mask (lpI mask (SetTable.bits h) n).1 - (lpI mask (SetTable.bits h) n).1, i := (lpI mask (SetTable.bits h) n).1, perturb := (lpI mask (SetTable.bits h) n).2, dummy := none } →
    (∀ m, m < s → occ owner (pj mask h m)) → (∃ n0, n ≤ n0 ∧ n0 - n < fuel ∧ n0 + 1 < SetTable.turns mask ∧ ¬ occ owner (lpI mask (SetTable.bits h) n0).1) →
    ∃ z, SetTable.layClean.free mask owner fuel (lpI mask (SetTable.bits h) n).1 (lpI mask (SetTable.bits h) n).2 = some (pj mask h z) ∧ z < 10 * SetTable.turns mask ∧ ¬ occ owner (pj mask h z) ∧ ∀ m, m < z → occ owner (pj mask h m)
  | 0, n, s, _, _, _, ⟨n0, _, hf, _⟩ => by omega
  | fuel + 1, n, s, hs, e, oc, ⟨n0, a1, a2, a3, a4⟩ => by
    have lt := lp_lt mask (SetTable.bits h) n
    have rl := run_le mask (lpI mask (SetTable.bits h) n).1
    have run := st_run e
    have re : SetTable.runEnd mask (lpI mask (SetTable.bits h) n).1 ≤ mask ∧ (lpI mask (SetTable.bits h) n).1 ≤ SetTable.runEnd mask (lpI mask (SetTable.bits h) n).1 := by unfold SetTable.runEnd; split <;> omega
    have pjr : ∀ k, k ≤ SetTable.runEnd mask (lpI mask (SetTable.bits h) n).1 - (lpI mask (SetTable.bits h) n).1 → pj mask h (s + k) = (lpI mask (SetTable.bits h) n).1 + k := fun k hk => by unfold pj; rw [run k hk]
    unfold SetTable.layClean.free
    have nl : (lpI mask (SetTable.bits h) (n + 1)) = SetTable.leap mask (lpI mask (SetTable.bits h) n).1 (lpI mask (SetTable.bits h) n).2 := rfl
    cases q : (List.range (SetTable.runEnd mask (lpI mask (SetTable.bits h) n).1 + 1 - (lpI mask (SetTable.bits h) n).1)).find? fun k => (owner.getD ((lpI mask (SetTable.bits h) n).1 + k) (some 0)).isNone with
    | some k =>
      dsimp only
      obtain ⟨q1, q2, q3⟩ := List.find?_range_eq_some.mp q
      have hk : k < SetTable.runEnd mask (lpI mask (SetTable.bits h) n).1 + 1 - (lpI mask (SetTable.bits h) n).1 := by simpa using q2
      have e1 := pjr k (by omega)
      refine ⟨s + k, by rw [e1], by omega, by rw [e1]; exact (occ_iff (by omega)).mp q1, fun m hm => ?_⟩
      by_cases c : m < s
      · exact oc m c
      · have e2 := pjr (m - s) (by omega)
        rw [show s + (m - s) = m by omega] at e2
        rw [e2]
        have := q3 (m - s) (by omega)
        refine Classical.byContradiction fun z => ?_
        rw [(occ_iff (by omega)).mpr z] at this
        cases this
    | none =>
      dsimp only
      have q1 := List.find?_range_eq_none.mp q
      have all : ∀ k, k ≤ SetTable.runEnd mask (lpI mask (SetTable.bits h) n).1 - (lpI mask (SetTable.bits h) n).1 → occ owner ((lpI mask (SetTable.bits h) n).1 + k) := fun k hk => by
        have := q1 k (by omega)
        refine Classical.byContradiction fun z => ?_
        rw [(occ_iff (by omega)).mpr z] at this
        cases this
      have ne : n ≠ n0 := fun z => by subst z; exact a4 (by have := all 0 (by omega); simpa using this)
      obtain ⟨s', e'⟩ : ∃ s', s' = s + (SetTable.runEnd mask (lpI mask (SetTable.bits h) n).1 - (lpI mask (SetTable.bits h) n).1) + 1 := ⟨_, rfl⟩
      have st' : stH mask h s' = { j := (lpI mask (SetTable.bits h) (n + 1)).1, more := SetTable.runEnd mask (lpI mask (SetTable.bits h) (n + 1)).1 - (lpI mask (SetTable.bits h) (n + 1)).1, i := (lpI mask (SetTable.bits h) (n + 1)).1, perturb := (lpI mask (SetTable.bits h) (n + 1)).2, dummy := none } := by
        rw [e']
        show adv mask (stH mask h _) = _
        rw [run _ (Nat.le_refl _)]
        unfold adv
        dsimp only
        rw [if_neg (by omega)]
        rfl
      rw [← nl]
      refine free_go hsz h fuel (n + 1) s' (by omega) st' (fun m hm => ?_) ⟨n0, by omega, by omega, a3, a4⟩
      by_cases c : m < s
      · exact oc m c
      · have e2 := pjr (m - s) (by omega)
        rw [show s + (m - s) = m by omega] at e2
        rw [e2]
        exact all _ (by omega)
structure OC (mask : Nat) (owner : Array (Option Nat)) (hs : List Int) : Prop where
  sz : owner.size = mask + 1
  sur : ∀ i : Nat, i < hs.length → ∃ j : Nat, owner[j]? = some (some i)
  lt : ∀ j i : Nat, owner[j]? = some (some i) → i < hs.length
  one : ∀ j j' i : Nat, owner[j]? = some (some i) → owner[j']? = some (some i) → j = j'
  rch : ∀ (j i : Nat) (h : Int), owner[j]? = some (some i) → hs[i]? = some h → Rch mask (occ owner) h j
theorem OC.free {mask : Nat} {owner : Array (Option Nat)} {hs : List Int} (x : OC mask owner hs) (hl : hs.length ≤ mask) : ∃ j, j ≤ mask ∧ ¬ occ owner j := by
  refine Classical.byContradiction fun c => ?_
  have all : ∀ j, j ≤ mask → occ owner j := fun j hj => Classical.byContradiction fun z => c ⟨j, hj, z⟩
  have sz := x.sz
  have := nodup_short hs.length ((List.range (mask + 1)).map fun j => (((owner.getD j none).getD 0 : Nat) : Int)) (by
    rw [List.nodup_iff_pairwise_ne, List.pairwise_map]
    refine List.Pairwise.imp_of_mem ?_ (List.nodup_iff_pairwise_ne.mp List.nodup_range)
    intro a b ha hb ne e
    obtain ⟨k1, e1⟩ := all a (by have := List.mem_range.mp ha; omega)
    obtain ⟨k2, e2⟩ := all b (by have := List.mem_range.mp hb; omega)
    have g1 : owner.getD a none = some k1 := by simp [e1]
    have g2 : owner.getD b none = some k2 := by simp [e2]
    rw [g1, g2] at e
    have : k1 = k2 := by
      have q : ((k1 : Nat) : Int) = (k2 : Nat) := by simpa using e
      omega
    subst this
    exact ne (x.one a b k1 e1 e2)) (fun y hy => by
    obtain ⟨j, hj, rfl⟩ := List.mem_map.mp hy
    obtain ⟨k1, e1⟩ := all j (by have := List.mem_range.mp hj; omega)
    have g1 : owner.getD j none = some k1 := by simp [e1]
    rw [g1]
    have := x.lt j k1 e1
    simp
    omega)
  simp at this
  omega
theorem oc_step {mask : Nat} (hm : mask = 7 ∨ mask = 31) {owner : Array (Option Nat)} {hs : List Int} (x : OC mask owner hs) (hl : hs.length ≤ mask) (h : Int) : ∃ j, SetTable.layClean.free mask owner (SetTable.turns mask) (SetTable.bits h % (mask + 1)) (SetTable.bits h) = some j ∧ OC mask (owner.setIfInBounds j (some hs.length)) (hs ++ [h]) := by
  obtain ⟨j0, hj0, nj0⟩ := x.free hl
  have key : ∃ n, n + 1 < SetTable.turns mask ∧ (lpI mask (SetTable.bits h) n).1 = j0 := by
    have lt := lp_lt mask (SetTable.bits h) 13
    rcases hm with rfl | rfl
    · obtain ⟨k, hk, e⟩ := cov7 _ lt j0 (by omega)
      exact ⟨13 + k, by unfold SetTable.turns; omega, by rw [lp_lcg _ (bits_lt h), e]⟩
    · obtain ⟨k, hk, e⟩ := cov31 _ lt j0 (by omega)
      exact ⟨13 + k, by unfold SetTable.turns; omega, by rw [lp_lcg _ (bits_lt h), e]⟩
  obtain ⟨n0, hn0, en0⟩ := key
  obtain ⟨z, e, hz, nz, oc⟩ := free_go x.sz h (SetTable.turns mask) 0 0 (Nat.zero_le _) rfl (fun m hm => by omega) ⟨n0, by omega, by omega, hn0, by rw [en0]; exact nj0⟩
  have zd := pj_dom mask h z
  refine ⟨pj mask h z, e, ?_⟩
  have sz := x.sz
  have get : ∀ j : Nat, (owner.setIfInBounds (pj mask h z) (some hs.length))[j]? = if j = pj mask h z then some (some hs.length) else owner[j]? := fun j => by
    rw [Array.getElem?_setIfInBounds]
    by_cases c : pj mask h z = j
    · subst c; rw [if_pos rfl, if_pos (by omega), if_pos rfl]
    · rw [if_neg c, if_neg (fun q => c q.symm)]
  have up : ∀ y, occ owner y → occ (owner.setIfInBounds (pj mask h z) (some hs.length)) y := fun y ⟨k, hk⟩ => by
    unfold occ
    rw [get]
    split
    · exact ⟨_, rfl⟩
    · exact ⟨k, hk⟩
  have old : ∀ j i : Nat, (owner.setIfInBounds (pj mask h z) (some hs.length))[j]? = some (some i) → (j = pj mask h z ∧ i = hs.length) ∨ (j ≠ pj mask h z ∧ owner[j]? = some (some i)) := fun j i q => by
    rw [get] at q
    split at q
    · exact .inl ⟨by assumption, by simpa using q.symm⟩
    · exact .inr ⟨by assumption, q⟩
  refine ⟨by rw [Array.size_setIfInBounds]; exact sz, fun i hi => ?_, fun j i q => ?_, fun j j' i q q' => ?_, fun j i h' q q' => ?_⟩
  · rw [List.length_append, List.length_singleton] at hi
    by_cases c : i = hs.length
    · exact ⟨pj mask h z, by rw [get, if_pos rfl, c]⟩
    · obtain ⟨j, hj⟩ := x.sur i (by omega)
      refine ⟨j, ?_⟩
      rw [get, if_neg (fun q => nz ⟨i, by rw [← q]; exact hj⟩)]
      exact hj
  · rw [List.length_append, List.length_singleton]
    rcases old j i q with ⟨_, c⟩ | ⟨_, c⟩
    · omega
    · have := x.lt j i c; omega
  · rcases old j i q with ⟨a, c⟩ | ⟨a, c⟩ <;> rcases old j' i q' with ⟨b, d⟩ | ⟨b, d⟩
    · rw [a, b]
    · have := x.lt j' i d; omega
    · have := x.lt j i c; omega
    · exact x.one j j' i c d
  · rcases old j i q with ⟨a, c⟩ | ⟨a, c⟩
    · subst a c
      rw [List.getElem?_append_right (Nat.le_refl _), Nat.sub_self] at q'
      have : h' = h := by simpa using q'.symm
      subst this
      exact ⟨z, hz, rfl, fun m hm => up _ (oc m hm)⟩
    · have := x.lt j i c
      rw [List.getElem?_append_left this] at q'
      exact (x.rch j i h' c q').mono up
theorem oc_nil (mask : Nat) : OC mask (Array.replicate (mask + 1) none) [] := by
  have no : ∀ (j i : Nat), (Array.replicate (mask + 1) (none : Option Nat))[j]? ≠ some (some i) := fun j i q => by
    rw [Array.getElem?_replicate] at q
    split at q <;> simp at q
  exact ⟨by simp, fun i hi => by simp at hi, fun j i q => absurd q (no j i), fun j j' i q => absurd q (no j i), fun j i h q => absurd q (no j i)⟩
theorem oc_all {mask : Nat} (hm : mask = 7 ∨ mask = 31) : ∀ (rest done : List Int) (owner : Array (Option Nat)), OC mask owner done → done.length + rest.length ≤ mask →
    ∃ o', (rest.foldl (fun acc h => do
      let (owner, k) ← acc
      let j ← SetTable.layClean.free mask owner (SetTable.turns mask) (SetTable.bits h % (mask + 1)) (SetTable.bits h)
      pure (owner.setIfInBounds j (some k), k + 1)) (some (owner, done.length))) = some (o', done.length + rest.length) ∧ OC mask o' (done ++ rest)
  | [], done, owner, x, _ => ⟨owner, rfl, by rw [List.append_nil]; exact x⟩
  | h :: rest, done, owner, x, hl => by
    rw [List.length_cons] at hl
    obtain ⟨j, e, x'⟩ := oc_step hm x (by omega) h
    obtain ⟨o', e', y⟩ := oc_all hm rest (done ++ [h]) _ x' (by simp; omega)
    refine ⟨o', ?_, by simpa using y⟩
    rw [List.foldl_cons]
    have : (do
      let (owner, k) ← (some (owner, done.length) : Option (Array (Option Nat) × Nat))
      let j ← SetTable.layClean.free mask owner (SetTable.turns mask) (SetTable.bits h % (mask + 1)) (SetTable.bits h)
      pure (owner.setIfInBounds j (some k), k + 1)) = some (owner.setIfInBounds j (some done.length), (done ++ [h]).length) := by
      show (SetTable.layClean.free mask owner (SetTable.turns mask) (SetTable.bits h % (mask + 1)) (SetTable.bits h) >>= fun j => pure (owner.setIfInBounds j (some done.length), done.length + 1)) = _
      rw [e]
      simp
    rw [this, e']
    simp
    omega
theorem clean_ok {mask : Nat} (hm : mask = 7 ∨ mask = 31) (hs : List Int) (hl : hs.length ≤ mask) : ∃ o', SetTable.layClean mask hs.toArray = some o' ∧ OC mask o' hs := by
  obtain ⟨o', e, x⟩ := oc_all hm hs [] _ (oc_nil mask) (by simpa using hl)
  refine ⟨o', ?_, by simpa using x⟩
  unfold SetTable.layClean
  rw [← Array.foldl_toList]
  have e2 : (hs.foldl _ (some (Array.replicate (mask + 1) none, 0))) = _ := e
  show Option.map _ (hs.foldl _ _) = _
  rw [e2]
  rfl
end L2

namespace L2
open PySem PySem.Spec PyProof.Rows
def liv (owner : Array (Option Nat)) (l : List Nat) : List (Nat × Nat) := l.filterMap fun j => (owner.getD j none).map (j, ·)
theorem liv_mem {owner : Array (Option Nat)} {l : List Nat} {j k : Nat} : (j, k) ∈ liv owner l ↔ j ∈ l ∧ owner[j]? = some (some k) := by
  unfold liv
  rw [List.mem_filterMap]
  constructor
  · rintro ⟨a, ha, e⟩
    obtain ⟨b, hb, e2⟩ := Option.map_eq_some_iff.mp e
    have : a = j ∧ b = k := by simpa using e2
    obtain ⟨rfl, rfl⟩ := this
    refine ⟨ha, ?_⟩
    by_cases c : a < owner.size
    · simp [Array.getD, c] at hb
      rw [Array.getElem?_eq_getElem c, hb]
    · simp [Array.getD, c] at hb
  · rintro ⟨ha, e⟩
    exact ⟨j, ha, by simp [e]⟩
theorem liv_fst (owner : Array (Option Nat)) : ∀ l : List Nat, ((liv owner l).map (·.1)).Sublist l
  | [] => .slnil
  | a :: l => by
    unfold liv
    rw [List.filterMap_cons]
    cases (owner.getD a none) with
    | none => exact (liv_fst owner l).cons _
    | some k => exact (liv_fst owner l).cons₂ _
theorem sel_perm {α : Type} {es : List α} {order : List Nat} (p : order.Perm (List.range es.length)) : (order.filterMap (es[·]?)).Perm es := by
  refine (p.filterMap _).trans ?_
  have : ∀ l : List α, (List.range l.length).filterMap (l[·]?) = l := fun l => by
    refine List.ext_getElem? fun i => ?_
    have key : ∀ n, n ≤ l.length → (List.range n).filterMap (l[·]?) = l.take n := by
      intro n
      induction n with
      | zero => intro _; simp
      | succ n ih =>
        intro h
        rw [List.range_succ, List.filterMap_append, ih (by omega), List.take_add_one]
        simp [List.getElem?_eq_getElem (show n < l.length by omega)]
    rw [key _ (Nat.le_refl _), List.take_of_length_le (Nat.le_refl _)]
  rw [this]
theorem sel_get {α : Type} {es : List α} : ∀ {order : List Nat}, (∀ k ∈ order, k < es.length) → ∀ {i k : Nat}, order[i]? = some k → (order.filterMap (es[·]?))[i]? = es[k]?
  | [], _, i, k, e => by simp at e
  | a :: order, h, i, k, e => by
    have ha := h a List.mem_cons_self
    rw [List.filterMap_cons, List.getElem?_eq_getElem ha]
    cases i with
    | zero => simp at e; subst e; simp [List.getElem?_eq_getElem ha]
    | succ i => simpa using sel_get (order := order) (fun k hk => h k (List.mem_cons_of_mem _ hk)) (i := i) (k := k) (by simpa using e)
theorem relay_ok (t : SetTable) (hs : List Int) (hl : hs.length ≤ 18) {wanted : Nat} (hw : SetTable.sizeAbove wanted = 32) : ∃ (t' : SetTable) (order : Array Nat), t.relaid hs.toArray wanted = some (t', order) ∧ order.toList.Perm (List.range hs.length) ∧ TbG t' (order.toList.filterMap (hs[·]?)) ∧ t'.led = t.led ∧ t'.plain = t.plain := by
  obtain ⟨o', e, x⟩ := clean_ok (mask := 31) (.inr rfl) hs (by omega)
  have sz := x.sz
  have pm : ((liv o' (List.range 32)).map (·.2)).Perm (List.range hs.length) := by
    refine (List.perm_ext_iff_of_nodup ?_ List.nodup_range).mpr fun k => ?_
    · rw [List.nodup_iff_pairwise_ne, List.pairwise_map]
      have nd : ((liv o' (List.range 32)).map (·.1)).Nodup := List.nodup_range.sublist (liv_fst o' _)
      rw [List.nodup_iff_pairwise_ne, List.pairwise_map] at nd
      refine nd.imp_of_mem ?_
      rintro ⟨a, ka⟩ ⟨b, kb⟩ ha hb ne z
      dsimp only at z ne
      subst z
      exact ne (x.one a b ka (liv_mem.mp ha).2 (liv_mem.mp hb).2)
    · rw [List.mem_map, List.mem_range]
      constructor
      · rintro ⟨⟨a, ka⟩, ha, rfl⟩
        exact x.lt a ka (liv_mem.mp ha).2
      · intro hk
        obtain ⟨j, hj⟩ := x.sur k hk
        refine ⟨(j, k), liv_mem.mpr ⟨List.mem_range.mpr ?_, hj⟩, rfl⟩
        have := (Array.getElem?_eq_some_iff.mp hj).1
        omega
  refine ⟨{ mask := 31, place := ((liv o' (List.range 32)).map (·.1)).toArray, dummies := #[], finger := t.finger, led := t.led, moves := t.movedTo 31, plain := t.plain }, ((liv o' (List.range 32)).map (·.2)).toArray, ?_, pm, ?_, rfl, rfl⟩
  · unfold SetTable.relaid
    rw [hw]
    unfold SetTable.laid
    show (SetTable.layClean 31 hs.toArray >>= fun owner => _) = _
    rw [e]
    rfl
  · have ll : (liv o' (List.range 32)).length = hs.length := by have := pm.length_eq; simpa using this
    have slen := (sel_perm (es := hs) pm).length_eq
    have occm : ∀ y, occ o' y ↔ y ∈ (liv o' (List.range 32)).map (·.1) := fun y => by
      rw [List.mem_map]
      constructor
      · rintro ⟨k, hk⟩
        refine ⟨(y, k), liv_mem.mpr ⟨List.mem_range.mpr ?_, hk⟩, rfl⟩
        have := (Array.getElem?_eq_some_iff.mp hk).1
        omega
      · rintro ⟨⟨a, k⟩, ha, rfl⟩
        exact ⟨k, (liv_mem.mp ha).2⟩
    refine ⟨rfl, ?_, fun j hj => ?_, ?_, .inr rfl, ?_, fun i j h e1 e2 => ?_⟩
    · show ((liv o' (List.range 32)).map (·.1)).Pairwise _
      exact List.pairwise_lt_range.sublist (liv_fst o' _)
    · have hj : j ∈ (liv o' (List.range 32)).map (·.1) := hj
      have := (liv_fst o' (List.range 32)).subset hj
      have := List.mem_range.mp this
      show j ≤ 31
      omega
    · show ((liv o' (List.range 32)).map (·.1)).toArray.size = (((liv o' (List.range 32)).map (·.2)).toArray.toList.filterMap (hs[·]?)).length
      rw [List.size_toArray, List.length_map, ll]
      exact slen.symm
    · show (((liv o' (List.range 32)).map (·.2)).toArray.toList.filterMap (hs[·]?)).length * 5 < 31 * 3
      rw [slen]
      omega
    · have e1 : ((liv o' (List.range 32)).map (·.1))[i]? = some j := e1
      have e2 : (((liv o' (List.range 32)).map (·.2)).filterMap (hs[·]?))[i]? = some h := e2
      rw [List.getElem?_map] at e1
      obtain ⟨⟨a, k⟩, ha, rfl⟩ := Option.map_eq_some_iff.mp e1
      rw [sel_get (fun k hk => by have := pm.mem_iff.mp hk; exact List.mem_range.mp this) (i := i) (k := k) (by rw [List.getElem?_map, ha]; rfl)] at e2
      have := x.rch a k h (liv_mem.mp (List.mem_of_getElem? ha)).2 e2
      exact this.mono fun y hy => (occm y).mp hy
end L2

/-! Sets of tuples of ints: looked for, put. -/
namespace L2
open PySem PySem.Spec PyProof.Rows
/-- a tuple of ints at b -/
abbrev TkI (prog : Program) (w : World) (h : Heap) (ns : List Int) (b : Addr) : Prop := IsTupleKey (intKind prog w) h ns b
abbrev hsW (prog : Program) (w : World) (ns : List Int) : Int := tupleKeyHash (intKind prog w) ns
section
variable {prog : Program} {w : World} {A : Around} {E : Value → Shared → Prop} {s : Shared}
/-- a loop in which every turn goes on with what it had -/
theorem pass_by {M : Model} {α β : Type} {f : α → β → Sem (ForInStep β)} {b : β} {Q : β → Shared → Prop} : ∀ {l : List α}, (∀ x ∈ l, ∀ {Q : ForInStep β → Shared → Prop}, Q (.yield b) s → wpAny M A (f x b) Q E s) → Q b s → wpAny M A (forIn l b f) Q E s
  | [], _, h => by rw [List.forIn_nil]; exact wpAny_pure h
  | x :: l, hp, h => by rw [List.forIn_cons]; exact wpAny_bind (hp x (.head _) (pass_by (fun y hy => hp y (.tail _ hy)) h))
theorem pass_arr {M : Model} {α β : Type} {f : α → β → Sem (ForInStep β)} {b : β} {Q : β → Shared → Prop} {xs : Array α} (hp : ∀ x ∈ xs.toList, ∀ {Q : ForInStep β → Shared → Prop}, Q (.yield b) s → wpAny M A (f x b) Q E s) (h : Q b s) : wpAny M A (forIn xs b f) Q E s := by
  rw [← Array.forIn_toList]
  exact pass_by hp h
theorem items_int {ns : List Int} {vs : List Value} (x : ItemsAre (intKind prog w) ns vs) : ∀ v ∈ vs, ∃ k t, v = .int k t := by
  induction x with
  | nil => exact fun v h => nomatch h
  | cons h _ ih =>
    obtain ⟨t, e⟩ := Value.isInt_shape h
    exact List.forall_mem_cons.mpr ⟨⟨_, t, e⟩, ih⟩
theorem ofa_tup {ns : List Int} {b : Addr} {Q : Bool → Shared → Prop} (hk : TkI prog w s.heap ns b) (h : Q false s) : wpAny (model prog w) A (ofAClassStatement 8 (.ref b)) Q E s := by
  obtain ⟨⟨cls, dd, dat, sl⟩, items, n, ho, hc, hd, hi⟩ := hk
  cases hc
  cases hd
  unfold ofAClassStatement
  wp_walk using wpAny_typeOf_ref ho, wpAny_seqItems ho rfl, pass_arr
  · intro v hv Q q
    obtain ⟨k, t, rfl⟩ := items_int hi v hv
    wp_walk
    exact q
  · wp_walk
    exact h
theorem hbv_tup {ns : List Int} {b : Addr} {Q : Bool → Shared → Prop} (hk : TkI prog w s.heap ns b) (h : Q true s) : wpAny (model prog w) A (hashByValue 8 (.ref b)) Q E s := by
  have ty := hk.typeIs
  obtain ⟨⟨cls, dd, dat, sl⟩, items, n, ho, hc, hd, hi⟩ := hk
  cases hc
  cases hd
  unfold hashByValue
  wp_walk using wpAny_specialOf ty F.slot_tuple_hash.lookup, wpAny_seqItems ho rfl, pass_arr
  · intro v hv Q q
    obtain ⟨k, t, rfl⟩ := items_int hi v hv
    wp_walk
    exact q
  · wp_walk
    exact h
theorem scb_tup {ns : List Int} {b : Addr} {stored : List Value} {Q : Bool → Shared → Prop} (hk : TkI prog w s.heap ns b) (hs : ∀ y ∈ stored, ∃ c ms, y = .ref c ∧ TkI prog w s.heap ms c) (h : Q false s) : wpAny (model prog w) A (searchCouldBeSeen (.ref b) stored) Q E s := by
  unfold searchCouldBeSeen
  refine wpAny_bind (pass_by (fun y hy Q q => ?_) ?_)
  · obtain ⟨c, ms, rfl, hc⟩ := hs y hy
    refine wpAny_ite_split (fun _ => wpAny_pure q) fun _ => ?_
    wp_walk using wpAny_eqIsQuiet_tuple hk, wpAny_eqIsQuiet_tuple hc, ofa_tup hk, ofa_tup hc
    exact q
  · wp_walk
    exact h
def EW (prog : Program) (w : World) (h : Heap) (e : Int × Value) (ns : List Int) : Prop := e.1 = hsW prog w ns ∧ ∃ b, e.2 = .ref b ∧ TkI prog w h ns b
theorem ew_get {h : Heap} : ∀ {l : List (Int × Value)} {ks : List (List Int)}, Paired (EW prog w h) l ks → ∀ {i : Nat} {e : Int × Value}, l[i]? = some e → ∃ ns, ks[i]? = some ns ∧ EW prog w h e ns
  | _, _, .nil, i, e, q => by simp at q
  | _, _, .cons a t, 0, e, q => by simp at q; subst q; exact ⟨_, rfl, a⟩
  | _, _, .cons a t, i + 1, e, q => by
    obtain ⟨ns, x, y⟩ := ew_get t (i := i) (e := e) (by simpa using q)
    exact ⟨ns, by simpa using x, y⟩
theorem ew_at {h : Heap} : ∀ {l : List (Int × Value)} {ks : List (List Int)}, Paired (EW prog w h) l ks → ∀ {i : Nat} {ns : List Int}, ks[i]? = some ns → ∃ e, l[i]? = some e ∧ EW prog w h e ns
  | _, _, .nil, i, e, q => by simp at q
  | _, _, .cons a t, 0, e, q => by simp at q; subst q; exact ⟨_, rfl, a⟩
  | _, _, .cons a t, i + 1, ns, q => by
    obtain ⟨e, x, y⟩ := ew_at t (i := i) (ns := ns) (by simpa using q)
    exact ⟨e, by simpa using x, y⟩
/-- the search for a tuple of ints -/
theorem search_w {a b : Addr} {o : Obj} {es : Array (Int × Value)} {ep : Nat} {t : SetTable} {ks : List (List Int)} {ns : List Int} {Q : SetFound → Shared → Prop} (hu : A.units < cLine) (ho : s.heap.get? a = some o) (hd : o.data = .set es ep t) (tg : TbG t (es.toList.map (·.1))) (hp : Paired (EW prog w s.heap) es.toList ks) (hk : TkI prog w s.heap ns b)
    {se : Nat} (hse : se < 10 * SetTable.turns t.mask) (emp : pj t.mask (hsW prog w ns) se ∉ t.place.toList) (liv : ∀ m, m < se → pj t.mask (hsW prog w ns) m ∈ t.place.toList)
    (q1 : ns ∈ ks → Q (.there none) s) (q2 : ns ∉ ks → Q (.free (pj t.mask (hsW prog w ns) se) false) s) :
    ∀ (d s0 fuel : Nat) (stand : Option SetTable.Probe), se - s0 = d → s0 ≤ se → d < fuel → stand.getD (t.probeStart (hsW prog w ns)) = stH t.mask (hsW prog w ns) s0 → (∀ (m i : Nat) (ms : List Int), m < s0 → t.place.toList[i]? = some (pj t.mask (hsW prog w ns) m) → ks[i]? = some ms → ms ≠ ns) →
      wpAny (model prog w) A (setSearchFrom a (.ref b) (hsW prog w ns) true fuel stand) Q E s := by
  have sz : es.size = (es.toList.map (·.1)).length := by simp
  have ft : t.fits es.size = true := by rw [sz]; exact tg.fits
  have msk : t.gaveWay = false := by
    unfold SetTable.gaveWay
    rcases tg.msk with e | e <;> rw [e] <;> decide
  intro d
  induction d using Nat.strongRecOn with
  | _ d ih =>
    intro s0 fuel stand hd0 hle hfu hst hpass
    obtain ⟨fu, rfl⟩ : ∃ fu, fuel = fu + 1 := ⟨fuel - 1, by omega⟩
    unfold setSearchFrom
    refine wpAny_bind (wpAny_setState_of ho hd ft ?_)
    dsimp only
    rw [msk, if_neg (by decide), hst]
    have pa := probe_at tg (hashAt := fun i => (es[i]?.map (·.1)).getD 0) (fun i h' e => by
      rw [List.getElem?_map, Array.getElem?_toList] at e
      obtain ⟨x, hx, rfl⟩ := Option.map_eq_some_iff.mp e
      rw [hx]
      rfl) (hsW prog w ns) hse emp liv hle
    split
    rotate_left
    · rename_i no
      refine absurd no ?_
      intro heq
      have heq' : t.probe (fun i : Nat => (es[i]?.map (·.1)).getD 0) (hsW prog w ns) (stH t.mask (hsW prog w ns) s0) = none := by
        cases q : t.probe (fun i : Nat => (es[i]?.map (·.1)).getD 0) (hsW prog w ns) (stH t.mask (hsW prog w ns) s0) with
        | none => rfl
        | some m => exact absurd q (heq m)
      rcases pa with ⟨e1, _⟩ | ⟨s1, i, _, _, _, _, b5, _⟩
      · rw [e1] at heq'; cases heq'
      · rw [b5] at heq'; cases heq'
    rename_i met heq
    have heq' : t.probe (fun i : Nat => (es[i]?.map (·.1)).getD 0) (hsW prog w ns) (stH t.mask (hsW prog w ns) s0) = some met := heq
    clear heq
    rcases pa with ⟨e1, e2⟩ | ⟨s1, i, b1, b2, b3, b4, b5, b6⟩
    · rw [e1] at heq'
      cases heq'
      dsimp only
      refine wpAny_pure (q2 fun hm => ?_)
      obtain ⟨i, hi⟩ := List.mem_iff_getElem?.mp hm
      obtain ⟨e, he, g1, _⟩ := ew_at hp hi
      have hh : (es.toList.map (·.1))[i]? = some (hsW prog w ns) := by rw [List.getElem?_map, he, ← g1]; rfl
      have hil : i < t.place.toList.length := by
        have := (List.getElem?_eq_some_iff.mp he).1
        rw [Array.length_toList] at this ⊢
        rw [tg.len]
        simpa using this
      obtain ⟨s', r1, r2, r3⟩ := tg.rch i _ _ (List.getElem?_eq_getElem hil) hh
      have hs' : s' < se := by
        rcases Nat.lt_trichotomy s' se with z | z | z
        · exact z
        · rw [z] at r2; exact absurd (by rw [r2]; exact List.getElem_mem hil) emp
        · exact absurd (r3 se z) emp
      by_cases c : s' < s0
      · exact hpass s' i ns c (by rw [r2]; exact List.getElem?_eq_getElem hil) hi rfl
      · exact e2 s' i (by omega) hs' (by rw [r2]; exact List.getElem?_eq_getElem hil) hh
    · rw [b5] at heq'
      cases heq'
      dsimp only
      rw [List.getElem?_map, Array.getElem?_toList] at b4
      obtain ⟨⟨hh, y⟩, he, e0⟩ := Option.map_eq_some_iff.mp b4
      dsimp only at e0
      subst e0
      obtain ⟨ms, hms, g1, c, g2, g3⟩ := ew_get hp (i := i) (e := (hsW prog w ns, y)) (by rw [Array.getElem?_toList]; exact he)
      dsimp only at g2
      subst g2
      have sm : t.sameMemory t.moves t.mask = some true := by unfold SetTable.sameMemory; rw [if_pos (by simp)]
      have stored : ∀ y ∈ ((es.filter (fun x => x.1 == hsW prog w ns)).toList.map (·.2)), ∃ c ms, y = .ref c ∧ TkI prog w s.heap ms c := fun y hy => by
        obtain ⟨e, he, rfl⟩ := List.mem_map.mp hy
        have he : e ∈ es.toList := by
          rw [Array.toList_filter] at he
          exact (List.mem_filter.mp he).1
        obtain ⟨j, hj⟩ := List.mem_iff_getElem?.mp he
        obtain ⟨ms, _, _, c, g, g'⟩ := ew_get hp hj
        exact ⟨c, ms, g, g'⟩
      have led : ∀ (X Y : Sem SetFound), wpAny (model prog w) A Y Q E s → wpAny (model prog w) A (if (!t.led) = true then (searchCouldBeSeen (.ref b) ((es.filter (fun x => x.1 == hsW prog w ns)).toList.map (·.2)) >>= fun r => if r = true then X else Y) else Y) Q E s := fun X Y hY => by
        cases t.led with
        | true => rw [if_neg (by decide)]; exact hY
        | false =>
          rw [if_pos (by decide)]
          refine wpAny_bind (scb_tup hk stored ?_)
          rw [if_neg (by decide)]
          exact hY
      refine led _ _ ?_
      rw [he]
      dsimp only
      refine wpAny_bind (wpAny_holding (wpAny_eqBool_tuple hu g3 hk ?_))
      refine wpAny_bind (wpAny_setState_of ho hd ft ?_)
      dsimp only
      by_cases eq : ms = ns
      · subst eq
        rw [decide_eq_true rfl, if_pos (by decide)]
        exact wpAny_pure (q1 (List.mem_of_getElem? hms))
      · rw [decide_eq_false eq, if_neg (by decide), sm]
        dsimp only
        rw [if_pos rfl, slot_live tg.rise b3]
        dsimp only
        rw [he]
        dsimp only
        refine wpAny_bind (wpAny_isSame_ref_self (wpAny_bind (wpAny_pure ?_)))
        rw [if_pos rfl]
        dsimp only
        rw [if_neg (by decide)]
        refine ih (se - (s1 + 1)) (by omega) (s1 + 1) fu _ rfl (by omega) (by omega) rfl fun m i' ms' hm' p1 p2 => ?_
        by_cases c1 : m < s0
        · exact hpass m i' ms' c1 p1 p2
        · intro z
          subst z
          obtain ⟨e, he', g1', _⟩ := ew_at hp p2
          have hh' : (es.toList.map (·.1))[i']? = some (hsW prog w ms') := by rw [List.getElem?_map, he', ← g1']; rfl
          by_cases c2 : m = s1
          · subst c2
            have : i' = i := by rw [← below_at tg.rise p1, ← below_at tg.rise b3]
            subst this
            rw [hms] at p2
            exact eq (Option.some.inj p2)
          · exact b6 m i' (by omega) (by omega) p1 hh'
end
end L2

namespace L2
open PySem PySem.Spec PyProof.Rows
section
variable {prog : Program} {w : World} {A : Around} {E : Value → Shared → Prop} {s : Shared}
/-- at a stands the set of the tuples of ints ks, which only grew -/
def SW (prog : Program) (w : World) (a : Addr) (ks : List (List Int)) (ep : Nat) (es : Array (Int × Value)) (h : Heap) : Prop :=
  ∃ o t, h.get? a = some o ∧ o.ExactSet ∧ o.data = .set es ep t ∧ (w.params.followText "set-order" = true ∨ t.led = true) ∧ t.plain = true ∧ TbG t (es.toList.map (·.1)) ∧ Paired (EW prog w h) es.toList ks ∧ ks.Nodup
theorem TkI.keep {h h' : Heap} {ns : List Int} {b : Addr} (x : TkI prog w h ns b) (k : ∀ o, h.get? b = some o → h'.get? b = some o) : TkI prog w h' ns b := let ⟨o, it, n, e, r⟩ := x; ⟨o, it, n, k o e, r⟩
theorem SW.kept {a : Addr} {ks : List (List Int)} {ep : Nat} {es : Array (Int × Value)} {h h' : Heap} (x : SW prog w a ks ep es h) (k : ∀ o, h.get? a = some o → h'.get? a = some o) (k2 : ∀ b ns, TkI prog w h ns b → (∃ e ∈ es.toList, e.2 = .ref b) → TkI prog w h' ns b) : SW prog w a ks ep es h' := by
  obtain ⟨o, t, e, e1, e2, e3, e4, e5, e6, e7⟩ := x
  refine ⟨o, t, k o e, e1, e2, e3, e4, e5, ?_, e7⟩
  have : ∀ {l : List (Int × Value)} {ks : List (List Int)}, Paired (EW prog w h) l ks → (∀ e ∈ l, e ∈ es.toList) → Paired (EW prog w h') l ks := by
    intro l ks p
    induction p with
    | nil => intro _; exact .nil
    | cons q _ ih =>
      intro hm
      obtain ⟨q1, b, q2, q3⟩ := q
      exact .cons ⟨q1, b, q2, k2 b _ q3 ⟨_, hm _ List.mem_cons_self, q2⟩⟩ (ih fun e he => hm e (List.mem_cons_of_mem _ he))
  exact this e6 fun _ h => h
theorem tk_set {h h' : Heap} {ns : List Int} {a b : Addr} {o : Obj} {es : Array (Int × Value)} {ep : Nat} {t : SetTable} (x : TkI prog w h ns b) (ho : h.get? a = some o) (hd : o.data = .set es ep t) (hs : Heap.SameBut a h h') : TkI prog w h' ns b := by
  obtain ⟨o', items, n, ho', hc, hd', hi⟩ := x
  have hne : b ≠ a := by
    rintro rfl
    obtain rfl : o' = o := Option.some.inj (ho'.symm.trans ho)
    rw [hd] at hd'; exact nomatch hd'
  exact ⟨o', items, n, (hs.2 b hne).trans ho', hc, hd', hi⟩
theorem paired_sel {α β : Type} {F : α → β → Prop} {l : List α} {r : List β} (p : Paired F l r) : ∀ order : List Nat, Paired F (order.filterMap (l[·]?)) (order.filterMap (r[·]?))
  | [] => .nil
  | k :: order => by
    have ih := paired_sel p order
    have hl := Paired.length p
    have get : ∀ {l : List α} {r : List β}, Paired F l r → ∀ {i : Nat} {x : α} {y : β}, l[i]? = some x → r[i]? = some y → F x y := by
      intro l r p
      induction p with
      | nil => intro i x y e; simp at e
      | cons a _ ih =>
        intro i x y e1 e2
        cases i with
        | zero => simp at e1 e2; subst e1 e2; exact a
        | succ i => exact ih (by simpa using e1) (by simpa using e2)
    rw [List.filterMap_cons, List.filterMap_cons]
    by_cases c : k < l.length
    · rw [List.getElem?_eq_getElem c, List.getElem?_eq_getElem (by omega : k < r.length)]
      exact .cons (get p (List.getElem?_eq_getElem c) (List.getElem?_eq_getElem (by omega))) ih
    · rw [List.getElem?_eq_none (by omega), List.getElem?_eq_none (by omega : r.length ≤ k)]
      exact ih
theorem paired_keep {h h' : Heap} {l : List (Int × Value)} {ks : List (List Int)} (k2 : ∀ b ns, TkI prog w h ns b → TkI prog w h' ns b) (p : Paired (EW prog w h) l ks) : Paired (EW prog w h') l ks := Paired.mapP p fun e ns ⟨q1, b, q2, q3⟩ => ⟨q1, b, q2, k2 b ns q3⟩
set_option maxHeartbeats 6400000 in
theorem add_w {a b : Addr} {ks : List (List Int)} {ep : Nat} {es : Array (Int × Value)} {ns : List Int} {Q : Bool → Shared → Prop} (hu : A.units < cLine) (hk : TkI prog w s.heap ns b) (hS : SW prog w a ks ep es s.heap) (hl : ks.length ≤ 16)
    (h : ∀ h' ep' es' ks', Heap.SameBut a s.heap h' → SW prog w a ks' ep' es' h' → ks'.Perm (if ns ∈ ks then ks else ns :: ks) → (∀ e ∈ es'.toList, e ∈ es.toList ∨ e.2 = .ref b) → Q (!decide (ns ∈ ks)) { s with heap := h' }) :
    wpAny (model prog w) A (setAddHashed a (.ref b) (hsW prog w ns)) Q E s := by
  obtain ⟨o, t, ho, hex, hd, hl2, hpl, tg, hp, nd⟩ := id hS
  have lk : es.toList.length = ks.length := Paired.length hp
  have sz : es.size = (es.toList.map (·.1)).length := by simp
  have ft : t.fits es.size = true := by rw [sz]; exact tg.fits
  obtain ⟨se, hse, emp, liv⟩ := tg.free (hsW prog w ns)
  have tn : SetTable.turns t.mask ≤ 46 := by unfold SetTable.turns; rcases tg.msk with e | e <;> rw [e] <;> decide
  unfold setAddHashed setAddHashedIn
  refine wpAny_holding (wpAny_bind (wpAny_setState_of ho hd ft ?_))
  dsimp only
  rw [show byScan (.ref b) es = false from rfl, if_neg (by decide)]
  unfold setSearch
  refine wpAny_bind (search_w (o := o) hu ho hd tg hp hk hse emp liv (fun hm => ?_) (fun hm => ?_) se 0 100000 none rfl (Nat.zero_le _) (by omega) rfl fun m i ms hm => by omega)
  · dsimp only
    refine wpAny_pure ?_
    have := h s.heap ep es ks (Heap.SameBut.refl a s.heap) hS (by rw [if_pos hm]) fun e he => .inl he
    rw [decide_eq_true hm] at this
    cases s
    exact this
  · dsimp only
    refine wpAny_bind (wpAny_setState_of ho hd ft ?_)
    dsimp only
    have le := pj_dom t.mask (hsW prog w ns) se
    obtain ⟨p1, p2⟩ := put_ok tg hse emp liv le true true
    obtain ⟨b1, _⟩ := below_ok tg.rise (pj t.mask (hsW prog w ns) se)
    rw [p1, p2]
    dsimp only
    generalize hpp : SetTable.below t.place (pj t.mask (hsW prog w ns) se) = pp at *
    rw [hpl, if_pos rfl]
    refine wpAny_bind (hbv_tup hk ?_)
    rw [if_pos rfl]
    have ppl : pp ≤ es.toList.length := by rw [Array.length_toList, sz, ← tg.len]; exact b1
    have lst : (SetTable.insertAt es pp (hsW prog w ns, Value.ref b)).toList = es.toList.take pp ++ (hsW prog w ns, Value.ref b) :: es.toList.drop pp := SetTable.toList_insertAt ..
    have sz1 : (SetTable.insertAt es pp (hsW prog w ns, Value.ref b)).size = ks.length + 1 := by
      rw [← Array.length_toList, lst, List.length_append, List.length_cons, List.length_take, List.length_drop]
      omega
    have pr1 : Paired (EW prog w s.heap) (SetTable.insertAt es pp (hsW prog w ns, Value.ref b)).toList (ks.take pp ++ ns :: ks.drop pp) := by
      rw [lst]
      exact paired_ins ⟨rfl, b, rfl, hk⟩ pp hp
    have pm1 : (ks.take pp ++ ns :: ks.drop pp).Perm (ns :: ks) := by
      refine List.perm_middle.trans ?_
      rw [List.take_append_drop]
    have nd1 : (ks.take pp ++ ns :: ks.drop pp).Nodup := pm1.nodup_iff.mpr (List.nodup_cons.mpr ⟨hm, nd⟩)
    have hs1 : (SetTable.insertAt es pp (hsW prog w ns, Value.ref b)).toList.map (·.1) = (es.toList.map (·.1)).take pp ++ hsW prog w ns :: (es.toList.map (·.1)).drop pp := by
      rw [lst]
      simp [List.map_take, List.map_drop]
    obtain ⟨es1, hes1⟩ : ∃ es1, SetTable.insertAt es pp (hsW prog w ns, Value.ref b) = es1 := ⟨_, rfl⟩
    obtain ⟨t1, ht1⟩ : ∃ t1 : SetTable, { t with place := SetTable.insertAt t.place pp (pj t.mask (hsW prog w ns) se), plain := true } = t1 := ⟨_, rfl⟩
    have pl1 : t1.plain = true := by rw [← ht1]
    have ld1 : w.params.followText "set-order" = true ∨ t1.led = true := by rw [← ht1]; exact hl2
    have fl1 : t1.fill = ks.length + 1 := by
      rw [← ht1]
      unfold SetTable.fill
      dsimp only
      rw [tg.dum, ← Array.length_toList, SetTable.toList_insertAt, List.length_append, List.length_cons, List.length_take, List.length_drop, Array.length_toList, tg.len, List.length_map]
      show _ + 0 = _
      omega
    have mk1 : t1.mask = t.mask := by rw [← ht1]
    rw [hes1] at lst sz1 pr1 hs1
    have el1 : ∀ e ∈ es1.toList, e ∈ es.toList ∨ e.2 = .ref b := fun e he => by
      rw [lst] at he
      rcases List.mem_append.mp he with z | z
      · exact .inl (List.mem_of_mem_take z)
      · rcases List.mem_cons.mp z with z | z
        · exact .inr (by rw [z])
        · exact .inl (List.mem_of_mem_drop z)
    show wpAny _ _ (storeSet a (SetTable.insertAt es pp (hsW prog w ns, Value.ref b)) { t with place := SetTable.insertAt t.place pp (pj t.mask (hsW prog w ns) se), plain := true } >>= _) _ _ _
    rw [hes1, ht1]
    refine wpAny_bind (wpAny_storeSet_of ho hd ?_ (by rw [sz1, sizeLine_eq]; omega))
    have g1 : (s.heap.update a (Obj.putSet es1 t1)).get? a = some { o with data := .set es1 (ep + 1) t1 } := by
      have := Heap.get?_update_self (Obj.putSet es1 t1) ho (by rw [putSet_of _ _ hd]; rfl)
      rw [putSet_of _ _ hd] at this
      exact this
    have sb1 := Heap.SameBut.update s.heap a (Obj.putSet es1 t1)
    have pr1' := paired_keep (h' := s.heap.update a (Obj.putSet es1 t1)) (fun b ns x => tk_set x ho hd sb1) pr1
    have r1 : (!decide (ns ∈ ks)) = true := by rw [decide_eq_false hm]; rfl
    by_cases few : (ks.length + 1) * 5 < t.mask * 3
    · have tf : t1.tooFull = false := by unfold SetTable.tooFull; rw [fl1, mk1]; exact decide_eq_false (by omega)
      rw [tf]
      refine wpAny_pure ?_
      rw [← r1]
      refine h _ (ep + 1) es1 (ks.take pp ++ ns :: ks.drop pp) sb1 ⟨_, t1, g1, hex, rfl, ld1, pl1, ?_, pr1', nd1⟩ (by rw [if_neg hm]; exact pm1) el1
      have e0 : ({ t with place := SetTable.insertAt t.place pp (pj t.mask (hsW prog w ns) se), plain := true } : SetTable) = { t with place := SetTable.insertAt t.place pp (pj t.mask (hsW prog w ns) se) } := by rw [← hpl]
      rw [hs1, ← ht1, e0, ← hpp]
      exact put_tg tg hse emp liv le (by rw [List.length_map, lk]; exact few)
    · have tf : t1.tooFull = true := by unfold SetTable.tooFull; rw [fl1, mk1]; exact decide_eq_true (by omega)
      rw [tf]
      have fw := tg.few
      rw [List.length_map, lk] at fw
      have k4 : ks.length = 4 := by rcases tg.msk with e | e <;> rw [e] at few fw <;> omega
      have es4 : es.size = 4 := by rw [← Array.length_toList, lk, k4]
      have wn : SetTable.sizeAbove (SetTable.grown (es.size + 1)) = 32 := by rw [es4]; decide
      obtain ⟨t2, order, er, op, tg2, ld2, pl2⟩ := relay_ok t1 (es1.toList.map (·.1)) (by rw [List.length_map, Array.length_toList, sz1]; omega) wn
      rw [List.length_map, Array.length_toList] at op
      rw [if_pos (by decide)]
      have sz1' : es1.size = (es1.toList.map (·.1)).length := by simp
      have ft1 : t1.fits es1.size = true := by
        unfold SetTable.fits
        rw [fl1, mk1, sz1, ← fl1]
        have : t1.place.size = t1.fill := by
          unfold SetTable.fill
          rw [show t1.dummies = #[] by rw [← ht1]; exact tg.dum]
          rfl
        rw [this, fl1]
        simp
        omega
      have eh : (es1.map (·.1)) = (es1.toList.map (·.1)).toArray := Array.ext' (by rw [Array.toList_map])
      have e2l : (order.filterMap (es1[·]?)).toList = order.toList.filterMap (es1.toList[·]?) := by
        rw [Array.toList_filterMap]
        simp
      have op' : order.toList.Perm (List.range es1.toList.length) := by rw [Array.length_toList]; exact op
      have e2p := sel_perm (es := es1.toList) op'
      have e2s : (order.filterMap (es1[·]?)).size = es1.size := by rw [← Array.length_toList, e2l, e2p.length_eq, Array.length_toList]
      unfold setRelay
      refine wpAny_bind ?_
      refine wpAny_bind (wpAny_setState_of (s := { s with heap := s.heap.update a (Obj.putSet es1 t1) }) g1 rfl ft1 ?_)
      dsimp only
      rw [wn, if_neg (by rw [sizeLine_eq]; omega), eh, er]
      refine wpAny_bind (wpAny_of_eq (a := (order.filterMap (es1[·]?), t2)) ?_ ?_)
      · show (if ((order.filterMap (es1[·]?)).size != es1.size) = true then _ else pure (order.filterMap (es1[·]?), t2)) = _
        rw [if_neg (by rw [e2s]; simp)]
      dsimp only
      refine wpAny_storeSet_of (s := { s with heap := s.heap.update a (Obj.putSet es1 t1) }) g1 rfl ?_ (by rw [e2s, sz1, sizeLine_eq]; omega)
      refine wpAny_pure ?_
      rw [← r1]
      have g2 : ((s.heap.update a (Obj.putSet es1 t1)).update a (Obj.putSet (order.filterMap (es1[·]?)) t2)).get? a = some { o with data := .set (order.filterMap (es1[·]?)) (ep + 1 + 1) t2 } := by
        have := Heap.get?_update_self (Obj.putSet (order.filterMap (es1[·]?)) t2) g1 (by rw [putSet_of _ _ (o := { o with data := .set es1 (ep + 1) t1 }) rfl]; rfl)
        rw [putSet_of _ _ (o := { o with data := .set es1 (ep + 1) t1 }) rfl] at this
        exact this
      have sb2 := sb1.trans (Heap.SameBut.update (s.heap.update a (Obj.putSet es1 t1)) a (Obj.putSet (order.filterMap (es1[·]?)) t2))
      have lk1 : es1.toList.length = (ks.take pp ++ ns :: ks.drop pp).length := Paired.length pr1
      have kp := sel_perm (order := order.toList) (es := ks.take pp ++ ns :: ks.drop pp) (by rw [← lk1]; exact op')
      refine h _ _ _ _ sb2 ⟨_, t2, g2, hex, rfl, by rw [ld2]; exact ld1, by rw [pl2]; exact pl1, ?_, ?_, kp.nodup_iff.mpr nd1⟩ (by rw [if_neg hm]; exact kp.trans pm1) fun e he => ?_
      · rw [e2l]
        have : (order.toList.filterMap (es1.toList[·]?)).map (·.1) = order.toList.filterMap ((es1.toList.map (·.1))[·]?) := by
          rw [List.map_filterMap]
          congr 1
          funext k
          rw [List.getElem?_map]
        rw [this]
        exact tg2
      · rw [e2l]
        exact paired_keep (fun b ns x => tk_set x ho hd sb2) (paired_sel pr1 order.toList)
      · rw [e2l] at he
        exact el1 e (e2p.mem_iff.mp he)
end
end L2

/-! set(a list of tuples of ints) -/
namespace L2
open PySem PySem.Spec PyProof.Rows
section
variable {prog : Program} {w : World} {A : Around} {E : Value → Shared → Prop} {s : Shared}
/-- the set while it grows -/
def Grw (prog : Program) (w : World) (S : Addr) (n : Nat) (val : Nat → List Int) (vb : Nat → Addr) (i : Nat) (h : Heap) : Prop :=
  ∃ ep es ks, SW prog w S ks ep es h ∧ (∀ x, x ∈ ks ↔ ∃ j, j < i ∧ val j = x) ∧ (∀ j, j < n → TkI prog w h (val j) (vb j)) ∧ ∀ e ∈ es.toList, ∃ j, j < n ∧ e.2 = .ref (vb j)
theorem Grw.kept {S : Addr} {n i : Nat} {val : Nat → List Int} {vb : Nat → Addr} {h h' : Heap} (x : Grw prog w S n val vb i h) (k : ∀ c o, (c = S ∨ ∃ j, j < n ∧ c = vb j) → h.get? c = some o → h'.get? c = some o) : Grw prog w S n val vb i h' := by
  obtain ⟨ep, es, ks, x, m, t, e⟩ := x
  refine ⟨ep, es, ks, x.kept (fun o => k S o (.inl rfl)) fun b ns y ⟨u, hu, q⟩ => ?_, m, fun j hj => (t j hj).keep fun o => k _ o (.inr ⟨j, hj, rfl⟩), e⟩
  obtain ⟨j, hj, q'⟩ := e u hu
  rw [q] at q'
  cases q'
  exact y.keep fun o => k _ o (.inr ⟨j, hj, rfl⟩)
theorem Grw.add {S : Addr} {n i : Nat} {val : Nat → List Int} {vb : Nat → Addr} {u : Nat} (hu : u < cLine) (hn : n ≤ 16) (hi : i < n) (hS : ∀ j, j < n → vb j ≠ S) : Adds prog w u S (Grw prog w S n val vb) i (.ref (vb i)) := by
  intro A E s Q ha ⟨ep, es, ks, x, m, t, el⟩ hQ
  have hu' : A.units < cLine := Nat.lt_of_le_of_lt ha hu
  have few : ks.length ≤ i := by
    obtain ⟨_, _, _, _, _, _, _, _, _, nd⟩ := x
    have := sub_len (L := (List.range i).map val) nd fun y hy => by
      obtain ⟨j, hj, e⟩ := (m y).mp hy
      exact List.mem_map.mpr ⟨j, List.mem_range.mpr hj, e⟩
    rwa [List.length_map, List.length_range] at this
  unfold setAdd
  refine wpAny_holding (wpAny_bind (wpAny_pyHash_tuple hu' (t i hi) ?_))
  refine add_w (s := { s with toks := s.toks + ((val i).length + 1) }) hu' (t i hi) x (by omega) fun h' ep' es' ks' sb x' pm hel => ?_
  refine hQ _ h' _ (Nat.le_add_right _ _) ⟨ep', es', ks', x', fun y => ?_, fun j hj => (t j hj).keep fun o e => (sb.2 _ (hS j hj)).trans e, fun e he => (hel e he).elim (el e) fun z => ⟨i, hi, z⟩⟩ sb
  have : (y ∈ if val i ∈ ks then ks else val i :: ks) ↔ y ∈ ks ∨ val i = y := by
    by_cases c : val i ∈ ks
    · rw [if_pos c]
      exact ⟨.inl, fun z => z.elim id fun z => z ▸ c⟩
    · rw [if_neg c, List.mem_cons]
      exact ⟨fun z => z.elim (.inr ·.symm) .inl, fun z => z.elim .inr (.inl ·.symm)⟩
  rw [pm.mem_iff, this, m y]
  constructor
  · rintro (⟨j, hj, e⟩ | e)
    · exact ⟨j, by omega, e⟩
    · exact ⟨i, Nat.lt_succ_self i, e⟩
  · rintro ⟨j, hj, e⟩
    rcases Nat.lt_succ_iff_lt_or_eq.mp hj with z | rfl
    · exact .inl ⟨j, z, e⟩
    · exact .inr e
theorem tg_fresh (led : Bool) : TbG (.fresh 0 0 led) [] := ⟨rfl, .nil, (fun j h => by cases h), rfl, .inl rfl, (by show 0 * 5 < 7 * 3; decide), (fun i j h e => by simp [SetTable.fresh] at e)⟩
theorem set_w {l : Addr} {its : Array Value} {val : Nat → List Int} {vb : Nat → Addr} {Q : Value → Shared → Prop} (hh : A.handled = none) (hu : A.units + 4 < cLine) (hl : s.heap.IsList l its) (hn : its.size ≤ 16) (hv : ∀ (i : Nat) (v : Value), its[i]? = some v → v = .ref (vb i)) (hT : ∀ i, i < its.size → TkI prog w s.heap (val i) (vb i))
    (h : ∀ (h' : Heap) (tk ep : Nat) (es : Array (Int × Value)) (ks : List (List Int)), SW prog w s.heap.objs.size ks ep es h' → (∀ x, x ∈ ks ↔ ∃ j, j < its.size ∧ val j = x) → (∀ e ∈ es.toList, ∃ j, j < its.size ∧ e.2 = .ref (vb j)) → (∀ c o, c < s.heap.objs.size → s.heap.get? c = some o → h'.get? c = some o) → Q (.ref s.heap.objs.size) { s with heap := h', toks := tk }) :
    wpAny (model prog w) A (call (.type "set") [.ref l]) Q E s := by
  have old : ∀ j, j < its.size → vb j < s.heap.objs.size := fun j hj => let ⟨_, _, _, e, _⟩ := hT j hj; Heap.lt_size e
  refine set_run (J := Grw prog w s.heap.objs.size its.size val vb) hh hl (fun i h h' x k => x.kept fun c o hc e => k c o ?_ e) (fun led q => ?_) (fun i v e => ?_) fun h' tk ⟨ep, es, ks, x, m, _, el⟩ k => h h' tk ep es ks x m el k
  · rcases hc with rfl | ⟨j, hj, rfl⟩
    · exact Nat.le_refl _
    · exact Nat.le_of_lt (old j hj)
  · refine ⟨0, #[], [], ⟨_, .fresh 0 0 led, Heap.get?_push_size _ rfl, ⟨rfl, rfl, rfl⟩, rfl, q, rfl, tg_fresh led, .nil, .nil⟩, fun x => ?_, fun j hj => (hT j hj).keep fun o e => Heap.get?_push_of_some _ e, fun e he => by cases he⟩
    simp
  · obtain ⟨hi, _⟩ := Array.getElem?_eq_some_iff.mp e
    obtain rfl := hv i v e
    exact Grw.add (by omega) hn hi fun j hj => Nat.ne_of_lt (old j hj)
end
end L2

/-! A set of tuples of ints is walked; sorted(such a set). -/
namespace L2
open PySem PySem.Spec PyProof.Rows
def SWt (prog : Program) (w : World) (a : Addr) (ks : List (List Int)) (ep : Nat) (es : Array (Int × Value)) (t : SetTable) (h : Heap) : Prop :=
  ∃ o, h.get? a = some o ∧ o.ExactSet ∧ o.data = .set es ep t ∧ (w.params.followText "set-order" = true ∨ t.led = true) ∧ t.plain = true ∧ TbG t (es.toList.map (·.1))
def slP (pl : List Nat) : Nat → Nat
  | 0 => 0
  | i + 1 => pl.getD i 0 + 1
theorem below_sl {xs : Array Nat} (r : xs.toList.Pairwise (· < ·)) {i : Nat} (hi : i ≤ xs.size) : SetTable.below xs (slP xs.toList i) = i := by
  obtain ⟨a, b⟩ := below_ok r (slP xs.toList i)
  have key : ∀ (k x : Nat), xs.toList[k]? = some x → (x < slP xs.toList i ↔ k < i) := fun k x e => by
    cases i with
    | zero => exact ⟨fun z => absurd z (Nat.not_lt_zero _), fun z => absurd z (Nat.not_lt_zero _)⟩
    | succ i =>
      have hl : i < xs.toList.length := by rw [Array.length_toList]; omega
      have e2 : xs.toList[i]? = some xs.toList[i] := List.getElem?_eq_getElem hl
      have e3 : slP xs.toList (i + 1) = xs.toList[i] + 1 := by
        show xs.toList.getD i 0 + 1 = _
        rw [List.getD_eq_getElem?_getD, e2]; rfl
      rw [e3]
      rcases Nat.lt_trichotomy k i with z | z | z
      · have := rise_get r e e2 z; omega
      · subst z; rw [e2] at e; cases e; omega
      · have := rise_get r e2 e z; omega
  rcases Nat.lt_trichotomy (SetTable.below xs (slP xs.toList i)) i with z | z | z
  · have hl : SetTable.below xs (slP xs.toList i) < xs.toList.length := by rw [Array.length_toList]; omega
    have e := List.getElem?_eq_getElem hl
    have := (b _ _ e).mpr ((key _ _ e).mpr z)
    omega
  · exact z
  · have hl : i < xs.toList.length := by rw [Array.length_toList]; omega
    have e := List.getElem?_eq_getElem hl
    have := (key _ _ e).mp ((b _ _ e).mp z)
    omega
def fstW (w : World) (t : SetTable) (i : Nat) : Nat := if w.params.followText "set-order" = true then 0 else slP t.place.toList i
section
variable {prog : Program} {w : World} {A : Around} {E : Value → Shared → Prop} {s : Shared} {a it : Addr} {ks : List (List Int)} {ep i : Nat} {es : Array (Int × Value)} {t : SetTable}
theorem SWt.kept {h h' : Heap} (x : SWt prog w a ks ep es t h) (k : ∀ o, h.get? a = some o → h'.get? a = some o) : SWt prog w a ks ep es t h' := let ⟨o, e, r⟩ := x; ⟨o, k o e, r⟩
theorem SWt.fits {h : Heap} (x : SWt prog w a ks ep es t h) : t.fits es.size = true := by
  obtain ⟨_, _, _, _, _, _, tg⟩ := x
  have := tg.fits
  simpa using this
theorem SWt.sz {h : Heap} (x : SWt prog w a ks ep es t h) : t.place.size = es.size := by
  obtain ⟨_, _, _, _, _, _, tg⟩ := x
  have := tg.len
  simpa using this
theorem nxt_w {Q : Option (Value × Nat) → Shared → Prop} (x : SWt prog w a ks ep es t s.heap) (hi : i ≤ es.size) (h : Q (((ord4 w a ep es)[i]?).map fun e => (e.2, fstW w t (i + 1))) s) : wpAny (model prog w) A (setNext a (fstW w t i) i ep) Q E s := by
  have sz := x.sz
  have ft := x.fits
  obtain ⟨o, ho, hex, hd, hl, hpl, tg⟩ := id x
  unfold setNext
  refine wpAny_bind (wpAny_setState_of ho hd ft ?_)
  dsimp only
  unfold setsByText
  refine wpAny_bind (wpAny_bind (wpAny_askSetting (wpAny_pure ?_)))
  show wpAny _ _ (if w.params.followText "set-order" = true then _ else _) _ _ s
  by_cases ht : w.params.followText "set-order" = true
  · rw [if_pos ht]
    unfold ord4 fstW at h
    rw [if_pos ht, if_pos ht] at h
    rw [if_neg (by simp)]
    refine wpAny_bind ?_
    unfold setWalk setsByText
    refine wpAny_bind (wpAny_setState_of ho hd ft ?_)
    dsimp only
    refine wpAny_bind (wpAny_bind (wpAny_askSetting (wpAny_pure ?_)))
    show wpAny _ _ (if w.params.followText "set-order" = true then _ else _) _ _ s
    rw [if_pos ht]
    refine wpAny_bind (wpAny_askSetting (wpAny_pure (wpAny_pure ?_)))
    unfold fstW
    rw [if_pos ht]
    exact h
  · rw [if_neg ht]
    unfold ord4 fstW at h
    rw [if_neg ht, if_neg ht] at h
    have hl2 : t.led = true := by
      rcases hl with q | q
      · exact absurd q ht
      · exact q
    refine wpAny_ite_split (fun q => absurd q (by
      show ¬ ((!t.plain && _) = true)
      rw [hpl]; simp)) fun _ => ?_
    refine wpAny_bind (wpAny_of_eq (a := ()) (by
      show (if (!t.led && !es.isEmpty) = true then _ else pure ()) = _
      rw [hl2, if_neg (by simp)]) ?_)
    unfold fstW
    rw [if_neg ht]
    refine wpAny_pure ?_
    rw [below_sl tg.rise (by omega)]
    by_cases hlt : i < es.size
    · rw [Array.getElem?_eq_getElem hlt] at h ⊢
      have hp : i < t.place.size := by omega
      rw [Array.getElem?_eq_getElem hp]
      dsimp only
      have e3 : slP t.place.toList (i + 1) = t.place[i] + 1 := by
        show t.place.toList.getD i 0 + 1 = _
        rw [List.getD_eq_getElem?_getD, Array.getElem?_toList, Array.getElem?_eq_getElem hp]; rfl
      rw [← e3]
      exact h
    · rw [Array.getElem?_eq_none (by omega)] at h ⊢
      exact h
theorem src_w : PySem.W.KdlSrc prog w "set" a a es.size (fun i v => ∃ e, (ord4 w a ep es)[i]? = some e ∧ v = e.2) (fun h => SWt prog w a ks ep es t h) :=
  Wlk.src (f := fstW w t) ⟨fun x => let ⟨o, e, c, d, _, p, _⟩ := id x; ⟨o, t, e, c, d, x.fits, p⟩, fun x k => x.kept k, by unfold fstW; split <;> rfl, fun x hi q => nxt_w x hi q⟩
end
end L2

namespace L2
open PySem PySem.Spec PyProof.Rows
/-- a set whose members are the tuples at bs -/
def SetWO (prog : Program) (w : World) (a : Addr) (bs : List Addr) : HO := .ext fun h => ∃ ep es t, SWt prog w a [] ep es t h ∧ es.toList.map (·.2) = bs.map Value.ref
theorem setWO_ok {prog : Program} {w : World} {H : Hp} {h : Heap} {a : Addr} {ep : Nat} {es : Array (Int × Value)} {t : SetTable} {bs : List Addr} (x : SWt prog w a [] ep es t h) (e : es.toList.map (·.2) = bs.map Value.ref) : ObjOk prog w H h a (SetWO prog w a bs) :=
  ⟨⟨ep, es, t, x, e⟩, let ⟨o, e, _⟩ := x; ⟨o, e⟩, fun _ _ ⟨ep, es, t, y, q⟩ k => ⟨ep, es, t, y.kept k, q⟩⟩
theorem vals_words {P : Program} {w : World} {H : Hp} {h : Heap} (ok : HOk P w H h) : ∀ {xs : List V} {us : List Value} {L : List (List Int)}, Vals xs us → Words H xs L → us.length = L.length ∧ ∀ (i : Nat) (v : Value), us[i]? = some v → ∃ b ns, L[i]? = some ns ∧ v = .ref b ∧ H b = some (.tup (ns.map V.int)) ∧ TkI P w h ns b
  | _, _, _, .nil, .nil => ⟨rfl, fun i v e => by simp at e⟩
  | _, _, _, .cons r t, .cons f g => by
    obtain ⟨q1, q2⟩ := vals_words ok t g
    refine ⟨by simp [q1], fun i v e => ?_⟩
    cases i with
    | zero =>
      simp at e
      subst e
      obtain ⟨b, e1, e2⟩ := f
      subst e1
      refine ⟨b, _, rfl, r, e2, ?_⟩
      obtain ⟨_, its, r', o, h1, h2, n, h3⟩ := (show ObjOk P w H h b (.tup _) from ok b _ e2)
      refine ⟨o, its.toArray, n, h1, h2, h3, ?_⟩
      have : ∀ {ns : List Int} {us : List Value}, Vals (ns.map V.int) us → ItemsAre (intKind P w) ns us := by
        intro ns
        induction ns with
        | nil => intro us r; cases r; exact .nil
        | cons n ns ih =>
          intro us r
          cases r with
          | cons a t => obtain ⟨tk, e⟩ := (show ∃ t, _ = Value.int n t from a); subst e; exact .cons (intKind_is _ _ _ _) (ih t)
      simpa using this r'
    | succ i => simpa using q2 i v (by simpa using e)
section
variable {X : Cx}
/-- set(a list of at most sixteen words) -/
theorem call_setW (hc : X.calm = true) (hu : X.A.units + 64 < cLine) : CallR X (.type "set") (fun xs H Q => ∃ (p : Addr) (ys : List V) (L : List (List Int)), xs = [.ref p] ∧ H p = some (.lst ys) ∧ Words H ys L ∧ L.length ≤ 16 ∧
    ∀ (a : Addr) (bs : List Addr) (ks : List (List Int)), H a = none → Words H (bs.map V.ref) ks → ks.Nodup → (∀ x, x ∈ ks ↔ x ∈ L) → Q (.ref a) (upd H a (SetWO X.prog X.w a bs))) := by
  intro pins s σ H xs us Q I r h
  obtain ⟨p, ys, L, rfl, hp, hw, hl, q⟩ := h
  obtain ⟨u, rfl, ru⟩ := r.one
  cases ru
  obtain ⟨_, its, n, vs, e⟩ : _ ∧ ∃ (its : List Value) (n : Nat), _ ∧ _ := I.hok p _ hp
  obtain ⟨len, at_⟩ := vals_words I.hok vs hw
  have hli : s.heap.IsList p its.toArray := ⟨_, e, rfl, n, rfl⟩
  let vb : Nat → Addr := fun i => match its[i]? with | some (.ref b) => b | _ => 0
  have hvb : ∀ (i : Nat) (v : Value), its[i]? = some v → ∃ ns, v = .ref (vb i) ∧ L[i]? = some ns ∧ H (vb i) = some (.tup (ns.map V.int)) ∧ TkI X.prog X.w s.heap ns (vb i) := fun i v hv => by
    obtain ⟨b, ns, a1, a2, a3, a4⟩ := at_ i v hv
    subst a2
    have : vb i = b := by show (match its[i]? with | some (.ref b) => b | _ => 0) = b; rw [hv]
    rw [this]
    exact ⟨ns, rfl, a1, a3, a4⟩
  have hval : ∀ i, i < its.length → L.getD i [] = L.getD i [] ∧ H (vb i) = some (.tup ((L.getD i []).map V.int)) ∧ TkI X.prog X.w s.heap (L.getD i []) (vb i) := fun i hi => by
    obtain ⟨ns, _, a1, a3, a4⟩ := hvb i _ (List.getElem?_eq_getElem hi)
    have : L.getD i [] = ns := by rw [List.getD_eq_getElem?_getD, a1]; rfl
    rw [this]
    exact ⟨rfl, a3, a4⟩
  refine set_w (val := fun i => L.getD i []) (vb := vb) (I.ok.hd hc) (by omega) hli (by simp; omega) (fun i v hv => by obtain ⟨_, a, _⟩ := hvb i v (by simpa using hv); exact a) (fun i hi => (hval i (by simpa using hi)).2.2) fun h' tk ep es ks x hm hE keep => ?_
  obtain ⟨o, t, e1, e2, e3, e4, e5, e6, e7, e8⟩ := x
  have els : ∀ {l : List (Int × Value)} {ks : List (List Int)}, Paired (EW X.prog X.w h') l ks → (∀ e ∈ l, e ∈ es.toList) → ∃ bs : List Addr, l.map (·.2) = bs.map Value.ref ∧ Words H (bs.map V.ref) ks := by
    intro l ks p
    induction p with
    | nil => intro _; exact ⟨[], rfl, .nil⟩
    | cons f _ ih =>
      intro hmem
      obtain ⟨bs, q1, q2⟩ := ih fun e he => hmem e (List.mem_cons_of_mem _ he)
      obtain ⟨f1, b, f2, f3⟩ := f
      obtain ⟨j, hj, f4⟩ := hE _ (hmem _ List.mem_cons_self)
      have hb : b = vb j := by rw [f2] at f4; cases f4; rfl
      subst hb
      obtain ⟨_, g1, g2⟩ := hval j (by simpa using hj)
      have g2' : TkI X.prog X.w h' (L.getD j []) (vb j) := g2.keep fun o eo => keep _ o (Heap.lt_size eo) eo
      have en := g2'.inj f3
      refine ⟨vb j :: bs, by rw [List.map_cons, List.map_cons, q1, f2], .cons ⟨vb j, rfl, ?_⟩ q2⟩
      rw [← en]
      exact g1
  obtain ⟨bs, b1, b2⟩ := els e7 fun _ h => h
  have I2 := I.laid (a := s.heap.objs.size) (o := SetWO X.prog X.w s.heap.objs.size bs) (h' := h') (t' := tk) (fun c o z => keep c o (Heap.lt_size z) z) (Nat.le_refl _) (setWO_ok ⟨o, e1, e2, e3, e4, e5, e6⟩ b1)
  refine ⟨.ref s.heap.objs.size, _, I2, rfl, q _ bs ks (I.hok.fresh (Nat.le_refl _)) b2 e8 fun x => ?_⟩
  rw [hm x]
  constructor
  · rintro ⟨j, hj, ex⟩
    have hj' : j < L.length := by simp at hj; omega
    rw [← ex]
    show L.getD j [] ∈ L
    rw [List.getD_eq_getElem?_getD, List.getElem?_eq_getElem hj']
    exact List.getElem_mem hj'
  · intro hx
    obtain ⟨j, hj, ex⟩ := List.getElem_of_mem hx
    refine ⟨j, by simp; omega, ?_⟩
    show L.getD j [] = x
    rw [List.getD_eq_getElem?_getD, List.getElem?_eq_getElem hj, ex]
    rfl
/-- sorted(such a set) -/
theorem call_sortedSW (hc : X.calm = true) (hu : X.A.units + 64 < cLine) : CallR X (.builtin "sorted") (fun xs H Q => ∃ (p : Addr) (bs : List Addr) (ws : List (List Int)), xs = [.ref p] ∧ H p = some (SetWO X.prog X.w p bs) ∧ Words H (bs.map V.ref) ws ∧ bs.length ≤ 1000 ∧
    ∀ (l : Addr) (zs : List V) (vs : List (List Int)), H l = none → vs.Perm ws → Words H zs vs → Rise vs → Q (.ref l) (upd H l (.lst zs))) := by
  intro pins s σ H xs us Q I r h
  obtain ⟨p, bs, ws, rfl, hp, hw0, hb1000, q⟩ := h
  obtain ⟨u, rfl, ru⟩ := r.one
  cases ru
  obtain ⟨⟨ep, es, t, x, eb⟩, _⟩ := I.hok p _ hp
  obtain ⟨m, fr⟩ := I.fr
  have lb : es.size = bs.length := by have := congrArg List.length eb; simpa using this
  refine W.kdu_sorted (src_w (es := es) (ep := ep) (t := t) (ks := [])) (I.ok.hd hc) fr (news := allNews X.base s.heap X.env.locals) news_all x (by rw [sizeLine_eq]; omega) fun D h' tk us fr' nw' lt' hlen hP => ?_
  have pmO := ord4_perm X.w p ep es
  have hus : us = (ord4 X.w p ep es).toList.map (·.2) := by
    refine List.ext_getElem? fun j => ?_
    cases e : us[j]? with
    | none =>
      have := List.getElem?_eq_none_iff.mp e
      rw [List.getElem?_eq_none (by rw [List.length_map, pmO.length_eq, Array.length_toList]; omega)]
    | some v =>
      obtain ⟨en, e1, rfl⟩ := hP j v e
      rw [List.getElem?_map, Array.getElem?_toList, e1]
      rfl
  have pu : (bs.map Value.ref).Perm us := by rw [hus, ← eb]; exact (pmO.map (·.2)).symm
  have rv0 : ∀ l : List Addr, Vals (l.map V.ref) (l.map Value.ref) := by
    intro l
    induction l with
    | nil => exact .nil
    | cons a l ih => exact .cons rfl ih
  obtain ⟨xs1, px, rv⟩ := Paired.perm2 pu (rv0 bs)
  obtain ⟨ws1, pw, hw1⟩ := Paired.perm2 px (Paired.flip hw0)
  have hw : Words H xs1 ws1 := Paired.flip hw1
  have lx : xs1.length = es.size := by rw [← px.length_eq, List.length_map]; omega
  have lv : us.length = xs1.length := (Paired.length rv).symm
  have hD : s.heap.get? D = none := by
    have nb : X.base.get? D = none := (nw' (D, W.listOf us.toArray 0) List.mem_cons_self).2.2
    have nL : D ≠ X.env.locals := (nw' (D, W.listOf us.toArray 0) List.mem_cons_self).2.1
    cases e : s.heap.get? D with
    | none => rfl
    | some o => exact absurd (lt' (D, o) (mem_allNews nL nb e)) (Nat.lt_irrefl _)
  have fresh : H D = none := by
    cases e : H D with
    | none => rfl
    | some o =>
      obtain ⟨ob, e2⟩ := (I.hok D o e).there
      rw [hD] at e2
      cases e2
  have kp : ∀ b u, b ≠ X.env.locals → s.heap.get? b = some u → h'.get? b = some u := fun b u hb e => by
    cases q : X.base.get? b with
    | some v =>
      have e1 := fr'.keep b v q
      have e2 := fr.keep b v q
      rw [e] at e2
      cases e2
      exact e1
    | none => exact (nw' (b, u) (List.mem_cons_of_mem _ (mem_allNews hb q e))).1
  have kt : ∀ a ks, H a = some (.tup (ks.map V.int)) → TupI h' a ks := fun a ks e => by
    have t := tupI_of I.hok e
    refine t.kept fun o eo => kp a o (fun zz => ?_) eo
    rw [zz, I.free] at e
    cases e
  refine lsortW (by show X.A.units + 1 + 1 < _; omega) fr' nw' lt' (fun v hv => ?_) (by rw [sizeLine_eq]; omega) fun vs' c h'' fr'' nw'' pm rs => ?_
  · obtain ⟨y, hy, ry⟩ := Paired.mem1 (Paired.flip rv) v hv
    obtain ⟨ks, _, a, e1, e2⟩ := Paired.mem1 hw y hy
    subst e1
    exact ⟨a, ks, ry, ne_of_none e2 fresh, kt a ks e2⟩
  · obtain ⟨ys, p1, r1⟩ := Paired.perm2 pm.symm rv
    obtain ⟨vss, p2, r2⟩ := Paired.perm2 p1 (Paired.flip hw)
    have x2 : Words H ys vss := Paired.flip r2
    have rise : Rise vss := by
      have key : ∀ {ys : List V} {out : List Value} {vs : List (List Int)}, Vals ys out → Words H ys vs → out.map (keyW h') = vs := by
        intro ys out vs a b
        induction a generalizing vs with
        | nil => cases b; rfl
        | cons r _ ih =>
          cases b with
          | cons f t =>
            obtain ⟨q, e1, e2⟩ := f
            subst e1
            rw [List.map_cons, ih t, show _ = Value.ref q from r, (kt _ _ e2).key]
      rw [← key r1 x2]
      unfold Rise
      rw [List.pairwise_map]
      exact rs
    have I2 := I.laidN (o := .lst ys) (D := D) (h' := h'') (t' := tk) fr fr'' (fun q hq => nw'' q (List.mem_cons_of_mem _ hq)) hD fresh ⟨by
      rw [← p1.length_eq, lx, sizeLine_eq]
      omega, vs', c, r1, (nw'' _ List.mem_cons_self).1⟩
    exact ⟨.ref D, _, I2, rfl, q D ys vss fresh (p2.symm.trans pw.symm) x2 rise⟩
theorem call_setWK {P : Program} {w : World} (h1 : X.prog = P) (h2 : X.w = w) (hc : X.calm = true) (hu : X.A.units + 64 < cLine) : CallR X (.type "set") (fun xs H Q => ∃ (p : Addr) (ys : List V) (L : List (List Int)), xs = [.ref p] ∧ H p = some (.lst ys) ∧ Words H ys L ∧ L.length ≤ 16 ∧
    ∀ (a : Addr) (bs : List Addr) (ks : List (List Int)), H a = none → Words H (bs.map V.ref) ks → ks.Nodup → (∀ x, x ∈ ks ↔ x ∈ L) → Q (.ref a) (upd H a (SetWO P w a bs))) := by
  subst h1 h2
  exact call_setW hc hu
theorem call_sortedSWK {P : Program} {w : World} (h1 : X.prog = P) (h2 : X.w = w) (hc : X.calm = true) (hu : X.A.units + 64 < cLine) : CallR X (.builtin "sorted") (fun xs H Q => ∃ (p : Addr) (bs : List Addr) (ws : List (List Int)), xs = [.ref p] ∧ H p = some (SetWO P w p bs) ∧ Words H (bs.map V.ref) ws ∧ bs.length ≤ 1000 ∧
    ∀ (l : Addr) (zs : List V) (vs : List (List Int)), H l = none → vs.Perm ws → Words H zs vs → Rise vs → Q (.ref l) (upd H l (.lst zs))) := by
  subst h1 h2
  exact call_sortedSW hc hu
end
end L2

namespace L2
open PySem PySem.Spec PyProof.Rows PyProof.V
section
variable {X : Cx}
theorem word_eqAt {pins : List (Addr × Obj)} {σ : St} {H : Hp} {s : Shared} {A : Around} (I : Inv X pins σ H s) {x y : V} {u v : Value} {a b : List Int} (hx : Word H x a) (hy : Word H y b) (ru : RelV x u) (rv : RelV y v) (hu : A.units + 4 < cLine) : SeqAt.EqAt A s u v (decide (a = b)) := by
  obtain ⟨p, rfl, hp⟩ := hx
  obtain ⟨r, rfl, hr⟩ := hy
  cases ru
  cases rv
  by_cases e : p = r
  · subst e
    rw [hp] at hr
    have : a = b := by
      have h1 := Option.some.inj hr
      have h2 : a.map V.int = b.map V.int := by injection h1
      exact (List.map_inj_right (fun _ _ z => V.int.inj z)).mp h2
    rw [decide_eq_true this]
    exact SeqAt.EqAt.same _
  · obtain ⟨_, its, r1, p1⟩ := (show ObjOk X.prog X.w H s.heap p (.tup (a.map V.int)) from I.hok p _ hp)
    obtain ⟨_, its2, r2, p2⟩ := (show ObjOk X.prog X.w H s.heap r (.tup (b.map V.int)) from I.hok r _ hr)
    have l1 : a.length = its.length := by simpa using r1.length
    have l2 : b.length = its2.length := by simpa using r2.length
    refine SeqAt.EqAt.of_refs e ?_
    have q := SeqAt.RcAt.tuples (A := A) (s := s) (l := p) (b := r) (items := its.toArray) (items2 := its2.toArray) (e := fun j => a.getD j 0 == b.getD j 0) p1 p2 (by omega) fun j h1 h2 => by
      obtain ⟨t1, e1⟩ := ints_at r1 h1
      obtain ⟨t2, e2⟩ := ints_at r2 h2
      rw [e1, e2]
      exact SeqAt.EqAt.int_int _ _ _ _
    have z : ((List.range (min its.toArray.size its2.toArray.size)).all (fun j => a.getD j 0 == b.getD j 0) && its.toArray.size == its2.toArray.size) = decide (a = b) := by
      rw [Bool.eq_iff_iff, Bool.and_eq_true, List.all_eq_true, decide_eq_true_iff, beq_iff_eq]
      simp only [List.size_toArray]
      constructor
      · rintro ⟨z, zl⟩
        refine List.ext_getElem (by omega) fun i h1 h2 => ?_
        have := z i (List.mem_range.mpr (by omega))
        simpa [h1, h2] using this
      · intro z
        subst z
        exact ⟨fun i _ => by simp, by omega⟩
    rw [z] at q
    exact q
def rEqWL : R2 := fun x y H Q => ∃ (p q : Addr) (xs ys : List V) (L M : List (List Int)), x = .ref p ∧ y = .ref q ∧ H p = some (.lst xs) ∧ H q = some (.lst ys) ∧ Words H xs L ∧ Words H ys M ∧ Q (.bl (decide (L = M))) H
theorem op_eqWL (hu : X.A.units + 64 < cLine) : OpR X (compareOp .Eq) rEqWL := by
  intro pins s σ H x y v u Q I rx ry h
  obtain ⟨p, q, xs, ys, L, M, rfl, rfl, hp, hq, wx, wy, hQ⟩ := h
  cases rx
  cases ry
  obtain ⟨its, r1, p1, _⟩ := I.list (SqL.of (K := X.K) hp)
  obtain ⟨its2, r2, p2, _⟩ := I.list (SqL.of (K := X.K) hq)
  have l1 := r1.length
  have l2 := r2.length
  have m1 := Words.len wx
  have m2 := Words.len wy
  by_cases hl : L.length = M.length
  · refine SeqAt.eq_listAt (e := fun j => decide (L.getD j [] = M.getD j [])) p1.isList p2.isList (by simp only [List.size_toArray]; omega) (by omega) (fun j h1 h2 => ?_) ⟨.bl (decide (L = M)), H, I, ?_, hQ⟩
    · simp only [List.size_toArray] at h1 h2
      obtain ⟨u1, e1, s1⟩ := r1.get (i := j) (x := xs[j]'(by omega)) (by simp)
      obtain ⟨u2, e2, s2⟩ := r2.get (i := j) (x := ys[j]'(by omega)) (by simp)
      obtain ⟨a, ea, wa⟩ := Words.get wx (i := j) (x := xs[j]'(by omega)) (by simp)
      obtain ⟨b, eb, wb⟩ := Words.get wy (i := j) (x := ys[j]'(by omega)) (by simp)
      have z1 : its.toArray[j] = u1 := by
        have : its[j]? = some its[j] := by simp [h1]
        rw [this] at e1
        simpa using Option.some.inj e1
      have z2 : its2.toArray[j] = u2 := by
        have : its2[j]? = some its2[j] := by simp [h2]
        rw [this] at e2
        simpa using Option.some.inj e2
      have g1 : L.getD j [] = a := by simp [ea]
      have g2 : M.getD j [] = b := by simp [eb]
      rw [z1, z2]
      show SeqAt.EqAt _ _ _ _ (decide (L.getD j [] = M.getD j []))
      rw [g1, g2]
      exact word_eqAt I wa wb s1 s2 (by show X.A.units + 1 + 4 < cLine; omega)
    · show Value.bool _ = Value.bool _
      congr 1
      rw [Bool.eq_iff_iff, List.all_eq_true, decide_eq_true_iff]
      constructor
      · intro z
        refine List.ext_getElem hl fun i h1 h2 => ?_
        have := z i (List.mem_range.mpr (by simp only [List.size_toArray]; omega))
        simpa [h1, h2] using this
      · intro z i _
        rw [z]
        simp
  · refine SeqAt.eq_list_lengthsAt p1.isList p2.isList (by simp only [List.size_toArray]; rw [bne_iff_ne]; omega) (by omega) ⟨.bl (decide (L = M)), H, I, ?_, hQ⟩
    rw [decide_eq_false (fun z => hl (by rw [z]))]
    rfl
end
end L2

namespace L2
open PySem PySem.Spec PyProof.Rows PyProof.V
section
variable {X : Cx}
/-- t + u, any tuples -/
def rCatA : R2 := fun x y H Q => ∃ (p r : Addr) (a b : List V), x = .ref p ∧ y = .ref r ∧ H p = some (.tup a) ∧ H r = some (.tup b) ∧ a.length + b.length ≤ sizeLine ∧
  (a = [] → Q y H) ∧ (b = [] → Q x H) ∧ (∀ p, H p = none → Q (.ref p) (upd H p (.tup (a ++ b))))
theorem op_catA : OpR X (binaryOp .Add) rCatA := by
  intro pins s σ H x y v u Q I rx ry h
  obtain ⟨p, r, a, b, rfl, rfl, hp, hr, hz, q1, q2, q3⟩ := h
  cases rx
  cases ry
  obtain ⟨_, its, r1, p1⟩ := (show ObjOk X.prog X.w H s.heap p (.tup a) from I.hok p _ hp)
  obtain ⟨_, its2, r2, p2⟩ := (show ObjOk X.prog X.w H s.heap r (.tup b) from I.hok r _ hr)
  have l1 := r1.length
  have l2 := r2.length
  by_cases e : its = []
  · obtain ⟨⟨cls, dd, data, sl⟩, ho, hc, n, hd⟩ := id p1
    obtain ⟨⟨cls2, dd2, data2, sl2⟩, ho2, hc2, n2, hd2⟩ := id p2
    simp only at hc hd hc2 hd2
    subst hc hd hc2 hd2
    have ea : a = [] := r1.nil_iff.mp e
    exact concat_meets ⟨_, ho, rfl⟩ ⟨_, ho2, rfl⟩ noFill_tuple_add seq_tuple_add PySem.F.slot_tuple_add PySem.F.entry_tuple_add (PySem.F.args_tuple_add_2 _ _)
      (tuple_addW0 p r its.toArray its2.toArray n n2 dd dd2 sl sl2 (by simp [e])) ⟨ho, ho2, ⟨.ref r, H, I, rfl, q1 ea⟩⟩
  · refine HT.cat_tup p1 p2 e (fun z => ⟨.ref p, H, I, rfl, q2 (r2.nil_iff.mp z)⟩) (fun z => ?_) (by rw [← l1, ← l2]; exact hz)
    refine ⟨.ref s.heap.objs.size, _, I.laid (t' := s.toks) (o := .tup (a ++ b)) (fun b ob q => Heap.get?_push_of_some _ q) (Nat.le_refl _) ?_, rfl, q3 _ (I.hok.fresh (Nat.le_refl _))⟩
    exact ⟨by rw [List.length_append]; exact hz, _, r1.append r2, IsTup.new _ _⟩
theorem pec_ix {a b : Expr} {ta tb : TE} {pos : Pos} {r : R2} (hr : IxR X r) (ha : PEc X a ta) (hb : PE X b tb) (hs : PlainIx b) : PEc X (.Subscript a b pos) (tOp r ta tb) := ⟨pe_ix hr ha.out hb hs⟩
theorem pssc_cut {st : Stmt} {rest : List Stmt} {t u : TS} (h1 : PS X st t) (h2 : PSsc X rest u) : PSsc X (st :: rest) (tCut t u) := ⟨pss_cut h1 h2.out⟩
end
end L2

namespace Qk10
open PySem L2 PyProof.Rows
def top (i : Nat) : Stmt := PySem.Challenge.pw_bendfronts_k10_sums_known.main.body.getD i (.Pass ⟨0, 0, 0, 0⟩)
section
variable {P : Program} {w : World} {K : PySem.W.Frag} {mg : Str → Option Value} {base : Heap}
/-! ### bag and take -/
def spTake : Sp := fun vs H Q _ => ∃ (b : Addr) (m : Int), vs = [.ref b, .int m] ∧ Bag H b ∧ 1 ≤ m ∧ m < 1073741824 ∧ ∀ (d : Int) (H' : Hp), 0 ≤ d → d < m → Bag H' b → Frm b H H' → Q (.int d) H'
abbrev s__law_take : Stmt := top 7
theorem sc__law_take : FnScope ["_law_bag_here", "_law_many", "_law_digit"] ["_law_bag_here", "_law_many"] (defScope s__law_take) := ⟨rfl, rfl, rfl, by decide +kernel, rfl, by decide +kernel, by decide +kernel⟩
theorem ok_take {f : Addr} {fd : FuncData} (F : Fun K "_law_take" "_law_take" s__law_take f fd) : FnOk P w K mg base CX0 1 f fd ["_law_bag_here", "_law_many"] spTake := by
  refine F.ok sc__law_take (fun vs H Q E h => ?_) (fun cdv A outer s H vs Q E hr h => ?_)
  · obtain ⟨b, m, rfl, _⟩ := h
    rfl
  · obtain ⟨b, m, rfl, ⟨g, r, hg, hb⟩, h1, h2, k⟩ := h
    refine ⟨_, (pss_cons (ps_if (pt_cmpR op_gt (pe_ix (ix_listK (K := K) rfl) (pv 0) pe_int (fun _ _ => rfl)) pe_int (nomark _)) (pss_cons (ps_set (i := 2) sc__law_take.nd rfl (Or.inl rfl) (pe_op op_mod (pe_ix (ix_listK (K := K) rfl) (pv 0) pe_int (fun _ _ => rfl)) (pv 1)))
      (pss_cons (ps_asg (pe_op op_fdiv (pe_ix (ix_listK (K := K) rfl) (pv 0) pe_int (fun _ _ => rfl)) (pv 1)) (pg_sub (pv 0) pe_int set_list))
      (pss_one (ps_ret (pv 2))))) pss_nil)
      (pss_cons (ps_asg (pe_op op_mod (pe_op op_add (pe_op op_mul (pe_ix (ix_listK (K := K) rfl) (pv 0) pe_int (fun _ _ => rfl)) pe_int) pe_int) pe_int) (pg_sub (pv 0) pe_int set_list))
      (pss_one (ps_ret (pe_op op_mod (pe_op op_mod (pe_op op_pow (pe_op op_fdiv (pe_ix (ix_listK (K := K) rfl) (pv 0) pe_int (fun _ _ => rfl)) pe_int) pe_int) pe_int) (pv 1)))))), ?_⟩
    refine ⟨_, rfl, b, _, _, _, rfl, rfl, SqL.of hb, atI_nat (j := 0) rfl, _, _, rfl, rfl, _, rfl, ?_⟩
    refine ite2 (fun hp => ?_) (fun hp => ?_)
    · have hp' : 0 < g := of_decide_eq_true hp
      refine ⟨_, rfl, b, _, _, _, rfl, rfl, SqL.of hb, atI_nat (j := 0) rfl, _, rfl, _, _, rfl, rfl, (by omega : 0 < m), ?_⟩
      refine ⟨_, rfl, b, _, _, _, rfl, rfl, SqL.of hb, atI_nat (j := 0) rfl, _, rfl, _, _, rfl, rfl, ⟨by omega, by omega⟩, _, rfl, b, _, _, 0, rfl, rfl, hb, rfl, ?_⟩
      refine ⟨_, rfl, k _ _ (Int.emod_nonneg _ (by omega)) (Int.emod_lt_of_pos _ (by omega)) ⟨g / m, r, Int.ediv_nonneg (by omega) (by omega), upd_same⟩ Frm.upd⟩
    · refine ⟨_, rfl, b, _, _, _, rfl, rfl, SqL.of hb, atI_nat (j := 1) rfl, _, _, rfl, rfl, .inr ⟨by decide, by decide⟩, _, _, rfl, rfl, _, _, rfl, rfl, (show (0 : Int) < 2147483647 by decide), _, rfl, b, _, _, 1, rfl, rfl, hb, rfl, ?_⟩
      have e1 : 0 ≤ (r * 48271 + 11) % 2147483647 := Int.emod_nonneg _ (by decide)
      have e2 : (r * 48271 + 11) % 2147483647 < 2147483647 := Int.emod_lt_of_pos _ (by decide)
      refine ⟨_, rfl, b, _, _, _, rfl, rfl, SqL.of upd_same, atI_nat (j := 1) rfl, _, _, rfl, rfl, ⟨by decide, by decide⟩, _, _, rfl, rfl, ⟨by decide, by decide, by omega⟩, _, _, rfl, rfl, (show (0 : Int) < 2147483629 by decide), _, rfl, _, _, rfl, rfl, (by omega : 0 < m), ?_⟩
      exact k _ _ (Int.emod_nonneg _ (by omega)) (Int.emod_lt_of_pos _ (by omega)) ⟨g, _, hg, upd_same⟩ Frm.upd
def spBag (K : PySem.W.Frag) : Sp := fun vs H Q _ => ∃ (a : Addr) (i : Int) (ns : List Int), vs = [.ref a, .int i] ∧ SqL K H a (ns.map V.int) ∧ 0 ≤ i ∧ i < 1000 ∧ ∀ (l : Addr) (H' : Hp), H l = none → Same H H' → Bag H' l → Q (.ref l) H'
abbrev s__law_bag : Stmt := top 6
theorem sc__law_bag : FnScope ["_law_script", "_law_at", "_law_cell", "_law_great", "_law_primes"] ["_law_script", "_law_at"] (defScope s__law_bag) := ⟨rfl, rfl, rfl, by decide +kernel, rfl, by decide +kernel, by decide +kernel⟩
theorem ok_bag {f : Addr} {fd : FuncData} (F : Fun K "_law_bag" "_law_bag" s__law_bag f fd) (b_len : mg "len" = none) (b_abs : mg "abs" = none) : FnOk P w K mg base CX0 1 f fd ["_law_script", "_law_at"] (spBag K) := by
  refine F.ok sc__law_bag (fun vs H Q E h => ?_) (fun cdv A outer s H vs Q E hr h => ?_)
  · obtain ⟨a, i, ns, rfl, _⟩ := h
    rfl
  · obtain ⟨a, i, ns, rfl, hS, h0, h1, k⟩ := h
    refine ⟨_, (pss_cons (ps_set (i := 2) sc__law_bag.nd rfl (Or.inl rfl) pe_int)
      (pss_cons (ps_if (pt_cmpR op_lt (pv 1) (pe_callB (call_lenK (K := K) rfl) (by rfl) b_len PySem.boot_len (pa_cons (pv 0) pa_nil)) (nomark _)) (pss_one (ps_set (i := 2) sc__law_bag.nd rfl (Or.inl rfl) (pe_ix (ix_listK (K := K) rfl) (pv 0) (pv 1) (fun _ _ => rfl)))) pss_nil)
      (pss_cons (ps_set (i := 3) sc__law_bag.nd rfl (Or.inl rfl) pe_int)
      (pss_cons (ps_if (pt_cmpR op_ge (pe_callB call_abs (by rfl) b_abs boot_abs (pa_cons (pv 2) pa_nil)) (pe_op op_pow pe_int pe_int) (nomark _)) (pss_one (ps_set (i := 3) sc__law_bag.nd rfl (Or.inl rfl) (pe_callB call_abs (by rfl) b_abs boot_abs (pa_cons (pv 2) pa_nil)))) pss_nil)
      (pss_cons (ps_set (i := 4) sc__law_bag.nd rfl (Or.inl rfl) (pe_lst (pa_cons pe_int (pa_cons pe_int (pa_cons pe_int (pa_cons pe_int (pa_cons pe_int (pa_cons pe_int (pa_cons pe_int (pa_cons pe_int pa_nil))))))))))
      (pss_one (ps_ret (pe_lst (pa_cons (pv 3) (pa_cons (pe_op op_mod (pe_op op_pow (pe_op op_add (pe_op op_add (pe_op op_mod (pv 2) pe_int) (pe_op op_mul pe_int (pv 1))) pe_int) pe_int) (pe_ix (ix_listK (K := K) rfl) (pv 4) (pe_op op_mod (pv 1) pe_int) (fun _ _ => rfl))) pa_nil)))))))))), ?_⟩
    refine ⟨_, rfl, _, rfl, a, _, rfl, .inl hS, _, _, rfl, rfl, _, rfl, ?_⟩
    have last : ∀ (c : Int), 0 ≤ c % 2147483647 ∧ c % 2147483647 < 2147483647 := fun c => ⟨Int.emod_nonneg _ (by decide), Int.emod_lt_of_pos _ (by decide)⟩
    have e3 : 0 ≤ i % 8 := Int.emod_nonneg _ (by decide)
    have e4 : i % 8 < 8 := Int.emod_lt_of_pos _ (by decide)
    obtain ⟨j, hj⟩ : ∃ j : Nat, i % 8 = (j : Int) := ⟨(i % 8).toNat, by omega⟩
    have hj8 : j < 8 := by omega
    obtain ⟨q, hq, hq0⟩ : ∃ q : Int, ([V.int 2147483629, .int 2147483587, .int 2147483579, .int 2147483563, .int 2147483549, .int 2147483543, .int 2147483497, .int 2147483489] : List V)[j]? = some (.int q) ∧ 0 < q := by
      match j, hj8 with
      | 0, _ => exact ⟨_, rfl, by decide⟩
      | 1, _ => exact ⟨_, rfl, by decide⟩
      | 2, _ => exact ⟨_, rfl, by decide⟩
      | 3, _ => exact ⟨_, rfl, by decide⟩
      | 4, _ => exact ⟨_, rfl, by decide⟩
      | 5, _ => exact ⟨_, rfl, by decide⟩
      | 6, _ => exact ⟨_, rfl, by decide⟩
      | 7, _ => exact ⟨_, rfl, by decide⟩
    have two : ∀ (c : Int) (B : Prop), B → (c = 0 ∨ ∃ j : Nat, i = (j : Int) ∧ ns[j]? = some c) → B := fun _ _ b _ => b
    refine ite2 (fun hp => ?_) (fun hp => ?_)
    · have hp' : i < ((ns.map V.int).length : Int) := of_decide_eq_true hp
      rw [List.length_map] at hp'
      obtain ⟨n, hn⟩ : ∃ n : Nat, i = (n : Int) := ⟨i.toNat, by omega⟩
      have hnl : n < ns.length := by omega
      refine ⟨_, rfl, _, rfl, a, _, _, _, rfl, rfl, hS, (by rw [hn]; exact atI_nat (v := V.int ns[n]) (by simp [hnl])), ?_⟩
      refine ⟨_, rfl, _, rfl, _, _, rfl, rfl, ⟨by decide, by decide, by decide⟩, _, _, rfl, rfl, _, rfl, ?_⟩
      refine ite2 (fun hp => ?_) (fun hp => ?_)
      · refine ⟨_, rfl, _, rfl, ?_⟩
        have l0 := last ns[n]
        refine ⟨(by show 8 ≤ sizeLine; decide), fun pl hpl => ?_⟩
        refine ⟨_, rfl, _, rfl, _, _, rfl, rfl, (show (0 : Int) < 2147483647 by decide), _, rfl, _, _, rfl, rfl, .inl ⟨by decide, by decide⟩, _, _, rfl, rfl, _, _, rfl, rfl, _, _, rfl, rfl, ⟨by decide, by decide, by omega⟩, _, rfl, _, rfl, _, _, rfl, rfl, (show (0 : Int) < 8 by decide), pl, _, _, _, rfl, rfl, SqL.of upd_same, (by rw [hj]; exact atI_nat hq), _, _, rfl, rfl, hq0, (by show 2 ≤ sizeLine; decide), fun l hl => ?_⟩
        have hl0 : H l = none := (Same.laid hpl).free hl
        exact k l _ hl0 ((Same.laid hpl).step hl) ⟨_, _, (by split <;> omega), upd_same⟩
      · have l0 := last ns[n]
        refine ⟨(by show 8 ≤ sizeLine; decide), fun pl hpl => ?_⟩
        refine ⟨_, rfl, _, rfl, _, _, rfl, rfl, (show (0 : Int) < 2147483647 by decide), _, rfl, _, _, rfl, rfl, .inl ⟨by decide, by decide⟩, _, _, rfl, rfl, _, _, rfl, rfl, _, _, rfl, rfl, ⟨by decide, by decide, by omega⟩, _, rfl, _, rfl, _, _, rfl, rfl, (show (0 : Int) < 8 by decide), pl, _, _, _, rfl, rfl, SqL.of upd_same, (by rw [hj]; exact atI_nat hq), _, _, rfl, rfl, hq0, (by show 2 ≤ sizeLine; decide), fun l hl => ?_⟩
        have hl0 : H l = none := (Same.laid hpl).free hl
        exact k l _ hl0 ((Same.laid hpl).step hl) ⟨0, _, Int.le_refl _, upd_same⟩
    · refine ⟨_, rfl, _, rfl, _, _, rfl, rfl, ⟨by decide, by decide, by decide⟩, _, _, rfl, rfl, _, rfl, ?_⟩
      refine ite2 (fun hp => ?_) (fun hp => ?_)
      · exact absurd hp (by decide)
      · have l0 := last 0
        refine ⟨(by show 8 ≤ sizeLine; decide), fun pl hpl => ?_⟩
        refine ⟨_, rfl, _, rfl, _, _, rfl, rfl, (show (0 : Int) < 2147483647 by decide), _, rfl, _, _, rfl, rfl, .inl ⟨by decide, by decide⟩, _, _, rfl, rfl, _, _, rfl, rfl, _, _, rfl, rfl, ⟨by decide, by decide, by omega⟩, _, rfl, _, rfl, _, _, rfl, rfl, (show (0 : Int) < 8 by decide), pl, _, _, _, rfl, rfl, SqL.of upd_same, (by rw [hj]; exact atI_nat hq), _, _, rfl, rfl, hq0, (by show 2 ≤ sizeLine; decide), fun l hl => ?_⟩
        have hl0 : H l = none := (Same.laid hpl).free hl
        exact k l _ hl0 ((Same.laid hpl).step hl) ⟨0, _, Int.le_refl _, upd_same⟩
end
end Qk10

namespace Qk10
open PySem L2 PyProof.Rows
section
variable {P : Program} {w : World} {K : PySem.W.Frag} {mg : Str → Option Value} {base : Heap}
/-! ### things that may be words, things that may be sums -/
def wOk : V → Bool
  | .int n => decide (0 ≤ n)
  | _ => false
def toI : V → Int
  | .int n => n
  | _ => 0
def ptO (xs : List V) : Option (List Int) := if xs.all wOk = true then some (xs.map toI) else none
theorem ptO_some (xs : List V) : (ptO xs).isSome = xs.all wOk := by
  unfold ptO
  cases xs.all wOk <;> rfl
theorem wOk_ints : ∀ {xs : List V}, xs.all wOk = true → xs = (xs.map toI).map V.int
  | [], _ => rfl
  | x :: xs, h => by
    rw [List.all_cons, Bool.and_eq_true] at h
    rw [List.map_cons, List.map_cons, ← wOk_ints h.2]
    cases x with
    | int n => rfl
    | _ => simp [wOk] at h
theorem ptO_word {ns : List Int} (h : ∀ k ∈ ns, 0 ≤ k) : ptO (ns.map V.int) = some ns := by
  unfold ptO
  rw [if_pos]
  · rw [List.map_map]
    congr 1
    exact List.map_id ns
  · rw [List.all_eq_true]
    intro x hx
    obtain ⟨k, hk, rfl⟩ := List.mem_map.mp hx
    exact decide_eq_true (h k hk)
inductive Pt (H : Hp) : V → Option (List Int) → Prop
  | non : Pt H .non none
  | bl (b : Bool) : Pt H (.bl b) none
  | int (i : Int) : Pt H (.int i) none
  | str (x : Str) : Pt H (.str x) none
  | lst {a : Addr} {xs : List V} (e : H a = some (.lst xs)) : Pt H (.ref a) none
  | tup {a : Addr} {xs : List V} (e : H a = some (.tup xs)) (s : ∀ x ∈ xs, Sim H x) (n : xs.length ≤ 1000) : Pt H (.ref a) (ptO xs)
structure Lk (H H' : Hp) : Prop where
  tup : ∀ a p, H a = some (.tup p) → H' a = some (.tup p)
  lst : ∀ a xs, H a = some (.lst xs) → ∃ ys, H' a = some (.lst ys)
theorem Lk.trans {H H1 H2 : Hp} (x : Lk H H1) (y : Lk H1 H2) : Lk H H2 := ⟨fun a p e => y.tup a p (x.tup a p e), fun a xs e => by
  obtain ⟨ys, e1⟩ := x.lst a xs e
  exact y.lst a ys e1⟩
theorem lk_same {H H' : Hp} (s : Same H H') : Lk H H' := ⟨fun a p e => s a _ e, fun a xs e => ⟨xs, s a _ e⟩⟩
theorem sim_lk {H H' : Hp} (l : Lk H H') {v : V} (h : Sim H v) : Sim H' v := by
  cases h with
  | non => exact .non
  | bl b => exact .bl b
  | int i => exact .int i
  | str x => exact .str x
  | lst e => obtain ⟨ys, e'⟩ := l.lst _ _ e; exact .lst e'
  | tup e => exact .tup (l.tup _ _ e)
theorem Pt.lk {H H' : Hp} (l : Lk H H') {v : V} {o : Option (List Int)} (h : Pt H v o) : Pt H' v o := by
  cases h with
  | non => exact .non
  | bl b => exact .bl b
  | int i => exact .int i
  | str x => exact .str x
  | lst e => obtain ⟨ys, e'⟩ := l.lst _ _ e; exact .lst e'
  | tup e s n => exact .tup (l.tup _ _ e) (fun x hx => sim_lk l (s x hx)) n
theorem pts_lk {H H' : Hp} (l : Lk H H') {xs : List V} {os : List (Option (List Int))} (h : Paired (Pt H) xs os) : Paired (Pt H') xs os := Paired.mapP h fun _ _ q => q.lk l
theorem pt_word {H : Hp} {x : V} {ns : List Int} (h : Word H x ns) (n : ∀ k ∈ ns, 0 ≤ k) (m : ns.length ≤ 1000) : Pt H x (some ns) := by
  obtain ⟨a, rfl, e⟩ := h
  rw [← ptO_word n]
  refine .tup e (fun x hx => ?_) (by rwa [List.length_map])
  obtain ⟨k, _, rfl⟩ := List.mem_map.mp hx
  exact .int k
theorem pts_words {H : Hp} : ∀ {xs : List V} {L : WS}, Words H xs L → (∀ w ∈ L, w.length ≤ 1000 ∧ ∀ k ∈ w, 0 ≤ k) → Paired (Pt H) xs (L.map some)
  | _, _, .nil, _ => .nil
  | _, _, .cons a r, g => .cons (pt_word a (g _ List.mem_cons_self).2 (g _ List.mem_cons_self).1) (pts_words r fun w h => g w (List.mem_cons_of_mem _ h))
theorem words_pts {H : Hp} : ∀ {xs : List V} {os : List (Option (List Int))}, Paired (Pt H) xs os → os.all Option.isSome = true → Words H xs (os.filterMap id)
  | _, _, .nil, _ => .nil
  | _, none :: os, .cons a r, h => by simp at h
  | _, some p :: os, .cons a r, h => by
    rw [List.all_cons, Bool.and_eq_true] at h
    have el : (some p :: os).filterMap id = p :: os.filterMap id := by simp
    rw [el]
    refine .cons ?_ (words_pts r h.2)
    generalize eo : some p = o at a
    cases a with
    | tup e s n =>
      unfold ptO at eo
      split at eo
      · rename_i hx
        cases eo
        exact ⟨_, rfl, by rw [← wOk_ints hx]; exact e⟩
      · cases eo
    | _ => cases eo
theorem pts_get {H : Hp} : ∀ {xs : List V} {os : List (Option (List Int))} {i : Nat} {x : V}, Paired (Pt H) xs os → xs[i]? = some x → ∃ o, os[i]? = some o ∧ Pt H x o
  | _, _, _, _, .nil, e => by simp at e
  | _, _, 0, _, .cons a _, e => by simp at e; subst e; exact ⟨_, rfl, a⟩
  | _, _, i + 1, x, .cons _ r, e => by
    obtain ⟨o, h1, h2⟩ := pts_get (i := i) (x := x) r (by simpa using e)
    exact ⟨o, by simpa using h1, h2⟩
def ltA (L : WS) (i : Nat) : Bool := lexLt (L.getD i []) (L.getD (i + 1) [])
def srB (L : WS) : Bool := ((List.range (L.length - 1)).map (ltA L)).all id
theorem srB_iff (L : WS) : srB L = true ↔ SR L := by
  unfold srB
  rw [List.all_map, List.all_eq_true]
  constructor
  · intro h
    have key : ∀ j i, i < j → j < L.length → lexLt (L.getD i []) (L.getD j []) = true := by
      intro j
      induction j with
      | zero => intro i hi; omega
      | succ j ih =>
        intro i hi hj
        have s : lexLt (L.getD j []) (L.getD (j + 1) []) = true := h j (List.mem_range.mpr (by omega))
        by_cases e : i = j
        · rw [e]; exact s
        · exact lex_trans (ih i (by omega) (by omega)) s
    refine List.pairwise_iff_getElem.mpr fun i j hi hj hij => ?_
    have := key j i hij hj
    simpa [hi, hj] using this
  · intro h i hi
    have hi := List.mem_range.mp hi
    have := List.pairwise_iff_getElem.mp h i (i + 1) (by omega) (by omega) (by omega)
    show lexLt (L.getD i []) (L.getD (i + 1) []) = true
    simpa [show i < L.length by omega, show i + 1 < L.length by omega] using this
theorem sr_dec {vs ks L : WS} (pm : vs.Perm ks) (nd : ks.Nodup) (mem : ∀ x, x ∈ ks ↔ x ∈ L) (rs : Rise vs) : decide (vs = L) = srB L := by
  have sv : SR vs := sr_of rs (pm.nodup_iff.mpr nd)
  rw [Bool.eq_iff_iff, decide_eq_true_iff, srB_iff]
  constructor
  · intro z; rw [← z]; exact sv
  · intro z; exact sr_one vs L sv z fun w => (pm.mem_iff).trans (mem w)
def sumOk (os : List (Option (List Int))) : Bool := os.all Option.isSome && srB (os.filterMap id)
inductive Th (H : Hp) : V → Bool → Prop
  | non : Th H .non false
  | bl (b : Bool) : Th H (.bl b) false
  | int (i : Int) : Th H (.int i) false
  | str (x : Str) : Th H (.str x) false
  | tup {a : Addr} {xs : List V} (e : H a = some (.tup xs)) : Th H (.ref a) false
  | lst {a : Addr} {xs : List V} {os : List (Option (List Int))} (e : H a = some (.lst xs)) (p : Paired (Pt H) xs os) (n : xs.length ≤ 16) : Th H (.ref a) (sumOk os)
theorem Th.same {H H' : Hp} (s : Same H H') {v : V} {b : Bool} (h : Th H v b) : Th H' v b := by
  cases h with
  | non => exact .non
  | bl b => exact .bl b
  | int i => exact .int i
  | str x => exact .str x
  | tup e => exact .tup (s _ _ e)
  | lst e p n => exact .lst (s _ _ e) (pts_lk (lk_same s) p) n
end
end Qk10

namespace Qk10
open PySem L2 PyProof.Rows
section
variable {P : Program} {w : World} {K : PySem.W.Frag} {mg : Str → Option Value} {base : Heap}
def spWholeA : Sp := fun vs H Q _ => ∃ v : V, vs = [v] ∧ Sim H v ∧ Q (.bl (isIn v)) H
abbrev s_is_whole : Stmt := top 1
theorem sc_is_whole : FnScope ["thing"] ["thing"] (defScope s_is_whole) := ⟨rfl, rfl, rfl, by decide +kernel, rfl, by decide +kernel, by decide +kernel⟩
theorem ok_is_whole {f : Addr} {fd : FuncData} (F : Fun K "is_whole" "is_whole" s_is_whole f fd) (b_isinstance : mg "isinstance" = none) (b_int : mg "int" = none) (b_bool : mg "bool" = none) : FnOk P w K mg base CX0 1 f fd ["thing"] spWholeA := by
  refine F.ok sc_is_whole (fun vs H Q E h => ?_) (fun cdv A outer s H vs Q E hr h => ?_)
  · obtain ⟨i, rfl, _⟩ := h
    rfl
  · obtain ⟨v, rfl, sv, k⟩ := h
    refine ⟨_, (pss_one (ps_ret (pe_and (pe_callB (call_isinstK (K := K) rfl) (by rfl) b_isinstance boot_isinstance (pa_cons (pv 0) (pa_cons (pe_bltn (v := .ty "int") (by rfl) b_int boot_int rfl) pa_nil))) (pe_one (pe_not (pe_callB (call_isinstK (K := K) rfl) (by rfl) b_isinstance boot_isinstance (pa_cons (pv 0) (pa_cons (pe_bltn (v := .ty "bool") (by rfl) b_bool boot_bool rfl) pa_nil)))))))), ?_⟩
    cases sv with
    | non => exact ⟨_, rfl, _, "int", _, false, rfl, .non, by rfl, false, rfl, iteF k⟩
    | bl b => exact ⟨_, rfl, _, "int", _, true, rfl, .bl b, by rfl, true, rfl, iteT ⟨_, rfl, _, "bool", _, true, rfl, .bl b, by rfl, true, rfl, k⟩⟩
    | int i => exact ⟨_, rfl, _, "int", _, true, rfl, .int i, by rfl, true, rfl, iteT ⟨_, rfl, _, "bool", _, false, rfl, .int i, by rfl, false, rfl, k⟩⟩
    | str x => exact ⟨_, rfl, _, "int", _, false, rfl, .str x, by rfl, false, rfl, iteF k⟩
    | lst e => exact ⟨_, rfl, _, "int", _, false, rfl, .lst e, by rfl, false, rfl, iteF k⟩
    | tup e => exact ⟨_, rfl, _, "int", _, false, rfl, .tup e, by rfl, false, rfl, iteF k⟩
abbrev s__law_whole : Stmt := top 8
theorem sc__law_whole : FnScope ["_law_thing"] ["_law_thing"] (defScope s__law_whole) := ⟨rfl, rfl, rfl, by decide +kernel, rfl, by decide +kernel, by decide +kernel⟩
theorem ok_whole {f : Addr} {fd : FuncData} (F : Fun K "_law_whole" "_law_whole" s__law_whole f fd) (b_isinstance : mg "isinstance" = none) (b_int : mg "int" = none) (b_bool : mg "bool" = none) : FnOk P w K mg base CX0 1 f fd ["_law_thing"] spWholeA := by
  refine F.ok sc__law_whole (fun vs H Q E h => ?_) (fun cdv A outer s H vs Q E hr h => ?_)
  · obtain ⟨i, rfl, _⟩ := h
    rfl
  · obtain ⟨v, rfl, sv, k⟩ := h
    refine ⟨_, (pss_one (ps_ret (pe_and (pe_callB (call_isinstK (K := K) rfl) (by rfl) b_isinstance boot_isinstance (pa_cons (pv 0) (pa_cons (pe_bltn (v := .ty "int") (by rfl) b_int boot_int rfl) pa_nil))) (pe_one (pe_not (pe_callB (call_isinstK (K := K) rfl) (by rfl) b_isinstance boot_isinstance (pa_cons (pv 0) (pa_cons (pe_bltn (v := .ty "bool") (by rfl) b_bool boot_bool rfl) pa_nil)))))))), ?_⟩
    cases sv with
    | non => exact ⟨_, rfl, _, "int", _, false, rfl, .non, by rfl, false, rfl, iteF k⟩
    | bl b => exact ⟨_, rfl, _, "int", _, true, rfl, .bl b, by rfl, true, rfl, iteT ⟨_, rfl, _, "bool", _, true, rfl, .bl b, by rfl, true, rfl, k⟩⟩
    | int i => exact ⟨_, rfl, _, "int", _, true, rfl, .int i, by rfl, true, rfl, iteT ⟨_, rfl, _, "bool", _, false, rfl, .int i, by rfl, false, rfl, k⟩⟩
    | str x => exact ⟨_, rfl, _, "int", _, false, rfl, .str x, by rfl, false, rfl, iteF k⟩
    | lst e => exact ⟨_, rfl, _, "int", _, false, rfl, .lst e, by rfl, false, rfl, iteF k⟩
    | tup e => exact ⟨_, rfl, _, "int", _, false, rfl, .tup e, by rfl, false, rfl, iteF k⟩
def spWordA : Sp := fun vs H Q _ => ∃ (v : V) (o : Option (List Int)), vs = [v] ∧ Pt H v o ∧ ∀ H', Same H H' → Q (.bl o.isSome) H'
theorem tk_snoc {xs : List V} {i : Nat} {x : V} (h : xs[i]? = some x) : (xs.take (i + 1)).map wOk = (xs.take i).map wOk ++ [wOk x] := by rw [List.take_add_one, h, List.map_append]; rfl
abbrev s_is_word : Stmt := top 3
theorem sc_is_word : FnScope ["thing"] ["thing"] (defScope s_is_word) := ⟨rfl, rfl, rfl, by decide +kernel, rfl, by decide +kernel, by decide +kernel⟩
theorem ok_isWord {f : Addr} {fd : FuncData} (F : Fun K "is_word" "is_word" s_is_word f fd) (h_is_whole : Has P w K mg base 1 "is_whole" ["thing"] spWholeA) (b_isinstance : mg "isinstance" = none) (b_tuple : mg "tuple" = none) (b_all : mg "all" = none) : FnOk P w K mg base CX0 2 f fd ["thing"] spWordA := by
  refine F.ok sc_is_word (fun vs H Q E h => ?_) (fun cdv A outer s H vs Q E hr h => ?_)
  · obtain ⟨x, o, rfl, _⟩ := h
    rfl
  · obtain ⟨v, o, rfl, pt, k⟩ := h
    refine ⟨_, (pss_one (ps_ret (pe_and (pe_callB (call_isinstK (K := K) rfl) (by rfl) b_isinstance boot_isinstance (pa_cons (pv 0) (pa_cons (pe_bltn (v := .ty "tuple") (by rfl) b_tuple boot_tuple rfl) pa_nil))) (pe_one (pe_callB (call_allK (K := K) rfl rfl) (by rfl) b_all boot_all (pa_cons (pe_lc (Ls := ["name"]) (Fs := []) (fi := []) (LcScope.of (show lcLook ["thing"] (defScope s_is_word) _ [] [] = true by decide +kernel)) rfl (pi_tupK (K := K) rfl (pv 0)) (fun cl C s3 H3 ex => ⟨(pg_name (i := 0) (show ((["name"] : List Str) ++ ([] : List Str)).Nodup by decide +kernel) rfl (Or.inl rfl)), pts_nil, (pe_and (pe_has h_is_whole (hr.mono (by decide)) (pa_cons (pv 0) pa_nil)) (pe_one (pe_cmpR op_ge (pv 0) pe_int (nomark _))))⟩)) pa_nil)))))), ?_⟩
    cases pt with
    | non => exact ⟨_, rfl, _, "tuple", _, false, rfl, .non, by rfl, false, rfl, iteF (k _ (Same.refl _))⟩
    | bl b => exact ⟨_, rfl, _, "tuple", _, false, rfl, .bl b, by rfl, false, rfl, iteF (k _ (Same.refl _))⟩
    | int i => exact ⟨_, rfl, _, "tuple", _, false, rfl, .int i, by rfl, false, rfl, iteF (k _ (Same.refl _))⟩
    | str x => exact ⟨_, rfl, _, "tuple", _, false, rfl, .str x, by rfl, false, rfl, iteF (k _ (Same.refl _))⟩
    | lst e => exact ⟨_, rfl, _, "tuple", _, false, rfl, .lst e, by rfl, false, rfl, iteF (k _ (Same.refl _))⟩
    | @tup p xs hp sx hn =>
      rw [ptO_some] at k
      refine ⟨_, rfl, _, "tuple", _, true, rfl, .tup hp, by rfl, true, rfl, iteT ?_⟩
      refine ⟨_, rfl, p, rfl, ⟨_, .inl (.inl hp)⟩, lc_tup (K := K) (xs := xs) (by rw [sizeLine_eq]; omega) (fun i zs G => Same H G ∧ zs = ((xs.take i).map wOk).map V.bl) ⟨Same.refl _, rfl⟩
        (fun i zs G ⟨_, z⟩ => by rw [z, List.length_map, List.length_map, List.length_take]; omega) (fun i zs G ⟨s', _⟩ => .inl (.inl (s' p _ hp))) ?_ ?_⟩
      · rintro i x zs G hx ⟨s', rfl⟩
        have sim := sim_lk (lk_same s') (sx x (List.mem_of_getElem? hx))
        rw [tk_snoc hx, List.map_append]
        dsimp only [gName, tTrue]
        refine iteT ⟨_, rfl, x, rfl, sim, ?_⟩
        cases sim with
        | int t => exact ⟨true, rfl, iteT ⟨_, rfl, _, _, rfl, rfl, s', rfl⟩⟩
        | non => exact ⟨false, rfl, iteF ⟨s', rfl⟩⟩
        | bl b => exact ⟨false, rfl, iteF ⟨s', rfl⟩⟩
        | str b => exact ⟨false, rfl, iteF ⟨s', rfl⟩⟩
        | lst e => exact ⟨false, rfl, iteF ⟨s', rfl⟩⟩
        | tup e => exact ⟨false, rfl, iteF ⟨s', rfl⟩⟩
      · rintro zs G ⟨s', rfl⟩ D hD
        refine ⟨D, _, rfl, SqL.of upd_same, ?_⟩
        rw [List.take_length, List.all_map]
        exact k _ (s'.step hD)
abbrev s__law_is_word : Stmt := top 12
theorem sc__law_is_word : FnScope ["_law_thing"] ["_law_thing"] (defScope s__law_is_word) := ⟨rfl, rfl, rfl, by decide +kernel, rfl, by decide +kernel, by decide +kernel⟩
theorem ok_lisWord {f : Addr} {fd : FuncData} (F : Fun K "_law_is_word" "_law_is_word" s__law_is_word f fd) (h__law_whole : Has P w K mg base 1 "_law_whole" ["_law_thing"] spWholeA) (b_isinstance : mg "isinstance" = none) (b_tuple : mg "tuple" = none) (b_all : mg "all" = none) : FnOk P w K mg base CX0 2 f fd ["_law_thing"] spWordA := by
  refine F.ok sc__law_is_word (fun vs H Q E h => ?_) (fun cdv A outer s H vs Q E hr h => ?_)
  · obtain ⟨x, o, rfl, _⟩ := h
    rfl
  · obtain ⟨v, o, rfl, pt, k⟩ := h
    refine ⟨_, (pss_one (ps_ret (pe_and (pe_callB (call_isinstK (K := K) rfl) (by rfl) b_isinstance boot_isinstance (pa_cons (pv 0) (pa_cons (pe_bltn (v := .ty "tuple") (by rfl) b_tuple boot_tuple rfl) pa_nil))) (pe_one (pe_callB (call_allK (K := K) rfl rfl) (by rfl) b_all boot_all (pa_cons (pe_lc (Ls := ["_law_name"]) (Fs := []) (fi := []) (LcScope.of (show lcLook ["_law_thing"] (defScope s__law_is_word) _ [] [] = true by decide +kernel)) rfl (pi_tupK (K := K) rfl (pv 0)) (fun cl C s3 H3 ex => ⟨(pg_name (i := 0) (show ((["_law_name"] : List Str) ++ ([] : List Str)).Nodup by decide +kernel) rfl (Or.inl rfl)), pts_nil, (pe_and (pe_has h__law_whole (hr.mono (by decide)) (pa_cons (pv 0) pa_nil)) (pe_one (pe_cmpR op_ge (pv 0) pe_int (nomark _))))⟩)) pa_nil)))))), ?_⟩
    cases pt with
    | non => exact ⟨_, rfl, _, "tuple", _, false, rfl, .non, by rfl, false, rfl, iteF (k _ (Same.refl _))⟩
    | bl b => exact ⟨_, rfl, _, "tuple", _, false, rfl, .bl b, by rfl, false, rfl, iteF (k _ (Same.refl _))⟩
    | int i => exact ⟨_, rfl, _, "tuple", _, false, rfl, .int i, by rfl, false, rfl, iteF (k _ (Same.refl _))⟩
    | str x => exact ⟨_, rfl, _, "tuple", _, false, rfl, .str x, by rfl, false, rfl, iteF (k _ (Same.refl _))⟩
    | lst e => exact ⟨_, rfl, _, "tuple", _, false, rfl, .lst e, by rfl, false, rfl, iteF (k _ (Same.refl _))⟩
    | @tup p xs hp sx hn =>
      rw [ptO_some] at k
      refine ⟨_, rfl, _, "tuple", _, true, rfl, .tup hp, by rfl, true, rfl, iteT ?_⟩
      refine ⟨_, rfl, p, rfl, ⟨_, .inl (.inl hp)⟩, lc_tup (K := K) (xs := xs) (by rw [sizeLine_eq]; omega) (fun i zs G => Same H G ∧ zs = ((xs.take i).map wOk).map V.bl) ⟨Same.refl _, rfl⟩
        (fun i zs G ⟨_, z⟩ => by rw [z, List.length_map, List.length_map, List.length_take]; omega) (fun i zs G ⟨s', _⟩ => .inl (.inl (s' p _ hp))) ?_ ?_⟩
      · rintro i x zs G hx ⟨s', rfl⟩
        have sim := sim_lk (lk_same s') (sx x (List.mem_of_getElem? hx))
        rw [tk_snoc hx, List.map_append]
        dsimp only [gName, tTrue]
        refine iteT ⟨_, rfl, x, rfl, sim, ?_⟩
        cases sim with
        | int t => exact ⟨true, rfl, iteT ⟨_, rfl, _, _, rfl, rfl, s', rfl⟩⟩
        | non => exact ⟨false, rfl, iteF ⟨s', rfl⟩⟩
        | bl b => exact ⟨false, rfl, iteF ⟨s', rfl⟩⟩
        | str b => exact ⟨false, rfl, iteF ⟨s', rfl⟩⟩
        | lst e => exact ⟨false, rfl, iteF ⟨s', rfl⟩⟩
        | tup e => exact ⟨false, rfl, iteF ⟨s', rfl⟩⟩
      · rintro zs G ⟨s', rfl⟩ D hD
        refine ⟨D, _, rfl, SqL.of upd_same, ?_⟩
        rw [List.take_length, List.all_map]
        exact k _ (s'.step hD)
end
end Qk10

namespace Qk10
open PySem L2 PyProof.Rows
section
variable {P : Program} {w : World} {K : PySem.W.Frag} {mg : Str → Option Value} {base : Heap}
theorem cut_tl (xs : List V) : cutV xs (some 1) none = xs.drop 1 := by
  unfold cutV
  rw [HT.sIx_none, show (1 : Int) = ((1 : Nat) : Int) from rfl, HT.sIx_nat]
  cases xs with
  | nil => rfl
  | cons x xs => simp
def spSumA : Sp := fun vs H Q _ => ∃ (v : V) (b : Bool), vs = [v] ∧ Th H v b ∧ ∀ H', Same H H' → Q (.bl b) H'
theorem os_snoc {os : List (Option (List Int))} {i : Nat} {o : Option (List Int)} (h : os[i]? = some o) : ((os.take (i + 1)).map Option.isSome).map V.bl = ((os.take i).map Option.isSome).map V.bl ++ [V.bl o.isSome] := by rw [List.take_add_one, h, List.map_append, List.map_append]; rfl
theorem os_all (os : List (Option (List Int))) (n : Nat) (h : n = os.length) : ((os.take n).map Option.isSome).all id = os.all Option.isSome := by rw [h, List.take_length, List.all_map]; rfl
abbrev s_is_sum : Stmt := top 4
theorem sc_is_sum : FnScope ["thing"] ["thing"] (defScope s_is_sum) := ⟨rfl, rfl, rfl, by decide +kernel, rfl, by decide +kernel, by decide +kernel⟩
theorem ok_isSum {f : Addr} {fd : FuncData} (F : Fun K "is_sum" "is_sum" s_is_sum f fd) (h_is_word : Has P w K mg base 2 "is_word" ["thing"] spWordA) (b_isinstance : mg "isinstance" = none) (b_list : mg "list" = none) (b_all : mg "all" = none) (b_zip : mg "zip" = none) : FnOk P w K mg base CX0 3 f fd ["thing"] spSumA := by
  refine F.ok sc_is_sum (fun vs H Q E h => ?_) (fun cdv A outer s H vs Q E hr h => ?_)
  · obtain ⟨v, b, rfl, _⟩ := h
    rfl
  · obtain ⟨v, b, rfl, th, k⟩ := h
    refine ⟨_, (pss_cons (ps_if (PW.pt (pw_or (pt_not (pt_val (pe_callB (call_isinstK (K := K) rfl) (by rfl) b_isinstance boot_isinstance (pa_cons (pv 0) (pa_cons (pe_bltn (v := .ty "list") (by rfl) b_list boot_list rfl) pa_nil))))) (pw_or1 (pt_not (pt_val (pe_callB (call_allK (K := K) rfl rfl) (by rfl) b_all boot_all (pa_cons (pe_lc (Ls := ["part"]) (Fs := []) (fi := []) (LcScope.of (show lcLook ["thing"] (defScope s_is_sum) _ [] [] = true by decide +kernel)) rfl (pi_listK (K := K) rfl (pv 0)) (fun cl C s3 H3 ex => ⟨(pg_name (i := 0) (show ((["part"] : List Str) ++ ([] : List Str)).Nodup by decide +kernel) rfl (Or.inl rfl)), pts_nil, (pe_has h_is_word (hr.mono (by decide)) (pa_cons (pv 0) pa_nil))⟩)) pa_nil))))))) (pss_one (ps_ret pe_bl)) pss_nil)
      (pss_one (ps_ret (pe_callB (call_allK (K := K) rfl rfl) (by rfl) b_all boot_all (pa_cons (pe_lc (Ls := ["word", "onward"]) (Fs := []) (fi := []) (LcScope.of (show lcLook ["thing"] (defScope s_is_sum) _ [] [] = true by decide +kernel)) rfl (pi_zipK (K := K) rfl (by rfl) b_zip (pa_cons (pv 0) (pa_cons (pe_slice (sl_listK (K := K) rfl) (pv 0) (po_some pe_int) po_none) pa_nil))) (fun cl C s3 H3 ex => ⟨(pg_tupK (K := K) (n := 2) rfl rfl (pgs_cons (pg_name (i := 0) (show ((["word", "onward"] : List Str) ++ ([] : List Str)).Nodup by decide +kernel) rfl (Or.inl rfl)) (pgs_cons (pg_name (i := 1) (show ((["word", "onward"] : List Str) ++ ([] : List Str)).Nodup by decide +kernel) rfl (Or.inl rfl)) pgs_nil))), pts_nil, (pe_cmpR (op_ltW hr.units) (pv 0) (pv 1) (nomark _))⟩)) pa_nil))))), ?_⟩
    cases th with
    | non => exact ⟨_, rfl, _, "list", _, false, rfl, .non, by rfl, _, rfl, iteT (iteT (k _ (Same.refl _)))⟩
    | bl b => exact ⟨_, rfl, _, "list", _, false, rfl, .bl b, by rfl, _, rfl, iteT (iteT (k _ (Same.refl _)))⟩
    | int i => exact ⟨_, rfl, _, "list", _, false, rfl, .int i, by rfl, _, rfl, iteT (iteT (k _ (Same.refl _)))⟩
    | str x => exact ⟨_, rfl, _, "list", _, false, rfl, .str x, by rfl, _, rfl, iteT (iteT (k _ (Same.refl _)))⟩
    | tup e => exact ⟨_, rfl, _, "list", _, false, rfl, .tup e, by rfl, _, rfl, iteT (iteT (k _ (Same.refl _)))⟩
    | @lst a xs os ea pp hn =>
      have lx := Paired.length pp
      refine ⟨_, rfl, _, "list", _, true, rfl, .lst ea, by rfl, true, rfl, iteF ?_⟩
      refine ⟨_, rfl, a, rfl, ⟨_, SqL.of ea⟩, lc_list (K := K) (xs := xs) (by rw [sizeLine_eq]; omega) (fun i zs G => Same H G ∧ zs = ((os.take i).map Option.isSome).map V.bl) ⟨Same.refl _, rfl⟩
        (fun i zs G ⟨_, z⟩ => by rw [z, List.length_map, List.length_map, List.length_take]; omega) (fun i zs G ⟨s', _⟩ => SqL.of (s' a _ ea)) ?_ ?_⟩
      · rintro i x zs G hx ⟨s', rfl⟩
        obtain ⟨o, ho, px⟩ := pts_get pp hx
        rw [os_snoc ho]
        dsimp only [gName, tTrue]
        exact iteT ⟨_, rfl, x, o, rfl, px.lk (lk_same s'), fun G' s2 => ⟨s'.trans s2, rfl⟩⟩
      · rintro zs G ⟨s', rfl⟩ D hD
        refine ⟨D, _, rfl, SqL.of upd_same, _, rfl, ?_⟩
        rw [os_all os _ lx]
        by_cases all : os.all Option.isSome = true
        · rw [all]
          refine iteF ?_
          obtain ⟨G1, hG1⟩ : ∃ G1, G1 = upd G D (.lst (((os.take xs.length).map Option.isSome).map V.bl)) := ⟨_, rfl⟩
          rw [← hG1]
          have s1 : Same H G1 := by rw [hG1]; exact s'.step hD
          have wa := words_pts pp all
          obtain ⟨L, hL⟩ : ∃ L, L = os.filterMap id := ⟨_, rfl⟩
          have kk : ∀ H', Same H H' → Q (.bl (srB L)) H' := fun H' sh => by
            have := k H' sh
            unfold sumOk at this
            rwa [all, Bool.true_and, ← hL] at this
          rw [← hL] at wa
          have ll := Words.len wa
          clear hL
          refine ⟨_, rfl, _, rfl, _, rfl, a, xs, rfl, SqL.of (s1 a _ ea), fun q hq => ?_⟩
          rw [cut_tl]
          obtain ⟨G2, hG2⟩ : ∃ G2, G2 = upd G1 q (.lst (xs.drop 1)) := ⟨_, rfl⟩
          rw [← hG2]
          have s2 : Same H G2 := by rw [hG2]; exact s1.step hq
          have eq : G2 q = some (.lst (xs.drop 1)) := by rw [hG2]; exact upd_same
          refine ⟨a, q, rfl, ⟨_, SqL.of (s2 a _ ea)⟩, ⟨_, SqL.of eq⟩, lc_zipS (K := K) (xs := xs) (ys := xs.drop 1) (by rw [List.length_drop, sizeLine_eq]; omega) (by rw [List.length_drop]; omega) (fun i zs G => Same G2 G ∧ zs = ((List.range i).map (ltA L)).map V.bl) ⟨Same.refl _, rfl⟩
            (fun i zs G ⟨_, z⟩ => by rw [z]; simp) (fun i zs G ⟨s3, _⟩ => ⟨SqL.of (s3 a _ (s2 a _ ea)), SqL.of (s3 q _ eq)⟩) ?_ ?_⟩
          · rintro i x y p zs G3 hx hy ⟨s3, rfl⟩ hp
            rw [List.getElem?_drop] at hy
            obtain ⟨u, hu, wx⟩ := Words.get wa hx
            obtain ⟨v, hv, wy⟩ := Words.get wa hy
            have lt : ltA L i = lexLt u v := by
              unfold ltA
              rw [Nat.add_comm] at hv
              simp [hu, hv]
            have s4 : Same H (upd G3 p (.tup [x, y])) := (s2.trans s3).step hp
            refine ⟨p, _, rfl, SqT.of upd_same, rfl, _, _, rfl, _, _, rfl, rfl, ?_⟩
            refine lcT ⟨_, rfl, _, rfl, u, v, wx.same s4, wy.same s4, s3.step hp, ?_⟩
            rw [List.range_succ, List.map_append, List.map_append, ← lt]
            rfl
          · rintro zs G3 ⟨s3, rfl⟩ D2 hD2
            refine ⟨D2, _, rfl, SqL.of upd_same, ?_⟩
            have e : (xs.drop 1).length = L.length - 1 := by rw [List.length_drop, ll]
            have e2 : ((List.range (xs.drop 1).length).map (ltA L)).all id = srB L := by rw [e]; rfl
            rw [e2]
            exact kk _ ((s2.trans s3).step hD2)
        · have all' : os.all Option.isSome = false := by simpa using all
          have kk : ∀ H', Same H H' → Q (.bl false) H' := fun H' sh => by
            have := k H' sh
            unfold sumOk at this
            rwa [all', Bool.false_and] at this
          rw [all']
          exact iteT (kk _ (s'.step hD))
end
end Qk10

namespace Qk10
open PySem L2 PyProof.Rows
section
variable {P : Program} {w : World} {K : PySem.W.Frag} {mg : Str → Option Value} {base : Heap}
abbrev s__law_is_sum : Stmt := top 13
theorem sc__law_is_sum : FnScope ["_law_thing"] ["_law_thing"] (defScope s__law_is_sum) := ⟨rfl, rfl, rfl, by decide +kernel, rfl, by decide +kernel, by decide +kernel⟩
theorem ok_lisSum {f : Addr} {fd : FuncData} (F : Fun K "_law_is_sum" "_law_is_sum" s__law_is_sum f fd) (h__law_is_word : Has P w K mg base 2 "_law_is_word" ["_law_thing"] spWordA) (b_isinstance : mg "isinstance" = none) (b_list : mg "list" = none) (b_all : mg "all" = none) (b_set : mg "set" = none) (b_sorted : mg "sorted" = none) : FnOk P w K mg base CX0 3 f fd ["_law_thing"] spSumA := by
  refine F.ok sc__law_is_sum (fun vs H Q E h => ?_) (fun cdv A outer s H vs Q E hr h => ?_)
  · obtain ⟨v, b, rfl, _⟩ := h
    rfl
  · obtain ⟨v, b, rfl, th, k⟩ := h
    refine ⟨_, (pss_cons (ps_if (PW.pt (pw_or (pt_not (pt_val (pe_callB (call_isinstK (K := K) rfl) (by rfl) b_isinstance boot_isinstance (pa_cons (pv 0) (pa_cons (pe_bltn (v := .ty "list") (by rfl) b_list boot_list rfl) pa_nil))))) (pw_or1 (pt_not (pt_val (pe_callB (call_allK (K := K) rfl rfl) (by rfl) b_all boot_all (pa_cons (pe_lc (Ls := ["_law_word_here"]) (Fs := []) (fi := []) (LcScope.of (show lcLook ["_law_thing"] (defScope s__law_is_sum) _ [] [] = true by decide +kernel)) rfl (pi_listK (K := K) rfl (pv 0)) (fun cl C s3 H3 ex => ⟨(pg_name (i := 0) (show ((["_law_word_here"] : List Str) ++ ([] : List Str)).Nodup by decide +kernel) rfl (Or.inl rfl)), pts_nil, (pe_has h__law_is_word (hr.mono (by decide)) (pa_cons (pv 0) pa_nil))⟩)) pa_nil))))))) (pss_one (ps_ret pe_bl)) pss_nil)
      (pss_one (ps_ret (pe_cmpR (op_eqWL hr.units) (pe_callB (call_sortedSWK (P := P) (w := w) rfl rfl rfl hr.units) (by rfl) b_sorted boot_sorted (pa_cons (pe_callTy (call_setWK (P := P) (w := w) rfl rfl rfl hr.units) (by rfl) b_set PyProof.Rows.boot_set (pa_cons (pv 0) pa_nil)) pa_nil)) (pv 0) (nomark _))))), ?_⟩
    cases th with
    | non => exact ⟨_, rfl, _, "list", _, false, rfl, .non, by rfl, _, rfl, iteT (iteT (k _ (Same.refl _)))⟩
    | bl b => exact ⟨_, rfl, _, "list", _, false, rfl, .bl b, by rfl, _, rfl, iteT (iteT (k _ (Same.refl _)))⟩
    | int i => exact ⟨_, rfl, _, "list", _, false, rfl, .int i, by rfl, _, rfl, iteT (iteT (k _ (Same.refl _)))⟩
    | str x => exact ⟨_, rfl, _, "list", _, false, rfl, .str x, by rfl, _, rfl, iteT (iteT (k _ (Same.refl _)))⟩
    | tup e => exact ⟨_, rfl, _, "list", _, false, rfl, .tup e, by rfl, _, rfl, iteT (iteT (k _ (Same.refl _)))⟩
    | @lst a xs os ea pp hn =>
      have lx := Paired.length pp
      refine ⟨_, rfl, _, "list", _, true, rfl, .lst ea, by rfl, true, rfl, iteF ?_⟩
      refine ⟨_, rfl, a, rfl, ⟨_, SqL.of ea⟩, lc_list (K := K) (xs := xs) (by rw [sizeLine_eq]; omega) (fun i zs G => Same H G ∧ zs = ((os.take i).map Option.isSome).map V.bl) ⟨Same.refl _, rfl⟩
        (fun i zs G ⟨_, z⟩ => by rw [z, List.length_map, List.length_map, List.length_take]; omega) (fun i zs G ⟨s', _⟩ => SqL.of (s' a _ ea)) ?_ ?_⟩
      · rintro i x zs G hx ⟨s', rfl⟩
        obtain ⟨o, ho, px⟩ := pts_get pp hx
        rw [os_snoc ho]
        dsimp only [gName, tTrue]
        exact iteT ⟨_, rfl, x, o, rfl, px.lk (lk_same s'), fun G' s2 => ⟨s'.trans s2, rfl⟩⟩
      · rintro zs G ⟨s', rfl⟩ D hD
        refine ⟨D, _, rfl, SqL.of upd_same, _, rfl, ?_⟩
        rw [os_all os _ lx]
        by_cases all : os.all Option.isSome = true
        · rw [all]
          refine iteF ?_
          obtain ⟨G1, hG1⟩ : ∃ G1, G1 = upd G D (.lst (((os.take xs.length).map Option.isSome).map V.bl)) := ⟨_, rfl⟩
          rw [← hG1]
          have s1 : Same H G1 := by rw [hG1]; exact s'.step hD
          have wa := words_pts pp all
          obtain ⟨L, hL⟩ : ∃ L, L = os.filterMap id := ⟨_, rfl⟩
          have kk : ∀ H', Same H H' → Q (.bl (srB L)) H' := fun H' sh => by
            have := k H' sh
            unfold sumOk at this
            rwa [all, Bool.true_and, ← hL] at this
          rw [← hL] at wa
          have ll := Words.len wa
          clear hL
          refine ⟨_, rfl, a, xs, L, rfl, s1 a _ ea, wa.same s1, by omega, fun c bs ks hc wk nd mem => ?_⟩
          have lk := Words.len wk
          have lkL : ks.length ≤ L.length := sub_len nd fun x hx => (mem x).mp hx
          rw [List.length_map] at lk
          have s2 : Same G1 (upd G1 c (SetWO P w c bs)) := Same.laid hc
          refine ⟨c, bs, ks, rfl, upd_same, wk.same s2, by omega, fun l zs vs hl pm wz rs => ?_⟩
          have s3 := s2.step (o := .lst zs) hl
          refine ⟨_, rfl, l, a, zs, xs, vs, L, rfl, rfl, upd_same, s3 a _ (s1 a _ ea), wz.same (Same.laid hl), (wa.same s1).same s3, ?_⟩
          rw [sr_dec pm nd mem rs]
          exact kk _ (s1.trans s3)
        · have all' : os.all Option.isSome = false := by simpa using all
          have kk : ∀ H', Same H H' → Q (.bl false) H' := fun H' sh => by
            have := k H' sh
            unfold sumOk at this
            rwa [all', Bool.false_and] at this
          rw [all']
          exact iteT (kk _ (s'.step hD))
end
end Qk10

namespace Qk10
open PySem L2 PyProof.Rows
section
variable {P : Program} {w : World} {K : PySem.W.Frag} {mg : Str → Option Value} {base : Heap}
theorem take_snoc {α : Type} {l : List α} {j : Nat} {x : α} (h : l[j]? = some x) : l.take (j + 1) = l.take j ++ [x] := by rw [List.take_add_one, h]; rfl
/-! ### the law's own sums -/
def spOdd : Sp := fun vs H Q _ => ∃ (a : Addr) (L : WS), vs = [.ref a] ∧ WL H a L ∧ L.length ≤ 2000000 ∧ ∀ (p : Addr) (H' : Hp) (r : WS), H p = none → Same H H' → WL H' p r → IsOdd L r → Q (.ref p) H'
theorem odd_perm {L L' r : WS} (x : IsOdd L r) (p : L.Perm L') : IsOdd L' r := x.par fun w => by rw [p.count_eq]
theorem words_end {H : Hp} : ∀ {f : List V} {y : V} {r : WS}, Words H (f ++ [y]) r → ∃ r0 v, r = r0 ++ [v] ∧ Words H f r0 ∧ Word H y v
  | [], _, _, .cons h .nil => ⟨[], _, rfl, .nil, h⟩
  | _ :: f, _, _, .cons h t => by
    obtain ⟨r0, v, e, a, b⟩ := words_end (f := f) t
    exact ⟨_ :: r0, v, by rw [e]; rfl, .cons h a, b⟩
theorem at_end {f : List V} {y : V} : atI (f ++ [y]) (-1) = some y := by
  unfold atI ixN
  rw [if_neg (by decide), if_pos (by rw [List.length_append]; simp; omega)]
  rw [List.length_append, List.length_singleton, show ((-1 : Int) + ((f.length + 1 : Nat) : Int)).toNat = f.length by omega]
  simp
abbrev s__law_odd : Stmt := top 9
theorem sc__law_odd : FnScope ["_law_words", "_law_found", "_law_word_here"] ["_law_words"] (defScope s__law_odd) := ⟨rfl, rfl, rfl, by decide +kernel, rfl, by decide +kernel, by decide +kernel⟩
theorem ok_odd {f : Addr} {fd : FuncData} (F : Fun K "_law_odd" "_law_odd" s__law_odd f fd) (b_sorted : mg "sorted" = none) : FnOk P w K mg base CX0 1 f fd ["_law_words"] spOdd := by
  refine F.ok sc__law_odd (fun vs H Q E h => ?_) (fun cdv A outer s H vs Q E hr h => ?_)
  · obtain ⟨a, L, rfl, _⟩ := h
    rfl
  · obtain ⟨a, L, rfl, hL, hz, k⟩ := h
    refine ⟨_, (pss_cons (ps_set (i := 1) sc__law_odd.nd rfl (Or.inl rfl) (pe_lst pa_nil))
      (pss_cons (ps_for PassesOwn.never rfl (pi_listK (K := K) rfl (pe_callB (call_sortedWK (K := K) rfl hr.units) (by rfl) b_sorted boot_sorted (pa_cons (pv 0) pa_nil))) (pg_name (i := 2) sc__law_odd.nd rfl (Or.inl rfl)) (pss_one (ps_if (PW.pt (pw_and (pt_cmpR (op_neNilK (K := K) rfl hr.units) (pv 1) (pe_lst pa_nil) (nomark _)) (pw_and1 (pt_cmpR (op_eqW hr.units) (pe_ix (ix_listK (K := K) rfl) (pv 1) (pe_un un_neg pe_int) (fun _ _ => rfl)) (pv 2) (nomark _))))) (pss_one (ps_expr (pe_bm0K (K := K) rfl (pe_bm0 PySem.F.plainAttrs_list PySem.F.slot_list_pop PySem.F.type_list_pop mt_pop (pv 1))))) (pss_one (ps_expr (pe_bmK (K := K) rfl (pe_bm PySem.F.plainAttrs_list PySem.F.slot_list_append PySem.F.type_list_append mt_append (pv 1) (pa_cons (pv 2) pa_nil))))))))
      (pss_one (ps_ret (pv 1))))), ?_⟩
    refine ⟨(by show 0 ≤ sizeLine; decide), fun l hl => ?_⟩
    have s0 : Same H (upd H l (.lst [])) := Same.laid hl
    obtain ⟨xs, ea, wa⟩ := hL.same s0
    refine ⟨_, rfl, a, xs, L, rfl, SqL.of ea, wa, fun p zs vs hp pz pm wz rs => ?_⟩
    obtain ⟨G, hG⟩ : ∃ G, G = upd (upd H l (.lst [])) p (.lst zs) := ⟨_, rfl⟩
    rw [← hG]
    have hpl : p ≠ l := fun z => by rw [z, upd_same] at hp; cases hp
    have sG : Same (upd H l (.lst [])) G := by rw [hG]; exact Same.laid hp
    have ep : G p = some (.lst zs) := by rw [hG]; exact upd_same
    have el : G l = some (.lst []) := sG l _ upd_same
    have wz' := Words.same sG wz
    have lz := Words.len wz
    have lv := pm.length_eq
    have tl : ∀ t, G l ≠ some (.tup t) := fun t z => by rw [el] at z; cases z
    refine ⟨p, rfl, ⟨_, SqL.of ep⟩, for_list (K := K) (a := p) (xs := zs) (fun j σ G' => ∃ (v2 : Option V) (fs : List V) (r : WS), σ = [some (.ref a), some (.ref l), v2] ∧ Frm l G G' ∧ G' l = some (.lst fs) ∧ Words G' fs r ∧ IsOdd (vs.take j) r) ⟨none, [], [], rfl, Frm.refl _ _, el, .nil, odd_nil⟩ (fun j σ G' _ ⟨_, _, _, _, fr, _⟩ => SqL.of (fr p _ ep hpl)) ?_ ?_⟩
    · rintro j x σ G' hx ⟨v2, fs, r, rfl, fr, el', wf, od⟩
      obtain ⟨w, hj, wx⟩ := Words.get wz' hx
      have wx' : Word G' x w := wx.mono (fr.tups tl)
      have lf := Words.len wf
      have ol := od.len
      rw [List.length_take] at ol
      have le : ∀ q ∈ vs.take j, lexLt w q = false := fun q hq => by
        obtain ⟨i, hi, rfl⟩ := List.getElem_of_mem hq
        rw [List.length_take] at hi
        obtain ⟨h2, rfl⟩ := List.getElem?_eq_some_iff.mp hj
        rw [List.getElem_take]
        exact List.pairwise_iff_getElem.mp rs i j (by omega) h2 (by omega)
      have et : vs.take (j + 1) = vs.take j ++ [w] := take_snoc hj
      refine ⟨_, rfl, (by show 0 ≤ sizeLine; decide), fun q hq => ⟨l, q, fs, rfl, rfl, SqL.of (Same.laid hq l _ el'), SqL.of upd_same, _, rfl, ?_⟩⟩
      have s1 : Same G' (upd G' q (.lst [])) := Same.laid hq
      obtain ⟨G1, hG1⟩ : ∃ G1, G1 = upd G' q (.lst []) := ⟨_, rfl⟩
      rw [← hG1] at s1 ⊢
      have el1 := s1 l _ el'
      have fr1 : Frm l G G1 := fr.trans s1.frm
      have nt : ∀ t, G1 l ≠ some (.tup t) := fun t z => by rw [el1] at z; cases z
      rcases List.eq_nil_or_concat fs with rfl | ⟨f0, y, rfl⟩
      · cases wf
        refine iteF (iteF ?_)
        refine ⟨_, rfl, .inl ⟨rfl, _, SqL.of el1⟩, _, rfl, l, _, _, rfl, rfl, el1, by decide, ?_⟩
        refine ⟨_, _, [w], rfl, fr1.trans Frm.upd, upd_same, .cons ?_ .nil, ?_⟩
        · exact (wx'.same s1).mono (Frm.upd.tups nt)
        · rw [et]; exact odd_new od le (by simp)
      · rw [List.concat_eq_append] at *
        obtain ⟨r0, v, rfl, w0, wy⟩ := words_end wf
        rw [show (!(f0 ++ [y]).isEmpty) = true by simp]
        refine iteT ⟨_, rfl, 1, rfl, l, _, _, _, rfl, rfl, SqL.of el1, at_end, _, rfl, v, w, wy.same s1, wx'.same s1, _, rfl, ite2 (fun hp => ?_) (fun hp => ?_)⟩
        · have e : v = w := of_decide_eq_true hp
          subst e
          refine ⟨_, rfl, .inl ⟨rfl, _, SqL.of el1⟩, l, _, y, rfl, rfl, el1, by simp, ?_⟩
          refine ⟨_, _, r0, rfl, fr1.trans Frm.upd, upd_same, ?_, ?_⟩
          · rw [List.dropLast_concat]; exact (w0.same s1).mono (Frm.upd.tups nt)
          · rw [et]; exact odd_same od
        · have e : v ≠ w := fun z => hp (decide_eq_true z)
          refine ⟨_, rfl, .inl ⟨rfl, _, SqL.of el1⟩, _, rfl, l, _, _, rfl, rfl, el1, by rw [sizeLine_eq]; omega, ?_⟩
          refine ⟨_, _, _, rfl, fr1.trans Frm.upd, upd_same, Words.snoc ((wf.same s1).mono (Frm.upd.tups nt)) ((wx'.same s1).mono (Frm.upd.tups nt)), ?_⟩
          rw [et]; exact odd_new od le (by simpa using e)
    · rintro σ G' ⟨v2, fs, r, rfl, fr, el', wf, od⟩
      rw [List.take_of_length_le (by omega)] at od
      refine ⟨_, rfl, k l G' r hl (fun c o e => ?_) ⟨fs, el', wf⟩ (odd_perm od pm)⟩
      exact fr c o (sG c o (s0 c o e)) (ne_of_none e hl)
end
end Qk10

namespace Qk10
open PySem L2 PyProof.Rows
section
variable {P : Program} {w : World} {K : PySem.W.Frag} {mg : Str → Option Value} {base : Heap}
theorem bag_same {H H' : Hp} {b : Addr} (s : Same H H') (x : Bag H b) : Bag H' b := let ⟨g, r, h, e⟩ := x; ⟨g, r, h, s _ _ e⟩
theorem bag_tups {b : Addr} {H H' : Hp} (f : Frm b H H') (x : Bag H b) : ∀ t p, H t = some (.tup p) → H' t = some (.tup p) := f.tups fun p z => by
  obtain ⟨_, _, _, e⟩ := x
  rw [e] at z; cases z
theorem upI_len (n : Nat) : ((upI n).map V.int).length = n := by simp [upI]
theorem upI_at {n j : Nat} (h : j < n) : ((upI n).map V.int)[j]? = some (V.int (j : Int)) := by simp [upI, h]
def spWord : Sp := fun vs H Q _ => ∃ (b na : Addr) (n : Nat) (m : Int), vs = [.ref b, .ref na, .int m] ∧ Bag H b ∧ H na = some (.lst ((upI n).map V.int)) ∧ na ≠ b ∧ 1 ≤ n ∧ n ≤ 30 ∧ 0 ≤ m ∧ m ≤ 8 ∧
  ∀ (p : Addr) (H' : Hp) (w : List Int), H p = none → Bag H' b → Frm b H H' → H' p = some (.tup (w.map V.int)) → (w.length : Int) ≤ m → (∀ k ∈ w, 0 ≤ k) → Q (.ref p) H'
abbrev s__law_word : Stmt := top 10
theorem sc__law_word : FnScope ["_law_bag_here", "_law_names", "_law_most"] ["_law_bag_here", "_law_names", "_law_most"] (defScope s__law_word) := ⟨rfl, rfl, rfl, by decide +kernel, rfl, by decide +kernel, by decide +kernel⟩
theorem ok_word {f : Addr} {fd : FuncData} (F : Fun K "_law_word" "_law_word" s__law_word f fd) (h__law_take : Has P w K mg base 1 "_law_take" ["_law_bag_here", "_law_many"] spTake) (b_range : mg "range" = none) (b_len : mg "len" = none) (b_tuple : mg "tuple" = none) : FnOk P w K mg base CX0 2 f fd ["_law_bag_here", "_law_names", "_law_most"] spWord := by
  refine F.ok sc__law_word (fun vs H Q E h => ?_) (fun cdv A outer s H vs Q E hr h => ?_)
  · obtain ⟨b, na, n, m, rfl, _⟩ := h
    rfl
  · obtain ⟨b, na, n, m, rfl, bg, hn, nb, n1, n2, m0, m1, k⟩ := h
    refine ⟨_, (pss_one (ps_ret (pe_callTy call_tupleL (by rfl) b_tuple boot_tuple (pa_cons (pe_lc (Ls := ["_law_k"]) (Fs := ["_law_names", "_law_bag_here"]) (fi := [1, 0]) (LcScope.of (show lcLook ["_law_bag_here", "_law_names", "_law_most"] (defScope s__law_word) _ ["_law_names", "_law_bag_here"] [1, 0] = true by decide +kernel)) rfl (pi_range1 (by rfl) b_range (pa_cons (pe_has h__law_take (hr.mono (by decide)) (pa_cons (pv 0) (pa_cons (pe_op op_add (pv 2) pe_int) pa_nil))) pa_nil)) (fun cl C s3 H3 ex => ⟨(pg_name (i := 0) (show ((["_law_k"] : List Str) ++ (["_law_names", "_law_bag_here"] : List Str)).Nodup by decide +kernel) rfl (Or.inl rfl)), pts_nil, (pe_ix (ix_listK (K := K) rfl) (pv 1) (pe_has h__law_take (hr.mono (by decide)) (pa_cons (pv 2) (pa_cons (pe_callB (call_lenK (K := K) rfl) (by rfl) b_len PySem.boot_len (pa_cons (pv 1) pa_nil)) pa_nil))) (fun _ _ => rfl))⟩)) pa_nil)))), ?_⟩
    refine ⟨_, rfl, _, rfl, _, _, rfl, rfl, b, _, rfl, bg, by omega, by omega, fun d H1 d0 d1 bg1 f1 => ⟨d, rfl, by omega, by omega, lc_rng (n := d.toNat) (by rw [sizeLine_eq]; omega) (fun i zs G => Frm b H1 G ∧ Bag G b ∧ ∃ w : List Int, zs = w.map V.int ∧ w.length = i ∧ ∀ k ∈ w, 0 ≤ k) ⟨Frm.refl _ _, bg1, [], rfl, rfl, fun k hk => nomatch hk⟩ ?_ ?_ ?_⟩⟩
    · rintro i zs G ⟨_, _, w, rfl, e, _⟩
      rw [List.length_map, e]; exact Nat.le_refl _
    · rintro i zs G hi ⟨fr, bg2, w, rfl, e, wn⟩
      dsimp only [gName, tTrue]
      refine iteT ?_
      have hn1 : G na = some (.lst ((upI n).map V.int)) := fr na _ (f1 na _ hn nb) nb
      have ln := upI_len n
      refine ⟨_, rfl, _, rfl, _, rfl, na, _, rfl, .inl (SqL.of hn1), b, _, rfl, bg2, by omega, by omega, fun t G1 t0 t1 bg3 f3 => ?_⟩
      obtain ⟨j, rfl⟩ := Int.eq_ofNat_of_zero_le t0
      refine ⟨na, _, _, _, rfl, rfl, SqL.of (f3 na _ hn1 nb), atI_nat (upI_at (j := j) (by omega)), fr.trans f3, bg3, w ++ [(j : Int)], by simp, by simp [e], fun k hk => ?_⟩
      rcases List.mem_append.mp hk with hk | hk
      · exact wn k hk
      · rw [List.mem_singleton.mp hk]; exact t0
    · rintro zs G ⟨fr, bg2, w, rfl, e, wn⟩ D hD
      have sD : Same G (upd G D (.lst (w.map V.int))) := Same.laid hD
      refine ⟨D, _, rfl, upd_same, fun l hl => ?_⟩
      have sl : Same (upd G D (.lst (w.map V.int))) (upd (upd G D (.lst (w.map V.int))) l (.tup (w.map V.int))) := Same.laid hl
      have fr2 : Frm b H (upd G D (.lst (w.map V.int))) := (f1.trans fr).trans sD.frm
      exact k l _ w (fr2.free (bag_same sD bg2) hl) (bag_same sl (bag_same sD bg2)) (fr2.trans sl.frm) upd_same (by omega) wn
def spSum : Sp := fun vs H Q _ => ∃ (b na : Addr) (n : Nat) (N m : Int), vs = [.ref b, .ref na, .int N, .int m] ∧ Bag H b ∧ H na = some (.lst ((upI n).map V.int)) ∧ na ≠ b ∧ 1 ≤ n ∧ n ≤ 30 ∧ 0 ≤ N ∧ N ≤ 40 ∧ 0 ≤ m ∧ m ≤ 8 ∧
  ∀ (p : Addr) (H' : Hp) (r : WS), H p = none → Bag H' b → Frm b H H' → WL H' p r → Gd N.toNat m.toNat r → SR r → Q (.ref p) H'
abbrev s__law_sum : Stmt := top 11
theorem sc__law_sum : FnScope ["_law_bag_here", "_law_names", "_law_many", "_law_most"] ["_law_bag_here", "_law_names", "_law_many", "_law_most"] (defScope s__law_sum) := ⟨rfl, rfl, rfl, by decide +kernel, rfl, by decide +kernel, by decide +kernel⟩
theorem ok_sum {f : Addr} {fd : FuncData} (F : Fun K "_law_sum" "_law_sum" s__law_sum f fd) (h__law_take : Has P w K mg base 1 "_law_take" ["_law_bag_here", "_law_many"] spTake) (h__law_word : Has P w K mg base 2 "_law_word" ["_law_bag_here", "_law_names", "_law_most"] spWord) (h__law_odd : Has P w K mg base 1 "_law_odd" ["_law_words"] spOdd) (b_range : mg "range" = none) : FnOk P w K mg base CX0 3 f fd ["_law_bag_here", "_law_names", "_law_many", "_law_most"] spSum := by
  refine F.ok sc__law_sum (fun vs H Q E h => ?_) (fun cdv A outer s H vs Q E hr h => ?_)
  · obtain ⟨b, na, n, N, m, rfl, _⟩ := h
    rfl
  · obtain ⟨b, na, n, N, m, rfl, bg, hn, nb, n1, n2, N0, N1, m0, m1, k⟩ := h
    refine ⟨_, (pss_one (ps_ret (pe_has h__law_odd (hr.mono (by decide)) (pa_cons (pe_lc (Ls := ["_law_k"]) (Fs := ["_law_bag_here", "_law_names", "_law_most"]) (fi := [0, 1, 3]) (LcScope.of (show lcLook ["_law_bag_here", "_law_names", "_law_many", "_law_most"] (defScope s__law_sum) _ ["_law_bag_here", "_law_names", "_law_most"] [0, 1, 3] = true by decide +kernel)) rfl (pi_range1 (by rfl) b_range (pa_cons (pe_has h__law_take (hr.mono (by decide)) (pa_cons (pv 0) (pa_cons (pe_op op_add (pv 2) pe_int) pa_nil))) pa_nil)) (fun cl C s3 H3 ex => ⟨(pg_name (i := 0) (show ((["_law_k"] : List Str) ++ (["_law_bag_here", "_law_names", "_law_most"] : List Str)).Nodup by decide +kernel) rfl (Or.inl rfl)), pts_nil, (pe_has h__law_word (hr.mono (by decide)) (pa_cons (pv 1) (pa_cons (pv 2) (pa_cons (pv 3) pa_nil))))⟩)) pa_nil)))), ?_⟩
    refine ⟨_, rfl, _, rfl, _, _, rfl, rfl, b, _, rfl, bg, by omega, by omega, fun d H1 d0 d1 bg1 f1 => ⟨d, rfl, by omega, by omega, lc_rng (n := d.toNat) (by rw [sizeLine_eq]; omega) (fun i zs G => Frm b H1 G ∧ Bag G b ∧ ∃ L : WS, Words G zs L ∧ L.length = i ∧ Gd i m.toNat L) ⟨Frm.refl _ _, bg1, [], .nil, rfl, gd_nil⟩ ?_ ?_ ?_⟩⟩
    · rintro i zs G ⟨_, _, L, z, e, _⟩
      rw [Words.len z, e]; exact Nat.le_refl _
    · rintro i zs G hi ⟨fr, bg2, L, wz, e, gd⟩
      dsimp only [gName, tTrue]
      refine iteT ?_
      have hn1 : G na = some (.lst ((upI n).map V.int)) := fr na _ (f1 na _ hn nb) nb
      refine ⟨_, rfl, _, rfl, _, rfl, b, na, n, m, rfl, bg2, hn1, nb, n1, n2, m0, m1, fun p G1 w fp bg3 f3 ep lw wn => ?_⟩
      refine ⟨fr.trans f3, bg3, L ++ [w], Words.snoc (wz.mono (bag_tups f3 bg2)) ⟨p, rfl, ep⟩, by simp [e], by simp [e], fun u hu => ?_⟩
      rcases List.mem_append.mp hu with hu | hu
      · exact gd.2 u hu
      · rw [List.mem_singleton.mp hu]; exact ⟨by omega, wn⟩
    · rintro zs G ⟨fr, bg2, L, wz, e, gd⟩ D hD
      have sD : Same G (upd G D (.lst zs)) := Same.laid hD
      have fr2 : Frm b H (upd G D (.lst zs)) := (f1.trans fr).trans sD.frm
      refine ⟨D, L, rfl, ⟨zs, upd_same, wz.same sD⟩, by omega, fun p G' r fp s' wr od => ?_⟩
      exact k p G' r (fr2.free (bag_same sD bg2) fp) (bag_same s' (bag_same sD bg2)) (fr2.trans s'.frm) wr ((od.gd gd).mono (by omega) (Nat.le_refl _)) od.rise
end
end Qk10

namespace Qk10
open PySem L2 PyProof.Rows
section
variable {P : Program} {w : World} {K : PySem.W.Frag} {mg : Str → Option Value} {base : Heap}
theorem lk_put {H : Hp} {f : Addr} {xs ys : List V} (h : H f = some (.lst xs)) : Lk H (upd H f (.lst ys)) := ⟨fun a p e => by rw [upd_ne (ne_of e h (by intro z; cases z))]; exact e, fun a zs e => by
  by_cases z : a = f
  · subst z; exact ⟨ys, upd_same⟩
  · exact ⟨zs, by rw [upd_ne z]; exact e⟩⟩
theorem lk_frm {b : Addr} {H H' : Hp} (s : Frm b H H') (hb : Bag H b) (hb' : Bag H' b) : Lk H H' := ⟨fun a p e => s a _ e (fun z => by
    obtain ⟨g, r, _, q⟩ := hb
    rw [z, q] at e; cases e), fun a xs e => by
  by_cases z : a = b
  · subst z
    obtain ⟨g, r, _, q⟩ := hb'
    exact ⟨_, q⟩
  · exact ⟨xs, s a _ e z⟩⟩
theorem pts_app {H : Hp} : ∀ {xs ys : List V} {os ps : List (Option (List Int))}, Paired (Pt H) xs os → Paired (Pt H) ys ps → Paired (Pt H) (xs ++ ys) (os ++ ps)
  | _, _, _, _, .nil, s => s
  | _, _, _, _, .cons a r, s => .cons a (pts_app r s)
theorem pts_take {H : Hp} : ∀ {xs : List V} {os : List (Option (List Int))} (n : Nat), Paired (Pt H) xs os → Paired (Pt H) (xs.take n) (os.take n)
  | _, _, 0, _ => Paired.nil
  | _, _, n + 1, .nil => Paired.nil
  | _, _, n + 1, .cons a r => .cons a (pts_take n r)
theorem pts_drop {H : Hp} : ∀ {xs : List V} {os : List (Option (List Int))} (n : Nat), Paired (Pt H) xs os → Paired (Pt H) (xs.drop n) (os.drop n)
  | _, _, 0, r => r
  | _, _, n + 1, .nil => .nil
  | _, _, n + 1, .cons a r => pts_drop n r
theorem pts_set {H : Hp} {v : V} {o : Option (List Int)} (h : Pt H v o) : ∀ {xs : List V} {os : List (Option (List Int))} (n : Nat), Paired (Pt H) xs os → Paired (Pt H) (xs.set n v) (os.set n o)
  | _, _, _, .nil => .nil
  | _, _, 0, .cons a r => .cons h r
  | _, _, n + 1, .cons a r => .cons a (pts_set h n r)
theorem frm_put {b f : Addr} {H H' : Hp} {o : HO} (s : Frm b H H') (h : H f = none) : Frm b H (upd H' f o) := fun c u e n => by
  rw [upd_ne (ne_of_none e h)]
  exact s c u e n
theorem bag_put {b f : Addr} {H : Hp} {o : HO} (h : Bag H b) (n : f ≠ b) : Bag (upd H f o) b := by
  obtain ⟨g, r, h0, e⟩ := h
  exact ⟨g, r, h0, by rw [upd_ne (Ne.symm n)]; exact e⟩
theorem bag_laid {H : Hp} {b p : Addr} {o : HO} (h : Bag H b) (hp : H p = none) : Bag (upd H p o) b := bag_same (Same.laid hp) h
theorem bag_ne {H : Hp} {b p : Addr} (h : Bag H b) (hp : H p = none) : p ≠ b := by
  obtain ⟨g, r, h0, e⟩ := h
  exact (ne_of_none e hp).symm
def litN : Lit → Bool
  | .tup ls => decide (ls.length ≤ 1000)
  | _ => true
def litT : Lit → Bool
  | .lst ls => decide (ls.length ≤ 16) && ls.all litN
  | _ => true
theorem rep_pt {H : Hp} {v : V} {l : Lit} (h : RepL H v l) (s : litN l = true) : ∃ o, Pt H v o := by
  cases h with
  | non => exact ⟨_, .non⟩
  | bl b => exact ⟨_, .bl b⟩
  | int i => exact ⟨_, .int i⟩
  | str x => exact ⟨_, .str x⟩
  | lst e r => exact ⟨_, .lst e⟩
  | tup e r =>
    refine ⟨_, .tup e (fun x hx => ?_) (by rw [r.len]; exact of_decide_eq_true s)⟩
    obtain ⟨i, hi, rfl⟩ := List.getElem_of_mem hx
    obtain ⟨l, _, q⟩ := r.get (List.getElem?_eq_getElem hi)
    exact rep_sim q
theorem rep_pts {H : Hp} : ∀ {vs : List V} {ls : List Lit}, RepLs H vs ls → ls.all litN = true → ∃ os, Paired (Pt H) vs os
  | _, _, .nil, _ => ⟨[], .nil⟩
  | _, _, .cons a r, h => by
    rw [List.all_cons, Bool.and_eq_true] at h
    obtain ⟨o, p⟩ := rep_pt a h.1
    obtain ⟨os, q⟩ := rep_pts r h.2
    exact ⟨o :: os, .cons p q⟩
theorem rep_th {H : Hp} {v : V} {l : Lit} (h : RepL H v l) (s : litT l = true) : ∃ b, Th H v b := by
  cases h with
  | non => exact ⟨_, .non⟩
  | bl b => exact ⟨_, .bl b⟩
  | int i => exact ⟨_, .int i⟩
  | str x => exact ⟨_, .str x⟩
  | tup e r => exact ⟨_, .tup e⟩
  | lst e r =>
    rw [litT, Bool.and_eq_true] at s
    obtain ⟨os, q⟩ := rep_pts r s.2
    exact ⟨_, .lst e q (by rw [r.len]; exact of_decide_eq_true s.1)⟩
theorem rep_ths {H : Hp} : ∀ {vs : List V} {ls : List Lit}, RepLs H vs ls → ls.all litT = true → ∃ os, Paired (Th H) vs os
  | _, _, .nil, _ => ⟨[], .nil⟩
  | _, _, .cons a r, h => by
    rw [List.all_cons, Bool.and_eq_true] at h
    obtain ⟨o, p⟩ := rep_th a h.1
    obtain ⟨os, q⟩ := rep_ths r h.2
    exact ⟨o :: os, .cons p q⟩
end
end Qk10

namespace Qk10
open PySem L2 PyProof.Rows
section
variable {P : Program} {w : World} {K : PySem.W.Frag} {mg : Str → Option Value} {base : Heap}
def spSpoilt : Sp := fun vs H Q _ => ∃ (l b : Addr) (L : WS), vs = [.ref l, .ref b] ∧ WL H l L ∧ Gd 8 4 L ∧ Bag H b ∧ l ≠ b ∧
  ∀ (p : Addr) (H' : Hp) (o : Bool), H p = none → Bag H' b → Frm b H H' → Th H' (.ref p) o → Q (.ref p) H'
abbrev s__law_spoilt : Stmt := top 14
theorem sc__law_spoilt : FnScope ["_law_one", "_law_bag_here", "_law_way", "_law_at", "_law_odd_here", "_law_found"] ["_law_one", "_law_bag_here"] (defScope s__law_spoilt) := ⟨rfl, rfl, rfl, by decide +kernel, rfl, by decide +kernel, by decide +kernel⟩
theorem ok_spoilt {f : Addr} {fd : FuncData} (F : Fun K "_law_spoilt" "_law_spoilt" s__law_spoilt f fd) (h__law_take : Has P w K mg base 1 "_law_take" ["_law_bag_here", "_law_many"] spTake) (b_len : mg "len" = none) (b_list : mg "list" = none) (b_tuple : mg "tuple" = none) : FnOk P w K mg base CX0 2 f fd ["_law_one", "_law_bag_here"] spSpoilt := by
  refine F.ok sc__law_spoilt (fun vs H Q E h => ?_) (fun cdv A outer s H vs Q E hr h => ?_)
  · obtain ⟨l, b, L, rfl, _⟩ := h
    rfl
  · obtain ⟨l, b, L, rfl, ⟨xs, hl, hL⟩, gd, hbag, hlb, k⟩ := h
    have hxl := hL.len
    have hlen := gd.1
    refine use_c ⟨_, (pssc_cons (psc_set (i := 2) sc__law_spoilt.nd rfl (Or.inl rfl) (pec_of (pe_has h__law_take (hr.mono (by decide)) (pa_cons (pv 1) (pa_cons pe_int pa_nil)))))
      (pssc_cons (psc_set (i := 3) sc__law_spoilt.nd rfl (Or.inl rfl) (pec_of (pe_has h__law_take (hr.mono (by decide)) (pa_cons (pv 1) (pa_cons (pe_op op_add (pe_callB (call_lenK (K := K) rfl) (by rfl) b_len PySem.boot_len (pa_cons (pv 0) pa_nil)) pe_int) pa_nil)))))
      (pssc_cons (psc_set (i := 4) sc__law_spoilt.nd rfl (Or.inl rfl) (pec_ix (ix_listK (K := K) rfl) (pec_lit (G := fun _ _ => True) (pl_lst (pls_cons keepsT pl_non (pls_cons keepsT pl_int (pls_cons keepsT pl_str (pls_cons keepsT (pl_lst pls_nil) (pls_cons keepsT (pl_lst (pls_cons keepsT pl_int pls_nil se_Constant)) (pls_cons keepsT (pl_tup (pls_cons keepsT pl_neg pls_nil se_UnaryOp)) (pls_cons keepsT (pl_tup (pls_cons keepsT pl_bl pls_nil se_Constant)) (pls_cons keepsT (pl_tup (pls_cons keepsT pl_str pls_nil se_Constant)) (pls_cons keepsT (pl_tup (pls_cons keepsT (pl_tup pls_nil) pls_nil se_Tuple)) (pls_cons keepsT (pl_tup (pls_cons keepsT pl_non (pls_cons keepsT pl_int pls_nil se_Constant) se_Constant)) pls_nil se_Tuple) se_Tuple) se_Tuple) se_Tuple) se_Tuple) se_List) se_List) se_Constant) se_Constant) se_Constant))) (pe_has h__law_take (hr.mono (by decide)) (pa_cons (pv 1) (pa_cons pe_int pa_nil))) (fun _ _ => rfl)))
      (pssc_cons (psc_set (i := 5) sc__law_spoilt.nd rfl (Or.inl rfl) (pec_of (pe_callTy (call_listK (K := K) rfl) (by rfl) b_list boot_list (pa_cons (pv 0) pa_nil))))
      (pssc_cut (ps_if (pt_cmpR op_eq (pv 2) pe_int (nomark _)) (pss_one (ps_asg (pe_lst (pa_cons (pv 4) pa_nil)) (pg_past (pv 5) (po_some (pv 3)) (po_some (pe_op op_add (pv 3) pe_int))))) pss_nil)
      (pssc_cut (ps_if (pt_cmpR op_eq (pv 2) pe_int (nomark _)) (pss_one (ps_expr (pe_bmK (K := K) rfl (pe_bm PySem.F.plainAttrs_list PySem.F.slot_list_insert PySem.F.type_list_insert mt_insert (pv 5) (pa_cons (pv 3) (pa_cons (pv 4) pa_nil)))))) pss_nil)
      (pssc_cut (ps_if (PW.pt (pw_and (pt_cmpR op_eq (pv 2) pe_int (nomark _)) (pw_and1 (pt_cmpR op_lt (pv 3) (pe_callB (call_lenK (K := K) rfl) (by rfl) b_len PySem.boot_len (pa_cons (pv 5) pa_nil)) (nomark _))))) (pss_one (ps_expr (pe_bmK (K := K) rfl (pe_bm PySem.F.plainAttrs_list PySem.F.slot_list_insert PySem.F.type_list_insert mt_insert (pv 5) (pa_cons (pv 3) (pa_cons (pe_ix (ix_listK (K := K) rfl) (pv 5) (pv 3) (fun _ _ => rfl)) pa_nil)))))) pss_nil)
      (pssc_cut (ps_if (PW.pt (pw_and (pt_cmpR op_eq (pv 2) pe_int (nomark _)) (pw_and1 (pt_cmpR op_lt (pe_op op_add (pv 3) pe_int) (pe_callB (call_lenK (K := K) rfl) (by rfl) b_len PySem.boot_len (pa_cons (pv 5) pa_nil)) (nomark _))))) (pss_one (ps_asg (pe_tup (pa_cons (pe_ix (ix_listK (K := K) rfl) (pv 5) (pe_op op_add (pv 3) pe_int) (fun _ _ => rfl)) (pa_cons (pe_ix (ix_listK (K := K) rfl) (pv 5) (pv 3) (fun _ _ => rfl)) pa_nil))) (pg_tupK (K := K) (n := 2) rfl rfl (pgs_cons (pg_sub (pv 5) (pv 3) set_list) (pgs_cons (pg_sub (pv 5) (pe_op op_add (pv 3) pe_int) set_list) pgs_nil))))) pss_nil)
      (pssc_cut (ps_if (pt_cmpR op_eq (pv 2) pe_int (nomark _)) (pss_one (ps_asg (pe_lst pa_nil) (pg_past (pv 5) (po_some (pv 3)) (po_some (pe_op op_add (pv 3) pe_int))))) pss_nil)
      (pssc_cut (ps_if (PW.pt (pw_and (pt_cmpR op_eq (pv 2) pe_int (nomark _)) (pw_and1 (pt_cmpR op_lt (pv 3) (pe_callB (call_lenK (K := K) rfl) (by rfl) b_len PySem.boot_len (pa_cons (pv 5) pa_nil)) (nomark _))))) (pss_one (ps_asg (pe_op op_catA (pe_ix (ix_listK (K := K) rfl) (pv 5) (pv 3) (fun _ _ => rfl)) (pe_tup (pa_cons (pe_ix (ix_listK (K := K) rfl) (pe_lst (pa_cons pe_int (pa_cons (pe_un un_neg pe_int) (pa_cons pe_bl (pa_cons (pe_op op_pow pe_int pe_int) pa_nil))))) (pe_has h__law_take (hr.mono (by decide)) (pa_cons (pv 1) (pa_cons pe_int pa_nil))) (fun _ _ => rfl)) pa_nil))) (pg_sub (pv 5) (pv 3) set_list))) pss_nil)
      (pssc_cut (ps_if (pt_cmpR op_eq (pv 2) pe_int (nomark _)) (pss_one (ps_ret (pe_callTy call_tupleL (by rfl) b_tuple boot_tuple (pa_cons (pv 5) pa_nil)))) pss_nil)
      (pssc_of (pss_one (ps_ret (pv 5))))))))))))))), ?_⟩
    refine ⟨_, rfl, b, 8, rfl, hbag, by decide, by decide, fun wy H1 w0 w1 bg1 f1 => ?_⟩
    have hl1 := f1 l _ hl hlb
    refine ⟨_, rfl, _, rfl, l, _, rfl, .inl (SqL.of hl1), _, _, rfl, rfl, b, _, rfl, bg1, by omega, by omega, fun at' H2 a0 a1 bg2 f2 => ?_⟩
    refine ⟨trivial, fun cv Hc sc rc => ?_⟩
    obtain ⟨c1, us, os1, rfl, hc1, pu, lu⟩ : ∃ (c1 : Addr) (us : List V) (os1 : List (Option (List Int))), cv = .ref c1 ∧ Hc c1 = some (.lst us) ∧ Paired (Pt Hc) us os1 ∧ us.length = 10 := by
      cases rc with
      | lst e r =>
        obtain ⟨os1, q⟩ := rep_pts r (by decide)
        exact ⟨_, _, os1, rfl, e, q, r.len⟩
    have bg3 := bag_same sc bg2
    have nc1 : c1 ≠ b := fun z => by
      obtain ⟨g, r, _, e⟩ := bg3
      rw [z, e] at hc1
      cases hc1
      simp at lu
    refine ⟨_, rfl, b, 10, rfl, bg3, by decide, by decide, fun d3 H3 d30 d31 bg4 f3 => ?_⟩
    have hc3 : H3 c1 = some (.lst us) := f3 c1 _ hc1 nc1
    obtain ⟨dn, rfl⟩ := Int.eq_ofNat_of_zero_le d30
    have hu : us[dn]? = some (us[dn]'(by omega)) := List.getElem?_eq_getElem (by omega)
    generalize us[dn]'(by omega) = ov at hu
    obtain ⟨oo, _, po⟩ := pts_get (pts_lk (lk_frm f3 bg3 bg4) pu) hu
    refine ⟨c1, _, _, _, rfl, rfl, SqL.of hc3, atI_nat hu, ?_⟩
    have fr4 : Frm b H H3 := ((f1.trans f2).trans sc.frm).trans f3
    have hl4 := fr4 l _ hl hlb
    refine ⟨_, rfl, l, _, rfl, .inl (SqL.of hl4), fun fA hfA => ?_⟩
    have bg7 := bag_laid (o := .lst xs) bg4 hfA
    have fr7 : Frm b H (upd H3 fA (.lst xs)) := fr4.new hfA
    have nfb := bag_ne bg4 hfA
    have hfH : H fA = none := fr4.free bg4 hfA
    have po7 : Pt (upd H3 fA (.lst xs)) ov oo := po.lk (lk_same (Same.laid hfA))
    have hL7 : Words (upd H3 fA (.lst xs)) xs L := hL.mono (bag_tups fr7 hbag)
    obtain ⟨an, rfl⟩ := Int.eq_ofNat_of_zero_le a0
    have a1' : an ≤ L.length := by
      have a1 : (an : Int) < (xs.length : Int) + 1 := a1
      omega
    have gd' : ∀ w ∈ L, w.length ≤ 1000 ∧ ∀ k ∈ w, 0 ≤ k := fun w h => ⟨Nat.le_trans (gd.2 w h).1 (by decide), (gd.2 w h).2⟩
    obtain ⟨Iv, hIv⟩ : ∃ Iv : Int → L2.St → Hp → Prop, Iv = fun n σ H' => ∃ (zs : List V) (os : List (Option (List Int))), σ = [some (.ref l), some (.ref b), some (.int wy), some (.int (an : Int)), some ov, some (.ref fA)] ∧ Bag H' b ∧ Frm b H H' ∧ H' fA = some (.lst zs) ∧ Pt H' ov oo ∧ Paired (Pt H') zs os ∧ zs.length ≤ 10 ∧ (n ≤ wy → Words H' zs L) := ⟨_, rfl⟩
    have mk : ∀ (n : Int) (zs : List V) (os : List (Option (List Int))) (H' : Hp), Bag H' b → Frm b H H' → H' fA = some (.lst zs) → Pt H' ov oo → Paired (Pt H') zs os → zs.length ≤ 10 → (n ≤ wy → Words H' zs L) → Iv n [some (.ref l), some (.ref b), some (.int wy), some (.int (an : Int)), some ov, some (.ref fA)] H' := fun n zs os H' a1 a2 a3 a4 a5 a6 a7 => by
      rw [hIv]
      exact ⟨zs, os, rfl, a1, a2, a3, a4, a5, a6, a7⟩
    have un : ∀ (n : Int) (σ : L2.St) (H' : Hp), Iv n σ H' → ∃ (zs : List V) (os : List (Option (List Int))), σ = [some (.ref l), some (.ref b), some (.int wy), some (.int (an : Int)), some ov, some (.ref fA)] ∧ Bag H' b ∧ Frm b H H' ∧ H' fA = some (.lst zs) ∧ Pt H' ov oo ∧ Paired (Pt H') zs os ∧ zs.length ≤ 10 ∧ (n ≤ wy → Words H' zs L) := fun n σ H' h => by
      rw [hIv] at h
      exact h
    have start := mk 0 xs (L.map some) _ bg7 fr7 upd_same po7 (pts_words hL7 gd') (by omega) (fun _ => hL7)
    clear hIv
    generalize upd H3 fA (.lst xs) = H7 at *
    clear bg7 fr7 po7 hL7
    -- 0: put as another thing
    refine ⟨Iv 1, ?_, ?_⟩
    · obtain ⟨zs, os, _, bg, fr, hf, po, th, zl, un0⟩ := un 0 _ _ start
      refine ⟨_, rfl, rfl, _, rfl, ?_⟩
      refine ite2 (fun hc => ?_) (fun hc => ?_)
      · have e : wy = 0 := V.int.inj (of_decide_eq_true hc)
        have zl' := Words.len (un0 (by omega))
        refine ⟨_, rfl, (by show 1 ≤ sizeLine; decide), fun e he => ?_⟩
        have hf' := (Same.laid (o := .lst [ov]) he) fA _ hf
        have nfe : fA ≠ e := ne_of_none hf he
        have lk := (lk_same (Same.laid (o := .lst [ov]) he)).trans (lk_put (ys := zs.take (an : Int).toNat ++ [ov] ++ zs.drop ((an : Int) + 1).toNat) hf')
        refine ⟨_, rfl, _, rfl, _, rfl, _, rfl, _, _, rfl, rfl, _, rfl, fA, e, zs, _, _, _, rfl, rfl, rfl, rfl, hf', upd_same, nfe, by omega, by omega, by omega, Nat.le_of_lt (small1000 (by show _ + 1 ≤ 1000; omega)), ?_⟩
        refine mk 1 _ _ _ (bag_put (bag_laid bg he) nfb) (frm_put (fr.new he) hfH) upd_same (po.lk lk) (pts_app (pts_app (pts_take _ (pts_lk lk th)) (.cons (po.lk lk) .nil)) (pts_drop _ (pts_lk lk th))) ?_ (fun z => absurd z (by omega))
        rw [List.length_append, List.length_append, List.length_take, List.length_drop]
        show _ + 1 + _ ≤ 10
        omega
      · have e : wy ≠ 0 := fun z => hc (decide_eq_true (congrArg V.int z))
        exact mk 1 zs os _ bg fr hf po th zl (fun z => un0 (by omega))
    clear start
    -- 1: put in
    intro σ Ha h1
    obtain ⟨zs, os, rfl, bg, fr, hf, po, th, zl, un0⟩ := un 1 _ _ h1
    clear h1
    refine ⟨Iv 2, ?_, ?_⟩
    · refine ⟨_, rfl, rfl, _, rfl, ?_⟩
      refine ite2 (fun hc => ?_) (fun hc => ?_)
      · have e : wy = 1 := V.int.inj (of_decide_eq_true hc)
        have zl' := Words.len (un0 (by omega))
        refine ⟨_, rfl, .inl ⟨rfl, _, SqL.of hf⟩, _, rfl, _, rfl, fA, zs, _, _, rfl, rfl, hf, by omega, by omega, small1000 (by omega), by omega, ?_⟩
        have lk := lk_put (ys := zs.take (an : Int).toNat ++ ov :: zs.drop (an : Int).toNat) hf
        refine mk 2 _ _ _ (bag_put bg nfb) (frm_put fr hfH) upd_same (po.lk lk) (pts_app (pts_take _ (pts_lk lk th)) (.cons (po.lk lk) (pts_drop _ (pts_lk lk th)))) ?_ (fun z => absurd z (by omega))
        rw [List.length_append, List.length_cons, List.length_take, List.length_drop]
        omega
      · have e : wy ≠ 1 := fun z => hc (decide_eq_true (congrArg V.int z))
        exact mk 2 zs os _ bg fr hf po th zl (fun z => un0 (by omega))
    clear bg fr hf po th zl un0 zs os Ha
    -- 2: twice
    intro σ Ha h1
    obtain ⟨zs, os, rfl, bg, fr, hf, po, th, zl, un0⟩ := un 2 _ _ h1
    clear h1
    refine ⟨Iv 3, ?_, ?_⟩
    · refine ⟨_, rfl, rfl, _, rfl, ?_⟩
      refine ite2 (fun hc => ?_) (fun hc => ?_)
      · have e : wy = 2 := V.int.inj (of_decide_eq_true hc)
        have zl' := Words.len (un0 (by omega))
        refine ⟨_, rfl, _, rfl, fA, _, rfl, .inl (SqL.of hf), _, _, rfl, rfl, _, rfl, ?_⟩
        refine ite2 (fun hc => ?_) (fun hc => ?_)
        · have hlt : (an : Int) < (zs.length : Int) := of_decide_eq_true hc
          have g0 : zs[an]? = some zs[an] := List.getElem?_eq_getElem (by omega)
          obtain ⟨o0, ho0, l0⟩ := pts_get th g0
          refine ⟨_, rfl, .inl ⟨rfl, _, SqL.of hf⟩, _, rfl, _, rfl, _, rfl, fA, _, _, _, rfl, rfl, SqL.of hf, atI_nat g0, fA, zs, _, _, rfl, rfl, hf, by omega, by omega, small1000 (by omega), by omega, ?_⟩
          have lk := lk_put (ys := zs.take (an : Int).toNat ++ zs[an] :: zs.drop (an : Int).toNat) hf
          refine mk 3 _ _ _ (bag_put bg nfb) (frm_put fr hfH) upd_same (po.lk lk) (pts_app (pts_take _ (pts_lk lk th)) (.cons (l0.lk lk) (pts_drop _ (pts_lk lk th)))) ?_ (fun z => absurd z (by omega))
          rw [List.length_append, List.length_cons, List.length_take, List.length_drop]
          omega
        · exact mk 3 zs os _ bg fr hf po th zl (fun z => absurd z (by omega))
      · have e : wy ≠ 2 := fun z => hc (decide_eq_true (congrArg V.int z))
        exact mk 3 zs os _ bg fr hf po th zl (fun z => un0 (by omega))
    clear bg fr hf po th zl un0 zs os Ha
    -- 3: two the other way about
    intro σ Ha h1
    obtain ⟨zs, os, rfl, bg, fr, hf, po, th, zl, un0⟩ := un 3 _ _ h1
    clear h1
    refine ⟨Iv 4, ?_, ?_⟩
    · refine ⟨_, rfl, rfl, _, rfl, ?_⟩
      refine ite2 (fun hc => ?_) (fun hc => ?_)
      · have e : wy = 3 := V.int.inj (of_decide_eq_true hc)
        have zl' := Words.len (un0 (by omega))
        refine ⟨_, rfl, _, _, rfl, rfl, _, rfl, fA, _, rfl, .inl (SqL.of hf), _, _, rfl, rfl, _, rfl, ?_⟩
        refine ite2 (fun hc => ?_) (fun hc => ?_)
        · have hlt : (an : Int) + 1 < (zs.length : Int) := of_decide_eq_true hc
          have ea : ((an : Int) + 1) = ((an + 1 : Nat) : Int) := by omega
          have g0 : zs[an]? = some zs[an] := List.getElem?_eq_getElem (by omega)
          have g1 : zs[an + 1]? = some zs[an + 1] := List.getElem?_eq_getElem (by omega)
          obtain ⟨o0, ho0, l0⟩ := pts_get th g0
          obtain ⟨o1, ho1, l1⟩ := pts_get th g1
          refine ⟨_, rfl, _, rfl, _, _, rfl, rfl, fA, _, _, _, rfl, rfl, SqL.of hf, (by rw [ea]; exact atI_nat g1), _, rfl, _, rfl, fA, _, _, _, rfl, rfl, SqL.of hf, atI_nat g0, (by show 2 ≤ sizeLine; decide), fun tt htt => ?_⟩
          have hf' := (Same.laid (o := .tup [zs[an + 1], zs[an]]) htt) fA _ hf
          refine ⟨tt, _, rfl, SqT.of upd_same, rfl, _, _, rfl, _, rfl, _, rfl, fA, _, _, an, rfl, rfl, hf', ixN_nat (by omega), ?_⟩
          refine ⟨_, _, rfl, _, rfl, _, rfl, _, _, rfl, rfl, fA, _, _, an + 1, rfl, rfl, upd_same, (by rw [List.length_set, ea]; exact ixN_nat (by omega)), rfl, ?_⟩
          rw [upd_upd]
          have lk := (lk_same (Same.laid (o := .tup [zs[an + 1], zs[an]]) htt)).trans (lk_put (ys := (zs.set an zs[an + 1]).set (an + 1) zs[an]) hf')
          refine mk 4 _ _ _ (bag_put (bag_laid bg htt) nfb) (frm_put (fr.new htt) hfH) upd_same (po.lk lk) (pts_set (l0.lk lk) _ (pts_set (l1.lk lk) _ (pts_lk lk th))) ?_ (fun z => absurd z (by omega))
          rw [List.length_set, List.length_set]
          exact zl
        · exact mk 4 zs os _ bg fr hf po th zl (fun z => absurd z (by omega))
      · have e : wy ≠ 3 := fun z => hc (decide_eq_true (congrArg V.int z))
        exact mk 4 zs os _ bg fr hf po th zl (fun z => un0 (by omega))
    clear bg fr hf po th zl un0 zs os Ha
    -- 4: left out
    intro σ Ha h1
    obtain ⟨zs, os, rfl, bg, fr, hf, po, th, zl, un0⟩ := un 4 _ _ h1
    clear h1
    refine ⟨Iv 5, ?_, ?_⟩
    · refine ⟨_, rfl, rfl, _, rfl, ?_⟩
      refine ite2 (fun hc => ?_) (fun hc => ?_)
      · have e : wy = 4 := V.int.inj (of_decide_eq_true hc)
        have zl' := Words.len (un0 (by omega))
        refine ⟨(by show 0 ≤ sizeLine; decide), fun e he => ?_⟩
        have hf' := (Same.laid (o := .lst []) he) fA _ hf
        have nfe : fA ≠ e := ne_of_none hf he
        have lk := (lk_same (Same.laid (o := .lst []) he)).trans (lk_put (ys := zs.take (an : Int).toNat ++ [] ++ zs.drop ((an : Int) + 1).toNat) hf')
        refine ⟨_, rfl, _, rfl, _, rfl, _, rfl, _, _, rfl, rfl, _, rfl, fA, e, zs, [], _, _, rfl, rfl, rfl, rfl, hf', upd_same, nfe, by omega, by omega, by omega, Nat.le_of_lt (small1000 (by show _ + 0 ≤ 1000; omega)), ?_⟩
        refine mk 5 _ _ _ (bag_put (bag_laid bg he) nfb) (frm_put (fr.new he) hfH) upd_same (po.lk lk) (pts_app (pts_app (pts_take _ (pts_lk lk th)) .nil) (pts_drop _ (pts_lk lk th))) ?_ (fun z => absurd z (by omega))
        rw [List.length_append, List.length_append, List.length_take, List.length_drop]
        show _ + 0 + _ ≤ 10
        omega
      · have e : wy ≠ 4 := fun z => hc (decide_eq_true (congrArg V.int z))
        exact mk 5 zs os _ bg fr hf po th zl (fun z => un0 (by omega))
    clear bg fr hf po th zl un0 zs os Ha
    -- 5: one name more
    intro σ Ha h1
    obtain ⟨zs, os, rfl, bg, fr, hf, po, th, zl, un0⟩ := un 5 _ _ h1
    clear h1
    refine ⟨Iv 6, ?_, ?_⟩
    · refine ⟨_, rfl, rfl, _, rfl, ?_⟩
      refine ite2 (fun hc => ?_) (fun hc => ?_)
      · have e : wy = 5 := V.int.inj (of_decide_eq_true hc)
        have hW := un0 (by omega)
        have zl' := Words.len hW
        refine ⟨_, rfl, _, rfl, fA, _, rfl, .inl (SqL.of hf), _, _, rfl, rfl, _, rfl, ?_⟩
        refine ite2 (fun hc => ?_) (fun hc => ?_)
        · have hlt : (an : Int) < (zs.length : Int) := of_decide_eq_true hc
          have g0 : zs[an]? = some zs[an] := List.getElem?_eq_getElem (by omega)
          obtain ⟨q, hq, ta, ez, hta⟩ := Words.get hW g0
          have g0' : zs[an]? = some (V.ref ta) := g0.trans (congrArg some ez)
          have lq := (gd.2 q (List.mem_of_getElem? hq)).1
          refine ⟨_, rfl, _, rfl, fA, _, _, _, rfl, rfl, SqL.of hf, atI_nat g0', ?_⟩
          refine ⟨1, rfl, _, _, rfl, rfl, ⟨by decide, by decide, by decide⟩, (by show 4 ≤ sizeLine; decide), fun c hc => ?_⟩
          have bgc := bag_laid (o := .lst [.int 0, .int (-1), .bl false, .int (10 ^ (59 : Int).toNat)]) bg hc
          have ncb := bag_ne bg hc
          refine ⟨_, rfl, b, 4, rfl, bgc, by decide, by decide, fun d5 H5 d50 d51 bg5 f5 => ?_⟩
          have hc5 : H5 c = some (.lst [.int 0, .int (-1), .bl false, .int (10 ^ (59 : Int).toNat)]) := f5 c _ upd_same ncb
          obtain ⟨pm, hpm, spm⟩ : ∃ pm : V, atI [V.int 0, V.int (-1), V.bl false, V.int (10 ^ (59 : Int).toNat)] d5 = some pm ∧ ∀ G : Hp, Sim G pm := by
            have : d5 = 0 ∨ d5 = 1 ∨ d5 = 2 ∨ d5 = 3 := by omega
            rcases this with z | z | z | z <;> subst z
            · exact ⟨_, atI_nat (j := 0) rfl, fun G => .int _⟩
            · exact ⟨_, atI_nat (j := 1) rfl, fun G => .int _⟩
            · exact ⟨_, atI_nat (j := 2) rfl, fun G => .bl _⟩
            · exact ⟨_, atI_nat (j := 3) rfl, fun G => .int _⟩
          refine ⟨c, _, _, _, rfl, rfl, SqL.of hc5, hpm, (by show 1 ≤ sizeLine; decide), fun p3 hp3 => ?_⟩
          have lk5 : Lk Ha H5 := (lk_same (Same.laid hc)).trans (lk_frm f5 bgc bg5)
          have hf5 : H5 fA = some (.lst zs) := f5 fA _ ((Same.laid hc) fA _ hf) nfb
          have bgp := bag_laid (o := .tup [pm]) bg5 hp3
          have s3 : Same H5 (upd H5 p3 (.tup [pm])) := Same.laid hp3
          have e3 : upd H5 p3 (.tup [pm]) p3 = some (.tup [pm]) := upd_same
          have hta3 := s3 _ _ (lk5.tup _ _ hta)
          have frp : Frm b H (upd H5 p3 (.tup [pm])) := ((fr.new hc).trans f5).new hp3
          generalize upd H5 p3 (.tup [pm]) = H6 at *
          have fin : ∀ (tt : Addr) (G : Hp), Same H6 G → G tt = some (.tup (q.map V.int ++ [pm])) → Iv 6 [some (.ref l), some (.ref b), some (.int wy), some (.int (an : Int)), some ov, some (.ref fA)] (upd G fA (.lst (zs.set an (.ref tt)))) := fun tt G sG et => by
            have hf' := sG fA _ (s3 fA _ hf5)
            have lk2 := lk_put (ys := zs.set an (.ref tt)) hf'
            have lk := ((lk5.trans (lk_same s3)).trans (lk_same sG)).trans lk2
            refine mk 6 _ _ _ (bag_put (bag_same sG bgp) nfb) (frm_put (frp.trans sG.frm) hfH) upd_same (po.lk lk) (pts_set (.tup (lk2.tup _ _ et) (fun x hx => ?_) ?_) _ (pts_lk lk th)) ?_ (fun z => absurd z (by omega))
            · rcases List.mem_append.mp hx with z | z
              · obtain ⟨t, _, rfl⟩ := List.mem_map.mp z
                exact .int t
              · rw [List.mem_singleton.mp z]; exact spm _
            · rw [List.length_append, List.length_map]
              show _ + 1 ≤ 1000
              omega
            · rw [List.length_set]; exact zl
          have st : ∀ (tt : Addr) (G : Hp), Same H6 G → G fA = some (.lst zs) := fun tt G sG => sG fA _ (s3 fA _ hf5)
          refine ⟨ta, p3, _, _, rfl, rfl, hta3, e3, ?_, ?_, ?_, ?_⟩
          · rw [List.length_map]
            exact Nat.le_of_lt (small1000 (by show _ + 1 ≤ 1000; omega))
          · intro z
            have eq : q = [] := List.map_eq_nil_iff.mp z
            refine ⟨_, rfl, _, rfl, fA, _, _, an, rfl, rfl, st p3 _ (Same.refl _), ixN_nat (by omega), ?_⟩
            exact fin p3 _ (Same.refl _) (by rw [eq]; exact e3)
          · intro z; cases z
          · intro p4 hp4
            refine ⟨_, rfl, _, rfl, fA, _, _, an, rfl, rfl, st p4 _ (Same.laid hp4), ixN_nat (by omega), ?_⟩
            exact fin p4 _ (Same.laid hp4) upd_same
        · exact mk 6 zs os _ bg fr hf po th zl (fun z => absurd z (by omega))
      · have e : wy ≠ 5 := fun z => hc (decide_eq_true (congrArg V.int z))
        exact mk 6 zs os _ bg fr hf po th zl (fun z => un0 (by omega))
    clear bg fr hf po th zl un0 zs os Ha
    -- 6: as a tuple
    intro σ Ha h1
    obtain ⟨zs, os, rfl, bg, fr, hf, po, th, zl, un0⟩ := un 6 _ _ h1
    clear h1
    refine ⟨Iv 7, ?_, ?_⟩
    · refine ⟨_, rfl, rfl, _, rfl, ?_⟩
      refine ite2 (fun hc => ?_) (fun hc => ?_)
      · refine ⟨_, rfl, fA, _, rfl, hf, fun t ht => ?_⟩
        exact k t _ _ (fr.free bg ht) (bag_laid bg ht) (fr.new ht) (.tup upd_same)
      · have e : wy ≠ 6 := fun z => hc (decide_eq_true (congrArg V.int z))
        exact mk 7 zs os _ bg fr hf po th zl (fun z => un0 (by omega))
    clear bg fr hf po th zl un0 zs os Ha
    intro σ Ha h1
    obtain ⟨zs, os, rfl, bg, fr, hf, po, th, zl, un0⟩ := un 7 _ _ h1
    exact ⟨_, rfl, k fA Ha _ hfH bg fr (.lst hf th (by omega))⟩
end
end Qk10

namespace Qk10
open PySem L2 PyProof.Rows
section
variable {P : Program} {w : World} {K : PySem.W.Frag} {mg : Str → Option Value} {base : Heap}
theorem sumOk_some {L : WS} (h : SR L) : sumOk (L.map some) = true := by
  unfold sumOk
  have e : (L.map some).filterMap id = L := by rw [List.filterMap_map]; simp
  rw [e, (srB_iff L).mpr h, Bool.and_true, List.all_map]
  simp
theorem eqv_pt {H G : Hp} {x : V} {o : Option (List Int)} (h : Pt H x o) : Eqv K G 60 x x := by
  cases h with
  | non => exact .flat rfl
  | bl b => exact .flat rfl
  | int i => exact .flat rfl
  | str s => exact .flat rfl
  | lst e => exact .same
  | tup e s n => exact .same
theorem ths_get {H : Hp} : ∀ {xs : List V} {os : List Bool} {i : Nat} {x : V}, Paired (Th H) xs os → xs[i]? = some x → ∃ o, os[i]? = some o ∧ Th H x o
  | _, _, _, _, .nil, e => by simp at e
  | _, _, 0, _, .cons a _, e => by simp at e; subst e; exact ⟨_, rfl, a⟩
  | _, _, i + 1, x, .cons _ r, e => by
    obtain ⟨o, h1, h2⟩ := ths_get (i := i) (x := x) r (by simpa using e)
    exact ⟨o, by simpa using h1, h2⟩
theorem bs_snoc {os : List Bool} {i : Nat} {o : Bool} (h : os[i]? = some o) : (os.take (i + 1)).map V.bl = (os.take i).map V.bl ++ [V.bl o] := by rw [List.take_add_one, h, List.map_append]; rfl
def spLaw (K : PySem.W.Frag) : Sp := fun vs H Q _ => ∃ (a : Addr) (ns : List Int), vs = [.ref a] ∧ SqL K H a (ns.map V.int) ∧ ns.length ≤ 63 ∧ ∀ H', Q (.bl true) H'
abbrev s_law : Stmt := top 15
theorem sc_law : FnScope ["_law_script", "_law_names", "_law_at", "_law_bag_here", "_law_one", "_law_thing", "_law_told", "_law_handed", "_law_things"] ["_law_script"] (defScope s_law) := ⟨rfl, rfl, rfl, by decide +kernel, rfl, by decide +kernel, by decide +kernel⟩
theorem ok_law {f : Addr} {fd : FuncData} (F : Fun K "law" "law" s_law f fd) (h__law_bag : Has P w K mg base 1 "_law_bag" ["_law_script", "_law_at"] (spBag K)) (h__law_sum : Has P w K mg base 3 "_law_sum" ["_law_bag_here", "_law_names", "_law_many", "_law_most"] spSum)
    (h__law_spoilt : Has P w K mg base 2 "_law_spoilt" ["_law_one", "_law_bag_here"] spSpoilt) (h_is_sum : Has P w K mg base 3 "is_sum" ["thing"] spSumA) (h__law_is_sum : Has P w K mg base 3 "_law_is_sum" ["_law_thing"] spSumA)
    (b_range : mg "range" = none) (b_len : mg "len" = none) (b_max : mg "max" = none) (b_min : mg "min" = none) (b_list : mg "list" = none) (b_isinstance : mg "isinstance" = none) (b_bool : mg "bool" = none) : FnOk P w K mg base CX0 4 f fd ["_law_script"] (spLaw K) := by
  refine F.ok sc_law (fun vs H Q E h => ?_) (fun cdv A outer s H vs Q E hr h => ?_)
  · obtain ⟨a, ns, rfl, _⟩ := h
    rfl
  · obtain ⟨a, ns, rfl, hS, hlen, k⟩ := h
    refine use_c ⟨_, (pssc_cons (psc_set (i := 1) sc_law.nd rfl (Or.inl rfl) (pec_of (pe_callTy (call_listR rfl) (by rfl) b_list boot_list (pa_cons (pe_callTy call_range1 (by rfl) b_range boot_range (pa_cons pe_int pa_nil)) pa_nil))))
      (pssc_cons (psc_of (ps_for PassesOwn.never rfl (pi_range1 (by rfl) b_range (pa_cons (pe_callB (call_max2 rfl) (by rfl) b_max boot_max (pa_cons pe_int (pa_cons (pe_callB (call_min2 rfl) (by rfl) b_min boot_min (pa_cons (pe_callB (call_lenK (K := K) rfl) (by rfl) b_len PySem.boot_len (pa_cons (pv 0) pa_nil)) (pa_cons pe_int pa_nil))) pa_nil))) pa_nil)) (pg_name (i := 2) sc_law.nd rfl (Or.inl rfl)) (pss_cons (ps_set (i := 3) sc_law.nd rfl (Or.inl rfl) (pe_has h__law_bag (hr.mono (by decide)) (pa_cons (pv 0) (pa_cons (pv 2) pa_nil))))
      (pss_cons (ps_set (i := 4) sc_law.nd rfl (Or.inl rfl) (pe_has h__law_sum (hr.mono (by decide)) (pa_cons (pv 3) (pa_cons (pv 1) (pa_cons pe_int (pa_cons pe_int pa_nil))))))
      (pss_cons (ps_if (pt_cmpR op_isnot_bl (pe_has h_is_sum (hr.mono (by decide)) (pa_cons (pv 4) pa_nil)) pe_bl (nomark _)) (pss_one (ps_ret pe_bl)) pss_nil)
      (pss_cons (ps_set (i := 5) sc_law.nd rfl (Or.inl rfl) (pe_has h__law_spoilt (hr.mono (by decide)) (pa_cons (pv 4) (pa_cons (pv 3) pa_nil))))
      (pss_cons (ps_set (i := 6) sc_law.nd rfl (Or.inl rfl) (pe_has h_is_sum (hr.mono (by decide)) (pa_cons (pv 5) pa_nil)))
      (pss_cons (ps_if (PW.pt (pw_or (pt_not (pt_val (pe_callB (call_isinstK (K := K) rfl) (by rfl) b_isinstance boot_isinstance (pa_cons (pv 6) (pa_cons (pe_bltn (v := .ty "bool") (by rfl) b_bool boot_bool rfl) pa_nil))))) (pw_or1 (pt_cmpR op_ne (pv 6) (pe_has h__law_is_sum (hr.mono (by decide)) (pa_cons (pv 5) pa_nil)) (nomark _))))) (pss_one (ps_ret pe_bl)) pss_nil)
      (pss_one (ps_if (pt_val (pe_callB (call_isinstK (K := K) rfl) (by rfl) b_isinstance boot_isinstance (pa_cons (pv 5) (pa_cons (pe_bltn (v := .ty "list") (by rfl) b_list boot_list rfl) pa_nil)))) (pss_cons (ps_set (i := 7) sc_law.nd rfl (Or.inl rfl) (pe_callTy (call_listK (K := K) rfl) (by rfl) b_list boot_list (pa_cons (pv 5) pa_nil)))
      (pss_one (ps_if (PW.pt (pw_or (pt_cmpR op_ne (pe_has h_is_sum (hr.mono (by decide)) (pa_cons (pv 7) pa_nil)) (pv 6) (nomark _)) (pw_or1 (pt_cmpR (op_nevK (K := K) rfl hr.units) (pv 7) (pv 5) (nomark _))))) (pss_one (ps_ret pe_bl)) pss_nil))) pss_nil))))))))))
      (pssc_cons (psc_set (i := 8) sc_law.nd rfl (Or.inl rfl) (pec_lit (G := fun _ _ => True) (pl_lst (pls_cons keepsT pl_non (pls_cons keepsT pl_int (pls_cons keepsT pl_bl (pls_cons keepsT pl_str (pls_cons keepsT (pl_tup pls_nil) (pls_cons keepsT (pl_lst (pls_cons keepsT (pl_lst pls_nil) pls_nil se_List)) (pls_cons keepsT (pl_lst (pls_cons keepsT (pl_tup pls_nil) pls_nil se_Tuple)) (pls_cons keepsT (pl_lst pls_nil) (pls_cons keepsT (pl_lst (pls_cons keepsT (pl_tup (pls_cons keepsT pl_int pls_nil se_Constant)) (pls_cons keepsT (pl_tup (pls_cons keepsT pl_int pls_nil se_Constant)) pls_nil se_Tuple) se_Tuple)) (pls_cons keepsT (pl_lst (pls_cons keepsT (pl_tup (pls_cons keepsT pl_int pls_nil se_Constant)) (pls_cons keepsT (pl_tup (pls_cons keepsT pl_int pls_nil se_Constant)) pls_nil se_Tuple) se_Tuple)) (pls_cons keepsT (pl_lst (pls_cons keepsT (pl_tup (pls_cons keepsT pl_int pls_nil se_Constant)) (pls_cons keepsT (pl_tup pls_nil) pls_nil se_Tuple) se_Tuple)) (pls_cons keepsT (pl_lst (pls_cons keepsT (pl_tup pls_nil) (pls_cons keepsT (pl_tup (pls_cons keepsT pl_int pls_nil se_Constant)) pls_nil se_Tuple) se_Tuple)) pls_nil se_List) se_List) se_List) se_List) se_List) se_List) se_List) se_Tuple) se_Constant) se_Constant) se_Constant) se_Constant))))
      (pssc_of (pss_one (ps_ret (pe_cmpR (op_eqvK (K := K) rfl hr.units) (pe_lc (Ls := ["_law_thing"]) (Fs := []) (fi := []) (LcScope.of (show lcLook ["_law_script", "_law_names", "_law_at", "_law_bag_here", "_law_one", "_law_thing", "_law_told", "_law_handed", "_law_things"] (defScope s_law) _ [] [] = true by decide +kernel)) rfl (pi_listK (K := K) rfl (pv 8)) (fun cl C s3 H3 ex => ⟨(pg_name (i := 0) (show ((["_law_thing"] : List Str) ++ ([] : List Str)).Nodup by decide +kernel) rfl (Or.inl rfl)), pts_nil, (pe_has h_is_sum (hr.mono (by decide)) (pa_cons (pv 0) pa_nil))⟩)) (pe_lc (Ls := ["_law_thing"]) (Fs := []) (fi := []) (LcScope.of (show lcLook ["_law_script", "_law_names", "_law_at", "_law_bag_here", "_law_one", "_law_thing", "_law_told", "_law_handed", "_law_things"] (defScope s_law) _ [] [] = true by decide +kernel)) rfl (pi_listK (K := K) rfl (pv 8)) (fun cl C s3 H3 ex => ⟨(pg_name (i := 0) (show ((["_law_thing"] : List Str) ++ ([] : List Str)).Nodup by decide +kernel) rfl (Or.inl rfl)), pts_nil, (pe_has h__law_is_sum (hr.mono (by decide)) (pa_cons (pv 0) pa_nil))⟩)) (nomark _)))))))), ?_⟩
    refine ⟨_, rfl, fun rg frg => ⟨rg, 30, rfl, (by rw [upd_same]; rfl), by decide, fun na fna => ?_⟩⟩
    obtain ⟨H0, hH0⟩ : ∃ H0, H0 = upd (upd H rg (.rng 0 30)) na (.lst ((upI 30).map V.int)) := ⟨_, rfl⟩
    rw [← hH0]
    have s0 : Same H H0 := by rw [hH0]; exact (Same.laid frg).step fna
    have ena : H0 na = some (.lst ((upI 30).map V.int)) := by rw [hH0]; exact upd_same
    clear hH0
    refine ⟨_, rfl, a, _, rfl, .inl (s0.seq hS), _, _, rfl, _, _, rfl, _, rfl, ?_, ?_, for_range (fun i σ H' => ∃ v2 v3 v4 v5 v6 v7 : Option V, σ = [some (.ref a), some (.ref na), v2, v3, v4, v5, v6, v7, none] ∧ Same H0 H') ⟨none, none, none, none, none, none, rfl, Same.refl _⟩ ?_ ?_⟩
    · split <;> (try split) <;> omega
    · rw [List.length_map]
      split <;> (try split) <;> omega
    · rintro i σ H' hi ⟨v2, v3, v4, v5, v6, v7, rfl, sm⟩
      have hi' : i < 1000 := by
        rw [List.length_map] at hi
        revert hi
        split <;> (try split) <;> omega
      refine ⟨_, rfl, _, rfl, a, _, ns, rfl, sm.seq (s0.seq hS), by omega, by omega, fun b H1 hb s1 bg1 => ?_⟩
      have ena1 := s1 _ _ (sm _ _ ena)
      have nb : na ≠ b := ne_of_none (sm _ _ ena) hb
      refine ⟨_, rfl, _, rfl, b, na, 30, 8, 4, rfl, bg1, ena1, nb, by decide, by decide, by decide, by decide, by decide, by decide, fun o1 H2 L fo1 bg2 f2 wl gd sr => ?_⟩
      have n1 : o1 ≠ b := bag_ne bg1 fo1
      have keep : ∀ {G : Hp}, Frm b H1 G → Same H' G := fun f c o e => f c o (s1 c o e) (ne_of_none e hb)
      have th1 : Th H2 (.ref o1) true := by
        rw [← sumOk_some sr]
        obtain ⟨xs, ex, wx⟩ := wl
        have := gd.1
        have lx := Words.len wx
        exact .lst ex (pts_words wx fun w hw => ⟨Nat.le_trans (gd.2 w hw).1 (by decide), (gd.2 w hw).2⟩) (by rw [lx]; exact Nat.le_trans this (by decide))
      refine ⟨_, rfl, .ref o1, true, rfl, th1, fun H3 s3 => ?_⟩
      refine ⟨true, true, rfl, rfl, _, rfl, iteF ?_⟩
      refine ⟨_, rfl, _, rfl, o1, b, L, rfl, wl.same s3, gd, bag_same s3 bg2, n1, fun p H4 o fp bg4 f4 th4 => ?_⟩
      refine ⟨_, rfl, .ref p, o, rfl, th4, fun H5 s5 => ?_⟩
      refine ⟨_, rfl, _, "bool", _, true, rfl, .bl _, by rfl, _, rfl, iteF ?_⟩
      refine ⟨_, rfl, _, rfl, .ref p, o, rfl, th4.same s5, fun H6 s6 => ⟨rfl, _, rfl, iteNS rfl ?_⟩⟩
      have s46 := s5.trans s6
      have sk : Same H0 H6 := sm.trans (keep (((f2.trans s3.frm).trans f4).trans s46.frm))
      cases th4 with
      | tup e => exact ⟨_, rfl, _, "list", _, false, rfl, .tup (s46 _ _ e), by rfl, _, rfl, iteF ⟨_, _, _, _, _, _, rfl, sk⟩⟩
      | @lst _ xs os e pp hn =>
        refine ⟨_, rfl, _, "list", _, true, rfl, .lst (s46 _ _ e), by rfl, _, rfl, iteT ?_⟩
        refine ⟨_, rfl, p, xs, rfl, .inl (SqL.of (s46 _ _ e)), fun q hq => ?_⟩
        have s7 := s46.step (o := .lst xs) hq
        refine ⟨_, rfl, .ref q, _, rfl, .lst upd_same (pts_lk (lk_same s7) pp) hn, fun H8 s8 => ?_⟩
        refine ⟨_, rfl, rfl, _, rfl, iteNS rfl ?_⟩
        refine ⟨_, rfl, _, rfl, q, p, xs, xs, rfl, rfl, SqL.of (s8 _ _ upd_same), SqL.of (s8 _ _ (s7 _ _ e)), rfl, fun j x y ex ey => ?_, _, rfl, iteF ?_⟩
        · rw [ex] at ey
          cases ey
          obtain ⟨o', _, px⟩ := pts_get pp ex
          exact eqv_pt px
        · exact ⟨_, _, _, _, _, _, rfl, (sk.step hq).trans s8⟩
    · rintro σ H' ⟨v2, v3, v4, v5, v6, v7, rfl, sm⟩
      refine ⟨trivial, fun v Ha sa ra => ?_⟩
      obtain ⟨D, vs, bs, rfl, eD, pb, lv⟩ : ∃ (D : Addr) (vs : List V) (bs : List Bool), v = .ref D ∧ Ha D = some (.lst vs) ∧ Paired (Th Ha) vs bs ∧ vs.length = 12 := by
        cases ra with
        | lst e r =>
          obtain ⟨bs, q⟩ := rep_ths r (by decide)
          exact ⟨_, _, bs, rfl, e, q, r.len⟩
      have lb := Paired.length pb
      refine ⟨_, rfl, D, rfl, ⟨_, SqL.of eD⟩, lc_list (K := K) (a := D) (xs := vs) (Nat.le_of_lt (small1000 (by omega))) (fun i zs G => Same Ha G ∧ zs = (bs.take i).map V.bl) ⟨Same.refl _, rfl⟩ (fun i zs G p => by rw [p.2, List.length_map, List.length_take]; omega) (fun i zs G p => SqL.of (p.1 D _ eD)) (fun i x zs G hx p => ?_) (fun zs G p D1 hD1 => ?_)⟩
      · obtain ⟨sG, rfl⟩ := p
        obtain ⟨o, ho, th⟩ := ths_get pb hx
        rw [bs_snoc ho]
        exact lcG ⟨_, rfl, x, o, rfl, th.same sG, fun G' s2 => ⟨sG.trans s2, rfl⟩⟩
      obtain ⟨sG, rfl⟩ := p
      rw [List.take_of_length_le (by omega)]
      have e1 : upd G D1 (.lst (bs.map V.bl)) D1 = some (.lst (bs.map V.bl)) := upd_same
      have sG1 : Same Ha (upd G D1 (.lst (bs.map V.bl))) := sG.step hD1
      generalize upd G D1 (.lst (bs.map V.bl)) = G1 at *
      refine ⟨_, rfl, D, rfl, ⟨_, SqL.of (sG1 _ _ eD)⟩, lc_list (K := K) (a := D) (xs := vs) (Nat.le_of_lt (small1000 (by omega))) (fun i zs G => Same G1 G ∧ zs = (bs.take i).map V.bl) ⟨Same.refl _, rfl⟩ (fun i zs G p => by rw [p.2, List.length_map, List.length_take]; omega) (fun i zs G p => SqL.of (p.1 D _ (sG1 _ _ eD))) (fun i x zs G hx p => ?_) (fun zs G p D2 hD2 => ?_)⟩
      · obtain ⟨sG2, rfl⟩ := p
        obtain ⟨o, ho, th⟩ := ths_get pb hx
        rw [bs_snoc ho]
        exact lcG ⟨_, rfl, x, o, rfl, th.same (sG1.trans sG2), fun G' s2 => ⟨sG2.trans s2, rfl⟩⟩
      obtain ⟨sG2, rfl⟩ := p
      rw [List.take_of_length_le (by omega)]
      refine ⟨D1, D2, _, _, rfl, rfl, SqL.of ((sG2.step hD2) _ _ e1), SqL.of upd_same, rfl, fun j x y ex ey => ?_, k _⟩
      rw [ex] at ey
      cases ey
      obtain ⟨o, _, rfl⟩ := List.mem_map.mp (List.mem_of_getElem? ex)
      exact .flat rfl
end
end Qk10

namespace Qk10
open PySem L2 PyProof.Rows
section
variable {P : Program} {w : World} {K : PySem.W.Frag} {mg : Str → Option Value} {base : Heap}
end
/-! ### what the top has written -/
theorem has_mk {P : Program} {w : World} {K : PySem.W.Frag} {mg : Str → Option Value} {base : Heap} {k : Nat} {x : Str} {ps : List Str} {sp : Sp} {f : Addr} {fd : FuncData} (G : FnOk P w K mg base CX0 k f fd ps sp) (m : mg x = some (.ref f)) (kp : PySem.W.keepIn K (.ref f) = true) (b : Binds K fd ps []) : Has P w K mg base k x ps sp := ⟨f, fd, G, m, kp, b⟩
section
end
end Qk10

namespace Qk10
open PySem L2 PyProof.Rows
section
variable {P : Program} {w : World} {K : PySem.W.Frag} {mg : Str → Option Value} {base : Heap}
theorem all_mk {l : PySem.W.OpenLaw} {w : World} {K : PySem.W.Frag} {h : Heap} {mg : Str → Option Value} {fa : Addr} (X : K.In h) (G : h.Ns mainGlobals mg) (hfa : mg "law" = some (.ref fa))
    {f0 f1 f2 f3 f4 f5 f6 f7 f8 f9 f10 f11 f12 : Addr} {d0 d1 d2 d3 d4 d5 d6 d7 d8 d9 d10 d11 d12 : FuncData}
    (a0 : PySem.W.nsIn K mainGlobals "is_whole" = some (some (.ref f0))) (l0 : Fun K "is_whole" "is_whole" s_is_whole f0 d0)
    (a1 : PySem.W.nsIn K mainGlobals "is_word" = some (some (.ref f1))) (l1 : Fun K "is_word" "is_word" s_is_word f1 d1)
    (a2 : PySem.W.nsIn K mainGlobals "is_sum" = some (some (.ref f2))) (l2 : Fun K "is_sum" "is_sum" s_is_sum f2 d2)
    (a3 : PySem.W.nsIn K mainGlobals "_law_bag" = some (some (.ref f3))) (l3 : Fun K "_law_bag" "_law_bag" s__law_bag f3 d3)
    (a4 : PySem.W.nsIn K mainGlobals "_law_take" = some (some (.ref f4))) (l4 : Fun K "_law_take" "_law_take" s__law_take f4 d4)
    (a5 : PySem.W.nsIn K mainGlobals "_law_whole" = some (some (.ref f5))) (l5 : Fun K "_law_whole" "_law_whole" s__law_whole f5 d5)
    (a6 : PySem.W.nsIn K mainGlobals "_law_odd" = some (some (.ref f6))) (l6 : Fun K "_law_odd" "_law_odd" s__law_odd f6 d6)
    (a7 : PySem.W.nsIn K mainGlobals "_law_word" = some (some (.ref f7))) (l7 : Fun K "_law_word" "_law_word" s__law_word f7 d7)
    (a8 : PySem.W.nsIn K mainGlobals "_law_sum" = some (some (.ref f8))) (l8 : Fun K "_law_sum" "_law_sum" s__law_sum f8 d8)
    (a9 : PySem.W.nsIn K mainGlobals "_law_is_word" = some (some (.ref f9))) (l9 : Fun K "_law_is_word" "_law_is_word" s__law_is_word f9 d9)
    (a10 : PySem.W.nsIn K mainGlobals "_law_is_sum" = some (some (.ref f10))) (l10 : Fun K "_law_is_sum" "_law_is_sum" s__law_is_sum f10 d10)
    (a11 : PySem.W.nsIn K mainGlobals "_law_spoilt" = some (some (.ref f11))) (l11 : Fun K "_law_spoilt" "_law_spoilt" s__law_spoilt f11 d11)
    (a12 : PySem.W.nsIn K mainGlobals "law" = some (some (.ref f12))) (l12 : Fun K "law" "law" s_law f12 d12)
    (z_len : PySem.W.nsIn K mainGlobals "len" = some none)
    (z_range : PySem.W.nsIn K mainGlobals "range" = some none)
    (z_abs : PySem.W.nsIn K mainGlobals "abs" = some none)
    (z_isinstance : PySem.W.nsIn K mainGlobals "isinstance" = some none)
    (z_int : PySem.W.nsIn K mainGlobals "int" = some none)
    (z_bool : PySem.W.nsIn K mainGlobals "bool" = some none)
    (z_all : PySem.W.nsIn K mainGlobals "all" = some none)
    (z_sorted : PySem.W.nsIn K mainGlobals "sorted" = some none)
    (z_max : PySem.W.nsIn K mainGlobals "max" = some none)
    (z_min : PySem.W.nsIn K mainGlobals "min" = some none)
    (z_list : PySem.W.nsIn K mainGlobals "list" = some none)
    (z_zip : PySem.W.nsIn K mainGlobals "zip" = some none)
    (z_tuple : PySem.W.nsIn K mainGlobals "tuple" = some none)
    (z_set : PySem.W.nsIn K mainGlobals "set" = some none) :
    ∃ fd : FuncData, (∀ (s : Shared) (v : Value), BindsTo s fd ⟨[v], []⟩ [("_law_script", v)]) ∧ ∀ base : Heap, K.In base → base.Ns mainGlobals mg → FnOk l.prog w K mg base CX0 4 fa fd ["_law_script"] (spLaw K) := by
  have e := hfa.symm.trans (PySem.W.mg_of X G a12)
  cases e
  have b_len : mg "len" = none := PySem.W.mg_none_of X G z_len
  have b_range : mg "range" = none := PySem.W.mg_none_of X G z_range
  have b_abs : mg "abs" = none := PySem.W.mg_none_of X G z_abs
  have b_isinstance : mg "isinstance" = none := PySem.W.mg_none_of X G z_isinstance
  have b_int : mg "int" = none := PySem.W.mg_none_of X G z_int
  have b_bool : mg "bool" = none := PySem.W.mg_none_of X G z_bool
  have b_all : mg "all" = none := PySem.W.mg_none_of X G z_all
  have b_sorted : mg "sorted" = none := PySem.W.mg_none_of X G z_sorted
  have b_max : mg "max" = none := PySem.W.mg_none_of X G z_max
  have b_min : mg "min" = none := PySem.W.mg_none_of X G z_min
  have b_list : mg "list" = none := PySem.W.mg_none_of X G z_list
  have b_zip : mg "zip" = none := PySem.W.mg_none_of X G z_zip
  have b_tuple : mg "tuple" = none := PySem.W.mg_none_of X G z_tuple
  have b_set : mg "set" = none := PySem.W.mg_none_of X G z_set
  have F_is_whole := l0
  have B_is_whole := F_is_whole.binds (ps := ["thing"]) fun _ _ _ _ _ _ us hl => match us, hl with | [_], _ => rfl
  have F_is_word := l1
  have B_is_word := F_is_word.binds (ps := ["thing"]) fun _ _ _ _ _ _ us hl => match us, hl with | [_], _ => rfl
  have F_is_sum := l2
  have B_is_sum := F_is_sum.binds (ps := ["thing"]) fun _ _ _ _ _ _ us hl => match us, hl with | [_], _ => rfl
  have F__law_bag := l3
  have B__law_bag := F__law_bag.binds (ps := ["_law_script", "_law_at"]) fun _ _ _ _ _ _ us hl => match us, hl with | [_, _], _ => rfl
  have F__law_take := l4
  have B__law_take := F__law_take.binds (ps := ["_law_bag_here", "_law_many"]) fun _ _ _ _ _ _ us hl => match us, hl with | [_, _], _ => rfl
  have F__law_whole := l5
  have B__law_whole := F__law_whole.binds (ps := ["_law_thing"]) fun _ _ _ _ _ _ us hl => match us, hl with | [_], _ => rfl
  have F__law_odd := l6
  have B__law_odd := F__law_odd.binds (ps := ["_law_words"]) fun _ _ _ _ _ _ us hl => match us, hl with | [_], _ => rfl
  have F__law_word := l7
  have B__law_word := F__law_word.binds (ps := ["_law_bag_here", "_law_names", "_law_most"]) fun _ _ _ _ _ _ us hl => match us, hl with | [_, _, _], _ => rfl
  have F__law_sum := l8
  have B__law_sum := F__law_sum.binds (ps := ["_law_bag_here", "_law_names", "_law_many", "_law_most"]) fun _ _ _ _ _ _ us hl => match us, hl with | [_, _, _, _], _ => rfl
  have F__law_is_word := l9
  have B__law_is_word := F__law_is_word.binds (ps := ["_law_thing"]) fun _ _ _ _ _ _ us hl => match us, hl with | [_], _ => rfl
  have F__law_is_sum := l10
  have B__law_is_sum := F__law_is_sum.binds (ps := ["_law_thing"]) fun _ _ _ _ _ _ us hl => match us, hl with | [_], _ => rfl
  have F__law_spoilt := l11
  have B__law_spoilt := F__law_spoilt.binds (ps := ["_law_one", "_law_bag_here"]) fun _ _ _ _ _ _ us hl => match us, hl with | [_, _], _ => rfl
  have F_law := l12
  have B_law := F_law.binds (ps := ["_law_script"]) fun _ _ _ _ _ _ us hl => match us, hl with | [_], _ => rfl
  obtain ⟨oc, od, kV, dc, pm, an, cd, ct, sl, rfl, _, _⟩ := l12.ex
  refine ⟨PySem.W.fnOf "law" "law" (defArgs s_law) (defBody s_law) (defScope s_law) .none kV dc pm an cd ct, fun s v => .of_eq rfl, fun base _ _ => ?_⟩
  have h_is_whole : Has l.prog w K mg base 1 "is_whole" ["thing"] spWholeA := has_mk (ok_is_whole F_is_whole b_isinstance b_int b_bool) (PySem.W.mg_of X G a0) l0.kp B_is_whole
  have h_is_word : Has l.prog w K mg base 2 "is_word" ["thing"] spWordA := has_mk (ok_isWord F_is_word h_is_whole b_isinstance b_tuple b_all) (PySem.W.mg_of X G a1) l1.kp B_is_word
  have h_is_sum : Has l.prog w K mg base 3 "is_sum" ["thing"] spSumA := has_mk (ok_isSum F_is_sum h_is_word b_isinstance b_list b_all b_zip) (PySem.W.mg_of X G a2) l2.kp B_is_sum
  have h__law_bag : Has l.prog w K mg base 1 "_law_bag" ["_law_script", "_law_at"] (spBag K) := has_mk (ok_bag F__law_bag b_len b_abs) (PySem.W.mg_of X G a3) l3.kp B__law_bag
  have h__law_take : Has l.prog w K mg base 1 "_law_take" ["_law_bag_here", "_law_many"] spTake := has_mk (ok_take F__law_take) (PySem.W.mg_of X G a4) l4.kp B__law_take
  have h__law_whole : Has l.prog w K mg base 1 "_law_whole" ["_law_thing"] spWholeA := has_mk (ok_whole F__law_whole b_isinstance b_int b_bool) (PySem.W.mg_of X G a5) l5.kp B__law_whole
  have h__law_odd : Has l.prog w K mg base 1 "_law_odd" ["_law_words"] spOdd := has_mk (ok_odd F__law_odd b_sorted) (PySem.W.mg_of X G a6) l6.kp B__law_odd
  have h__law_word : Has l.prog w K mg base 2 "_law_word" ["_law_bag_here", "_law_names", "_law_most"] spWord := has_mk (ok_word F__law_word h__law_take b_range b_len b_tuple) (PySem.W.mg_of X G a7) l7.kp B__law_word
  have h__law_sum : Has l.prog w K mg base 3 "_law_sum" ["_law_bag_here", "_law_names", "_law_many", "_law_most"] spSum := has_mk (ok_sum F__law_sum h__law_take h__law_word h__law_odd b_range) (PySem.W.mg_of X G a8) l8.kp B__law_sum
  have h__law_is_word : Has l.prog w K mg base 2 "_law_is_word" ["_law_thing"] spWordA := has_mk (ok_lisWord F__law_is_word h__law_whole b_isinstance b_tuple b_all) (PySem.W.mg_of X G a9) l9.kp B__law_is_word
  have h__law_is_sum : Has l.prog w K mg base 3 "_law_is_sum" ["_law_thing"] spSumA := has_mk (ok_lisSum F__law_is_sum h__law_is_word b_isinstance b_list b_all b_set b_sorted) (PySem.W.mg_of X G a10) l10.kp B__law_is_sum
  have h__law_spoilt : Has l.prog w K mg base 2 "_law_spoilt" ["_law_one", "_law_bag_here"] spSpoilt := has_mk (ok_spoilt F__law_spoilt h__law_take b_len b_list b_tuple) (PySem.W.mg_of X G a11) l11.kp B__law_spoilt
  exact ok_law F_law h__law_bag h__law_sum h__law_spoilt h_is_sum h__law_is_sum b_range b_len b_max b_min b_list b_isinstance b_bool
theorem walk {l : PySem.W.OpenLaw} {q : Program} {loose : List Str} {XP : (Str → Option Value) → Heap → Prop} {YP : World → Heap → Prop} {d : DefRec} {K : Params → PySem.W.Frag} (hn : l.most = some 63) (hdf : d.params.defaults = [])
    (hY : ∀ (w : World) (h : Heap), YP w h → (K w.params).In h)
    (F : ∀ (w : World) (mg : Str → Option Value) (fa : Addr) (h : Heap), (K w.params).In h → h.Ns mainGlobals mg → mg d.name = some (.ref fa) →
      ∃ fd : FuncData, (∀ (s : Shared) (u : Value), BindsTo s fd ⟨[u], []⟩ [("_law_script", u)]) ∧ ∀ base : Heap, (K w.params).In base → base.Ns mainGlobals mg → FnOk l.prog w (K w.params) mg base CX0 4 fa fd ["_law_script"] (spLaw (K w.params))) :
    PySem.W.WalkO q loose XP YP l.row.toRowW d [] (fun f vs => PySem.call f vs) :=
  L2.walk_of (n := 63) (k := 4) (x := "_law_script") (CX := fun _ => CX0) (sp := fun w => spLaw (K w.params)) hn (by decide) hdf ⟨rfl, by decide, by decide⟩ hY F (fun _ _ a ns hl _ hS => ⟨a, ns, rfl, hS, hl, fun _ => rfl⟩) fun _ _ _ _ _ z => z
end
end Qk10

open PySem PySem.W PyProof.Rows
set_option maxRecDepth 100000 in
set_option maxHeartbeats 0 in
theorem PySem.Challenge.cw_bendfronts_k10_sums_known_holds : PySem.Challenge.rw_bendfronts_k10_sums_known.Holds := by
  w_on; o_law; k_head; (case hw => w_witness2)
  k_fill
  refine Qk10.walk (l := PySem.Challenge.rw_bendfronts_k10_sums_known) rfl rfl (fun w h Y => PySem.W.kIn_of Y) ?F
  case F =>
    intro w mg fa h KX G hmg
    refine' Qk10.all_mk KX G hmg ?a0 ?l0 ?a1 ?l1 ?a2 ?l2 ?a3 ?l3 ?a4 ?l4 ?a5 ?l5 ?a6 ?l6 ?a7 ?l7 ?a8 ?l8 ?a9 ?l9 ?a10 ?l10 ?a11 ?l11 ?a12 ?l12 ?z_len ?z_range ?z_abs ?z_isinstance ?z_int ?z_bool ?z_all ?z_sorted ?z_max ?z_min ?z_list ?z_zip ?z_tuple ?z_set
    (case a0 => k_is)
    (case l0 => exact L2.fun_mk (by k_is) (by k_is) (by k_is))
    (case a1 => k_is)
    (case l1 => exact L2.fun_mk (by k_is) (by k_is) (by k_is))
    (case a2 => k_is)
    (case l2 => exact L2.fun_mk (by k_is) (by k_is) (by k_is))
    (case a3 => k_is)
    (case l3 => exact L2.fun_mk (by k_is) (by k_is) (by k_is))
    (case a4 => k_is)
    (case l4 => exact L2.fun_mk (by k_is) (by k_is) (by k_is))
    (case a5 => k_is)
    (case l5 => exact L2.fun_mk (by k_is) (by k_is) (by k_is))
    (case a6 => k_is)
    (case l6 => exact L2.fun_mk (by k_is) (by k_is) (by k_is))
    (case a7 => k_is)
    (case l7 => exact L2.fun_mk (by k_is) (by k_is) (by k_is))
    (case a8 => k_is)
    (case l8 => exact L2.fun_mk (by k_is) (by k_is) (by k_is))
    (case a9 => k_is)
    (case l9 => exact L2.fun_mk (by k_is) (by k_is) (by k_is))
    (case a10 => k_is)
    (case l10 => exact L2.fun_mk (by k_is) (by k_is) (by k_is))
    (case a11 => k_is)
    (case l11 => exact L2.fun_mk (by k_is) (by k_is) (by k_is))
    (case a12 => k_is)
    (case l12 => exact L2.fun_mk (by k_is) (by k_is) (by k_is))
    (case z_len => k_is)
    (case z_range => k_is)
    (case z_abs => k_is)
    (case z_isinstance => k_is)
    (case z_int => k_is)
    (case z_bool => k_is)
    (case z_all => k_is)
    (case z_sorted => k_is)
    (case z_max => k_is)
    (case z_min => k_is)
    (case z_list => k_is)
    (case z_zip => k_is)
    (case z_tuple => k_is)
    (case z_set => k_is)


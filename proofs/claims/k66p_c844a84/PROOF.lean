import PyProof.Rows.All
import Wide.All
import OpenK.AllK
import Wide.FinOn
import Lean
import PyProof.EqAt
import PyProof.EqKinds
import PyProof.TupleCall
import PyProof.AttrMissHeap
import PyProof.FactsAll.zip_1
import KE.KDictOf
import PyProof.Draws
import KE.KRevIter
import PyProof.FactsAll.range
import PyProof.Rows.RuleM_int
import KE.BitLaws
import KE.KIntText
import PyProof.StrCalls2
import PySem.Challenge.RW_bendfronts_k66_sums_written
set_option Elab.async false
set_option linter.all false
set_option maxRecDepth 100000
/-! THE HAND LAYER, for ints, bools, texts, own classes, LISTS and tuples (index, slices, in, append, pop ..), calls, loops. Paste it whole ahead of your own text; what your proof does not reach may be deleted. -/
namespace L2
open PySem PySem.Spec PyProof.Rows

/-- a key: an int or a str -/
abbrev Key := Sum Int Str
def keyIs : Key → Value → Bool
  | .inl k, v => Value.isInt k v
  | .inr x, v => Value.isStrOf x v
def keyH (w : World) : Key → Int
  | .inl k => hashInt k
  | .inr x => hashStr w x
theorem keyIs_shape : ∀ {k : Key} {v : Value}, keyIs k v = true → (∃ i t, k = Sum.inl i ∧ v = Value.int i t) ∨ (∃ x t, k = Sum.inr x ∧ v = Value.str x t)
  | .inl i, v, h => by
    obtain ⟨t, e⟩ := Value.isInt_shape (k := i) (v := v) h
    exact .inl ⟨i, t, rfl, e⟩
  | .inr x, v, h => by
    obtain ⟨t, e⟩ := Value.isStrOf_shape (x := x) (v := v) h
    exact .inr ⟨x, t, rfl, e⟩
theorem key_ll (a b : Int) : decide ((Sum.inl a : Key) = Sum.inl b) = (a == b) := by
  by_cases e : a = b
  · subst e; simp
  · have h : ¬ (Sum.inl a : Key) = Sum.inl b := fun q => e (Sum.inl.inj q)
    rw [decide_eq_false h]
    exact (beq_eq_false_iff_ne.mpr e).symm
theorem key_rr (a b : Str) : decide ((Sum.inr a : Key) = Sum.inr b) = decide (a = b) := by
  by_cases e : a = b
  · subst e; simp
  · have h : ¬ (Sum.inr a : Key) = Sum.inr b := fun q => e (Sum.inr.inj q)
    rw [decide_eq_false h, decide_eq_false e]
theorem key_lr (a : Int) (b : Str) : decide ((Sum.inl a : Key) = Sum.inr b) = false := decide_eq_false (fun q => nomatch q)
theorem key_rl (a : Str) (b : Int) : decide ((Sum.inr a : Key) = Sum.inl b) = false := decide_eq_false (fun q => nomatch q)

def mixKind (prog : Program) (w : World) : PySem.KeyKind prog w Key where
  is := keyIs
  hash := keyH w
  inj := fun v a b ha hb => by
    rcases keyIs_shape ha with ⟨i, t, rfl, rfl⟩ | ⟨x, t, rfl, rfl⟩
    · rcases keyIs_shape hb with ⟨j, u, rfl, e⟩ | ⟨y, u, rfl, e⟩
      · injection e with e1 _; rw [e1]
      · exact nomatch e
    · rcases keyIs_shape hb with ⟨j, u, rfl, e⟩ | ⟨y, u, rfl, e⟩
      · exact nomatch e
      · injection e with e1 _; rw [e1]
  byValue := fun k v h => by
    rcases keyIs_shape h with ⟨i, t, rfl, rfl⟩ | ⟨x, t, rfl, rfl⟩ <;> rfl
  pyHash := fun hv h => by
    rcases keyIs_shape hv with ⟨i, t, rfl, rfl⟩ | ⟨x, t, rfl, rfl⟩
    · exact wpAny_pyHash_int h
    · exact wpAny_pyHash_str h
  eqBool := fun hu hv h => by
    rcases keyIs_shape hu with ⟨i, t, rfl, rfl⟩ | ⟨x, t, rfl, rfl⟩
    · rcases keyIs_shape hv with ⟨j, u, rfl, rfl⟩ | ⟨y, u, rfl, rfl⟩
      · rw [key_ll] at h; exact wpAny_eqBool_int h
      · rw [key_lr] at h; exact SeqAt.EqAt.int_str i t y u _ _ _ _ h
    · rcases keyIs_shape hv with ⟨j, u, rfl, rfl⟩ | ⟨y, u, rfl, rfl⟩
      · rw [key_rl] at h; exact SeqAt.EqAt.str_int x t j u _ _ _ _ h
      · rw [key_rr] at h; exact wpAny_eqBool_str h
  «strs» := fun k x t v h => by
    rcases keyIs_shape h with ⟨i, u, rfl, e⟩ | ⟨y, u, rfl, e⟩
    · exact nomatch e
    · injection e with e1 _
      subst e1
      cases v <;> rfl

end L2

namespace L2
open PySem PySem.Spec PyProof.Rows

/-- a value, without the heap -/
inductive V where
  | non | bl (b : Bool) | int (i : Int) | str (x : Str) | byt (b : Array UInt8) | flt (b : UInt64) | ref (a : Addr) | ty (n : String)
  deriving DecidableEq

def RelV : V → Value → Prop
  | .non, u => u = Value.none
  | .bl b, u => u = Value.bool b
  | .int i, u => ∃ t, u = Value.int i t
  | .str x, u => ∃ t, u = Value.str x t
  | .byt b, u => ∃ t, u = Value.bytes b t
  | .flt b, u => ∃ t, u = Value.float b t
  | .ref a, u => u = Value.ref a
  | .ty n, u => u = Value.type n

abbrev Vals : List V → List Value → Prop := Paired RelV
theorem Vals.length {xs : List V} {us : List Value} (r : Vals xs us) : xs.length = us.length := Paired.length r
theorem Vals.get : ∀ {xs : List V} {us : List Value} {i : Nat} {x : V}, Vals xs us → xs[i]? = some x → ∃ u, us[i]? = some u ∧ RelV x u
  | _, _, _, _, .nil, e => by simp at e
  | _, _, 0, _, .cons r _, e => by simp at e; subst e; exact ⟨_, rfl, r⟩
  | _, _, i + 1, x, .cons _ t, e => by
    obtain ⟨u, h1, h2⟩ := Vals.get (i := i) (x := x) t (by simpa using e)
    exact ⟨u, by simpa using h1, h2⟩
theorem Vals.set {x : V} {u : Value} (r : RelV x u) : ∀ {xs : List V} {us : List Value} (i : Nat), Vals xs us → Vals (xs.set i x) (us.set i u)
  | _, _, _, .nil => .nil
  | _, _, 0, .cons _ t => .cons r t
  | _, _, i + 1, .cons q t => .cons q (Vals.set r i t)
theorem Vals.append : ∀ {xs ys : List V} {us ws : List Value}, Vals xs us → Vals ys ws → Vals (xs ++ ys) (us ++ ws)
  | _, _, _, _, .nil, s => s
  | _, _, _, _, .cons r t, s => .cons r (Vals.append t s)
theorem Vals.take : ∀ {xs : List V} {us : List Value} (n : Nat), Vals xs us → Vals (xs.take n) (us.take n)
  | _, _, 0, _ => .nil
  | _, _, _ + 1, .nil => .nil
  | _, _, n + 1, .cons r t => .cons r (Vals.take n t)
theorem Vals.drop : ∀ {xs : List V} {us : List Value} (n : Nat), Vals xs us → Vals (xs.drop n) (us.drop n)
  | _, _, 0, r => r
  | _, _, _ + 1, .nil => .nil
  | _, _, n + 1, .cons _ t => Vals.drop n t
def RelO : Option V → Option Value → Prop
  | some v, some u => RelV v u
  | none, none => True
  | _, _ => False
def KV {κ : Type} : List (κ × V) → List (κ × Value) → Prop := Paired fun (p : κ × V) (q : κ × Value) => p.1 = q.1 ∧ RelV p.2 q.2

/-- a key of a dict (00_mix): an int or a text -/
def kV : Key → V
  | .inl i => .int i
  | .inr x => .str x

/-- what stands at a tracked address -/
inductive HO where
  /-- a list -/
  | lst (xs : List V)
  /-- a tuple (never changes) -/
  | tup (xs : List V)
  /-- a dict whose keys are ints and texts; one whose keys are tuples of ints and texts (the empty one is both) -/
  | dK (kvs : List (Key × V)) | dT (kvs : List (List Key × V))
  /-- a set of ints: its members, its size -/
  | set (S : Int → Bool) (n : Nat)
  /-- an instance of the class at C, its dict at dx, its attributes -/
  | ins (C dx : Addr) (fs : List (Str × V))
  /-- the dict of the instance at x -/
  | own (x : Addr)
  /-- the dict of an exception -/
  | xd (fs : List (Str × V))
  /-- a bound method, f of x -/
  | met (f x : Addr)
  /-- a range object lo, lo + 1, .. below hi -/
  | rng (lo hi : Int)
  /-- a thing that is known to the object (the script; a dict while a loop walks it): read, never written while it is so -/
  | frz (o : Obj) (u : HO)
  /-- a code object's table -/
  | tbl (ps : Array Value)
  /-- any other thing, by what is true of its one object (a def of one's own: SetO a S n := HO.ext fun h => ..) -/
  | ext (φ : Heap → Prop)

abbrev Hp := Addr → Option HO
def upd (H : Hp) (a : Addr) (o : HO) : Hp := fun b => if b = a then some o else H b
theorem upd_same {H : Hp} {a : Addr} {o : HO} : upd H a o a = some o := by unfold upd; rw [if_pos rfl]
theorem upd_ne {H : Hp} {a b : Addr} {o : HO} (h : b ≠ a) : upd H a o b = H b := by unfold upd; rw [if_neg h]
/-- two objects of different content stand apart -/
theorem ne_of {H : Hp} {a b : Addr} {o u : HO} (h : H a = some o) (h' : H b = some u) (d : o ≠ u) : a ≠ b := by
  intro e; subst e; rw [h] at h'; exact d (Option.some.inj h')
theorem ne_of_none {H : Hp} {a b : Addr} {o : HO} (h : H a = some o) (h' : H b = none) : a ≠ b := by
  intro e; subst e; rw [h] at h'; cases h'

section
variable (P : Program) (w : World)
def ObjOk (H : Hp) (h : Heap) (a : Addr) : HO → Prop
  | .lst xs => xs.length ≤ sizeLine ∧ ∃ (its : List Value) (n : Nat), Vals xs its ∧ h.get? a = some { cls := .type "list", data := .seq its.toArray n }
  | .tup xs => xs.length ≤ sizeLine ∧ ∃ its : List Value, Vals xs its ∧ IsTup h a its.toArray
  | .dK kvs => kvs.length ≤ sizeLine ∧ (a == sysModules) = false ∧ ∃ vs, KV kvs vs ∧ h.DictOf (mixKind P w) a vs
  | .dT kvs => kvs.length ≤ sizeLine ∧ (a == sysModules) = false ∧ ∃ xs : List (List Key × Addr × Value),
      Paired (fun (p : List Key × V) (q : List Key × Addr × Value) => p.1 = q.1 ∧ H q.2.1 = some (.tup (p.1.map kV)) ∧ RelV p.2 q.2.2) kvs xs ∧
      ∃ o es ep, h.get? a = some o ∧ o.ExactDict ∧ o.data = .dict es ep ∧ es.toList = xs.map (entryOfKey (tupleKind (mixKind P w))) ∧ (xs.map (·.1)).Nodup
  | .set S n => h.SetOf (intKind P w) a S n
  | .ins C dx fs => H dx = some (.own a) ∧ fs.length ≤ 1000 ∧ dx ≠ a ∧ h.get? a = some (PySem.W.instObj C dx) ∧
      ∃ mA, h.Ns1 dx mA ∧ (∀ f, RelO (fs.lookup f) (mA f)) ∧ PySem.Within mA (fs.map (·.1))
  | .own _ => ∃ o, h.get? a = some o
  | .xd fs => ∃ mA, h.Ns1 a mA ∧ ∀ f, RelO (fs.lookup f) (mA f)
  | .rng lo hi => ∃ t u v, h.get? a = some { cls := .type "range", data := .fields #[.int lo t, .int hi u, .int 1 v] }
  | .frz o u => h.get? a = some o ∧ ObjOk H h a u
  | .tbl ps => h.get? a = some { cls := .none, data := .fields ps }
  | .met f x => h.get? a = some (PySem.W.methodObj (.ref f) (.ref x))
  | .ext φ => φ h ∧ (∃ o, h.get? a = some o) ∧ ∀ h1 h2 : Heap, φ h1 → (∀ o, h1.get? a = some o → h2.get? a = some o) → φ h2
/-- the abstract heap is held -/
def HOk (H : Hp) (h : Heap) : Prop := ∀ a o, H a = some o → ObjOk P w H h a o
end

section
variable {P : Program} {w : World} {H H' : Hp} {h h' : Heap} {a : Addr} {o : HO}
theorem ObjOk.lt (x : ObjOk P w H h a o) : a < h.objs.size := by
  cases o with
  | lst xs => obtain ⟨_, _, _, _, e⟩ := x; exact Heap.lt_size e
  | tup xs => obtain ⟨_, _, _, p⟩ := x; exact p.lt
  | dK kvs => obtain ⟨_, _, _, _, o, _, _, e, _⟩ := x; exact Heap.lt_size e
  | dT kvs => obtain ⟨_, _, _, _, o, _, _, e, _⟩ := x; exact Heap.lt_size e
  | set S n => obtain ⟨o, _, _, _, e, _⟩ := x; exact Heap.lt_size e
  | ins C dx fs => obtain ⟨_, _, _, e, _⟩ := x; exact Heap.lt_size e
  | own y => obtain ⟨_, e⟩ := x; exact Heap.lt_size e
  | xd fs => obtain ⟨_, ⟨_, _, _, e, _⟩, _⟩ := x; exact Heap.lt_size e
  | rng lo hi => obtain ⟨_, _, _, e⟩ := x; exact Heap.lt_size e
  | frz ob u => obtain ⟨e, _⟩ := x; exact Heap.lt_size e
  | tbl ps => exact Heap.lt_size (show h.get? a = some _ from x)
  | met f y => exact Heap.lt_size (show h.get? a = some _ from x)
  | ext φ => obtain ⟨_, ⟨_, e⟩, _⟩ := x; exact Heap.lt_size e
theorem Paired.mapP {α β : Type} {F G : α → β → Prop} : ∀ {l₁ : List α} {l₂ : List β}, Paired F l₁ l₂ → (∀ a b, F a b → G a b) → Paired G l₁ l₂
  | _, _, .nil, _ => .nil
  | _, _, .cons r t, f => .cons (f _ _ r) (Paired.mapP t f)
/-- what an object's description leans on: its own object, its own dict, the tuples -/
theorem ObjOk.stay (x : ObjOk P w H h a o) (k : ∀ b u, (b = a ∨ H b = some (.own a)) → h.get? b = some u → h'.get? b = some u)
    (ho : ∀ b, H b = some (.own a) → H' b = some (.own a)) (ht : ∀ b xs, H b = some (.tup xs) → H' b = some (.tup xs)) : ObjOk P w H' h' a o := by
  induction o with
  | lst xs => obtain ⟨z, its, n, r, e⟩ := x; exact ⟨z, its, n, r, k _ _ (.inl rfl) e⟩
  | tup xs => obtain ⟨z, its, r, ob, e, c⟩ := x; exact ⟨z, its, r, ob, k _ _ (.inl rfl) e, c⟩
  | dK kvs => obtain ⟨z, y, vs, r, ob, es, ep, e, c⟩ := x; exact ⟨z, y, vs, r, ob, es, ep, k _ _ (.inl rfl) e, c⟩
  | dT kvs =>
    obtain ⟨z, y, xs, r, ob, es, ep, e, c⟩ := x
    exact ⟨z, y, xs, Paired.mapP r fun p q z => ⟨z.1, ht _ _ z.2.1, z.2.2⟩, ob, es, ep, k _ _ (.inl rfl) e, c⟩
  | set S n => obtain ⟨ob, es, ep, t, e, c⟩ := x; exact ⟨ob, es, ep, t, k _ _ (.inl rfl) e, c⟩
  | ins C dx fs =>
    obtain ⟨d, z, ne, e, mA, ⟨od, es, ep, e2, c⟩, r⟩ := x
    exact ⟨ho _ d, z, ne, k _ _ (.inl rfl) e, mA, ⟨od, es, ep, k _ _ (.inr d) e2, c⟩, r⟩
  | own y => obtain ⟨ob, e⟩ := x; exact ⟨ob, k _ _ (.inl rfl) e⟩
  | xd fs => obtain ⟨mA, ⟨od, es, ep, e, c⟩, r⟩ := x; exact ⟨mA, ⟨od, es, ep, k _ _ (.inl rfl) e, c⟩, r⟩
  | rng lo hi => obtain ⟨t, u, v, e⟩ := x; exact ⟨t, u, v, k _ _ (.inl rfl) e⟩
  | frz ob u ih => obtain ⟨e, q⟩ := x; exact ⟨k _ _ (.inl rfl) e, ih q⟩
  | tbl ps =>
    have e : h.get? a = some { cls := .none, data := .fields ps } := x
    show h'.get? a = some { cls := .none, data := .fields ps }
    exact k a _ (.inl rfl) e
  | met f y =>
    have e : h.get? a = some (PySem.W.methodObj (.ref f) (.ref y)) := x
    show h'.get? a = some (PySem.W.methodObj (.ref f) (.ref y))
    exact k a _ (.inl rfl) e
  | ext φ => obtain ⟨p, ⟨o, e⟩, st⟩ := x; exact ⟨st _ _ p fun o q => k _ _ (.inl rfl) q, ⟨o, k _ _ (.inl rfl) e⟩, st⟩
theorem HOk.lt (x : HOk P w H h) (e : H a = some o) : a < h.objs.size := (x a o e).lt
theorem HOk.fresh (x : HOk P w H h) (e : h.objs.size ≤ a) : H a = none := by
  cases q : H a with
  | none => rfl
  | some u => exact absurd (Nat.lt_of_lt_of_le (x.lt q) e) (Nat.lt_irrefl _)
/-- every object of the heap is kept -/
theorem HOk.kept (x : HOk P w H h) (k : ∀ b u, h.get? b = some u → h'.get? b = some u) : HOk P w H h' := fun a o e =>
  (x a o e).stay (fun b u _ q => k b u q) (fun _ q => q) fun _ _ q => q
/-- a new object is laid and tracked -/
theorem HOk.laid (x : HOk P w H h) (k : ∀ b u, h.get? b = some u → h'.get? b = some u) (hp : h.objs.size ≤ a) (new : ObjOk P w (upd H a o) h' a o) : HOk P w (upd H a o) h' := fun b u e => by
  have hn := x.fresh hp
  by_cases hb : b = a
  · subst hb; rw [upd_same] at e; cases e; exact new
  · rw [upd_ne hb] at e
    exact (x b u e).stay (fun c v _ q => k c v q) (fun c q => by rw [upd_ne (ne_of_none q hn)]; exact q) fun c xs q => by rw [upd_ne (ne_of_none q hn)]; exact q
end

/-- what may be read as u: it is u, or a known u -/
def Rd (H : Hp) (a : Addr) (u : HO) : Prop := H a = some u ∨ ∃ o, H a = some (.frz o u)
theorem Rd.ok {P : Program} {w : World} {H : Hp} {h : Heap} {a : Addr} {u : HO} (r : Rd H a u) (x : HOk P w H h) : ObjOk P w H h a u := by
  rcases r with r | ⟨o, r⟩
  · exact x a u r
  · obtain ⟨_, q⟩ := x a _ r
    exact q
/-- what may be written -/
def Mut : Option HO → Prop
  | some (.lst _) => True
  | some (.dK _) => True
  | some (.dT _) => True
  | some (.set _ _) => True
  | some (.ins _ _ _) => True
  | some (.ext _) => True
  | _ => False
section
variable {P : Program} {w : World} {H : Hp} {h h' : Heap} {x e : Addr} {o' : HO}
/-- the object at e is changed: x itself, or the dict of the instance x -/
theorem HOk.write (ok : HOk P w H h) (mu : Mut (H x)) (he : e = x ∨ H e = some (.own x)) (k : ∀ b u, b ≠ e → h.get? b = some u → h'.get? b = some u) (heo : ∃ u, h'.get? e = some u)
    (new : ObjOk P w (upd H x o') h' x o') : HOk P w (upd H x o') h' := fun b u q => by
  have nown : ∀ c y, H c = some (.own y) → c ≠ x := fun c y r z => by subst z; rw [r] at mu; exact mu
  have ntup : ∀ c xs, H c = some (.tup xs) → c ≠ x := fun c xs r z => by subst z; rw [r] at mu; exact mu
  by_cases hb : b = x
  · subst hb; rw [upd_same] at q; cases q; exact new
  · rw [upd_ne hb] at q
    by_cases hbe : b = e
    · have q' : H b = some (.own x) := by
        rcases he with z | z
        · exact absurd (hbe.trans z) hb
        · rw [hbe]; exact z
      rw [q] at q'; cases q'
      obtain ⟨v, hv⟩ := heo
      exact ⟨v, by rw [hbe]; exact hv⟩
    · refine (ok b u q).stay (fun c v hc r => k c v ?_ r) (fun c r => by rw [upd_ne (nown c b r)]; exact r) fun c xs r => by rw [upd_ne (ntup c xs r)]; exact r
      rcases hc with rfl | hc
      · exact hbe
      · rintro rfl
        rcases he with z | z
        · exact nown c b hc z
        · rw [hc] at z; cases z; exact hb rfl
end

/-! ### kept unless tracked; of the frames at fs (the callers') the slots may change (an exception that passes writes there); of the records at ex (iterators) nothing is said -/
structure Un (fs ex : List Addr) (H H' : Hp) (h h' : Heap) : Prop where
  keep : ∀ b o, h.get? b = some o → H b = none → b ∉ fs → b ∉ ex → h'.get? b = some o
  slot : ∀ b o, h.get? b = some o → H b = none → b ∈ fs → b ∉ ex → ∃ sl, h'.get? b = some { o with slots := sl }
  free : ∀ b o, h.get? b = some o → H b = none → b ∉ ex → H' b = none
  there : ∀ b o, h.get? b = some o → b ∉ ex → ∃ o', h'.get? b = some o'
  tups : ∀ b xs, H b = some (.tup xs) → H' b = some (.tup xs)
  frzs : ∀ b o u, H b = some (.frz o u) → H' b = some (.frz o u)
  tbls : ∀ b ps, H b = some (.tbl ps) → ∃ more, H' b = some (.tbl (ps ++ more))
section
variable {fs fs' ex ex' : List Addr} {H H1 H2 : Hp} {h h1 h2 h' : Heap} {a x e : Addr} {o : HO}
theorem Un.any (u : Un fs ex H H1 h h1) {b : Addr} {ob : Obj} (q : h.get? b = some ob) (n : H b = none) (hx : b ∉ ex) : ∃ sl, h1.get? b = some { ob with slots := sl } := by
  by_cases hb : b ∈ fs
  · exact u.slot b ob q n hb hx
  · exact ⟨ob.slots, u.keep b ob q n hb hx⟩
theorem Un.kept (k : ∀ b u, h.get? b = some u → h'.get? b = some u) : Un fs ex H H h h' :=
  ⟨fun b ob q _ _ _ => k b ob q, fun b ob q _ _ _ => ⟨ob.slots, k b ob q⟩, fun _ _ _ n _ => n, fun b ob q _ => ⟨ob, k b ob q⟩, fun _ _ q => q, fun _ _ _ q => q, fun _ ps q => ⟨#[], by rw [q]; simp⟩⟩
theorem Un.refl : Un fs ex H H h h := Un.kept fun _ _ q => q
theorem Un.laid (k : ∀ b u, h.get? b = some u → h'.get? b = some u) (hp : h.objs.size ≤ a) (hn : H a = none) : Un fs ex H (upd H a o) h h' where
  keep := fun b u q _ _ _ => k b u q
  slot := fun b u q _ _ _ => ⟨u.slots, k b u q⟩
  free := fun b u q n _ => by rw [upd_ne (Nat.ne_of_lt (Nat.lt_of_lt_of_le (Heap.lt_size q) hp))]; exact n
  there := fun b u q _ => ⟨u, k b u q⟩
  tups := fun b xs q => by rw [upd_ne (ne_of_none q hn)]; exact q
  frzs := fun b u xs q => by rw [upd_ne (ne_of_none q hn)]; exact q
  tbls := fun b ps q => ⟨#[], by rw [upd_ne (ne_of_none q hn), q]; simp⟩
theorem Un.write (mu : Mut (H x)) (he : e = x ∨ H e = some (.own x)) (k : ∀ b u, b ≠ e → h.get? b = some u → h'.get? b = some u) (heo : ∃ u, h'.get? e = some u) : Un fs ex H (upd H x o) h h' := by
  have hx : ∀ b, H b = none → b ≠ x := fun b n z => by subst z; rw [n] at mu; exact mu
  have hb : ∀ b, H b = none → b ≠ e := fun b n z => by
    subst z
    rcases he with r | r
    · exact hx b n r
    · rw [n] at r; cases r
  have hm : ∀ b u, H b = some u → ¬ Mut (some u) → b ≠ x := fun b u q nm z => by subst z; rw [q] at mu; exact nm mu
  refine ⟨fun b u q n _ _ => k b u (hb b n) q, fun b u q n _ _ => ⟨u.slots, k b u (hb b n) q⟩, fun b u q n _ => by rw [upd_ne (hx b n)]; exact n, fun b u q _ => ?_,
    fun b xs q => by rw [upd_ne (hm b _ q fun z => z)]; exact q, fun b u xs q => by rw [upd_ne (hm b _ q fun z => z)]; exact q, fun b ps q => ⟨#[], by rw [upd_ne (hm b _ q fun z => z), q]; simp⟩⟩
  by_cases hbe : b = e
  · subst hbe; exact heo
  · exact ⟨u, k b u hbe q⟩
end

/-! ### the heap without what is tracked -/
def trk (h : Heap) (H : Hp) : List Addr := (List.range h.objs.size).filter fun a => (H a).isSome
def hidT (h : Heap) (H : Hp) : Heap := PySem.W.hideAll h (trk h H)
theorem hidT_size (h : Heap) (H : Hp) : (hidT h H).objs.size = h.objs.size := PySem.W.hideAll_size _ _
theorem hidT_get {h : Heap} {H : Hp} {b : Addr} {o : Obj} (e : h.get? b = some o) (n : H b = none) : (hidT h H).get? b = some o :=
  PySem.W.hideAll_get _ e fun hm => by
    have q : (H b).isSome = true := (List.mem_filter.mp hm).2
    rw [n] at q; simp at q
theorem of_hidT {h : Heap} {H : Hp} {b : Addr} {o : Obj} (e : (hidT h H).get? b = some o) : h.get? b = some o ∧ H b = none := by
  have e' : h.get? b = some o := PySem.W.of_hideAll (trk h H) e
  refine ⟨e', ?_⟩
  cases q : H b with
  | none => rfl
  | some x =>
    have hm : b ∈ trk h H := List.mem_filter.mpr ⟨List.mem_range.mpr (Heap.lt_size e'), by simp [q]⟩
    have z : (hidT h H).get? b = none := PySem.W.hideAll_none (trk h H) hm
    rw [z] at e; cases e

/-! ### OpenK's ledger, filled with every new object but one -/
def allNews (g h : Heap) (L : Addr) : List (Addr × Obj) := (List.range h.objs.size).filterMap fun a => if a = L ∨ (g.get? a).isSome = true then none else (h.get? a).map fun o => (a, o)
theorem mem_allNews {g h : Heap} {L a : Addr} {o : Obj} (h1 : a ≠ L) (h2 : g.get? a = none) (h3 : h.get? a = some o) : (a, o) ∈ allNews g h L :=
  List.mem_filterMap.mpr ⟨a, List.mem_range.mpr (Heap.lt_size h3), by simp [h1, h2, h3]⟩
theorem of_mem_allNews {g h : Heap} {L : Addr} {p : Addr × Obj} (hp : p ∈ allNews g h L) : p.1 ≠ L ∧ g.get? p.1 = none ∧ h.get? p.1 = some p.2 := by
  obtain ⟨b, _, e⟩ := List.mem_filterMap.mp hp
  split at e
  · cases e
  · rename_i hn
    cases q : h.get? b with
    | none => rw [q] at e; simp at e
    | some u =>
      rw [q] at e
      simp only [Option.map_some, Option.some.injEq] at e
      subst e
      refine ⟨fun z => hn (.inl z), ?_, q⟩
      show g.get? b = none
      cases r : g.get? b with
      | none => rfl
      | some v => exact (hn (.inr (by simp [r]))).elim
def rest (g h : Heap) (L d : Addr) : List (Addr × Obj) := (allNews g h L).filter fun p => decide (p.1 ≠ d)
theorem news_all {g h : Heap} {L : Addr} : News g L h (allNews g h L) := fun p hp => let ⟨a, b, c⟩ := of_mem_allNews hp; ⟨c, a, b⟩
end L2

namespace L2
open PySem PySem.Spec PyProof.Rows

/-- the module's facts, over the base: the heap at the law's entry without what is tracked there -/
structure Mod (K : PySem.W.Frag) (mg : Str → Option Value) (base : Heap) : Prop where
  kin : K.In base
  glob : base.Ns mainGlobals mg
  blt : ∃ mb, base.Ns builtinsNs mb ∧ ∀ x : Str, x ≠ "__name__" → mb x = bootBuiltins x
  nolimit : base.NoLimit

/-- the context: a def's body (or a comprehension's block) running. base: fixed through the whole law; s₀, H₀: the entry; outer: the frames whose slots others may change (a def's callers); stack: all frames that run;
   ex: iterators that were made ahead of the entry and are walked here (a comprehension's); fn: the names whose cells were made at the entry (a def: all; a comprehension's block: its own); calm: not within an except suite; pn: pins that every state bears; xe: what is wanted of an exception that leaves the code -/
structure Cx where
  prog : Program
  w : World
  K : PySem.W.Frag
  mg : Str → Option Value
  base : Heap
  A : Around
  N : List Str
  s₀ : Shared
  H₀ : Hp
  env : Env
  outer : List Env
  stack : List Env
  ex : List Addr
  fn : Str → Bool
  calm : Bool
  pn : List (Addr × Obj)
  xe : Value → Shared → Prop
/-- the callers' frames -/
def frs (l : List Env) : List Addr := l.filterMap (·.frame)
abbrev Cx.fs (X : Cx) : List Addr := frs X.outer

def Vis (sc : Scope) (x : Str) : Prop := sc.names.lookup x = some .local ∨ sc.names.lookup x = some .cell ∨ sc.names.lookup x = some .free
def Loc (sc : Scope) (x : Str) : Prop := sc.names.lookup x = some .local ∨ sc.names.lookup x = some .cell
def Look (env : Env) (h : Heap) (m : Str → Option Value) (x : Str) (u : Value) : Prop :=
  (env.kindOf x = some .local ∧ m x = some u) ∨ ((env.kindOf x = some .cell ∨ env.kindOf x = some .free) ∧ ∃ c, env.cells.lookup x = some c ∧ h.IsCell c (some u))

structure Cx.Ok (X : Cx) : Prop where
  mod : Mod X.K X.mg X.base
  kind : X.env.scope.kind = .function
  glob : X.env.globals = mainGlobals
  blt : X.env.builtins = builtinsNs
  above : X.s₀.heap.objs.size ≤ X.env.locals
  inj : ∀ x y c, X.env.cells.lookup x = some c → X.env.cells.lookup y = some c → x = y
  has : ∀ x, (X.env.kindOf x = some .cell ∨ X.env.kindOf x = some .free) → ∃ c, X.env.cells.lookup x = some c
  cab : ∀ x c, X.fn x = true → X.env.cells.lookup x = some c → X.s₀.heap.objs.size ≤ c
  hd : X.calm = true → X.A.handled = none
  frames : X.A.frames = some X.stack
  stk : X.stack = X.outer ∨ (X.stack = X.env :: X.outer ∧ X.env.frame = some X.env.locals)
  exf : ∀ b ∈ X.ex, b ≠ X.env.locals ∧ ∀ x c, X.env.cells.lookup x = some c → c ≠ b
  bs : ∀ b o, X.base.get? b = some o → X.s₀.heap.get? b = some o ∧ X.H₀ b = none
  bsz : X.base.objs.size ≤ X.s₀.heap.objs.size
  noex : ∀ b o, X.base.get? b = some o → b ∉ X.ex
  exfs : ∀ b ∈ X.ex, b ∉ X.fs
  funs : X.s₀.heap.FunFrames X.base X.outer
  frf : ∀ b ∈ X.fs, X.H₀ b = none

structure Inv (X : Cx) (pins : List (Addr × Obj)) (σ : List (Option V)) (H : Hp) (s : Shared) : Prop where
  ok : X.Ok
  os : s.os = X.s₀.os
  bare : AllBare s.gens
  base : Un X.fs X.ex X.H₀ H X.s₀.heap s.heap
  loc : ∃ m, s.heap.Ns X.env.locals m ∧ ∀ (i : Nat) (x : Str) (v : V), X.N[i]? = some x → σ[i]? = some (some v) → Vis X.env.scope x → ∃ u, RelV v u ∧ Look X.env s.heap m x u
  cell : ∀ x c, X.env.cells.lookup x = some c → ∃ v, s.heap.IsCell c v
  free : H X.env.locals = none
  freeC : ∀ x c, X.env.cells.lookup x = some c → H c = none
  pin : ∀ p ∈ X.pn ++ pins, s.heap.get? p.1 = some p.2 ∧ H p.1 = none ∧ p.1 ≠ X.env.locals ∧ p.1 ∉ X.fs ∧ ∀ v, p.2.data ≠ .cell v
  hok : HOk X.prog X.w H s.heap
  len : σ.length = X.N.length

section
variable {X : Cx} {pins : List (Addr × Obj)} {σ : List (Option V)} {H H' : Hp} {s : Shared} {h' : Heap}

theorem Cx.Ok.nofr (ok : X.Ok) {b : Addr} {o : Obj} (e : X.base.get? b = some o) : b ∉ X.fs := fun hb => by
  have := (ok.funs.mem hb).1
  rw [e] at this; cases this
theorem Inv.bs (I : Inv X pins σ H s) : ∀ b o, X.base.get? b = some o → s.heap.get? b = some o ∧ H b = none := fun b o e =>
  ⟨I.base.keep b o (I.ok.bs b o e).1 (I.ok.bs b o e).2 (I.ok.nofr e) (I.ok.noex b o e), I.base.free b o (I.ok.bs b o e).1 (I.ok.bs b o e).2 (I.ok.noex b o e)⟩
theorem Inv.bk (I : Inv X pins σ H s) : ∀ b o, X.base.get? b = some o → s.heap.get? b = some o := fun b o e => (I.bs b o e).1
theorem Inv.mod (I : Inv X pins σ H s) : Mod X.K X.mg X.base := I.ok.mod
theorem Inv.kIn (I : Inv X pins σ H s) : X.K.In s.heap := I.ok.mod.kin.keeps I.bk
/-- the frame over the base: for OpenK's rules (K.In X.base is I.mod.kin) -/
theorem Inv.fr (I : Inv X pins σ H s) : ∃ m, Fr X.base X.env.locals s.heap m :=
  let ⟨m, hn, _⟩ := I.loc
  ⟨m, hn, I.bk, Nat.le_trans I.ok.bsz I.ok.above⟩
theorem Inv.lt (I : Inv X pins σ H s) : X.env.locals < s.heap.objs.size := let ⟨_, hn, _⟩ := I.loc; hn.lt
theorem Inv.sz (I : Inv X pins σ H s) : X.s₀.heap.objs.size ≤ s.heap.objs.size := Nat.le_trans I.ok.above (Nat.le_of_lt I.lt)
theorem Inv.nofs (I : Inv X pins σ H s) {a : Addr} (h : s.heap.objs.size ≤ a) : a ∉ X.fs := fun hb => by
  obtain ⟨_, o, ho, _⟩ := I.ok.funs.mem hb
  exact absurd (Nat.lt_of_lt_of_le (Heap.lt_size ho) (Nat.le_trans I.sz h)) (Nat.lt_irrefl _)
theorem Inv.cne (I : Inv X pins σ H s) : ∀ x c, X.env.cells.lookup x = some c → c ≠ X.env.locals := fun x c e z => by
  obtain ⟨v, o, ho, hd⟩ := I.cell x c e
  obtain ⟨m, ⟨o', es, ep, ho', hd', _⟩, _⟩ := I.loc
  rw [z, ho'] at ho; cases ho; rw [hd'] at hd; cases hd
theorem Inv.funs (I : Inv X pins σ H s) : s.heap.FunFrames X.base X.outer := by
  have all : ∀ (l : List Env), (∀ b ∈ frs l, b ∈ X.fs) → X.s₀.heap.FunFrames X.base l → s.heap.FunFrames X.base l := by
    intro l
    induction l with
    | nil => intro _ _; trivial
    | cons env r ih =>
      intro hs hl
      obtain ⟨hk, ⟨L, o, hf, hn, ho, hd⟩, hr⟩ := hl
      have hL : L ∈ X.fs := hs L (by unfold frs; rw [List.filterMap_cons, hf]; exact List.mem_cons_self)
      obtain ⟨sl, e⟩ := I.base.slot L o ho (I.ok.frf L hL) hL fun z => I.ok.exfs L z hL
      exact ⟨hk, ⟨L, _, hf, hn, e, hd⟩, ih (fun b hb => hs b (by unfold frs; rw [List.filterMap_cons, hf]; exact List.mem_cons_of_mem _ hb)) hr⟩
  exact all X.outer (fun _ hb => hb) I.ok.funs

/-- the frames that run, for a call -/
theorem Inv.stack (I : Inv X pins σ H s) : s.heap.FunFrames X.base X.stack := by
  rcases I.ok.stk with e | ⟨e, hf⟩
  · rw [e]; exact I.funs
  · rw [e]
    obtain ⟨m, hn, _⟩ := I.loc
    refine .cons (by rw [I.ok.kind]; decide) hf hn ?_ I.funs
    exact Heap.get?_none_of_le (Nat.le_trans I.ok.bsz I.ok.above)
theorem Inv.stkSub (I : Inv X pins σ H s) : ∀ b ∈ frs X.stack, b ∈ X.env.locals :: X.fs := fun b hb => by
  rcases I.ok.stk with e | ⟨e, hf⟩
  · rw [e] at hb; exact List.mem_cons_of_mem _ hb
  · rw [e] at hb
    unfold frs at hb
    rw [List.filterMap_cons, hf] at hb
    exact hb
theorem Inv.stkFree (I : Inv X pins σ H s) : ∀ b ∈ frs X.stack, H b = none := fun b hb => by
  rcases List.mem_cons.mp (I.stkSub b hb) with e | hb
  · rw [e]; exact I.free
  · obtain ⟨_, o, ho, _⟩ := I.ok.funs.mem hb
    exact I.base.free b o ho (I.ok.frf b hb) fun z => I.ok.exfs b z hb

/-- THE STEP: the untracked objects but the frame and the records at ch are kept (the callers' frames up to slots), the frame's map is kept, the new abstract heap is held -/
theorem Inv.step {g' : Array GenState} {t' : Nat} {d' : Drawn} {ch : List Addr} (I : Inv X pins σ H s)
    (hch : ∀ b ∈ ch, (b ∈ X.ex ∨ X.s₀.heap.objs.size ≤ b) ∧ b ≠ X.env.locals ∧ (∀ x c, X.env.cells.lookup x = some c → c ≠ b) ∧ ∀ p ∈ X.pn ++ pins, p.1 ≠ b)
    (keep : ∀ b o, b ≠ X.env.locals → b ∉ X.fs → b ∉ ch → s.heap.get? b = some o → H b = none → h'.get? b = some o)
    (slot : ∀ b o, b ≠ X.env.locals → b ∈ X.fs → b ∉ ch → s.heap.get? b = some o → H b = none → ∃ sl, h'.get? b = some { o with slots := sl }) (free : ∀ b o, b ∉ ch → s.heap.get? b = some o → H b = none → H' b = none)
    (there : ∀ b o, b ∉ ch → s.heap.get? b = some o → ∃ o', h'.get? b = some o')
    (tups : ∀ b xs, H b = some (.tup xs) → H' b = some (.tup xs)) (frzs : ∀ b o u, H b = some (.frz o u) → H' b = some (.frz o u)) (tbls : ∀ b ps, H b = some (.tbl ps) → ∃ more, H' b = some (.tbl (ps ++ more)))
    (ns : ∀ m, s.heap.Ns X.env.locals m → h'.Ns X.env.locals m) (hok : HOk X.prog X.w H' h') (hg : AllBare g') :
    Inv X pins σ H' { s with heap := h', gens := g', drawn := d', toks := t' } := by
  have neL : ∀ b o, X.s₀.heap.get? b = some o → b ≠ X.env.locals := fun b o e => Nat.ne_of_lt (Nat.lt_of_lt_of_le (Heap.lt_size e) I.ok.above)
  have neC : ∀ b o, X.s₀.heap.get? b = some o → b ∉ X.ex → b ∉ ch := fun b o e hx hb => by
    rcases (hch b hb).1 with z | z
    · exact hx z
    · exact absurd (Nat.lt_of_lt_of_le (Heap.lt_size e) z) (Nat.lt_irrefl _)
  have cellK : ∀ x c, X.env.cells.lookup x = some c → ∀ v, s.heap.IsCell c v → h'.IsCell c v := fun x c e v ⟨o, ho, hd⟩ => by
    have nch : c ∉ ch := fun z => (hch c z).2.2.1 x c e rfl
    by_cases hc : c ∈ X.fs
    · obtain ⟨sl, q⟩ := slot c o (I.cne x c e) hc nch ho (I.freeC x c e)
      exact ⟨_, q, hd⟩
    · exact ⟨o, keep c o (I.cne x c e) hc nch ho (I.freeC x c e), hd⟩
  refine ⟨I.ok, I.os, hg, ⟨fun b o e n hb hx => ?_, fun b o e n hb hx => ?_, fun b o e n hx => ?_, fun b o e hx => ?_, fun b xs e => tups b xs (I.base.tups b xs e), fun b o xs e => frzs b o xs (I.base.frzs b o xs e), fun b ps e => ?_⟩, ?_, fun x c e => ?_, ?_, fun x c e => ?_, fun p hp => ?_, hok, I.len⟩
  · exact keep b o (neL b o e) hb (neC b o e hx) (I.base.keep b o e n hb hx) (I.base.free b o e n hx)
  · obtain ⟨sl, e1⟩ := I.base.slot b o e n hb hx
    obtain ⟨sl', e2⟩ := slot b _ (neL b o e) hb (neC b o e hx) e1 (I.base.free b o e n hx)
    exact ⟨sl', e2⟩
  · obtain ⟨o', e1⟩ := I.base.there b o e hx
    exact free b o' (neC b o e hx) e1 (I.base.free b o e n hx)
  · obtain ⟨o', e1⟩ := I.base.there b o e hx
    exact there b o' (neC b o e hx) e1
  · obtain ⟨m1, e1⟩ := I.base.tbls b ps e
    obtain ⟨m2, e2⟩ := tbls b _ e1
    exact ⟨m1 ++ m2, by rw [e2, Array.append_assoc]⟩
  · obtain ⟨m, hn, hl⟩ := I.loc
    refine ⟨m, ns m hn, fun i x v e1 e2 e3 => ?_⟩
    obtain ⟨u, r, l⟩ := hl i x v e1 e2 e3
    refine ⟨u, r, ?_⟩
    rcases l with l | ⟨k, c, e, z⟩
    · exact .inl l
    · exact .inr ⟨k, c, e, cellK x c e _ z⟩
  · obtain ⟨v, z⟩ := I.cell x c e
    exact ⟨v, cellK x c e v z⟩
  · obtain ⟨m, ⟨o, _, _, ho, _⟩, _⟩ := I.loc
    exact free _ o (fun z => (hch _ z).2.1 rfl) ho I.free
  · obtain ⟨v, o, ho, hd⟩ := I.cell x c e
    exact free c o (fun z => (hch c z).2.2.1 x c e rfl) ho (I.freeC x c e)
  · obtain ⟨e, n, ne, nf, d⟩ := I.pin p hp
    have nch : p.1 ∉ ch := fun z => (hch p.1 z).2.2.2 p hp rfl
    exact ⟨keep p.1 p.2 ne nf nch e n, free p.1 p.2 nch e n, ne, nf, d⟩
/-- .. where the frame's own object is kept too -/
theorem Inv.un {t' : Nat} (I : Inv X pins σ H s) (u : Un X.fs [] H H' s.heap h') (hok : HOk X.prog X.w H' h') : Inv X pins σ H' { s with heap := h', toks := t' } := by
  obtain ⟨m, ⟨o, es, ep, ho, r⟩, _⟩ := id I.loc
  obtain ⟨sl, hL⟩ := u.any ho I.free (by simp)
  exact I.step (g' := s.gens) (d' := s.drawn) (ch := []) (fun _ z => nomatch z) (fun b o _ hb _ e n => u.keep b o e n hb (by simp)) (fun b o _ hb _ e n => u.slot b o e n hb (by simp)) (fun b o _ e n => u.free b o e n (by simp)) (fun b o _ e => u.there b o e (by simp)) u.tups u.frzs u.tbls (fun m' hm => by
    obtain ⟨o', es', ep', ho', r'⟩ := hm
    rw [ho] at ho'; cases ho'
    exact ⟨_, es', ep', hL, r'⟩) hok I.bare
/-- behind a call (or a comprehension's block): the slots of this frame may have changed too, the records at ch may have turned -/
theorem Inv.call {g' : Array GenState} {t' : Nat} {d' : Drawn} {ch : List Addr} (I : Inv X pins σ H s) (u : Un (frs X.stack) ch H H' s.heap h') (hok : HOk X.prog X.w H' h') (hg : AllBare g')
    (hch : ∀ b ∈ ch, (b ∈ X.ex ∨ X.s₀.heap.objs.size ≤ b) ∧ b ≠ X.env.locals ∧ (∀ x c, X.env.cells.lookup x = some c → c ≠ b) ∧ ∀ p ∈ X.pn ++ pins, p.1 ≠ b) :
    Inv X pins σ H' { s with heap := h', gens := g', drawn := d', toks := t' } := by
  obtain ⟨m, ⟨o, es, ep, ho, r⟩, _⟩ := id I.loc
  obtain ⟨sl, hL⟩ := u.any ho I.free fun z => (hch _ z).2.1 rfl
  exact I.step (ch := ch) hch (fun b o hL hb hc e n => u.keep b o e n (fun z => (List.mem_cons.mp (I.stkSub b z)).elim hL hb) hc) (fun b o _ _ hc e n => u.any e n hc) (fun b o hc e n => u.free b o e n hc) (fun b o hc e => u.there b o e hc) u.tups u.frzs u.tbls (fun m' hm => by
    obtain ⟨o', es', ep', ho', r'⟩ := hm
    rw [ho] at ho'; cases ho'
    exact ⟨_, es', ep', hL, r'⟩) hok hg
/-- an untracked record of ours (an iterator) has turned -/
theorem Inv.turned {t' : Nat} {it : Addr} (I : Inv X pins σ H s) (k : ∀ b o, b ≠ it → s.heap.get? b = some o → h'.get? b = some o) (hn : H it = none) (hL : it ≠ X.env.locals)
    (h1 : it ∈ X.ex ∨ X.s₀.heap.objs.size ≤ it) (h2 : ∀ x c, X.env.cells.lookup x = some c → c ≠ it) (h3 : ∀ p ∈ X.pn ++ pins, p.1 ≠ it) : Inv X pins σ H { s with heap := h', toks := t' } := by
  have nit : ∀ b u, H b = some u → b ≠ it := fun b u e z => by rw [z, hn] at e; cases e
  refine I.step (g' := s.gens) (d' := s.drawn) (ch := [it]) (fun b hb => ?_) (fun b o _ _ hc e _ => k b o (fun z => hc (by simp [z])) e) (fun b o _ _ hc e _ => ⟨o.slots, k b o (fun z => hc (by simp [z])) e⟩) (fun _ _ _ _ n => n)
    (fun b o hc e => ⟨o, k b o (fun z => hc (by simp [z])) e⟩) (fun _ _ e => e) (fun _ _ _ e => e) (fun b ps e => ⟨#[], by rw [e]; simp⟩) (fun m hm => ?_) (fun b u e => ?_) I.bare
  · have e : b = it := by simpa using hb
    subst e
    exact ⟨h1, hL, h2, h3⟩
  · obtain ⟨o, es, ep, ho, r⟩ := hm
    exact ⟨o, es, ep, k _ o (Ne.symm hL) ho, r⟩
  · refine (I.hok b u e).stay (fun c v hc q => k c v ?_ q) (fun _ q => q) fun _ _ q => q
    rcases hc with z | z
    · rw [z]; exact nit b u e
    · exact nit c _ z
theorem Inv.tok (I : Inv X pins σ H s) (t : Nat) : Inv X pins σ H { s with toks := t } := I.un (h' := s.heap) (t' := t) Un.refl I.hok
/-- all objects kept -/
theorem Inv.kept {t' : Nat} (I : Inv X pins σ H s) (k : ∀ b u, s.heap.get? b = some u → h'.get? b = some u) : Inv X pins σ H { s with heap := h', toks := t' } := I.un (Un.kept k) (I.hok.kept k)
/-- a new object laid and tracked -/
theorem Inv.laid {a : Addr} {o : HO} {t' : Nat} (I : Inv X pins σ H s) (k : ∀ b u, s.heap.get? b = some u → h'.get? b = some u) (hp : s.heap.objs.size ≤ a) (new : ObjOk X.prog X.w (upd H a o) h' a o) :
    Inv X pins σ (upd H a o) { s with heap := h', toks := t' } := I.un (Un.laid k hp (I.hok.fresh hp)) (I.hok.laid k hp new)
/-- an object written -/
theorem Inv.write {x e : Addr} {o : HO} {t' : Nat} (I : Inv X pins σ H s) (mu : Mut (H x)) (he : e = x ∨ H e = some (.own x)) (k : ∀ b u, b ≠ e → s.heap.get? b = some u → h'.get? b = some u) (heo : ∃ u, h'.get? e = some u)
    (new : ObjOk X.prog X.w (upd H x o) h' x o) : Inv X pins σ (upd H x o) { s with heap := h', toks := t' } := I.un (Un.write mu he k heo) (I.hok.write mu he k heo new)
/-- forgetting slots, pins -/
theorem Inv.weak {σ' : List (Option V)} (I : Inv X pins σ H s) (hl : σ'.length = σ.length) (w : ∀ (i : Nat) v, σ'[i]? = some (some v) → σ[i]? = some (some v)) : Inv X pins σ' H s :=
  ⟨I.ok, I.os, I.bare, I.base, let ⟨m, hn, hl'⟩ := I.loc; ⟨m, hn, fun i x v e1 e2 e3 => hl' i x v e1 (w i v e2) e3⟩, I.cell, I.free, I.freeC, I.pin, I.hok, hl.trans I.len⟩
theorem Inv.pins_of {pins' : List (Addr × Obj)} (I : Inv X pins σ H s) (h : ∀ p ∈ pins', s.heap.get? p.1 = some p.2 ∧ H p.1 = none ∧ p.1 ≠ X.env.locals ∧ p.1 ∉ X.fs ∧ ∀ v, p.2.data ≠ .cell v) : Inv X pins' σ H s :=
  ⟨I.ok, I.os, I.bare, I.base, I.loc, I.cell, I.free, I.freeC, fun p hp => (List.mem_append.mp hp).elim (fun z => I.pin p (List.mem_append_left _ z)) (h p), I.hok, I.len⟩

theorem nodup_ix {N : List Str} (hN : N.Nodup) {i j : Nat} {x : Str} (a : N[i]? = some x) (b : N[j]? = some x) : i = j := by
  obtain ⟨h1, e1⟩ := List.getElem?_eq_some_iff.mp a
  obtain ⟨h2, e2⟩ := List.getElem?_eq_some_iff.mp b
  exact (List.getElem_inj hN).mp (e1.trans e2.symm)

/-- a name is stored; what changed -/
theorem store_ok2 {M : Model} {A : Around} {E : Value → Shared → Prop} {i : Nat} {x : Str} {v : V} {u : Value} {Q : Unit → Shared → Prop} (I : Inv X pins σ H s) (hN : X.N.Nodup) (hi : X.N[i]? = some x) (hx : Loc X.env.scope x) (r : RelV v u)
    (h : ∀ s', Inv X pins (σ.set i (some v)) H s' → (∃ a, Heap.SameBut a s.heap s'.heap ∧ (a = X.env.locals ∨ X.env.cells.lookup x = some a)) → Q () s') (hf : X.fn x = true ∨ X.env.scope.names.lookup x = some .local := by first | exact .inl rfl | exact .inr rfl | assumption) : wpAny M A (storeName X.env x u) Q E s := by
  obtain ⟨m, hn, hl⟩ := id I.loc
  have hcls : (X.env.scope.kind == .class || (X.env.scope.kind == .module && X.env.locals != X.env.globals)) = false := by rw [I.ok.kind]; rfl
  have hiσ : i < σ.length := by rw [I.len]; exact (List.getElem?_eq_some_iff.mp hi).1
  have cne := I.cne
  have tracked : ∀ {a : Addr} {h' : Heap}, (∃ o, s.heap.get? a = some o ∧ H a = none) → Heap.SameBut a s.heap h' → HOk X.prog X.w H h' := fun {a h'} ha hs b ob e => by
    obtain ⟨_, _, hfree⟩ := ha
    refine (I.hok b ob e).stay (fun c w' hc q => (hs.2 c ?_).trans q) (fun _ q => q) fun _ _ q => q
    rintro rfl
    rcases hc with rfl | hc
    · rw [hfree] at e; cases e
    · rw [hfree] at hc; cases hc
  rcases hx with hk | hk
  · refine wpAny_storeName_local hk hn (fun h' hn' hs => ?_) hcls
    obtain ⟨oL, _, _, hoL, _⟩ := id hn
    refine h _ ⟨I.ok, I.os, I.bare, ⟨fun b o e n hb hx => ?_, fun b o e n hb hx => ?_, I.base.free, fun b o e hx => ?_, I.base.tups, I.base.frzs, I.base.tbls⟩, ⟨_, hn', fun j y v' e1 e2 e3 => ?_⟩, fun y c e => ?_, I.free, I.freeC, fun p hp => ?_, tracked ⟨oL, hoL, I.free⟩ hs, by simpa using I.len⟩ ⟨_, hs, .inl rfl⟩
    · exact (hs.2 b (Nat.ne_of_lt (Nat.lt_of_lt_of_le (Heap.lt_size e) I.ok.above))).trans (I.base.keep b o e n hb hx)
    · obtain ⟨sl, e1⟩ := I.base.slot b o e n hb hx
      exact ⟨sl, (hs.2 b (Nat.ne_of_lt (Nat.lt_of_lt_of_le (Heap.lt_size e) I.ok.above))).trans e1⟩
    · obtain ⟨o', e1⟩ := I.base.there b o e hx
      exact ⟨o', (hs.2 b (Nat.ne_of_lt (Nat.lt_of_lt_of_le (Heap.lt_size e) I.ok.above))).trans e1⟩
    · by_cases hj : j = i
      · subst hj
        rw [hi] at e1; cases e1
        rw [List.getElem?_set_self hiσ] at e2
        cases e2
        exact ⟨u, r, .inl ⟨hk, by simp⟩⟩
      · rw [List.getElem?_set_ne (Ne.symm hj)] at e2
        obtain ⟨u', r', q⟩ := hl j y v' e1 e2 e3
        refine ⟨u', r', ?_⟩
        rcases q with ⟨k, e⟩ | ⟨k, c, e, z⟩
        · refine .inl ⟨k, ?_⟩
          have : y ≠ x := fun e => hj (nodup_ix hN e1 (e ▸ hi))
          simp [this, e]
        · exact .inr ⟨k, c, e, z.sameBut hs (cne y c e)⟩
    · obtain ⟨w', z⟩ := I.cell y c e
      exact ⟨w', z.sameBut hs (cne y c e)⟩
    · obtain ⟨e, n, ne, nf, d⟩ := I.pin p hp
      exact ⟨(hs.2 p.1 ne).trans e, n, ne, nf, d⟩
  · have hfn : X.fn x = true := by
      rcases hf with z | z
      · exact z
      · rw [z] at hk; cases hk
    obtain ⟨c, hc⟩ := I.ok.has x (.inl hk)
    obtain ⟨w', z⟩ := I.cell x c hc
    refine wpAny_storeName_cell I.ok.kind hk hc z (fun h' hc' hs => ?_)
    obtain ⟨oc, hoc, hocd⟩ := id z
    refine h { s with heap := h' } ⟨I.ok, I.os, I.bare, ⟨fun b o e n hb hx => ?_, fun b o e n hb hx => ?_, I.base.free, fun b o e hx => ?_, I.base.tups, I.base.frzs, I.base.tbls⟩, ⟨m, hn.sameBut hs (Ne.symm (cne x c hc)), fun j y v' e1 e2 e3 => ?_⟩, fun y c' e => ?_, I.free, I.freeC, fun p hp => ?_, tracked ⟨oc, hoc, I.freeC x c hc⟩ hs, by simpa using I.len⟩ ⟨c, hs, .inr hc⟩
    · exact (hs.2 b (Nat.ne_of_lt (Nat.lt_of_lt_of_le (Heap.lt_size e) (I.ok.cab x c hfn hc)))).trans (I.base.keep b o e n hb hx)
    · obtain ⟨sl, e1⟩ := I.base.slot b o e n hb hx
      exact ⟨sl, (hs.2 b (Nat.ne_of_lt (Nat.lt_of_lt_of_le (Heap.lt_size e) (I.ok.cab x c hfn hc)))).trans e1⟩
    · obtain ⟨o', e1⟩ := I.base.there b o e hx
      exact ⟨o', (hs.2 b (Nat.ne_of_lt (Nat.lt_of_lt_of_le (Heap.lt_size e) (I.ok.cab x c hfn hc)))).trans e1⟩
    · by_cases hj : j = i
      · subst hj
        rw [hi] at e1; cases e1
        rw [List.getElem?_set_self hiσ] at e2
        cases e2
        exact ⟨u, r, .inr ⟨.inl hk, c, hc, hc'⟩⟩
      · rw [List.getElem?_set_ne (Ne.symm hj)] at e2
        obtain ⟨u', r', q⟩ := hl j y v' e1 e2 e3
        refine ⟨u', r', ?_⟩
        rcases q with q | ⟨k, c', e, z'⟩
        · exact .inl q
        · refine .inr ⟨k, c', e, z'.sameBut hs ?_⟩
          rintro rfl
          exact hj (nodup_ix hN e1 (I.ok.inj _ _ _ e hc ▸ hi))
    · by_cases hcc : c' = c
      · subst hcc; exact ⟨_, hc'⟩
      · obtain ⟨w2, z2⟩ := I.cell y c' e
        exact ⟨w2, z2.sameBut hs hcc⟩
    · obtain ⟨e, n, ne, nf, d⟩ := I.pin p hp
      refine ⟨(hs.2 p.1 ?_).trans e, n, ne, nf, d⟩
      intro q
      rw [q, hoc] at e
      have q' : oc = p.2 := Option.some.inj e
      exact d w' (by rw [← q']; exact hocd)
theorem store_ok {M : Model} {A : Around} {E : Value → Shared → Prop} {i : Nat} {x : Str} {v : V} {u : Value} {Q : Unit → Shared → Prop} (I : Inv X pins σ H s) (hN : X.N.Nodup) (hi : X.N[i]? = some x) (hx : Loc X.env.scope x) (r : RelV v u)
    (h : ∀ s', Inv X pins (σ.set i (some v)) H s' → Q () s') (hf : X.fn x = true ∨ X.env.scope.names.lookup x = some .local := by first | exact .inl rfl | exact .inr rfl | assumption) : wpAny M A (storeName X.env x u) Q E s :=
  store_ok2 I hN hi hx r (fun s' I' _ => h s' I') hf
/-- behind a call or a block, the state as it is -/
theorem Inv.call' {s' : Shared} {ch : List Addr} (I : Inv X pins σ H s) (ho : s'.os = s.os) (u : Un (frs X.stack) ch H H' s.heap s'.heap) (hok : HOk X.prog X.w H' s'.heap) (hg : AllBare s'.gens)
    (hch : ∀ b ∈ ch, (b ∈ X.ex ∨ X.s₀.heap.objs.size ≤ b) ∧ b ≠ X.env.locals ∧ (∀ x c, X.env.cells.lookup x = some c → c ≠ b) ∧ ∀ p ∈ X.pn ++ pins, p.1 ≠ b) : Inv X pins σ H' s' := by
  obtain ⟨h', g', d', t', o'⟩ := s'
  have e : o' = s.os := ho
  subst e
  exact I.call (g' := g') (t' := t') (d' := d') u hok hg hch
end

/-! ### the judgements -/
/-- an exception: its class, its own dict's address (where it has one), the abstract heap behind it -/
abbrev XK := Value → Option Addr → Hp → Prop
abbrev St := List (Option V)
abbrev VK := V → Hp → Prop
/-- an expression's reading; a test's; an argument list's -/
abbrev TE := St → Hp → VK → Prop
abbrev TT := St → Hp → (Bool → Hp → Prop) → Prop
abbrev TA := St → Hp → (List V → Hp → Prop) → Prop
/-- what is wanted behind a statement -/
structure Ends where
  nx : St → Hp → Prop
  rt : VK
  bk : St → Hp → Prop := fun _ _ => False
  ct : St → Hp → Prop := fun _ _ => False
abbrev TS := Ends → St → Hp → Prop

def EP (X : Cx) (pins : List (Addr × Obj)) (σ : St) (Q : VK) (u : Value) (s' : Shared) : Prop := ∃ v H', Inv X pins σ H' s' ∧ RelV v u ∧ Q v H'
def TP (X : Cx) (pins : List (Addr × Obj)) (σ : St) (Q : Bool → Hp → Prop) (b : Bool) (s' : Shared) : Prop := ∃ H', Inv X pins σ H' s' ∧ Q b H'
def AP (X : Cx) (pins : List (Addr × Obj)) (σ : St) (Q : List V → Hp → Prop) (us : List Value) (s' : Shared) : Prop := ∃ vs H', Inv X pins σ H' s' ∧ Vals vs us ∧ Q vs H'
def SP (X : Cx) (pins : List (Addr × Obj)) (D : Ends) (f : Flow) (s' : Shared) : Prop :=
  match f with
  | .next => ∃ σ' H', Inv X pins σ' H' s' ∧ D.nx σ' H'
  | .brk => ∃ σ' H', Inv X pins σ' H' s' ∧ D.bk σ' H'
  | .cont => ∃ σ' H', Inv X pins σ' H' s' ∧ D.ct σ' H'
  | .ret u => ∃ v σ' H', Inv X pins σ' H' s' ∧ RelV v u ∧ D.rt v H'

def PE (X : Cx) (e : Expr) (t : TE) : Prop :=
  ∀ (pins : List (Addr × Obj)) (s : Shared) (σ : St) (H : Hp) (Q : VK), Inv X pins σ H s → t σ H Q → wpAny (model X.prog X.w) X.A (eval e X.env) (EP X pins σ Q) X.xe s
def PT (X : Cx) (e : Expr) (t : TT) : Prop :=
  ∀ (pins : List (Addr × Obj)) (s : Shared) (σ : St) (H : Hp) (Q : Bool → Hp → Prop), Inv X pins σ H s → t σ H Q → wpAny (model X.prog X.w) X.A (isTrue e X.env (eval e X.env)) (TP X pins σ Q) X.xe s
/-- a test whatever its 'whole' is (and, or) -/
def PW (X : Cx) (e : Expr) (t : TT) : Prop :=
  ∀ (whole : Sem Value) (pins : List (Addr × Obj)) (s : Shared) (σ : St) (H : Hp) (Q : Bool → Hp → Prop), Inv X pins σ H s → t σ H Q → wpAny (model X.prog X.w) X.A (isTrue e X.env whole) (TP X pins σ Q) X.xe s
theorem PW.pt {X : Cx} {e : Expr} {t : TT} (h : PW X e t) : PT X e t := h _
/-- an argument list (no star), from the left -/
def PA (X : Cx) (es : List Expr) (t : TA) : Prop :=
  ∀ (pos : Pos) (pins : List (Addr × Obj)) (s : Shared) (σ : St) (H : Hp) (Q : List V → Hp → Prop), Inv X pins σ H s → t σ H Q → wpAny (model X.prog X.w) X.A (spliced (backTo pos (starEach es X.env))) (AP X pins σ Q) X.xe s
def PS (X : Cx) (st : Stmt) (t : TS) : Prop :=
  ∀ (pins : List (Addr × Obj)) (s : Shared) (σ : St) (H : Hp) (D : Ends), Inv X pins σ H s → t D σ H → wpAny (model X.prog X.w) X.A (exec st X.env) (SP X pins D) X.xe s
def PSs (X : Cx) (st : List Stmt) (t : TS) : Prop :=
  ∀ (pins : List (Addr × Obj)) (s : Shared) (σ : St) (H : Hp) (D : Ends), Inv X pins σ H s → t D σ H → wpAny (model X.prog X.w) X.A (execs st X.env) (SP X pins D) X.xe s
/-- weaken the end -/
theorem thn {α : Type} {t : Sem α} {Q Q' : α → Shared → Prop} {M : Model} {A : Around} {E : Value → Shared → Prop} {s : Shared} (h : wpAny M A t Q E s) (hQ : ∀ a s, Q a s → Q' a s) : wpAny M A t Q' E s := wpAny_mono h hQ fun _ _ x => x
end L2

namespace L2
open PySem PySem.Spec PyProof.Rows
section
variable {X : Cx}

/-! ### names and constants -/
def tVar (i : Nat) : TE := fun σ H Q => ∃ v, σ[i]? = some (some v) ∧ Q v H
def tC (v : V) : TE := fun _ H Q => Q v H
theorem pe_var {i : Nat} {x : Str} {pos : Pos} (hN : X.N[i]? = some x) (hv : Vis X.env.scope x) (hd : (x == ("__debug__" : Str)) = false := by decide) (hcd : (x == ("__classdict__" : Str)) = false := by decide) : PE X (.Name x pos) (tVar i) := by
  intro pins s σ H Q I h
  obtain ⟨v, e, h⟩ := h
  obtain ⟨m, hn, hl⟩ := I.loc
  obtain ⟨u, r, l⟩ := hl i x v hN e hv
  have fin : EP X pins σ Q u s := ⟨v, H, I, r, h⟩
  rcases l with ⟨hk, hm⟩ | ⟨hk, c, hc, hcell⟩
  · exact wpAny_Name (wpAny_loadName_local I.ok.kind hk hn hm fin) hd
  · rcases hk with hk | hk
    · exact wpAny_Name (wpAny_loadName_cell I.ok.kind hk hc hcell fin) hd
    · exact wpAny_Name (wpAny_loadName_free I.ok.kind hk hc hcell fin hcd) hd
theorem pe_int {i j pos} : PE X (.Constant (.int i) j pos) (tC (.int i)) := fun _ _ _ H _ I h => wpAny_Constant_int ⟨.int i, H, I.tok _, ⟨_, rfl⟩, h⟩
theorem pe_bl {b j pos} : PE X (.Constant (.bool b) j pos) (tC (.bl b)) := fun _ _ _ H _ I h => Constant_bool ⟨.bl b, H, I, rfl, h⟩
theorem pe_non {j pos} : PE X (.Constant .none j pos) (tC .non) := fun _ _ _ H _ I h => Constant_none ⟨.non, H, I, rfl, h⟩
theorem pe_str {x j pos} : PE X (.Constant (.str x) j pos) (tC (.str x)) := fun _ _ _ H _ I h => Calls.Constant_str ⟨.str x, H, I.tok _, ⟨_, rfl⟩, h⟩

/-- a global name of the def -/
def Gl (X : Cx) (x : Str) : Prop := X.env.kindOf x = some .globalImplicit
theorem ld_glob {E : Value → Shared → Prop} {pins : List (Addr × Obj)} {s : Shared} {σ : St} {H : Hp} {x : Str} {u : Value} {pos : Pos} {Q : Value → Shared → Prop} (I : Inv X pins σ H s) (hg : Gl X x) (hm : X.mg x = some u) (h : Q u s)
    (hd : (x == ("__debug__" : Str)) = false := by decide) : wpAny (model X.prog X.w) X.A (eval (.Name x pos) X.env) Q E s :=
  Calls.Name_function_global I.ok.kind hg (Calls.loadGlobal_global (by rw [I.ok.glob]; exact I.mod.glob.keeps I.bk) hm h) hd
theorem ld_blt {E : Value → Shared → Prop} {pins : List (Addr × Obj)} {s : Shared} {σ : St} {H : Hp} {x : Str} {u : Value} {pos : Pos} {Q : Value → Shared → Prop} (I : Inv X pins σ H s) (hg : Gl X x) (hm : X.mg x = none) (hv : bootBuiltins x = some u) (h : Q u s)
    (hn : x ≠ "__name__" := by decide) (hd : (x == ("__debug__" : Str)) = false := by decide) : wpAny (model X.prog X.w) X.A (eval (.Name x pos) X.env) Q E s := by
  obtain ⟨mb, h1, h2⟩ := I.mod.blt
  exact Calls.Name_function_global I.ok.kind hg (Calls.loadGlobal_builtin (by rw [I.ok.glob]; exact I.mod.glob.keeps I.bk) hm (by rw [I.ok.blt]; exact h1.keeps I.bk) ((h2 x hn).trans hv) h) hd
/-- a module's constant, a class, a function, as a value -/
theorem pe_glob {x : Str} {v : V} {u : Value} {pos : Pos} (hg : Gl X x) (hm : X.mg x = some u) (r : RelV v u) (hd : (x == ("__debug__" : Str)) = false := by decide) : PE X (.Name x pos) (tC v) :=
  fun _ _ _ H _ I h => ld_glob I hg hm ⟨v, H, I, r, h⟩ hd
theorem pe_bltn {x : Str} {v : V} {u : Value} {pos : Pos} (hg : Gl X x) (hm : X.mg x = none) (hv : bootBuiltins x = some u) (r : RelV v u) (hn : x ≠ "__name__" := by decide) (hd : (x == ("__debug__" : Str)) = false := by decide) : PE X (.Name x pos) (tC v) :=
  fun _ _ _ H _ I h => ld_blt I hg hm hv ⟨v, H, I, r, h⟩ hn hd

/-! ### arithmetic -/
variable {a b : Expr} {ta tb : TE} {pos : Pos}
/-! ### comparisons -/
/-- a comparison as a value, as a test -/
def tB (t : TE) : TT := fun σ H Q => t σ H fun x H1 => ∃ c, x = .bl c ∧ Q c H1
/-- an expression whose value is a bool, as a test -/
theorem pt_val {e : Expr} {t : TE} (h : PE X e t) (he : ∀ whole, isTrue e X.env whole = (do let v ← whole; standAt e.pos; holding [v] (truthy v)) := by intro _; rfl) : PT X e (tB t) := by
  intro pins s σ H Q I hw
  refine isTrue_plain (thn (h pins s σ H _ I hw) fun v s1 ⟨x, H1, I1, r1, q1⟩ => ?_) (he _)
  obtain ⟨d, rfl, q⟩ := q1
  cases r1
  exact wpAny_truthy_bool ⟨H1, I1, q⟩

/-! ### and, or, not -/
variable {tA tB' : TT} {rest : List Expr}
def tAnd (t u : TT) : TT := fun σ H Q => t σ H fun c H1 => if c = true then u σ H1 Q else Q false H1
def tOr (t u : TT) : TT := fun σ H Q => t σ H fun c H1 => if c = true then Q true H1 else u σ H1 Q
def tNot (t : TT) : TT := fun σ H Q => t σ H fun c H1 => Q (!c) H1
theorem pw_and1 (ha : PT X a tA) : PW X (.BoolOp .And [a] pos) tA := by
  intro wh pins s σ H Q I h
  refine isTrue_and (thn (ha pins s σ H Q I h) fun c s1 e => ?_)
  cases c with
  | true => exact isTrue_and_nil e
  | false => exact e
theorem pw_or1 (ha : PT X a tA) : PW X (.BoolOp .Or [a] pos) tA := by
  intro wh pins s σ H Q I h
  refine isTrue_or (thn (ha pins s σ H Q I h) fun c s1 e => ?_)
  cases c with
  | false => exact isTrue_or_nil e
  | true => exact e
theorem pw_and (ha : PT X a tA) (hb : PW X (.BoolOp .And (b :: rest) pos) tB') : PW X (.BoolOp .And (a :: b :: rest) pos) (tAnd tA tB') := by
  intro wh pins s σ H Q I h
  refine isTrue_and (thn (ha pins s σ H _ I h) fun c s1 ⟨H1, I1, q1⟩ => ?_)
  cases c with
  | true => exact hb wh pins s1 σ H1 Q I1 q1
  | false => exact ⟨H1, I1, q1⟩
theorem pw_or (ha : PT X a tA) (hb : PW X (.BoolOp .Or (b :: rest) pos) tB') : PW X (.BoolOp .Or (a :: b :: rest) pos) (tOr tA tB') := by
  intro wh pins s σ H Q I h
  refine isTrue_or (thn (ha pins s σ H _ I h) fun c s1 ⟨H1, I1, q1⟩ => ?_)
  cases c with
  | true => exact ⟨H1, I1, q1⟩
  | false => exact hb wh pins s1 σ H1 Q I1 q1
theorem pt_not (ha : PT X a tA) : PT X (.UnaryOp .Not a pos) (tNot tA) := by
  intro pins s σ H Q I h
  exact isTrue_not (ha pins s σ H (fun c H1 => Q (!c) H1) I h)
/-- .. as values (bools) -/
def tAndV (ta tb : TE) : TE := fun σ H Q => ta σ H fun x H1 => ∃ c, x = .bl c ∧ if c = true then tb σ H1 Q else Q (.bl false) H1
def tNotV (ta : TE) : TE := fun σ H Q => ta σ H fun x H1 => ∃ c, x = .bl c ∧ Q (.bl (!c)) H1
theorem pe_one {op} {t : TE} (h : PE X a t) : PE X (.BoolOp op [a] pos) t := fun pins s σ H Q I hw => BoolOp_one (h pins s σ H Q I hw)
theorem pe_and (ha : PE X a ta) (hb : PE X (.BoolOp .And (b :: rest) pos) tb) : PE X (.BoolOp .And (a :: b :: rest) pos) (tAndV ta tb) := by
  intro pins s σ H Q I h
  refine BoolOp_and (thn (ha pins s σ H _ I h) fun v s1 ⟨x, H1, I1, r1, q1⟩ => ?_)
  obtain ⟨c, rfl, q1⟩ := q1
  cases r1
  refine wpAny_truthy_bool ?_
  cases c with
  | true => exact hb pins s1 σ H1 Q I1 q1
  | false => exact ⟨.bl false, H1, I1, rfl, q1⟩
theorem pe_not (ha : PE X a ta) : PE X (.UnaryOp .Not a pos) (tNotV ta) := by
  intro pins s σ H Q I h
  refine UnaryOp_ (thn (ha pins s σ H _ I h) fun v s1 ⟨x, H1, I1, r1, q1⟩ => ?_)
  obtain ⟨c, rfl, q1⟩ := q1
  cases r1
  exact not_of (wpAny_truthy_bool ⟨.bl (!c), H1, I1, rfl, q1⟩)
/-- a if t else b -/
def tIf (t : TT) (ta tb : TE) : TE := fun σ H Q => t σ H fun c H1 => if c = true then ta σ H1 Q else tb σ H1 Q
theorem pe_ifExp {c : Expr} (hc : PT X c tA) (ha : PE X a ta) (hb : PE X b tb) : PE X (.IfExp c a b pos) (tIf tA ta tb) := by
  intro pins s σ H Q I h
  refine wpAny_IfExp (thn (hc pins s σ H _ I h) fun d s1 ⟨H1, I1, q1⟩ => ?_)
  cases d with
  | true => exact ha pins s1 σ H1 Q I1 q1
  | false => exact hb pins s1 σ H1 Q I1 q1
end
end L2

namespace L2
open PySem PySem.Spec PyProof.Rows

/-! ### a list, a tuple that is read: tracked, frozen, or an object of the module -/
def SqL (K : PySem.W.Frag) (H : Hp) (a : Addr) (xs : List V) : Prop :=
  Rd H a (.lst xs) ∨
    ∃ (o : Obj) (its : Array Value) (n : Nat), K.lookup a = some o ∧ o.cls = .type "list" ∧ o.dict = none ∧ o.data = .seq its n ∧ its.size ≤ sizeLine ∧ Vals xs its.toList
def SqT (K : PySem.W.Frag) (H : Hp) (a : Addr) (xs : List V) : Prop :=
  Rd H a (.tup xs) ∨
    ∃ (o : Obj) (its : Array Value) (n : Nat), K.lookup a = some o ∧ o.cls = .type "tuple" ∧ o.data = .seq its n ∧ its.size ≤ sizeLine ∧ Vals xs its.toList
def absV : Value → Option V
  | .none => some .non
  | .bool b => some (.bl b)
  | .int i _ => some (.int i)
  | .str x _ => some (.str x)
  | .bytes b _ => some (.byt b)
  | .float b _ => some (.flt b)
  | .ref a => some (.ref a)
  | .type n => some (.ty n)
  | _ => none
theorem RelV.abs {x : V} {u : Value} (r : RelV x u) : absV u = some x := by
  cases x with
  | non => cases r; rfl
  | bl _ => cases r; rfl
  | int _ => obtain ⟨t, rfl⟩ := r; rfl
  | str _ => obtain ⟨t, rfl⟩ := r; rfl
  | byt _ => obtain ⟨t, rfl⟩ := r; rfl
  | flt _ => obtain ⟨t, rfl⟩ := r; rfl
  | ref _ => cases r; rfl
  | ty _ => cases r; rfl
theorem RelV.inj {x y : V} {u : Value} (r : RelV x u) (q : RelV y u) : x = y := Option.some.inj (r.abs.symm.trans q.abs)
theorem Vals.inj : ∀ {xs ys : List V} {us : List Value}, Vals xs us → Vals ys us → xs = ys
  | _, _, _, .nil, .nil => rfl
  | _, _, _, .cons r t, .cons r' t' => by rw [r.inj r', Vals.inj t t']
section
variable {X : Cx} {pins : List (Addr × Obj)} {σ : St} {H : Hp} {s : Shared} {a : Addr} {xs ys : List V}
theorem SqL.of {K : PySem.W.Frag} (h : H a = some (.lst xs)) : SqL K H a xs := .inl (.inl h)
theorem SqT.of {K : PySem.W.Frag} (h : H a = some (.tup xs)) : SqT K H a xs := .inl (.inl h)
theorem Inv.list (I : Inv X pins σ H s) (h : SqL X.K H a xs) : ∃ its : List Value, Vals xs its ∧ PlainL s.heap a its.toArray ∧ xs.length ≤ sizeLine := by
  rcases h with h | ⟨o, its, n, hk, hc, hd, hs, hz, r⟩
  · obtain ⟨z, its, n, r, e⟩ := h.ok I.hok
    exact ⟨its, r, ⟨_, n, e, rfl, rfl, rfl⟩, z⟩
  · refine ⟨its.toList, r, ⟨o, n, I.kIn a o hk, hc, hd, by simpa using hs⟩, ?_⟩
    have e := r.length
    simp only [Array.length_toList] at e
    omega
theorem Inv.tuple (I : Inv X pins σ H s) (h : SqT X.K H a xs) : ∃ its : List Value, Vals xs its ∧ IsTup s.heap a its.toArray ∧ xs.length ≤ sizeLine := by
  rcases h with h | ⟨o, its, n, hk, hc, hs, hz, r⟩
  · obtain ⟨z, its, r, p⟩ := h.ok I.hok
    exact ⟨its, r, p, z⟩
  · refine ⟨its.toList, r, ⟨o, I.kIn a o hk, hc, n, by simpa using hs⟩, ?_⟩
    have e := r.length
    simp only [Array.length_toList] at e
    omega
theorem Inv.list_inj (I : Inv X pins σ H s) (h : SqL X.K H a xs) (h' : SqL X.K H a ys) : xs = ys := by
  obtain ⟨its, r, ⟨o, n, e, _, _, d⟩, _⟩ := I.list h
  obtain ⟨its', r', ⟨o', n', e', _, _, d'⟩, _⟩ := I.list h'
  rw [e] at e'; cases e'
  rw [d] at d'
  injection d' with d1 _
  have : its = its' := by simpa using congrArg Array.toList d1
  subst this
  exact r.inj r'
theorem Inv.tuple_inj (I : Inv X pins σ H s) (h : SqT X.K H a xs) (h' : SqT X.K H a ys) : xs = ys := by
  obtain ⟨its, r, ⟨o, e, _, n, d⟩, _⟩ := I.tuple h
  obtain ⟨its', r', ⟨o', e', _, n', d'⟩, _⟩ := I.tuple h'
  rw [e] at e'; cases e'
  rw [d] at d'
  injection d' with d1 _
  have : its = its' := by simpa using congrArg Array.toList d1
  subst this
  exact r.inj r'
end

/-! ### another wish about exceptions -/
abbrev Cx.wish (X : Cx) (E : Value → Shared → Prop) : Cx := { X with xe := E }
/-- no exception leaves -/
abbrev Cx.nox (X : Cx) : Cx := X.wish fun _ _ => False
theorem Cx.Ok.wish {X : Cx} (ok : X.Ok) (E : Value → Shared → Prop) : (X.wish E).Ok :=
  ⟨ok.mod, ok.kind, ok.glob, ok.blt, ok.above, ok.inj, ok.has, ok.cab, ok.hd, ok.frames, ok.stk, ok.exf, ok.bs, ok.bsz, ok.noex, ok.exfs, ok.funs, ok.frf⟩
theorem Cx.Ok.unwish {X : Cx} {E : Value → Shared → Prop} (ok : (X.wish E).Ok) : X.Ok :=
  ⟨ok.mod, ok.kind, ok.glob, ok.blt, ok.above, ok.inj, ok.has, ok.cab, ok.hd, ok.frames, ok.stk, ok.exf, ok.bs, ok.bsz, ok.noex, ok.exfs, ok.funs, ok.frf⟩
section
variable {X : Cx} {pins : List (Addr × Obj)} {σ : St} {H : Hp} {s : Shared} {E : Value → Shared → Prop}
theorem Inv.wish (I : Inv X pins σ H s) (E : Value → Shared → Prop) : Inv (X.wish E) pins σ H s := ⟨I.ok.wish E, I.os, I.bare, I.base, I.loc, I.cell, I.free, I.freeC, I.pin, I.hok, I.len⟩
theorem Inv.unwish (I : Inv (X.wish E) pins σ H s) : Inv X pins σ H s := ⟨I.ok.unwish, I.os, I.bare, I.base, I.loc, I.cell, I.free, I.freeC, I.pin, I.hok, I.len⟩
theorem SP.unwish {D : Ends} {f : Flow} {s' : Shared} (h : SP (X.wish E) pins D f s') : SP X pins D f s' := by
  cases f with
  | next => obtain ⟨σ', H', I, q⟩ := h; exact ⟨σ', H', I.unwish, q⟩
  | brk => obtain ⟨σ', H', I, q⟩ := h; exact ⟨σ', H', I.unwish, q⟩
  | cont => obtain ⟨σ', H', I, q⟩ := h; exact ⟨σ', H', I.unwish, q⟩
  | ret u => obtain ⟨v, σ', H', I, r, q⟩ := h; exact ⟨v, σ', H', I.unwish, r, q⟩
theorem PSs.nox {st : List Stmt} {t : TS} (h : PSs X.nox st t) : PSs X st t := fun pins s σ H D I hw =>
  wpAny_mono (h pins s σ H D (I.wish _) hw) (fun _ _ q => q.unwish) fun _ _ z => False.elim z
end

/-! ### blocks and small statements -/
section
variable {X : Cx} {st : Stmt} {rest : List Stmt} {t u : TS} {e : Expr} {te : TE} {pos : Pos}
def tNext : TS := fun D σ H => D.nx σ H
def tSeq (t u : TS) : TS := fun D σ H => t { D with nx := u D } σ H
theorem pss_nil : PSs X [] tNext := fun _ _ σ H _ I h => wpAny_execs_nil ⟨σ, H, I, h⟩
theorem pss_cons (h1 : PS X st t) (h2 : PSs X rest u) : PSs X (st :: rest) (tSeq t u) := by
  intro pins s σ H D I h
  refine wpAny_execs_cons (thn (h1 pins s σ H { D with nx := u D } I h) fun f s1 q => ?_)
  cases f with
  | next =>
    obtain ⟨σ', H', I', q⟩ := q
    exact h2 pins s1 σ' H' D I' q
  | ret v => exact q
  | brk => exact q
  | cont => exact q
theorem pss_one (h1 : PS X st t) : PSs X [st] t := by
  intro pins s σ H D I h
  refine wpAny_execs_cons (thn (h1 pins s σ H D I h) fun f s1 q => ?_)
  cases f with
  | next => exact wpAny_execs_nil q
  | ret v => exact q
  | brk => exact q
  | cont => exact q
/-- in a def's body nothing is shown -/
theorem Inv.quiet {pins : List (Addr × Obj)} {σ : St} {H : Hp} {s : Shared} (I : Inv X pins σ H s) : interactive X.env = false := by simp [interactive, I.ok.kind]
/-- an expression whose value is dropped -/
def tDrop (te : TE) : TS := fun D σ H => te σ H fun _ H1 => D.nx σ H1
theorem ps_expr (he : PE X e te) (hs : swapsWith e none pos.line X.env = pure false := by rfl) : PS X (.Expr e pos) (tDrop te) := by
  intro pins s σ H D I h
  exact wpAny_Expr_any (thn (he pins s σ H _ I h) fun v s1 ⟨x, H1, I1, r1, q1⟩ => ⟨σ, H1, I1, q1⟩) I.quiet hs
def tRet (te : TE) : TS := fun D σ H => te σ H D.rt
theorem ps_ret (he : PE X e te) : PS X (.Return (some e) pos) (tRet te) := by
  intro pins s σ H D I h
  exact wpAny_Return_some (thn (he pins s σ H _ I h) fun v s1 ⟨x, H1, I1, r1, q1⟩ => ⟨x, σ, H1, I1, r1, q1⟩)
def tIfS (c : TT) (t u : TS) : TS := fun D σ H => c σ H fun b H1 => if b = true then t D σ H1 else u D σ H1
theorem ps_if {c : Expr} {a b : List Stmt} {tc : TT} (hc : PT X c tc) (ha : PSs X a t) (hb : PSs X b u) : PS X (.If c a b pos) (tIfS tc t u) := by
  intro pins s σ H D I h
  refine wpAny_If (thn (hc pins s σ H _ I h) fun d s1 ⟨H1, I1, q1⟩ => ?_)
  cases d with
  | true => exact ha pins s1 σ H1 D I1 q1
  | false => exact hb pins s1 σ H1 D I1 q1
end

/-! ### targets -/
abbrev TG := V → St → Hp → (St → Hp → Prop) → Prop
abbrev TGs := List V → St → Hp → (St → Hp → Prop) → Prop
def PG (X : Cx) (target : Expr) (t : TG) : Prop :=
  ∀ (pins : List (Addr × Obj)) (s : Shared) (σ : St) (H : Hp) (v : V) (u : Value) (Q : St → Hp → Prop), Inv X pins σ H s → RelV v u → t v σ H Q →
    wpAny (model X.prog X.w) X.A (assign target X.env u) (fun _ s' => ∃ σ' H', Inv X pins σ' H' s' ∧ Q σ' H') X.xe s
/-- several targets, one after another -/
def PGs (X : Cx) (ts : List Expr) (t : TGs) : Prop :=
  ∀ (pins : List (Addr × Obj)) (s : Shared) (σ : St) (H : Hp) (vs : List V) (us : List Value) (Q : St → Hp → Prop), Inv X pins σ H s → Vals vs us → t vs σ H Q →
    wpAny (model X.prog X.w) X.A (assignInOrder ((assignEach ts X.env).map (·.2)) us) (fun _ s' => ∃ σ' H', Inv X pins σ' H' s' ∧ Q σ' H') X.xe s
/-- o[i] = v, by values -/
abbrev TSet := V → V → V → Hp → (Hp → Prop) → Prop
def PSet (X : Cx) (t : TSet) : Prop :=
  ∀ (pins : List (Addr × Obj)) (s : Shared) (σ : St) (H : Hp) (o i v : V) (ov iv u : Value) (Q : Hp → Prop), Inv X pins σ H s → RelV o ov → RelV i iv → RelV v u → t o i v H Q →
    wpAny (model X.prog X.w) X.A (setItem ov iv u) (fun _ s' => ∃ H', Inv X pins σ H' s' ∧ Q H') X.xe s
section
variable {X : Cx} {pos : Pos}
def gName (i : Nat) : TG := fun v σ H Q => Q (σ.set i (some v)) H
theorem pg_name {i : Nat} {x : Str} (hN : X.N.Nodup) (hi : X.N[i]? = some x) (hx : Loc X.env.scope x) (hf : X.fn x = true ∨ X.env.scope.names.lookup x = some .local := by first | exact .inl rfl | exact .inr rfl | assumption) : PG X (.Name x pos) (gName i) := by
  intro pins s σ H v u Q I r h
  exact wpAny_assign_Name (store_ok I hN hi hx r (fun s' I' => ⟨_, H, I', h⟩) hf)
def gNil : TGs := fun vs σ H Q => vs = [] ∧ Q σ H
def gCons (t : TG) (u : TGs) : TGs := fun vs σ H Q => ∃ v r, vs = v :: r ∧ t v σ H fun σ' H' => u r σ' H' Q
theorem pgs_nil : PGs X [] gNil := by
  intro pins s σ H vs us Q I r h
  obtain ⟨e, h⟩ := h
  subst e
  cases r
  exact assignInOrder_nil ⟨σ, H, I, h⟩
theorem pgs_cons {e : Expr} {es : List Expr} {t : TG} {u : TGs} (h1 : PG X e t) (h2 : PGs X es u)
    (hs : (assignEach (e :: es) X.env).map (·.2) = assign e X.env :: (assignEach es X.env).map (·.2) := by rfl) : PGs X (e :: es) (gCons t u) := by
  intro pins s σ H vs us Q I r h
  obtain ⟨v, vr, e1, h⟩ := h
  subst e1
  cases r with
  | cons r rr =>
    rw [hs]
    refine assignInOrder_cons (thn (h1 pins s σ H _ _ _ I r h) fun _ s1 ⟨σ1, H1, I1, q1⟩ => ?_)
    exact h2 pins s1 σ1 H1 _ _ Q I1 rr q1
/-- (a, b, ..) = a tuple of that length -/
def gTup (K : PySem.W.Frag) (n : Nat) (t : TGs) : TG := fun v σ H Q => ∃ a xs, v = .ref a ∧ SqT K H a xs ∧ xs.length = n ∧ t xs σ H Q
theorem pg_tup {es : List Expr} {k : Nat} {t : TGs} {n : Nat} (hc : X.calm = true) (h : PGs X es t)
    (hn : (assignEach es X.env).length = n := by rfl) (hst : (assignEach es X.env).findIdx? (·.1) = none := by rfl) : PG X (.Tuple es k pos) (gTup X.K n t) := by
  intro pins s σ H v u Q I r hw
  obtain ⟨a, xs, e1, hq, hl, hw⟩ := hw
  subst e1
  cases r
  obtain ⟨its, rv, ht, hz⟩ := I.tuple hq
  refine assign_Tuple_tuple (I.ok.hd hc) ht (by simp [hn, ← hl, rv.length]) hst fun h' hx => ?_
  have I1 : Inv X pins σ H { s with heap := h' } := I.kept (t' := s.toks) fun b o e => hx b o (Nat.ne_of_lt (Heap.lt_size e)) e
  exact h pins _ σ H xs _ Q I1 (by simpa using rv) hw
/-- o[i] = .. -/
def gSub (to ti : TE) (t : TSet) : TG := fun v σ H Q => to σ H fun o H1 => ti σ H1 fun i H2 => t o i v H2 fun H3 => Q σ H3
theorem pg_sub {o i : Expr} {to ti : TE} {t : TSet} (ho : PE X o to) (hi : PE X i ti) (hs : PSet X t)
    (ha : ∀ v, assign (.Subscript o i pos) X.env v = (do
      let ov ← holding [v] (eval o X.env)
      let iv ← holding [v, ov] (eval i X.env)
      standAt pos
      holding [v, ov, iv] (setItem ov iv v)
      release [v, ov, iv] []) := by intro _; rfl) : PG X (.Subscript o i pos) (gSub to ti t) := by
  intro pins s σ H v u Q I r h
  rw [ha]
  refine wpAny_bind (wpAny_holding (thn (ho pins s σ H _ I h) fun ov s1 ⟨x, H1, I1, r1, q1⟩ => ?_))
  refine wpAny_bind (wpAny_holding (thn (hi pins s1 σ H1 _ I1 q1) fun iv s2 ⟨y, H2, I2, r2, q2⟩ => ?_))
  refine wpAny_bind (wpAny_standAt (wpAny_bind (wpAny_holding (thn (hs pins s2 σ H2 x y v ov iv u _ I2 r1 r2 r q2) fun _ s3 ⟨H3, I3, q3⟩ => ?_))))
  exact wpAny_release ⟨σ, H3, I3, q3⟩
/-- target = value -/
def tAsg (te : TE) (g : TG) : TS := fun D σ H => te σ H fun x H1 => g x σ H1 D.nx
theorem ps_asg {tg e : Expr} {te : TE} {g : TG} (he : PE X e te) (hg : PG X tg g) (hs : swapsWithSole [tg] e pos.line X.env = pure false := by rfl) (hw : swappedStores [tg] e X.env = pure none := by rfl)
    (h1 : (assignEach [tg] X.env).map (·.2) = [assign tg X.env] := by rfl) : PS X (.Assign [tg] e pos) (tAsg te g) := by
  intro pins s σ H D I h
  refine wpAny_Assign_stores (thn (he pins s σ H _ I h) fun v s1 ⟨x, H1, I1, r1, q1⟩ => ?_) hs hw
  rw [h1]
  exact thn (hg pins s1 σ H1 x v _ I1 r1 q1) fun _ s2 q => q
/-- name = value -/
theorem ps_set {i : Nat} {x : Str} {e : Expr} {te : TE} {pos' : Pos} (hN : X.N.Nodup) (hi : X.N[i]? = some x) (hx : Loc X.env.scope x) (he : PE X e te) (hs : swapsWith e (some (.Name x pos')) pos.line X.env = pure false := by rfl) (hf : X.fn x = true ∨ X.env.scope.names.lookup x = some .local := by first | exact .inl rfl | exact .inr rfl | assumption) :
    PS X (.Assign [.Name x pos'] e pos) (tAsg te (gName i)) := by
  intro pins s σ H D I h
  refine wpAny_Assign_Name (thn (he pins s σ H _ I h) fun v s1 ⟨y, H1, I1, r1, q1⟩ => ?_) hs
  exact store_ok I1 hN hi hx r1 (fun s2 I2 => ⟨_, H1, I2, q1⟩) hf
end

/-! ### while -/

/-! ### what a loop or a comprehension walks -/
/-- at turn i: it yields x (the heap may grow), or it stops -/
structure It where
  go : Nat → Hp → Prop
  yld : Nat → Hp → V → Hp → Prop
  stop : Nat → Hp → Prop
/-- the iterator's own objects may turn: they are not the frame's, not pinned, younger than the entry (or a comprehension's own) -/
def FpOk (X : Cx) (pins : List (Addr × Obj)) (H : Hp) (b : Addr) : Prop :=
  H b = none ∧ b ≠ X.env.locals ∧ b ∉ X.fs ∧ (b ∈ X.ex ∨ X.s₀.heap.objs.size ≤ b) ∧ (∀ x c, X.env.cells.lookup x = some c → c ≠ b) ∧ ∀ p ∈ X.pn ++ pins, p.1 ≠ b
theorem Inv.fpOk {X : Cx} {pins : List (Addr × Obj)} {σ : St} {H H' : Hp} {s : Shared} {b : Addr} (I : Inv X pins σ H s) (hb : s.heap.objs.size ≤ b) (hn : H' b = none) : FpOk X pins H' b := by
  refine ⟨hn, Nat.ne_of_gt (Nat.lt_of_lt_of_le I.lt hb), I.nofs hb, .inr (Nat.le_trans I.sz hb), fun x c e z => ?_, fun p hp z => ?_⟩
  · obtain ⟨v, q⟩ := I.cell x c e
    exact absurd (Nat.lt_of_lt_of_le q.lt (by rw [z]; exact hb)) (Nat.lt_irrefl _)
  · exact absurd (Nat.lt_of_lt_of_le (Heap.lt_size (I.pin p hp).1) (by rw [z]; exact hb)) (Nat.lt_irrefl _)
structure Turn (P : Program) (w : World) (K : PySem.W.Frag) (tg : Expr) (J : It) (fp : List Addr) (it : Addr) (tn : Nat → Heap → Prop) : Prop where
  mem : it ∈ fp
  obj : ∀ i h, tn i h → ∀ b ∈ fp, ∃ o, h.get? b = some o ∧ ∀ v, o.data ≠ .cell v
  keep : ∀ i h h', tn i h → (∀ b ∈ fp, ∀ o, h.get? b = some o → h'.get? b = some o) → tn i h'
  item : ∀ (X : Cx), X.prog = P → X.w = w → X.K = K → X.calm = true → ∀ (i : Nat) (pins : List (Addr × Obj)) (s : Shared) (σ : St) (H : Hp) (E : Value → Shared → Prop), Inv X pins σ H s → (∀ b ∈ fp, FpOk X pins H b) → tn i s.heap → J.go i H →
    wpAny (model P w) X.A (pyNext (.ref it)) (fun r s1 => ∃ u, r = some u ∧
      wpAny (model P w) X.A (letOwnedTupleGo tg (.ref it) u) (fun _ s2 => ∃ x H', Inv X pins σ H' s2 ∧ RelV x u ∧ J.yld i H x H' ∧ tn (i + 1) s2.heap ∧ ∀ b ∈ fp, H' b = none) E s1) E s
  done : ∀ (X : Cx), X.prog = P → X.w = w → X.K = K → X.calm = true → ∀ (i : Nat) (pins : List (Addr × Obj)) (s : Shared) (σ : St) (H : Hp) (E : Value → Shared → Prop), Inv X pins σ H s → (∀ b ∈ fp, FpOk X pins H b) → tn i s.heap → J.stop i H →
    wpAny (model P w) X.A (pyNext (.ref it)) (fun r s1 => r = none ∧ Inv X pins σ H s1) E s
  self : ∀ (A : Around) (i : Nat) (s : Shared) (Q : Value → Shared → Prop) (E : Value → Shared → Prop), tn i s.heap → Q (.ref it) s → wpAny (model P w) A (pyIter (.ref it)) Q E s
abbrev TI := St → Hp → (It → Hp → Prop) → Prop
/-- an iterator has come -/
def PIE (X : Cx) (pins : List (Addr × Obj)) (σ : St) (tg : Expr) (R : It → Hp → Prop) (itv : Value) (s2 : Shared) : Prop :=
  ∃ (it : Addr) (fp : List Addr) (tn : Nat → Heap → Prop) (J : It) (H' : Hp), itv = .ref it ∧ Inv X pins σ H' s2 ∧ Turn X.prog X.w X.K tg J fp it tn ∧ tn 0 s2.heap ∧ (∀ b ∈ fp, FpOk X pins H' b) ∧ R J H'
def PI (X : Cx) (tg iter : Expr) (wi : TI) : Prop :=
  ∀ (pins : List (Addr × Obj)) (s : Shared) (σ : St) (H : Hp) (R : It → Hp → Prop), Inv X pins σ H s → wi σ H R →
    wpAny (model X.prog X.w) X.A (eval iter X.env) (fun v s1 => wpAny (model X.prog X.w) X.A (pyIter v) (PIE X pins σ tg R) X.xe s1) X.xe s

/-- the step ahead of the store is nothing for an iterator that keeps no tuple -/
theorem go_of {M : Model} {A : Around} {E : Value → Shared → Prop} {s : Shared} {tg : Expr} {it : Addr} {u : Value} {o : Obj} {n : String} {vs : Array Value} {Q : Unit → Shared → Prop} (ho : s.heap.get? it = some o) (hc : o.cls = .type n) (hd : o.data = .fields vs)
    (hn : ["enumerate", "zip", "dict_itemiterator", "dict_reverseitemiterator", "odict_iterator", "itertools.zip_longest", "itertools.pairwise"].contains n = false) (hQ : Q () s) : wpAny M A (letOwnedTupleGo tg (.ref it) u) Q E s := by
  unfold letOwnedTupleGo
  cases tg <;> first
    | exact wpAny_pure hQ
    | (cases u <;> first
        | exact wpAny_pure hQ
        | (refine wpAny_bind (wpAny_load ho ?_)
           rw [hc, hd]
           show wpAny M A (if (["enumerate", "zip", "dict_itemiterator", "dict_reverseitemiterator", "odict_iterator", "itertools.zip_longest", "itertools.pairwise"].contains n && vs[0]? == some (rawInt _)) = true then _ else _) Q E s
           rw [if_neg (by intro h; rw [hn, Bool.false_and] at h; cases h)]
           exact wpAny_pure hQ))

/-- the list at a, as it stands at each turn (a loop may append to it) -/
def Itl (K : PySem.W.Frag) (a : Addr) : It :=
  ⟨fun i H => ∃ xs x, SqL K H a xs ∧ xs[i]? = some x, fun i H x H' => H' = H ∧ ∀ xs, SqL K H a xs → xs[i]? = some x, fun i H => ∃ xs, SqL K H a xs ∧ xs.length ≤ i⟩
def Itt (K : PySem.W.Frag) (a : Addr) : It :=
  ⟨fun i H => ∃ xs x, SqT K H a xs ∧ xs[i]? = some x, fun i H x H' => H' = H ∧ ∀ xs, SqT K H a xs → xs[i]? = some x, fun i H => ∃ xs, SqT K H a xs ∧ xs.length ≤ i⟩
/-- lo, lo + 1, .. (n of them) -/
def Itr (lo : Int) (n : Nat) : It := ⟨fun i _ => i < n, fun i H x H' => H' = H ∧ x = .int (lo + i), fun i _ => n ≤ i⟩
theorem turn_list {P : Program} {w : World} {K : PySem.W.Frag} {tg : Expr} (a it : Addr) : Turn P w K tg (Itl K a) [it] it (fun i h => h.IsListIter it a i) where
  mem := by simp
  obj := fun i h st b hb => by
    have e : b = it := by simpa using hb
    subst e
    obtain ⟨o, e, c, d⟩ := st
    exact ⟨o, e, fun v z => by rw [d] at z; cases z⟩
  keep := fun i h h' st k => st.at fun o e => k it (by simp) o e
  item := by
    intro X hP hw hK hc i pins s σ H E I hf st hg
    subst hP hw hK
    obtain ⟨xs, x, hq, hx⟩ := hg
    obtain ⟨its, rv, p, hz⟩ := I.list hq
    obtain ⟨u, hu, ru⟩ := rv.get hx
    obtain ⟨f0, f1, f2, f3, f4, f5⟩ := hf it (by simp)
    refine wpAny_pyNext_list_item st p.isList (x := u) (by simpa using hu) fun h' st' sb => ?_
    have I1 : Inv X pins σ H { s with heap := h' } := I.turned (t' := s.toks) (fun b o hb e => (sb.2 b hb).trans e) f0 f1 f3 f4 f5
    obtain ⟨o, e, c, d⟩ := id st'
    exact ⟨u, rfl, go_of (s := { s with heap := h' }) e c d (by decide) ⟨x, H, I1, ru, ⟨rfl, fun ys hy => by rw [I.list_inj hy hq]; exact hx⟩, st', fun b hb => (hf b hb).1⟩⟩
  done := by
    intro X hP hw hK hc i pins s σ H E I hf st hg
    subst hP hw hK
    obtain ⟨xs, hq, hx⟩ := hg
    obtain ⟨its, rv, p, hz⟩ := I.list hq
    obtain ⟨f0, f1, f2, f3, f4, f5⟩ := hf it (by simp)
    have hl := rv.length
    exact wpAny_pyNext_list_end (I.ok.hd hc) st p.isList (by simp; omega) fun h' eb => ⟨rfl, I.turned (t' := s.toks) (fun b o hb e => eb b o hb e) f0 f1 f3 f4 f5⟩
  self := fun _ _ _ _ _ st h => wpAny_pyIter_listiter st h
theorem turn_tuple {P : Program} {w : World} {K : PySem.W.Frag} {tg : Expr} (a it : Addr) : Turn P w K tg (Itt K a) [it] it (fun i h => h.IsTupleIter it a i) where
  mem := by simp
  obj := fun i h st b hb => by
    have e : b = it := by simpa using hb
    subst e
    obtain ⟨o, e, c, d⟩ := st
    exact ⟨o, e, fun v z => by rw [d] at z; cases z⟩
  keep := fun i h h' st k => st.at fun o e => k it (by simp) o e
  item := by
    intro X hP hw hK hc i pins s σ H E I hf st hg
    subst hP hw hK
    obtain ⟨xs, x, hq, hx⟩ := hg
    obtain ⟨its, rv, p, hz⟩ := I.tuple hq
    obtain ⟨u, hu, ru⟩ := rv.get hx
    obtain ⟨f0, f1, f2, f3, f4, f5⟩ := hf it (by simp)
    refine wpAny_pyNext_tuple_item st (show s.heap.IsTuple a its.toArray from p) (x := u) (by simpa using hu) fun h' st' sb => ?_
    have I1 : Inv X pins σ H { s with heap := h' } := I.turned (t' := s.toks) (fun b o hb e => (sb.2 b hb).trans e) f0 f1 f3 f4 f5
    obtain ⟨o, e, c, d⟩ := id st'
    exact ⟨u, rfl, go_of (s := { s with heap := h' }) e c d (by decide) ⟨x, H, I1, ru, ⟨rfl, fun ys hy => by rw [I.tuple_inj hy hq]; exact hx⟩, st', fun b hb => (hf b hb).1⟩⟩
  done := by
    intro X hP hw hK hc i pins s σ H E I hf st hg
    subst hP hw hK
    obtain ⟨xs, hq, hx⟩ := hg
    obtain ⟨its, rv, p, hz⟩ := I.tuple hq
    obtain ⟨f0, f1, f2, f3, f4, f5⟩ := hf it (by simp)
    have hl := rv.length
    exact wpAny_pyNext_tuple_end (I.ok.hd hc) st (show s.heap.IsTuple a its.toArray from p) (by simp; omega) fun h' eb => ⟨rfl, I.turned (t' := s.toks) (fun b o hb e => eb b o hb e) f0 f1 f3 f4 f5⟩
  self := fun _ _ _ _ _ st h => wpAny_pyIter_tupleiter st h
theorem turn_range {P : Program} {w : World} {K : PySem.W.Frag} {tg : Expr} (it : Addr) (lo : Int) (n : Nat) : Turn P w K tg (Itr lo n) [it] it (fun i h => IsRangeIter h it (lo + (i : Nat) * 1) ((n : Int) - (i : Nat)) 1) where
  mem := by simp
  obj := fun i h st b hb => by
    have e : b = it := by simpa using hb
    subst e
    exact ⟨_, st, fun v z => by
      have z' : Data.fields _ = Data.cell v := z
      cases z'⟩
  keep := fun i h h' st k => k it (by simp) _ st
  item := by
    intro X hP hw hK hc i pins s σ H E I hf st hg
    subst hP hw hK
    obtain ⟨f0, f1, f2, f3, f4, f5⟩ := hf it (by simp)
    have W := Walks.range (prog := X.prog) (w := X.w) (I.ok.hd hc) it lo 1 n
    refine W.item i s _ _ hg st fun v h' tk hv st' kk => ?_
    obtain ⟨t, rfl⟩ := hv
    have I1 : Inv X pins σ H { s with heap := h', toks := tk } := I.turned (fun b o hb e => kk b o (by simpa using hb) e) f0 f1 f3 f4 f5
    refine ⟨_, rfl, go_of (s := { s with heap := h', toks := tk }) (n := "range_iterator") st' rfl rfl (by decide) ⟨.int (lo + i), H, I1, ⟨t, ?_⟩, ⟨rfl, rfl⟩, st', fun b hb => (hf b hb).1⟩⟩
    rw [Int.mul_one]
  done := by
    intro X hP hw hK hc i pins s σ H E I hf st hg
    subst hP hw hK
    obtain ⟨f0, f1, f2, f3, f4, f5⟩ := hf it (by simp)
    exact wpAny_pyNext_range_end (I.ok.hd hc) st (by have : n ≤ i := hg; omega) fun h' eb => ⟨rfl, I.turned (t' := s.toks) (fun b o hb e => eb b o hb e) f0 f1 f3 f4 f5⟩
  self := fun _ _ _ _ _ st h => wpAny_pyIter_rangeiter st h
end L2

namespace L2
open PySem PySem.Spec PyProof.Rows
section
variable {X : Cx} {tg : Expr}
def iList (K : PySem.W.Frag) (tl : TE) : TI := fun σ H R => tl σ H fun x H1 => ∃ a, x = .ref a ∧ (∃ xs, SqL K H1 a xs) ∧ R (Itl K a) H1
def iTup (K : PySem.W.Frag) (tl : TE) : TI := fun σ H R => tl σ H fun x H1 => ∃ a, x = .ref a ∧ (∃ xs, SqT K H1 a xs) ∧ R (Itt K a) H1
theorem pi_list {l : Expr} {tl : TE} (hl : PE X l tl) : PI X tg l (iList X.K tl) := by
  intro pins s σ H R I h
  refine thn (hl pins s σ H _ I h) fun v s1 ⟨x, H1, I1, r1, q1⟩ => ?_
  obtain ⟨a, e, ⟨xs, hq⟩, q⟩ := q1
  subst e
  cases r1
  obtain ⟨its, rv, p, hz⟩ := I1.list hq
  refine wpAny_pyIter_list p.isList ?_
  refine ⟨s1.heap.objs.size, [s1.heap.objs.size], _, _, H1, rfl, I1.kept (t' := s1.toks) fun b o e => Heap.get?_push_of_some _ e, turn_list a _, ⟨_, Heap.get?_push_size _ rfl, rfl, rfl⟩, fun b hb => ?_, q⟩
  have e : b = s1.heap.objs.size := by simpa using hb
  subst e
  exact I1.fpOk (Nat.le_refl _) (I1.hok.fresh (Nat.le_refl _))
theorem pi_tup {l : Expr} {tl : TE} (hl : PE X l tl) : PI X tg l (iTup X.K tl) := by
  intro pins s σ H R I h
  refine thn (hl pins s σ H _ I h) fun v s1 ⟨x, H1, I1, r1, q1⟩ => ?_
  obtain ⟨a, e, ⟨xs, hq⟩, q⟩ := q1
  subst e
  cases r1
  obtain ⟨its, rv, p, hz⟩ := I1.tuple hq
  refine wpAny_pyIter_tuple (show s1.heap.IsTuple a its.toArray from p) ?_
  refine ⟨s1.heap.objs.size, [s1.heap.objs.size], _, _, H1, rfl, I1.kept (t' := s1.toks) fun b o e => Heap.get?_push_of_some _ e, turn_tuple a _, ⟨_, Heap.get?_push_size _ rfl, rfl, rfl⟩, fun b hb => ?_, q⟩
  have e : b = s1.heap.objs.size := by simpa using hb
  subst e
  exact I1.fpOk (Nat.le_refl _) (I1.hok.fresh (Nat.le_refl _))
/-- a range object just made, walked -/
theorem range_it {pins : List (Addr × Obj)} {σ : St} {H : Hp} {s : Shared} {R : It → Hp → Prop} {E : Value → Shared → Prop} {lo hi : Int} {t u v : Tok} {tk : Nat} (I : Inv X pins σ H s) (h1 : -(2 ^ 62) ≤ lo) (h2 : lo < 2 ^ 62) (h3 : -(2 ^ 62) ≤ hi) (h4 : hi < 2 ^ 62)
    (q : R (Itr lo (hi - lo).toNat) H) : wpAny (model X.prog X.w) X.A (pyIter (.ref s.heap.objs.size)) (PIE X pins σ tg R) E { s with heap := s.heap.push { cls := .type "range", data := .fields #[.int lo t, .int hi u, .int 1 v] }, toks := tk } := by
  refine wpAny_pyIter_range (IsRange.new ..) (small_one h1 h2 h3 h4) ?_
  have I1 : Inv X pins σ H { s with heap := s.heap.push { cls := .type "range", data := .fields #[.int lo t, .int hi u, .int 1 v] }, toks := tk } := I.kept fun b o e => Heap.get?_push_of_some _ e
  refine ⟨(s.heap.push { cls := .type "range", data := .fields #[.int lo t, .int hi u, .int 1 v] }).objs.size, [(s.heap.push { cls := .type "range", data := .fields #[.int lo t, .int hi u, .int 1 v] }).objs.size], _, _, H, rfl,
    I1.kept (t' := tk) fun b o e => Heap.get?_push_of_some _ e, turn_range _ lo (hi - lo).toNat, ?_, fun b hb => ?_, q⟩
  · have e1 : lo + ((0 : Nat) : Int) * 1 = lo := by simp
    have e2 : (((hi - lo).toNat : Nat) : Int) - ((0 : Nat) : Int) = Builtin.Range.rangeSize lo hi 1 := by rw [rangeSize_one]; split <;> omega
    show IsRangeIter _ _ (lo + ((0 : Nat) : Int) * 1) ((((hi - lo).toNat : Nat) : Int) - ((0 : Nat) : Int)) 1
    rw [e1, e2]
    exact Heap.get?_push_size _ rfl
  · have e : b = (s.heap.push { cls := .type "range", data := .fields #[.int lo t, .int hi u, .int 1 v] }).objs.size := by simpa using hb
    subst e
    exact I1.fpOk (Nat.le_refl _) (I1.hok.fresh (Nat.le_refl _))
def iRng1 (ta : TA) : TI := fun σ H R => ta σ H fun vs H1 => ∃ j : Int, vs = [.int j] ∧ -(2 ^ 62) ≤ j ∧ j < 2 ^ 62 ∧ R (Itr 0 j.toNat) H1
def iRng2 (ta : TA) : TI := fun σ H R => ta σ H fun vs H1 => ∃ i j : Int, vs = [.int i, .int j] ∧ (-(2 ^ 62) ≤ i ∧ i < 2 ^ 62 ∧ -(2 ^ 62) ≤ j ∧ j < 2 ^ 62) ∧ R (Itr i (j - i).toNat) H1
theorem pi_range1 {a : Expr} {ta : TA} {p pos : Pos} (hg : Gl X "range") (hm : X.mg "range" = none) (ha : PA X [a] ta) (hs : starEach [a] X.env = [(false, eval a X.env)] := by rfl) : PI X tg (.Call (.Name "range" p) [a] [] pos) (iRng1 ta) := by
  intro pins s σ H R I h
  refine Call_ (ld_blt I hg hm boot_range (PyProof.Rows.callWith_type1 (thn (ha pos pins s σ H _ I h) fun us s1 ⟨vs, H1, I1, r1, q1⟩ => ?_) hs rfl))
  obtain ⟨j, e, q1, q2, q⟩ := q1
  subst e
  cases r1 with
  | cons r rr =>
    cases rr
    obtain ⟨t, rfl⟩ := r
    exact call_range_1 (range_it I1 (by omega) (by omega) q1 q2 (by simpa using q))
theorem pi_range2 {a b : Expr} {ta : TA} {p pos : Pos} (hg : Gl X "range") (hm : X.mg "range" = none) (ha : PA X [a, b] ta) (hs : starEach [a, b] X.env = [(false, eval a X.env), (false, eval b X.env)] := by rfl) (hs2 : starEach [b] X.env = [(false, eval b X.env)] := by rfl) :
    PI X tg (.Call (.Name "range" p) [a, b] [] pos) (iRng2 ta) := by
  intro pins s σ H R I h
  refine Call_ (ld_blt I hg hm boot_range (PyProof.Rows.callWith_type1 (thn (ha pos pins s σ H _ I h) fun us s1 ⟨vs, H1, I1, r1, q1⟩ => ?_) (by rw [hs, hs2]) (by rw [hs2]; rfl)))
  obtain ⟨i, j, e, ⟨q1, q2, q3, q4⟩, q⟩ := q1
  subst e
  cases r1 with
  | cons r rr =>
    cases rr with
    | cons r' rr =>
      cases rr
      obtain ⟨t, rfl⟩ := r
      obtain ⟨t', rfl⟩ := r'
      exact call_range_2 (range_it I1 q1 q2 q3 q4 q)

/-! ### for -/
/-- W: the invariant by the turn and a measure; N: what the body is to reach -/
def tFor (wi : TI) (g : TG) (tb : TS) : TS := fun D σ H => wi σ H fun J H1 => ∃ W : Nat → Nat → St → Hp → Prop, (∃ m, W 0 m σ H1) ∧ ∀ i m σ H, W i m σ H →
  (J.stop i H ∧ D.nx σ H) ∨ (J.go i H ∧ ∃ N : St → Hp → Prop, (∀ σ' H', N σ' H' → ∃ m', m' < m ∧ W (i + 1) m' σ' H') ∧ ∀ x H', J.yld i H x H' → g x σ H' fun σ2 H2 => tb { D with nx := N, ct := N, bk := D.nx } σ2 H2)
/-- the records at fp as they stand -/
def pinsAt (fp : List Addr) (h : Heap) : List (Addr × Obj) := fp.filterMap fun b => (h.get? b).map fun o => (b, o)
theorem mem_pinsAt {fp : List Addr} {h : Heap} {b : Addr} {o : Obj} (hb : b ∈ fp) (e : h.get? b = some o) : (b, o) ∈ pinsAt fp h := List.mem_filterMap.mpr ⟨b, hb, by rw [e]; rfl⟩
theorem of_pinsAt {fp : List Addr} {h : Heap} {p : Addr × Obj} (hp : p ∈ pinsAt fp h) : p.1 ∈ fp ∧ h.get? p.1 = some p.2 := by
  obtain ⟨b, hb, e⟩ := List.mem_filterMap.mp hp
  cases q : h.get? b with
  | none => rw [q] at e; cases e
  | some o =>
    rw [q] at e
    have e' : (b, o) = p := Option.some.inj e
    subst e'
    exact ⟨hb, q⟩
theorem Inv.pinned {pins : List (Addr × Obj)} {σ : St} {H : Hp} {s : Shared} {fp : List Addr} (I : Inv X pins σ H s) (hf : ∀ b ∈ fp, FpOk X pins H b) (ho : ∀ b ∈ fp, ∃ o, s.heap.get? b = some o ∧ ∀ v, o.data ≠ .cell v) : Inv X (pins ++ pinsAt fp s.heap) σ H s :=
  I.pins_of fun p hp => (List.mem_append.mp hp).elim (fun z => I.pin p (List.mem_append_right _ z)) fun z => by
    obtain ⟨hb, e⟩ := of_pinsAt z
    obtain ⟨f0, f1, f2, _⟩ := hf p.1 hb
    obtain ⟨o, e', d⟩ := ho p.1 hb
    rw [e] at e'; cases e'
    exact ⟨e, f0, f1, f2, d⟩
theorem Inv.unpinned {pins pl : List (Addr × Obj)} {σ : St} {H : Hp} {s : Shared} (I : Inv X (pins ++ pl) σ H s) : Inv X pins σ H s := I.pins_of fun p hp => I.pin p (List.mem_append_right _ (List.mem_append_left _ hp))
theorem ps_for {iter : Expr} {body : List Stmt} {wi : TI} {g : TG} {tb : TS} {pos : Pos} (hp : PassesOwn (model X.prog X.w) X.A X.env X.xe) (hc : X.calm = true) (hi : PI X tg iter wi) (hg : PG X tg g) (hb : PSs X body tb)
    (hs : ∀ x, foldedSetIterable iter X.env x = pure x := by intro _; rfl) : PS X (.For tg iter body [] pos) (tFor wi g tb) := by
  intro pins s σ H D I h
  refine wpAny_For (thn (hi pins s σ H _ I h) fun v s1 h1 => thn h1 fun itv s2 h2 => ?_) hs
  obtain ⟨it, fp, tn, J, H2, e, I2, T, st2, f2, W, ⟨m0, w0⟩, turn⟩ := h2
  subst e
  -- what stays true of the iterator's objects through the loop
  have stat : ∀ {H' : Hp}, (∀ b ∈ fp, H' b = none) → ∀ b ∈ fp, FpOk X pins H' b := fun hn b hb => ⟨hn b hb, (f2 b hb).2⟩
  refine codeAny_forLoop_any (fun n s' => ∃ i σ' H', Inv X pins σ' H' s' ∧ tn i s'.heap ∧ (∀ b ∈ fp, H' b = none) ∧ W i n σ' H') ?_ m0 ⟨0, σ, H2, I2, st2, fun b hb => (f2 b hb).1, w0⟩
  rintro n s3 ⟨i, σ3, H3, I3, st3, fr3, w3⟩
  rcases turn i n σ3 H3 w3 with ⟨stop, qn⟩ | ⟨go, N, hN, step⟩
  · refine wpAny_passesOwn hp (thn (T.done X rfl rfl rfl hc i pins s3 σ3 H3 X.xe I3 (stat fr3) st3 stop) fun r s4 ⟨hr, I4⟩ => ?_)
    subst hr
    exact wpAny_execs_nil ⟨σ3, H3, I4, qn⟩
  · refine wpAny_passesOwn hp (thn (T.item X rfl rfl rfl hc i pins s3 σ3 H3 X.xe I3 (stat fr3) st3 go) fun r s4 ⟨u, hr, h4⟩ => ?_)
    subst hr
    refine wpAny_passesOwn hp (thn h4 fun _ s5 ⟨x, H5, I5, r5, y5, st5, fr5⟩ => ?_)
    have I5' := I5.pinned (stat fr5) (T.obj _ _ st5)
    refine wpAny_passesOwn hp (thn (hg _ s5 σ3 H5 x u _ I5' r5 (step x H5 y5)) fun _ s6 ⟨σ6, H6, I6, q6⟩ => ?_)
    refine wpAny_passesOwn hp (thn (hb _ s6 σ6 H6 _ I6 q6) fun f s7 q7 => ?_)
    have again : ∀ {σ7 : St} {H7 : Hp}, Inv X (pins ++ pinsAt fp s5.heap) σ7 H7 s7 → N σ7 H7 → ∃ m, m < n ∧ ∃ i σ' H', Inv X pins σ' H' s7 ∧ tn i s7.heap ∧ (∀ b ∈ fp, H' b = none) ∧ W i m σ' H' := fun {σ7 H7} I7 n7 => by
      obtain ⟨m', hm, w7⟩ := hN σ7 H7 n7
      refine ⟨m', hm, i + 1, σ7, H7, I7.unpinned, T.keep _ _ _ st5 fun b hb o e => (I7.pin (b, o) (List.mem_append_right _ (List.mem_append_right _ (mem_pinsAt hb e)))).1, fun b hb => ?_, w7⟩
      obtain ⟨o, e, d⟩ := T.obj _ _ st5 b hb
      exact (I7.pin (b, o) (List.mem_append_right _ (List.mem_append_right _ (mem_pinsAt hb e)))).2.1
    cases f with
    | next => obtain ⟨σ7, H7, I7, n7⟩ := q7; exact again I7 n7
    | cont => obtain ⟨σ7, H7, I7, n7⟩ := q7; exact again I7 n7
    | brk => obtain ⟨σ7, H7, I7, q7⟩ := q7; exact ⟨σ7, H7, I7.unpinned, q7⟩
    | ret v => obtain ⟨x7, σ7, H7, I7, r7, q7⟩ := q7; exact ⟨x7, σ7, H7, I7.unpinned, r7, q7⟩
end

/-! ### the forms one uses -/
/-- over a list that the body leaves as it is -/
theorem for_list {K : PySem.W.Frag} {a : Addr} {xs : List V} {g : TG} {tb : TS} {D : Ends} {σ : St} {H : Hp} (Pv : Nat → St → Hp → Prop) (h0 : Pv 0 σ H) (hl : ∀ i σ H, i ≤ xs.length → Pv i σ H → SqL K H a xs)
    (hs : ∀ i x σ H, xs[i]? = some x → Pv i σ H → g x σ H fun σ2 H2 => tb { D with nx := Pv (i + 1), ct := Pv (i + 1), bk := D.nx } σ2 H2) (hd : ∀ σ H, Pv xs.length σ H → D.nx σ H) :
    ∃ W : Nat → Nat → St → Hp → Prop, (∃ m, W 0 m σ H) ∧ ∀ i m σ H, W i m σ H →
      ((Itl K a).stop i H ∧ D.nx σ H) ∨ ((Itl K a).go i H ∧ ∃ N : St → Hp → Prop, (∀ σ' H', N σ' H' → ∃ m', m' < m ∧ W (i + 1) m' σ' H') ∧ ∀ x H', (Itl K a).yld i H x H' → g x σ H' fun σ2 H2 => tb { D with nx := N, ct := N, bk := D.nx } σ2 H2) := by
  refine ⟨fun i m σ H => m = xs.length - i ∧ i ≤ xs.length ∧ Pv i σ H, ⟨xs.length, by simp, Nat.zero_le _, h0⟩, ?_⟩
  rintro i m σ H ⟨rfl, hi, p⟩
  have q := hl i σ H hi p
  by_cases hlt : i < xs.length
  · refine .inr ⟨⟨xs, xs[i], q, by simp [hlt]⟩, Pv (i + 1), fun σ' H' p' => ⟨xs.length - (i + 1), by omega, rfl, hlt, p'⟩, fun x H' y => ?_⟩
    obtain ⟨e, y⟩ := y
    subst e
    exact hs i x σ _ (y xs q) p
  · have e : i = xs.length := by omega
    subst e
    exact .inl ⟨⟨xs, q, Nat.le_refl _⟩, hd σ H p⟩
theorem for_range {lo : Int} {n : Nat} {g : TG} {tb : TS} {D : Ends} {σ : St} {H : Hp} (Pv : Nat → St → Hp → Prop) (h0 : Pv 0 σ H)
    (hs : ∀ i σ H, i < n → Pv i σ H → g (.int (lo + i)) σ H fun σ2 H2 => tb { D with nx := Pv (i + 1), ct := Pv (i + 1), bk := D.nx } σ2 H2) (hd : ∀ σ H, Pv n σ H → D.nx σ H) :
    ∃ W : Nat → Nat → St → Hp → Prop, (∃ m, W 0 m σ H) ∧ ∀ i m σ H, W i m σ H →
      ((Itr lo n).stop i H ∧ D.nx σ H) ∨ ((Itr lo n).go i H ∧ ∃ N : St → Hp → Prop, (∀ σ' H', N σ' H' → ∃ m', m' < m ∧ W (i + 1) m' σ' H') ∧ ∀ x H', (Itr lo n).yld i H x H' → g x σ H' fun σ2 H2 => tb { D with nx := N, ct := N, bk := D.nx } σ2 H2) := by
  refine ⟨fun i m σ H => m = n - i ∧ i ≤ n ∧ Pv i σ H, ⟨n, by simp, Nat.zero_le _, h0⟩, ?_⟩
  rintro i m σ H ⟨rfl, hi, p⟩
  by_cases hlt : i < n
  · refine .inr ⟨hlt, Pv (i + 1), fun σ' H' p' => ⟨n - (i + 1), by omega, rfl, hlt, p'⟩, fun x H' y => ?_⟩
    obtain ⟨e, y⟩ := y
    subst e y
    exact hs i σ _ hlt p
  · have e : i = n := by omega
    subst e
    exact .inl ⟨Nat.le_refl _, hd σ H p⟩
end L2

namespace L2
open PySem PySem.Spec PyProof.Rows

abbrev R2 := V → V → Hp → VK → Prop
/-- a two-place operation on values: f is binaryOp op, inplaceOp op or compareOp op -/
def OpR (X : Cx) (f : Value → Value → Sem Value) (r : R2) : Prop :=
  ∀ (pins : List (Addr × Obj)) (s : Shared) (σ : St) (H : Hp) (x y : V) (v u : Value) (Q : VK), Inv X pins σ H s → RelV x v → RelV y u → r x y H Q →
    wpAny (model X.prog X.w) X.A (f v u) (EP X pins σ Q) X.xe s
/-- a call of a value that is known (a builtin, a type) with values -/
def CallR (X : Cx) (f : Value) (r : List V → Hp → VK → Prop) : Prop :=
  ∀ (pins : List (Addr × Obj)) (s : Shared) (σ : St) (H : Hp) (xs : List V) (us : List Value) (Q : VK), Inv X pins σ H s → Vals xs us → r xs H Q →
    wpAny (model X.prog X.w) X.A (call f us) (EP X pins σ Q) X.xe s
/-- a value's truth -/
def TruR (X : Cx) (r : V → Hp → (Bool → Hp → Prop) → Prop) : Prop :=
  ∀ (pins : List (Addr × Obj)) (s : Shared) (σ : St) (H : Hp) (x : V) (v : Value) (Q : Bool → Hp → Prop), Inv X pins σ H s → RelV x v → r x H Q →
    wpAny (model X.prog X.w) X.A (truthy v) (TP X pins σ Q) X.xe s

def tOp (r : R2) (ta tb : TE) : TE := fun σ H Q => ta σ H fun x H1 => tb σ H1 fun y H2 => r x y H2 Q
/-- ints in, under C, and a value out -/
def rI (C : Int → Int → Prop) (g : Int → Int → V) : R2 := fun x y H Q => ∃ i j, x = .int i ∧ y = .int j ∧ C i j ∧ Q (g i j) H
def rI0 (g : Int → Int → V) : R2 := fun x y H Q => ∃ i j, x = .int i ∧ y = .int j ∧ Q (g i j) H
section
variable {X : Cx} {a b c : Expr} {ta tb tc : TE} {pos : Pos}

theorem binT (ha : PE X a ta) (hb : PE X b tb) {pins : List (Addr × Obj)} {s : Shared} {σ : St} {H : Hp} {R : V → V → Hp → Prop} (I : Inv X pins σ H s)
    (h : ta σ H fun x H1 => tb σ H1 fun y H2 => R x y H2) {Q : Value → Shared → Prop} {f : Value → Value → Sem Value}
    (hf : ∀ v u s2 x y H2, Inv X pins σ H2 s2 → RelV x v → RelV y u → R x y H2 → wpAny (model X.prog X.w) X.A (f v u) Q X.xe s2) :
    wpAny (model X.prog X.w) X.A (eval a X.env) (fun v s₁ => wpAny (model X.prog X.w) X.A (eval b X.env) (fun u s₂ => wpAny (model X.prog X.w) X.A (f v u) Q X.xe s₂) X.xe s₁) X.xe s := by
  refine thn (ha pins s σ H _ I h) fun v s1 ⟨x, H1, I1, r1, q1⟩ => ?_
  refine thn (hb pins s1 σ H1 _ I1 q1) fun u s2 ⟨y, H2, I2, r2, q2⟩ => ?_
  exact hf v u s2 x y H2 I2 r1 r2 q2

theorem pe_op {op : Operator} {r : R2} (ho : OpR X (binaryOp op) r) (ha : PE X a ta) (hb : PE X b tb) : PE X (.BinOp a op b pos) (tOp r ta tb) := by
  intro pins s σ H Q I h
  exact wpAny_BinOp (binT ha hb I h fun v u s2 x y H2 I2 rx ry q => ho pins s2 σ H2 x y v u Q I2 rx ry q)
/-! ### ints -/
theorem opI {f : Value → Value → Sem Value} {C : Int → Int → Prop} {g : Int → Int → Int}
    (rule : ∀ (i j : Int) (t u : Tok) (s : Shared) (Q : Value → Shared → Prop) (E : Value → Shared → Prop), C i j → Q (.int (g i j) s.toks) { s with toks := s.toks + 1 } → wpAny (model X.prog X.w) X.A (f (.int i t) (.int j u)) Q E s) :
    OpR X f (rI C fun i j => .int (g i j)) := by
  intro pins s σ H x y v u Q I rx ry h
  obtain ⟨i, j, rfl, rfl, hc, q⟩ := h
  obtain ⟨t, rfl⟩ := rx
  obtain ⟨t', rfl⟩ := ry
  exact rule i j t t' s _ _ hc ⟨.int (g i j), H, I.tok _, ⟨_, rfl⟩, q⟩
theorem opI0 {f : Value → Value → Sem Value} {g : Int → Int → Int}
    (rule : ∀ (i j : Int) (t u : Tok) (s : Shared) (Q : Value → Shared → Prop) (E : Value → Shared → Prop), Q (.int (g i j) s.toks) { s with toks := s.toks + 1 } → wpAny (model X.prog X.w) X.A (f (.int i t) (.int j u)) Q E s) :
    OpR X f (rI0 fun i j => .int (g i j)) := by
  intro pins s σ H x y v u Q I rx ry h
  obtain ⟨i, j, rfl, rfl, q⟩ := h
  obtain ⟨t, rfl⟩ := rx
  obtain ⟨t', rfl⟩ := ry
  exact rule i j t t' s _ _ ⟨.int (g i j), H, I.tok _, ⟨_, rfl⟩, q⟩
theorem opB0 {f : Value → Value → Sem Value} {g : Int → Int → Bool}
    (rule : ∀ (i j : Int) (t u : Tok) (s : Shared) (Q : Value → Shared → Prop) (E : Value → Shared → Prop), Q (.bool (g i j)) s → wpAny (model X.prog X.w) X.A (f (.int i t) (.int j u)) Q E s) :
    OpR X f (rI0 fun i j => .bl (g i j)) := by
  intro pins s σ H x y v u Q I rx ry h
  obtain ⟨i, j, rfl, rfl, q⟩ := h
  obtain ⟨t, rfl⟩ := rx
  obtain ⟨t', rfl⟩ := ry
  exact rule i j t t' s _ _ ⟨.bl (g i j), H, I, rfl, q⟩

def CPow (i j : Int) : Prop := 0 ≤ j ∧ j ≤ 1000000 ∧ i.natAbs < 2 ^ 64
def CMul (i j : Int) : Prop := (-(2 ^ 64) < i ∧ i < 2 ^ 64) ∨ (-(2 ^ 64) < j ∧ j < 2 ^ 64)
theorem CMul.ok {i j : Int} (h : CMul i j) : IntMulOk i j := by
  rcases h with ⟨h1, h2⟩ | ⟨h1, h2⟩
  · exact .of_left (intBits_le_64 h1 h2)
  · exact .of_right (intBits_le_64 h1 h2)
theorem op_add : OpR X (binaryOp .Add) (rI0 fun i j => .int (i + j)) := opI0 fun _ _ _ _ _ _ _ q => add_int q
theorem op_sub : OpR X (binaryOp .Sub) (rI0 fun i j => .int (i - j)) := opI0 fun _ _ _ _ _ _ _ q => sub_int q
theorem op_mul : OpR X (binaryOp .Mult) (rI CMul fun i j => .int (i * j)) := opI fun _ _ _ _ _ _ _ hc q => mul_int q hc.ok
/-- % by a positive divisor of any size -/
theorem op_mod : OpR X (binaryOp .Mod) (rI (fun _ j => 0 < j) fun i j => .int (i % j)) := opI fun i j _ _ _ _ _ hc q => by
  have h1 : (0 : Int) < j := hc
  exact mod_int' (by omega) (by rw [Int.fmod_eq_emod_of_nonneg i (by omega)]; exact q)
theorem op_pow : OpR X (binaryOp .Pow) (rI CPow fun i j => .int (i ^ j.toNat)) := opI fun _ _ _ _ _ _ _ hc q => pow_int_small hc.1 hc.2.1 hc.2.2 q
/-! ### bools among ints: n += (a < b) -/
end

/-! ### comparisons -/
/-- the scalars that == tells apart as data does -/
def scal : V → V → Bool
  | .non, .non => true | .non, .int _ => true | .int _, .non => true | .non, .bl _ => true | .bl _, .non => true | .non, .str _ => true | .str _, .non => true
  | .int _, .int _ => true | .bl _, .bl _ => true | .str _, .str _ => true | .byt _, .byt _ => true
  | .int _, .str _ => true | .str _, .int _ => true | .bl _, .str _ => true | .str _, .bl _ => true
  | _, _ => false
def rEq : R2 := fun x y H Q => scal x y = true ∧ Q (.bl (decide (x = y))) H
def rNe : R2 := fun x y H Q => scal x y = true ∧ Q (.bl (!decide (x = y))) H

theorem dec_int {i j : Int} : decide (V.int i = V.int j) = (i == j) := by
  rw [Bool.eq_iff_iff]
  simp
theorem dec_bl {i j : Bool} : decide (V.bl i = V.bl j) = (i == j) := by
  rw [Bool.eq_iff_iff]
  simp
theorem dec_str {i j : Str} : decide (V.str i = V.str j) = (i == j) := by
  rw [Bool.eq_iff_iff]
  simp
theorem dec_byt {i j : Array UInt8} : decide (V.byt i = V.byt j) = (i.toList == j.toList) := by
  rw [Bool.eq_iff_iff]
  cases i
  cases j
  simp

section
variable {X : Cx} {a b c : Expr} {ta tb tc : TE} {pos : Pos}
theorem fin_bl {pins : List (Addr × Obj)} {σ : St} {H : Hp} {s : Shared} {Q : VK} {k k' : Bool} (I : Inv X pins σ H s) (q : Q (.bl k) H) (e : k = k') : EP X pins σ Q (.bool k') s := by
  subst e
  exact ⟨.bl k, H, I, rfl, q⟩
theorem op_eq : OpR X (compareOp .Eq) rEq := by
  intro pins s σ H x y v u Q I rx ry h
  obtain ⟨hs, q⟩ := h
  cases x with
  | non =>
    cases rx
    cases y with
    | non => cases ry; exact PySem.EqNone.eq_none_none (fin_bl I q (by simp))
    | bl j => cases ry; exact PySem.EqNone.eq_none_bool (fin_bl I q (by simp))
    | int j => obtain ⟨t', rfl⟩ := ry; exact PySem.EqNone.eq_none_int (fin_bl I q (by simp))
    | str j => obtain ⟨t', rfl⟩ := ry; exact PySem.EqNone.eq_none_str (fin_bl I q (by simp))
    | _ => exact absurd (show false = true from hs) Bool.false_ne_true
  | bl i =>
    cases rx
    cases y with
    | non => cases ry; exact PySem.EqNone.eq_bool_none (fin_bl I q (by simp))
    | bl j => cases ry; exact eq_bool (fin_bl I q dec_bl)
    | str j => obtain ⟨t', rfl⟩ := ry; exact PySem.EqMixed.eq_bool_str (fin_bl I q (by simp))
    | _ => exact absurd (show false = true from hs) Bool.false_ne_true
  | int i =>
    obtain ⟨t, rfl⟩ := rx
    cases y with
    | non => cases ry; exact PySem.EqNone.eq_int_none (fin_bl I q (by simp))
    | int j => obtain ⟨t', rfl⟩ := ry; exact eq_int (fin_bl I q dec_int)
    | str j => obtain ⟨t', rfl⟩ := ry; exact PySem.EqMixed.eq_int_str (fin_bl I q (by simp))
    | _ => exact absurd (show false = true from hs) Bool.false_ne_true
  | str i =>
    obtain ⟨t, rfl⟩ := rx
    cases y with
    | non => cases ry; exact PySem.EqNone.eq_str_none (fin_bl I q (by simp))
    | bl j => cases ry; exact PySem.EqMixed.eq_str_bool (fin_bl I q (by simp))
    | int j => obtain ⟨t', rfl⟩ := ry; exact PySem.EqMixed.eq_str_int (fin_bl I q (by simp))
    | str j => obtain ⟨t', rfl⟩ := ry; exact eq_str (fin_bl I q dec_str)
    | _ => exact absurd (show false = true from hs) Bool.false_ne_true
  | byt i =>
    obtain ⟨t, rfl⟩ := rx
    cases y with
    | byt j => obtain ⟨t', rfl⟩ := ry; exact PySem.W.eq_bytes (fin_bl I q dec_byt)
    | _ => exact absurd (show false = true from hs) Bool.false_ne_true
  | _ => cases y <;> exact absurd (show false = true from hs) Bool.false_ne_true
theorem op_ne : OpR X (compareOp .NotEq) rNe := by
  intro pins s σ H x y v u Q I rx ry h
  obtain ⟨hs, q⟩ := h
  cases x with
  | non =>
    cases rx
    cases y with
    | non => cases ry; exact PySem.EqNone.ne_none_none (fin_bl I q (by simp))
    | bl j => cases ry; exact PySem.EqNone.ne_none_bool (fin_bl I q (by simp))
    | int j => obtain ⟨t', rfl⟩ := ry; exact PySem.EqNone.ne_none_int (fin_bl I q (by simp))
    | str j => obtain ⟨t', rfl⟩ := ry; exact PySem.EqNone.ne_none_str (fin_bl I q (by simp))
    | _ => exact absurd (show false = true from hs) Bool.false_ne_true
  | bl i =>
    cases rx
    cases y with
    | non => cases ry; exact PySem.EqNone.ne_bool_none (fin_bl I q (by simp))
    | bl j => cases ry; exact ne_bool (fin_bl I q (congrArg not dec_bl))
    | str j => obtain ⟨t', rfl⟩ := ry; exact PySem.EqMixed.ne_bool_str (fin_bl I q (by simp))
    | _ => exact absurd (show false = true from hs) Bool.false_ne_true
  | int i =>
    obtain ⟨t, rfl⟩ := rx
    cases y with
    | non => cases ry; exact PySem.EqNone.ne_int_none (fin_bl I q (by simp))
    | int j => obtain ⟨t', rfl⟩ := ry; exact ne_int (fin_bl I q (congrArg not dec_int))
    | str j => obtain ⟨t', rfl⟩ := ry; exact PySem.EqMixed.ne_int_str (fin_bl I q (by simp))
    | _ => exact absurd (show false = true from hs) Bool.false_ne_true
  | str i =>
    obtain ⟨t, rfl⟩ := rx
    cases y with
    | non => cases ry; exact PySem.EqNone.ne_str_none (fin_bl I q (by simp))
    | bl j => cases ry; exact PySem.EqMixed.ne_str_bool (fin_bl I q (by simp))
    | int j => obtain ⟨t', rfl⟩ := ry; exact PySem.EqMixed.ne_str_int (fin_bl I q (by simp))
    | str j => obtain ⟨t', rfl⟩ := ry; exact ne_str (fin_bl I q (congrArg not dec_str))
    | _ => exact absurd (show false = true from hs) Bool.false_ne_true
  | byt i =>
    obtain ⟨t, rfl⟩ := rx
    cases y with
    | byt j => obtain ⟨t', rfl⟩ := ry; exact PySem.W.ne_bytes (fin_bl I q (congrArg not dec_byt))
    | _ => exact absurd (show false = true from hs) Bool.false_ne_true
  | _ => cases y <;> exact absurd (show false = true from hs) Bool.false_ne_true

theorem op_lt : OpR X (compareOp .Lt) (rI0 fun i j => .bl (decide (i < j))) := opB0 fun _ _ _ _ _ _ _ q => lt_int q
theorem op_le : OpR X (compareOp .LtE) (rI0 fun i j => .bl (decide (i ≤ j))) := opB0 fun _ _ _ _ _ _ _ q => le_int q
theorem op_gt : OpR X (compareOp .Gt) (rI0 fun i j => .bl (decide (j < i))) := opB0 fun _ _ _ _ _ _ _ q => gt_int q
theorem op_ge : OpR X (compareOp .GtE) (rI0 fun i j => .bl (decide (j ≤ i))) := opB0 fun _ _ _ _ _ _ _ q => ge_int q
/-- the one string within the other -/
theorem op_in_str : OpR X (compareOp .In) (fun x y H Q => ∃ i j, x = .str i ∧ y = .str j ∧ Q (.bl (!(Builtin.Str.occurrences j i 0 j.length 1).isEmpty)) H) := by
  intro pins s σ H x y v u Q I rx ry h
  obtain ⟨i, j, rfl, rfl, q⟩ := h
  obtain ⟨t, rfl⟩ := rx
  obtain ⟨t', rfl⟩ := ry
  exact in_str (fin_bl I q rfl)

/-- is None, is not None: the right side a value none -/
theorem op_isN : OpR X (compareOp .Is) (fun x y H Q => y = .non ∧ Q (.bl (decide (x = .non))) H) := by
  intro pins s σ H x y v u Q I rx ry h
  obtain ⟨rfl, q⟩ := h
  cases ry
  refine is_none_gen (fin_bl I q ?_)
  cases x <;> first
    | (cases rx; rfl)
    | (obtain ⟨t, rfl⟩ := rx; rfl)
theorem nomark (b : Expr) {op : CmpOp} (h : op ≠ .In := by decide) (h2 : op ≠ .NotIn := by decide) : behindInMarks op b = false := by
  have e1 : (op == CmpOp.In) = false := by cases op <;> first | rfl | exact absurd rfl h
  have e2 : (op == CmpOp.NotIn) = false := by cases op <;> first | rfl | exact absurd rfl h2
  cases b <;> simp [behindInMarks, e1, e2]
/-- a comparison as a value; hm: nomark b, or (for in, not in) by with_unfolding_all rfl -/
theorem pe_cmpR {op : CmpOp} {r : R2} (ho : OpR X (compareOp op) r) (ha : PE X a ta) (hb : PE X b tb) (hm : behindInMarks op b = false) : PE X (.Compare a [op] [b] pos) (tOp r ta tb) := by
  intro pins s σ H Q I h
  exact wpAny_Compare1 (binT ha hb I h fun v u s2 x y H2 I2 rx ry q => ho pins s2 σ H2 x y v u Q I2 rx ry q) hm
/-- a reading of a value as a test -/
def tTest (t : TE) : TT := fun σ H Q => t σ H fun x H' => ∃ k, x = .bl k ∧ Q k H'
theorem pt_cmpR {op : CmpOp} {r : R2} (ho : OpR X (compareOp op) r) (ha : PE X a ta) (hb : PE X b tb) (hm : behindInMarks op b = false) : PT X (.Compare a [op] [b] pos) (tTest (tOp r ta tb)) := by
  intro pins s σ H Q I h
  refine wpAny_isTrue_Compare1 (thn (ha pins s σ H _ I h) fun v s1 ⟨x, H1, I1, r1, q1⟩ => thn (hb pins s1 σ H1 _ I1 q1) fun u s2 ⟨y, H2, I2, r2, q2⟩ =>
    thn (ho pins s2 σ H2 x y v u _ I2 r1 r2 q2) fun c s3 ⟨z, H3, I3, r3, k, e, q3⟩ => ?_) hm
  subst e
  cases r3
  exact wpAny_truthy_bool ⟨H3, I3, q3⟩
/-- a op1 b op2 c -/
def tChain (r r' : R2) (ta tb tc : TE) : TE := fun σ H Q => ta σ H fun x H1 => tb σ H1 fun y H2 => r x y H2 fun z H3 => ∃ k, z = .bl k ∧
  (if k = true then tc σ H3 fun w' H4 => r' y w' H4 Q else Q (.bl false) H3)
theorem pt_chain {op op' : CmpOp} {r r' : R2} (ho : OpR X (compareOp op) r) (ho' : OpR X (compareOp op') r') (ha : PE X a ta) (hb : PE X b tb) (hc : PE X c tc)
    (hm : lastMarks [op, op'] [b, c] = false := by with_unfolding_all rfl) : PT X (.Compare a [op, op'] [b, c] pos) (tTest (tChain r r' ta tb tc)) := by
  intro pins s σ H Q I h
  refine isTrue_chain (thn (ha pins s σ H _ I h) fun v s1 ⟨x, H1, I1, r1, q1⟩ => test_link (thn (hb pins s1 σ H1 _ I1 q1) fun u s2 ⟨y, H2, I2, r2, q2⟩ =>
    thn (ho pins s2 σ H2 x y v u _ I2 r1 r2 q2) fun d s3 ⟨z, H3, I3, r3, k, e, q3⟩ => ?_)) hm
  subst e
  cases r3
  refine wpAny_truthy_bool ?_
  cases k with
  | false =>
    obtain ⟨k', e', q'⟩ := q3
    cases e'
    exact ite_ff ⟨H3, I3, q'⟩
  | true =>
    refine ite_tt (test_last (thn (hc pins s3 σ H3 _ I3 q3) fun w' s4 ⟨z', H4, I4, r4, q4⟩ => thn (ho' pins s4 σ H4 y z' u w' _ I4 r2 r4 q4) fun d' s5 ⟨z2, H5, I5, r5, k2, e2, q5⟩ => ?_))
    subst e2
    cases r5
    exact wpAny_truthy_bool ⟨H5, I5, q5⟩

/-! ### truth -/
/-- a value's truth by the abstract heap -/
def TruV (K : PySem.W.Frag) (x : V) (H : Hp) (k : Bool) : Prop :=
  match x with
  | .non => k = false
  | .bl b => k = b
  | .int i => k = (i != 0)
  | .str y => y.length ≤ sizeLine ∧ k = ((y.length : Int) != 0)
  | .byt y => y.size ≤ sizeLine ∧ k = ((y.size : Int) != 0)
  | .ref p => (∃ xs, SqL K H p xs ∧ k = !xs.isEmpty) ∨ (∃ xs, SqT K H p xs ∧ k = !xs.isEmpty) ∨ ∃ kvs, H p = some (.dK kvs) ∧ k = !kvs.isEmpty
  | _ => False
theorem isEmpty_kv {κ : Type} {kvs : List (κ × V)} {vs : List (κ × Value)} (r : KV kvs vs) : (!vs.isEmpty) = !kvs.isEmpty := by
  cases r <;> rfl
theorem isEmpty_of {xs : List V} {its : List Value} (r : Vals xs its) : (!its.toArray.isEmpty) = !xs.isEmpty := by
  cases r <;> simp
theorem line63 : (sizeLine : Nat) < 2 ^ 63 := by rw [sizeLine_eq]; decide
theorem tru_ok : TruR X (fun x H Q => ∃ k, TruV X.K x H k ∧ Q k H) := by
  intro pins s σ H x v Q I rx h
  obtain ⟨k, e, q⟩ := h
  have hl := line63
  have hs : sizeLine = 16777216 := sizeLine_eq
  cases x with
  | non =>
    cases rx
    have e' : k = false := e
    subst e'
    exact truthy_none ⟨H, I, q⟩
  | bl b =>
    cases rx
    have e' : k = b := e
    subst e'
    exact wpAny_truthy_bool ⟨H, I, q⟩
  | int i =>
    obtain ⟨t, rfl⟩ := rx
    have e' : k = (i != 0) := e
    subst e'
    exact PySem.P.truthy_int ⟨H, I, q⟩
  | str y =>
    obtain ⟨t, rfl⟩ := rx
    obtain ⟨hy, e'⟩ : y.length ≤ sizeLine ∧ k = ((y.length : Int) != 0) := e
    subst e'
    exact PySem.P.truthy_str (by omega) ⟨H, I.tok _, q⟩
  | byt y =>
    obtain ⟨t, rfl⟩ := rx
    obtain ⟨hy, e'⟩ : y.size ≤ sizeLine ∧ k = ((y.size : Int) != 0) := e
    subst e'
    exact PySem.W.truthy_bytes (by omega) ⟨H, I.tok _, q⟩
  | ref p =>
    cases rx
    have e' : (∃ xs, SqL X.K H p xs ∧ k = !xs.isEmpty) ∨ (∃ xs, SqT X.K H p xs ∧ k = !xs.isEmpty) ∨ ∃ kvs, H p = some (.dK kvs) ∧ k = !kvs.isEmpty := e
    rcases e' with ⟨xs, hx, e'⟩ | ⟨xs, hx, e'⟩ | ⟨kvs, hx, e'⟩
    · subst e'
      obtain ⟨its, r, pl, hz⟩ := I.list hx
      have hlen := r.length
      exact wpAny_truthy_list pl.isList (by simp only [List.size_toArray]; omega) ⟨H, I.tok _, by rw [isEmpty_of r]; exact q⟩
    · subst e'
      obtain ⟨its, r, pl, hz⟩ := I.tuple hx
      have hlen := r.length
      exact truthy_tuple pl (by simp only [List.size_toArray]; omega) ⟨H, I.tok _, by rw [isEmpty_of r]; exact q⟩
    · subst e'
      obtain ⟨hz, hS, vs, r, m⟩ : kvs.length ≤ sizeLine ∧ (p == sysModules) = false ∧ ∃ vs, KV kvs vs ∧ s.heap.DictOf (mixKind X.prog X.w) p vs := I.hok p _ hx
      have hlen : kvs.length = vs.length := Paired.length r
      exact wpAny_truthy_dict hS m (by omega) ⟨H, I.tok _, by rw [isEmpty_kv r]; exact q⟩
  | _ => exact (show False from e).elim
/-- any expression whose test is its value's truth (a name, a call, a subscript, a field ..: he by fun _ => rfl) -/
theorem pt_truth (ha : PE X a ta) (he : ∀ whole, isTrue a X.env whole = (do let v ← whole; standAt a.pos; holding [v] (truthy v))) :
    PT X a (fun σ H Q => ta σ H fun x H' => ∃ k, TruV X.K x H' k ∧ Q k H') := by
  intro pins s σ H Q I h
  exact isTrue_plain (thn (ha pins s σ H _ I h) fun v s1 ⟨x, H1, I1, r1, q1⟩ => tru_ok pins s1 σ H1 x v Q I1 r1 q1) (he _)

/-! ### strs and bytes -/
theorem op_add_str : OpR X (binaryOp .Add) (fun x y H Q => ∃ i j, x = .str i ∧ y = .str j ∧ i.length + j.length ≤ sizeLine ∧ Q (.str (i ++ j)) H) := by
  intro pins s σ H x y v u Q I rx ry h
  obtain ⟨i, j, rfl, rfl, hz, q⟩ := h
  obtain ⟨t, rfl⟩ := rx
  obtain ⟨t', rfl⟩ := ry
  exact add_str (fun t' tk => ⟨.str (i ++ j), H, I.tok _, ⟨_, rfl⟩, q⟩) hz
/-! ### scalar builtins, by CallR -/
theorem vals1 {x : V} {us : List Value} (r : Vals [x] us) : ∃ u, us = [u] ∧ RelV x u := by
  cases r with
  | cons r1 r2 => cases r2; exact ⟨_, rfl, r1⟩
theorem vals2 {x y : V} {us : List Value} (r : Vals [x, y] us) : ∃ u w', us = [u, w'] ∧ RelV x u ∧ RelV y w' := by
  cases r with
  | cons r1 r2 =>
    cases r2 with
    | cons r3 r4 => cases r4; exact ⟨_, _, rfl, r1, r3⟩
theorem call_abs : CallR X (.builtin "abs") (fun xs H Q => ∃ i, xs = [.int i] ∧ Q (.int (if i < 0 then -i else i)) H) := by
  intro pins s σ H xs us Q I r h
  obtain ⟨i, rfl, q⟩ := h
  obtain ⟨u, rfl, t, rfl⟩ := vals1 r
  exact call_abs_int fun u tk => ⟨.int (if i < 0 then -i else i), H, I.tok _, ⟨_, rfl⟩, q⟩
theorem call_max2 (hc : X.calm = true) : CallR X (.builtin "max") (fun xs H Q => ∃ i j, xs = [.int i, .int j] ∧ Q (.int (if j > i then j else i)) H) := by
  intro pins s σ H xs us Q I r h
  obtain ⟨i, j, rfl, q⟩ := h
  obtain ⟨u, w', rfl, ⟨t, rfl⟩, ⟨t', rfl⟩⟩ := vals2 r
  refine max_two_ints (I.ok.hd hc) fun h' tk k => ⟨_, H, I.kept k, ?_, q⟩
  by_cases hj : j > i
  · rw [if_pos hj, if_pos hj]; exact ⟨_, rfl⟩
  · rw [if_neg hj, if_neg hj]; exact ⟨_, rfl⟩
theorem call_min2 (hc : X.calm = true) : CallR X (.builtin "min") (fun xs H Q => ∃ i j, xs = [.int i, .int j] ∧ Q (.int (if j < i then j else i)) H) := by
  intro pins s σ H xs us Q I r h
  obtain ⟨i, j, rfl, q⟩ := h
  obtain ⟨u, w', rfl, ⟨t, rfl⟩, ⟨t', rfl⟩⟩ := vals2 r
  refine min_two_ints (I.ok.hd hc) fun h' tk k => ⟨_, H, I.kept k, ?_, q⟩
  by_cases hj : j < i
  · rw [if_pos hj, if_pos hj]; exact ⟨_, rfl⟩
  · rw [if_neg hj, if_neg hj]; exact ⟨_, rfl⟩
theorem call_int1 : CallR X (.type "int") (fun xs H Q => (∃ i, xs = [.int i] ∧ Q (.int i) H) ∨ ∃ k, xs = [.bl k] ∧ Q (.int (if k then 1 else 0)) H) := by
  intro pins s σ H xs us Q I r h
  rcases h with ⟨i, rfl, q⟩ | ⟨k, rfl, q⟩
  · obtain ⟨u, rfl, t, rfl⟩ := vals1 r
    exact call_int_int ⟨.int i, H, I, ⟨_, rfl⟩, q⟩
  · obtain ⟨u, rfl, r1⟩ := vals1 r
    cases r1
    exact call_int_bool ⟨.int (if k then 1 else 0), H, I.tok _, ⟨_, rfl⟩, q⟩
theorem call_str_int : CallR X (.type "str") (fun xs H Q => ∃ i, xs = [.int i] ∧ i.natAbs.log2 < 1920 ∧ Q (.str (toString i)) H) := by
  intro pins s σ H xs us Q I r h
  obtain ⟨i, rfl, hz, q⟩ := h
  obtain ⟨u, rfl, t, rfl⟩ := vals1 r
  exact PySem.P.str_of_int hz ⟨.str _, H, I.tok _, ⟨_, rfl⟩, q⟩
end
end L2

namespace L2
open PySem PySem.Spec PyProof.Rows

/-! ### an instance, its attributes a map -/
structure ObjM (h : Heap) (x dx C : Addr) (mA : Str → Option Value) : Prop where
  obj : h.get? x = some (PySem.W.instObj C dx)
  ns : h.Ns1 dx mA
  ne : dx ≠ x

theorem lookIn_ns {h : Heap} {dx : Addr} {mA : Str → Option Value} (n : h.Ns1 dx mA) : ∃ od, h.get? dx = some od ∧ ∀ name, PySem.W.lookIn name od = some (mA name) := by
  obtain ⟨o, es, ep, ho, hd, hk, _, hm⟩ := n
  refine ⟨o, ho, fun name => ?_⟩
  have e := hm name
  unfold nsFind findBy at e
  rw [← Array.find?_toList] at e
  unfold PySem.W.lookIn
  rw [hd]
  dsimp only
  split
  · rename_i y q
    rw [q] at e
    exact congrArg some e
  · rename_i q
    rw [q] at e
    have a : es.toList.any (·.refKey) = false := by
      rw [List.any_eq_false]
      intro y hy
      obtain ⟨z, t, hkey⟩ := hk y (Array.mem_toList_iff.mp hy)
      simp [DictEntry.refKey, hkey]
    have a' : ¬ es.toList.any (·.refKey) = true := by rw [a]; exact Bool.false_ne_true
    rw [if_neg a']
    exact congrArg some e

theorem ObjM.look {h : Heap} {x dx C : Addr} {mA : Str → Option Value} (I : ObjM h x dx C mA) : ∃ od, PySem.W.InstAt h x (PySem.W.instObj C dx) C (some od) ∧ ∀ name, PySem.W.lookIn name od = some (mA name) :=
  let ⟨od, ho, hl⟩ := lookIn_ns I.ns
  ⟨od, ⟨I.obj, rfl, rfl, ho⟩, hl⟩

section
variable {prog : Program} {w : World} {A : Around} {E : Value → Shared → Prop} {s : Shared} {K : PySem.W.Frag} {x dx C f : Addr} {mA : Str → Option Value} {name : Str} {v : Value}

end

/-! ### the attributes as a list of pairs -/
section
variable {P : Program} {w : World} {H H' : Hp} {h h' : Heap} {a C dx : Addr} {fs fs' : List (Str × V)}
theorem ins_get (hok : HOk P w H h) (e : H a = some (.ins C dx fs)) : ∃ mA, ObjM h a dx C mA ∧ (∀ f, RelO (fs.lookup f) (mA f)) ∧ PySem.Within mA (fs.map (·.1)) ∧ fs.length ≤ 1000 ∧ H dx = some (.own a) := by
  obtain ⟨d, z, ne, ob, mA, n, r, q⟩ := (show ObjOk P w H h a (.ins C dx fs) from hok a _ e)
  exact ⟨mA, ⟨ob, n, ne⟩, r, q, z, d⟩
end

/-! ### what of the text a class must have -/
structure Cls (K : PySem.W.Frag) (C : Addr) : Prop where
  pg : PySem.W.plainGet K C Str.empty = true
  hd : PySem.W.hasDictIn K C = true
  po : PySem.W.plainOver K C = true
  sa : PySem.W.findIn K (.ref C) "__setattr__" = some (some (.builtin "object.__setattr__"))
theorem Cls.get {K : PySem.W.Frag} {C : Addr} (c : Cls K C) (f : Str) : PySem.W.plainGet K C f = true := c.pg
/-- a constant of the class -/
structure Con (K : PySem.W.Frag) (C : Addr) (f : Str) (v : V) (u : Value) : Prop where
  at_ : PySem.W.findIn K (.ref C) f = some (some u)
  rel : RelV v u
  get : PySem.W.specialIn K u "__get__" = some none
  cp : PySem.W.copiedNames.contains f = false
/-- a method: a plain def of the class or of one above it -/
structure Meth (K : PySem.W.Frag) (C : Addr) (m : Str) (f : Addr) : Prop where
  at_ : PySem.W.findIn K (.ref C) m = some (some (.ref f))
  fn : PySem.W.isFn K (.ref f) = true
  kp : PySem.W.keepIn K (.ref f) = true

section
variable {X : Cx} {pins : List (Addr × Obj)} {σ : St} {H : Hp} {s : Shared} {a C dx : Addr} {fs : List (Str × V)} {f : Str} {v : V} {A : Around} {E : Value → Shared → Prop}

end

/-! ### readings and rules -/

/-! ### isinstance -/
section
variable {X : Cx} {pins : List (Addr × Obj)} {σ : St} {H : Hp} {s : Shared} {A : Around} {E : Value → Shared → Prop} {Q : Value → Shared → Prop} {c : Value} {b : Bool}
/-- the type of a value, as the fragment's deciders take it; for an instance its class -/
inductive TyOf (K : PySem.W.Frag) (H : Hp) : V → Value → Prop where
  | non : TyOf K H .non (.type "NoneType")
  | bl (x : Bool) : TyOf K H (.bl x) (.type "bool")
  | int (i : Int) : TyOf K H (.int i) (.type "int")
  | str (x : Str) : TyOf K H (.str x) (.type "str")
  | flt (x : UInt64) : TyOf K H (.flt x) (.type "float")
  | lst {a : Addr} {xs : List V} (e : H a = some (.lst xs)) : TyOf K H (.ref a) (.type "list")
  | frz {a : Addr} {o : Obj} {xs : List V} (e : H a = some (.frz o (.lst xs))) : TyOf K H (.ref a) (.type "list")
  | tup {a : Addr} {xs : List V} (e : H a = some (.tup xs)) : TyOf K H (.ref a) (.type "tuple")
  | dK {a : Addr} {kvs : List (Key × V)} (e : H a = some (.dK kvs)) : TyOf K H (.ref a) (.type "dict")
  | dT {a : Addr} {kvs : List (List Key × V)} (e : H a = some (.dT kvs)) : TyOf K H (.ref a) (.type "dict")
  | ins {a C dx : Addr} {fs : List (Str × V)} (e : H a = some (.ins C dx fs)) (cl : Cls K C) (ha : PySem.W.findIn K (.ref C) "__class__" = some (some (.builtin "object.__class__")))
      (hn : PySem.W.specialIn K (.builtin "object.__class__") "__get__" = some (some (.builtin "getset_descriptor.__get__"))) (htk : PySem.W.takesIn K (.builtin "object.__class__") = some true)
      (hm : PySem.W.mroIn K C (.type "object") = some true) : TyOf K H (.ref a) (.ref C)
/-- isinstance(x, c) for one class c, a built-in or an own one: kitOne's answer -/
theorem isinst_ok {x : V} {u t : Value} (I : Inv X pins σ H s) (rx : RelV x u) (ty : TyOf X.K H x t) (e : PySem.W.kitOne X.K t c = some b) (h : ∀ tk, Q (.bool b) { s with toks := tk }) :
    wpAny (model X.prog X.w) A (call (.builtin "isinstance") [u, c]) Q E s := by
  cases ty with
  | non => cases (show u = Value.none from rx); exact PySem.W.kia_one PySem.W.kitx_none I.kIn True.intro e (fun z => nomatch z) h
  | bl y => cases (show u = Value.bool y from rx); exact PySem.W.kia_one PySem.W.kitx_bool I.kIn True.intro e (fun z => nomatch z) h
  | int i => obtain ⟨t, q⟩ := (show ∃ t, u = Value.int i t from rx); cases q; exact PySem.W.kia_one PySem.W.kitx_int I.kIn True.intro e (fun z => nomatch z) h
  | str y => obtain ⟨t, q⟩ := (show ∃ t, u = Value.str y t from rx); cases q; exact PySem.W.kia_one PySem.W.kitx_str I.kIn True.intro e (fun z => nomatch z) h
  | flt y => obtain ⟨t, q⟩ := (show ∃ t, u = Value.float y t from rx); cases q; exact PySem.W.kia_one PySem.W.kitx_float I.kIn True.intro e (fun z => nomatch z) h
  | @lst a xs ea =>
    cases (show u = Value.ref a from rx)
    obtain ⟨_, _, n, _, h1⟩ := (show ObjOk X.prog X.w H s.heap a (.lst xs) from I.hok a _ ea)
    exact PySem.W.kia_one PySem.W.kitx_list I.kIn ⟨_, h1, rfl⟩ e (fun z => nomatch z) h
  | @frz a ob xs ea =>
    cases (show u = Value.ref a from rx)
    obtain ⟨_, _, _, n, _, h1⟩ := (show ObjOk X.prog X.w H s.heap a (.frz ob (.lst xs)) from I.hok a _ ea)
    exact PySem.W.kia_one PySem.W.kitx_list I.kIn ⟨_, h1, rfl⟩ e (fun z => nomatch z) h
  | @tup a xs ea =>
    cases (show u = Value.ref a from rx)
    obtain ⟨_, _, _, p⟩ := (show ObjOk X.prog X.w H s.heap a (.tup xs) from I.hok a _ ea)
    obtain ⟨o, h1, h2, _⟩ := p
    exact PySem.W.kia_one PySem.W.kitx_tuple I.kIn ⟨o, h1, h2⟩ e (fun z => nomatch z) h
  | @dK a kvs ea =>
    cases (show u = Value.ref a from rx)
    obtain ⟨_, _, vs, _, p⟩ := (show ObjOk X.prog X.w H s.heap a (.dK kvs) from I.hok a _ ea)
    obtain ⟨o, es, ep, h1, h2, _⟩ := p
    exact PySem.W.kia_one PySem.W.kitx_dict I.kIn ⟨o, h1, h2.1⟩ e (fun z => nomatch z) h
  | @dT a kvs ea =>
    cases (show u = Value.ref a from rx)
    obtain ⟨_, _, xs, _, o, es, ep, h1, h2, _⟩ := (show ObjOk X.prog X.w H s.heap a (.dT kvs) from I.hok a _ ea)
    exact PySem.W.kia_one PySem.W.kitx_dict I.kIn ⟨o, h1, h2.1⟩ e (fun z => nomatch z) h
  | @ins a C dx fs ea cl ha hn htk hm =>
    cases (show u = Value.ref a from rx)
    obtain ⟨mA, O, _⟩ := ins_get I.hok ea
    obtain ⟨od, J, _⟩ := O.look
    exact PySem.W.kia_one (PySem.W.kitx_own (cl.get _) cl.hd ha hn htk hm) I.kIn J e (fun z => nomatch z) h
end
end L2

namespace L2
open PySem PySem.Spec PyProof.Rows

/-! ### room -/
structure Room (k : Nat) (A : Around) : Prop where
  hd : A.handled = none
  dp : A.depth + 3 * k + 5 < recursionLimit
  un : A.units + 16 * k + 200 < cLine
theorem Room.mono {j k : Nat} {A : Around} (r : Room k A) (h : j ≤ k) : Room j A := ⟨r.hd, by have := r.dp; omega, by have := r.un; omega⟩
theorem Room.deeper {k : Nat} {A : Around} (r : Room (k + 1) A) (env : Env) : Room k (A.deeper env) :=
  ⟨r.hd, by have := r.dp; show A.depth + 1 + 3 * k + 5 < _; omega, by have := r.un; show A.units + 3 + 16 * k + 200 < _; omega⟩
theorem Room.depth {k : Nat} {A : Around} (r : Room k A) : A.depth < recursionLimit := by have := r.dp; omega
theorem Room.units {k : Nat} {A : Around} (r : Room k A) : A.units + 64 < cLine := by have := r.un; omega
/-! ### argument lists and displays -/
def tNil : TA := fun _ H Q => Q [] H
def tCons (ta : TE) (tr : TA) : TA := fun σ H Q => ta σ H fun x H1 => tr σ H1 fun xs H2 => Q (x :: xs) H2
section
variable {X : Cx} {e : Expr} {es : List Expr} {te : TE} {t : TA} {pos : Pos}
theorem pa_nil : PA X [] tNil := fun _ _ _ _ H Q I h => Calls.spliced_nil ⟨[], H, I, .nil, h⟩
theorem pa_cons (ha : PE X e te) (hr : PA X es t) (hs : starEach (e :: es) X.env = (false, eval e X.env) :: starEach es X.env := by rfl) : PA X (e :: es) (tCons te t) := by
  intro pos pins s σ H Q I h
  rw [hs]
  show wpAny _ _ (spliced ((false, eval e X.env) :: backTo pos (starEach es X.env))) _ _ s
  refine Calls.spliced_cons (thn (ha pins s σ H _ I h) fun u s1 ⟨x, H1, I1, r1, q1⟩ => ?_)
  exact thn (hr pos pins s1 σ H1 _ I1 q1) fun us s2 ⟨xs, H2, I2, r2, q2⟩ => ⟨x :: xs, H2, I2, .cons r1 r2, q2⟩

/-- a tuple, a list of written items -/
def tTup (t : TA) : TE := fun σ H Q => t σ H fun xs H1 => xs.length ≤ sizeLine ∧ ∀ p, H1 p = none → Q (.ref p) (upd H1 p (.tup xs))
def tLst (t : TA) : TE := fun σ H Q => t σ H fun xs H1 => xs.length ≤ sizeLine ∧ ∀ p, H1 p = none → Q (.ref p) (upd H1 p (.lst xs))
theorem pe_tup {x1} (h : PA X es t) : PE X (.Tuple es x1 pos) (tTup t) := by
  intro pins s σ H Q I hq
  refine wpAny_Tuple_spliced (thn (h pos pins s σ H _ I hq) fun us s1 ⟨xs, H1, I1, r, z, q⟩ => ⟨by rw [← r.length]; exact z, ?_⟩)
  have hf : H1 s1.heap.objs.size = none := I1.hok.fresh (Nat.le_refl _)
  refine ⟨.ref s1.heap.objs.size, upd H1 s1.heap.objs.size (.tup xs), I1.laid (t' := s1.toks) (fun b u e => Heap.get?_push_of_some _ e) (Nat.le_refl _) ?_, rfl, q _ hf⟩
  exact ⟨z, us, r, ⟨_, Heap.get?_push_size _ rfl, rfl, _, rfl⟩⟩
theorem pe_lst (h : PA X es t) : PE X (.List es pos) (tLst t) := by
  intro pins s σ H Q I hq
  refine wpAny_List_spliced (thn (h pos pins s σ H _ I hq) fun us s1 ⟨xs, H1, I1, r, z, q⟩ => ⟨by rw [← r.length]; exact z, ?_⟩)
  have hf : H1 s1.heap.objs.size = none := I1.hok.fresh (Nat.le_refl _)
  refine ⟨.ref s1.heap.objs.size, upd H1 s1.heap.objs.size (.lst xs), I1.laid (t' := s1.toks) (fun b u e => Heap.get?_push_of_some _ e) (Nat.le_refl _) ?_, rfl, q _ hf⟩
  exact ⟨z, us, 0, r, Heap.get?_push_size _ rfl⟩
end

/-! ### what a def promises -/
/-- a def's promise: the bound arguments in the parameters' order, the heap, the wanted end, the wanted exception -/
abbrev Sp := List V → Hp → VK → XK → Prop
/-- how an exception lies behind a call (file 08 gives it): the callers' frames, abstract heap and state ahead of the call, the wish, the exception, the state -/
abbrev CXT := List Env → Hp → Shared → XK → Value → Shared → Prop

/-- the state at a call -/
structure Env0 (P : Program) (w : World) (K : PySem.W.Frag) (mg : Str → Option Value) (base : Heap) (A : Around) (outer : List Env) (s : Shared) (H : Hp) : Prop where
  frames : A.frames = some outer
  mod : Mod K mg base
  bs : ∀ b o, base.get? b = some o → s.heap.get? b = some o ∧ H b = none
  bsz : base.objs.size ≤ s.heap.objs.size
  funs : s.heap.FunFrames base outer
  frf : ∀ b ∈ frs outer, H b = none
  hok : HOk P w H s.heap
  bare : AllBare s.gens
/-- a call's end -/
def CE (outer : List Env) (P : Program) (w : World) (H : Hp) (s : Shared) (Q : VK) (u : Value) (s' : Shared) : Prop :=
  ∃ v H', s'.os = s.os ∧ AllBare s'.gens ∧ Un (frs outer) [] H H' s.heap s'.heap ∧ HOk P w H' s'.heap ∧ RelV v u ∧ Q v H'
def CR (CX : CXT) (outer : List Env) (P : Program) (w : World) (H : Hp) (s : Shared) (Q : VK) (E : XK) (r : Result) (s' : Shared) : Prop :=
  match r with
  | .ok (.ret u) => CE outer P w H s Q u s'
  | .ok _ => False
  | .error e => CX outer H s E e s'
structure FnOk (P : Program) (w : World) (K : PySem.W.Frag) (mg : Str → Option Value) (base : Heap) (CX : CXT) (k : Nat) (f : Addr) (fd : FuncData) (ps : List Str) (sp : Sp) : Prop where
  len : ∀ vs H Q E, sp vs H Q E → vs.length = ps.length
  run : ∀ (A : Around) (outer : List Env) (s : Shared) (H : Hp) (args : Args) (us : List Value) (vs : List V) (Q : VK) (E : XK), Room k A → Env0 P w K mg base A outer s H → BindsTo s fd args (ps.zip us) → Vals vs us → sp vs H Q E →
    codeAny (model P w) A (.call (.ref f) args) (CR CX outer P w H s Q E) s
section
variable {X : Cx} {pins : List (Addr × Obj)} {σ : St} {H : Hp} {s s' : Shared}
/-- from a body: what a callee wants -/
theorem Inv.env0 (I : Inv X pins σ H s) : Env0 X.prog X.w X.K X.mg X.base X.A X.stack s H :=
  ⟨I.ok.frames, I.ok.mod, I.bs, Nat.le_trans I.ok.bsz I.sz, I.stack, I.stkFree, I.hok, I.bare⟩
/-- behind a call -/
theorem Inv.after {Q : VK} {u : Value} (I : Inv X pins σ H s) (h : CE X.stack X.prog X.w H s Q u s') : EP X pins σ Q u s' := by
  obtain ⟨v, H', os, bare, un, hok, r, q⟩ := h
  obtain ⟨hh, g, d, t, os'⟩ := s'
  obtain rfl : os' = s.os := os
  exact ⟨v, H', I.call (h' := hh) (g' := g) (d' := d) (t' := t) (ch := []) un hok bare (fun b z => absurd z (by simp)), r, q⟩
end

/-! ### calls -/
/-- f(..): the written arguments, then the defaults dvs; E: what is wanted of an exception -/
def tCall (sp : Sp) (dvs : List V) (E : XK) (t : TA) : TE := fun σ H Q => t σ H fun vs H1 => sp (vs ++ dvs) H1 Q E
/-- how the parameters are bound: us the positional arguments, kw the keywords' values by name, ds the defaults that fill up -/
def Binds (K : PySem.W.Frag) (fd : FuncData) (ps : List Str) (ds : List Value) : Prop :=
  ∀ (s : Shared) (us : List Value), K.In s.heap → (us ++ ds).length = ps.length → BindsTo s fd ⟨us, []⟩ (ps.zip (us ++ ds))
/-- every parameter is given -/
theorem Binds.all {K : PySem.W.Frag} {fd : FuncData} {ps : List Str} (h : ∀ us : List Value, us.length = ps.length → bindArgs fd ⟨us, []⟩ = pure (ps.zip us)) : Binds K fd ps [] := fun s us _ hl => by
  rw [List.append_nil] at hl ⊢
  exact .of_eq (h us hl)

/-- an exception of a callee reaches what this body wants of exceptions -/
def Passes (CX : CXT) (X : Cx) (E : XK) : Prop := ∀ (pins : List (Addr × Obj)) (σ : St) (H : Hp) (s : Shared) (e : Value) (s' : Shared), Inv X pins σ H s → CX X.stack H s E e s' → X.xe e s'

section
variable {X : Cx} {CX : CXT} {k : Nat} {f C : Addr} {fd : FuncData} {ps : List Str} {sp : Sp} {dvs : List V} {ds : List Value} {E : XK} {x m : Str} {p pos apos : Pos} {e o : Expr} {es : List Expr} {ta : TE} {t : TA}

/-- the callee runs -/
theorem run_fn {pins : List (Addr × Obj)} {σ : St} {H : Hp} {s : Shared} {Q : VK} {us : List Value} {vs : List V} (F : FnOk X.prog X.w X.K X.mg X.base CX k f fd ps sp) (hr : Room k X.A) (hb : Binds X.K fd ps ds) (hd : Vals dvs ds) (hx : Passes CX X E)
    (I : Inv X pins σ H s) (r : Vals vs us) (h : sp (vs ++ dvs) H Q E) : wpAny (model X.prog X.w) X.A (call (.ref f) us) (EP X pins σ Q) X.xe s := by
  have r2 : Vals (vs ++ dvs) (us ++ ds) := r.append hd
  have hl : (us ++ ds).length = ps.length := by rw [← r2.length]; exact F.len _ _ _ _ h
  refine wpAny_call (codeAny_mono (F.run X.A X.stack s H ⟨us, []⟩ (us ++ ds) (vs ++ dvs) Q E hr I.env0 (hb s us I.kIn hl) r2 h) fun r s' hq => ?_)
  cases r with
  | error e => exact hx pins σ H s e s' I hq
  | ok fl =>
    cases fl with
    | ret u => exact I.after hq
    | next => exact False.elim hq
    | brk => exact False.elim hq
    | cont => exact False.elim hq

theorem pe_call (F : FnOk X.prog X.w X.K X.mg X.base CX k f fd ps sp) (hr : Room k X.A) (hg : Gl X x) (hm : X.mg x = some (.ref f)) (hk : PySem.W.keepIn X.K (.ref f) = true) (hb : Binds X.K fd ps ds) (hd : Vals dvs ds) (hx : Passes CX X E)
    (ha : PA X (e :: es) t) (hdb : (x == ("__debug__" : Str)) = false := by decide) (he : starEach (e :: es) X.env = (false, eval e X.env) :: starEach es X.env := by rfl) (hpl : (backTo pos (starEach es X.env)).any (·.1) = false := by rfl) :
    PE X (.Call (.Name x p) (e :: es) [] pos) (tCall sp dvs E t) := by
  intro pins s σ H Q I h
  refine wpAny_Call_Name_kw (ld_glob I hg hm ?_ hdb)
  refine PySem.W.callWith_K (h₀ := X.base) I.ok.mod.kin hk (thn (ha pos pins s σ H _ I h) fun us s1 ⟨vs, H1, I1, r, q⟩ => ⟨I1.kIn, ?_⟩) he hpl
  exact run_fn F hr hb hd hx I1 r q
/-- what a class must have to be made -/
structure Mk (K : PySem.W.Frag) (C f : Addr) : Prop where
  makes : PySem.W.makesIn K C = true
  init : PySem.W.findIn K (.ref C) "__init__" = some (some (.ref f))
  fn : PySem.W.isFn K (.ref f) = true
  kp : PySem.W.keepIn K (.ref C) = true

end

/-! ### keywords -/
section
variable {X : Cx} {CX : CXT} {k : Nat} {f C : Addr} {fd : FuncData} {ps ks : List Str} {sp : Sp} {E : XK} {x m : Str} {p pos apos kpos : Pos} {e o : Expr} {es : List Expr} {kws : List Keyword} {te ta : TE} {t tk : TA} {nm : Option Str}
/-- how a call with keywords binds: g puts the positional values us and the keywords' values ws (names ks) in the parameters' order, defaults among them -/
structure KBinds (K : PySem.W.Frag) (fd : FuncData) (ps ks : List Str) (g : List Value → List Value → List Value) (gV : List V → List V → List V) : Prop where
  to : ∀ (s : Shared) (us ws : List Value), K.In s.heap → (g us ws).length = ps.length → BindsTo s fd ⟨us, ks.zip ws⟩ (ps.zip (g us ws))
  rel : ∀ {vs : List V} {us : List Value} {zs : List V} {ws : List Value}, Vals vs us → Vals zs ws → Vals (gV vs zs) (g us ws)
variable {g : List Value → List Value → List Value} {gV : List V → List V → List V}
end

/-! ### a def's body keeps its promise -/
/-- names: the parameters first -/
structure FnScope (N P : List Str) (sc : Scope) : Prop where
  kind : sc.kind = .function
  co : sc.isCoroutine = false
  gen : sc.isGenerator = false
  nd : N.Nodup
  pre : N.take P.length = P
  par : ∀ x ∈ P, sc.names.lookup x = some .local ∨ sc.names.lookup x = some .cell
  nofree : ∀ y ∈ sc.names, y.2 ≠ .free

theorem bindL_out {kindOf : Str → Option NameKind} {x : Str} : ∀ {binds : List (Str × Value)} {m : Str → Option Value}, (∀ v, (x, v) ∉ binds) → bindL kindOf binds m x = m x
  | [], _, _ => rfl
  | (n, v) :: r, m, h => by
    unfold bindL
    rw [bindL_out fun w hw => h w (List.mem_cons_of_mem _ hw)]
    split
    · have : x ≠ n := by rintro rfl; exact h v List.mem_cons_self
      simp [this]
    · rfl
theorem bindC_out {kindOf : Str → Option NameKind} {x : Str} : ∀ {binds : List (Str × Value)} {m : Str → Option Value}, (∀ v, (x, v) ∉ binds) → bindC kindOf binds m x = m x
  | [], _, _ => rfl
  | (n, v) :: r, m, h => by
    unfold bindC
    rw [bindC_out fun w hw => h w (List.mem_cons_of_mem _ hw)]
    split
    · rfl
    · have : x ≠ n := by rintro rfl; exact h v List.mem_cons_self
      simp [this]
theorem bindL_get {kindOf : Str → Option NameKind} {x : Str} {v : Value} : ∀ {P : List Str} {vs : List Value} {i : Nat} {m : Str → Option Value}, P.Nodup → P[i]? = some x → vs[i]? = some v → kindOf x = some .local →
    bindL kindOf (P.zip vs) m x = some v
  | [], _, _, _, _, h, _, _ => by simp at h
  | _ :: _, [], _, _, _, _, h, _ => by simp at h
  | p :: P, w :: vs, 0, m, nd, h1, h2, hk => by
    simp at h1 h2; subst h1; subst h2
    show bindL kindOf ((p, w) :: P.zip vs) m p = _
    unfold bindL
    rw [bindL_out fun v hv => (List.nodup_cons.mp nd).1 (List.of_mem_zip hv).1, if_pos hk]
    simp
  | p :: P, w :: vs, i + 1, m, nd, h1, h2, hk => by
    show bindL kindOf ((p, w) :: P.zip vs) m x = _
    unfold bindL
    exact bindL_get (i := i) (List.nodup_cons.mp nd).2 (by simpa using h1) (by simpa using h2) hk
theorem bindC_get {kindOf : Str → Option NameKind} {x : Str} {v : Value} : ∀ {P : List Str} {vs : List Value} {i : Nat} {m : Str → Option Value}, P.Nodup → P[i]? = some x → vs[i]? = some v → kindOf x ≠ some .local →
    bindC kindOf (P.zip vs) m x = some v
  | [], _, _, _, _, h, _, _ => by simp at h
  | _ :: _, [], _, _, _, _, h, _ => by simp at h
  | p :: P, w :: vs, 0, m, nd, h1, h2, hk => by
    simp at h1 h2; subst h1; subst h2
    show bindC kindOf ((p, w) :: P.zip vs) m p = _
    unfold bindC
    rw [bindC_out fun v hv => (List.nodup_cons.mp nd).1 (List.of_mem_zip hv).1, if_neg hk]
    simp
  | p :: P, w :: vs, i + 1, m, nd, h1, h2, hk => by
    show bindC kindOf ((p, w) :: P.zip vs) m x = _
    unfold bindC
    exact bindC_get (i := i) (List.nodup_cons.mp nd).2 (by simpa using h1) (by simpa using h2) hk

/-- the names' values at the entry -/
def start (N : List Str) (vs : List V) : St := vs.map some ++ List.replicate (N.length - vs.length) none

/-- the context of a def's body, at its entry; an exception leaves the frame, then lies as CX says -/
def cxOf (CX : CXT) (P : Program) (w : World) (K : PySem.W.Frag) (mg : Str → Option Value) (base : Heap) (N : List Str) (qual : Str) (scope : Scope) (f : Addr) (cd : Value) (A : Around) (outer : List Env) (s : Shared) (H : Hp) (E : XK) : Cx where
  prog := P
  w := w
  K := K
  mg := mg
  base := base
  A := A.deeper (envOfC qual scope s.heap.objs.size f cd)
  N := N
  s₀ := s
  H₀ := H
  env := envOfC qual scope s.heap.objs.size f cd
  outer := outer
  stack := envOfC qual scope s.heap.objs.size f cd :: outer
  ex := []
  calm := true
  fn := fun _ => true
  pn := []
  xe := fun e s' => wpAny (model P w) (A.deeper (envOfC qual scope s.heap.objs.size f cd)) (leaving (envOfC qual scope s.heap.objs.size f cd) e) (fun _ s'' => CX outer H s E e s'') (fun e' s'' => CX outer H s E e' s'') s'

theorem cell_has {sc : Scope} {n : Nat} {x : Str} (h : sc.names.lookup x = some .cell) : ∃ c, (cellsFrom n sc.names []).lookup x = some c := by
  have q := PySem.W.cellsFrom_some sc.names n [] (.inl h)
  exact Option.isSome_iff_exists.mp q

theorem inv_start {CX : CXT} {P : Program} {w : World} {K : PySem.W.Frag} {mg : Str → Option Value} {base : Heap} {N ps : List Str} {qual : Str} {scope : Scope} {f : Addr} {cd : Value} {A : Around} {outer : List Env} {s s1 : Shared} {H : Hp} {E : XK} {us : List Value} {vs : List V}
    (S : FnScope N ps scope) (hd : A.handled = none) (e0 : Env0 P w K mg base A outer s H) (hl : vs.length = ps.length) (r : Vals vs us)
    (x : InCallC s s.heap.objs.size (bindL (envOfC qual scope s.heap.objs.size f cd).kindOf (ps.zip us) fun _ => none) (cellsFrom (s.heap.objs.size + 1) scope.names []) (bindC (envOfC qual scope s.heap.objs.size f cd).kindOf (ps.zip us) fun _ => none) s1) :
    Inv (cxOf CX P w K mg base N qual scope f cd A outer s H E) [] (start N vs) H s1 := by
  have hpl : ps.length ≤ N.length := by have := congrArg List.length S.pre; rw [List.length_take] at this; omega
  obtain ⟨h1, tk, rfl, hk⟩ := x.done
  have noA : ∀ b : Addr, b ∉ (cxOf CX P w K mg base N qual scope f cd A outer s H E).ex := fun b z => absurd (show b ∈ ([] : List Addr) from z) (by simp)
  refine ⟨⟨e0.mod, S.kind, rfl, rfl, Nat.le_refl _, fun y z c h1 h2 => ?_, fun y hy => ?_, fun y c _ h => ?_, fun _ => hd, Around.frames_deeper e0.frames, .inr ⟨rfl, rfl⟩, fun b z => absurd z (noA b), e0.bs, e0.bsz, fun b _ _ => noA b, fun b z => absurd z (noA b), e0.funs, e0.frf⟩,
    rfl, e0.bare, Un.kept hk, ⟨_, x.toInCall.ns, fun i y v h1 h2 h3 => ?_⟩, fun y c h => ⟨_, x.cell y c h⟩, e0.hok.fresh (Nat.le_refl _), fun y c h => ?_, fun p hp => absurd (show p ∈ ([] : List (Addr × Obj)) from hp) (by simp), e0.hok.kept hk, ?_⟩
  · exact name_of_addr x.apart (PySem.mem_of_lookup h1) (PySem.mem_of_lookup h2)
  · have hy : scope.names.lookup y = some .cell ∨ scope.names.lookup y = some .free := hy
    rcases hy with hy | hy
    · exact cell_has hy
    · exact absurd rfl (S.nofree _ (PySem.mem_of_lookup hy))
  · exact Nat.le_of_lt (x.above y c (PySem.mem_of_lookup h))
  · have hi : i < vs.length := by
      unfold start at h2
      by_cases hi : i < vs.length
      · exact hi
      · rw [List.getElem?_append_right (by simpa using hi)] at h2
        rw [List.getElem?_replicate] at h2
        split at h2 <;> cases h2
    have ha : vs[i]? = some v := by
      unfold start at h2
      rw [List.getElem?_append_left (by simpa using hi), List.getElem?_map] at h2
      cases e : vs[i]? with
      | none => rw [e] at h2; cases h2
      | some a => rw [e] at h2; cases h2; rfl
    obtain ⟨u, hu, rv⟩ := r.get ha
    have hp : ps[i]? = some y := by
      rw [← S.pre, List.getElem?_take_of_lt (by omega)]; exact h1
    have ndP : ps.Nodup := by rw [← S.pre]; exact S.nd.sublist (List.take_sublist _ _)
    refine ⟨u, rv, ?_⟩
    rcases S.par y (List.mem_of_getElem? hp) with k | k
    · exact .inl ⟨k, bindL_get ndP hp hu k⟩
    · obtain ⟨c, e⟩ := cell_has (n := s.heap.objs.size + 1) k
      refine .inr ⟨.inl k, c, e, ?_⟩
      have q := x.cell y c e
      rw [bindC_get ndP hp hu (by show scope.names.lookup y ≠ _; rw [k]; decide)] at q
      exact q
  · exact e0.hok.fresh (Nat.le_of_lt (x.above y c (PySem.mem_of_lookup h)))
  · unfold start
    show _ = N.length
    rw [List.length_append, List.length_map, List.length_replicate]
    omega

/-- THE RULE: a def (or a method) of the text, by its body. The body's reading t is chosen for each entry; it is run at the parameters' values -/
theorem fn_of {CX : CXT} {P : Program} {w : World} {K : PySem.W.Frag} {mg : Str → Option Value} {base : Heap} {k : Nat} {f : Addr} {name qual : Str} {params : Arguments} {body : List Stmt} {scope : Scope} {dV kV doc pm cdv ct oc : Value} {an od : Option Addr}
    {osl : Array (Option Value)} {N ps : List Str} {sp : Sp} (lk : K.lookup f = some ⟨oc, od, .func (PySem.W.fnOf name qual params body scope dV kV doc pm an cdv ct), osl⟩) (hcd : PySem.W.codeIn K cdv qual = true) (S : FnScope N ps scope)
    (len : ∀ vs H Q E, sp vs H Q E → vs.length = ps.length)
    (hbody : ∀ (A : Around) (outer : List Env) (s : Shared) (H : Hp) (vs : List V) (Q : VK) (E : XK), Room k (A.deeper (envOfC qual scope s.heap.objs.size f cdv)) → sp vs H Q E →
      ∃ t, PSs (cxOf CX P w K mg base N qual scope f cdv A outer s H E) body t ∧ t { nx := fun _ H' => Q .non H', rt := Q } (start N vs) H) :
    FnOk P w K mg base CX (k + 1) f (PySem.W.fnOf name qual params body scope dV kV doc pm an cdv ct) ps sp := by
  refine ⟨len, fun A outer s H args us vs Q E hr e0 hb r hsp => ?_⟩
  have hl := len _ _ _ _ hsp
  have KX : K.In s.heap := e0.mod.kin.keeps fun b o e => (e0.bs b o e).1
  have lim : s.heap.NoLimit := e0.mod.nolimit.keeps fun b o e => (e0.bs b o e).1
  have hkind : ∀ y ∈ ps.zip us, scope.names.lookup y.1 = some .local ∨ (scope.names.lookup y.1 = some .cell ∧ ((cellsFrom (s.heap.objs.size + 1) scope.names []).lookup y.1).isSome = true) := fun ⟨n, v⟩ hy => by
    rcases S.par n (List.of_mem_zip hy).1 with q | q
    · exact .inl q
    · exact .inr ⟨q, PySem.W.cellsFrom_some _ _ _ (.inl q)⟩
  refine codeAny_call_function hr.depth (KX _ _ lk) rfl S.co S.gen rfl (PySem.W.codeRec_of KX hcd) (hb _ _ _ _ ?_)
  refine wpAny_newFunctionEnv_cells S.kind hkind fun env he s1 x => ?_
  subst he
  refine ⟨lim.keeps x.toInCall.keep, codeAny_func ?_⟩
  obtain ⟨t, ht, hq⟩ := hbody A outer s H vs Q E (hr.deeper _) hsp
  have I : Inv (cxOf CX P w K mg base N qual scope f cdv A outer s H E) [] (start N vs) H s1 := inv_start S hr.hd e0 hl r x
  refine wpAny_mono (ht [] s1 (start N vs) H _ I hq) (fun fl s' hs => ?_) fun e s' hs => hs
  have fin : ∀ {σ' : St} {H' : Hp} {v : V} {u : Value}, Inv (cxOf CX P w K mg base N qual scope f cdv A outer s H E) [] σ' H' s' → RelV v u → Q v H' → CE outer P w H s Q u s' :=
    fun {σ' H' v u} J rv q => ⟨v, H', J.os, J.bare, J.base, J.hok, rv, q⟩
  cases fl with
  | ret u =>
    obtain ⟨v, σ', H', J, rv, q⟩ := hs
    exact fin J rv q
  | next =>
    obtain ⟨σ', H', J, q⟩ := hs
    exact fin (v := V.non) (u := Value.none) J rfl q
  | brk =>
    obtain ⟨_, _, _, q⟩ := hs
    exact False.elim q
  | cont =>
    obtain ⟨_, _, _, q⟩ := hs
    exact False.elim q
end L2

namespace L2
open PySem PySem.Spec PyProof.Rows
section
variable {X : Cx} {x : Str} {p pos : Pos} {e : Expr} {es : List Expr} {t : TA} {id T : String} {r : List V → Hp → VK → Prop}

def tCB (r : List V → Hp → VK → Prop) (t : TA) : TE := fun σ H Q => t σ H fun vs H1 => r vs H1 Q
/-- f(e, ..), f a built-in function -/
theorem pe_callB (hc : CallR X (.builtin id) r) (hg : Gl X x) (hm : X.mg x = none) (hv : bootBuiltins x = some (.builtin id)) (ha : PA X (e :: es) t) (hn : x ≠ "__name__" := by decide) (hdb : (x == ("__debug__" : Str)) = false := by decide)
    (he : starEach (e :: es) X.env = (false, eval e X.env) :: starEach es X.env := by rfl) (hpl : (backTo pos (starEach es X.env)).any (·.1) = false := by rfl) : PE X (.Call (.Name x p) (e :: es) [] pos) (tCB r t) := by
  intro pins s σ H Q I h
  refine wpAny_Call_Name_kw (ld_blt I hg hm hv ?_ hn hdb)
  exact PyProof.Rows.callWith_builtin1 (thn (ha pos pins s σ H _ I h) fun us s1 ⟨vs, H1, I1, r1, q1⟩ => hc pins s1 σ H1 vs us Q I1 r1 q1) he hpl
/-- T(e, ..), T a built-in type -/
theorem pe_callTy (hc : CallR X (.type T) r) (hg : Gl X x) (hm : X.mg x = none) (hv : bootBuiltins x = some (.type T)) (ha : PA X (e :: es) t) (hn : x ≠ "__name__" := by decide) (hdb : (x == ("__debug__" : Str)) = false := by decide)
    (he : starEach (e :: es) X.env = (false, eval e X.env) :: starEach es X.env := by rfl) (hpl : (backTo pos (starEach es X.env)).any (·.1) = false := by rfl) : PE X (.Call (.Name x p) (e :: es) [] pos) (tCB r t) := by
  intro pins s σ H Q I h
  refine wpAny_Call_Name_kw (ld_blt I hg hm hv ?_ hn hdb)
  exact PyProof.Rows.callWith_type1 (thn (ha pos pins s σ H _ I h) fun us s1 ⟨vs, H1, I1, r1, q1⟩ => hc pins s1 σ H1 vs us Q I1 r1 q1) he hpl
end
end L2

namespace HT
open PySem PyProof.Rows

/-- t < u of tuples of ints -/
def lexLt : List Int → List Int → Bool
  | [], [] => false
  | [], _ :: _ => true
  | _ :: _, [] => false
  | x :: xs, y :: ys => if x = y then lexLt xs ys else decide (x < y)
theorem lexLt_cons (x y : Int) (xs ys : List Int) : lexLt (x :: xs) (y :: ys) = if x = y then lexLt xs ys else decide (x < y) := rfl
theorem lexLt_nil_nil : lexLt [] [] = false := rfl
theorem lexLt_nil_cons (y : Int) (ys : List Int) : lexLt [] (y :: ys) = true := rfl
theorem lexLt_cons_nil (x : Int) (xs : List Int) : lexLt (x :: xs) [] = false := rfl

theorem eqAt_int (A : Around) (s : Shared) (a : Int) (t : Tok) (c : Int) (u : Tok) : ∃ e, SeqAt.EqAt A s (.int a t) (.int c u) e ∧ (e = true ↔ a = c) :=
  ⟨(a == c), SeqAt.EqAt.int_int a t c u, by simp⟩
theorem rcLt_int (A : Around) (s : Shared) (a : Int) (t : Tok) (c : Int) (u : Tok) (prog : Program) (w : World) (E : Value → Shared → Prop) (Q : Value → Shared → Prop) (h : Q (.bool (decide (a < c))) s) :
    wpAny (model prog w) A (richCompare .Lt (.int a t) (.int c u)) Q E s :=
  (PyProof.Rows.lt_int h : wpAny (model prog w) A (compareOp .Lt (.int a t) (.int c u)) Q E s)

section
open PySem.SeqAt
open PySem.AutoSeq1 (wpAny_loadPart')
open PySem.MeetsSeq PySem.MeetsSeq2 PySem.MeetsSeq3

theorem tuple_lt_ints (l b : Addr) (items items2 : Array Value) (n n2 : Nat) (dd dd2 : Option Addr) (sl sl2 : Array (Option Value)) (ns ms : List Int) (hi : IntsAre items.toList ns) (hj : IntsAre items2.toList ms) :
    Meets (Builtin.«tuple.__lt__» ⟨[.ref l, .ref b], []⟩)
      (fun _ R s => s.heap.get? l = some { cls := .type "tuple", dict := dd, data := .seq items n, slots := sl } ∧ s.heap.get? b = some { cls := .type "tuple", dict := dd2, data := .seq items2 n2, slots := sl2 } ∧
        R (.ok (.ret (.bool (lexLt ns ms)))) s) :=
  .of_wp fun prog w A R s h => by
    obtain ⟨hp, g, d, tk, os⟩ := s; obtain ⟨hl, hb, h⟩ := h
    have f2 := AutoSeq1.sub_tuple_tuple
    have z1 : items.size = ns.length := by rw [← hi.length]; simp
    have z2 : items2.size = ms.length := by rw [← hj.length]; simp
    wp_walk using wpAny_loadPart' hl, wpAny_loadPart' hb, wpAny_forIn_list _ (fun rest b s' => b.1 = none ∧ s' = ⟨hp, g, d, tk, os⟩ ∧ ∃ (vs ws : List Value) (ns' ms' : List Int), rest = vs.zip ws ∧
      IntsAre vs ns' ∧ IntsAre ws ms' ∧ ns'.length + items2.size = ms'.length + items.size ∧ R (.ok (.ret (.bool (lexLt ns' ms')))) ⟨hp, g, d, tk, os⟩) _
    case turn =>
      rintro ⟨y, x⟩ rest b s' ⟨hb', rfl, vs, ws, ns', ms', hz, hvi, hwi, hlen, hR⟩
      cases hvi with
      | nil => rw [List.zip_nil_left] at hz; cases hz
      | cons a t hvi' =>
        cases hwi with
        | nil => rw [List.zip_nil_right] at hz; cases hz
        | cons c u hwi' =>
          rw [List.zip_cons_cons] at hz
          injection hz with hyx hrest
          injection hyx with hy hx
          subst hy hx
          rw [lexLt_cons] at hR
          simp only [List.length_cons] at hlen
          obtain ⟨e, he, hiff⟩ := eqAt_int A.in1 ⟨hp, g, d, tk, os⟩ a t c u
          refine wpAny_bind (he prog w _ _ ?_)
          cases e with
          | true =>
            rw [if_pos (hiff.mp rfl)] at hR
            wp_walk
            exact ⟨rfl, rfl, _, _, _, _, hrest, hvi', hwi', by omega, hR⟩
          | false =>
            rw [if_neg (fun q => absurd (hiff.mpr q) Bool.false_ne_true)] at hR
            have hri := rcLt_int A.in1 ⟨hp, g, d, tk, os⟩ a t c u prog w
            wp_walk using hri
            exact ⟨_, rfl, by simpa using hR⟩
    case fin =>
      rintro ⟨b1, b2⟩ s' ⟨hb', rfl, vs, ws, ns', ms', hz, hvi, hwi, hlen, hR⟩
      simp only at hb'
      subst hb'
      have hv : lexLt ns' ms' = decide (items.size < items2.size) := by
        cases hvi with
        | nil =>
          cases hwi with
          | nil =>
            simp only [List.length_nil] at hlen
            rw [lexLt_nil_nil]
            exact (decide_eq_false (by omega)).symm
          | cons c u hw =>
            simp only [List.length_nil, List.length_cons] at hlen
            rw [lexLt_nil_cons]
            exact (decide_eq_true (by omega)).symm
        | cons a t hv =>
          cases hwi with
          | nil =>
            simp only [List.length_nil, List.length_cons] at hlen
            rw [lexLt_cons_nil]
            exact (decide_eq_false (by omega)).symm
          | cons c u hw =>
            rw [List.zip_cons_cons] at hz
            cases hz
      rw [hv] at hR
      wp_walk
      exact ⟨_, rfl, by simpa [Builtin.Tuple.tupleCompareSizes] using hR⟩
    case h =>
      exact ⟨rfl, rfl, items.toList, items2.toList, ns, ms, rfl, hi, hj, by omega, h⟩
end

section
variable {prog : Program} {w : World} {A : Around} {E : Value → Shared → Prop} {s : Shared}

theorem lt_tupInts {l b : Addr} {items items2 : Array Value} {ns ms : List Int} {Q : Value → Shared → Prop} (hl : IsTup s.heap l items) (hb : IsTup s.heap b items2) (hi : IntsAre items.toList ns) (hj : IntsAre items2.toList ms)
    (hu : A.units < cLine) (h : Q (.bool (lexLt ns ms)) s) : wpAny (model prog w) A (compareOp .Lt (.ref l) (.ref b)) Q E s := by
  obtain ⟨⟨cls, dd, data, sl⟩, ho, hc, n, hd⟩ := id hl
  obtain ⟨⟨cls2, dd2, data2, sl2⟩, ho2, hc2, n2, hd2⟩ := id hb
  simp only at hc hd hc2 hd2
  subst hc hd hc2 hd2
  exact richCompare_meets_room (op := .Lt) ⟨_, ho, rfl⟩ ⟨_, ho2, rfl⟩ PySem.F.slot_tuple_lt PySem.F.entry_tuple_lt (PySem.F.args_tuple_lt_2 _ _) (tuple_lt_ints l b items items2 n n2 dd dd2 sl sl2 ns ms hi hj)
    ⟨ho, ho2, show Value.bool (lexLt ns ms) ≠ Value.notImplemented ∧ Q (.bool (lexLt ns ms)) s from ⟨(fun x => nomatch x), h⟩⟩ hu

/-! ### t[a:b], not the whole -/
/-- a slice's bound as a place among n (d where it is left out) -/
def sIx (n d : Nat) : Option Int → Nat
  | none => d
  | some v => if v < 0 then (v + (n : Int)).toNat else min v.toNat n
theorem sIx_none (n d : Nat) : sIx n d none = d := rfl
theorem sIx_nat (n d k : Nat) : sIx n d (some (k : Int)) = min k n := by
  show (if (k : Int) < 0 then ((k : Int) + (n : Int)).toNat else min (k : Int).toNat n) = min k n
  rw [if_neg (by omega), Int.toNat_natCast]
end
end HT

namespace L2
open PySem PySem.Spec PyProof.Rows

/-! ### the parts of a slice -/
abbrev TO := St → Hp → (Option Int → Hp → Prop) → Prop
/-- a slice's part (left out, or an int) -/
def PO (X : Cx) (e : Option Expr) (t : TO) : Prop :=
  ∀ (pins : List (Addr × Obj)) (s : Shared) (σ : St) (H : Hp) (Q : Option Int → Hp → Prop), Inv X pins σ H s → t σ H Q →
    wpAny (model X.prog X.w) X.A (evalPart e X.env) (fun u s' => ∃ o H', Inv X pins σ H' s' ∧ IsPart u o ∧ Q o H') X.xe s
def tNoPart : TO := fun _ H Q => Q none H
def tPart (t : TE) : TO := fun σ H Q => t σ H fun x H1 => ∃ i, x = .int i ∧ Q (some i) H1

theorem intsAre_of {ns : List Int} : ∀ {us : List Value}, Vals (ns.map V.int) us → IntsAre us ns := by
  induction ns with
  | nil => intro us r; rw [List.map_nil] at r; cases r; exact .nil
  | cons n ns ih =>
    intro us r
    rw [List.map_cons] at r
    cases r with
    | cons r1 r2 =>
      obtain ⟨t, e⟩ := r1
      subst e
      exact .cons n t (ih r2)

section
variable {X : Cx} {e : Expr} {te : TE} {lo hi : Option Expr} {tl th : TO} {pos p2 : Pos}

theorem po_none : PO X none tNoPart := by
  intro pins s σ H Q I h
  rw [evalPart_none]
  exact wpAny_pure ⟨none, H, I, .none, h⟩
theorem po_some (h : PE X e te) : PO X (some e) (tPart te) := by
  intro pins s σ H Q I hw
  rw [evalPart_some]
  refine thn (h pins s σ H _ I hw) fun u s1 ⟨x, H1, I1, r1, q1⟩ => ?_
  obtain ⟨i, rfl, q⟩ := q1
  obtain ⟨t, rfl⟩ := r1
  exact ⟨some i, H1, I1, .int i t, q⟩

/-- what a slice of a value is, by values: the slice object stands at sl -/
def SlR (X : Cx) (r : V → Option Int → Option Int → Hp → VK → Prop) : Prop :=
  ∀ (pins : List (Addr × Obj)) (s : Shared) (σ : St) (H : Hp) (x : V) (v vl vu : Value) (lo hi : Option Int) (sl : Addr) (Q : VK), Inv X pins σ H s → RelV x v → s.heap.IsSliceOf sl vl vu .none → IsPart vl lo → IsPart vu hi → r x lo hi H Q →
    ∃ T id, typeLookup (.type T) "__getitem__" = pure (some (.builtin id)) ∧ s.TypeIs v T ∧ wpAny (model X.prog X.w) X.A (getItem v (.ref sl)) (EP X pins σ Q) X.xe s
def tSl (r : V → Option Int → Option Int → Hp → VK → Prop) (te : TE) (tl th : TO) : TE := fun σ H Q => te σ H fun x H1 => tl σ H1 fun l H2 => th σ H2 fun u H3 => r x l u H3 Q
/-- a[lo:hi], any a -/
theorem pe_slice {r : V → Option Int → Option Int → Hp → VK → Prop} (hr : SlR X r) (he : PE X e te) (hl : PO X lo tl) (hu : PO X hi th) : PE X (.Subscript e (.Slice lo hi none p2) pos) (tSl r te tl th) := by
  intro pins s σ H Q I h
  refine Subscript_ (thn (he pins s σ H _ I h) fun v s1 ⟨x, H1, I1, r1, q1⟩ => ?_)
  refine wpAny_Slice (thn (hl pins s1 σ H1 _ I1 q1) fun vl s2 ⟨l, H2, I2, pl, q2⟩ => thn (hu pins s2 σ H2 _ I2 q2) fun vu s3 ⟨u, H3, I3, pu, q3⟩ => ?_)
  rw [evalPart_none]
  refine wpAny_pure ?_
  have I4 : Inv X pins σ H3 { s3 with heap := s3.heap.push { cls := .type "slice", data := .fields #[vl, vu, .none] } } := I3.kept (t' := s3.toks) fun b ob q => Heap.get?_push_of_some _ q
  obtain ⟨T, id, hT, ht, hg⟩ := hr pins { s3 with heap := s3.heap.push { cls := .type "slice", data := .fields #[vl, vu, .none] } } σ H3 x v vl vu l u s3.heap.objs.size Q I4 r1 (Heap.IsSliceOf.new ..) pl pu q3
  show wpAny (model X.prog X.w) X.A (subscriptTail e (.Slice lo hi none p2) v (.ref s3.heap.objs.size)) (EP X pins σ Q) X.xe { s3 with heap := s3.heap.push { cls := .type "slice", data := .fields #[vl, vu, .none] } }
  exact tail_any (ops := [.ref s3.heap.objs.size, v]) ht hT hg (by with_unfolding_all rfl)

/-- the items of xs[lo:hi] -/
def cutV (xs : List V) (lo hi : Option Int) : List V := (xs.drop (HT.sIx xs.length 0 lo)).take (HT.sIx xs.length xs.length hi - HT.sIx xs.length 0 lo)
theorem cutV_length (xs : List V) (lo hi : Option Int) : (cutV xs lo hi).length ≤ xs.length := by
  unfold cutV
  rw [List.length_take, List.length_drop]
  omega
/-! ### t < u, t + u -/
def rLtT (K : PySem.W.Frag) : R2 := fun x y H Q => ∃ a b ns ms, x = .ref a ∧ y = .ref b ∧ SqT K H a (ns.map V.int) ∧ SqT K H b (ms.map V.int) ∧ Q (.bl (HT.lexLt ns ms)) H
theorem op_ltT (hu : X.A.units < cLine) : OpR X (compareOp .Lt) (rLtT X.K) := by
  intro pins s σ H x y v u Q I rx ry h
  obtain ⟨a, b, ns, ms, rfl, rfl, ha, hb, q⟩ := h
  cases rx
  cases ry
  obtain ⟨its, r1, p1, _⟩ := I.tuple ha
  obtain ⟨its2, r2, p2, _⟩ := I.tuple hb
  have i1 : IntsAre its.toArray.toList ns := intsAre_of r1
  have i2 : IntsAre its2.toArray.toList ms := intsAre_of r2
  exact HT.lt_tupInts p1 p2 i1 i2 hu ⟨.bl (HT.lexLt ns ms), H, I, rfl, q⟩
end
end L2

namespace L2
open PySem PySem.Spec PyProof.Rows

/-! ### places -/
/-- the place that an index of any sign means -/
def ixN (n : Nat) (i : Int) : Option Nat := if 0 ≤ i then (if i < n then some i.toNat else none) else if -(n : Int) ≤ i then some (i + n).toNat else none
def atI {α : Type} (xs : List α) (i : Int) : Option α := (ixN xs.length i).bind fun j => xs[j]?
theorem ixN_seq {n : Nat} {i : Int} {j : Nat} (h : ixN n i = some j) : seqIndex? i n = some j ∧ j < n ∧ -(n : Int) ≤ i ∧ i < n := by
  unfold ixN at h
  by_cases h0 : 0 ≤ i
  · rw [if_pos h0] at h
    by_cases h1 : i < n
    · rw [if_pos h1] at h
      have e : i.toNat = j := Option.some.inj h
      exact ⟨by rw [seqIndex_of h0 h1, e], by omega, by omega, h1⟩
    · rw [if_neg h1] at h; cases h
  · rw [if_neg h0] at h
    by_cases h1 : -(n : Int) ≤ i
    · rw [if_pos h1] at h
      have e : (i + n).toNat = j := Option.some.inj h
      exact ⟨by rw [seqIndex_neg (by omega) h1, e], by omega, h1, by omega⟩
    · rw [if_neg h1] at h; cases h
theorem atI_get {α : Type} {xs : List α} {i : Int} {v : α} (h : atI xs i = some v) : ∃ j, seqIndex? i xs.length = some j ∧ xs[j]? = some v ∧ j < xs.length ∧ -(xs.length : Int) ≤ i ∧ i < xs.length := by
  unfold atI at h
  cases e : ixN xs.length i with
  | none => rw [e] at h; cases h
  | some j =>
    rw [e] at h
    obtain ⟨h1, h2, h3, h4⟩ := ixN_seq e
    exact ⟨j, h1, h, h2, h3, h4⟩
theorem atI_nat {α : Type} {xs : List α} {j : Nat} {v : α} (h : xs[j]? = some v) : atI xs (j : Int) = some v := by
  have hj : j < xs.length := (List.getElem?_eq_some_iff.mp h).1
  have e : ixN xs.length (j : Int) = some j := by
    unfold ixN
    rw [if_pos (by omega), if_pos (by omega)]; simp
  unfold atI; rw [e]; exact h
/-! ### what may be subscripted -/
/-- what stands as an index of a plain subscript -/
def PlainIx (b : Expr) : Prop := ∀ o i, subscripted b false o i = operate [o, i] (getItem o i)
/-- a subscript by values -/
def IxR (X : Cx) (r : R2) : Prop :=
  ∀ (value slice : Expr) (pins : List (Addr × Obj)) (s : Shared) (σ : St) (H : Hp) (x y : V) (v u : Value) (Q : VK), Inv X pins σ H s → RelV x v → RelV y u → r x y H Q →
    subscripted slice false v u = operate [v, u] (getItem v u) → wpAny (model X.prog X.w) X.A (subscriptTail value slice v u) (EP X pins σ Q) X.xe s
/-- a call of a builtin's method by values: the receiver, the arguments -/
def MtR (X : Cx) (id : String) (r : V → List V → Hp → VK → Prop) : Prop :=
  ∀ (pins : List (Addr × Obj)) (s : Shared) (σ : St) (H : Hp) (x : V) (xs : List V) (v : Value) (us : List Value) (Q : VK), Inv X pins σ H s → RelV x v → Vals xs us → r x xs H Q →
    wpAny (model X.prog X.w) X.A (call (.builtin id) (v :: us)) (EP X pins σ Q) X.xe s
section
variable {X : Cx} {a b : Expr} {ta tb : TE} {pos : Pos}
/-- a[b] -/
theorem pe_ix {r : R2} (hr : IxR X r) (ha : PE X a ta) (hb : PE X b tb) (hs : PlainIx b) : PE X (.Subscript a b pos) (tOp r ta tb) := by
  intro pins s σ H Q I h
  exact Subscript_ (binT ha hb I h fun v u s2 x y H2 I2 rx ry q => hr a b pins s2 σ H2 x y v u Q I2 rx ry q (hs _ _))

def rIxL (K : PySem.W.Frag) : R2 := fun x y H Q => ∃ p xs i v, x = .ref p ∧ y = .int i ∧ SqL K H p xs ∧ atI xs i = some v ∧ Q v H
def rIxT (K : PySem.W.Frag) : R2 := fun x y H Q => ∃ p xs i v, x = .ref p ∧ y = .int i ∧ SqT K H p xs ∧ atI xs i = some v ∧ Q v H
def rIxS : R2 := fun x y H Q => ∃ z i c, x = .str z ∧ y = .int i ∧ z.length ≤ sizeLine ∧ atI z.cps.toList i = some c ∧ Q (.str ⟨#[c]⟩) H
theorem ix_list : IxR X (rIxL X.K) := by
  intro value slice pins s σ H x y v u Q I rx ry h hs
  obtain ⟨p, xs, i, z, rfl, rfl, hq, he, q⟩ := h
  cases rx
  obtain ⟨t, rfl⟩ := ry
  obtain ⟨its, r, pl, hz⟩ := I.list hq
  obtain ⟨j, h1, h2, h3, h4, h5⟩ := atI_get he
  obtain ⟨w, ew, rw'⟩ := r.get h2
  have hl := r.length
  have hn := line63
  have fin : EP X pins σ Q w s := ⟨z, H, I, rw', q⟩
  by_cases h0 : 0 ≤ i
  · have hj : i.toNat = j := by
      rw [seqIndex_of h0 h5] at h1
      exact Option.some.inj h1
    exact item_listR pl.isList h0 (by omega) (by rw [hj]; simpa using ew) fin hs
  · have hj : (i + (its.toArray.size : Int)).toNat = j := by
      rw [seqIndex_neg (by omega) h4] at h1
      rw [List.size_toArray, ← hl]
      exact Option.some.inj h1
    exact subscriptTail_builtinR (x := w) pl.isList.typeIs slot_list_getitem.lookup
      (wpAny_getItem_list_neg (Q := fun r s' => r = w ∧ EP X pins σ Q r s') pl.isList (by omega) (by rw [List.size_toArray] <;> omega) (by omega) (by rw [hj]; simpa using ew) ⟨rfl, fin⟩) hs
theorem ix_tup : IxR X (rIxT X.K) := by
  intro value slice pins s σ H x y v u Q I rx ry h hs
  obtain ⟨p, xs, i, z, rfl, rfl, hq, he, q⟩ := h
  cases rx
  obtain ⟨t, rfl⟩ := ry
  obtain ⟨its, r, pl, hz⟩ := I.tuple hq
  obtain ⟨j, h1, h2, h3, h4, h5⟩ := atI_get he
  obtain ⟨w, ew, rw'⟩ := r.get h2
  have hl := r.length
  have hn := line63
  have fin : EP X pins σ Q w s := ⟨z, H, I, rw', q⟩
  exact subscriptTail_builtinR (x := w) pl.typeIs slot_tuple_getitem.lookup
    (getItem_tuple (j := j) (Q := fun r s' => r = w ∧ EP X pins σ Q r s') pl (by omega) (by omega) (by rw [List.size_toArray, ← hl]; exact h1) (by simpa using ew) ⟨rfl, fin⟩) hs
theorem ix_str : IxR X rIxS := by
  intro value slice pins s σ H x y v u Q I rx ry h hs
  obtain ⟨z, i, c, rfl, rfl, hz, he, q⟩ := h
  obtain ⟨t, rfl⟩ := rx
  obtain ⟨t', rfl⟩ := ry
  obtain ⟨j, h1, h2, h3, h4, h5⟩ := atI_get he
  have hl : z.cps.toList.length = z.length := by simp [Str.length]
  rw [hl] at h1 h4 h5
  have hn := line63
  exact tail_any (typeIs_str s z t) slot_str_getitem.lookup (getItem_str (c := c) (by
    have e1 : decide (i < -(2 ^ 63 : Int)) = false := decide_eq_false (by omega)
    have e2 : decide (i ≥ 2 ^ 63) = false := decide_eq_false (by omega)
    rw [e1, e2, Bool.or_false]) (by rw [h1]; simpa using h2) ⟨.str ⟨#[c]⟩, H, I.tok _, ⟨_, rfl⟩, q⟩) hs
/-! ### xs[i] = v, any sign -/
/-- the list's object behind a store -/
theorem mapSeq_set (its : List Value) (n j : Nat) (u : Value) : Obj.mapSeq (·.setIfInBounds j u) { cls := .type "list", data := .seq its.toArray n } = { cls := .type "list", data := .seq (its.set j u).toArray n } := by
  simp [Obj.mapSeq]
theorem Inv.lst {pins : List (Addr × Obj)} {σ : St} {H : Hp} {s : Shared} {p : Addr} {xs : List V} (I : Inv X pins σ H s) (h : H p = some (.lst xs)) :
    ∃ (its : List Value) (n : Nat), Vals xs its ∧ s.heap.get? p = some { cls := .type "list", data := .seq its.toArray n } ∧ xs.length ≤ sizeLine := by
  obtain ⟨z, its, n, r, e⟩ := I.hok p _ h
  exact ⟨its, n, r, e, z⟩
/-- the list at p is written by an update of its object -/
theorem Inv.lstUpd {pins : List (Addr × Obj)} {σ : St} {H : Hp} {s : Shared} {p : Addr} {xs ys : List V} {its its' : List Value} {n n' : Nat} {f : Obj → Obj} (I : Inv X pins σ H s) (h : H p = some (.lst xs))
    (ho : s.heap.get? p = some { cls := .type "list", data := .seq its.toArray n }) (hf : f { cls := .type "list", data := .seq its.toArray n } = { cls := .type "list", data := .seq its'.toArray n' }) (r : Vals ys its') (hz : ys.length ≤ sizeLine) (t : Nat) :
    Inv X pins σ (upd H p (.lst ys)) { s with heap := s.heap.update p f, toks := t } := by
  have e : (s.heap.update p f).get? p = some { cls := .type "list", data := .seq its'.toArray n' } := by
    rw [Heap.get?_update_self f ho (by rw [hf] <;> rfl), hf]
  refine I.write (x := p) (e := p) (by rw [h]; trivial) (.inl rfl) (fun b u hb q => (Heap.get?_update_other _ _ (Ne.symm hb)).trans q) ⟨_, e⟩ ?_
  exact ⟨hz, its', n', r, e⟩
def rSetL : V → V → V → Hp → (Hp → Prop) → Prop := fun o i v H Q => ∃ p xs k j, o = .ref p ∧ i = .int k ∧ H p = some (.lst xs) ∧ ixN xs.length k = some j ∧ Q (upd H p (.lst (xs.set j v)))
theorem set_list : PSet X rSetL := by
  intro pins s σ H o i v ov iv u Q I ro ri rv h
  obtain ⟨p, xs, k, j, rfl, rfl, hp, hj, q⟩ := h
  cases ro
  obtain ⟨t, rfl⟩ := ri
  obtain ⟨its, n, r, ho, hz⟩ := I.lst hp
  obtain ⟨h1, h2, h3, h4⟩ := ixN_seq hj
  have hl := r.length
  have hn := line63
  have I' : Inv X pins σ (upd H p (.lst (xs.set j v))) { s with heap := s.heap.update p (Obj.mapSeq (·.setIfInBounds j u)) } :=
    I.lstUpd hp ho (mapSeq_set its n j u) (r.set rv j) (by rw [List.length_set]; exact hz) s.toks
  by_cases h0 : 0 ≤ k
  · have hk : k.toNat = j := by
      rw [seqIndex_of h0 h4] at h1
      exact Option.some.inj h1
    exact PySem.W.ki_setAt ho h0 (by omega) (by rw [List.size_toArray, ← hl]; exact h4) (by rw [hk]; exact ⟨_, I', q⟩)
  · have hk : (k + (its.toArray.size : Int)).toNat = j := by
      rw [seqIndex_neg (by omega) h3] at h1
      rw [List.size_toArray, ← hl]
      exact Option.some.inj h1
    exact PySem.W.ki_setBack ho (by omega) (by rw [List.size_toArray, ← hl]; exact h3) (by omega) (by rw [hk]; exact ⟨_, I', q⟩)

/-! ### slices -/
theorem slice_bounds (lo hi : Option Int) (n : Nat) : (sliceBounds lo hi none n).1 = ((HT.sIx n 0 lo : Nat) : Int) ∧ (sliceBounds lo hi none n).2.1 = ((HT.sIx n n hi : Nat) : Int) ∧ (sliceBounds lo hi none n).2.2 = 1 := by
  refine ⟨?_, ?_, rfl⟩
  · cases lo with
    | none => simp [sliceBounds, HT.sIx]
    | some i =>
      simp only [sliceBounds, HT.sIx, Option.getD_none, show (1 : Int) > 0 by decide, if_true]
      by_cases h : i < 0
      · simp only [h, if_true] <;> omega
      · simp only [h, if_false] <;> omega
  · cases hi with
    | none => simp [sliceBounds, HT.sIx]
    | some i =>
      simp only [sliceBounds, HT.sIx, Option.getD_none, show (1 : Int) > 0 by decide, if_true]
      by_cases h : i < 0
      · simp only [h, if_true] <;> omega
      · simp only [h, if_false] <;> omega
theorem slicePick_cut (its : List Value) (lo hi : Option Int) : slicePick its.toArray lo hi none = ((its.drop (HT.sIx its.length 0 lo)).take (HT.sIx its.length its.length hi - HT.sIx its.length 0 lo)).toArray := by
  obtain ⟨h1, h2, h3⟩ := slice_bounds lo hi its.toArray.size
  unfold slicePick
  rw [h1, h2, h3]
  simp only [sliceRange_one, pick_run, List.size_toArray] <;> rfl
/-- xs[lo:hi] of a list: a new list -/
def rSlL (K : PySem.W.Frag) : V → Option Int → Option Int → Hp → VK → Prop := fun x lo hi H Q => ∃ a xs, x = .ref a ∧ SqL K H a xs ∧ ∀ p, H p = none → Q (.ref p) (upd H p (.lst (cutV xs lo hi)))
theorem sl_list : SlR X (rSlL X.K) := by
  intro pins s σ H x v vl vu lo hi sl Q I rx hs pl pu h
  obtain ⟨a, xs, rfl, hx, q⟩ := h
  cases rx
  obtain ⟨its, r, ht, hz⟩ := I.list hx
  have hlen := r.length
  refine ⟨"list", _, slot_list_getitem.lookup, ht.isList.typeIs, ?_⟩
  refine wpAny_getItem_list_slice ht.isList hs pl pu .none (by simp) ?_ (by rw [List.size_toArray] <;> omega)
  rw [slicePick_cut, ← hlen]
  refine ⟨.ref s.heap.objs.size, _, I.laid (t' := s.toks) (o := .lst (cutV xs lo hi)) (fun b ob q => Heap.get?_push_of_some _ q) (Nat.le_refl _) ?_, rfl, q _ (I.hok.fresh (Nat.le_refl _))⟩
  exact ⟨Nat.le_trans (cutV_length xs lo hi) hz, _, 0, (r.drop (HT.sIx xs.length 0 lo)).take (HT.sIx xs.length xs.length hi - HT.sIx xs.length 0 lo), Heap.get?_push_size _ rfl⟩

/-! ### in, not in: flat items -/
def flatV : V → Bool
  | .non => true
  | .bl _ => true
  | .int _ => true
  | .str _ => true
  | _ => false
/-- == of flat values -/
def eqV : V → V → Bool
  | .non, .non => true
  | .bl a, .bl b => a == b
  | .bl a, .int b => (if a then 1 else 0) == b
  | .int a, .bl b => a == (if b then 1 else 0)
  | .int a, .int b => a == b
  | .str a, .str b => a == b
  | _, _ => false
theorem eqAt_V {A : Around} {s : Shared} {y x : V} {u v : Value} (ry : RelV y u) (rx : RelV x v) (fy : flatV y = true) (fx : flatV x = true) : SeqAt.EqAt A s u v (eqV y x) := by
  cases y with
  | non =>
    cases ry
    cases x with
    | non => cases rx; exact SeqAt.EqAt.same _
    | bl b => cases rx; exact SeqAt.EqAt.none_bool b
    | int b => obtain ⟨t, rfl⟩ := rx; exact SeqAt.EqAt.none_int b t
    | str b => obtain ⟨t, rfl⟩ := rx; exact SeqAt.EqAt.none_str b t
    | _ => exact absurd (show false = true from fx) Bool.false_ne_true
  | bl a =>
    cases ry
    cases x with
    | non => cases rx; exact SeqAt.EqAt.bool_none a
    | bl b => cases rx; exact SeqAt.EqAt.bool_bool a b
    | int b => obtain ⟨t, rfl⟩ := rx; exact SeqAt.EqAt.bool_int a b t
    | str b => obtain ⟨t, rfl⟩ := rx; exact SeqAt.EqAt.bool_str a b t
    | _ => exact absurd (show false = true from fx) Bool.false_ne_true
  | int a =>
    obtain ⟨t', rfl⟩ := ry
    cases x with
    | non => cases rx; exact SeqAt.EqAt.int_none a t'
    | bl b => cases rx; exact SeqAt.EqAt.int_bool a t' b
    | int b => obtain ⟨t, rfl⟩ := rx; exact SeqAt.EqAt.int_int a t' b t
    | str b => obtain ⟨t, rfl⟩ := rx; exact SeqAt.EqAt.int_str a t' b t
    | _ => exact absurd (show false = true from fx) Bool.false_ne_true
  | str a =>
    obtain ⟨t', rfl⟩ := ry
    cases x with
    | non => cases rx; exact SeqAt.EqAt.str_none a t'
    | bl b => cases rx; exact SeqAt.EqAt.str_bool a t' b
    | int b => obtain ⟨t, rfl⟩ := rx; exact SeqAt.EqAt.str_int a t' b t
    | str b => obtain ⟨t, rfl⟩ := rx; exact SeqAt.EqAt.str_str a t' b t
    | _ => exact absurd (show false = true from fx) Bool.false_ne_true
  | _ => exact absurd (show false = true from fy) Bool.false_ne_true
/-- the items' answers, read off the values (a value's own answer does not lean on its token) -/
def eqU (x : V) (u : Value) : Bool := match u with
  | .none => eqV .non x
  | .bool b => eqV (.bl b) x
  | .int i _ => eqV (.int i) x
  | .str z _ => eqV (.str z) x
  | _ => false
theorem eqU_of {x y : V} {u : Value} (r : RelV y u) (f : flatV y = true) : eqU x u = eqV y x := by
  cases y with
  | non => cases r; rfl
  | bl b => cases r; rfl
  | int i => obtain ⟨t, rfl⟩ := r; rfl
  | str z => obtain ⟨t, rfl⟩ := r; rfl
  | _ => exact absurd (show false = true from f) Bool.false_ne_true
theorem mem_eqAt {A : Around} {s : Shared} {x : V} {v : Value} (rx : RelV x v) (fx : flatV x = true) : ∀ {xs : List V} {us : List Value}, Vals xs us → xs.all flatV = true → ∀ u ∈ us, SeqAt.EqAt A s u v (eqU x u)
  | _, _, .nil, _ => fun u hu => by cases hu
  | y :: xs, u :: us, .cons r t, f => fun u' hu => by
    rw [List.all_cons, Bool.and_eq_true] at f
    rcases List.mem_cons.mp hu with rfl | hu
    · rw [eqU_of r f.1]; exact eqAt_V r rx f.1 fx
    · exact mem_eqAt rx fx t f.2 u' hu
/-! ### len, list(x), tuple(x) of any list or tuple that is read -/
theorem call_len_seq : CallR X (.builtin "len") (fun xs H Q => ∃ p ys, xs = [.ref p] ∧ (SqL X.K H p ys ∨ SqT X.K H p ys) ∧ Q (.int ys.length) H) := by
  intro pins s σ H xs us Q I r h
  obtain ⟨p, ys, rfl, hq, q⟩ := h
  obtain ⟨u, rfl, rx⟩ := vals1 r
  cases rx
  have hn := line63
  rcases hq with hq | hq
  · obtain ⟨its, r', pl, hz⟩ := I.list hq
    have hlen := r'.length
    exact Calls.call_len_list pl.isList (by simp only [List.size_toArray] <;> omega) ⟨.int ys.length, H, I.tok _, ⟨s.toks + 1, by rw [List.size_toArray, hlen]⟩, q⟩
  · obtain ⟨its, r', pl, hz⟩ := I.tuple hq
    have hlen := r'.length
    exact len_tuple pl (by simp only [List.size_toArray] <;> omega) ⟨.int ys.length, H, I.tok _, ⟨s.toks + 1, by rw [List.size_toArray, hlen]⟩, q⟩
theorem call_len_str : CallR X (.builtin "len") (fun xs H Q => ∃ z, xs = [.str z] ∧ z.length ≤ sizeLine ∧ Q (.int z.length) H) := by
  intro pins s σ H xs us Q I r h
  obtain ⟨z, rfl, hz, q⟩ := h
  obtain ⟨u, rfl, t, rfl⟩ := vals1 r
  have hn := line63
  exact len_str (by omega) ⟨.int z.length, H, I.tok _, ⟨_, rfl⟩, q⟩
theorem call_list_of : CallR X (.type "list") (fun xs H Q => ∃ p ys, xs = [.ref p] ∧ (SqL X.K H p ys ∨ SqT X.K H p ys) ∧ ∀ l, H l = none → Q (.ref l) (upd H l (.lst ys))) := by
  intro pins s σ H xs us Q I r h
  obtain ⟨p, ys, rfl, hq, q⟩ := h
  obtain ⟨u, rfl, rx⟩ := vals1 r
  cases rx
  have fin : ∀ (its : List Value), Vals ys its → ys.length ≤ sizeLine → ∀ (h' : Heap) (c' : Nat), (∀ b o', s.heap.get? b = some o' → h'.get? b = some o') →
      h'.get? s.heap.objs.size = some { cls := .type "list", dict := none, data := .seq its.toArray c', slots := #[] } → EP X pins σ Q (.ref s.heap.objs.size) { s with heap := h' } := fun its r' hz h' c' kp e =>
    ⟨.ref s.heap.objs.size, _, I.laid (t' := s.toks) kp (Nat.le_refl _) (show ObjOk X.prog X.w _ h' _ (.lst ys) from ⟨hz, its, c', r', e⟩), rfl, q _ (I.hok.fresh (Nat.le_refl _))⟩
  rcases hq with hq | hq
  · obtain ⟨its, r', pl, hz⟩ := I.list hq
    have hlen := r'.length
    obtain ⟨o, ho, hc, n, hd⟩ := pl.isList
    exact call_list_seq p (.inl rfl) ho hc hd (fun h' c' kp e => fin its r' hz h' c' kp e) (by simp only [List.size_toArray] <;> omega)
  · obtain ⟨its, r', pl, hz⟩ := I.tuple hq
    have hlen := r'.length
    obtain ⟨o, ho, hc, n, hd⟩ := pl
    exact call_list_seq p (.inr rfl) ho hc hd (fun h' c' kp e => fin its r' hz h' c' kp e) (by simp only [List.size_toArray] <;> omega)
theorem call_tuple_of : CallR X (.type "tuple") (fun xs H Q => ∃ p ys, xs = [.ref p] ∧ ((SqL X.K H p ys ∧ ∀ l, H l = none → Q (.ref l) (upd H l (.tup ys))) ∨ (SqT X.K H p ys ∧ Q (.ref p) H))) := by
  intro pins s σ H xs us Q I r h
  obtain ⟨p, ys, rfl, h⟩ := h
  obtain ⟨u, rfl, rx⟩ := vals1 r
  cases rx
  rcases h with ⟨hq, q⟩ | ⟨hq, q⟩
  · obtain ⟨its, r', pl, hz⟩ := I.list hq
    have hlen := r'.length
    refine call_tuple_list pl.isList (fun h' kp => ?_) (by simp only [List.size_toArray] <;> omega)
    have I1 : Inv X pins σ H { s with heap := h' } := I.kept (t' := s.toks) kp
    have I2 : Inv X pins σ (upd H h'.objs.size (.tup ys)) { s with heap := h'.push { cls := .type "tuple", data := .seq its.toArray } } :=
      I1.laid (t' := s.toks) (fun b o e => Heap.get?_push_of_some _ e) (Nat.le_refl _) (show ObjOk X.prog X.w _ _ _ (.tup ys) from ⟨hz, its, r', IsTup.new _ _⟩)
    exact ⟨.ref h'.objs.size, _, I2, rfl, q _ (I1.hok.fresh (Nat.le_refl _))⟩
  · obtain ⟨its, r', pl, hz⟩ := I.tuple hq
    exact call_tuple_same pl ⟨.ref p, H, I, rfl, q⟩

/-! ### the call of a builtin's method: o.m(..) -/
/-- the value is of that builtin type -/
def tyV (K : PySem.W.Frag) (T : String) (x : V) (H : Hp) : Prop := match x with
  | .str _ => T = "str"
  | .int _ => T = "int"
  | .ref p => (T = "list" ∧ ∃ xs, SqL K H p xs) ∨ (T = "tuple" ∧ ∃ o, K.lookup p = some o ∧ o.cls = .type "tuple" ∧ o.dict = none) ∨
      (T = "dict" ∧ ((∃ kvs, H p = some (.dK kvs)) ∨ ∃ kvs, H p = some (.dT kvs))) ∨ (T = "set" ∧ ∃ S n, H p = some (.set S n))
  | _ => False
theorem tyV_is {pins : List (Addr × Obj)} {σ : St} {H : Hp} {s : Shared} {T : String} {x : V} {v : Value} (I : Inv X pins σ H s) (r : RelV x v) (ty : tyV X.K T x H) :
    s.TypeIs v T ∧ ∀ a, v = .ref a → ∃ ob, s.heap.get? a = some ob ∧ ob.dict = none := by
  cases x with
  | str z =>
    obtain ⟨t, rfl⟩ := r
    cases (show T = "str" from ty)
    exact ⟨typeIs_str s z t, fun _ e => nomatch e⟩
  | int i =>
    obtain ⟨t, rfl⟩ := r
    cases (show T = "int" from ty)
    exact ⟨typeIs_int s i t, fun _ e => nomatch e⟩
  | ref p =>
    cases r
    rcases ty with ⟨rfl, xs, hq⟩ | ⟨rfl, o, hk, hc, hd⟩ | ⟨rfl, hk⟩ | ⟨rfl, S, n, hk⟩
    · obtain ⟨its, _, pl, _⟩ := I.list hq
      refine ⟨pl.isList.typeIs, fun a e => ?_⟩
      cases e
      obtain ⟨o, n, e, c, hd, _⟩ := pl
      exact ⟨o, e, hd⟩
    · refine ⟨⟨o, I.kIn p o hk, hc⟩, fun a e => ?_⟩
      cases e
      exact ⟨o, I.kIn _ o hk, hd⟩
    · have z : ∃ o, s.heap.get? p = some o ∧ o.ExactDict := by
        rcases hk with ⟨kvs, hk⟩ | ⟨kvs, hk⟩
        · obtain ⟨_, _, _, _, o, _, _, e, ex, _⟩ := I.hok p _ hk
          exact ⟨o, e, ex⟩
        · obtain ⟨_, _, _, _, o, _, _, e, ex, _⟩ := I.hok p _ hk
          exact ⟨o, e, ex⟩
      obtain ⟨o, e, ex⟩ := z
      refine ⟨⟨o, e, ex.1⟩, fun a e2 => ?_⟩
      cases e2
      exact ⟨o, e, ex.2.1⟩
    · obtain ⟨o, _, _, _, e, ex, _⟩ := I.hok p _ hk
      refine ⟨⟨o, e, ex.1⟩, fun a e2 => ?_⟩
      cases e2
      exact ⟨o, e, ex.2.1⟩
  | _ => exact False.elim ty
def tBM0 (K : PySem.W.Frag) (T : String) (r : V → List V → Hp → VK → Prop) (to : TE) : TE := fun σ H Q => to σ H fun x H1 => tyV K T x H1 ∧ r x [] H1 Q
def tBM (K : PySem.W.Frag) (T : String) (r : V → List V → Hp → VK → Prop) (to : TE) (t : TA) : TE := fun σ H Q => to σ H fun x H1 => tyV K T x H1 ∧ t σ H1 fun xs H2 => r x xs H2 Q
variable {o e : Expr} {es : List Expr} {to : TE} {t : TA} {name : Str} {apos cpos : Pos} {T id : String} {r : V → List V → Hp → VK → Prop}
theorem pe_bm0 (pa : PlainAttrs T) (slot : Slot T name id) (hty : typeOf (.builtin id) = pure (.type "method_descriptor")) (hm : MtR X id r) (ho : PE X o to)
    (hbase : attributeBase o name X.env (eval o X.env) = eval o X.env := by rfl) (hline : (apos.endLine == cpos.line) = true := by rfl) : PE X (.Call (.Attribute o name apos) [] [] cpos) (tBM0 X.K T r to) := by
  intro pins s σ H Q I h
  refine wpAny_Call_method0_late hbase hline (thn (ho pins s σ H _ I h) fun v s1 ⟨x, H1, I1, r1, ty, q1⟩ => ?_)
  obtain ⟨h1, h2⟩ := tyV_is I1 r1 ty
  exact ⟨T, id, pa, slot, hty, h1, h2, Calls.callWith_builtin rfl (PySem.evalArgs_none (hm pins s1 σ H1 x [] v [] Q I1 r1 .nil q1))⟩
theorem pe_bm (pa : PlainAttrs T) (slot : Slot T name id) (hty : typeOf (.builtin id) = pure (.type "method_descriptor")) (hm : MtR X id r) (ho : PE X o to) (ha : PA X (e :: es) t)
    (hbase : attributeBase o name X.env (eval o X.env) = eval o X.env := by rfl)
    (hfew : ((backTo cpos (starEach (e :: es) X.env)).all (fun x => !x.1) && (backToKw cpos (keywordEach [] X.env)).all (fun x => x.1.isSome)
      && decide ((e :: es).length + ([] : List Keyword).length + (if ([] : List Keyword).isEmpty then 0 else 1) < 30)) = true := by rfl)
    (hline : (apos.endLine == cpos.line) = true := by rfl) (hs : starEach (e :: es) X.env = (false, eval e X.env) :: starEach es X.env := by rfl) (hplain : (backTo cpos (starEach es X.env)).any (·.1) = false := by rfl) :
    PE X (.Call (.Attribute o name apos) (e :: es) [] cpos) (tBM X.K T r to t) := by
  intro pins s σ H Q I h
  refine wpAny_Call_method_late hbase hfew hline rfl (thn (ho pins s σ H _ I h) fun v s1 ⟨x, H1, I1, r1, ty, q1⟩ => ?_)
  obtain ⟨h1, h2⟩ := tyV_is I1 r1 ty
  refine ⟨T, id, pa, slot, hty, h1, h2, ?_⟩
  have hA := ha cpos pins s1 σ H1 _ I1 q1
  rw [hs] at hA ⊢
  refine Calls.callWith_builtin (by show (false || (backTo cpos (starEach es X.env)).any (·.1)) = false; rw [hplain] <;> rfl) (Calls.evalArgs_plain ?_)
  exact thn hA fun us s2 ⟨vs, H2, I2, r2, q2⟩ => hm pins s2 σ H2 x vs v us Q I2 r1 r2 q2
/- xs.append(e), list.index on a module's tuple .. are MtR facts of 06m -/
end
end L2

namespace L2
open PySem PySem.Spec PyProof.Rows

def MtM (X : Cx) (id : String) (r : V → List V → Hp → VK → Prop) : Prop :=
  ∀ (pins : List (Addr × Obj)) (s : Shared) (σ : St) (H : Hp) (x : V) (xs : List V) (v : Value) (us : List Value) (Q : VK), Inv X pins σ H s → RelV x v → Vals xs us → r x xs H Q →
    wpAny (model X.prog X.w) X.A (call (.builtin id) (v :: us)) (EP X pins σ Q) X.xe s

/-! ### lists of values -/
theorem Vals.one : ∀ {x : V} {us : List Value}, Vals [x] us → ∃ u, us = [u] ∧ RelV x u
  | _, _, .cons r .nil => ⟨_, rfl, r⟩
theorem Vals.two : ∀ {x y : V} {us : List Value}, Vals [x, y] us → ∃ u v, us = [u, v] ∧ RelV x u ∧ RelV y v
  | _, _, _, .cons r (.cons q .nil) => ⟨_, _, rfl, r, q⟩
theorem Vals.rep {xs : List V} {us : List Value} (h : Vals xs us) : ∀ k : Nat, Vals (List.replicate k xs).flatten (List.replicate k us).flatten
  | 0 => .nil
  | k + 1 => by
    rw [List.replicate_succ, List.replicate_succ, List.flatten_cons, List.flatten_cons]
    exact Vals.append h (Vals.rep h k)
theorem foldl_rep (its : List Value) : ∀ (k : Nat) (acc : List Value),
    List.foldl (fun x1 x2 => x1 ++ x2) acc.toArray (List.replicate k its.toArray) = (acc ++ (List.replicate k its).flatten).toArray
  | 0, acc => by simp
  | k + 1, acc => by
    have e : acc.toArray ++ its.toArray = (acc ++ its).toArray := by simp
    have e2 : (acc ++ its) ++ (List.replicate k its).flatten = acc ++ (List.replicate (k + 1) its).flatten := by
      rw [List.replicate_succ, List.flatten_cons, List.append_assoc]
    rw [← e2, ← foldl_rep its k (acc ++ its), ← e, List.replicate_succ, List.foldl_cons]

section
variable {X : Cx} {pins : List (Addr × Obj)} {σ : St} {H : Hp} {s : Shared} {l b : Addr} {xs ys zs : List V}

/-! ### the two steps: a tracked list is rewritten, a new list is laid -/
theorem Inv.lset {its its' : List Value} {n : Nat} {f : Array Value → Array Value} {t' : Nat} (I : Inv X pins σ H s) (hH : H l = some (.lst xs))
    (e : s.heap.get? l = some { cls := .type "list", data := .seq its.toArray n }) (hf : f its.toArray = its'.toArray) (hv : Vals ys its') (hz : ys.length ≤ sizeLine) :
    Inv X pins σ (upd H l (.lst ys)) { s with heap := s.heap.update l (Obj.mapSeq f), toks := t' } := by
  have q := PySem.IsL.update e f
  rw [hf] at q
  refine I.write (x := l) (e := l) (by rw [hH]; exact trivial) (.inl rfl) (fun b' u hb hu => (Heap.get?_update_other s.heap (Obj.mapSeq f) (Ne.symm hb)).trans hu) ⟨_, q⟩ ?_
  exact ⟨hz, its', _, hv, q⟩
theorem Inv.lnew {its : List Value} {t' : Nat} (I : Inv X pins σ H s) (hv : Vals ys its) (hz : ys.length ≤ sizeLine) :
    Inv X pins σ (upd H s.heap.objs.size (.lst ys)) { s with heap := s.heap.push { cls := .type "list", data := .seq its.toArray }, toks := t' } :=
  I.laid (fun _ _ q => Heap.get?_push_of_some _ q) (Nat.le_refl _) ⟨hz, its, 0, hv, Heap.get?_push_size _ rfl⟩
theorem Inv.fresh (I : Inv X pins σ H s) : H s.heap.objs.size = none := I.hok.fresh (Nat.le_refl _)
theorem Inv.lstM (I : Inv X pins σ H s) (hH : H l = some (.lst xs)) : xs.length ≤ sizeLine ∧ ∃ (its : List Value) (n : Nat), Vals xs its ∧ xs.length = its.length ∧ s.heap.get? l = some { cls := .type "list", data := .seq its.toArray n } := by
  obtain ⟨z, its, n, r, e⟩ := I.hok l _ hH
  exact ⟨z, its, n, r, r.length, e⟩

theorem notLongL {n : Nat} (h : n ≤ sizeLine) : Builtin.List.listTooLong n = false := by
  unfold Builtin.List.listTooLong
  exact decide_eq_false (by omega)
end

section
variable {X : Cx}

/-! ### methods -/
def rAppend : V → List V → Hp → VK → Prop := fun x vs H Q => ∃ l xs y, x = .ref l ∧ vs = [y] ∧ H l = some (.lst xs) ∧ xs.length < sizeLine ∧ Q .non (upd H l (.lst (xs ++ [y])))
theorem mt_append : MtM X "list.append" rAppend := by
  intro pins s σ H x vs v us Q I rx rv h
  obtain ⟨l, xs, y, rfl, rfl, hH, hz, q⟩ := h
  cases rx
  obtain ⟨u, rfl, ru⟩ := rv.one
  obtain ⟨z, its, n, r, hl, e⟩ := I.lstM hH
  refine call_meets F.slot_list_append ⟨_, e, rfl⟩ F.entry_list_append (F.args_list_append_2 _ _) (PySem.list_append l its.toArray n u (by rw [List.size_toArray]; omega)) ⟨e, ?_⟩
  refine ⟨.non, _, I.lset (its' := its ++ [u]) hH e (by simp) (r.append (.cons ru .nil)) ?_, rfl, q⟩
  rw [List.length_append, List.length_singleton]
  omega

/-! ### list + list, list += list, list * int -/
def rCat : R2 := fun x y H Q => ∃ l b xs zs, x = .ref l ∧ y = .ref b ∧ H l = some (.lst xs) ∧ H b = some (.lst zs) ∧ xs.length + zs.length ≤ sizeLine ∧ ∀ p, H p = none → Q (.ref p) (upd H p (.lst (xs ++ zs)))
theorem op_cat : OpR X (binaryOp .Add) rCat := by
  intro pins s σ H x y v u Q I rx ry h
  obtain ⟨l, b, xs, zs, rfl, rfl, hH, hB, hz, q⟩ := h
  cases rx
  cases ry
  obtain ⟨z, its, n, r, hl, e⟩ := I.lstM hH
  obtain ⟨z2, its2, n2, r2, hl2, e2⟩ := I.lstM hB
  refine PySem.P.add_list e e2 ?_ (by rw [List.size_toArray, List.size_toArray]; omega)
  have ea : its.toArray ++ its2.toArray = (its ++ its2).toArray := by simp
  rw [ea]
  exact ⟨.ref _, _, I.lnew (t' := s.toks) (r.append r2) (by rw [List.length_append]; omega), rfl, q _ I.fresh⟩
/-- a list times an int (a negative one is nothing) -/
def rRep : R2 := fun x y H Q => ∃ l k xs, x = .ref l ∧ y = .int k ∧ H l = some (.lst xs) ∧ -(2 ^ 63) ≤ k ∧ k < 2 ^ 63 ∧ xs.length * k.toNat ≤ sizeLine ∧
  ∀ p, H p = none → Q (.ref p) (upd H p (.lst (List.replicate k.toNat xs).flatten))
theorem len_rep {α : Type} (xs : List α) (k : Nat) : (List.replicate k xs).flatten.length = k * xs.length := by
  induction k with
  | zero => simp
  | succ k ih => rw [List.replicate_succ, List.flatten_cons, List.length_append, ih, Nat.succ_mul, Nat.add_comm]
theorem op_rep : OpR X (binaryOp .Mult) rRep := by
  intro pins s σ H x y v u Q I rx ry h
  obtain ⟨l, k, xs, rfl, rfl, hH, h1, h2, hz, q⟩ := h
  cases rx
  obtain ⟨t, rfl⟩ := ry
  obtain ⟨z, its, n, r, hl, e⟩ := I.lstM hH
  have hlen : its.toArray.size * k.toNat ≤ sizeLine := by rw [List.size_toArray, ← hl]; exact hz
  have hcap : ¬ its.toArray.size * k.toNat > (2 ^ 63 - 1) / 8 := by
    have : (sizeLine : Nat) ≤ (2 ^ 63 - 1) / 8 := by decide
    omega
  have hfit : ¬ (!Builtin.List.listFitsIndex k) = true := by
    rw [fitsIndex_both h1 h2]
    exact Bool.false_ne_true
  have hlong : ¬ Builtin.List.listTooLong (its.toArray.size * k.toNat) = true := by
    rw [notLongL hlen]
    exact Bool.false_ne_true
  have hnew : List.foldl (fun x1 x2 => x1 ++ x2) #[] (List.replicate (if its.toArray.isEmpty = true then 0 else k.toNat) its.toArray) = (List.replicate k.toNat its).flatten.toArray := by
    have f0 : ∀ m : Nat, List.foldl (fun x1 x2 => x1 ++ x2) #[] (List.replicate m its.toArray) = (List.replicate m its).flatten.toArray := fun m => by
      have := foldl_rep its m []
      rw [List.nil_append] at this
      exact this
    rw [f0]
    cases its with
    | nil => simp
    | cons a r' => rw [if_neg (by simp)]
  refine wpAny_binaryOp_repeat_ref (T := "list") (U := "int") (by decide) ⟨_, e, rfl⟩ (fun s' => typeIs_int s' k t) noFill_list_mul F.fills_int_mul F.slot_int_rmul repeat_list F.slot_int_index.lookup
    (call_meets F.slot_int_rmul (typeIs_int s k t) F.entry_int_rmul (F.args_int_rmul_2 _ _) (int___rmul___int_list k t l its.toArray n)
      ⟨e, rfl, ⟨_, e, rfl⟩, call_meets F.slot_list_mul ⟨_, e, rfl⟩ F.entry_list_mul (F.args_list_mul_2 _ _) (AutoListH.list___mul___list_int_3 l its.toArray n k t hfit hcap hlong) ⟨e, ?_⟩⟩)
  rw [hnew]
  exact ⟨.ref _, _, I.lnew (t' := s.toks) (r.rep k.toNat) (by rw [len_rep, Nat.mul_comm]; exact hz), rfl, q _ I.fresh⟩

/-! ### del xs[i] -/
end

/-! ### xs[a:b] = ys -/

end L2

namespace Att
open PySem PySem.W PySem.Calls PyProof.Rows

/-! ### the script -/
theorem ints_of_wellAll {P : Params} {h : Heap} : ∀ (ns : List Int) (vs : List Value), WellAll P h vs (ns.map WData.int) → IntsAre vs ns := by
  intro ns
  induction ns with
  | nil =>
    intro vs w
    rw [List.map_nil] at w
    cases w
    exact .nil
  | cons n ns ih =>
    intro vs w
    rw [List.map_cons] at w
    cases w with
    | cons a b =>
      cases a
      exact .cons _ _ (ih _ b)

theorem script_of {l : OpenLaw} {n : Nat} (hn : l.most = some n) {P : Params} {h : Heap} {args : List WData} {vals : List Value}
    (hpre : l.row.toRowW.claim.pre args = true) (hwl : WellAll P h vals args) :
    ∃ a vs ns, vals = [Value.ref a] ∧ args = [WData.list (ns.map WData.int)] ∧ h.get? a = some { cls := .type "list", data := .seq vs.toArray } ∧ IntsAre vs ns ∧ ns.length ≤ n := by
  have hsh : WShape.hasAll [] args [.list .int] = true := (pre_splitW hpre).1
  have hc : l.pre.holds [] { args := args } = true := (pre_splitW hpre).2
  obtain ⟨d, r, rfl, h1, h2⟩ := hasAllW_cons hsh
  obtain rfl := hasAllW_nil h2
  obtain ⟨xs, rfl, h3⟩ := hasW_list h1
  obtain ⟨ns, rfl⟩ := items_int h3
  have hlen : ns.length ≤ n := by
    unfold OpenLaw.pre at hc
    have h4 : (WTm.not (.lt (.lit (.int (n : Int))) (.len (.arg 0)))).holds [] { args := [.list (ns.map .int)] } = true := by
      have h4 := (holds_andW hc).1
      rw [hn] at h4
      exact h4
    have h5 := condW_of h4 (w_not (w_lt w_lit (w_len_list (w_arg rfl))))
    rw [List.length_map] at h5
    refine Nat.le_of_not_lt fun q => ?_
    have q' : (n : Int) < ((ns.length : Nat) : Int) := by omega
    first
      | (rw [decide_eq_true q'] at h5; exact absurd h5 (by decide))
      | (simp at h5; omega)
  cases hwl with
  | cons w1 w2 =>
    cases w2
    cases w1 with
    | list ho hall => exact ⟨_, _, ns, rfl, rfl, ho, ints_of_wellAll ns _ hall, hlen⟩

theorem post_true (l : OpenLaw) (args : List WData) : l.row.toRowW.claim.post args (.bool true) args = true :=
  postW_of (r := l.row.toRowW) (X := (true == true))
    (show WShape.has [] (.bool true) .bool = true by first | rfl | decide | simp [WShape.has, WShape.arms, WShape.armsAll])
    (show (WTm.eq .res (.lit (.bool true))).value [] { args := args, res := some (.bool true), after := args } = some (.bool (true == true)) from w_eq_bool (w_res rfl) w_lit) rfl

/-! ### the attachment: holds_open's last premise (the goal 'hc' behind k_head) from a wpAny of the law's body -/
/-- the same from a codeAny of the CALL (for a layer whose function contracts speak of calls) -/
theorem attach_call {l : OpenLaw} {n : Nat} {q : Program} {loose : List Str} {XP : (Str → Option Value) → Heap → Prop} {YP : World → Heap → Prop} {d : DefRec}
    (hn : l.most = some n) (hdf : d.params.defaults = [])
    (call : ∀ (w : World) (s₀ s₁ : Shared) (mg mb : Str → Option Value) (fa : Addr) (o : Obj) (pm cd doc : Value) (a : Addr) (vs : List Value) (ns : List Int),
      Ground q loose [] XP w s₀ mg mb s₁.heap → YP w s₁.heap →
      s₁.heap.get? fa = some o → o.data = .func (docDef d.name d.params d.body d.scope pm cd doc) → s₁.heap.CodeRec cd d.name → mg d.name = some (.ref fa) →
      s₁.heap.get? a = some { cls := .type "list", data := .seq vs.toArray } → IntsAre vs ns → ns.length ≤ n → s₁.gens = #[] →
      codeAny (model l.prog w) callerA (.call (.ref fa) ⟨[.ref a], []⟩) (fun r s' => r = .ok (.ret (.bool true)) ∧ OldK s₁.heap s'.heap ∧ s'.os = s₁.os ∧ AllBare s'.gens) s₁) :
    WalkO q loose XP YP l.row.toRowW d [] (fun f vs => PySem.call f vs) := by
  intro w s₀ s₁ mg mb G Y fa o pm cd doc dV kV ho hd hcd hD hmg hg args vals as hpre hlay hrd hwl hlo
  obtain rfl : dV = .none := Dflts.none hD hdf
  obtain rfl : kV = .none := Dflts.noKw hD
  obtain ⟨a, vs, ns, rfl, rfl, hobj, hints, hlen⟩ := script_of hn hpre hwl
  refine enter_call (codeAny_mono (call w s₀ s₁ mg mb fa o pm cd doc a vs ns G Y ho (fd_plain hd) hcd hmg hobj hints hlen hg) fun r s' hq => ?_)
  obtain ⟨rfl, h2, h3, h4⟩ := hq
  exact ⟨.inl ⟨.bool true, .bool true, [], rfl, fun _ => rfl, .bool true, post_true l _, fun _ => ⟨List.Pairwise.nil, fun _ hm => (nomatch hm)⟩⟩, h2, h3, h4⟩

/-! ### rules over ANY heap (no ledger) from facts about the written part K: the library's own take a ledger (News) for what they write -/
section
variable {prog : Program} {w : World} {A : Around} {E : Value → Shared → Prop} {s : Shared} {K : Frag}

/-! the whole heap as the ledger: makes every rule that writes through a ledger a rule over any heap -/
def ledger (h : Heap) (L d : Addr) : List (Addr × Obj) := (List.range h.objs.size).filterMap fun a => if a = L ∨ a = d then none else (h.get? a).map fun o => (a, o)
end
end Att

namespace L2
open PySem PySem.Spec PyProof.Rows

theorem vals_ints : ∀ {vs : List Value} {ns : List Int}, IntsAre vs ns → Vals (ns.map V.int) vs
  | _, _, .nil => .nil
  | _, _, .cons n t h => .cons ⟨t, rfl⟩ (vals_ints h)

/-- nothing is tracked but the script, known to the object (or it is an object of the module) -/
def Only (H : Hp) : Prop := ∀ b, H b = none ∨ ∃ o xs, H b = some (.frz o (.lst xs))

/-- THE HEAD: the law's promise, at the heap behind the top. F, the promise of the law's def, may use that base is part of the heap (so K.In base, base.Ns mainGlobals mg stand in Mod) -/
theorem law_call {P : Program} {w : World} {K : PySem.W.Frag} {mg mb : Str → Option Value} {CX : CXT} {k : Nat} {fa a : Addr} {fd : FuncData} {x : Str} {sp : Sp} {s₁ : Shared} {vs : List Value} {ns : List Int}
    (KX : K.In s₁.heap) (hns : s₁.heap.Ns mainGlobals mg) (hb : s₁.heap.Ns builtinsNs mb) (hbb : ∀ x : Str, x ≠ "__name__" → mb x = bootBuiltins x) (hlim : s₁.heap.NoLimit) (hg : s₁.gens = #[])
    (ha : s₁.heap.get? a = some { cls := .type "list", data := .seq vs.toArray }) (hi : IntsAre vs ns) (hl : ns.length ≤ sizeLine) (hr : Room k callerA)
    (F : ∀ base : Heap, K.In base → base.Ns mainGlobals mg → FnOk P w K mg base CX k fa fd [x] sp) (hbind : ∀ (s : Shared) (u : Value), BindsTo s fd ⟨[u], []⟩ [(x, u)])
    (hsp : ∀ H : Hp, Only H → SqL K H a (ns.map V.int) → sp [.ref a] H (fun v _ => v = .bl true) fun _ _ _ => False)
    (hCX : ∀ H e s', CX [] H s₁ (fun _ _ _ => False) e s' → False) :
    codeAny (model P w) callerA (.call (.ref fa) ⟨[.ref a], []⟩) (fun r s' => r = .ok (.ret (.bool true)) ∧ OldK s₁.heap s'.heap ∧ s'.os = s₁.os ∧ AllBare s'.gens) s₁ := by
  have rv := vals_ints hi
  have lenV := hi.length
  -- from an abstract heap in which nothing but the script may be tracked
  have core : ∀ H : Hp, Only H → SqL K H a (ns.map V.int) → HOk P w H s₁.heap → (∀ b, H b ≠ none → b = a) → (H a ≠ none → K.lookup a = none) →
      codeAny (model P w) callerA (.call (.ref fa) ⟨[.ref a], []⟩) (fun r s' => r = .ok (.ret (.bool true)) ∧ OldK s₁.heap s'.heap ∧ s'.os = s₁.os ∧ AllBare s'.gens) s₁ := by
    intro H hO hS hok hA hK
    have base_of : ∀ {b : Addr} {o : Obj}, s₁.heap.get? b = some o → H b = none → (hidT s₁.heap H).get? b = some o := fun e n => hidT_get e n
    have noA : ∀ {b : Addr} {o : Obj} {es : Array DictEntry} {ep : Nat}, s₁.heap.get? b = some o → o.data = .dict es ep → H b = none := fun {b o es ep} e d => by
      cases q : H b with
      | none => rfl
      | some u =>
        have e' : b = a := hA b (by rw [q]; simp)
        subst e'
        rw [ha] at e; cases e
        have d' : Data.seq vs.toArray _ = Data.dict es ep := d
        cases d'
    have nsK : ∀ {b : Addr} {m : Str → Option Value}, s₁.heap.Ns b m → (hidT s₁.heap H).Ns b m := fun {b m} ⟨o, es, ep, e, d, r⟩ => ⟨o, es, ep, base_of e (noA e d), d, r⟩
    have hKb : K.In (hidT s₁.heap H) := fun b o e => base_of (KX b o e) (by
      cases q : H b with
      | none => rfl
      | some u =>
        have e' : b = a := hA b (by rw [q]; simp)
        subst e'
        rw [hK (by rw [q]; simp)] at e; cases e)
    have hM : Mod K mg (hidT s₁.heap H) := ⟨hKb, nsK hns, ⟨mb, nsK hb, hbb⟩, let ⟨mc, h1, h2⟩ := hlim; ⟨mc, nsK h1, h2⟩⟩
    have e0 : Env0 P w K mg (hidT s₁.heap H) callerA [] s₁ H := ⟨rfl, hM, fun b o e => of_hidT e, Nat.le_of_eq (hidT_size _ _), trivial, fun b hb => absurd (show b ∈ ([] : List Addr) from hb) (by simp), hok, .of_eq hg⟩
    refine codeAny_mono ((F _ hKb (nsK hns)).run callerA [] s₁ H ⟨[.ref a], []⟩ [.ref a] [.ref a] _ _ hr e0 (hbind s₁ (.ref a)) (.cons rfl .nil) (hsp H hO hS)) fun r s' h => ?_
    cases r with
    | error e => exact (hCX H e s' h).elim
    | ok fl =>
      cases fl with
      | next => exact False.elim h
      | brk => exact False.elim h
      | cont => exact False.elim h
      | ret u =>
        obtain ⟨v, H', os, bare, un, hok', r', q⟩ := h
        have q' : v = .bl true := q
        subst q'
        obtain rfl : u = Value.bool true := r'
        refine ⟨rfl, OldK.of_keep fun b o e => ?_, os, bare⟩
        cases q : H b with
        | none => exact un.keep b o e q (by intro z; exact absurd (show b ∈ ([] : List Addr) from z) (by simp)) (by simp)
        | some u =>
          rcases hO b with z | ⟨ob, xs, z⟩
          · rw [q] at z; cases z
          · have z2 := un.frzs b ob _ z
            obtain ⟨e1, _⟩ := hok b _ z
            obtain ⟨e2, _⟩ := hok' b _ z2
            rw [e] at e1; cases e1
            exact e2
  cases hk : K.lookup a with
  | some o =>
    -- the script is one of the module's own objects
    have e := KX a o hk
    rw [ha] at e
    cases e
    refine core (fun _ => none) (fun _ => .inl rfl) (.inr ⟨_, vs.toArray, _, hk, rfl, rfl, rfl, by rw [List.size_toArray, lenV]; exact hl, by simpa using rv⟩) (fun b u z => by have z' : (none : Option HO) = some u := z; cases z') (fun b z => absurd rfl z) fun z => absurd rfl z
  | none =>
    refine core (fun b => if b = a then some (.frz { cls := .type "list", data := .seq vs.toArray } (.lst (ns.map V.int))) else none) (fun b => ?_) (.inl (.inr ⟨{ cls := .type "list", data := .seq vs.toArray }, if_pos rfl⟩)) (fun b u z => ?_) (fun b z => ?_) fun _ => hk
    · by_cases hb : b = a
      · exact .inr ⟨_, _, if_pos hb⟩
      · exact .inl (if_neg hb)
    · by_cases hb : b = a
      · have z' := (if_pos hb).symm.trans z
        cases z'
        subst hb
        exact ⟨ha, by rw [List.length_map]; exact hl, vs, _, rv, ha⟩
      · have z' := (if_neg hb).symm.trans z
        cases z'
    · by_cases hb : b = a
      · exact hb
      · exact absurd (if_neg hb) z
end L2

namespace L2
open PySem PySem.Spec PyProof.Rows

abbrev KOf {K : PySem.W.Frag} {h : Heap} (_ : K.In h) : PySem.W.Frag := K

/-- the goal that k_head leaves (case hc), from the law's promise. F gives the function object fd (K's own) once, then the promise over every base -/
theorem walk_of {l : PySem.W.OpenLaw} {n k : Nat} {q : Program} {loose : List Str} {XP : (Str → Option Value) → Heap → Prop} {YP : World → Heap → Prop} {d : DefRec} {K : Params → PySem.W.Frag} {CX : World → CXT} {sp : World → Sp} {x : Str}
    (hn : l.most = some n) (hn2 : n ≤ sizeLine) (hdf : d.params.defaults = []) (hr : Room k callerA)
    (hY : ∀ (w : World) (h : Heap), YP w h → (K w.params).In h)
    (F : ∀ (w : World) (mg : Str → Option Value) (fa : Addr) (h : Heap), (K w.params).In h → h.Ns mainGlobals mg → mg d.name = some (.ref fa) →
      ∃ fd : FuncData, (∀ (s : Shared) (u : Value), BindsTo s fd ⟨[u], []⟩ [(x, u)]) ∧
        ∀ base : Heap, (K w.params).In base → base.Ns mainGlobals mg → FnOk l.prog w (K w.params) mg base (CX w) k fa fd [x] (sp w))
    (hsp : ∀ (w : World) (H : Hp) (a : Addr) (ns : List Int), ns.length ≤ n → Only H → SqL (K w.params) H a (ns.map V.int) → sp w [.ref a] H (fun v _ => v = .bl true) fun _ _ _ => False)
    (hCX : ∀ (w : World) (H : Hp) (s : Shared) (e : Value) (s' : Shared), CX w [] H s (fun _ _ _ => False) e s' → False) :
    PySem.W.WalkO q loose XP YP l.row.toRowW d [] (fun f vs => PySem.call f vs) := by
  refine Att.attach_call hn hdf fun w s₀ s₁ mg mb fa o pm cd doc a vs ns G Y ho hd hcd hmg hobj hints hlen hg => ?_
  have KX := hY w _ Y
  obtain ⟨fd, hb, hF⟩ := F w mg fa _ KX G.T.g hmg
  exact law_call KX G.T.g G.T.b G.T.builtins G.T.nolimit hg hobj hints (Nat.le_trans hlen hn2) hr hF hb (fun H hO hS => hsp w H a ns hlen hO hS) fun H e s' => hCX w H s₁ e s'
end L2

/- THE LAST THEOREM (shape; LID, My.* are yours):
   My.Adr: a structure of the addresses that your layer names (classes, functions); My.Txt K t: a structure (Prop) of the equations over K;
   My.txt_mk : {K} {implicit addresses ..} (e1 : nsIn K mainGlobals "law" = some (some (.ref f))) (e2 : K.lookup f = some ⟨oc, od, .func (fnOf "law" "law" params body scope dV kV doc pm an cdv ct), sl⟩) (e3 : codeIn K cdv "law" = true) .. : ∃ t, My.Txt K t

set_option maxRecDepth 100000 in
set_option maxHeartbeats 0 in
theorem PySem.Challenge.cw_LID_holds : PySem.Challenge.rw_LID.Holds := by
  w_on; o_law; k_head; (case hw => w_witness2)
  k_fill
  refine L2.walk_of (l := PySem.Challenge.rw_LID) (n := 63) (k := 40) (x := "script") (CX := fun w => ..) (sp := fun _ => My.sp_law) rfl (by decide) rfl ⟨rfl, by decide, by decide⟩ (fun w h Y => PySem.W.kIn_of Y) ?F ?S ?C
  case F =>
    intro w mg fa h KX G hmg
    have T : ∃ t, My.Txt (L2.KOf KX) t := by
      dsimp only [L2.KOf]                          -- K must stand as «<heap const> w.params» for k_is
      refine' My.txt_mk ?e1 ?e2 ?e3 ..
      (case e1 => PySem.W.k_is)                    -- in the order: a name -> its address -> its object -> its parts
      (case e2 => PySem.W.k_is)
      ..
    obtain ⟨t, T⟩ := T
    have e0 := hmg.symm.trans (PySem.W.mg_of KX G T.law)
    cases e0                                       -- fa is the law's own address
    exact ⟨_, fun s u => .of_eq rfl, fun base kb nb => My.law_fn T kb nb⟩     -- if «.of_eq rfl» comes too early: refine' ⟨_, ?b, fun base kb nb => My.law_fn T kb nb⟩; exact fun s u => .of_eq rfl
  case S => exact fun w H a ns hl hO hS => ..
  case C => exact ..
(the tactic k_is has no namespace: write k_is) -/

/-! SHORT WORDS over the layer: a def of the text, its body, what a loop and a test want. -/
namespace L2
open PySem PySem.Spec PyProof.Rows

/-! ### the text by places -/
def defArgs (s : Stmt) : Arguments := match s with
  | .FunctionDef _ a _ _ _ _ _ _ _ _ => a
  | _ => { posonlyargs := [], args := [], vararg := none, kwonlyargs := [], kw_defaults := [], kwarg := none, defaults := [] }
def defBody (s : Stmt) : List Stmt := match s with
  | .FunctionDef _ _ b _ _ _ _ _ _ _ => b
  | _ => []
def defScope (s : Stmt) : Scope := match s with
  | .FunctionDef _ _ _ _ _ _ sc _ _ _ => sc
  | _ => { kind := .function, names := [], isGenerator := false, isCoroutine := false }

/-! ### no exception leaves a def -/
abbrev CX0 : CXT := fun _ _ _ _ _ _ => False
abbrev E0 : XK := fun _ _ _ => False
theorem pass0 {X : Cx} : Passes CX0 X E0 := fun _ _ _ _ _ _ _ h => h.elim

/-! ### a def (or method) of the text as it stands behind the top -/
structure Fun (K : PySem.W.Frag) (x qual : Str) (st : Stmt) (f : Addr) (fd : FuncData) : Prop where
  ex : ∃ (oc : Value) (od : Option Addr) (kV doc pm : Value) (an : Option Addr) (cdv ct : Value) (osl : Array (Option Value)),
    fd = PySem.W.fnOf x qual (defArgs st) (defBody st) (defScope st) .none kV doc pm an cdv ct ∧ K.lookup f = some ⟨oc, od, .func fd, osl⟩ ∧ PySem.W.codeIn K cdv qual = true
  kp : PySem.W.keepIn K (.ref f) = true
section
variable {P : Program} {w : World} {K : PySem.W.Frag} {mg : Str → Option Value} {base : Heap}
/-- THE RULE for a def: its body as a term of rules, and the reading of that term -/
theorem Fun.ok {x qual : Str} {st : Stmt} {f : Addr} {fd : FuncData} {N ps : List Str} {k : Nat} {sp : Sp} (F : Fun K x qual st f fd) (S : FnScope N ps (defScope st)) (len : ∀ vs H Q E, sp vs H Q E → vs.length = ps.length)
    (hbody : ∀ (cdv : Value) (A : Around) (outer : List Env) (s : Shared) (H : Hp) (vs : List V) (Q : VK) (E : XK), Room k (A.deeper (envOfC qual (defScope st) s.heap.objs.size f cdv)) → sp vs H Q E →
      ∃ t, PSs (cxOf CX0 P w K mg base N qual (defScope st) f cdv A outer s H E).nox (defBody st) t ∧ t { nx := fun _ H' => Q .non H', rt := Q } (start N vs) H) : FnOk P w K mg base CX0 (k + 1) f fd ps sp := by
  obtain ⟨oc, od, kV, doc, pm, an, cdv, ct, osl, rfl, lk, hcd⟩ := F.ex
  refine fn_of lk hcd S len fun A outer s H vs Q E hr hsp => ?_
  obtain ⟨t, h, q⟩ := hbody cdv A outer s H vs Q E hr hsp
  exact ⟨t, h.nox, q⟩
/-- how its arguments bind (no defaults): h is «fun _ _ _ _ _ _ us hl => match us, hl with | [_, _], _ => rfl», one _ a parameter -/
theorem Fun.binds {x qual : Str} {st : Stmt} {f : Addr} {fd : FuncData} {ps : List Str} (F : Fun K x qual st f fd)
    (h : ∀ (kV doc pm : Value) (an : Option Addr) (cdv ct : Value) (us : List Value), us.length = ps.length → bindArgs (PySem.W.fnOf x qual (defArgs st) (defBody st) (defScope st) .none kV doc pm an cdv ct) ⟨us, []⟩ = pure (ps.zip us)) : Binds K fd ps [] := by
  obtain ⟨oc, od, kV, doc, pm, an, cdv, ct, osl, rfl, lk, hcd⟩ := F.ex
  exact .all (h kV doc pm an cdv ct)
theorem fun_mk {x qual : Str} {st : Stmt} {f : Addr} {oc : Value} {od an : Option Addr} {osl : Array (Option Value)} {kV doc pm cdv ct : Value} (l : K.lookup f = some ⟨oc, od, .func (PySem.W.fnOf x qual (defArgs st) (defBody st) (defScope st) .none kV doc pm an cdv ct), osl⟩)
    (c : PySem.W.codeIn K cdv qual = true) (k : PySem.W.keepIn K (.ref f) = true) : Fun K x qual st f (PySem.W.fnOf x qual (defArgs st) (defBody st) (defScope st) .none kV doc pm an cdv ct) := ⟨⟨oc, od, kV, doc, pm, an, cdv, ct, osl, rfl, l, c⟩, k⟩
end
theorem small1000 {n : Nat} (h : n ≤ 1000) : n < sizeLine := Nat.lt_of_le_of_lt h (by decide)

/-! ### expressions in short: the name that stands in the i-th slot -/
section
variable {X : Cx}
theorem pv (i : Nat) {x : Str} {pos : Pos} (hN : X.N[i]? = some x := by rfl) (hv : Vis X.env.scope x := by first | exact Or.inl rfl | exact Or.inr (Or.inl rfl) | exact Or.inr (Or.inr rfl)) (hd : (x == ("__debug__" : Str)) = false := by decide)
    (hcd : (x == ("__classdict__" : Str)) = false := by decide) : PE X (.Name x pos) (tVar i) := pe_var hN hv hd hcd
end

/-! ### tests -/
theorem iteF {A B : Prop} (h : B) : if false = true then A else B := by
  rw [if_neg Bool.false_ne_true]
  exact h
theorem iteT {A B : Prop} (h : A) : if true = true then A else B := by
  rw [if_pos rfl]
  exact h
theorem ite2 {c A B : Prop} [Decidable c] (h1 : c → A) (h2 : ¬ c → B) : if c then A else B := by
  by_cases h : c
  · rw [if_pos h]
    exact h1 h
  · rw [if_neg h]
    exact h2 h
/-! ### heaps -/
/-- all that was tracked is as it was -/
def Same (H H' : Hp) : Prop := ∀ b o, H b = some o → H' b = some o
theorem Same.refl (H : Hp) : Same H H := fun _ _ h => h
theorem Same.trans {H H1 H2 : Hp} (a : Same H H1) (b : Same H1 H2) : Same H H2 := fun c o h => b c o (a c o h)
theorem Same.free {H H' : Hp} (e : Same H H') {l : Addr} (h : H' l = Option.none) : H l = Option.none := by
  cases q : H l with
  | none => rfl
  | some o =>
    rw [e l o q] at h
    cases h
theorem Same.seq {K : PySem.W.Frag} {H H' : Hp} {a : Addr} {xs : List V} (e : Same H H') (h : SqL K H a xs) : SqL K H' a xs := by
  rcases h with (h | ⟨o, h⟩) | h
  · exact .inl (.inl (e _ _ h))
  · exact .inl (.inr ⟨o, e _ _ h⟩)
  · exact .inr h

end L2

set_option maxHeartbeats 4000000
/-! Comprehensions over the hand layer: a list by one clause, its tests, its block's own context. -/
namespace L2
open PySem PySem.Spec PyProof.Rows

section
variable {prog : Program} {w : World} {A : Around} {R : Result → Shared → Prop} {s : Shared}
theorem comp_loop {elt target iter : Expr} {ifs : List Expr} {scope : Scope} {pos : Pos} {it acc : Value} {env : Env} (I : Nat → Shared → Prop)
    (turn : ∀ n s, I n s → wpAny (model prog w) A (pyNext it) (fun r s₁ => match r with
      | none => R (.ok .next) s₁
      | some v => wpAny (model prog w) A (letOwnedTupleGo target it v) (fun _ s₁' => wpAny (model prog w) A (assign target env v) (fun _ s₂ =>
          wpAny (model prog w) A (forIn ifs true fun c r => if r = true then do let ok ← isTrue c env (eval c env); pure (ForInStep.yield ok) else pure (ForInStep.yield r)) (fun ok s₃ =>
            if ok = true then wpAny (model prog w) A (eval elt env) (fun x s₄ =>
              wpAny (model prog w) A (call (.builtin "list.append") [acc, x]) (fun _ s₅ => ∃ m, m < n ∧ I m s₅) (fun _ _ => False) s₄) (fun _ _ => False) s₃
            else ∃ m, m < n ∧ I m s₃) (fun _ _ => False) s₂) (fun _ _ => False) s₁') (fun _ _ => False) s₁) (fun _ _ => False) s)
    (n : Nat) (h : I n s) : codeAny (model prog w) A (.compLoop (.ListComp elt [⟨target, iter, ifs, 0⟩] scope pos) 0 it acc env) R s := by
  refine codeAny_loop rfl I (fun n s hI => ?_) n h
  show wpAny _ A ((compTurn (.ListComp elt [⟨target, iter, ifs, 0⟩] scope pos) 0 it acc env).onRaise (fun x => do noteFrame x env; theTreesLotGoes x)) _ _ s
  refine wpAny_noted ?_
  rw [compTurn_list]
  refine wpAny_bind (wpAny_standAt (wpAny_bind (wpAny_mono (turn n s hI) (fun r s₁ h₁ => ?_) fun _ _ h' => h'.elim)))
  cases r with
  | none => exact wpAny_pure h₁
  | some v =>
    refine wpAny_bind (wpAny_mono h₁ (fun _ s₁' h₁' => ?_) fun _ _ h' => h'.elim)
    refine wpAny_bind (wpAny_mono h₁' (fun _ s₂ h₂ => wpAny_bind (wpAny_mono h₂ (fun ok s₃ h₃ => ?_) fun _ _ h' => h'.elim)) fun _ _ h' => h'.elim)
    cases ok with
    | false => exact wpAny_pure ⟨rfl, h₃⟩
    | true =>
      exact wpAny_bind (wpAny_bind (wpAny_mono h₃ (fun x s₄ h₄ => wpAny_bind (wpAny_mono h₄ (fun _ s₅ h₅ => wpAny_pure (wpAny_pure ⟨rfl, h₅⟩)) fun _ _ h' => h'.elim)) fun _ _ h' => h'.elim))
end

/-! ### the cells that a block reads -/
theorem clos_go (env : Env) (f : Str × NameKind → List (Str × Addr) → Sem (ForInStep (List (Str × Addr))))
    (hf : ∀ n k r, f (n, k) r = if (k == NameKind.free) = true then (do let a ← cellOf env n; pure (ForInStep.yield ((n, a) :: r))) else pure (ForInStep.yield r)) :
    ∀ (ns : List (Str × NameKind)) (acc : List (Str × Addr)), (∀ y ∈ ns, y.2 = .free → ∃ c, env.cells.lookup y.1 = some c) → (∀ x c, acc.lookup x = some c → env.cells.lookup x = some c) →
      ∃ cl, forIn ns acc f = pure cl ∧ (∀ x c, cl.lookup x = some c → env.cells.lookup x = some c) ∧ (∀ y ∈ ns, y.2 = .free → ∃ c, cl.lookup y.1 = some c) ∧ (∀ x c, acc.lookup x = some c → ∃ c', cl.lookup x = some c')
  | [], acc, _, ha => ⟨acc, by rw [List.forIn_nil], ha, fun _ h => (nomatch h), fun x c h => ⟨c, h⟩⟩
  | (n, k) :: r, acc, hn, ha => by
    rw [List.forIn_cons, hf]
    by_cases hk : k = .free
    · subst hk
      obtain ⟨c, hc⟩ := hn (n, .free) List.mem_cons_self rfl
      have hc' : env.cells.lookup n = some c := hc
      have e1 : cellOf env n = pure c := by unfold cellOf; rw [hc']
      obtain ⟨cl, h1, h2, h3, h4⟩ := clos_go env f hf r ((n, c) :: acc) (fun y hy => hn y (List.mem_cons_of_mem _ hy)) (fun x c' hx => by
        rw [List.lookup_cons] at hx
        cases e : x == n with
        | true =>
          rw [e] at hx
          have : x = n := by simpa using e
          subst this
          rw [← Option.some.inj hx]; exact hc'
        | false => rw [e] at hx; exact ha x c' hx)
      refine ⟨cl, ?_, h2, fun y hy hyf => ?_, fun x c' hx => ?_⟩
      · rw [if_pos (by rfl), e1]
        exact h1
      · rcases List.mem_cons.mp hy with e | hy
        · subst e
          exact h4 n c (by simp)
        · exact h3 y hy hyf
      · cases e : x == n with
        | true => exact h4 x c (by rw [List.lookup_cons, e])
        | false => exact h4 x c' (by rw [List.lookup_cons, e]; exact hx)
    · have hk' : (k == NameKind.free) = false := by simpa using hk
      obtain ⟨cl, h1, h2, h3, h4⟩ := clos_go env f hf r acc (fun y hy => hn y (List.mem_cons_of_mem _ hy)) ha
      refine ⟨cl, ?_, h2, fun y hy hyf => ?_, h4⟩
      · rw [hk', if_neg Bool.false_ne_true]
        exact h1
      · rcases List.mem_cons.mp hy with e | hy
        · subst e
          exact absurd hyf hk
        · exact h3 y hy hyf
theorem clos_ok {scope : Scope} {env : Env} (h : ∀ y ∈ scope.names, y.2 = .free → ∃ c, env.cells.lookup y.1 = some c) :
    ∃ cl, closureFor scope env = pure cl ∧ (∀ x c, cl.lookup x = some c → env.cells.lookup x = some c) ∧ (∀ y ∈ scope.names, y.2 = .free → ∃ c, cl.lookup y.1 = some c) := by
  obtain ⟨cl, h1, h2, h3, _⟩ := clos_go env (fun x r => match x with
    | (n, k) => if (k == NameKind.free) = true then (do let a ← cellOf env n; pure (ForInStep.yield ((n, a) :: r))) else pure (ForInStep.yield r)) (fun _ _ _ => rfl) scope.names [] h (fun x c q => by simp at q)
  refine ⟨cl, ?_, h2, h3⟩
  unfold closureFor
  refine Eq.trans ?_ h1
  have e : ∀ (m : Sem (List (Str × Addr))), (m >>= fun r => (pure r >>= fun r => pure r)) = m := fun m => by simp only [pure_bind, bind_pure]
  exact e _

/-! ### the block's names and tests -/
def capt (n : Nat) (fi : List Nat) (σ : St) : St := List.replicate n none ++ fi.map fun i => σ.getD i none
def tTrue : TT := fun _ H Q => Q true H
def PTs (X : Cx) (ifs : List Expr) (t : TT) : Prop :=
  ∀ (pins : List (Addr × Obj)) (s : Shared) (σ : St) (H : Hp) (Q : Bool → Hp → Prop), Inv X pins σ H s → t σ H Q →
    wpAny (model X.prog X.w) X.A (forIn ifs true fun c r => if r = true then do let ok ← isTrue c X.env (eval c X.env); pure (ForInStep.yield ok) else pure (ForInStep.yield r)) (TP X pins σ Q) X.xe s
theorem pts_nil {X : Cx} : PTs X [] tTrue := fun pins s σ H Q I h => wpAny_tests_nil ⟨H, I, h⟩
/-- the block: Ls its own names, Fs the names that it reads of the def's, fi their places there -/
structure LcScope (N : List Str) (osc scope : Scope) (Ls Fs : List Str) (fi : List Nat) : Prop where
  kind : scope.kind = .function
  cells : ∀ y ∈ scope.names, y.2 ≠ .cell
  names : ∀ y ∈ scope.names, y.2 = .local → scope.names.lookup y.1 = some .local
  fre : ∀ x ∈ Fs, scope.names.lookup x = some .free
  all : ∀ y ∈ scope.names, y.2 = .free → osc.names.lookup y.1 = some .cell ∨ osc.names.lookup y.1 = some .free
  ix : fi.map (fun i => N[i]?) = Fs.map some
def blk (X : Cx) (scope : Scope) (N : List Str) (cl : List (Str × Addr)) (C : Addr) (s3 : Shared) (H3 : Hp) (ex : List Addr) : Cx :=
  { X with N := N, s₀ := s3, H₀ := H3, env := compEnvC scope cl C X.env, outer := X.stack, stack := X.stack, ex := ex, fn := fun _ => false, pn := [], xe := fun _ _ => False }

theorem relabel_free {env : Env} : ∀ {names : List (Str × NameKind)} {x : Str}, (∀ y ∈ names, y.2 ≠ .cell) →
    ((names.map fun (n, k) => if (k == NameKind.free && env.scope.kind == .function && env.kindOf n == some .cell) then (n, NameKind.cell) else (n, k)).lookup x = some .cell ∨
     (names.map fun (n, k) => if (k == NameKind.free && env.scope.kind == .function && env.kindOf n == some .cell) then (n, NameKind.cell) else (n, k)).lookup x = some .free) → ∃ y ∈ names, y.1 = x ∧ y.2 = .free
  | [], _, _, h => by simp at h
  | (n, k) :: r, x, hc, h => by
    have ih := @relabel_free env r x (fun y hy => hc y (List.mem_cons_of_mem _ hy))
    cases hx : x == n with
    | true =>
      have e : x = n := by simpa using hx
      subst e
      by_cases hb : (k == NameKind.free && env.scope.kind == .function && env.kindOf x == some .cell) = true
      · have : k = .free := by
          simp only [Bool.and_eq_true, beq_iff_eq] at hb
          exact hb.1.1
        exact ⟨(x, k), List.mem_cons_self, rfl, this⟩
      · simp only [List.map_cons, if_neg hb, List.lookup_cons, hx] at h
        rcases h with h | h
        · exact absurd (Option.some.inj h) (hc (x, k) List.mem_cons_self)
        · exact ⟨(x, k), List.mem_cons_self, rfl, Option.some.inj h⟩
    | false =>
      have h' : ((r.map fun (n, k) => if (k == NameKind.free && env.scope.kind == .function && env.kindOf n == some .cell) then (n, NameKind.cell) else (n, k)).lookup x = some .cell ∨
        (r.map fun (n, k) => if (k == NameKind.free && env.scope.kind == .function && env.kindOf n == some .cell) then (n, NameKind.cell) else (n, k)).lookup x = some .free) := by
        by_cases hb : (k == NameKind.free && env.scope.kind == .function && env.kindOf n == some .cell) = true
        · simpa only [List.map_cons, if_pos hb, List.lookup_cons, hx] using h
        · simpa only [List.map_cons, if_neg hb, List.lookup_cons, hx] using h
      obtain ⟨y, hy, z⟩ := ih h'
      exact ⟨y, List.mem_cons_of_mem _ hy, z⟩
theorem relabel_look {env : Env} {x : Str} : ∀ {names : List (Str × NameKind)}, names.lookup x = some .free →
    ((names.map fun (n, k) => if (k == NameKind.free && env.scope.kind == .function && env.kindOf n == some .cell) then (n, NameKind.cell) else (n, k)).lookup x = some .cell ∨
     (names.map fun (n, k) => if (k == NameKind.free && env.scope.kind == .function && env.kindOf n == some .cell) then (n, NameKind.cell) else (n, k)).lookup x = some .free)
  | [], h => by simp at h
  | (n, k) :: r, h => by
    cases hx : x == n with
    | true =>
      have e : x = n := by simpa using hx
      subst e
      rw [List.lookup_cons, hx] at h
      have hk : k = .free := Option.some.inj h
      subst hk
      by_cases hb : (NameKind.free == NameKind.free && env.scope.kind == .function && env.kindOf x == some .cell) = true
      · left; simp only [List.map_cons, if_pos hb, List.lookup_cons, hx]
      · right; simp only [List.map_cons, if_neg hb, List.lookup_cons, hx]
    | false =>
      rw [List.lookup_cons, hx] at h
      have ih := @relabel_look env x r h
      by_cases hb : (k == NameKind.free && env.scope.kind == .function && env.kindOf n == some .cell) = true
      · simpa only [List.map_cons, if_pos hb, List.lookup_cons, hx] using ih
      · simpa only [List.map_cons, if_neg hb, List.lookup_cons, hx] using ih

theorem aLt {h : Heap} {b : Addr} {o : Obj} (e : h.get? b = some o) : @LT.lt Nat _ b h.objs.size := Heap.lt_size e
/-! ### the rule -/
/-- W: by the turn, a measure, the items so far, the heap; N: what a turn is to reach -/
def LcW (J : It) (σ : St) (g : TG) (tc : TT) (te : TE) (H : Hp) (Q : VK) : Prop :=
  ∃ W : Nat → Nat → List V → Hp → Prop, (∃ m, W 0 m [] H) ∧ ∀ i m ys H, W i m ys H →
    (J.stop i H ∧ ys.length ≤ sizeLine ∧ ∀ D, H D = none → Q (.ref D) (upd H D (.lst ys))) ∨
    (J.go i H ∧ ys.length ≤ sizeLine ∧ ∃ N : List V → Hp → Prop, (∀ ys' H', N ys' H' → ∃ m', m' < m ∧ W (i + 1) m' ys' H') ∧ ∀ x H', J.yld i H x H' → g x σ H' fun σ2 H2 =>
      tc σ2 H2 fun b H3 => if b = true then te σ2 H3 fun y H4 => N (ys ++ [y]) H4 else N ys H3)
def tLc (n : Nat) (fi : List Nat) (wi : TI) (g : TG) (tc : TT) (te : TE) : TE := fun σ H Q => wi σ H fun J H1 => LcW J (capt n fi σ) g tc te H1 Q

section
variable {X : Cx} {pins : List (Addr × Obj)} {σ : St} {tg elt iter : Expr} {ifs : List Expr} {scope : Scope} {pos : Pos} {Ls Fs : List Str} {fi : List Nat} {g : TG} {tc : TT} {te : TE}

/-- an iterator's turns in this context -/
structure TurnX (X : Cx) (tg : Expr) (J : It) (fp : List Addr) (it : Addr) (tn : Nat → Heap → Prop) : Prop where
  obj : ∀ i h, tn i h → ∀ b ∈ fp, ∃ o, h.get? b = some o ∧ ∀ v, o.data ≠ .cell v
  keep : ∀ i h h', tn i h → (∀ b ∈ fp, ∀ o, h.get? b = some o → h'.get? b = some o) → tn i h'
  item : ∀ (i : Nat) (pins : List (Addr × Obj)) (s : Shared) (σ : St) (H : Hp) (E : Value → Shared → Prop), Inv X pins σ H s → (∀ b ∈ fp, FpOk X pins H b) → tn i s.heap → J.go i H →
    wpAny (model X.prog X.w) X.A (pyNext (.ref it)) (fun r s1 => ∃ u, r = some u ∧
      wpAny (model X.prog X.w) X.A (letOwnedTupleGo tg (.ref it) u) (fun _ s2 => ∃ x H', Inv X pins σ H' s2 ∧ RelV x u ∧ J.yld i H x H' ∧ tn (i + 1) s2.heap ∧ ∀ b ∈ fp, H' b = none) E s1) E s
  done : ∀ (i : Nat) (pins : List (Addr × Obj)) (s : Shared) (σ : St) (H : Hp) (E : Value → Shared → Prop), Inv X pins σ H s → (∀ b ∈ fp, FpOk X pins H b) → tn i s.heap → J.stop i H →
    wpAny (model X.prog X.w) X.A (pyNext (.ref it)) (fun r s1 => r = none ∧ Inv X pins σ H s1) E s
  self : ∀ (A : Around) (i : Nat) (s : Shared) (Q : Value → Shared → Prop) (E : Value → Shared → Prop), tn i s.heap → Q (.ref it) s → wpAny (model X.prog X.w) A (pyIter (.ref it)) Q E s
theorem Turn.at {X : Cx} {tg : Expr} {J : It} {fp : List Addr} {it : Addr} {tn : Nat → Heap → Prop} (T : Turn X.prog X.w X.K tg J fp it tn) (hc : X.calm = true) : TurnX X tg J fp it tn := ⟨T.obj, T.keep, T.item X rfl rfl rfl hc, T.done X rfl rfl rfl hc, T.self⟩
theorem lc_block {H2 : Hp} {s2 : Shared} {it : Addr} {fp : List Addr} {tn : Nat → Heap → Prop} {J : It} {cl : List (Str × Addr)} {Q : VK} {E : Value → Shared → Prop} {RR : Value → Addr → Result → Shared → Prop}
    (S : LcScope X.N X.env.scope scope Ls Fs fi)
    (hb : ∀ C s3 H3 ex, PG (blk X scope (Ls ++ Fs) cl C s3 H3 ex) tg g ∧ PTs (blk X scope (Ls ++ Fs) cl C s3 H3 ex) ifs tc ∧ PE (blk X scope (Ls ++ Fs) cl C s3 H3 ex) elt te)
    (hcl1 : ∀ x c, cl.lookup x = some c → X.env.cells.lookup x = some c) (hcl2 : ∀ y ∈ scope.names, y.2 = .free → ∃ c, cl.lookup y.1 = some c)
    (I2 : Inv X pins σ H2 s2) (TX : ∀ C s3 H3 ex, TurnX (blk X scope (Ls ++ Fs) cl C s3 H3 ex) tg J fp it tn) (st2 : tn 0 s2.heap) (f2 : ∀ b ∈ fp, FpOk X pins H2 b)
    (hW : ∃ W : Nat → Nat → List V → Hp → Prop, (∃ m, W 0 m [] H2) ∧ ∀ i m ys H, W i m ys H →
      (J.stop i H ∧ ys.length ≤ sizeLine ∧ ∀ D, H D = none → Q (.ref D) (upd H D (.lst ys))) ∨
      (J.go i H ∧ ys.length ≤ sizeLine ∧ ∃ N : List V → Hp → Prop, (∀ ys' H', N ys' H' → ∃ m', m' < m ∧ W (i + 1) m' ys' H') ∧ ∀ x H', J.yld i H x H' → g x (capt Ls.length fi σ) H' fun σ2 H2 =>
        tc σ2 H2 fun b H3 => if b = true then te σ2 H3 fun y H4 => N (ys ++ [y]) H4 else N ys H3))
    (fin : ∀ D C H' s' m, Inv X pins σ H' s' → Q (.ref D) H' → s'.heap.Ns C m → FpOk X pins H' C → RR (.ref D) C (.ok .next) s') :
    wpAny (model X.prog X.w) X.A (newList []) (fun acc s₃ => wpAny (model X.prog X.w) X.A (newFunctionEnv scope X.env.globals cl [] X.env.qual none .none (some X.env)) (fun cenv s₄ =>
      codeAny (model X.prog X.w) X.A (.compStart (.ListComp elt [⟨tg, iter, ifs, 0⟩] scope pos) 0 (.ref it) acc { cenv with scope := relabel scope X.env }) (RR acc cenv.locals) s₄) E s₃) E s2 := by
  refine wpAny_newObj_type (wpAny_newFunctionEnv S.cells (by intro y hy; simp at hy) (fun h₁ hns₁ hsb₁ => ?_) S.kind)
  dsimp only at hns₁ hsb₁ ⊢
  generalize hH3 : s2.heap.push { cls := .type "list", dict := none, data := .seq ([] : List Value).toArray } = h3 at hns₁ hsb₁ ⊢
  generalize hC : h3.objs.size = C at hns₁ hsb₁ ⊢
  generalize hD : s2.heap.objs.size = D
  have hCD : C = D + 1 := by rw [← hC, ← hH3, Heap.size_push, hD]
  have k23 : ∀ b o, s2.heap.get? b = some o → h3.get? b = some o := fun b o e => by rw [← hH3]; exact Heap.get?_push_of_some _ e
  have k34 : ∀ b o, h3.get? b = some o → h₁.get? b = some o := fun b o e => hsb₁.extBut b o (Nat.ne_of_lt (by have := aLt e; omega)) (Heap.get?_push_of_some _ e)
  have hDo : h3.get? D = some { cls := .type "list", data := .seq ([] : List Value).toArray } := by rw [← hH3, ← hD]; exact Heap.get?_push_size _ rfl
  obtain ⟨W, ⟨m0, w0⟩, turn⟩ := hW
  have T := TX C { s2 with heap := h3 } H2 (D :: fp)
  -- the state where the block begins
  have I3 : Inv X pins σ H2 { s2 with heap := h3 } := I2.kept (t' := s2.toks) k23
  have frD : H2 D = none := by rw [← hD]; exact I2.fresh
  have frC : H2 C = none := I2.hok.fresh (by omega)
  have DL : D ≠ X.env.locals := Nat.ne_of_gt (by have : @LT.lt Nat _ X.env.locals s2.heap.objs.size := I2.lt; omega)
  have CL : C ≠ X.env.locals := Nat.ne_of_gt (by have : @LT.lt Nat _ X.env.locals s2.heap.objs.size := I2.lt; omega)
  have cellLt : ∀ x c, X.env.cells.lookup x = some c → @LT.lt Nat _ c D := fun x c e => by
    obtain ⟨v, q⟩ := I2.cell x c e
    have : @LT.lt Nat _ c s2.heap.objs.size := q.lt
    omega
  have fpLt : ∀ b ∈ fp, @LT.lt Nat _ b D := fun b hb => by
    obtain ⟨o, e, _⟩ := T.obj _ _ st2 b hb
    have := aLt e
    omega
  have exLoc : ∀ b ∈ D :: fp, b ≠ C ∧ (∀ x c, X.env.cells.lookup x = some c → c ≠ b) := fun b hb => by
    rcases List.mem_cons.mp hb with e | hb
    · subst e
      exact ⟨Nat.ne_of_lt (by omega), fun x c e => Nat.ne_of_lt (cellLt x c e)⟩
    · exact ⟨Nat.ne_of_lt (by have := fpLt b hb; omega), (f2 b hb).2.2.2.2.1⟩
  have ok' : (blk X scope (Ls ++ Fs) cl C { s2 with heap := h3 } H2 (D :: fp)).Ok := by
    refine ⟨I2.ok.mod, S.kind, I2.ok.glob, I2.ok.blt, ?_, fun x y c e1 e2 => I2.ok.inj x y c (hcl1 x c e1) (hcl1 y c e2), fun x hx => ?_, fun x c hx => absurd hx Bool.false_ne_true, I2.ok.hd, I2.ok.frames, .inl rfl,
      fun b hb => ⟨(exLoc b hb).1, fun x c e => (exLoc b hb).2 x c (hcl1 x c e)⟩, I3.bs, Nat.le_trans I2.ok.bsz I3.sz, fun b o e hb => ?_, fun b hb => ?_, I3.stack, I3.stkFree⟩
    · show h3.objs.size ≤ C
      omega
    · obtain ⟨y, hy, e1, e2⟩ := relabel_free S.cells hx
      obtain ⟨c, q⟩ := hcl2 y hy e2
      exact ⟨c, e1 ▸ q⟩
    · rcases List.mem_cons.mp hb with z | hb
      · exact absurd z (Nat.ne_of_lt (by have := aLt (I2.bk b o e); omega))
      · rcases (f2 b hb).2.2.2.1 with z | z
        · exact I2.ok.noex b o e z
        · have h1 : @LT.lt Nat _ b X.base.objs.size := aLt e
          have h2 : @LE.le Nat _ X.base.objs.size X.s₀.heap.objs.size := I2.ok.bsz
          have h3 : @LE.le Nat _ X.s₀.heap.objs.size b := z
          omega
    · intro hz
      have hz' := I2.stkSub b hz
      rcases List.mem_cons.mp hb with e | hb
      · subst e
        rcases List.mem_cons.mp hz' with z | z
        · exact DL z
        · exact I2.nofs (by omega) z
      · rcases List.mem_cons.mp hz' with z | z
        · exact (f2 b hb).2.1 z
        · exact (f2 b hb).2.2.1 z
  obtain ⟨m2, hn2, hl2⟩ := id I2.loc
  -- the captured values lie in cells that no one changes
  have cap : ∀ (i : Nat) (x : Str) (v : V), (Ls ++ Fs)[i]? = some x → (capt Ls.length fi σ)[i]? = some (some v) → ∃ u c, RelV v u ∧ ((relabel scope X.env).names.lookup x = some .cell ∨ (relabel scope X.env).names.lookup x = some .free) ∧
      cl.lookup x = some c ∧ X.env.cells.lookup x = some c ∧ s2.heap.IsCell c (some u) := by
    intro i x v e1 e2
    unfold capt at e2
    by_cases hi : i < Ls.length
    · rw [List.getElem?_append_left (by simpa using hi), List.getElem?_replicate, if_pos hi] at e2
      cases e2
    · have hi' : Ls.length ≤ i := Nat.le_of_not_lt hi
      rw [List.getElem?_append_right hi'] at e1
      rw [List.getElem?_append_right (by simpa using hi'), List.length_replicate, List.getElem?_map] at e2
      cases e3 : fi[i - Ls.length]? with
      | none => rw [e3] at e2; cases e2
      | some j =>
        rw [e3] at e2
        have e4 : σ.getD j none = some v := Option.some.inj e2
        have e5 : X.N[j]? = some x := by
          have q := congrArg (fun l => l[i - Ls.length]?) S.ix
          simp only [List.getElem?_map, e3, e1, Option.map_some] at q
          exact Option.some.inj q
        have e6 : σ[j]? = some (some v) := by
          rw [List.getD_eq_getElem?_getD] at e4
          cases e7 : σ[j]? with
          | none => rw [e7] at e4; cases e4
          | some z => rw [e7] at e4; exact congrArg some e4
        have fx := S.fre x (List.mem_of_getElem? e1)
        have al := S.all (x, .free) (PySem.mem_of_lookup fx) rfl
        have vis : Vis X.env.scope x := by
          rcases al with z | z
          · exact .inr (.inl z)
          · exact .inr (.inr z)
        obtain ⟨u, ru, lk⟩ := hl2 j x v e5 e6 vis
        rcases lk with ⟨k, _⟩ | ⟨k, c, ec, hcell⟩
        · have k' : X.env.scope.names.lookup x = some .local := k
          rcases al with z | z
          · rw [show X.env.scope.names.lookup x = some .cell from z] at k'; cases k'
          · rw [show X.env.scope.names.lookup x = some .free from z] at k'; cases k'
        · obtain ⟨c', ec'⟩ := hcl2 (x, .free) (PySem.mem_of_lookup fx) rfl
          have : c' = c := Option.some.inj ((hcl1 x c' ec').symm.trans ec)
          subst this
          exact ⟨u, c', ru, relabel_look fx, ec', ec, hcell⟩
  have capLen : (capt Ls.length fi σ).length = (Ls ++ Fs).length := by
    unfold capt
    have q := congrArg List.length S.ix
    simp only [List.length_map] at q
    rw [List.length_append, List.length_replicate, List.length_map, List.length_append, q]
  -- whatever the block's names hold, the captured ones hold what they held
  have re : ∀ {ps : List (Addr × Obj)} {σ' : St} {H' : Hp} {s' : Shared}, Inv (blk X scope (Ls ++ Fs) cl C { s2 with heap := h3 } H2 (D :: fp)) ps σ' H' s' → Inv (blk X scope (Ls ++ Fs) cl C { s2 with heap := h3 } H2 (D :: fp)) ps (capt Ls.length fi σ) H' s' := by
    intro ps σ' H' s' J'
    refine ⟨J'.ok, J'.os, J'.bare, J'.base, ?_, J'.cell, J'.free, J'.freeC, J'.pin, J'.hok, capLen⟩
    obtain ⟨m, hn, _⟩ := J'.loc
    refine ⟨m, hn, fun i x v e1 e2 _ => ?_⟩
    obtain ⟨u, c, ru, kk, ec, ec2, o, ho, hd⟩ := cap i x v e1 e2
    obtain ⟨sl, q⟩ := J'.base.any (k23 c o ho) (I2.freeC x c ec2) fun z => (exLoc c z).2 x c ec2 rfl
    exact ⟨u, ru, .inr ⟨kk, c, ec, _, q, hd⟩⟩
  have I4 : Inv (blk X scope (Ls ++ Fs) cl C { s2 with heap := h3 } H2 (D :: fp)) [(D, { cls := .type "list", data := .seq ([] : List Value).toArray })] (capt Ls.length fi σ) H2 { s2 with heap := h₁, toks := s2.toks + ([] : List (Str × Value)).length } := by
    refine ⟨ok', rfl, I2.bare, Un.kept k34, ⟨_, hns₁, fun i x v e1 e2 _ => ?_⟩, fun x c e => ?_, frC, fun x c e => I2.freeC x c (hcl1 x c e), fun p hp => ?_, I2.hok.kept fun b o e => k34 b o (k23 b o e), capLen⟩
    · obtain ⟨u, c, ru, kk, ec, ec2, o, ho, hd⟩ := cap i x v e1 e2
      exact ⟨u, ru, .inr ⟨kk, c, ec, o, k34 c o (k23 c o ho), hd⟩⟩
    · obtain ⟨v, o, ho, hd⟩ := I2.cell x c (hcl1 x c e)
      exact ⟨v, o, k34 c o (k23 c o ho), hd⟩
    · have hp' : p = (D, { cls := .type "list", data := .seq ([] : List Value).toArray }) := by
        have : p ∈ ([] : List (Addr × Obj)) ++ [(D, { cls := .type "list", data := .seq ([] : List Value).toArray })] := hp
        simpa using this
      subst hp'
      refine ⟨k34 D _ hDo, frD, Nat.ne_of_lt (show @LT.lt Nat _ D C by omega), fun z => ?_, fun v z => by cases z⟩
      rcases List.mem_cons.mp (I2.stkSub D z) with z | z
      · exact DL z
      · exact I2.nofs (by omega) z
  obtain ⟨hg, ht, he⟩ := hb C { s2 with heap := h3 } H2 (D :: fp)
  -- behind the block: what the def's own context knows
  have back : ∀ {ps : List (Addr × Obj)} {σ' : St} {H' : Hp} {s' : Shared} {ys : List V} {its : List Value} {n : Nat}, Inv (blk X scope (Ls ++ Fs) cl C { s2 with heap := h3 } H2 (D :: fp)) ps σ' H' s' → s'.heap.get? D = some { cls := .type "list", data := .seq its.toArray n } →
      H' D = none → Vals ys its → ys.length ≤ sizeLine → Inv X pins σ (upd H' D (.lst ys)) s' ∧ FpOk X pins (upd H' D (.lst ys)) C := by
    intro ps σ' H' s' ys its n J' hDs hDn rv hz
    have neD : ∀ b o, s2.heap.get? b = some o → b ≠ D := fun b o e => Nat.ne_of_lt (by have := aLt e; omega)
    have nex : ∀ b, b ∉ fp → b ≠ D → b ∉ D :: fp := fun b h1 h2 z => (List.mem_cons.mp z).elim h2 h1
    have U : Un (frs X.stack) fp H2 (upd H' D (.lst ys)) s2.heap s'.heap := by
      refine ⟨fun b o e n hb hx => J'.base.keep b o (k23 b o e) n hb (nex b hx (neD b o e)), fun b o e n hb hx => J'.base.slot b o (k23 b o e) n hb (nex b hx (neD b o e)), fun b o e n hx => ?_, fun b o e hx => J'.base.there b o (k23 b o e) (nex b hx (neD b o e)), fun b xs e => ?_, fun b o u e => ?_, fun b ps e => ?_⟩
      · rw [upd_ne (neD b o e)]
        exact J'.base.free b o (k23 b o e) n (nex b hx (neD b o e))
      · rw [upd_ne (ne_of_none e frD)]
        exact J'.base.tups b xs e
      · rw [upd_ne (ne_of_none e frD)]
        exact J'.base.frzs b o u e
      · obtain ⟨more, q⟩ := J'.base.tbls b ps e
        exact ⟨more, by rw [upd_ne (ne_of_none e frD)]; exact q⟩
    have hok' : HOk X.prog X.w (upd H' D (.lst ys)) s'.heap := fun b u q => by
      by_cases hbD : b = D
      · subst hbD
        rw [upd_same] at q
        cases q
        exact ⟨hz, its, n, rv, hDs⟩
      · rw [upd_ne hbD] at q
        exact (J'.hok b u q).stay (fun c v _ r => r) (fun c r => by rw [upd_ne (ne_of_none r hDn)]; exact r) fun c xs r => by rw [upd_ne (ne_of_none r hDn)]; exact r
    refine ⟨I2.call' J'.os U hok' J'.bare fun b hb => ⟨(f2 b hb).2.2.2.1, (f2 b hb).2.1, (f2 b hb).2.2.2.2.1, (f2 b hb).2.2.2.2.2⟩, ?_⟩
    refine ⟨by rw [upd_ne (Nat.ne_of_gt (by omega))]; exact J'.free, CL, I2.nofs (by omega), .inr (by have := I2.sz; omega), fun x c e => Nat.ne_of_lt (by have := cellLt x c e; omega), fun p hp => ?_⟩
    have := aLt (I2.pin p hp).1
    exact Nat.ne_of_lt (by omega)
  have loop : codeAny (model X.prog X.w) X.A (.compLoop (.ListComp elt [⟨tg, iter, ifs, 0⟩] scope pos) 0 (.ref it) (.ref D) (compEnvC scope cl C X.env)) (RR (.ref D) C) { s2 with heap := h₁, toks := s2.toks + ([] : List (Str × Value)).length } := by
    refine comp_loop (fun n s' => ∃ (i : Nat) (ys : List V) (H' : Hp) (its : List Value) (k : Nat), Inv (blk X scope (Ls ++ Fs) cl C { s2 with heap := h3 } H2 (D :: fp)) [(D, { cls := .type "list", data := .seq its.toArray k })] (capt Ls.length fi σ) H' s' ∧
      Vals ys its ∧ tn i s'.heap ∧ (∀ b ∈ fp, H' b = none) ∧ W i n ys H') ?_ m0 ⟨0, [], H2, [], 0, I4, .nil, T.keep _ _ _ st2 fun b _ o e => k34 b o (k23 b o e), fun b hb => (f2 b hb).1, w0⟩
    rintro n s5 ⟨i, ys, H5, its, k, I5, rv, st5, fr5, w5⟩
    have stat : ∀ {H' : Hp} {its' : List Value} {k' : Nat}, (∀ b ∈ fp, H' b = none) → ∀ b ∈ fp, FpOk (blk X scope (Ls ++ Fs) cl C { s2 with heap := h3 } H2 (D :: fp)) [(D, { cls := .type "list", data := .seq its'.toArray k' })] H' b := fun hn b hb => by
      refine ⟨hn b hb, (exLoc b (List.mem_cons_of_mem _ hb)).1, fun z => ok'.exfs b (List.mem_cons_of_mem _ hb) z, .inl (List.mem_cons_of_mem _ hb), fun x c e => (exLoc b (List.mem_cons_of_mem _ hb)).2 x c (hcl1 x c e), fun p hp => ?_⟩
      have hp' : p = _ := List.mem_singleton.mp hp
      rw [hp']
      have := fpLt b hb
      show D ≠ b
      exact Nat.ne_of_gt this
    have pinD := I5.pin (D, { cls := .type "list", data := .seq its.toArray k }) (List.mem_singleton.mpr rfl)
    rcases turn i n ys H5 w5 with ⟨stop, hz, qn⟩ | ⟨go, hz, N, hN, step⟩
    · refine wpAny_mono (T.done i _ s5 _ H5 _ I5 (stat fr5) st5 stop) (fun r s6 ⟨hr, I6⟩ => ?_) fun _ _ h => h
      subst hr
      have pin6 := I6.pin (D, { cls := .type "list", data := .seq its.toArray k }) (List.mem_singleton.mpr rfl)
      obtain ⟨b1, b2⟩ := back I6 pin6.1 pin6.2.1 rv hz
      obtain ⟨m, hn, _⟩ := I6.loc
      exact fin D C _ s6 m b1 (qn D pin6.2.1) hn b2
    · refine wpAny_mono (T.item i _ s5 _ H5 _ I5 (stat fr5) st5 go) (fun r s6 ⟨u, hr, h6⟩ => ?_) fun _ _ h => h
      subst hr
      refine wpAny_mono h6 (fun _ s7 ⟨x, H7, I7, r7, y7, st7, fr7⟩ => ?_) fun _ _ h => h
      have I7' := I7.pinned (stat fr7) (T.obj _ _ st7)
      refine wpAny_mono (hg _ s7 _ H7 x u _ I7' r7 (step x H7 y7)) (fun _ s8 ⟨σ8, H8, I8, q8⟩ => ?_) fun _ _ h => h
      refine wpAny_mono (ht _ s8 σ8 H8 _ I8 q8) (fun ok s9 ⟨H9, I9, q9⟩ => ?_) fun _ _ h => h
      have keepT : ∀ {σ' : St} {H' : Hp} {s' : Shared}, Inv (blk X scope (Ls ++ Fs) cl C { s2 with heap := h3 } H2 (D :: fp)) ([(D, { cls := .type "list", data := .seq its.toArray k })] ++ pinsAt fp s7.heap) σ' H' s' → tn (i + 1) s'.heap ∧ ∀ b ∈ fp, H' b = none := by
        intro σ' H' s' J'
        refine ⟨T.keep _ _ _ st7 fun b hb o e => (J'.pin (b, o) (List.mem_append_right _ (List.mem_append_right _ (mem_pinsAt hb e)))).1, fun b hb => ?_⟩
        obtain ⟨o, e, d⟩ := T.obj _ _ st7 b hb
        exact (J'.pin (b, o) (List.mem_append_right _ (List.mem_append_right _ (mem_pinsAt hb e)))).2.1
      cases ok with
      | false =>
        rw [if_neg Bool.false_ne_true] at q9 ⊢
        obtain ⟨m', hm, w'⟩ := hN _ _ q9
        exact ⟨m', hm, i + 1, ys, H9, its, k, re I9.unpinned, rv, (keepT I9).1, (keepT I9).2, w'⟩
      | true =>
        rw [if_pos rfl] at q9 ⊢
        refine wpAny_mono (he _ s9 σ8 H9 _ I9 q9) (fun v s10 ⟨y, H10, I10, r10, q10⟩ => ?_) fun _ _ h => h
        obtain ⟨m', hm, w'⟩ := hN _ _ q10
        obtain ⟨k10, f10⟩ := keepT I10
        have I11 : Inv (blk X scope (Ls ++ Fs) cl C { s2 with heap := h3 } H2 (D :: fp)) [(D, { cls := .type "list", data := .seq its.toArray k })] (capt Ls.length fi σ) H10 s10 := re I10.unpinned
        have pin11 := I11.pin (D, { cls := .type "list", data := .seq its.toArray k }) (List.mem_singleton.mpr rfl)
        refine wpAny_list_append_plain ⟨k, pin11.1⟩ (fun h' hp' sb => ?_) (by rw [List.size_toArray, ← rv.length]; exact hz)
        obtain ⟨k', hk'⟩ := hp'
        have e1 : its.toArray.push v = (its ++ [v]).toArray := by simp
        rw [e1] at hk'
        have I12 : Inv (blk X scope (Ls ++ Fs) cl C { s2 with heap := h3 } H2 (D :: fp)) [] (capt Ls.length fi σ) H10 { s10 with heap := h', toks := s10.toks } :=
          (I11.pins_of (pins' := []) fun p hp => (nomatch hp)).turned (it := D) (fun b o hb e => (sb.2 b hb).trans e) pin11.2.1 pin11.2.2.1 (.inl List.mem_cons_self) (fun x c e => (exLoc D List.mem_cons_self).2 x c (hcl1 x c e)) fun p hp => (nomatch hp)
        have I13 : Inv (blk X scope (Ls ++ Fs) cl C { s2 with heap := h3 } H2 (D :: fp)) [(D, { cls := .type "list", data := .seq (its ++ [v]).toArray k' })] (capt Ls.length fi σ) H10 { s10 with heap := h', toks := s10.toks } := I12.pins_of fun p hp => by
          have hp' : p = _ := List.mem_singleton.mp hp
          subst hp'
          exact ⟨hk', pin11.2.1, pin11.2.2.1, pin11.2.2.2.1, fun v z => by cases z⟩
        refine ⟨m', hm, i + 1, ys ++ [y], H10, its ++ [v], k', I13, rv.append (.cons r10 .nil), ?_, f10, w'⟩
        exact T.keep _ _ _ k10 fun b hb o e => (sb.2 b (Nat.ne_of_lt (fpLt b hb))).trans e
  exact codeAny_compStart_list loop (T.self _ 0 _ _ _ (T.keep _ _ _ st2 fun b _ o e => k34 b o (k23 b o e)) loop)

/-- [elt for tg in iter if ..], as a value -/
theorem pe_lc {wi : TI} (S : LcScope X.N X.env.scope scope Ls Fs fi) (hc : X.calm = true) (hi : PI X tg iter wi)
    (hb : ∀ cl C s3 H3 ex, PG (blk X scope (Ls ++ Fs) cl C s3 H3 ex) tg g ∧ PTs (blk X scope (Ls ++ Fs) cl C s3 H3 ex) ifs tc ∧ PE (blk X scope (Ls ++ Fs) cl C s3 H3 ex) elt te)
    (hs : ∀ x, foldedSetIterable iter X.env x = pure x := by intro _; rfl) : PE X (.ListComp elt [⟨tg, iter, ifs, 0⟩] scope pos) (tLc Ls.length fi wi g tc te) := by
  intro pins s σ H Q I h
  rw [eval_ListComp]
  obtain ⟨cl, hcl, hcl1, hcl2⟩ := clos_ok (scope := scope) (env := X.env) fun y hy hf => I.ok.has y.1 (S.all y hy hf)
  refine wpAny_comprehension_free (use := none) rfl hs hcl S.kind S.names (wpAny_mono (hi pins s σ H _ I h) (fun v s1 h1 => wpAny_mono h1 (fun itv s2 h2 => ?_) fun _ _ e => e) fun _ _ e => e)
  obtain ⟨it, fp, tn, J, H2, e, I2, T, st2, f2, hW⟩ := h2
  subst e
  refine lc_block (RR := fun acc C => compPost (model X.prog X.w) X.A X.xe none (EP X pins σ Q) acc C) S (hb cl) hcl1 hcl2 I2 (fun C s3 H3 ex => Turn.at (X := blk X scope (Ls ++ Fs) cl C s3 H3 ex) T hc) st2 f2 hW fun D C H' s' m I' q hn f => ?_
  obtain ⟨f0, f1, f2, f3, f4, f5⟩ := f
  exact ⟨m, hn, fun h' hs' => ⟨.ref D, H', I'.turned (it := C) (t' := s'.toks) (fun b o hb e => (hs'.2 b hb).trans e) f0 f1 f3 f4 f5, rfl, q⟩⟩

/-- x = [elt for tg in iter if ..] on one row: the name is stored ahead of the block's own names going -/
theorem ps_lc {wi : TI} {i : Nat} {x : Str} {pos' spos : Pos} (hN : X.N.Nodup) (hi' : X.N[i]? = some x) (hx : Loc X.env.scope x) (S : LcScope X.N X.env.scope scope Ls Fs fi) (hc : X.calm = true) (hi : PI X tg iter wi)
    (hb : ∀ cl C s3 H3 ex, PG (blk X scope (Ls ++ Fs) cl C s3 H3 ex) tg g ∧ PTs (blk X scope (Ls ++ Fs) cl C s3 H3 ex) ifs tc ∧ PE (blk X scope (Ls ++ Fs) cl C s3 H3 ex) elt te)
    (hsw : swapsWith (.ListComp elt [⟨tg, iter, ifs, 0⟩] scope pos) (some (.Name x pos')) spos.line X.env = pure true := by rfl)
    (hs : ∀ x, foldedSetIterable iter X.env x = pure x := by intro _; rfl) (hf : X.fn x = true ∨ X.env.scope.names.lookup x = some .local := by first | exact .inl rfl | exact .inr rfl | assumption) :
    PS X (.Assign [.Name x pos'] (.ListComp elt [⟨tg, iter, ifs, 0⟩] scope pos) spos) (tAsg (tLc Ls.length fi wi g tc te) (gName i)) := by
  intro pins s σ H D' I h
  rw [exec_Assign_Name_used _ _ _ _ hsw]
  obtain ⟨cl, hcl, hcl1, hcl2⟩ := clos_ok (scope := scope) (env := X.env) fun y hy hf => I.ok.has y.1 (S.all y hy hf)
  refine wpAny_bind (wpAny_standAt (wpAny_bind ?_))
  show wpAny _ X.A (do let _ ← comprehension (.ListComp elt [⟨tg, iter, ifs, 0⟩] scope pos) scope X.env _ (newList []) false (eval iter X.env) (some (assign (.Name x pos') X.env))) _ _ s
  refine wpAny_bind (wpAny_mono (wpAny_comprehension_free (use := some (assign (.Name x pos') X.env)) (Q := fun _ s' => SP X pins D' .next s') rfl hs hcl S.kind S.names
    (wpAny_mono (hi pins s σ H _ I h) (fun v s1 h1 => wpAny_mono h1 (fun itv s2 h2 => ?_) fun _ _ e => e) fun _ _ e => e)) (fun _ s' hq => wpAny_pure (wpAny_pure hq)) fun _ _ e => e)
  obtain ⟨it, fp, tn, J, H2, e, I2, T, st2, f2, hW⟩ := h2
  subst e
  refine lc_block (RR := fun acc C => compPost (model X.prog X.w) X.A X.xe (some (assign (.Name x pos') X.env)) (fun _ s' => SP X pins D' .next s') acc C) (Q := fun x H1 => gName i x σ H1 D'.nx) S (hb cl) hcl1 hcl2 I2 (fun C s3 H3 ex => Turn.at (X := blk X scope (Ls ++ Fs) cl C s3 H3 ex) T hc) st2 f2 hW fun D C H' s' m I' q hn f => ?_
  obtain ⟨f0, f1, f2, f3, f4, f5⟩ := f
  show wpAny _ X.A (assign (.Name x pos') X.env (.ref D)) _ _ _
  refine wpAny_assign_Name (store_ok2 I' hN hi' hx (v := .ref D) rfl (fun s'' I'' hch => ?_) hf)
  obtain ⟨a, sb, ha⟩ := hch
  have hCa : C ≠ a := by
    rcases ha with z | z
    · rw [z]; exact f1
    · exact (f4 x a z).symm
  exact ⟨m, hn.sameBut sb hCa, fun h' hs' => ⟨_, H', I''.turned (it := C) (t' := s''.toks) (fun b o hb e => (hs'.2 b hb).trans e) f0 f1 f3 f4 f5, q⟩⟩
end
end L2

/-! More of the language over the hand layer: enumerate, isinstance, all, sorted, deep == and !=, count, a dict of the module's. -/
namespace L2
open PySem PySem.Spec PyProof.Rows PyProof.V

/-! ### enumerate -/

/-! ### isinstance, all, sorted, count -/
section
variable {X : Cx}
theorem call_isinst : CallR X (.builtin "isinstance") (fun xs H Q => ∃ x T t b, xs = [x, .ty T] ∧ TyOf X.K H x t ∧ PySem.W.kitOne X.K t (.type T) = some b ∧ Q (.bl b) H) := by
  intro pins s σ H xs us Q I r h
  obtain ⟨x, T, t, b, rfl, ty, e, q⟩ := h
  obtain ⟨u, v, rfl, ru, rv⟩ := r.two
  cases rv
  exact isinst_ok I ru ty e fun tk => ⟨.bl b, H, I.tok _, rfl, q⟩
theorem range_all (bs : List Bool) : (List.range bs.length).all (fun i => bs.getD i false) = bs.all id := by
  rw [Bool.eq_iff_iff, List.all_eq_true, List.all_eq_true]
  constructor
  · intro h b hb
    obtain ⟨i, hi, rfl⟩ := List.mem_iff_getElem.mp hb
    have := h i (List.mem_range.mpr hi)
    simpa [hi] using this
  · intro h i hi
    have hi' : i < bs.length := List.mem_range.mp hi
    have := h bs[i] (List.getElem_mem hi')
    simpa [hi'] using this
theorem call_all (hc : X.calm = true) : CallR X (.builtin "all") (fun xs H Q => ∃ (p : Addr) (bs : List Bool), xs = [.ref p] ∧ SqL X.K H p (bs.map V.bl) ∧ Q (.bl (bs.all id)) H) := by
  intro pins s σ H xs us Q I r h
  obtain ⟨p, bs, rfl, hq, q⟩ := h
  obtain ⟨u, rfl, ru⟩ := r.one
  cases ru
  obtain ⟨its, rv, pl, hz⟩ := I.list hq
  have hlen : bs.length = its.length := by simpa using rv.length
  have hh : X.A.in1.handled = none := I.ok.hd hc
  have hp : p < s.heap.objs.size := by
    obtain ⟨o, ho, _⟩ := pl.isList
    exact Heap.lt_size ho
  refine call_all_walk (wpAny_pyIter_list pl.isList ?_)
  refine ⟨s.heap.objs.size, _, _, _, _, _, fun i => bs.getD i false, rfl, Walks.list hh s.heap.objs.size p (Nat.ne_of_lt hp) its.toArray, ⟨⟨_, Heap.get?_push_size _ rfl, rfl, rfl⟩, ?_⟩, fun i v s2 Q2 E2 hv hq2 => ?_, fun h' tk kk => ?_⟩
  · obtain ⟨o, ho, r⟩ := pl.isList
    exact ⟨o, Heap.get?_push_of_some _ ho, r⟩
  · have hv' : its[i]? = some v := by simpa using hv
    have hi : i < bs.length := by rw [hlen]; exact (List.getElem?_eq_some_iff.mp hv').1
    obtain ⟨w, hw, rw'⟩ := rv.get (i := i) (x := .bl bs[i]) (by simp [hi])
    rw [hv'] at hw
    cases hw
    cases rw'
    refine wpAny_truthy_bool ?_
    have e : bs.getD i false = bs[i] := by simp [hi]
    rw [← e]
    exact hq2
  · have hk : ∀ b o, s.heap.get? b = some o → h'.get? b = some o := fun b o e => kk b o (fun z => by
      have z' : b = s.heap.objs.size := by simpa using z
      exact Nat.lt_irrefl _ (z' ▸ Heap.lt_size e)) (Heap.get?_push_of_some _ e)
    refine ⟨.bl (bs.all id), H, I.kept (t' := tk) hk, ?_, q⟩
    have e : its.toArray.size = bs.length := by rw [List.size_toArray, hlen]
    rw [e, range_all]
    rfl
theorem ints_of_vals : ∀ {ns : List Int} {vs : List Value}, Vals (ns.map V.int) vs → IntsAre vs ns
  | [], _, r => by cases r; exact .nil
  | n :: ns, _, r => by
    cases r with
    | cons r rr =>
      obtain ⟨t, rfl⟩ := r
      exact .cons n t (ints_of_vals rr)
def rCount (K : PySem.W.Frag) : V → List V → Hp → VK → Prop := fun x vs H Q => ∃ (l : Addr) (xs : List V) (y : V), x = .ref l ∧ vs = [y] ∧ SqL K H l xs ∧ flatV y = true ∧ xs.all flatV = true ∧ Q (.int (xs.countP fun z => eqV z y)) H
theorem countP_eqU {x : V} : ∀ {xs : List V} {us : List Value}, Vals xs us → xs.all flatV = true → us.countP (eqU x) = xs.countP fun y => eqV y x
  | _, _, .nil, _ => rfl
  | _, _, .cons r rr, h => by
    rw [List.all_cons, Bool.and_eq_true] at h
    rw [List.countP_cons, List.countP_cons, countP_eqU rr h.2, eqU_of r h.1]
theorem mt_count : MtM X "list.count" (rCount X.K) := by
  intro pins s σ H x vs v us Q I rx rv h
  obtain ⟨l, xs, y, rfl, rfl, hq, fy, fx, q⟩ := h
  cases rx
  obtain ⟨u, rfl, ru⟩ := rv.one
  obtain ⟨its, r, pl, hz⟩ := I.list hq
  obtain ⟨⟨c, dd, dt, sl⟩, ho, hc, n, hd⟩ := pl.isList
  simp only at hc hd
  subst hc hd
  refine call_meets F.slot_list_count ⟨_, ho, rfl⟩ F.entry_list_count (F.args_list_count_2 _ _) (SeqAt.list_countAt l its.toArray n dd sl u (eqU y)) ⟨ho, fun w hw => mem_eqAt ru fy r fx w (by simpa using hw), ?_⟩
  refine ⟨.int _, H, I.tok _, ⟨_, rfl⟩, ?_⟩
  rw [show its.toArray.toList = its by simp, countP_eqU r fx]
  exact q
end

/-! ### == and != of what is built of lists, tuples and plain values -/
inductive Eqv (K : PySem.W.Frag) (H : Hp) : Nat → V → V → Prop
  | flat {n : Nat} {x : V} : flatV x = true → Eqv K H n x x
  | same {n : Nat} {a : Addr} : Eqv K H n (.ref a) (.ref a)
  | lst {n : Nat} {a b : Addr} {xs ys : List V} : SqL K H a xs → SqL K H b ys → xs.length = ys.length → (∀ (i : Nat) (x y : V), xs[i]? = some x → ys[i]? = some y → Eqv K H n x y) → Eqv K H (n + 1) (.ref a) (.ref b)
  | tup {n : Nat} {a b : Addr} {xs ys : List V} : SqT K H a xs → SqT K H b ys → xs.length = ys.length → (∀ (i : Nat) (x y : V), xs[i]? = some x → ys[i]? = some y → Eqv K H n x y) → Eqv K H (n + 1) (.ref a) (.ref b)
theorem all_true (n : Nat) : ((List.range n).all fun _ => true) = true := by rw [List.all_eq_true]; intro _ _; rfl
theorem eqV_self {x : V} (h : flatV x = true) : eqV x x = true := by
  cases x <;> simp_all [eqV, flatV]
theorem Eqv.at {X : Cx} {pins : List (Addr × Obj)} {σ : St} {H : Hp} {s : Shared} (I : Inv X pins σ H s) : ∀ {n : Nat} {x y : V} {u v : Value} {A : Around}, Eqv X.K H n x y → RelV x u → RelV y v → A.units + n < cLine → SeqAt.EqAt A s u v true := by
  intro n x y u v A h
  induction h generalizing u v A with
  | flat f =>
    intro ru rv _
    have := eqAt_V (A := A) (s := s) ru rv f f
    rw [eqV_self f] at this
    exact this
  | same =>
    intro ru rv _
    cases ru
    cases rv
    exact SeqAt.EqAt.same _
  | @lst n a b xs ys ha hb hl _ ih =>
    intro ru rv hu
    cases ru
    cases rv
    by_cases e : a = b
    · subst e; exact SeqAt.EqAt.same _
    · obtain ⟨its, r1, p1, _⟩ := I.list ha
      obtain ⟨its2, r2, p2, _⟩ := I.list hb
      have l1 := r1.length
      have l2 := r2.length
      refine SeqAt.EqAt.of_refs e ?_
      have q := SeqAt.RcAt.lists (A := A) (e := fun _ => true) p1.isList p2.isList (by simp only [List.size_toArray]; omega) (by omega) fun j h1 h2 => by
        simp only [List.size_toArray] at h1 h2
        obtain ⟨u1, e1, s1⟩ := r1.get (i := j) (x := xs[j]'(by omega)) (by simp)
        obtain ⟨u2, e2, s2⟩ := r2.get (i := j) (x := ys[j]'(by omega)) (by simp)
        have z1 : its.toArray[j] = u1 := by
          have : its[j]? = some its[j] := by simp [h1]
          rw [this] at e1
          simpa using Option.some.inj e1
        have z2 : its2.toArray[j] = u2 := by
          have : its2[j]? = some its2[j] := by simp [h2]
          rw [this] at e2
          simpa using Option.some.inj e2
        rw [z1, z2]
        exact ih j _ _ (by simp) (by simp) s1 s2 (by show A.units + 1 + n < cLine; omega)
      rw [all_true] at q
      exact q
  | @tup n a b xs ys ha hb hl _ ih =>
    intro ru rv hu
    cases ru
    cases rv
    by_cases e : a = b
    · subst e; exact SeqAt.EqAt.same _
    · obtain ⟨its, r1, p1, _⟩ := I.tuple ha
      obtain ⟨its2, r2, p2, _⟩ := I.tuple hb
      have l1 := r1.length
      have l2 := r2.length
      refine SeqAt.EqAt.of_refs e ?_
      have q := SeqAt.RcAt.tuples (A := A) (s := s) (l := a) (b := b) (items := its.toArray) (items2 := its2.toArray) (e := fun _ => true) p1 p2 (by omega) fun j h1 h2 => by
        simp only [List.size_toArray] at h1 h2
        obtain ⟨u1, e1, s1⟩ := r1.get (i := j) (x := xs[j]'(by omega)) (by simp)
        obtain ⟨u2, e2, s2⟩ := r2.get (i := j) (x := ys[j]'(by omega)) (by simp)
        have z1 : its.toArray[j] = u1 := by
          have : its[j]? = some its[j] := by simp [h1]
          rw [this] at e1
          simpa using Option.some.inj e1
        have z2 : its2.toArray[j] = u2 := by
          have : its2[j]? = some its2[j] := by simp [h2]
          rw [this] at e2
          simpa using Option.some.inj e2
        rw [z1, z2]
        exact ih j _ _ (by simp) (by simp) s1 s2 (by show A.units + 1 + n < cLine; omega)
      have e3 : (its.toArray.size == its2.toArray.size) = true := by
        rw [beq_iff_eq]; simp only [List.size_toArray]; omega
      rw [e3, all_true] at q
      exact q
section
variable {X : Cx}
/-- two lists whose items are alike: == tells True, != tells False -/
def rEqv (K : PySem.W.Frag) (b : Bool) : R2 := fun x y H Q => ∃ (p q : Addr) (xs ys : List V), x = .ref p ∧ y = .ref q ∧ SqL K H p xs ∧ SqL K H q ys ∧ xs.length = ys.length ∧ (∀ (i : Nat) (x y : V), xs[i]? = some x → ys[i]? = some y → Eqv K H 60 x y) ∧ Q (.bl b) H
theorem eqv_items {pins : List (Addr × Obj)} {σ : St} {H : Hp} {s : Shared} {xs ys : List V} {its its2 : List Value} {A : Around} (I : Inv X pins σ H s) (r1 : Vals xs its) (r2 : Vals ys its2) (hl : xs.length = ys.length) (h : ∀ (i : Nat) (x y : V), xs[i]? = some x → ys[i]? = some y → Eqv X.K H 60 x y) (hu : A.units + 62 < cLine) :
    ∀ j (h1 : j < its.toArray.size) (h2 : j < its2.toArray.size), SeqAt.EqAt A.in1 s its.toArray[j] its2.toArray[j] ((fun _ => true) j) := fun j h1 h2 => by
  have l1 := r1.length
  have l2 := r2.length
  simp only [List.size_toArray] at h1 h2
  obtain ⟨u1, e1, s1⟩ := r1.get (i := j) (x := xs[j]'(by omega)) (by simp)
  obtain ⟨u2, e2, s2⟩ := r2.get (i := j) (x := ys[j]'(by omega)) (by simp)
  have z1 : its.toArray[j] = u1 := by
    have : its[j]? = some its[j] := by simp [h1]
    rw [this] at e1
    simpa using Option.some.inj e1
  have z2 : its2.toArray[j] = u2 := by
    have : its2[j]? = some its2[j] := by simp [h2]
    rw [this] at e2
    simpa using Option.some.inj e2
  rw [z1, z2]
  exact Eqv.at I (h j _ _ (by simp) (by simp)) s1 s2 (by show A.units + 1 + 60 < cLine; omega)
theorem op_eqv (hu : X.A.units + 64 < cLine) : OpR X (compareOp .Eq) (rEqv X.K true) := by
  intro pins s σ H x y v u Q I rx ry h
  obtain ⟨p, q, xs, ys, rfl, rfl, hp, hq, hl, he, hQ⟩ := h
  cases rx
  cases ry
  obtain ⟨its, r1, p1, _⟩ := I.list hp
  obtain ⟨its2, r2, p2, _⟩ := I.list hq
  have l1 := r1.length
  have l2 := r2.length
  refine SeqAt.eq_listAt (e := fun _ => true) p1.isList p2.isList (by simp only [List.size_toArray]; omega) (by omega) (eqv_items I r1 r2 hl he (by omega)) ⟨.bl true, H, I, ?_, hQ⟩
  show Value.bool _ = Value.bool true
  simp
theorem op_nev (hu : X.A.units + 64 < cLine) : OpR X (compareOp .NotEq) (rEqv X.K false) := by
  intro pins s σ H x y v u Q I rx ry h
  obtain ⟨p, q, xs, ys, rfl, rfl, hp, hq, hl, he, hQ⟩ := h
  cases rx
  cases ry
  obtain ⟨its, r1, p1, _⟩ := I.list hp
  obtain ⟨its2, r2, p2, _⟩ := I.list hq
  have l1 := r1.length
  have l2 := r2.length
  refine SeqAt.RcNeAt.lists (e := fun _ => true) p1.isList p2.isList (by simp only [List.size_toArray]; omega) (by omega) (eqv_items I r1 r2 hl he (by omega)) X.prog X.w _ _ ⟨.bl false, H, I, ?_, hQ⟩
  show Value.bool _ = Value.bool false
  simp

/-! ### a dict of the module's: texts to ints -/
theorem ix_listK {K : PySem.W.Frag} (h : X.K = K) : IxR X (rIxL K) := h ▸ ix_list
theorem ix_tupK {K : PySem.W.Frag} (h : X.K = K) : IxR X (rIxT K) := h ▸ ix_tup
theorem sl_listK {K : PySem.W.Frag} (h : X.K = K) : SlR X (rSlL K) := h ▸ sl_list
theorem mt_countK {K : PySem.W.Frag} (h : X.K = K) : MtM X "list.count" (rCount K) := h ▸ mt_count
theorem op_eqvK {K : PySem.W.Frag} (h : X.K = K) (hu : X.A.units + 64 < cLine) : OpR X (compareOp .Eq) (rEqv K true) := h ▸ op_eqv hu
theorem op_nevK {K : PySem.W.Frag} (h : X.K = K) (hu : X.A.units + 64 < cLine) : OpR X (compareOp .NotEq) (rEqv K false) := h ▸ op_nev hu
theorem call_lenK {K : PySem.W.Frag} (h : X.K = K) : CallR X (.builtin "len") (fun xs H Q => ∃ p ys, xs = [.ref p] ∧ (SqL K H p ys ∨ SqT K H p ys) ∧ Q (.int ys.length) H) := h ▸ call_len_seq
theorem call_isinstK {K : PySem.W.Frag} (h : X.K = K) : CallR X (.builtin "isinstance") (fun xs H Q => ∃ x T t b, xs = [x, .ty T] ∧ TyOf K H x t ∧ PySem.W.kitOne K t (.type T) = some b ∧ Q (.bl b) H) := h ▸ call_isinst
theorem call_allK {K : PySem.W.Frag} (h : X.K = K) (hc : X.calm = true) : CallR X (.builtin "all") (fun xs H Q => ∃ (p : Addr) (bs : List Bool), xs = [.ref p] ∧ SqL K H p (bs.map V.bl) ∧ Q (.bl (bs.all id)) H) := h ▸ call_all hc
theorem call_listK {K : PySem.W.Frag} (h : X.K = K) : CallR X (.type "list") (fun xs H Q => ∃ p ys, xs = [.ref p] ∧ (SqL K H p ys ∨ SqT K H p ys) ∧ ∀ l, H l = none → Q (.ref l) (upd H l (.lst ys))) := h ▸ call_list_of
theorem pg_tupK {K : PySem.W.Frag} {es : List Expr} {k : Nat} {t : TGs} {n : Nat} {pos : Pos} (hk : X.K = K) (hc : X.calm = true) (h : PGs X es t) (hn : (assignEach es X.env).length = n := by rfl) (hst : (assignEach es X.env).findIdx? (·.1) = none := by rfl) : PG X (.Tuple es k pos) (gTup K n t) := hk ▸ pg_tup hc h hn hst
theorem pe_bmK {K : PySem.W.Frag} {T : String} {name : Str} {r : V → List V → Hp → VK → Prop} {o e : Expr} {es : List Expr} {to : TE} {t : TA} {apos pos : Pos} (hk : X.K = K) (h : PE X (.Call (.Attribute o name apos) (e :: es) [] pos) (tBM X.K T r to t)) : PE X (.Call (.Attribute o name apos) (e :: es) [] pos) (tBM K T r to t) := hk ▸ h
theorem pe_bm0K {K : PySem.W.Frag} {T : String} {name : Str} {r : V → List V → Hp → VK → Prop} {o : Expr} {to : TE} {apos pos : Pos} (hk : X.K = K) (h : PE X (.Call (.Attribute o name apos) [] [] pos) (tBM0 X.K T r to)) : PE X (.Call (.Attribute o name apos) [] [] pos) (tBM0 K T r to) := hk ▸ h
theorem pi_listK {K : PySem.W.Frag} {l tg : Expr} {tl : TE} (hk : X.K = K) (hl : PE X l tl) : PI X tg l (iList K tl) := hk ▸ pi_list hl
end
end L2

/-! Forms for comprehensions, callees by name, drawings as data. -/
namespace L2
open PySem PySem.Spec PyProof.Rows

/-! ### comprehensions by an invariant -/
section
variable {g : TG} {tc : TT} {te : TE} {σ : St} {H : Hp} {Q : VK} {K : PySem.W.Frag} {a : Addr} {xs : List V}
theorem lc_gen {J : It} {n : Nat} (hn : n ≤ sizeLine) (Pv : Nat → List V → Hp → Prop) (h0 : Pv 0 [] H) (hlen : ∀ i ys H, Pv i ys H → ys.length ≤ i) (go : ∀ i ys H, i < n → Pv i ys H → J.go i H) (stop : ∀ ys H, Pv n ys H → J.stop n H)
    (hs : ∀ i ys H, i < n → Pv i ys H → ∀ x H', J.yld i H x H' → g x σ H' fun σ2 H2 => tc σ2 H2 fun b H3 => if b = true then te σ2 H3 fun y H4 => Pv (i + 1) (ys ++ [y]) H4 else Pv (i + 1) ys H3)
    (hd : ∀ ys H, Pv n ys H → ∀ D, H D = none → Q (.ref D) (upd H D (.lst ys))) : LcW J σ g tc te H Q := by
  unfold LcW
  refine ⟨fun i m ys H => m = n - i ∧ i ≤ n ∧ Pv i ys H, ⟨n, by simp, Nat.zero_le _, h0⟩, ?_⟩
  rintro i m ys H ⟨rfl, hi, p⟩
  have hy := hlen i ys H p
  by_cases hlt : i < n
  · exact .inr ⟨go i ys H hlt p, by omega, Pv (i + 1), fun ys' H' h2 => ⟨n - (i + 1), by omega, rfl, hlt, h2⟩, fun x H' y => hs i ys H hlt p x H' y⟩
  · have e : i = n := by omega
    subst e
    exact .inl ⟨stop ys H p, by omega, hd ys H p⟩
theorem lc_list (hn : xs.length ≤ sizeLine) (Pv : Nat → List V → Hp → Prop) (h0 : Pv 0 [] H) (hlen : ∀ i ys H, Pv i ys H → ys.length ≤ i) (hS : ∀ i ys H, Pv i ys H → SqL K H a xs)
    (hs : ∀ i x ys H, xs[i]? = some x → Pv i ys H → g x σ H fun σ2 H2 => tc σ2 H2 fun b H3 => if b = true then te σ2 H3 fun y H4 => Pv (i + 1) (ys ++ [y]) H4 else Pv (i + 1) ys H3)
    (hd : ∀ ys H, Pv xs.length ys H → ∀ D, H D = none → Q (.ref D) (upd H D (.lst ys))) : LcW (Itl K a) σ g tc te H Q :=
  lc_gen hn Pv h0 hlen (fun i ys H hi p => ⟨xs, xs[i], hS i ys H p, by simp [hi]⟩) (fun ys H p => ⟨xs, hS _ ys H p, Nat.le_refl _⟩) (fun i ys H hi p x H' y => by
    obtain ⟨e, y⟩ := y
    subst e
    exact hs i x ys _ (y xs (hS i ys _ p)) p) hd
theorem lc_rng {lo : Int} {n : Nat} (hn : n ≤ sizeLine) (Pv : Nat → List V → Hp → Prop) (h0 : Pv 0 [] H) (hlen : ∀ i ys H, Pv i ys H → ys.length ≤ i)
    (hs : ∀ i ys H, i < n → Pv i ys H → g (.int (lo + i)) σ H fun σ2 H2 => tc σ2 H2 fun b H3 => if b = true then te σ2 H3 fun y H4 => Pv (i + 1) (ys ++ [y]) H4 else Pv (i + 1) ys H3)
    (hd : ∀ ys H, Pv n ys H → ∀ D, H D = none → Q (.ref D) (upd H D (.lst ys))) : LcW (Itr lo n) σ g tc te H Q :=
  lc_gen hn Pv h0 hlen (fun i ys H hi p => hi) (fun ys H p => Nat.le_refl _) (fun i ys H hi p x H' y => by
    obtain ⟨e, y⟩ := y
    subst e y
    exact hs i ys _ hi p) hd
end
/-! ### the block's scope, by one look -/
def lcLook (N : List Str) (osc scope : Scope) (Fs : List Str) (fi : List Nat) : Bool :=
  (scope.kind == .function) && scope.names.all (fun y => y.2 != .cell) && scope.names.all (fun y => y.2 != .local || scope.names.lookup y.1 == some .local) && Fs.all (fun x => scope.names.lookup x == some .free) &&
    scope.names.all (fun y => y.2 != .free || osc.names.lookup y.1 == some .cell || osc.names.lookup y.1 == some .free) && (fi.map (fun i => N[i]?) == Fs.map some)
theorem LcScope.of {N : List Str} {osc scope : Scope} {Ls Fs : List Str} {fi : List Nat} (h : lcLook N osc scope Fs fi = true) : LcScope N osc scope Ls Fs fi := by
  simp only [lcLook, Bool.and_eq_true, List.all_eq_true, Bool.or_eq_true, bne_iff_ne, beq_iff_eq] at h
  obtain ⟨⟨⟨⟨⟨h1, h2⟩, h3⟩, h4⟩, h5⟩, h6⟩ := h
  refine ⟨h1, h2, fun y hy hl => (h3 y hy).elim (fun z => absurd hl z) id, h4, fun y hy hf => ?_, h6⟩
  rcases h5 y hy with (z | z) | z
  · exact absurd hf z
  · exact .inl z
  · exact .inr z

/-! ### callees by name -/
def Has (P : Program) (w : World) (K : PySem.W.Frag) (mg : Str → Option Value) (base : Heap) (k : Nat) (x : Str) (ps : List Str) (sp : Sp) : Prop :=
  ∃ (f : Addr) (fd : FuncData), FnOk P w K mg base CX0 k f fd ps sp ∧ mg x = some (.ref f) ∧ PySem.W.keepIn K (.ref f) = true ∧ Binds K fd ps []
theorem pe_has {X : Cx} {k : Nat} {x : Str} {ps : List Str} {sp : Sp} {p pos : Pos} {e : Expr} {es : List Expr} {t : TA} (h : Has X.prog X.w X.K X.mg X.base k x ps sp) (hr : Room k X.A) (ha : PA X (e :: es) t) (hg : Gl X x := by rfl) (hdb : (x == ("__debug__" : Str)) = false := by decide)
    (he : starEach (e :: es) X.env = (false, eval e X.env) :: starEach es X.env := by rfl) (hpl : (backTo pos (starEach es X.env)).any (·.1) = false := by rfl) : PE X (.Call (.Name x p) (e :: es) [] pos) (tCall sp [] E0 t) := by
  obtain ⟨f, fd, G, hm, hk, hb⟩ := h
  exact pe_call G hr hg hm hk hb .nil pass0 ha hdb he hpl
/-- one frame: all that was tracked but b is as it was -/
def Frm (b : Addr) (H H' : Hp) : Prop := ∀ c o, H c = some o → c ≠ b → H' c = some o
theorem Frm.refl (b : Addr) (H : Hp) : Frm b H H := fun _ _ h _ => h
theorem Frm.trans {b : Addr} {H H1 H2 : Hp} (x : Frm b H H1) (y : Frm b H1 H2) : Frm b H H2 := fun c o h n => y c o (x c o h n) n
theorem Same.frm {b : Addr} {H H' : Hp} (x : Same H H') : Frm b H H' := fun c o h _ => x c o h
theorem Same.laid {H : Hp} {p : Addr} {o : HO} (h : H p = none) : Same H (upd H p o) := fun c u e => by rw [upd_ne (ne_of_none e h)]; exact e
theorem Same.step {H H' : Hp} {p : Addr} {o : HO} (s : Same H H') (h : H' p = none) : Same H (upd H' p o) := s.trans (.laid h)
theorem Frm.upd {b : Addr} {H : Hp} {o : HO} : Frm b H (upd H b o) := fun c u e n => by rw [upd_ne n]; exact e
/-- a new object that is changed: of what was there all stays -/
theorem Same.put {H H' : Hp} {p : Addr} {o : HO} (s : Same H H') (h : H p = none) : Same H (upd H' p o) := fun c u e => by rw [upd_ne (ne_of_none e h)]; exact s c u e
def Bag (H : Hp) (b : Addr) : Prop := ∃ g r : Int, 0 ≤ g ∧ H b = some (.lst [.int g, .int r])
theorem Frm.free {b : Addr} {H H' : Hp} (f : Frm b H H') (hb : Bag H' b) {p : Addr} (h : H' p = none) : H p = none := by
  cases q : H p with
  | none => rfl
  | some o =>
    by_cases e : p = b
    · subst e
      obtain ⟨g, r, _, z⟩ := hb
      rw [h] at z; cases z
    · rw [f p o q e] at h; cases h

/-! ### letters as data -/
/-- the letters lead from no strand to n strands -/
inductive Wk : List (Str × Int) → Int → Prop
  | nil : Wk [] 0
  | born {ls : List (Str × Int)} {n k : Int} : Wk ls n → 0 ≤ k → k ≤ n → Wk (ls ++ [((("born" : Str), k) : Str × Int)]) (n + 2)
  | cross {ls : List (Str × Int)} {n k : Int} : Wk ls n → 0 ≤ k → k + 1 < n → Wk (ls ++ [((("cross" : Str), k) : Str × Int)]) n
  | fin {ls : List (Str × Int)} {n k : Int} : Wk ls n → 0 ≤ k → k + 1 < n → Wk (ls ++ [((("end" : Str), k) : Str × Int)]) (n - 2)
end L2

/-! Tests by their truth; a letter put to a list. -/
namespace L2
open PySem PySem.Spec PyProof.Rows
theorem lcT {σ : St} {H : Hp} {A B : Hp → Prop} (h : A H) : tTrue σ H fun b H3 => if b = true then A H3 else B H3 := by
  show if true = true then A H else B H
  exact iteT h
end L2

/-! Numbers of letters by their kind; strands counted. -/
namespace L2
open PySem PySem.Spec PyProof.Rows
theorem lcG {i : Nat} {v : V} {σ : St} {H : Hp} {A B : St → Hp → Prop} (h : A (σ.set i (some v)) H) : gName i v σ H fun σ2 H2 => tTrue σ2 H2 fun b H3 => if b = true then A σ2 H3 else B σ2 H3 := by
  show if true = true then A (σ.set i (some v)) H else B (σ.set i (some v)) H
  exact iteT h
theorem cut_to {xs : List V} {t : Nat} (h : t ≤ xs.length) : cutV xs none (some (t : Int)) = xs.take t := by
  have e1 : HT.sIx xs.length 0 none = 0 := by unfold HT.sIx; rfl
  have e2 : HT.sIx xs.length xs.length (some (t : Int)) = t := by
    have h0 : ¬ ((t : Int) < 0) := by omega
    unfold HT.sIx
    simp [h0]
    omega
  unfold cutV
  rw [e1, e2]
  simp
end L2

/-! xs[a:c] = ys, del xs[a:c], xs.insert(i, y), for over enumerate. -/
namespace L2
open PySem PySem.Spec PyProof.Rows
section
variable {X : Cx}
/-! insert -/
end
/-! the list without its items from a to c -/
/-! for over enumerate, the list left as it is by the body -/
end L2

/-! Threads at each place, as lists of ints. -/



namespace L2
open PySem PySem.Spec PyProof.Rows

/-! ### lists of pairs as tables -/


/-! ### a tracked dict, its keys ints and texts or tuples of these -/

section
variable {X : Cx} {pins : List (Addr × Obj)} {σ : St} {H : Hp} {s : Shared} {a : Addr} {y v : V} {u r : Value} {o : Option V} {A : Around} {E : Value → Shared → Prop}

end



/-! ### readings and rules -/


/-! ### displays -/
end L2

/-! sorted(a dict), d[k] as a target and as a value, a, b = a list, xs[::2], xs != []. -/
namespace L2
open PySem PySem.Spec PyProof.Rows
theorem ObjOk.there {P : Program} {w : World} {H : Hp} {h : Heap} {a : Addr} {o : HO} (x : ObjOk P w H h a o) : ∃ ob, h.get? a = some ob := by
  cases o with
  | lst xs => obtain ⟨_, _, _, _, e⟩ := x; exact ⟨_, e⟩
  | tup xs => obtain ⟨_, _, _, _, e, _⟩ := x; exact ⟨_, e⟩
  | dK kvs => obtain ⟨_, _, _, _, o, _, _, e, _⟩ := x; exact ⟨_, e⟩
  | dT kvs => obtain ⟨_, _, _, _, o, _, _, e, _⟩ := x; exact ⟨_, e⟩
  | set S n => obtain ⟨o, _, _, _, e, _⟩ := x; exact ⟨_, e⟩
  | ins C dx fs => obtain ⟨_, _, _, e, _⟩ := x; exact ⟨_, e⟩
  | own y => obtain ⟨_, e⟩ := x; exact ⟨_, e⟩
  | xd fs => obtain ⟨_, ⟨_, _, _, e, _⟩, _⟩ := x; exact ⟨_, e⟩
  | rng lo hi => obtain ⟨_, _, _, e⟩ := x; exact ⟨_, e⟩
  | frz ob u => obtain ⟨e, _⟩ := x; exact ⟨_, e⟩
  | tbl ps => exact ⟨_, x⟩
  | met f y => exact ⟨_, x⟩
  | ext φ => obtain ⟨_, ⟨_, e⟩, _⟩ := x; exact ⟨_, e⟩
theorem ns_inj {h : Heap} {a : Addr} {m m' : Str → Option Value} (x : h.Ns a m) (y : h.Ns a m') : m = m' := by
  obtain ⟨o, es, ep, ho, hd, _, hm⟩ := x
  obtain ⟨o', es', ep', ho', hd', _, hm'⟩ := y
  rw [ho] at ho'
  cases ho'
  rw [hd] at hd'
  cases hd'
  exact funext fun n => (hm n).symm.trans (hm' n)
/-! xs[::2] -/
end L2

/-! Going along a piece: partners at ends and at births, orbits, tours. -/
namespace L2
open PySem PySem.Spec PyProof.Rows
def bw (x : Int) : Int := if x % 2 = 0 then x + 1 else x - 1
structure Mates (m : Int → Int) (N : Int) : Prop where
  lo : ∀ x, 0 ≤ x → x < N → 0 ≤ m x
  hi : ∀ x, 0 ≤ x → x < N → m x < N
  inv : ∀ x, 0 ≤ x → x < N → m (m x) = x
  ne : ∀ x, 0 ≤ x → x < N → m x ≠ x
  ev : N % 2 = 0
def gt (m : Int → Int) (f : Int) : Nat → Int
  | 0 => f
  | i + 1 => bw (m (gt m f i))
def orb (m : Int → Int) (f : Int) : Nat → List Int
  | 0 => []
  | i + 1 => orb m f i ++ [gt m f i, m (gt m f i)]
/-- the tour from f: till one comes back -/
def IsTour (m : Int → Int) (f : Int) (T : List Int) : Prop := ∃ L, 1 ≤ L ∧ gt m f L = f ∧ (∀ j, 1 ≤ j → j < L → gt m f j ≠ f) ∧ T = orb m f L
inductive Trs (m : Int → Int) : Nat → List (List Int) → Prop
  | nil : Trs m 0 []
  | add {i : Nat} {ts : List (List Int)} {T : List Int} : Trs m i ts → (i : Int) ∉ ts.flatten → IsTour m (i : Int) T → Trs m (i + 1) (ts ++ [T])
  | skip {i : Nat} {ts : List (List Int)} : Trs m i ts → (i : Int) ∈ ts.flatten → Trs m (i + 1) ts
end L2

/-! The threads at letters; who ends with whom. -/

/-! xs != [], in and not in within blocks, pairs as data. -/
namespace L2
open PySem PySem.Spec PyProof.Rows
/-! pairs of ints in tuples -/
/-! rows by their numbers -/
theorem map_int_at {ns : List Int} {i : Nat} {x : V} (h : (ns.map V.int)[i]? = some x) : ∃ t, ns[i]? = some t ∧ x = V.int t := by
  rw [List.getElem?_map] at h
  cases e : ns[i]? with
  | none => rw [e] at h; cases h
  | some z => rw [e] at h; exact ⟨z, rfl, (Option.some.inj h).symm⟩
end L2

/-! sum of a list of ints. -/
namespace L2
open PySem PySem.Spec PyProof.Rows
section
variable {X : Cx} {pins : List (Addr × Obj)} {σ : St} {H : Hp} {s : Shared}
/-- all kept but the frame's own object, whose map is kept -/
theorem Inv.keptN {h' : Heap} {t' : Nat} {m : Str → Option Value} (I : Inv X pins σ H s) (F : Fr X.base X.env.locals s.heap m) (F' : Fr X.base X.env.locals h' m)
    (N' : News X.base X.env.locals h' (allNews X.base s.heap X.env.locals)) : Inv X pins σ H { s with heap := h', toks := t' } := by
  have kp : ∀ b u, b ≠ X.env.locals → s.heap.get? b = some u → h'.get? b = some u := fun b u hb e => by
    cases q : X.base.get? b with
    | some v =>
      have e1 := F'.keep b v q
      have e2 := F.keep b v q
      rw [e] at e2
      cases e2
      exact e1
    | none => exact (N' (b, u) (mem_allNews hb q e)).1
  have neL : ∀ b u, H b = some u → b ≠ X.env.locals := fun b u e z => by rw [z, I.free] at e; cases e
  refine I.step (g' := s.gens) (d' := s.drawn) (ch := []) (fun _ z => nomatch z) (fun b ob hb _ _ e _ => kp b ob hb e) (fun b ob hb _ _ e _ => ⟨ob.slots, kp b ob hb e⟩) (fun b ob _ e n => n) (fun b ob _ e => ?_) (fun b xs e => e) (fun b ob u e => e) (fun b ps e => ⟨#[], by rw [e]; simp⟩) (fun m' hm => ?_) (fun b u e => ?_) I.bare
  · by_cases hb : b = X.env.locals
    · subst hb
      obtain ⟨ob', _, _, z, _⟩ := F'.ns
      exact ⟨ob', z⟩
    · exact ⟨ob, kp b ob hb e⟩
  · rw [ns_inj hm F.ns]; exact F'.ns
  · refine (I.hok b u e).stay (fun c v hc q => kp c v ?_ q) (fun c q => q) fun c xs q => q
    rcases hc with z | z
    · subst z; exact neL _ u e
    · exact neL c _ z
end
end L2

/-! zip of two lists; max of a list; list.index; x is True. -/
namespace L2
open PySem PySem.Spec PyProof.Rows PyProof.V
def Itz (K : PySem.W.Frag) (a b : Addr) : It :=
  ⟨fun i H => ∃ xs ys x y, SqL K H a xs ∧ SqL K H b ys ∧ xs[i]? = some x ∧ ys[i]? = some y,
   fun i H v H' => ∃ p x y, v = .ref p ∧ H p = none ∧ H' = upd H p (.tup [x, y]) ∧ (∀ xs, SqL K H a xs → xs[i]? = some x) ∧ (∀ ys, SqL K H b ys → ys[i]? = some y),
   fun i H => ∃ xs ys, SqL K H a xs ∧ SqL K H b ys ∧ (xs.length ≤ i ∨ ys.length ≤ i)⟩
theorem turn_zip {P : Program} {w : World} {K : PySem.W.Frag} {es : List Expr} {k : Nat} {pos : Pos} (a b z TI TO i1 i2 : Addr) (ap : ZipApart z TI TO i1 i2 a b) :
    Turn P w K (.Tuple es k pos) (Itz K a b) [z, TI, TO, i1, i2] z (fun i h => IsZip h z TI TO .none ∧ IsPair h TI (.ref i1) (.ref i2) ∧ (∃ u v, IsPair h TO u v) ∧ h.IsListIter i1 a i ∧ h.IsListIter i2 b i) where
  mem := by simp
  obj := fun i h st c hc => by
    obtain ⟨h1, h2, ⟨u, v, h3⟩, ⟨o1, ho1, c1, d1⟩, ⟨o2, ho2, c2, d2⟩⟩ := st
    simp only [List.mem_cons, List.not_mem_nil, or_false] at hc
    rcases hc with e | e | e | e | e
    · subst e; exact ⟨_, h1, fun v z => by have z' : Data.fields _ = Data.cell v := z; cases z'⟩
    · subst e; exact ⟨_, h2, fun v z => by have z' : Data.seq _ _ = Data.cell v := z; cases z'⟩
    · subst e; exact ⟨_, h3, fun v z => by have z' : Data.seq _ _ = Data.cell v := z; cases z'⟩
    · subst e; exact ⟨o1, ho1, fun v z => by rw [d1] at z; cases z⟩
    · subst e; exact ⟨o2, ho2, fun v z => by rw [d2] at z; cases z⟩
  keep := fun i h h' st k => by
    obtain ⟨h1, h2, ⟨u, v, h3⟩, h4, h5⟩ := st
    exact ⟨k z (by simp) _ h1, k TI (by simp) _ h2, ⟨u, v, k TO (by simp) _ h3⟩, h4.at fun o x => k i1 (by simp) o x, h5.at fun o x => k i2 (by simp) o x⟩
  item := by
    intro X hP hw hK hc i pins s σ H E I hf st hg
    subst hP hw hK
    obtain ⟨xs, ys, x, y, hq1, hq2, hx, hy⟩ := hg
    obtain ⟨its1, rv1, p1, hz1⟩ := I.list hq1
    obtain ⟨its2, rv2, p2, hz2⟩ := I.list hq2
    obtain ⟨u, hu, ru⟩ := rv1.get hx
    obtain ⟨v, hv, rv⟩ := rv2.get hy
    obtain ⟨h1, h2, ⟨oa, ob, h3⟩, h4, h5⟩ := st
    refine wpAny_pyNext_zip_item ap h1 h2 h3 h4 h5 p1.isList p2.isList (x := u) (y := v) (by simpa using hu) (by simpa using hv) fun h' g1 g2 g3 g4 g5 hsz kk => ⟨_, rfl, ?_⟩
    refine wpAny_letOwnedTupleGo_zip (s := { s with heap := h' }) g1 fun h'' e1 hs'' => ?_
    have lt : ∀ c ∈ [z, TI, TO, i1, i2], @LT.lt Nat _ c s.heap.objs.size := fun c hc => by
      simp only [List.mem_cons, List.not_mem_nil, or_false] at hc
      rcases hc with e | e | e | e | e
      · subst e; exact aLt h1
      · subst e; exact aLt h2
      · subst e; exact aLt h3
      · subst e; obtain ⟨o, ho, _⟩ := h4; exact aLt ho
      · subst e; obtain ⟨o, ho, _⟩ := h5; exact aLt ho
    have kk2 : ∀ c o, c ≠ z → c ≠ TO → c ≠ i1 → c ≠ i2 → s.heap.get? c = some o → h''.get? c = some o := fun c o n1 n2 n3 n4 q => (hs''.2 c n1).trans (kk c o n1 n2 n3 n4 q)
    have nne : ∀ c o, H c = some o → c ≠ z ∧ c ≠ TO ∧ c ≠ i1 ∧ c ≠ i2 := fun c o q => by
      refine ⟨fun e => ?_, fun e => ?_, fun e => ?_, fun e => ?_⟩
      · rw [e, (hf z (by simp)).1] at q; cases q
      · rw [e, (hf TO (by simp)).1] at q; cases q
      · rw [e, (hf i1 (by simp)).1] at q; cases q
      · rw [e, (hf i2 (by simp)).1] at q; cases q
    have fr : H s.heap.objs.size = none := I.hok.fresh (Nat.le_refl _)
    have hT : h''.get? s.heap.objs.size = some { cls := .type "tuple", data := .seq #[u, v] } := (hs''.2 _ (Nat.ne_of_gt (lt z (by simp)))).trans g5
    have nT : ∀ c o, s.heap.get? c = some o → c ≠ s.heap.objs.size := fun c o q => Nat.ne_of_lt (aLt q)
    have ok' : HOk X.prog X.w (upd H s.heap.objs.size (.tup [x, y])) h'' := fun c o q => by
      by_cases hb : c = s.heap.objs.size
      · subst hb
        rw [upd_same] at q
        cases q
        exact ⟨show 2 ≤ sizeLine by decide, [u, v], .cons ru (.cons rv .nil), ⟨_, hT, rfl, _, rfl⟩⟩
      · rw [upd_ne hb] at q
        refine (I.hok c o q).stay (fun d v hd r => ?_) (fun d r => by rw [upd_ne (ne_of_none r fr)]; exact r) fun d xs r => by rw [upd_ne (ne_of_none r fr)]; exact r
        rcases hd with e | e
        · subst e
          obtain ⟨n1, n2, n3, n4⟩ := nne d o q
          exact kk2 d v n1 n2 n3 n4 r
        · obtain ⟨n1, n2, n3, n4⟩ := nne d _ e
          exact kk2 d v n1 n2 n3 n4 r
    have notin : ∀ c, c ∉ [z, TI, TO, i1, i2] → c ≠ z ∧ c ≠ TO ∧ c ≠ i1 ∧ c ≠ i2 := fun c hc => by
      simp only [List.mem_cons, List.not_mem_nil, or_false, not_or] at hc
      exact ⟨hc.1, hc.2.2.1, hc.2.2.2.1, hc.2.2.2.2⟩
    have I1 : Inv X pins σ (upd H s.heap.objs.size (.tup [x, y])) { s with heap := h'', gens := s.gens, drawn := s.drawn, toks := s.toks } := by
      refine I.step (ch := [z, TI, TO, i1, i2]) (fun c hc => ?_) (fun c o _ _ hc q _ => ?_) (fun c o _ _ hc q _ => ⟨o.slots, ?_⟩)
        (fun c o _ q n => by rw [upd_ne (nT c o q)]; exact n) (fun c o hc q => ⟨o, ?_⟩) (fun c xs q => by rw [upd_ne (ne_of_none q fr)]; exact q) (fun c o u q => by rw [upd_ne (ne_of_none q fr)]; exact q)
        (fun c ps q => ⟨#[], by rw [upd_ne (ne_of_none q fr), q]; simp⟩) (fun m hm => ?_) ok' I.bare
      · obtain ⟨f0, f1, f2, f3, f4, f5⟩ := hf c hc
        exact ⟨f3, f1, f4, f5⟩
      · obtain ⟨n1, n2, n3, n4⟩ := notin c hc; exact kk2 c o n1 n2 n3 n4 q
      · obtain ⟨n1, n2, n3, n4⟩ := notin c hc; exact kk2 c o n1 n2 n3 n4 q
      · obtain ⟨n1, n2, n3, n4⟩ := notin c hc; exact kk2 c o n1 n2 n3 n4 q
      · obtain ⟨o, es, ep, ho, r⟩ := hm
        exact ⟨o, es, ep, kk2 _ o (Ne.symm (hf z (by simp)).2.1) (Ne.symm (hf TO (by simp)).2.1) (Ne.symm (hf i1 (by simp)).2.1) (Ne.symm (hf i2 (by simp)).2.1) ho, r⟩
    refine ⟨.ref s.heap.objs.size, _, I1, rfl, ⟨s.heap.objs.size, x, y, rfl, fr, rfl, fun zs hz => by rw [I.list_inj hz hq1]; exact hx, fun zs hz => by rw [I.list_inj hz hq2]; exact hy⟩,
      ⟨e1, kk2 TI _ ap.TIz ap.TITO ap.TIi1 ap.TIi2 h2, ⟨u, v, (hs''.2 TO ap.TOz).trans g2⟩, g3.at fun o q => (hs''.2 i1 ap.i1z).trans q, g4.at fun o q => (hs''.2 i2 ap.i2z).trans q⟩, fun c hc => ?_⟩
    rw [upd_ne (Nat.ne_of_lt (lt c hc))]
    exact (hf c hc).1
  done := by
    intro X hP hw hK hc i pins s σ H E I hf st hg
    subst hP hw hK
    obtain ⟨xs, ys, hq1, hq2, hx⟩ := hg
    obtain ⟨its1, rv1, p1, hz1⟩ := I.list hq1
    obtain ⟨its2, rv2, p2, hz2⟩ := I.list hq2
    obtain ⟨h1, h2, ⟨oa, ob, h3⟩, h4, h5⟩ := st
    have l1 := rv1.length
    have l2 := rv2.length
    refine wpAny_pyNext_zip_end (I.ok.hd hc) ap h1 h2 h3 h4 h5 p1.isList p2.isList (by rcases hx with e | e; exact .inl (by simp; omega); exact .inr (by simp; omega)) fun h' kk => ⟨rfl, ?_⟩
    have nne : ∀ c o, H c = some o → c ≠ z ∧ c ≠ TO ∧ c ≠ i1 ∧ c ≠ i2 := fun c o q => by
      refine ⟨fun e => ?_, fun e => ?_, fun e => ?_, fun e => ?_⟩
      · rw [e, (hf z (by simp)).1] at q; cases q
      · rw [e, (hf TO (by simp)).1] at q; cases q
      · rw [e, (hf i1 (by simp)).1] at q; cases q
      · rw [e, (hf i2 (by simp)).1] at q; cases q
    have notin : ∀ c, c ∉ [z, TI, TO, i1, i2] → c ≠ z ∧ c ≠ TO ∧ c ≠ i1 ∧ c ≠ i2 := fun c hc => by
      simp only [List.mem_cons, List.not_mem_nil, or_false, not_or] at hc
      exact ⟨hc.1, hc.2.2.1, hc.2.2.2.1, hc.2.2.2.2⟩
    have ok' : HOk X.prog X.w H h' := fun c o q => by
      refine (I.hok c o q).stay (fun d v hd r => ?_) (fun d r => r) fun d xs r => r
      rcases hd with e | e
      · subst e
        obtain ⟨n1, n2, n3, n4⟩ := nne d o q
        exact kk d v n1 n2 n3 n4 r
      · obtain ⟨n1, n2, n3, n4⟩ := nne d _ e
        exact kk d v n1 n2 n3 n4 r
    refine I.step (g' := s.gens) (d' := s.drawn) (t' := s.toks) (ch := [z, TI, TO, i1, i2]) (fun c hc => ?_) (fun c o _ _ hc q _ => ?_) (fun c o _ _ hc q _ => ⟨o.slots, ?_⟩)
        (fun c o _ q n => n) (fun c o hc q => ⟨o, ?_⟩) (fun c xs q => q) (fun c o u q => q) (fun c ps q => ⟨#[], by rw [q]; simp⟩) (fun m hm => ?_) ok' I.bare
    · obtain ⟨f0, f1, f2, f3, f4, f5⟩ := hf c hc
      exact ⟨f3, f1, f4, f5⟩
    · obtain ⟨n1, n2, n3, n4⟩ := notin c hc; exact kk c o n1 n2 n3 n4 q
    · obtain ⟨n1, n2, n3, n4⟩ := notin c hc; exact kk c o n1 n2 n3 n4 q
    · obtain ⟨n1, n2, n3, n4⟩ := notin c hc; exact kk c o n1 n2 n3 n4 q
    · obtain ⟨o, es, ep, ho, r⟩ := hm
      exact ⟨o, es, ep, kk _ o (Ne.symm (hf z (by simp)).2.1) (Ne.symm (hf TO (by simp)).2.1) (Ne.symm (hf i1 (by simp)).2.1) (Ne.symm (hf i2 (by simp)).2.1) ho, r⟩
  self := fun _ _ _ _ _ st h => wpAny_pyIter_zip st.1 h
section
variable {X : Cx}
def iZip (K : PySem.W.Frag) (ta : TA) : TI := fun σ H R => ta σ H fun vs H1 => ∃ a b, vs = [.ref a, .ref b] ∧ (∃ xs, SqL K H1 a xs) ∧ (∃ ys, SqL K H1 b ys) ∧ R (Itz K a b) H1
theorem pi_zip {a b : Expr} {ta : TA} {p pos tpos : Pos} {es : List Expr} {k : Nat} (hg : Gl X "zip") (hm : X.mg "zip" = none) (ha : PA X [a, b] ta) (hs : starEach [a, b] X.env = [(false, eval a X.env), (false, eval b X.env)] := by rfl) (hs2 : starEach [b] X.env = [(false, eval b X.env)] := by rfl) :
    PI X (.Tuple es k tpos) (.Call (.Name "zip" p) [a, b] [] pos) (iZip X.K ta) := by
  intro pins s σ H R I h
  refine Call_ (ld_blt I hg hm boot_zip (PyProof.Rows.callWith_type1 (thn (ha pos pins s σ H _ I h) fun us s1 ⟨vs, H1, I1, r1, q1⟩ => ?_) (by rw [hs, hs2]) (by rw [hs2]; rfl)))
  obtain ⟨l1, l2, e, ⟨xs, hq1⟩, ⟨ys, hq2⟩, q⟩ := q1
  subst e
  obtain ⟨u, v, rfl, ru, rv⟩ := r1.two
  cases ru
  cases rv
  obtain ⟨its1, rv1, p1, hz1⟩ := I1.list hq1
  obtain ⟨its2, rv2, p2, hz2⟩ := I1.list hq2
  have L1 : @LT.lt Nat _ l1 s1.heap.objs.size := by obtain ⟨o, ho, _⟩ := p1.isList; exact aLt ho
  have L2 : @LT.lt Nat _ l2 s1.heap.objs.size := by obtain ⟨o, ho, _⟩ := p2.isList; exact aLt ho
  refine call_zip_2 p1.isList p2.isList fun h' g1 g2 g3 g4 g5 hsz kk => ?_
  have I2 : Inv X pins σ H1 { s1 with heap := h' } := I1.kept (t' := s1.toks) kk
  refine wpAny_pyIter_zip (s := { s1 with heap := h' }) g1 ?_
  have ap : ZipApart (s1.heap.objs.size + 4) (s1.heap.objs.size + 2) (s1.heap.objs.size + 3) s1.heap.objs.size (s1.heap.objs.size + 1) l1 l2 := by
    constructor <;> (intro e; have e' : @Eq Nat _ _ := e; omega)
  refine ⟨_, [s1.heap.objs.size + 4, s1.heap.objs.size + 2, s1.heap.objs.size + 3, s1.heap.objs.size, s1.heap.objs.size + 1], _, _, H1, rfl, I2, turn_zip l1 l2 _ _ _ _ _ ap, ⟨g1, g2, ⟨_, _, g3⟩, g4, g5⟩, fun c hc => ?_, q⟩
  have hb' : @LE.le Nat _ s1.heap.objs.size c := by
    simp only [List.mem_cons, List.not_mem_nil, or_false] at hc
    rcases hc with e | e | e | e | e <;> (subst e; first | exact Nat.le_refl _ | exact Nat.le_add_right _ _)
  exact I1.fpOk hb' (I1.hok.fresh hb')
theorem pi_zipK {K : PySem.W.Frag} {a b : Expr} {ta : TA} {p pos tpos : Pos} {es : List Expr} {k : Nat} (hk : X.K = K) (hg : Gl X "zip") (hm : X.mg "zip" = none) (ha : PA X [a, b] ta) (hs : starEach [a, b] X.env = [(false, eval a X.env), (false, eval b X.env)] := by rfl) (hs2 : starEach [b] X.env = [(false, eval b X.env)] := by rfl) :
    PI X (.Tuple es k tpos) (.Call (.Name "zip" p) [a, b] [] pos) (iZip K ta) := hk ▸ pi_zip hg hm ha hs hs2
/-! max of a list of ints -/
end
end L2

/-! x is not True; a text in a dict of the module's. -/

/-! what is never come to -/

/-! xs[a:c] = ys where c may lie past the end; tuple + tuple within a def; things of all kinds. -/
namespace L2
open PySem PySem.Spec PyProof.Rows PyProof.V
/-! things -/
inductive Sim (H : Hp) : V → Prop
  | non : Sim H .non
  | bl (b : Bool) : Sim H (.bl b)
  | int (i : Int) : Sim H (.int i)
  | str (x : Str) : Sim H (.str x)
  | lst {a : Addr} {xs : List V} (e : H a = some (.lst xs)) : Sim H (.ref a)
  | tup {a : Addr} {xs : List V} (e : H a = some (.tup xs)) : Sim H (.ref a)
def isStr : V → Bool
  | .str _ => true
  | _ => false
def isIn : V → Bool
  | .int _ => true
  | _ => false
theorem sim_str {K : PySem.W.Frag} {H : Hp} {v : V} (h : Sim H v) : ∃ t, TyOf K H v t ∧ PySem.W.kitOne K t (.type "str") = some (isStr v) := by
  cases h with
  | non => exact ⟨_, .non, rfl⟩
  | bl b => exact ⟨_, .bl b, rfl⟩
  | int i => exact ⟨_, .int i, rfl⟩
  | str x => exact ⟨_, .str x, rfl⟩
  | lst e => exact ⟨_, .lst e, rfl⟩
  | tup e => exact ⟨_, .tup e, rfl⟩
/-- a letter's place: a letter's tuple, or another thing -/
inductive LetR (H : Hp) : V → Option (Str × Int) → Prop
  | yes {a : Addr} {x : Str} {k : Int} (e : H a = some (.tup [.str x, .int k])) : LetR H (.ref a) (some (x, k))
  | non : LetR H .non none
  | bl (b : Bool) : LetR H (.bl b) none
  | int (i : Int) : LetR H (.int i) none
  | str (x : Str) : LetR H (.str x) none
  | lst {a : Addr} {xs : List V} (e : H a = some (.lst xs)) : LetR H (.ref a) none
  | len {a : Addr} {xs : List V} (e : H a = some (.tup xs)) (n : xs.length ≠ 2) : LetR H (.ref a) none
  | fst {a : Addr} {u w : V} (e : H a = some (.tup [u, w])) (s : Sim H u) (n : isStr u = false) : LetR H (.ref a) none
  | snd {a : Addr} {x : Str} {w : V} (e : H a = some (.tup [.str x, w])) (s : Sim H w) (n : isIn w = false) : LetR H (.ref a) none
end L2

/-! the arguments of a display, one by one: no star -/
namespace L2
open PySem PySem.Spec PyProof.Rows
section
variable {env : Env} {r : List Expr}
theorem se_Constant {a : Const} {b : Nat} {p : Pos} : starEach (.Constant a b p :: r) env = (false, eval (.Constant a b p) env) :: starEach r env := by rfl
theorem se_Name {a : Str} {p : Pos} : starEach (.Name a p :: r) env = (false, eval (.Name a p) env) :: starEach r env := by rfl
theorem se_Tuple {a : List Expr} {b : Nat} {p : Pos} : starEach (.Tuple a b p :: r) env = (false, eval (.Tuple a b p) env) :: starEach r env := by rfl
theorem se_List {a : List Expr} {p : Pos} : starEach (.List a p :: r) env = (false, eval (.List a p) env) :: starEach r env := by rfl
end
end L2

/-! the rules of displays, closed: what stands within is not looked into -/
namespace L2
open PySem PySem.Spec PyProof.Rows
section
variable {X : Cx} {e a b : Expr} {es : List Expr} {te ta tb : TE} {t : TA} {pos : Pos} {st : Stmt} {rest : List Stmt} {ts us : TS}
structure PEc (X : Cx) (e : Expr) (t : TE) : Prop where
  out : PE X e t
structure PAc (X : Cx) (es : List Expr) (t : TA) : Prop where
  out : PA X es t
structure PSc (X : Cx) (st : Stmt) (t : TS) : Prop where
  out : PS X st t
structure PSsc (X : Cx) (st : List Stmt) (t : TS) : Prop where
  out : PSs X st t
theorem pac_nil : PAc X [] tNil := ⟨pa_nil⟩
theorem pac_cons (ha : PEc X e te) (hr : PAc X es t) (hs : starEach (e :: es) X.env = (false, eval e X.env) :: starEach es X.env) : PAc X (e :: es) (tCons te t) := ⟨pa_cons ha.out hr.out hs⟩
theorem pec_lst (h : PAc X es t) : PEc X (.List es pos) (tLst t) := ⟨pe_lst h.out⟩
theorem pec_tup {k : Nat} (h : PAc X es t) : PEc X (.Tuple es k pos) (tTup t) := ⟨pe_tup h.out⟩
theorem pec_int {i : Int} {j : Nat} : PEc X (.Constant (.int i) j pos) (tC (.int i)) := ⟨pe_int⟩
theorem pec_bl {b : Bool} {j : Nat} : PEc X (.Constant (.bool b) j pos) (tC (.bl b)) := ⟨pe_bl⟩
theorem pec_non {j : Nat} : PEc X (.Constant .none j pos) (tC .non) := ⟨pe_non⟩
theorem pec_of (h : PE X e te) : PEc X e te := ⟨h⟩
end
end L2

/-! displays of constants, as trees: one rule for a whole display -/
namespace L2
open PySem PySem.Spec PyProof.Rows
inductive Lit
  | non | bl (b : Bool) | int (i : Int) | str (x : Str) | tup (l : List Lit) | lst (l : List Lit)
mutual
inductive RepL (H : Hp) : V → Lit → Prop
  | non : RepL H .non .non
  | bl (b : Bool) : RepL H (.bl b) (.bl b)
  | int (i : Int) : RepL H (.int i) (.int i)
  | str (x : Str) : RepL H (.str x) (.str x)
  | tup {a : Addr} {xs : List V} {l : List Lit} (e : H a = some (.tup xs)) (r : RepLs H xs l) : RepL H (.ref a) (.tup l)
  | lst {a : Addr} {xs : List V} {l : List Lit} (e : H a = some (.lst xs)) (r : RepLs H xs l) : RepL H (.ref a) (.lst l)
inductive RepLs (H : Hp) : List V → List Lit → Prop
  | nil : RepLs H [] []
  | cons {v : V} {vs : List V} {l : Lit} {ls : List Lit} (a : RepL H v l) (r : RepLs H vs ls) : RepLs H (v :: vs) (l :: ls)
end
section
variable {X : Cx} {G : St → Hp → Prop} {e a b : Expr} {es : List Expr} {pos : Pos} {l : Lit} {ls la lb : List Lit}
def tL (G : St → Hp → Prop) (l : Lit) : TE := fun σ H Q => G σ H ∧ ∀ v H', Same H H' → RepL H' v l → Q v H'
def tLs (G : St → Hp → Prop) (l : List Lit) : TA := fun σ H Q => G σ H ∧ ∀ v H', Same H H' → RepLs H' v l → Q v H'
structure PL (X : Cx) (G : St → Hp → Prop) (e : Expr) (l : Lit) : Prop where
  out : PE X e (tL G l)
structure PLs (X : Cx) (G : St → Hp → Prop) (es : List Expr) (l : List Lit) : Prop where
  out : PA X es (tLs G l)
end
end L2

/-! a statement with a word of one's own between it and the rest -/
namespace L2
open PySem PySem.Spec PyProof.Rows
section
variable {X : Cx} {st : Stmt} {rest : List Stmt} {t u : TS}
def tCut (t u : TS) : TS := fun D σ H => ∃ I : St → Hp → Prop, t { D with nx := I } σ H ∧ ∀ σ' H', I σ' H' → u D σ' H'
theorem pss_cut (h1 : PS X st t) (h2 : PSs X rest u) : PSs X (st :: rest) (tCut t u) := by
  intro pins s σ H D I h
  obtain ⟨W, a, b⟩ := h
  have c : PSs X (st :: rest) (tSeq (fun D' σ' H' => σ' = σ ∧ H' = H ∧ D' = { D with nx := u D } ∧ t { D with nx := W } σ H) u) := by
    refine pss_cons (fun pins s σ' H' D' I' q => ?_) h2
    obtain ⟨rfl, rfl, rfl, q⟩ := q
    refine thn (h1 pins s σ' H' _ I' q) fun f s' z => ?_
    cases f with
    | next => obtain ⟨σ2, H2, I2, q2⟩ := z; exact ⟨σ2, H2, I2, b σ2 H2 q2⟩
    | _ => exact z
  exact c pins s σ H D I ⟨rfl, rfl, rfl, a⟩
end
end L2

/-! exceptions over the layer: how one lies behind a call, how it leaves a frame -/
namespace L2
open PySem PySem.Spec PyProof.Rows
/-- an exception's object at a, of the class C, its last entry at T, out of flight, raised while none was handled -/
def Exc (h : Heap) (a T : Addr) (C : Value) : Prop :=
  ∃ oe vs oT ts, h.get? a = some oe ∧ oe.cls = C ∧ oe.data = .fields vs ∧ vs[1]? = some (.ref T) ∧ h.get? T = some oT ∧ oT.data = .fields ts ∧ ts[3]? = some .none ∧ T ≠ a ∧ vs[2]? = some .none
theorem Exc.ne_dict {h : Heap} {a T b : Addr} {C : Value} {o : Obj} (x : Exc h a T C) (e : h.get? b = some o) (d : ∀ vs, o.data ≠ .fields vs) : b ≠ a ∧ b ≠ T := by
  obtain ⟨oe, vs, oT, ts, p1, _, p3, _, p5, p6, _⟩ := x
  refine ⟨fun z => ?_, fun z => ?_⟩
  · rw [z, p1] at e; cases e; exact d _ p3
  · rw [z, p5] at e; cases e; exact d _ p6
section
variable {M : Model} {A : Around} {E : Value → Shared → Prop} {s : Shared} {env : Env} {outer : List Env} {L a T : Addr} {C : Value} {base h : Heap} {Q : Unit → Shared → Prop}
theorem setF {o : Obj} {vs : Array Value} {k : Nat} {x : Value} (ho : s.heap.get? a = some o) (hd : o.data = .fields vs) (hk : k < vs.size)
    (h : ∀ h', (∃ o', h'.get? a = some o' ∧ o'.cls = o.cls ∧ o'.data = .fields (vs.setIfInBounds k x)) → Heap.SameBut a s.heap h' → Q () { s with heap := h' }) : wpAny M A (setField (.ref a) k x) Q E s :=
  wpAny_setField ho hd hk (h _ ⟨_, Heap.get?_update_self _ ho (Obj.isFreed_of_fields (Obj.data_mapFields hd _)), Obj.cls_mapFields .., Obj.data_mapFields hd _⟩ (Heap.SameBut.update ..))
/-- the frame is written into the exception at a, whose entries so far are none or begin at T, and the flight is ended -/
theorem noteEnd {oe : Obj} {vs : Array Value} {T : Option Addr} (hfr : A.frames = some (env :: outer)) (hf : env.frame = some L) (hl : s.heap.FunFrames base (env :: outer)) (ha : s.heap.get? a = some oe) (hv : oe.data = .fields vs) (h1 : vs[1]? = some (T.elim .none .ref)) (h2 : vs[2]? = some .none)
    (hT : ∀ t, T = some t → t ≠ a ∧ ∃ oT ts, s.heap.get? t = some oT ∧ oT.data = .fields ts ∧ ts[3]? = some .none)
    (hQ : ∀ h' T', (∀ b o, s.heap.get? b = some o → b ∉ frs (env :: outer) → b ≠ a → T ≠ some b → h'.get? b = some o) → (∀ b o, s.heap.get? b = some o → b ∈ frs (env :: outer) → ∃ sl, h'.get? b = some { o with slots := sl }) →
      Exc h' a T' oe.cls → s.heap.get? T' = none → Q () { s with heap := h' }) : wpAny M A (noteFrame (.ref a) env) (fun _ s₂ => wpAny M A (setFlight (.ref a) none) Q E s₂) E s := by
  have nf : ∀ b o, s.heap.get? b = some o → (∃ ws, o.data = .fields ws) → b ∉ frs (env :: outer) := fun b o e ⟨ws, d⟩ hb => by
    obtain ⟨_, o', e', n⟩ := hl.mem hb
    rw [e] at e'; cases e'
    exact n ws d
  have sz : 2 < vs.size := (Array.getElem?_eq_some_iff.mp h2).1
  -- the new entry, once the old one is out of flight
  have entry : ∀ (head : Value) (nx : Bool) (h0 : Heap), (∀ b o, s.heap.get? b = some o → T ≠ some b → h0.get? b = some o) → (∀ b o, s.heap.get? b = some o → ∃ o', h0.get? b = some o') → h0.FunFrames base (env :: outer) →
      wpAny M A (do let f ← frameOf env; let pl ← entryPlaceOf L nx; let b ← EntryCells.newEntry head f .none (rawInt L) .none pl; setField (.ref a) 1 b) (fun _ s₂ => wpAny M A (setFlight (.ref a) none) Q E s₂) E { s with heap := h0 } := by
    intro head nx h0 k0 n0 hl0
    have a0 : h0.get? a = some oe := k0 a oe ha fun z => (hT a z).1 rfl
    refine wpAny_bind (wpAny_frameOf_fun hfr hl0 hf fun h₁ so => wpAny_bind (wpAny_entryPlaceOf fun pl hpl => ?_))
    unfold EntryCells.newEntry newFields
    refine wpAny_bind (wpAny_newObj_type ?_ (hpl.sizeOk5 _ _ _ _ _))
    generalize hob : ([head, Value.ref L, .none, rawInt L, .none] ++ (if pl.isEmpty then List.replicate 6 Value.none else pl)).toArray = ts
    have t3 : 3 < ts.size := by rw [← hob]; simp only [List.size_toArray, List.length_append, List.length_cons, List.length_nil]; omega
    have a1 : h₁.get? a = some oe := (so.2.1 a (nf a oe ha ⟨vs, hv⟩)).trans a0
    have ne : h₁.objs.size ≠ a := Nat.ne_of_gt (Heap.lt_size a1)
    refine setF (Heap.get?_push_of_some _ a1) hv (by omega) fun g2 ⟨o2, e2, c2, d2⟩ sb2 => ?_
    have eT : g2.get? h₁.objs.size = some _ := (sb2.2 _ ne).trans (Heap.get?_push_size h₁ rfl)
    unfold setFlight
    refine wpAny_bind (wpAny_field (x := .ref h₁.objs.size) e2 d2 (by simp [show 1 < vs.size by omega]) ?_)
    rw [if_pos (by simp)]
    refine setF eT rfl t3 fun h3 ⟨o3, e3, c3, d3⟩ sb3 => ?_
    have old : ∀ b o, h₁.get? b = some o → b ≠ a → h3.get? b = some o := fun b o e z => (sb3.2 b (Nat.ne_of_lt (Heap.lt_size e))).trans ((sb2.2 b z).trans (Heap.get?_push_of_some _ e))
    have fresh : s.heap.get? h₁.objs.size = none := by
      cases q : s.heap.get? h₁.objs.size with
      | none => rfl
      | some o =>
        exfalso
        obtain ⟨o', z⟩ := n0 _ o q
        obtain ⟨sl, y⟩ := so.2.2 _ _ z
        exact Nat.lt_irrefl _ (Heap.lt_size y)
    refine hQ h3 h₁.objs.size (fun b o e n na nt => old b o ((so.2.1 b n).trans (k0 b o e nt)) na) (fun b o e hb => ?_) ⟨o2, _, o3, _, (sb3.2 a (Ne.symm ne)).trans e2, c2, d2, by simp [show 1 < vs.size by omega], e3, d3, by simp [t3], ne, by rw [Array.getElem?_setIfInBounds_ne (by decide)]; exact h2⟩ fresh
    obtain ⟨_, o', e', n⟩ := hl.mem hb
    rw [e] at e'; cases e'
    obtain ⟨sl, y⟩ := so.2.2 b o (k0 b o e fun z => by obtain ⟨_, oT, ts, q, d, _⟩ := hT b z; rw [e] at q; cases q; exact n _ d)
    exact ⟨sl, old b _ y fun z => by rw [z, ha] at e; cases e; exact n _ hv⟩
  unfold noteFrame
  simp only [hf]
  refine wpAny_bind (wpAny_field ha hv h1 ?_)
  cases T with
  | none =>
    rw [if_neg (by decide)]
    exact entry _ _ s.heap (fun b o e _ => e) (fun b o e => ⟨o, e⟩) hl
  | some t =>
    obtain ⟨nt, oT, ts, eT, dT, f3⟩ := hT t rfl
    show wpAny M A (if (Value.ref t != Value.none) = true then _ else _) _ _ s
    rw [if_pos (by simp)]
    refine wpAny_bind (wpAny_field eT dT f3 ?_)
    rw [if_neg (by simp [rawInt])]
    refine wpAny_bind (setF eT dT (Array.getElem?_eq_some_iff.mp f3).1 fun h' ⟨o1, g1, _⟩ sb => ?_)
    refine entry _ _ h' (fun b o e n => (sb.2 b fun z => n (by rw [z])).trans e) (fun b o e => by
      by_cases z : b = t
      · exact ⟨o1, by rw [z]; exact g1⟩
      · exact ⟨o, (sb.2 b z).trans e⟩) (hl.of_keeps fun b o e n => ⟨o, (sb.2 b fun z => ?_).trans e, rfl⟩)
    rw [z, eT] at e; cases e
    exact n _ dT
/-- a new exception leaves the frame in which it was made -/
theorem leave_made {args : List Value} (hfr : A.frames = some (env :: outer)) (hf : env.frame = some L) (hl : h.FunFrames base (env :: outer)) (hx : Heap.MadeExcOf h s.heap a C args)
    (hQ : ∀ h' T, (∀ b o, h.get? b = some o → b ∉ frs (env :: outer) → h'.get? b = some o) → (∀ b o, h.get? b = some o → b ∈ frs (env :: outer) → ∃ sl, h'.get? b = some { o with slots := sl }) →
      Exc h' a T C → h.get? a = none → h.get? T = none → Q () { s with heap := h' }) : wpAny M A (leaving env (.ref a)) Q E s := by
  obtain ⟨t, ha, _⟩ := hx.there
  have was : ∀ b, s.heap.get? b = none → h.get? b = none := fun b e => by
    cases q : h.get? b with
    | none => rfl
    | some o => rw [hx.keeps b o q] at e; cases e
  exact wpAny_bind (noteEnd (T := none) hfr hf (hl.of_keeps fun b o e _ => ⟨o, hx.keeps b o e, rfl⟩) ha rfl rfl rfl (fun _ z => nomatch z) fun h' T' k1 k2 ex nT =>
    hQ h' T' (fun b o e n => k1 b o (hx.keeps b o e) n (fun z => by rw [z, hx.new] at e; cases e) (fun z => nomatch z)) (fun b o e hb => k2 b o (hx.keeps b o e) hb) ex hx.new (was _ nT))
/-- the exception is looked at by its handler: entered once more, its flight ended -/
theorem looked (hfr : A.frames = some (env :: outer)) (hf : env.frame = some L) (hl : s.heap.FunFrames base (env :: outer)) (hx : Exc s.heap a T C)
    (hQ : ∀ h' T', (∀ b o, s.heap.get? b = some o → b ∉ frs (env :: outer) → b ≠ a → b ≠ T → h'.get? b = some o) → (∀ b o, s.heap.get? b = some o → b ∈ frs (env :: outer) → ∃ sl, h'.get? b = some { o with slots := sl }) →
      Exc h' a T' C → (T' = T ∨ s.heap.get? T' = none) → Q () { s with heap := h' }) : wpAny M A (noteFrame (.ref a) env) (fun _ s₂ => wpAny M A (setFlight (.ref a) none) Q E s₂) E s := by
  obtain ⟨oe, vs, oT, ts, p1, rfl, p3, p4, p5, p6, p7, p8, p9⟩ := hx
  exact noteEnd (T := some T) hfr hf hl p1 p3 p4 p9 (fun t z => by cases z; exact ⟨p8, oT, ts, p5, p6, p7⟩) fun h' T' k1 k2 ex nT => hQ h' T' (fun b o e n na nt => k1 b o e n na fun z => nt (Option.some.inj z).symm) k2 ex (.inr nT)
/-- the flight ended once more -/
theorem landed (hx : Exc s.heap a T C) (hQ : ∀ h', (∀ b o, s.heap.get? b = some o → b ≠ a → b ≠ T → h'.get? b = some o) → Exc h' a T C → Q () { s with heap := h' }) : wpAny M A (setFlight (.ref a) none) Q E s := by
  obtain ⟨oe, vs, oT, ts, p1, p2, p3, p4, p5, p6, p7, p8, p9⟩ := hx
  unfold setFlight
  refine wpAny_bind (wpAny_field p1 p3 p4 ?_)
  rw [if_pos (by simp)]
  have t3 := (Array.getElem?_eq_some_iff.mp p7).1
  refine setF p5 p6 t3 fun h' ⟨o', e', c', d'⟩ sb => hQ h' (fun b o e _ nt => (sb.2 b nt).trans e) ⟨oe, vs, o', _, (sb.2 a (Ne.symm p8)).trans p1, p2, p3, p4, e', d', by simp [t3], p8, p9⟩
end
end L2

/-! an exception behind a call, within the layer's promise of a def -/
namespace L2
open PySem PySem.Spec PyProof.Rows
def CX1 (P : Program) (w : World) : CXT := fun outer H s E e s' => ∃ (a T C : Addr) (H' : Hp), e = .ref a ∧ s'.os = s.os ∧ AllBare s'.gens ∧ Un (frs outer) [] H H' s.heap s'.heap ∧ HOk P w H' s'.heap ∧
  Exc s'.heap a T (.ref C) ∧ s.heap.get? a = none ∧ s.heap.get? T = none ∧ H' a = none ∧ H' T = none ∧ E (.ref C) none H'
section
variable {P : Program} {w : World} {K : PySem.W.Frag} {mg : Str → Option Value} {base : Heap} {N : List Str} {qual : Str} {scope : Scope} {f : Addr} {cd : Value} {A : Around} {outer : List Env} {s₀ s : Shared} {H₀ H : Hp} {E : XK} {CX : CXT} {pins : List (Addr × Obj)} {σ : L2.St}
theorem tracked_there {h : Heap} {b : Addr} {o : HO} (ok : HOk P w H h) (e : H b = some o) : ∃ ob, h.get? b = some ob := (ok b o e).there
theorem none_of_heap {h : Heap} {b : Addr} (ok : HOk P w H h) (e : h.get? b = none) : H b = none := by
  cases q : H b with
  | none => rfl
  | some o =>
    obtain ⟨ob, z⟩ := tracked_there ok q
    rw [e] at z
    cases z
/-- a frame left: all is kept but the frames' slots and what is the exception's -/
theorem step_left {a T : Addr} {h' : Heap} (I : Inv (cxOf CX P w K mg base N qual scope f cd A outer s₀ H₀ E) pins σ H s)
    (na : H a = none ∧ s₀.heap.get? a = none) (nT : H T = none ∧ s₀.heap.get? T = none)
    (keep : ∀ b o, s.heap.get? b = some o → b ∉ frs (cxOf CX P w K mg base N qual scope f cd A outer s₀ H₀ E).stack → b ≠ a → b ≠ T → h'.get? b = some o)
    (slot : ∀ b o, s.heap.get? b = some o → b ∈ frs (cxOf CX P w K mg base N qual scope f cd A outer s₀ H₀ E).stack → ∃ sl, h'.get? b = some { o with slots := sl }) :
    Un (frs outer) [] H₀ H s₀.heap h' ∧ HOk P w H h' := by
  have B : Un (frs outer) [] H₀ H s₀.heap s.heap := I.base
  have neL : ∀ b o, s₀.heap.get? b = some o → b ∉ frs outer → b ∉ frs (cxOf CX P w K mg base N qual scope f cd A outer s₀ H₀ E).stack := fun b o e nb hb => by
    rcases List.mem_cons.mp (I.stkSub b hb) with z | z
    · exact absurd (Nat.lt_of_lt_of_le (Heap.lt_size e) I.ok.above) (by rw [z]; exact Nat.lt_irrefl _)
    · exact nb z
  have nea : ∀ b o, s₀.heap.get? b = some o → b ≠ a ∧ b ≠ T := fun b o e => ⟨(fun z => by rw [z, na.2] at e; cases e), (fun z => by rw [z, nT.2] at e; cases e)⟩
  have any : ∀ b o, s.heap.get? b = some o → b ≠ a → b ≠ T → ∃ o', h'.get? b = some o' := fun b o e z1 z2 => by
    by_cases hb : b ∈ frs (cxOf CX P w K mg base N qual scope f cd A outer s₀ H₀ E).stack
    · obtain ⟨sl, q⟩ := slot b o e hb
      exact ⟨_, q⟩
    · exact ⟨o, keep b o e hb z1 z2⟩
  refine ⟨⟨fun b o e n hb hx => keep b o (B.keep b o e n hb hx) (neL b o e hb) (nea b o e).1 (nea b o e).2, fun b o e n hb hx => ?_, B.free, fun b o e hx => ?_, B.tups, B.frzs, B.tbls⟩, fun b u e => ?_⟩
  · obtain ⟨sl, q⟩ := B.slot b o e n hb hx
    obtain ⟨sl', q'⟩ := slot b _ q (by
      show b ∈ frs (envOfC qual scope s₀.heap.objs.size f cd :: outer)
      unfold frs
      rw [List.filterMap_cons]
      exact List.mem_cons_of_mem _ hb)
    exact ⟨sl', q'⟩
  · obtain ⟨o', q⟩ := B.there b o e hx
    exact any b o' q (nea b o e).1 (nea b o e).2
  · refine (I.hok b u e).stay (fun c v hc q => ?_) (fun _ q => q) fun _ _ q => q
    have hH : H c ≠ none := by
      rcases hc with rfl | z
      · rw [e]; exact fun z => nomatch z
      · rw [z]; exact fun z => nomatch z
    exact keep c v q (fun z => hH (I.stkFree c z)) (fun z => hH (by rw [z]; exact na.1)) (fun z => hH (by rw [z]; exact nT.1))
theorem old_none {b : Addr} (I : Inv (cxOf CX P w K mg base N qual scope f cd A outer s₀ H₀ E) pins σ H s) (e : s.heap.get? b = none) : s₀.heap.get? b = none := by
  cases q : s₀.heap.get? b with
  | none => rfl
  | some o =>
    obtain ⟨o', z⟩ := I.base.there b o q (fun y => nomatch y)
    rw [e] at z
    cases z
/-- what is made and raised here -/
theorem xe_made {a C : Addr} {args : List Value} {h' : Heap} {tk : Nat} (I : Inv (cxOf (CX1 P w) P w K mg base N qual scope f cd A outer s₀ H₀ E) pins σ H s) (hx : Heap.MadeExcOf s.heap h' a (.ref C) args) (hE : E (.ref C) none H) :
    (cxOf (CX1 P w) P w K mg base N qual scope f cd A outer s₀ H₀ E).xe (.ref a) { s with heap := h', toks := tk } := by
  refine leave_made (L := s₀.heap.objs.size) I.ok.frames rfl I.stack (s := { s with heap := h', toks := tk }) hx fun h2 T keep slot ex na nT => ?_
  obtain ⟨u, ok⟩ := step_left I ⟨none_of_heap I.hok na, old_none I na⟩ ⟨none_of_heap I.hok nT, old_none I nT⟩ (fun b o e n _ _ => keep b o e n) slot
  exact ⟨a, T, C, H, rfl, I.os, I.bare, u, ok, ex, old_none I na, old_none I nT, none_of_heap I.hok na, none_of_heap I.hok nT, hE⟩
end
end L2

/-! raise C(..) of an own class -/
namespace L2
open PySem PySem.Spec PyProof.Rows
theorem exc_of {K : PySem.W.Frag} {C : Addr} {bmB : List Value} {newId : String} {h : Heap} (KI : K.In h) (hq : PySem.W.excIn K C bmB newId = true) :
    ∃ bm N nm qn bs hd sn sub ab col dd k0 k1 k2 k3 k5 mN, h.get? C = some (excClassObj nm qn C N bs bm hd sn sub ab col dd k0 k1 k2 k3 k5 newId) ∧ h.Ns N mN ∧ mN "__init__" = none ∧ OwnTail h bmB bm := by
  unfold PySem.W.excIn at hq
  split at hq
  · rename_i dd dat slots hob
    split at hq
    · rename_i C2 tail k0 k1 k2 k3 nid k5 hmro hsl
      simp only [Bool.and_eq_true, Bool.not_eq_true', beq_iff_eq] at hq
      obtain ⟨⟨⟨⟨⟨e1, e2⟩, e3⟩, e4⟩, e5⟩, e6⟩ := hq
      subst e1
      subst e2
      obtain ⟨nm, bs, mro, ns, qn, hd, sn, sub, ab, col, del⟩ := dat
      simp only at hmro e3 e5 e6
      subst hmro
      subst e3
      obtain ⟨sl⟩ := slots
      simp only at hsl
      subst hsl
      exact ⟨tail, ns, nm, qn, bs, hd, sn, sub, ab, col, dd, k0, k1, k2, k3, k5, _, KI _ _ hob, .of_isNs (PySem.W.isNs_of_in KI e5), PySem.W.nsMap_none_of_in KI e5 e6, PySem.W.tail_of_in KI e4⟩
    · exact nomatch hq
  · exact nomatch hq
def bmV : List Value := [.type "ValueError", .type "Exception", .type "BaseException", .type "object"]
def tRaise (C : Addr) (E : XK) (ta : TA) : TS := fun _ σ H => ta σ H fun vs H1 => vs.length ≤ sizeLine ∧ E (.ref C) none H1
section
variable {P : Program} {w : World} {K : PySem.W.Frag} {mg : Str → Option Value} {base : Heap} {N : List Str} {qual : Str} {scope : Scope} {f : Addr} {cd : Value} {A : Around} {outer : List Env} {s₀ : Shared} {H₀ : Hp} {E : XK}
theorem ps_raise {x : Str} {C : Addr} {e : Expr} {es : List Expr} {ta : TA} {np cpos pos : Pos} (hg : Gl (cxOf (CX1 P w) P w K mg base N qual scope f cd A outer s₀ H₀ E) x) (hm : mg x = some (.ref C)) (hc : PySem.W.excIn K C bmV "ValueError.__new__" = true)
    (ha : PA (cxOf (CX1 P w) P w K mg base N qual scope f cd A outer s₀ H₀ E) (e :: es) ta)
    (he : starEach (e :: es) (cxOf (CX1 P w) P w K mg base N qual scope f cd A outer s₀ H₀ E).env = (false, eval e (cxOf (CX1 P w) P w K mg base N qual scope f cd A outer s₀ H₀ E).env) :: starEach es (cxOf (CX1 P w) P w K mg base N qual scope f cd A outer s₀ H₀ E).env := by rfl)
    (hp : (backTo cpos (starEach es (cxOf (CX1 P w) P w K mg base N qual scope f cd A outer s₀ H₀ E).env)).any (·.1) = false := by rfl) (hd : (x == ("__debug__" : Str)) = false := by decide) :
    PS (cxOf (CX1 P w) P w K mg base N qual scope f cd A outer s₀ H₀ E) (.Raise (some (.Call (.Name x np) (e :: es) [] cpos)) none pos) (tRaise C E ta) := by
  intro pins s σ H D I h
  obtain ⟨bm, NN, nm, qn, bs, hdc, sn, sub, ab, col, dd, k0, k1, k2, k3, k5, mN, hC, hN, hni, T⟩ := exc_of I.mod.kin hc
  have hb : bmV.contains (.type "BaseException") = true := PySem.F.excBase_ValueError.hasBase
  refine wpAny_Raise_call_subT (C := C) (nm := nm) (q := qn) (N := NN) (bs := bs) (bm := bm) (bmB := bmV) (hdct := hdc) (sn := sn) (sub := sub) (ab := ab) (col := col) (dd := dd) (k0 := k0) (k1 := k1) (k2 := k2) (k3 := k3) (k5 := k5)
    (newId := "ValueError.__new__") PySem.F.excBase_ValueError (mN := mN) (T.hasType hb) (I.ok.hd rfl) (by rw [he]; show (false || (backTo cpos (starEach es _)).any (·.1)) = false; rw [hp]; rfl) hni (ld_glob I hg hm ⟨rfl, ?_⟩ hd)
  have hz := ha cpos pins s σ H _ I h
  rw [he] at hz ⊢
  refine Calls.evalArgs_plain (wpAny_mono hz (fun us s2 ⟨vs, H2, I2, rv, hl, hE⟩ => ?_) fun _ _ y => y)
  refine ⟨rfl, by rw [← rv.length]; exact hl, I2.bk _ _ hC, hN.keeps I2.bk, T.keeps I2.bk, fun h' a mk => ?_⟩
  exact xe_made (tk := s2.toks) I2 mk hE
end
end L2

/-! isinstance of an exception of an own class -/
namespace L2
open PySem PySem.Spec PyProof.Rows
structure XLook (M : Model) (h : Heap) (C : Addr) : Prop where
  ga : PySem.W.Looks M h (typeLookup (.ref C) "__getattribute__") (some (.builtin "BaseException.__getattribute__"))
  ca : PySem.W.Looks M h (typeLookup (.ref C) "__class__") (some (.builtin "object.__class__"))
  ob : PySem.W.Looks M h (isSubtype (.ref C) (.type "object")) true
  be : PySem.W.Looks M h (isSubtype (.ref C) (.type "BaseException")) true
  gn : PySem.W.Looks M h (typeLookup (.ref C) "__getattr__") none
section
variable {prog : Program} {w : World} {A : Around} {E : Value → Shared → Prop} {h : Heap} {g : Array GenState} {d : Drawn} {t : Nat} {os : OsState} {a C : Addr} {o : Obj}
theorem xc_get {R : Result → Shared → Prop} (L : XLook (model prog w) h C) (hx : h.get? a = some o) (hc : o.cls = .ref C) (hq : R (.ok (.ret (.ref C))) ⟨h, g, d, t, os⟩) :
    codeAny (model prog w) A (.call (.builtin "getset_descriptor.__get__") ⟨[.builtin "object.__class__", .ref a, .ref C], []⟩) R ⟨h, g, d, t, os⟩ := by
  have hT5 : (⟨h, g, d, t, os⟩ : Shared).TypeIs (.builtin "object.__class__") "getset_descriptor" := PySem.F.typeOf_object_class
  have Lo : PySem.W.Looks (model prog w) h (isSubtype (.ref C) (.type (".".intercalate ("object.__class__".cutAt '.').dropLast))) true := by
    rw [PySem.F.owner_object_class]; exact L.ob
  refine codeAny_call_builtin PySem.F.slot_gs_get.plain PySem.F.entry_gs_get (PySem.F.slot_gs_get.check _ _ _ _ _ _ _ _ hT5 (PySem.F.args_gs_get _ _ _) ?_)
  repeat (any_goals (first | assumption | (with_reducible refine wpAny_loadPart_at hx ?_; rw [hc]) | with_reducible refine Lo.at ?_ | wp_step))
  refine ⟨Code.quiet_builtin _ (by decide +kernel), codeAny_builtin PySem.F.entry_object_class ?_⟩
  repeat (any_goals (first | assumption | (with_reducible refine wpAny_loadPart_at hx ?_; rw [hc]) | wp_step))
theorem xc_entry {tk : Tok} {Q : Fin → Shared → Prop} (L : XLook (model prog w) h C) (hx : h.get? a = some o) (hc : o.cls = .ref C) (hq : Q (.done (.ret (.ref C))) ⟨h, g, d, t, os⟩) :
    wpAny (model prog w) A (Builtin.«object.__getattribute__» ⟨[.ref a, .str "__class__" tk], []⟩) Q E ⟨h, g, d, t, os⟩ := by
  have hT5 : (⟨h, g, d, t, os⟩ : Shared).TypeIs (.builtin "object.__class__") "getset_descriptor" := PySem.F.typeOf_object_class
  have f5 := PySem.F.typeOf_object_class
  have f6 := PySem.F.slot_gs_get.lookup
  have f7 := PySem.F.slot_gs_set.lookup
  have Lc := L.ca
  repeat (any_goals (first | assumption | (with_reducible refine wpAny_loadPart_at hx ?_; rw [hc]) | with_reducible refine Lc.at ?_ | wp_step))
  refine xc_get L hx hc ?_
  repeat (any_goals (first | assumption | wp_step))
theorem xc_check {M : Model} {nameV : Value} {Q : Unit → Shared → Prop} (L : XLook M h C) (hx : h.get? a = some o) (hc : o.cls = .ref C) (hq : Q () ⟨h, g, d, t, os⟩) :
    wpAny M A (checkBuiltinCall "BaseException.__getattribute__" ⟨[.ref a, nameV], []⟩) Q E ⟨h, g, d, t, os⟩ := by
  have kd : builtinKind "BaseException.__getattribute__" = some .slot := by decide +kernel
  have sp : splitId "BaseException.__getattribute__" = some ("BaseException", "__getattribute__") := by decide +kernel
  have ag := PySem.F.args_bexc_ga (.ref a) nameV
  have Lb := L.be
  simp only [checkBuiltinCall, kd, sp]
  refine wpAny_bind ?_
  unfold isInstance
  repeat (first | (with_reducible refine wpAny_loadPart_at hx ?_; rw [hc]) | with_reducible refine Lb.at ?_ | wp_step)
  exact hq
theorem xc_by {tk : Tok} {Q : Value → Shared → Prop} (L : XLook (model prog w) h C) (hx : h.get? a = some o) (hc : o.cls = .ref C) (hq : Q (.ref C) ⟨h, g, d, t, os⟩) :
    wpAny (model prog w) A (getAttrBy (.ref a) (.str "__class__" tk) false) Q E ⟨h, g, d, t, os⟩ := by
  have f3 := PySem.F.excAttr_ValueError.ga.bind (.ref a)
  have e2 : (Value.builtin "BaseException.__getattribute__" == Value.builtin "object.__getattribute__") = false := by decide +kernel
  have e1 : (onTheHeap (Value.ref C) && Value.builtin "BaseException.__getattribute__" == Value.builtin "object.__getattribute__") = false := by rw [e2]; rfl
  have Lg := L.ga
  have Ln := L.gn
  repeat (any_goals (first | assumption | (with_reducible refine wpAny_loadPart_at hx ?_; rw [hc]) | with_reducible refine Lg.at ?_ | with_reducible refine Ln.at ?_ | wp_step))
  refine codeAny_call_builtin PySem.F.excAttr_ValueError.ga.plain PySem.F.entry_bexc_ga (xc_check L hx hc (xc_entry L hx hc ?_))
  repeat (any_goals (first | assumption | wp_step))
theorem xc_attr {Q : Option Value → Shared → Prop} (L : XLook (model prog w) h C) (hx : h.get? a = some o) (hc : o.cls = .ref C) (hq : Q (some (.ref C)) ⟨h, g, d, t + 1, os⟩) :
    wpAny (model prog w) A (getAttr? (.ref a) "__class__") Q E ⟨h, g, d, t, os⟩ := by
  unfold getAttr? getAttrBy?
  repeat (any_goals (first | assumption | with_reducible apply xc_by L hx hc | wp_step))
theorem kitx_exc {K : PySem.W.Frag} {a C : Addr} (h1 : PySem.W.findIn K (.ref C) "__getattribute__" = some (some (.builtin "BaseException.__getattribute__"))) (h2 : PySem.W.findIn K (.ref C) "__getattr__" = some none)
    (h3 : PySem.W.findIn K (.ref C) "__class__" = some (some (.builtin "object.__class__"))) (h4 : PySem.W.mroIn K C (.type "object") = some true) (h5 : PySem.W.mroIn K C (.type "BaseException") = some true) (h6 : (PySem.W.clsIn K C).isSome = true) :
    PySem.W.KitX K (.ref a) (.ref C) (fun h => ∃ o, h.get? a = some o ∧ o.cls = .ref C) where
  ty := fun _ _ _ ⟨o, e, c⟩ => c ▸ (PySem.W.Looks.ld e).andThen .now
  it := fun _ _ KI _ => by
    obtain ⟨cd, z⟩ := Option.isSome_iff_exists.mp h6
    unfold PySem.W.clsIn at z
    split at z
    · rename_i ho
      intro A' Q' E' s' k q
      unfold isType loadHead
      refine wpAny_bind (wpAny_loadPart (k _ _ (KI _ _ ho)) (wpAny_pure ?_))
      exact q
    · exact nomatch z
  ne := fun h tp dd its n sl KI htp => by
    obtain ⟨cd, z⟩ := Option.isSome_iff_exists.mp h6
    refine Bool.eq_false_iff.mpr fun q => ?_
    have eq : C = tp := Value.ref.inj (beq_iff_eq.mp q)
    rw [← eq] at htp
    unfold PySem.W.clsIn at z
    split at z
    · rename_i ho
      have := (KI _ _ ho).symm.trans htp
      cases this
    · exact nomatch z
  ca := fun {prog w A E Q s} KI ⟨o, e, c⟩ k => by
    obtain ⟨hh, g, d, t, os⟩ := s
    exact xc_attr ⟨PySem.W.looks_findIn KI h1, PySem.W.looks_findIn KI h3, PySem.W.looks_mroIn KI h4, PySem.W.looks_mroIn KI h5, PySem.W.looks_findIn KI h2⟩ e c k
end
end L2

/-! try: body; except C as n: suite -/
namespace L2
open PySem PySem.Spec PyProof.Rows
section
variable {M : Model} {A : Around} {E : Value → Shared → Prop} {h : Heap} {g : Array GenState} {d : Drawn} {t : Nat} {os : OsState}
variable {nm q nmD qD : Str} {C N D ND : Addr} {bs bm bsD bmD : List Value} {hdct hdD : Bool} {sn snD : List Str} {sub subD : List Value} {ab abD : Bool} {col colD : Option Bool} {dd ddD : Option Addr} {k0 k1 k2 k3 k5 j0 j1 j2 j3 j5 : Option Value} {newId newD : String}
theorem match_own {e : Addr} {oe : Obj} {Q : Bool → Shared → Prop} (hD : h.get? D = some (excClassObj nmD qD D ND bsD bmD hdD snD subD abD colD ddD j0 j1 j2 j3 j5 newD)) (he : h.get? e = some oe) (hcls : oe.cls = .ref C)
    (hbD : bmD.contains (.type "BaseException") = true) (hsub : PySem.W.Looks M h (isSubtype (.ref C) (.ref D)) true) (hq : Q true ⟨h, g, d, t, os⟩) : wpAny M A (excMatches (.ref e) (.ref D)) Q E ⟨h, g, d, t, os⟩ := by
  have hcB : (Value.ref D :: bmD).contains (.type "BaseException") = true := by rw [List.contains_cons, hbD, Bool.or_true]
  have f := tc_notTuple
  unfold excMatches
  repeat (first | (with_reducible refine wpAny_loadPart_at he ?_; rw [hcls]) | with_reducible refine wpAny_loadPart_at hD ?_ | (with_reducible refine wpAny_isSubtype_exc hD ?_; rw [hcB]) | with_reducible refine hsub.at ?_ | wp_step)
  exact hq
end
abbrev Cx.nailed (X : Cx) (pins : List (Addr × Obj)) : Cx := { X with pn := X.pn ++ pins }
theorem Cx.Ok.nailed {X : Cx} (ok : X.Ok) (pins : List (Addr × Obj)) : (X.nailed pins).Ok :=
  ⟨ok.mod, ok.kind, ok.glob, ok.blt, ok.above, ok.inj, ok.has, ok.cab, ok.hd, ok.frames, ok.stk, ok.exf, ok.bs, ok.bsz, ok.noex, ok.exfs, ok.funs, ok.frf⟩
theorem Cx.Ok.unnailed {X : Cx} {pins : List (Addr × Obj)} (ok : (X.nailed pins).Ok) : X.Ok :=
  ⟨ok.mod, ok.kind, ok.glob, ok.blt, ok.above, ok.inj, ok.has, ok.cab, ok.hd, ok.frames, ok.stk, ok.exf, ok.bs, ok.bsz, ok.noex, ok.exfs, ok.funs, ok.frf⟩
section
variable {X : Cx} {pins ps : List (Addr × Obj)} {σ : L2.St} {H : Hp} {s : Shared}
theorem Inv.nail (I : Inv X pins σ H s) : Inv (X.nailed pins) [] σ H s := ⟨I.ok.nailed pins, I.os, I.bare, I.base, I.loc, I.cell, I.free, I.freeC, fun p hp => I.pin p (by simpa using hp), I.hok, I.len⟩
theorem Inv.unnail (I : Inv (X.nailed pins) ps σ H s) : Inv X pins σ H s := ⟨I.ok.unnailed, I.os, I.bare, I.base, I.loc, I.cell, I.free, I.freeC, fun p hp => I.pin p (List.mem_append_left _ hp), I.hok, I.len⟩
/-- all is kept but the running frames' slots and what is the exception's -/
theorem Inv.left {a T : Addr} {h' : Heap} (I : Inv X pins σ H s) (hex : X.ex = []) (na : H a = none ∧ X.s₀.heap.get? a = none) (nT : H T = none ∧ X.s₀.heap.get? T = none)
    (np : ∀ p ∈ X.pn ++ pins, p.1 ≠ a ∧ p.1 ≠ T) (xc : ∃ C, Exc s.heap a T C)
    (keep : ∀ b o, s.heap.get? b = some o → b ∉ frs X.stack → b ≠ a → b ≠ T → h'.get? b = some o) (slot : ∀ b o, s.heap.get? b = some o → b ∈ frs X.stack → ∃ sl, h'.get? b = some { o with slots := sl }) :
    Inv X pins σ H { s with heap := h' } := by
  obtain ⟨C0, xc⟩ := xc
  have up : ∀ b o, s.heap.get? b = some o → b ≠ a → b ≠ T → ∃ sl, h'.get? b = some { o with slots := sl } := fun b o e z1 z2 => by
    by_cases hb : b ∈ frs X.stack
    · exact slot b o e hb
    · exact ⟨o.slots, keep b o e hb z1 z2⟩
  have neL : ∀ b o, X.s₀.heap.get? b = some o → b ∉ X.fs → b ∉ frs X.stack := fun b o e nb hb => by
    rcases List.mem_cons.mp (I.stkSub b hb) with z | z
    · exact absurd (Nat.lt_of_lt_of_le (Heap.lt_size e) I.ok.above) (by rw [z]; exact Nat.lt_irrefl _)
    · exact nb z
  have nea : ∀ b o, X.s₀.heap.get? b = some o → b ≠ a ∧ b ≠ T := fun b o e => ⟨(fun z => by rw [z, na.2] at e; cases e), (fun z => by rw [z, nT.2] at e; cases e)⟩
  have cellK : ∀ c v, s.heap.IsCell c v → h'.IsCell c v := fun c v ⟨o, e, dt⟩ => by
    have n := xc.ne_dict e (fun vs z => by rw [dt] at z; cases z)
    obtain ⟨sl, e'⟩ := up c o e n.1 n.2
    exact ⟨_, e', dt⟩
  refine ⟨I.ok, I.os, I.bare, ⟨fun b o e n hb hx => ?_, fun b o e n hb hx => ?_, I.base.free, fun b o e hx => ?_, I.base.tups, I.base.frzs, I.base.tbls⟩, ?_, fun x c e => ?_, I.free, I.freeC, fun p hp => ?_, fun b u e => ?_, I.len⟩
  · exact keep b o (I.base.keep b o e n hb hx) (neL b o e hb) (nea b o e).1 (nea b o e).2
  · obtain ⟨sl, e1⟩ := I.base.slot b o e n hb hx
    obtain ⟨sl', e2⟩ := up b _ e1 (nea b o e).1 (nea b o e).2
    exact ⟨sl', e2⟩
  · obtain ⟨o', e1⟩ := I.base.there b o e hx
    obtain ⟨sl, e2⟩ := up b o' e1 (nea b o e).1 (nea b o e).2
    exact ⟨_, e2⟩
  · obtain ⟨m, ⟨o, es, ep, ho, hd, r⟩, hl⟩ := I.loc
    have n := xc.ne_dict ho (fun vs z => by rw [hd] at z; cases z)
    obtain ⟨sl, e'⟩ := up _ o ho n.1 n.2
    refine ⟨m, ⟨_, es, ep, e', hd, r⟩, fun i x v e1 e2 e3 => ?_⟩
    obtain ⟨u, rv, l⟩ := hl i x v e1 e2 e3
    refine ⟨u, rv, ?_⟩
    rcases l with l | ⟨k, c, e, z⟩
    · exact .inl l
    · exact .inr ⟨k, c, e, cellK c _ z⟩
  · obtain ⟨v, z⟩ := I.cell x c e
    exact ⟨v, cellK c v z⟩
  · obtain ⟨e, n, ne, nf, dd⟩ := I.pin p hp
    have nst : p.1 ∉ frs X.stack := fun hb => by
      rcases List.mem_cons.mp (I.stkSub _ hb) with z | z
      · exact ne z
      · exact nf z
    exact ⟨keep p.1 p.2 e nst (np p hp).1 (np p hp).2, n, ne, nf, dd⟩
  · refine (I.hok b u e).stay (fun c v hc q => ?_) (fun _ q => q) fun _ _ q => q
    have hH : H c ≠ none := by
      rcases hc with rfl | z
      · rw [e]; exact fun z => nomatch z
      · rw [z]; exact fun z => nomatch z
    exact keep c v q (fun z => hH (I.stkFree c z)) (fun z => hH (by rw [z]; exact na.1)) (fun z => hH (by rw [z]; exact nT.1))
end
end L2

/-! the rule for try -/
namespace L2
open PySem PySem.Spec PyProof.Rows
/-- what is wanted of an exception within a try's body -/
def xeT (X : Cx) (R : Addr → Hp → Prop) : Value → Shared → Prop := fun e s' => ∃ (a T C : Addr) (σ' : L2.St) (H' : Hp), e = .ref a ∧ Inv X [] σ' H' s' ∧ Exc s'.heap a T (.ref C) ∧ X.s₀.heap.get? a = none ∧ X.s₀.heap.get? T = none ∧
  H' a = none ∧ H' T = none ∧ (∀ p ∈ X.pn, p.1 ≠ a ∧ p.1 ≠ T) ∧ R C H'
abbrev ET (R : Addr → Hp → Prop) : XK := fun c _ H' => ∃ C, c = .ref C ∧ R C H'
section
variable {X : Cx} {pins : List (Addr × Obj)} {σ : L2.St} {H : Hp} {s : Shared} {R : Addr → Hp → Prop}
theorem passT (hex : X.ex = []) : Passes (CX1 X.prog X.w) (X.wish (xeT X R)) (ET R) := by
  intro pins σ H s e s' I c
  obtain ⟨a, T, C, H', rfl, os, bare, un, ok, ex, na, nT, ha, hT, C', hC, hR⟩ := c
  cases hC
  have I0 := I.unwish
  have I' : Inv X pins σ H' s' := I0.call' os un ok bare (fun b z => nomatch z)
  have old : ∀ b, s.heap.get? b = none → X.s₀.heap.get? b = none := fun b e => by
    cases q : X.s₀.heap.get? b with
    | none => rfl
    | some o =>
      obtain ⟨o', z⟩ := I0.base.there b o q (by rw [hex]; exact fun y => nomatch y)
      rw [e] at z
      cases z
  have pin : ∀ b, s.heap.get? b = none → ∀ p ∈ X.pn, p.1 ≠ b := fun b e p hp z => by
    have := (I0.pin p (List.mem_append_left _ hp)).1
    rw [z, e] at this
    cases this
  exact ⟨a, T, C, σ, H', rfl, I'.pins_of (fun p hp => nomatch hp), ex, old a na, old T nT, ha, hT, fun p hp => ⟨pin a na p hp, pin T nT p hp⟩, hR⟩
/-- within an except suite -/
abbrev Cx.suite (X : Cx) (pins : List (Addr × Obj)) (a : Addr) : Cx := { X with pn := X.pn ++ pins, A := X.A.mark (some (.ref a)), calm := false, xe := fun _ _ => False }
theorem Cx.Ok.suite {X : Cx} (ok : X.Ok) (pins : List (Addr × Obj)) (a : Addr) : (X.suite pins a).Ok :=
  ⟨ok.mod, ok.kind, ok.glob, ok.blt, ok.above, ok.inj, ok.has, ok.cab, (fun z => nomatch z), ok.frames, ok.stk, ok.exf, ok.bs, ok.bsz, ok.noex, ok.exfs, ok.funs, ok.frf⟩
theorem Inv.suite (I : Inv (X.nailed pins) [] σ H s) (ok : X.Ok) (a : Addr) : Inv (X.suite pins a) [] σ H s := ⟨ok.suite pins a, I.os, I.bare, I.base, I.loc, I.cell, I.free, I.freeC, I.pin, I.hok, I.len⟩
theorem Inv.unsuite {a : Addr} {ps : List (Addr × Obj)} (I : Inv (X.suite pins a) ps σ H s) (ok : X.Ok) : Inv X pins σ H s := ⟨ok, I.os, I.bare, I.base, I.loc, I.cell, I.free, I.freeC, fun p hp => I.pin p (List.mem_append_left _ hp), I.hok, I.len⟩
/-- what is tracked of a caught exception -/
def isX (a C : Addr) : Heap → Prop := fun h => ∃ o, h.get? a = some o ∧ o.cls = .ref C ∧ ∃ vs, o.data = .fields vs ∧ vs[2]? = some .none
/-- an untracked new object is tracked from now on -/
theorem Inv.track {a C : Addr} (I : Inv X pins σ H s) (ha : H a = none) (h0 : X.s₀.heap.get? a = none) (hL : a ≠ X.env.locals) (hc : ∀ x c, X.env.cells.lookup x = some c → c ≠ a) (hp : ∀ p ∈ X.pn ++ pins, p.1 ≠ a) (hx : isX a C s.heap) :
    Inv X pins σ (upd H a (.ext (isX a C))) s := by
  have new : ∀ b o, H b = some o → upd H a (.ext (isX a C)) b = some o := fun b o e => by rw [upd_ne (ne_of_none e ha)]; exact e
  refine ⟨I.ok, I.os, I.bare, ⟨I.base.keep, I.base.slot, fun b o e n hx => ?_, I.base.there, fun b xs e => new _ _ (I.base.tups b xs e), fun b o u e => new _ _ (I.base.frzs b o u e), fun b ps e => ?_⟩, I.loc, I.cell, ?_, fun x c e => ?_, fun p q => ?_, fun b u e => ?_, I.len⟩
  · have : b ≠ a := fun z => by rw [z, h0] at e; cases e
    rw [upd_ne this]
    exact I.base.free b o e n hx
  · obtain ⟨m, z⟩ := I.base.tbls b ps e
    exact ⟨m, new _ _ z⟩
  · rw [upd_ne hL.symm]; exact I.free
  · rw [upd_ne (hc x c e)]; exact I.freeC x c e
  · obtain ⟨e, n, r⟩ := I.pin p q
    exact ⟨e, by rw [upd_ne (hp p q)]; exact n, r⟩
  · by_cases z : b = a
    · subst z
      rw [upd_same] at e
      cases e
      obtain ⟨o, ho, hcl⟩ := hx
      exact ⟨⟨o, ho, hcl⟩, ⟨o, ho⟩, fun h1 h2 ⟨o1, q1, c1⟩ k => ⟨o1, k o1 q1, c1⟩⟩
    · rw [upd_ne z] at e
      exact (I.hok b u e).stay (fun _ _ _ q => q) (fun b' q => new _ _ q) fun b' xs q => new _ _ q
/-- the frame's map is another one, no name is known -/
theorem Inv.goes {h' : Heap} {m' : Str → Option Value} {tk : Nat} (I : Inv X pins σ H s) (ns : h'.Ns X.env.locals m') (hs : Heap.SameBut X.env.locals s.heap h') : Inv X pins (List.replicate X.N.length none) H { s with heap := h', toks := tk } := by
  have old : ∀ b o, X.s₀.heap.get? b = some o → b ≠ X.env.locals := fun b o e => Nat.ne_of_lt (Nat.lt_of_lt_of_le (Heap.lt_size e) I.ok.above)
  refine ⟨I.ok, I.os, I.bare, ⟨fun b o e n hb hx => (hs.2 b (old b o e)).trans (I.base.keep b o e n hb hx), fun b o e n hb hx => ?_, I.base.free, fun b o e hx => ?_, I.base.tups, I.base.frzs, I.base.tbls⟩, ⟨m', ns, fun i x v e1 e2 _ => ?_⟩, fun x c e => ?_, I.free, I.freeC, fun p hp => ?_, fun b u e => ?_, List.length_replicate⟩
  · obtain ⟨sl, q⟩ := I.base.slot b o e n hb hx
    exact ⟨sl, (hs.2 b (old b o e)).trans q⟩
  · obtain ⟨o', q⟩ := I.base.there b o e hx
    exact ⟨o', (hs.2 b (old b o e)).trans q⟩
  · rw [List.getElem?_replicate] at e2
    split at e2 <;> cases e2
  · obtain ⟨v, o, ho, hd⟩ := I.cell x c e
    exact ⟨v, o, (hs.2 c (I.cne x c e)).trans ho, hd⟩
  · obtain ⟨e, n, ne, r⟩ := I.pin p hp
    exact ⟨(hs.2 p.1 ne).trans e, n, ne, r⟩
  · refine (I.hok b u e).stay (fun c v hc q => (hs.2 c fun z => ?_).trans q) (fun _ q => q) fun _ _ q => q
    have : H c ≠ none := by
      rcases hc with rfl | y
      · rw [e]; exact fun z => nomatch z
      · rw [y]; exact fun z => nomatch z
    exact this (by rw [z]; exact I.free)
def tTry (n i : Nat) (R : Addr → Hp → Prop) (tb : TS) (th : Addr → TS) : TS := fun D σ H => tb D σ H ∧ ∀ (a C : Addr) (H' : Hp), R C H' → H' a = none →
  th a { nx := fun _ H2 => D.nx (List.replicate n none) H2, bk := fun _ H2 => D.bk (List.replicate n none) H2, ct := fun _ H2 => D.ct (List.replicate n none) H2, rt := D.rt } ((List.replicate n none).set i (some (.ref a))) (upd H' a (.ext (isX a C)))
theorem ps_try {body suite : List Stmt} {b₀ : Stmt} {i : Nat} {n cx : Str} {Dc : Addr} {tb : TS} {th : Addr → TS} {np hpos pos : Pos} {newId : String} (R : Addr → Hp → Prop) (hb : ∀ pins, PSs ((X.nailed pins).wish (xeT (X.nailed pins) R)) body tb) (hs : ∀ pins a, PSs (X.suite pins a) (b₀ :: suite) (th a))
    (hg : Gl X cx) (hm : X.mg cx = some (.ref Dc)) (hcD : PySem.W.excIn X.K Dc bmV newId = true) (hR : ∀ C H', R C H' → PySem.W.mroIn X.K C (.ref Dc) = some true) (hN : X.N.Nodup) (hi : X.N[i]? = some n) (hl : X.env.scope.names.lookup n = some .local)
    (hex : X.ex = [] := by rfl) (hst : X.stack = X.env :: X.outer := by rfl) (hfr : X.env.frame = some X.env.locals := by rfl) (hd : (cx == ("__debug__" : Str)) = false := by decide) :
    PS X (.Try body [.ExceptHandler (some (.Name cx np)) (some n) (b₀ :: suite) hpos] [] [] pos) (tTry X.N.length i R tb th) := by
  intro pins s σ H D I hw
  obtain ⟨hw1, hw2⟩ := hw
  refine wpAny_Try_except ?_
  refine wpAny_mono (hb pins [] s σ H D (I.nail.wish _) hw1) (fun f s1 q => ?_) (fun e s1 xe => ?_)
  · cases f with
    | next => obtain ⟨σ', H', I', d⟩ := q; exact wpAny_execs_nil ⟨σ', H', I'.unwish.unnail, d⟩
    | brk => obtain ⟨σ', H', I', d⟩ := q; exact ⟨σ', H', I'.unwish.unnail, d⟩
    | cont => obtain ⟨σ', H', I', d⟩ := q; exact ⟨σ', H', I'.unwish.unnail, d⟩
    | ret u => obtain ⟨v, σ', H', I', r, d⟩ := q; exact ⟨v, σ', H', I'.unwish.unnail, r, d⟩
  · obtain ⟨a, T, C, σ', H', rfl, I', ex, a0, T0, ha, hT, np', hR'⟩ := xe
    have ok : X.Ok := I.ok
    have np1 : ∀ p ∈ (X.nailed pins).pn ++ [], p.1 ≠ a ∧ p.1 ≠ T := fun p hp => np' p (by simpa using hp)
    refine looked (L := X.env.locals) (outer := X.outer) (base := X.base) (by rw [← hst]; exact ok.frames) hfr (by rw [← hst]; exact I'.stack) ex fun h2 T2 keep slot ex2 oT => ?_
    have I2 : Inv (X.nailed pins) [] σ' H' { s1 with heap := h2 } := I'.left hex ⟨ha, a0⟩ ⟨hT, T0⟩ np1 ⟨_, ex⟩ (by show ∀ b o, _ → b ∉ frs X.stack → _; rw [hst]; exact keep) (by show ∀ b o, _ → b ∈ frs X.stack → _; rw [hst]; exact slot)
    have old : ∀ {h : Heap} {σ'' : L2.St} {s2 : Shared}, Inv (X.nailed pins) [] σ'' H' s2 → ∀ b, s2.heap.get? b = none → H' b = none ∧ X.s₀.heap.get? b = none ∧ ∀ p ∈ (X.nailed pins).pn, p.1 ≠ b := fun J b e => by
      refine ⟨none_of_heap J.hok e, ?_, fun p hp z => ?_⟩
      · cases q : X.s₀.heap.get? b with
        | none => rfl
        | some o =>
          obtain ⟨o', z⟩ := J.base.there b o q (by show b ∉ X.ex; rw [hex]; exact fun y => nomatch y)
          rw [e] at z
          cases z
      · have := (J.pin p (List.mem_append_left _ hp)).1
        rw [z, e] at this
        cases this
    have T2f : H' T2 = none ∧ X.s₀.heap.get? T2 = none ∧ ∀ p ∈ (X.nailed pins).pn, p.1 ≠ T2 := by
      rcases oT with z | z
      · rw [z]; exact ⟨hT, T0, fun p hp => (np' p hp).2⟩
      · exact old (h := s1.heap) I' T2 z
    obtain ⟨bmD, ND, nmD, qnD, bsD, hdD, snD, subD, abD, colD, ddD, j0, j1, j2, j3, j5, mD, hD, hND, hniD, TD⟩ := exc_of I2.kIn hcD
    have hbD : bmD.contains (.type "BaseException") = true := TD.hasType PySem.F.excBase_ValueError.hasBase
    refine wpAny_handleBy_cons (codeAny_handlers_test ?_) (fun z => nomatch z)
    refine ld_glob (X := X.suite pins a) (I2.suite ok a) hg hm ?_ hd
    obtain ⟨oe, vs, oT', ts, x1, x2, x3⟩ := id ex2
    refine match_own hD x1 x2 hbD (PySem.W.looks_mroIn I2.kIn (hR C H' hR')) ?_
    refine codeAny_handlers_suite_as ?_
    refine landed (s := { s1 with heap := h2 }) ex2 fun h3 keep3 ex3 => ?_
    have np2 : ∀ p ∈ (X.nailed pins).pn ++ [], p.1 ≠ a ∧ p.1 ≠ T2 := fun p hp => ⟨(np1 p hp).1, T2f.2.2 p (by simpa using hp)⟩
    have I3 : Inv (X.nailed pins) [] σ' H' { s1 with heap := h3 } := I2.left hex ⟨ha, a0⟩ ⟨T2f.1, T2f.2.1⟩ np2 ⟨_, ex2⟩ (fun b o e _ z1 z2 => keep3 b o e z1 z2) (fun b o e hb => by
      obtain ⟨_, o', e', dd⟩ := I2.stack.mem hb
      rw [e] at e'
      cases e'
      have n := ex2.ne_dict e dd
      exact ⟨o.slots, keep3 b o e n.1 n.2⟩)
    have hx3 : isX a C h3 := by obtain ⟨oe, vs, oT, ts, y1, y2, y3, _, _, _, _, _, y9⟩ := ex3; exact ⟨oe, y1, y2, vs, y3, y9⟩
    have hL : a ≠ X.env.locals := by
      obtain ⟨m, ⟨o, es, ep, ho, hdt, _⟩, _⟩ := I3.loc
      exact fun z => (ex3.ne_dict ho (fun vs y => by rw [hdt] at y; cases y)).1 z.symm
    have hcl : ∀ x c, X.env.cells.lookup x = some c → c ≠ a := fun x c e => by
      obtain ⟨v, o, ho, hdt⟩ := I3.cell x c e
      exact (ex3.ne_dict ho (fun vs y => by rw [hdt] at y; cases y)).1
    have I4 : Inv (X.nailed pins) [] σ' (upd H' a (.ext (isX a C))) { s1 with heap := h3 } := I3.track ha a0 hL hcl (fun p hp => (np1 p hp).1) hx3
    have I5 : Inv (X.nailed pins) [] (List.replicate X.N.length none) (upd H' a (.ext (isX a C))) { s1 with heap := h3 } := I4.weak (by rw [List.length_replicate]; exact I4.len.symm) (fun k v z => by
      rw [List.getElem?_replicate] at z
      split at z <;> cases z)
    refine store_ok (X := X.suite pins a) (I5.suite ok a) hN hi (.inl hl) (show RelV (.ref a) (.ref a) from rfl) (fun s6 I6 => ?_) (.inr hl)
    refine wpAny_mono (hs pins a [] s6 _ _ _ I6 (hw2 a C H' hR' ha)) (fun f s7 q => ?_) (fun _ _ z => z.elim)
    have hcls : (X.env.scope.kind == .class || (X.env.scope.kind == .module && X.env.locals != X.env.globals)) = false := by rw [ok.kind]; rfl
    have fin : ∀ {σ7 : L2.St} {H7 : Hp}, Inv (X.suite pins a) [] σ7 H7 s7 → ∀ {Q : Shared → Prop}, (∀ s', Inv X pins (List.replicate X.N.length none) H7 s' → Q s') →
        wpAny (model X.prog X.w) X.A (do bindName X.env n .none; unbindBehindTheSuite X.env n hpos) (fun _ s' => Q s') X.xe s7 := fun {σ7 H7} J {Q} k => by
      obtain ⟨m, hn, _⟩ := (J.unsuite ok).loc
      exact wpAny_nameGoes hl hn hcls fun h5 m' ns sb => k _ ((J.unsuite ok).goes ns sb)
    cases f with
    | next => obtain ⟨σ7, H7, I7, dq⟩ := q; exact fin I7 fun s' J => ⟨_, H7, J, dq⟩
    | brk => obtain ⟨σ7, H7, I7, dq⟩ := q; exact fin I7 fun s' J => ⟨_, H7, J, dq⟩
    | cont => obtain ⟨σ7, H7, I7, dq⟩ := q; exact fin I7 fun s' J => ⟨_, H7, J, dq⟩
    | ret u => obtain ⟨v, σ7, H7, I7, r, dq⟩ := q; exact fin I7 fun s' J => ⟨v, _, H7, J, r, dq⟩
end
end L2

/-! defs that raise; calls of them; calls of other defs within an except suite; isinstance there -/
namespace L2
open PySem PySem.Spec PyProof.Rows
section
variable {P : Program} {w : World} {K : PySem.W.Frag} {mg : Str → Option Value} {base : Heap}
theorem Fun.okX {x qual : Str} {st : Stmt} {f : Addr} {fd : FuncData} {N ps : List Str} {k : Nat} {sp : Sp} (F : Fun K x qual st f fd) (S : FnScope N ps (defScope st)) (len : ∀ vs H Q E, sp vs H Q E → vs.length = ps.length)
    (hbody : ∀ (cdv : Value) (A : Around) (outer : List Env) (s : Shared) (H : Hp) (vs : List V) (Q : VK) (E : XK), Room k (A.deeper (envOfC qual (defScope st) s.heap.objs.size f cdv)) → sp vs H Q E →
      ∃ t, PSs (cxOf (CX1 P w) P w K mg base N qual (defScope st) f cdv A outer s H E) (defBody st) t ∧ t { nx := fun _ H' => Q .non H', rt := Q } (start N vs) H) : FnOk P w K mg base (CX1 P w) (k + 1) f fd ps sp := by
  obtain ⟨oc, od, kV, doc, pm, an, cdv, ct, osl, rfl, lk, hcd⟩ := F.ex
  exact fn_of lk hcd S len fun A outer s H vs Q E hr hsp => hbody cdv A outer s H vs Q E hr hsp
def HasX (P : Program) (w : World) (K : PySem.W.Frag) (mg : Str → Option Value) (base : Heap) (k : Nat) (x : Str) (ps : List Str) (sp : Sp) : Prop :=
  ∃ (f : Addr) (fd : FuncData), FnOk P w K mg base (CX1 P w) k f fd ps sp ∧ mg x = some (.ref f) ∧ PySem.W.keepIn K (.ref f) = true ∧ Binds K fd ps []
theorem pe_hasX {X : Cx} {k : Nat} {x : Str} {ps : List Str} {sp : Sp} {p pos : Pos} {e : Expr} {es : List Expr} {t : TA} {E : XK} (h : HasX X.prog X.w X.K X.mg X.base k x ps sp) (hr : Room k X.A) (hx : Passes (CX1 X.prog X.w) X E) (ha : PA X (e :: es) t) (hg : Gl X x := by rfl) (hdb : (x == ("__debug__" : Str)) = false := by decide)
    (he : starEach (e :: es) X.env = (false, eval e X.env) :: starEach es X.env := by rfl) (hpl : (backTo pos (starEach es X.env)).any (·.1) = false := by rfl) : PE X (.Call (.Name x p) (e :: es) [] pos) (tCall sp [] E t) := by
  obtain ⟨f, fd, G, hm, hk, hb⟩ := h
  exact pe_call G hr hg hm hk hb .nil hx ha hdb he hpl
structure RoomS (k : Nat) (A : Around) : Prop where
  dp : A.depth + 3 * k + 5 < recursionLimit
  un : A.units + 16 * k + 200 < cLine
/-- a def that may be called within an except suite, too -/
structure FnOkS (P : Program) (w : World) (K : PySem.W.Frag) (mg : Str → Option Value) (base : Heap) (k : Nat) (f : Addr) (fd : FuncData) (ps : List Str) (sp : Sp) : Prop where
  len : ∀ vs H Q E, sp vs H Q E → vs.length = ps.length
  run : ∀ (A : Around) (outer : List Env) (s : Shared) (H : Hp) (args : Args) (us : List Value) (vs : List V) (Q : VK), RoomS k A → Env0 P w K mg base A outer s H → BindsTo s fd args (ps.zip us) → Vals vs us → sp vs H Q E0 →
    codeAny (model P w) A (.call (.ref f) args) (CR CX0 outer P w H s Q E0) s
end
end L2

/-! isinstance(an exception, a class) -/
namespace L2
open PySem PySem.Spec PyProof.Rows
structure XCls (K : PySem.W.Frag) (C : Addr) : Prop where
  ga : PySem.W.findIn K (.ref C) "__getattribute__" = some (some (.builtin "BaseException.__getattribute__"))
  gn : PySem.W.findIn K (.ref C) "__getattr__" = some none
  ca : PySem.W.findIn K (.ref C) "__class__" = some (some (.builtin "object.__class__"))
  ob : PySem.W.mroIn K C (.type "object") = some true
  be : PySem.W.mroIn K C (.type "BaseException") = some true
  cl : (PySem.W.clsIn K C).isSome = true
def rIsX (K : PySem.W.Frag) : List V → Hp → VK → Prop := fun xs H Q => ∃ (a C : Addr) (y : V) (b : Bool), xs = [.ref a, y] ∧ H a = some (.ext (isX a C)) ∧ XCls K C ∧
  ((∃ D, y = .ref D ∧ PySem.W.kitOne K (.ref C) (.ref D) = some b) ∨ (∃ T, y = .ty T ∧ PySem.W.kitOne K (.ref C) (.type T) = some b)) ∧ Q (.bl b) H
theorem call_isX {X : Cx} {K : PySem.W.Frag} (h : X.K = K) : CallR X (.builtin "isinstance") (rIsX K) := by
  subst h
  intro pins s σ H vs us Q I rv hq
  obtain ⟨a, C, y, b, rfl, ha, xc, hy, q⟩ := hq
  cases rv with
  | cons r1 rv =>
    cases rv with
    | cons r2 rv =>
      cases rv
      cases r1
      have hx : ∃ o, s.heap.get? a = some o ∧ o.cls = .ref C := let ⟨o, e, c, _⟩ := (show isX a C s.heap from (I.hok a _ ha).1); ⟨o, e, c⟩
      rcases hy with ⟨D, rfl, hk⟩ | ⟨T, rfl, hk⟩
      · cases r2
        exact PySem.W.kia_one (kitx_exc xc.ga xc.gn xc.ca xc.ob xc.be xc.cl) I.kIn hx hk (fun z => nomatch z) fun tk => ⟨.bl b, H, I.tok _, rfl, q⟩
      · cases r2
        exact PySem.W.kia_one (kitx_exc xc.ga xc.gn xc.ca xc.ob xc.be xc.cl) I.kIn hx hk (fun z => nomatch z) fun tk => ⟨.bl b, H, I.tok _, rfl, q⟩
end L2

namespace L2
open PySem PySem.Spec PyProof.Rows

end L2

/-! range(a, b, 2) and zip walked by for -/

/-! == of two lists of ints, alike or not; != of what is plain or alike; list.index -/
namespace L2
open PySem PySem.Spec PyProof.Rows PyProof.V
section
variable {X : Cx}
theorem ints_at {ns : List Int} {its : List Value} (r : Vals (ns.map V.int) its) {j : Nat} (h : j < its.toArray.size) : ∃ t, its.toArray[j] = .int (ns.getD j 0) t := by
  have l := r.length
  rw [List.length_map] at l
  have hj : j < ns.length := by simp only [List.size_toArray] at h; omega
  obtain ⟨u, e, ru⟩ := r.get (i := j) (x := V.int ns[j]) (by simp [hj])
  obtain ⟨t, q⟩ := (show ∃ t, u = Value.int ns[j] t from ru)
  have hi : j < its.length := by omega
  refine ⟨t, ?_⟩
  have : its[j]? = some its[j] := by simp [hi]
  rw [this] at e
  have e2 := Option.some.inj e
  simp [hj]
  rw [e2, q]
theorem op_neU {K : PySem.W.Frag} (h : X.K = K) (hu : X.A.units + 64 < cLine) : OpR X (compareOp .NotEq) (fun x y H Q => rNe x y H Q ∨ rEqv K false x y H Q) := by
  intro pins s σ H x y v u Q I rx ry hq
  rcases hq with z | z
  · exact op_ne pins s σ H x y v u Q I rx ry z
  · exact op_nevK h hu pins s σ H x y v u Q I rx ry z
end
end L2

/-! Sets of some of 0, 1, 2, 3: set(a list of such), sorted(such a set). -/
namespace L2
open PySem PySem.Spec PyProof.Rows
def sub4 (b : Nat → Bool) : List Nat := (bif b 0 then [0] else []) ++ ((bif b 1 then [1] else []) ++ ((bif b 2 then [2] else []) ++ (bif b 3 then [3] else [])))
def tab4 (b : Nat → Bool) (led : Bool) (f m : Nat) : SetTable := { mask := 7, place := (sub4 b).toArray, dummies := #[], finger := f, led := led, moves := m, plain := true }
end L2

namespace L2
open PySem PySem.Spec PyProof.Rows
def EK : Int × Value → Nat → Prop := fun e k => e.1 = hashInt (k : Int) ∧ ∃ t, e.2 = .int (k : Int) t
/-- at a stands the set of those of 0, 1, 2, 3 that b tells, which only grew -/
def SO (w : World) (a : Addr) (b : Nat → Bool) (ep : Nat) (es : Array (Int × Value)) (h : Heap) : Prop :=
  ∃ o led f m, h.get? a = some o ∧ o.ExactSet ∧ o.data = .set es ep (tab4 b led f m) ∧ (w.params.followText "set-order" = true ∨ led = true) ∧ Paired EK es.toList (sub4 b)
section
variable {prog : Program} {w : World} {A : Around} {E : Value → Shared → Prop} {s : Shared} {a : Addr} {b : Nat → Bool} {ep : Nat} {es : Array (Int × Value)}
/-! set(a list): what holds of the set while it grows is told by J -/
end
end L2

namespace L2
open PySem PySem.Spec PyProof.Rows
/-- the order in which the set at a is walked -/
def ord4 (w : World) (a : Addr) (ep : Nat) (es : Array (Int × Value)) : Array (Int × Value) := if w.params.followText "set-order" = true then pickOrder (w.params.setOrder a ep) es else es
end L2

namespace L2
open PySem PySem.Spec PyProof.Rows
section
variable {prog : Program} {w : World} {A : Around} {E : Value → Shared → Prop} {s : Shared} {a it : Addr} {b : Nat → Bool} {ep i : Nat} {es : Array (Int × Value)}
/-- C tells of a set at a that can be walked; f tells where the next one is looked for -/
structure Wlk (prog : Program) (w : World) (a : Addr) (ep : Nat) (es : Array (Int × Value)) (f : Nat → Nat) (C : Heap → Prop) : Prop where
  there : ∀ {h}, C h → ∃ o t, h.get? a = some o ∧ o.ExactSet ∧ o.data = .set es ep t ∧ t.fits es.size = true ∧ t.plain = true
  kept : ∀ {h h'}, C h → (∀ o, h.get? a = some o → h'.get? a = some o) → C h'
  first : f 0 = 0
  next : ∀ {A E s i} {Q : Option (Value × Nat) → Shared → Prop}, C s.heap → i ≤ es.size → Q (((ord4 w a ep es)[i]?).map fun e => (e.2, f (i + 1))) s → wpAny (model prog w) A (setNext a (f i) i ep) Q E s
section
variable {f : Nat → Nat} {C : Heap → Prop} (N : Wlk prog w a ep es f C)
include N
end
end
end L2

namespace L2
open PySem PySem.Spec PyProof.Rows
/-- a set of those of 0, 1, 2, 3 -/
def SetO (w : World) (a : Addr) (ks : List Nat) : HO := .ext fun h => ∃ b ep es, sub4 b = ks ∧ SO w a b ep es h
end L2


/-! list.sort of any length: galloping -/
namespace L2
open PySem PySem.Spec PyProof.Rows
def gallop_ : Bool → Keyed → Array Keyed → Nat → Nat → Nat → StateT SortSt Sem (Option Nat) := sortPriv% PySem.Builtin.gallop
def mergeLo_ : Array Keyed → Array Keyed → StateT SortSt Sem (Array Keyed) := sortPriv% PySem.Builtin.mergeLo
def mergeHi_ : Array Keyed → Array Keyed → StateT SortSt Sem (Array Keyed) := sortPriv% PySem.Builtin.mergeHi
def mergeAt_ : Nat → StateT SortSt Sem Bool := sortPriv% PySem.Builtin.mergeAt
/-- a weak order -/
structure Wo (lt : Keyed → Keyed → Bool) : Prop where
  irr : ∀ p, lt p p = false
  asym : ∀ p q, lt p q = true → lt q p = false
  neg : ∀ p q r, lt p r = true → lt p q = true ∨ lt q r = true
theorem Wo.leT {lt : Keyed → Keyed → Bool} (C : Wo lt) {p q r : Keyed} (h1 : lt q p = false) (h2 : lt r q = false) : lt r p = false := by
  cases h : lt r p with
  | false => rfl
  | true => rcases C.neg r q p h with z | z
            · rw [z] at h2; cases h2
            · rw [z] at h1; cases h1
theorem Wo.flip {lt : Keyed → Keyed → Bool} (C : Wo lt) : Wo (fun x y => lt y x) := ⟨fun p => C.irr p, fun p q h => C.asym q p h, fun p q r h => (C.neg r q p h).symm⟩
/-- a comparison that answers by lt for the things of D, and changes nothing -/
structure Cmp (prog : Program) (w : World) (A : Around) (E : Value → Shared → Prop) (s : Shared) (kd : SortKind) (D : Keyed → Prop) (lt : Keyed → Keyed → Bool) : Prop where
  cmp : ∀ (p q : Keyed) (st : SortSt) (Q : Option Bool → SortSt → Prop), D p → D q → kindOf st = kd → Q (some (lt p q)) st → wpS (model prog w) A E s (lt' p q) Q st
  wo : Wo lt
section
variable {prog : Program} {w : World} {A : Around} {E : Value → Shared → Prop} {s : Shared} {kd : SortKind} {D : Keyed → Prop} {lt : Keyed → Keyed → Bool}
/-- how a thing stands to the key -/
def byd (lt : Keyed → Keyed → Bool) (left : Bool) (key : Keyed) (arr : Array Keyed) (base i : Nat) : Bool := match arr[base + i]? with
  | some x => if left = true then lt x key else !lt key x
  | none => false
theorem byd_ok (C : Cmp prog w A E s kd D lt) {left : Bool} {key : Keyed} {arr : Array Keyed} {base i : Nat} {st : SortSt} {Q : Option Bool → SortSt → Prop} (hk : D key) (hx : ∃ x, arr[base + i]? = some x ∧ D x) (hs : kindOf st = kd)
    (h : Q (some (byd lt left key arr base i)) st) : wpS (model prog w) A E s (elem' arr (base + i) >>= fun x => if left = true then lt' x key else (lt' key x >>= fun r => pure (r.map fun x => !x))) Q st := by
  obtain ⟨x, e, d⟩ := hx
  unfold byd at h
  rw [e] at h
  rw [elem'_eq, e]
  refine wpS_bind (wpS_pure ?_)
  cases left with
  | true => rw [if_pos rfl]; exact C.cmp x key st Q d hk hs (by simpa using h)
  | false =>
    rw [if_neg (by simp)]
    exact wpS_bind (C.cmp key x st _ hk d hs (wpS_pure (by simpa using h)))
theorem bin_loop {n : Nat} {st : SortSt} {Q : Option Nat → SortSt → Prop} {body : Nat → Option (Option Nat) × Nat × Nat → StateT SortSt Sem (ForInStep (Option (Option Nat) × Nat × Nat))} {rest : Option (Option Nat) × Nat × Nat → StateT SortSt Sem (Option Nat)} (f : Nat → Bool)
    (mono : ∀ i j, i ≤ j → j < n → f j = true → f i = true)
    (hb1 : ∀ x lo hi (R : ForInStep (Option (Option Nat) × Nat × Nat) → SortSt → Prop), lo ≥ hi → R (.done (none, lo, hi)) st → wpS (model prog w) A E s (body x (none, lo, hi)) R st)
    (hb2 : ∀ x lo hi (R : ForInStep (Option (Option Nat) × Nat × Nat) → SortSt → Prop), lo < hi → hi ≤ n → R (.yield (if f (lo + (hi - lo) / 2) = true then (none, lo + (hi - lo) / 2 + 1, hi) else (none, lo, lo + (hi - lo) / 2))) st → wpS (model prog w) A E s (body x (none, lo, hi)) R st)
    (hr : ∀ lo hi, Q (some hi) st → wpS (model prog w) A E s (rest (none, lo, hi)) Q st)
    (h : ∀ k, k ≤ n → (∀ i, i < k → f i = true) → (∀ i, k ≤ i → i < n → f i = false) → Q (some k) st)
    (lo hi : Nat) (h1 : lo ≤ hi) (h2 : hi ≤ n) (h3 : ∀ i, i < lo → f i = true) (h4 : ∀ i, hi ≤ i → i < n → f i = false) : wpS (model prog w) A E s (forIn [:n] (none, lo, hi) body >>= rest) Q st := by
  refine wpS_bind (wpS_mono (wpS_forRange (I := fun x c st' => st' = st ∧ ∃ lo hi, c = (none, lo, hi) ∧ lo ≤ hi ∧ hi ≤ n ∧ hi - lo ≤ n - x ∧ (∀ i, i < lo → f i = true) ∧ ∀ i, hi ≤ i → i < n → f i = false)
    (Q := fun c st' => st' = st ∧ ∃ lo hi, c = (none, lo, hi) ∧ lo = hi ∧ hi ≤ n ∧ (∀ i, i < lo → f i = true) ∧ ∀ i, hi ≤ i → i < n → f i = false) ?_ ?_ ⟨rfl, lo, hi, rfl, h1, h2, by omega, h3, h4⟩) ?_)
  · rintro x c st' _ hxn ⟨rfl, lo, hi, rfl, g1, g2, g3, g4, g5⟩
    by_cases hge : lo ≥ hi
    · exact hb1 x lo hi _ hge ⟨rfl, lo, hi, rfl, by omega, g2, g4, g5⟩
    · refine hb2 x lo hi _ (by omega) g2 ?_
      cases e : f (lo + (hi - lo) / 2) with
      | true => exact ⟨rfl, _, hi, rfl, by omega, g2, by omega, fun i hi' => mono i _ (by omega) (by omega) e, g5⟩
      | false =>
        refine ⟨rfl, lo, _, rfl, by omega, by omega, by omega, g4, fun i h1 h2 => ?_⟩
        cases z : f i with
        | false => rfl
        | true => rw [mono _ i h1 h2 z] at e; cases e
  · rintro c st' ⟨rfl, lo, hi, rfl, g1, g2, g3, g4, g5⟩
    exact ⟨rfl, lo, hi, rfl, by omega, g2, g4, g5⟩
  · rintro c st' ⟨rfl, lo, hi, rfl, rfl, g2, g4, g5⟩
    exact hr lo lo (h lo g2 g4 g5)
theorem gallop_ok (C : Cmp prog w A E s kd D lt) {left : Bool} {key : Keyed} {arr : Array Keyed} {base n hint : Nat} {st : SortSt} {Q : Option Nat → SortSt → Prop} (hk : D key) (hx : ∀ i, i < n → ∃ x, arr[base + i]? = some x ∧ D x) (hh : hint < n) (hs : kindOf st = kd)
    (mono : ∀ i j, i ≤ j → j < n → byd lt left key arr base j = true → byd lt left key arr base i = true)
    (h : ∀ k, k ≤ n → (∀ i, i < k → byd lt left key arr base i = true) → (∀ i, k ≤ i → i < n → byd lt left key arr base i = false) → Q (some k) st) :
    wpS (model prog w) A E s (gallop_ left key arr base n hint) Q st := by
  have monoF : ∀ i j, i ≤ j → j < n → byd lt left key arr base i = false → byd lt left key arr base j = false := fun i j hij hj z => by
    cases e : byd lt left key arr base j with
    | false => rfl
    | true => rw [mono i j hij hj e] at z; cases z
  refine wpS_bind (byd_ok C hk (hx hint hh) hs ?_)
  cases hr : byd lt left key arr base hint with
  | true =>
    dsimp only
    rw [if_pos rfl]
    refine wpS_bind (wpS_mono (wpS_forRange (I := fun x c st' => st' = st ∧ ∃ lo of, c = (none, lo, of) ∧ lo < of ∧ lo < n - hint ∧ x < of ∧ byd lt left key arr base (hint + lo) = true)
      (Q := fun c st' => st' = st ∧ ∃ lo of, c = (none, lo, of) ∧ lo < of ∧ lo < n - hint ∧ byd lt left key arr base (hint + lo) = true ∧ (of < n - hint → byd lt left key arr base (hint + of) = false)) ?_ ?_ ⟨rfl, 0, 1, rfl, by omega, by omega, by omega, hr⟩) ?_)
    · rintro x c st' _ hxn ⟨rfl, lo, of, rfl, g1, g2, g3, g4⟩
      dsimp only
      by_cases hge : of ≥ n - hint
      · rw [if_pos hge]
        exact wpS_pure ⟨rfl, lo, of, rfl, g1, g2, g4, fun z => by omega⟩
      · rw [if_neg hge]
        refine wpS_bind (byd_ok C hk (hx (hint + of) (by omega)) hs ?_)
        cases e : byd lt left key arr base (hint + of) with
        | true => exact wpS_pure ⟨rfl, of, _, rfl, by omega, by omega, by omega, e⟩
        | false => exact wpS_pure ⟨rfl, lo, of, rfl, g1, g2, g4, fun _ => e⟩
    · rintro c st' ⟨rfl, lo, of, rfl, g1, g2, g3, g4⟩
      exact ⟨rfl, lo, of, rfl, g1, g2, g4, fun z => by omega⟩
    · rintro c st' ⟨rfl, lo, of, rfl, g1, g2, g4, g5⟩
      dsimp only
      refine bin_loop (byd lt left key arr base) mono (fun x lo hi R hge hR => ?_) (fun x lo hi R hlt hn hR => ?_) (fun lo hi hq => wpS_pure hq) h _ _ ?_ ?_ ?_ ?_
      · dsimp only
        rw [if_pos hge]
        exact wpS_pure hR
      · dsimp only
        rw [if_neg (by omega)]
        refine wpS_bind (byd_ok C hk (hx _ (by omega)) hs ?_)
        cases e : byd lt left key arr base (lo + (hi - lo) / 2) with
        | true => rw [e, if_pos rfl] at hR; exact wpS_pure hR
        | false => rw [e, if_neg (by simp)] at hR; exact wpS_pure hR
      · omega
      · omega
      · exact fun i hi => mono i (hint + lo) (by omega) (by omega) g4
      · intro i h1 h2
        by_cases z : of < n - hint
        · exact monoF (hint + of) i (by omega) h2 (g5 z)
        · omega
  | false =>
    dsimp only
    rw [if_neg (by simp)]
    refine wpS_bind (wpS_mono (wpS_forRange (I := fun x c st' => st' = st ∧ ∃ lo of, c = (none, lo, of) ∧ lo < of ∧ lo < hint + 1 ∧ x < of ∧ byd lt left key arr base (hint - lo) = false)
      (Q := fun c st' => st' = st ∧ ∃ lo of, c = (none, lo, of) ∧ lo < of ∧ lo < hint + 1 ∧ byd lt left key arr base (hint - lo) = false ∧ (of < hint + 1 → byd lt left key arr base (hint - of) = true)) ?_ ?_ ⟨rfl, 0, 1, rfl, by omega, by omega, by omega, hr⟩) ?_)
    · rintro x c st' _ hxn ⟨rfl, lo, of, rfl, g1, g2, g3, g4⟩
      dsimp only
      by_cases hge : of ≥ hint + 1
      · rw [if_pos hge]
        exact wpS_pure ⟨rfl, lo, of, rfl, g1, g2, g4, fun z => by omega⟩
      · rw [if_neg hge]
        refine wpS_bind (byd_ok C hk (hx (hint - of) (by omega)) hs ?_)
        cases e : byd lt left key arr base (hint - of) with
        | true => exact wpS_pure ⟨rfl, lo, of, rfl, g1, g2, g4, fun _ => e⟩
        | false => exact wpS_pure ⟨rfl, of, _, rfl, by omega, by omega, by omega, e⟩
    · rintro c st' ⟨rfl, lo, of, rfl, g1, g2, g3, g4⟩
      exact ⟨rfl, lo, of, rfl, g1, g2, g4, fun z => by omega⟩
    · rintro c st' ⟨rfl, lo, of, rfl, g1, g2, g4, g5⟩
      dsimp only
      refine bin_loop (byd lt left key arr base) mono (fun x lo hi R hge hR => ?_) (fun x lo hi R hlt hn hR => ?_) (fun lo hi hq => wpS_pure hq) h _ _ ?_ ?_ ?_ ?_
      · dsimp only
        rw [if_pos hge]
        exact wpS_pure hR
      · dsimp only
        rw [if_neg (by omega)]
        refine wpS_bind (byd_ok C hk (hx _ (by omega)) hs ?_)
        cases e : byd lt left key arr base (lo + (hi - lo) / 2) with
        | true => rw [e, if_pos rfl] at hR; exact wpS_pure hR
        | false => rw [e, if_neg (by simp)] at hR; exact wpS_pure hR
      · omega
      · omega
      · intro i hi
        by_cases z : of < hint + 1
        · exact mono i (hint - of) (by omega) (by omega) (g5 z)
        · omega
      · exact fun i h1 h2 => monoF (hint - lo) i (by omega) h2 g4
end
end L2

/-! list.sort of any length: merging -/
namespace L2
open PySem PySem.Spec PyProof.Rows
section
variable {prog : Program} {w : World} {A : Around} {E : Value → Shared → Prop} {s : Shared} {kd : SortKind} {D : Keyed → Prop} {lt : Keyed → Keyed → Bool}
def Srt (lt : Keyed → Keyed → Bool) (l : List Keyed) : Prop := l.Pairwise fun p q => lt q p = false
theorem srt_get (C : Wo lt) {l : List Keyed} (h : Srt lt l) {i j : Nat} {p q : Keyed} (hi : l[i]? = some p) (hj : l[j]? = some q) (hij : i ≤ j) : lt q p = false := by
  obtain ⟨h1, rfl⟩ := List.getElem?_eq_some_iff.mp hi
  obtain ⟨h2, rfl⟩ := List.getElem?_eq_some_iff.mp hj
  rcases Nat.lt_or_ge i j with z | z
  · exact List.pairwise_iff_getElem.mp h i j h1 h2 z
  · obtain rfl : i = j := by omega
    exact C.irr _
theorem el_ok {arr : Array Keyed} {i : Nat} {x : Keyed} {st : SortSt} {Q : Keyed → SortSt → Prop} {M : Model} (e : arr[i]? = some x) (h : Q x st) : wpS M A E s (elem' arr i) Q st := by
  rw [elem'_eq, e]; exact wpS_pure h
/-- a state alike but for the gallop's measure -/
def Eqg (st st' : SortSt) : Prop := kindOf st' = kindOf st ∧ arrOf st' = arrOf st ∧ pendingOf st' = pendingOf st ∧ failedOf st' = failedOf st
theorem Eqg.refl (st : SortSt) : Eqg st st := ⟨rfl, rfl, rfl, rfl⟩
/-- merged so far: out; a from ia on and b from ib on are left -/
structure Mg (lt : Keyed → Keyed → Bool) (a b out : List Keyed) (ia ib : Nat) : Prop where
  srt : Srt lt out
  pm : (out ++ (a.drop ia ++ b.drop ib)).Perm (a ++ b)
  le : ∀ p ∈ out, ∀ q ∈ a.drop ia ++ b.drop ib, lt q p = false
theorem drop_cons {l : List Keyed} {i : Nat} {x : Keyed} (e : l[i]? = some x) : l.drop i = x :: l.drop (i + 1) := by
  obtain ⟨h, rfl⟩ := List.getElem?_eq_some_iff.mp e
  exact List.drop_eq_getElem_cons h
theorem srt_drop {l : List Keyed} (h : Srt lt l) (i : Nat) : Srt lt (l.drop i) := List.Pairwise.sublist (List.drop_sublist _ _) h
theorem srt_snoc {l : List Keyed} {x : Keyed} (h : Srt lt l) (hx : ∀ p ∈ l, lt x p = false) : Srt lt (l ++ [x]) := by
  refine List.pairwise_append.mpr ⟨h, List.pairwise_singleton _ _, fun p hp q hq => ?_⟩
  rw [List.mem_singleton.mp hq]; exact hx p hp
theorem Mg.takeA (C : Wo lt) {a b out : List Keyed} {ia ib : Nat} (g : Mg lt a b out ia ib) (sa : Srt lt a) (sb : Srt lt b) {x : Keyed} (e : a[ia]? = some x) (h : ∀ y, b[ib]? = some y → lt y x = false) : Mg lt a b (out ++ [x]) (ia + 1) ib := by
  have da := drop_cons e
  have xin : x ∈ a.drop ia ++ b.drop ib := by rw [da]; simp
  refine ⟨srt_snoc g.srt fun p hp => g.le p hp x xin, ?_, fun p hp q hq => ?_⟩
  · have := g.pm
    rw [da] at this
    simpa using this
  · rcases List.mem_append.mp hp with hp | hp
    · refine g.le p hp q ?_
      rw [da]
      rcases List.mem_append.mp hq with z | z
      · exact List.mem_append_left _ (List.mem_cons_of_mem _ z)
      · exact List.mem_append_right _ z
    · rw [List.mem_singleton.mp hp]
      rcases List.mem_append.mp hq with z | z
      · have := srt_drop sa ia
        rw [da] at this
        exact (List.pairwise_cons.mp this).1 q z
      · cases hb : b[ib]? with
        | none => rw [List.drop_eq_nil_of_le (List.getElem?_eq_none_iff.mp hb)] at z; cases z
        | some y =>
          have hy := h y hb
          have db := drop_cons hb
          rw [db] at z
          rcases List.mem_cons.mp z with rfl | z
          · exact hy
          · have sb' := srt_drop sb ib
            rw [db] at sb'
            exact C.leT hy ((List.pairwise_cons.mp sb').1 q z)
theorem Mg.takeB (C : Wo lt) {a b out : List Keyed} {ia ib : Nat} (g : Mg lt a b out ia ib) (sa : Srt lt a) (sb : Srt lt b) {x : Keyed} (e : b[ib]? = some x) (h : ∀ y, a[ia]? = some y → lt y x = false) : Mg lt a b (out ++ [x]) ia (ib + 1) := by
  have db := drop_cons e
  have xin : x ∈ a.drop ia ++ b.drop ib := by rw [db]; simp
  refine ⟨srt_snoc g.srt fun p hp => g.le p hp x xin, ?_, fun p hp q hq => ?_⟩
  · refine List.Perm.trans ?_ g.pm
    rw [db, List.append_assoc]
    refine List.Perm.append_left _ ?_
    exact (List.perm_middle (a := x) (l₁ := a.drop ia) (l₂ := b.drop (ib + 1))).symm
  · rcases List.mem_append.mp hp with hp | hp
    · refine g.le p hp q ?_
      rw [db]
      rcases List.mem_append.mp hq with z | z
      · exact List.mem_append_left _ z
      · exact List.mem_append_right _ (List.mem_cons_of_mem _ z)
    · rw [List.mem_singleton.mp hp]
      rcases List.mem_append.mp hq with z | z
      · cases ha : a[ia]? with
        | none => rw [List.drop_eq_nil_of_le (List.getElem?_eq_none_iff.mp ha)] at z; cases z
        | some y =>
          have hy := h y ha
          have da := drop_cons ha
          rw [da] at z
          rcases List.mem_cons.mp z with rfl | z
          · exact hy
          · have sa' := srt_drop sa ia
            rw [da] at sa'
            exact C.leT hy ((List.pairwise_cons.mp sa').1 q z)
      · have := srt_drop sb ib
        rw [db] at this
        exact (List.pairwise_cons.mp this).1 q z
theorem ext_snoc {l : List Keyed} {i k : Nat} {x : Keyed} (e : l[i + k]? = some x) : (l.drop i).take (k + 1) = (l.drop i).take k ++ [x] := by
  rw [List.take_add_one, List.getElem?_drop, e]; rfl
theorem Mg.takeAs (C : Wo lt) {a b : List Keyed} (sa : Srt lt a) (sb : Srt lt b) {ia ib : Nat} {out : List Keyed} (g : Mg lt a b out ia ib) : ∀ k, ia + k ≤ a.length → (∀ i, i < k → ∀ x y, a[ia + i]? = some x → b[ib]? = some y → lt y x = false) → Mg lt a b (out ++ (a.drop ia).take k) (ia + k) ib
  | 0, _, _ => by simpa using g
  | k + 1, hk, h => by
    have ih := Mg.takeAs C sa sb g k (by omega) fun i hi => h i (by omega)
    obtain ⟨x, hx⟩ : ∃ x, a[ia + k]? = some x := ⟨a[ia + k]'(by omega), List.getElem?_eq_getElem (by omega)⟩
    have := ih.takeA C sa sb hx fun y hy => h k (by omega) x y hx hy
    rw [ext_snoc hx, ← List.append_assoc]
    exact this
theorem Mg.takeBs (C : Wo lt) {a b : List Keyed} (sa : Srt lt a) (sb : Srt lt b) {ia ib : Nat} {out : List Keyed} (g : Mg lt a b out ia ib) : ∀ k, ib + k ≤ b.length → (∀ i, i < k → ∀ x y, b[ib + i]? = some x → a[ia]? = some y → lt y x = false) → Mg lt a b (out ++ (b.drop ib).take k) ia (ib + k)
  | 0, _, _ => by simpa using g
  | k + 1, hk, h => by
    have ih := Mg.takeBs C sa sb g k (by omega) fun i hi => h i (by omega)
    obtain ⟨x, hx⟩ : ∃ x, b[ib + k]? = some x := ⟨b[ib + k]'(by omega), List.getElem?_eq_getElem (by omega)⟩
    have := ih.takeB C sa sb hx fun y hy => h k (by omega) x y hx hy
    rw [ext_snoc hx, ← List.append_assoc]
    exact this
/-- what is to come of merging -/
def Mgd (lt : Keyed → Keyed → Bool) (a b r : List Keyed) : Prop := Srt lt r ∧ r.Perm (a ++ b)
theorem Mg.done {a b out : List Keyed} {ia ib : Nat} (g : Mg lt a b out ia ib) (sa : Srt lt a) (sb : Srt lt b) (h : a.length ≤ ia ∨ b.length ≤ ib) : Mgd lt a b (out ++ a.drop ia ++ b.drop ib) := by
  refine ⟨?_, by rw [List.append_assoc]; exact g.pm⟩
  rw [List.append_assoc]
  refine List.pairwise_append.mpr ⟨g.srt, ?_, fun p hp q hq => g.le p hp q hq⟩
  rcases h with h | h
  · rw [List.drop_eq_nil_of_le h, List.nil_append]; exact srt_drop sb ib
  · rw [List.drop_eq_nil_of_le h, List.append_nil]; exact srt_drop sa ia
theorem Mg.lastA {a b out : List Keyed} {ia ib : Nat} (g : Mg lt a b out ia ib) (sb : Srt lt b) (h : ia + 1 = a.length) (hl : ∀ x, a[ia]? = some x → ∀ y ∈ b, lt x y = false) : Mgd lt a b (out ++ b.drop ib ++ a.drop ia) := by
  obtain ⟨x, hx⟩ : ∃ x, a[ia]? = some x := ⟨a[ia]'(by omega), List.getElem?_eq_getElem (by omega)⟩
  have da : a.drop ia = [x] := by rw [drop_cons hx, List.drop_eq_nil_of_le (by omega)]
  refine ⟨?_, ?_⟩
  · rw [List.append_assoc, da]
    refine List.pairwise_append.mpr ⟨g.srt, srt_snoc (srt_drop sb ib) fun p hp => hl x hx p (List.mem_of_mem_drop hp), fun p hp q hq => g.le p hp q ?_⟩
    rw [da]
    rcases List.mem_append.mp hq with z | z
    · exact List.mem_append_right _ z
    · exact List.mem_append_left _ z
  · rw [List.append_assoc]
    exact (List.Perm.append_left _ List.perm_append_comm).trans g.pm
end
end L2

namespace L2
open PySem PySem.Spec PyProof.Rows
section
variable {prog : Program} {w : World} {A : Around} {E : Value → Shared → Prop} {s : Shared} {kd : SortKind} {D : Keyed → Prop} {lt : Keyed → Keyed → Bool}
theorem ext_to {l : Array Keyed} {i k : Nat} : (l.extract i (i + k)).toList = (l.toList.drop i).take k := by
  rw [Array.toList_extract, List.extract_eq_take_drop]; congr 1; omega
theorem ext_end {l : Array Keyed} {i : Nat} : (l.extract i).toList = l.toList.drop i := by
  rw [Array.toList_extract, List.extract_eq_take_drop]
  exact List.take_of_length_le (by simp)
theorem byd_right {key : Keyed} {arr : Array Keyed} {base i : Nat} {x : Keyed} (e : arr.toList[base + i]? = some x) : byd lt false key arr base i = !lt key x := by
  unfold byd; rw [← Array.getElem?_toList, e]; simp
theorem byd_left {key : Keyed} {arr : Array Keyed} {base i : Nat} {x : Keyed} (e : arr.toList[base + i]? = some x) : byd lt true key arr base i = lt x key := by
  unfold byd; rw [← Array.getElem?_toList, e]; simp
theorem byd_mono (C : Cmp prog w A E s kd D lt) {left : Bool} {key : Keyed} {arr : Array Keyed} {base n : Nat} (hs : Srt lt arr.toList) (hn : base + n ≤ arr.toList.length) :
    ∀ i j, i ≤ j → j < n → byd lt left key arr base j = true → byd lt left key arr base i = true := fun i j hij hj h => by
  have ei : arr.toList[base + i]? = some (arr.toList[base + i]'(by omega)) := List.getElem?_eq_getElem (by omega)
  have ej : arr.toList[base + j]? = some (arr.toList[base + j]'(by omega)) := List.getElem?_eq_getElem (by omega)
  have le := srt_get C.wo hs ei ej (by omega)
  cases left with
  | true =>
    rw [byd_left ej] at h
    rw [byd_left ei]
    rcases C.wo.neg _ (arr.toList[base + i]'(by omega)) _ h with z | z
    · rw [z] at le; cases le
    · exact z
  | false =>
    rw [byd_right ej] at h
    rw [byd_right ei]
    cases z : lt key (arr.toList[base + i]'(by omega)) with
    | false => rfl
    | true =>
      rcases C.wo.neg _ (arr.toList[base + j]'(by omega)) _ z with y | y
      · rw [y] at h; cases h
      · rw [y] at le; cases le
section
variable {β : Type} {st : SortSt} {Q : β → SortSt → Prop} {M : Model}
theorem wpS_if {c : Bool} {X Y : StateT SortSt Sem β} (h1 : c = true → wpS M A E s X Q st) (h2 : c = false → wpS M A E s Y Q st) : wpS M A E s (if c = true then X else Y) Q st := by
  cases c with
  | true => exact h1 rfl
  | false => exact h2 rfl
theorem wpS_gt {k n : Nat} {X Y : StateT SortSt Sem β} (h1 : k > n → wpS M A E s X Q st) (h2 : k ≤ n → wpS M A E s Y Q st) : wpS M A E s (if k > n then X else Y) Q st := by
  by_cases h : k > n
  · rw [if_pos h]; exact h1 h
  · rw [if_neg h]; exact h2 (by omega)
end
theorem beq_no {m n : Nat} (h : (m == n) = false) : m ≠ n := fun e => by rw [e] at h; simp at h
theorem mergeLo_ok (C : Cmp prog w A E s kd D lt) {a b : Array Keyed} {st : SortSt} {Q : Array Keyed → SortSt → Prop} (hda : ∀ x ∈ a.toList, D x) (hdb : ∀ x ∈ b.toList, D x) (sa : Srt lt a.toList) (sb : Srt lt b.toList) (hs : kindOf st = kd)
    (na : 0 < a.toList.length) (nb : 0 < b.toList.length) (hf : ∀ x y, a.toList[0]? = some x → b.toList[0]? = some y → lt x y = false) (hl : ∀ x, a.toList[a.toList.length - 1]? = some x → ∀ y ∈ b.toList, lt x y = false)
    (h : ∀ r st', Mgd lt a.toList b.toList r.toList → Eqg st st' → Q r st') : wpS (model prog w) A E s (mergeLo_ a b) Q st := by
  have za : a.size = a.toList.length := by simp
  have zb : b.size = b.toList.length := by simp
  have ea : ∀ i, i < a.toList.length → ∃ x, a[i]? = some x ∧ D x ∧ a.toList[i]? = some x := fun i hi => ⟨a.toList[i], by rw [← Array.getElem?_toList]; exact List.getElem?_eq_getElem hi, hda _ (List.getElem_mem hi), List.getElem?_eq_getElem hi⟩
  have eb : ∀ i, i < b.toList.length → ∃ x, b[i]? = some x ∧ D x ∧ b.toList[i]? = some x := fun i hi => ⟨b.toList[i], by rw [← Array.getElem?_toList]; exact List.getElem?_eq_getElem hi, hdb _ (List.getElem_mem hi), List.getElem?_eq_getElem hi⟩
  refine wpS_bind (wpS_lift (wpAny_rule ⟨rfl, ?_⟩))
  obtain ⟨b0, hb0, db0, lb0⟩ := eb 0 nb
  obtain ⟨a0, ha0, da0, la0⟩ := ea 0 na
  refine wpS_bind (el_ok hb0 ?_)
  have g0 : Mg lt a.toList b.toList [b0] 0 1 := by
    have g : Mg lt a.toList b.toList [] 0 0 := ⟨.nil, by simp, fun p hp => (by cases hp)⟩
    exact g.takeB C.wo sa sb lb0 fun y hy => hf y b0 hy lb0
  show wpS _ _ _ _ (if (1 == b.size) = true then _ else if (0 + 1 == a.size) = true then _ else _) _ _
  by_cases c1 : (1 == b.size) = true
  · rw [if_pos c1]
    refine wpS_pure (h _ st ?_ (Eqg.refl st))
    simp only [Array.toList_append, ext_end]
    exact g0.done sa sb (.inr (by rw [← zb, ← eq_of_beq c1]; exact Nat.le_refl _))
  rw [if_neg c1]
  by_cases c2 : (0 + 1 == a.size) = true
  · rw [if_pos c2]
    refine wpS_pure (h _ st ?_ (Eqg.refl st))
    simp only [Array.toList_append, ext_end]
    exact g0.lastA sb (by rw [← za]; exact eq_of_beq c2) fun x hx => hl x (by rw [← za, ← eq_of_beq c2]; exact hx)
  rw [if_neg c2]
  have n1 : 1 < b.toList.length := by
    rcases Nat.lt_or_ge 1 b.toList.length with z | z
    · exact z
    · exact absurd (by rw [zb, show b.toList.length = 1 by omega]; rfl) c1
  have n2 : 1 < a.toList.length := by
    rcases Nat.lt_or_ge 1 a.toList.length with z | z
    · exact z
    · exact absurd (by rw [za, show a.toList.length = 1 by omega]; rfl) c2
  refine wpS_bind (wpS_get ?_)
  refine wpS_bind (wpS_mono (wpS_forRange (I := fun x c st' => ∃ (out : Array Keyed) (ia ib mg : Nat), c = (none, out, ia, ib, mg) ∧ Mg lt a.toList b.toList out.toList ia ib ∧ ia + 1 < a.toList.length ∧ ib < b.toList.length ∧ x ≤ ia + ib ∧ Eqg st st')
    (Q := fun c st' => ∃ r, c.1 = some r ∧ Mgd lt a.toList b.toList r.toList ∧ Eqg st st') ?_ ?_ ⟨#[b0], 0, 1, _, rfl, g0, by omega, n1, by omega, Eqg.refl st⟩) ?_)
  · rintro x c st1 _ hx ⟨out, ia, ib, mg, rfl, g, l1, l2, l3, q1⟩
    refine wpS_bind (wpS_mono (wpS_forRange (I := fun y c st' => st' = st1 ∧ ∃ (out : Array Keyed) (ia ib ac bc : Nat), c = (none, out, ia, ib, ac, bc) ∧ Mg lt a.toList b.toList out.toList ia ib ∧ ia + 1 < a.toList.length ∧ ib < b.toList.length ∧ x + y ≤ ia + ib)
      (Q := fun c st' => st' = st1 ∧ ((∃ (out : Array Keyed) (ia ib ac bc : Nat), c = (none, out, ia, ib, ac, bc) ∧ Mg lt a.toList b.toList out.toList ia ib ∧ ia + 1 < a.toList.length ∧ ib < b.toList.length ∧ x + 1 ≤ ia + ib) ∨ ∃ r, c.1 = some r ∧ Mgd lt a.toList b.toList r.toList)) ?_ ?_ ⟨rfl, out, ia, ib, 0, 0, rfl, g, l1, l2, l3⟩) ?_)
    · rintro y c st' _ hy ⟨rfl, out, ia, ib, ac, bc, rfl, g, l1, l2, l3⟩
      obtain ⟨xb, hb, db, lb⟩ := eb ib l2
      obtain ⟨xa, ha, da, la⟩ := ea ia (by omega)
      refine wpS_bind (el_ok hb (wpS_bind (el_ok ha (wpS_bind (C.cmp xb xa _ _ db da (q1.1.trans hs) ?_)))))
      cases e : lt xb xa with
      | true =>
        refine wpS_bind (el_ok hb ?_)
        have g' := g.takeB C.wo sa sb lb fun y hy => by rw [la] at hy; cases hy; exact C.wo.asym _ _ e
        dsimp only
        by_cases c3 : (ib + 1 == b.size) = true
        · rw [if_pos c3]
          refine wpS_pure ⟨rfl, .inr ⟨_, rfl, ?_⟩⟩
          simp only [Array.toList_append, Array.toList_push, ext_end]
          exact g'.done sa sb (.inr (by rw [← zb, ← eq_of_beq c3]; exact Nat.le_refl _))
        · rw [if_neg c3]
          have c4 : ib + 1 < b.toList.length := by
            rcases Nat.lt_or_ge (ib + 1) b.toList.length with z | z
            · exact z
            · exact absurd (by rw [zb, show b.toList.length = ib + 1 by omega]; simp) c3
          split
          · exact wpS_pure ⟨rfl, .inl ⟨_, _, _, _, _, rfl, by rw [Array.toList_push]; exact g', l1, c4, by omega⟩⟩
          · exact wpS_pure ⟨rfl, _, _, _, _, _, rfl, by rw [Array.toList_push]; exact g', l1, c4, by omega⟩
      | false =>
        refine wpS_bind (el_ok ha ?_)
        have g' := g.takeA C.wo sa sb la fun y hy => by rw [lb] at hy; cases hy; exact e
        dsimp only
        by_cases c3 : (ia + 1 + 1 == a.size) = true
        · rw [if_pos c3]
          refine wpS_pure ⟨rfl, .inr ⟨_, rfl, ?_⟩⟩
          simp only [Array.toList_append, Array.toList_push, ext_end]
          have c5 : ia + 1 + 1 = a.toList.length := by rw [← za]; exact eq_of_beq c3
          exact g'.lastA sb c5 fun x hx => hl x (by rw [← c5]; exact hx)
        · rw [if_neg c3]
          have c4 : ia + 1 + 1 < a.toList.length := by
            rcases Nat.lt_or_ge (ia + 1 + 1) a.toList.length with z | z
            · exact z
            · exact absurd (by rw [za, show a.toList.length = ia + 1 + 1 by omega]; simp) c3
          split
          · exact wpS_pure ⟨rfl, .inl ⟨_, _, _, _, _, rfl, by rw [Array.toList_push]; exact g', c4, l2, by omega⟩⟩
          · exact wpS_pure ⟨rfl, _, _, _, _, _, rfl, by rw [Array.toList_push]; exact g', c4, l2, by omega⟩
    · rintro c st' ⟨rfl, out, ia, ib, ac, bc, rfl, g, l1, l2, l3⟩
      omega
    · rintro c st' ⟨rfl, ⟨out, ia, ib, ac, bc, rfl, g, l1, l2, l3⟩ | ⟨r, hr, hm⟩⟩
      · refine wpS_bind (wpS_lift (wpAny_rule ⟨rfl, ?_⟩))
        refine wpS_bind (wpS_mono (wpS_forRange (I := fun y c st' => Eqg st st' ∧ ∃ (out : Array Keyed) (ia ib mg ac bc : Nat), c = (none, out, ia, ib, mg, ac, bc) ∧ Mg lt a.toList b.toList out.toList ia ib ∧ ia + 1 < a.toList.length ∧ ib < b.toList.length ∧ x + 1 + y ≤ ia + ib)
          (Q := fun c st' => Eqg st st' ∧ ((∃ (out : Array Keyed) (ia ib mg ac bc : Nat), c = (none, out, ia, ib, mg, ac, bc) ∧ Mg lt a.toList b.toList out.toList ia ib ∧ ia + 1 < a.toList.length ∧ ib < b.toList.length ∧ x + 1 ≤ ia + ib) ∨ ∃ r, c.1 = some r ∧ Mgd lt a.toList b.toList r.toList)) ?_ ?_ ⟨q1, out, ia, ib, _, ac, bc, rfl, g, l1, l2, l3⟩) ?_)
        · rintro y c st2 _ hy ⟨q2, out, ia, ib, mg, ac, bc, rfl, g, l1, l2, l3⟩
          obtain ⟨xb, hb, db, lb⟩ := eb ib l2
          refine wpS_gt (k := mg) (n := 1) (fun _ => ?_) (fun _ => ?_)
          all_goals (
            refine wpS_bind (wpS_modify ?_)
            refine wpS_bind (el_ok hb ?_)
            refine wpS_bind (gallop_ok (base := ia) (n := a.size - ia) (hint := 0) C db (fun i hi => let ⟨x, h1, h2, _⟩ := ea (ia + i) (by omega); ⟨x, h1, h2⟩) (by omega) (q2.1.trans hs) (byd_mono C sa (by omega)) fun k hk k1 k2 => ?_)
            have f1 : ∀ i, i < k → ∀ x y, a.toList[ia + i]? = some x → b.toList[ib]? = some y → lt y x = false := fun i hi x y hx hy => by
              have := k1 i hi
              rw [byd_right hx] at this
              rw [lb] at hy
              cases hy
              simpa using this
            have gk := g.takeAs C.wo sa sb k (by omega) f1
            have m3 : ∀ x, a.toList[ia + k]? = some x → lt xb x = true := fun x hx => by
              have := k2 k (Nat.le_refl _) (by have := (List.getElem?_eq_some_iff.mp hx).1; omega)
              rw [byd_right hx] at this
              simpa using this
            refine wpS_gt (k := k) (n := 0) (fun k0 => ?_) (fun k0 => ?_)
            · refine wpS_if (c := (ia + k + 1 == a.size)) (fun c3 => ?_) (fun c3 => wpS_if (c := (ia + k == a.size)) (fun c4 => ?_) (fun c4 => ?_))
              · refine wpS_pure ⟨q2, .inr ⟨_, rfl, ?_⟩⟩
                have c3' : ia + k + 1 = a.toList.length := by rw [← za]; exact eq_of_beq c3
                have := gk.lastA sb c3' fun x hx => hl x (by rw [← c3']; exact hx)
                simp only [Array.toList_append, Array.toList_push, ext_end, ext_to] at this ⊢
                exact this
              · refine wpS_pure ⟨q2, .inr ⟨_, rfl, ?_⟩⟩
                have := gk.done sa sb (.inl (by rw [← za, ← eq_of_beq c4]; exact Nat.le_refl _))
                simp only [Array.toList_append, Array.toList_push, ext_end, ext_to] at this ⊢
                exact this
              · have c3' := beq_no c3
                have c4' := beq_no c4
                have m4' := m3
                have g1 : Mg lt a.toList b.toList (out ++ a.extract ia (ia + k)).toList (ia + k) ib := by
                  simp only [Array.toList_append, Array.toList_push, ext_end, ext_to] at gk ⊢
                  exact gk
                refine wpS_bind (el_ok hb ?_)
                have g2 := g1.takeB C.wo sa sb lb fun y hy => C.wo.asym _ _ (m4' y hy)
                refine wpS_if (c := (ib + 1 == b.size)) (fun c5 => ?_) (fun c5 => ?_)
                · refine wpS_pure ⟨q2, .inr ⟨_, rfl, ?_⟩⟩
                  have := g2.done sa sb (.inr (by rw [← zb, ← eq_of_beq c5]; exact Nat.le_refl _))
                  simp only [Array.toList_append, Array.toList_push, ext_end, ext_to] at this ⊢
                  exact this
                · have c6 := beq_no c5
                  obtain ⟨xa, ha, da, la⟩ := ea (ia + k) (by omega)
                  refine wpS_bind (el_ok ha ?_)
                  refine wpS_bind (gallop_ok (left := true) (base := ib + 1) (n := b.size - (ib + 1)) (hint := 0) C da (fun i hi => let ⟨x, h1, h2, _⟩ := eb (ib + 1 + i) (by omega); ⟨x, h1, h2⟩) (by omega) (q2.1.trans hs) (byd_mono C sb (by omega)) fun k' hk' k1' k2' => ?_)
                  have f2 : ∀ i, i < k' → ∀ x y, b.toList[ib + 1 + i]? = some x → a.toList[ia + k]? = some y → lt y x = false := fun i hi x y hx hy => by
                    have := k1' i hi
                    rw [byd_left hx] at this
                    rw [la] at hy
                    cases hy
                    exact C.wo.asym _ _ this
                  have gk' := g2.takeBs C.wo sa sb k' (by omega) f2
                  have m5 : ∀ y, b.toList[ib + 1 + k']? = some y → lt y xa = false := fun y hy => by
                    have := k2' k' (Nat.le_refl _) (by have := (List.getElem?_eq_some_iff.mp hy).1; omega)
                    rw [byd_left hy] at this
                    exact this
                  refine wpS_gt (k := k') (n := 0) (fun k0' => ?_) (fun k0' => ?_)
                  · refine wpS_if (c := (ib + 1 + k' == b.size)) (fun c9 => ?_) (fun c9 => ?_)
                    · refine wpS_pure ⟨q2, .inr ⟨_, rfl, ?_⟩⟩
                      have := gk'.done sa sb (.inr (by rw [← zb, ← eq_of_beq c9]; exact Nat.le_refl _))
                      simp only [Array.toList_append, Array.toList_push, ext_end, ext_to] at this ⊢
                      exact this
                    · have c9' := beq_no c9
                      have m4 := m5
                      have g3 : Mg lt a.toList b.toList (((out ++ a.extract ia (ia + k)).push xb) ++ b.extract (ib + 1) (ib + 1 + k')).toList (ia + k) (ib + 1 + k') := by
                        simp only [Array.toList_append, Array.toList_push, ext_end, ext_to] at gk' ⊢
                        exact gk'
                      refine wpS_bind (el_ok ha ?_)
                      have g4 := g3.takeA C.wo sa sb la m4
                      refine wpS_if (c := ((ia + k) + 1 + 1 == a.size)) (fun c7 => ?_) (fun c7 => ?_)
                      · refine wpS_pure ⟨q2, .inr ⟨_, rfl, ?_⟩⟩
                        have c8 : (ia + k) + 1 + 1 = a.toList.length := by rw [← za]; exact eq_of_beq c7
                        have := g4.lastA sb c8 fun x hx => hl x (by rw [← c8]; exact hx)
                        simp only [Array.toList_append, Array.toList_push, ext_end, ext_to] at this ⊢
                        exact this
                      · have c8 := beq_no c7
                        refine wpS_if (fun _ => ?_) (fun _ => ?_)
                        · exact wpS_pure ⟨q2, .inl ⟨(((out ++ a.extract ia (ia + k)).push xb) ++ b.extract (ib + 1) (ib + 1 + k')).push xa, (ia + k) + 1, (ib + 1 + k'), _, _, _, rfl, by rw [Array.toList_push]; exact g4, by omega, by omega, by omega⟩⟩
                        · exact wpS_pure ⟨q2, (((out ++ a.extract ia (ia + k)).push xb) ++ b.extract (ib + 1) (ib + 1 + k')).push xa, (ia + k) + 1, (ib + 1 + k'), _, _, _, rfl, by rw [Array.toList_push]; exact g4, by omega, by omega, by omega⟩

                  · obtain rfl : k' = 0 := by omega
                    have m4 := m5
                    have g3 : Mg lt a.toList b.toList ((out ++ a.extract ia (ia + k)).push xb).toList (ia + k) (ib + 1) := by
                      rw [Array.toList_push]
                      exact g2
                    refine wpS_bind (el_ok ha ?_)
                    have g4 := g3.takeA C.wo sa sb la m4
                    refine wpS_if (c := ((ia + k) + 1 + 1 == a.size)) (fun c7 => ?_) (fun c7 => ?_)
                    · refine wpS_pure ⟨q2, .inr ⟨_, rfl, ?_⟩⟩
                      have c8 : (ia + k) + 1 + 1 = a.toList.length := by rw [← za]; exact eq_of_beq c7
                      have := g4.lastA sb c8 fun x hx => hl x (by rw [← c8]; exact hx)
                      simp only [Array.toList_append, Array.toList_push, ext_end, ext_to] at this ⊢
                      exact this
                    · have c8 := beq_no c7
                      refine wpS_if (fun _ => ?_) (fun _ => ?_)
                      · exact wpS_pure ⟨q2, .inl ⟨((out ++ a.extract ia (ia + k)).push xb).push xa, (ia + k) + 1, (ib + 1), _, _, _, rfl, by rw [Array.toList_push]; exact g4, by omega, by omega, by omega⟩⟩
                      · exact wpS_pure ⟨q2, ((out ++ a.extract ia (ia + k)).push xb).push xa, (ia + k) + 1, (ib + 1), _, _, _, rfl, by rw [Array.toList_push]; exact g4, by omega, by omega, by omega⟩


            · obtain rfl : k = 0 := by omega
              have m4' := m3
              have g1 := g
              refine wpS_bind (el_ok hb ?_)
              have g2 := g1.takeB C.wo sa sb lb fun y hy => C.wo.asym _ _ (m4' y hy)
              refine wpS_if (c := (ib + 1 == b.size)) (fun c5 => ?_) (fun c5 => ?_)
              · refine wpS_pure ⟨q2, .inr ⟨_, rfl, ?_⟩⟩
                have := g2.done sa sb (.inr (by rw [← zb, ← eq_of_beq c5]; exact Nat.le_refl _))
                simp only [Array.toList_append, Array.toList_push, ext_end, ext_to] at this ⊢
                exact this
              · have c6 := beq_no c5
                obtain ⟨xa, ha, da, la⟩ := ea (ia) (by omega)
                refine wpS_bind (el_ok ha ?_)
                refine wpS_bind (gallop_ok (left := true) (base := ib + 1) (n := b.size - (ib + 1)) (hint := 0) C da (fun i hi => let ⟨x, h1, h2, _⟩ := eb (ib + 1 + i) (by omega); ⟨x, h1, h2⟩) (by omega) (q2.1.trans hs) (byd_mono C sb (by omega)) fun k' hk' k1' k2' => ?_)
                have f2 : ∀ i, i < k' → ∀ x y, b.toList[ib + 1 + i]? = some x → a.toList[ia]? = some y → lt y x = false := fun i hi x y hx hy => by
                  have := k1' i hi
                  rw [byd_left hx] at this
                  rw [la] at hy
                  cases hy
                  exact C.wo.asym _ _ this
                have gk' := g2.takeBs C.wo sa sb k' (by omega) f2
                have m5 : ∀ y, b.toList[ib + 1 + k']? = some y → lt y xa = false := fun y hy => by
                  have := k2' k' (Nat.le_refl _) (by have := (List.getElem?_eq_some_iff.mp hy).1; omega)
                  rw [byd_left hy] at this
                  exact this
                refine wpS_gt (k := k') (n := 0) (fun k0' => ?_) (fun k0' => ?_)
                · refine wpS_if (c := (ib + 1 + k' == b.size)) (fun c9 => ?_) (fun c9 => ?_)
                  · refine wpS_pure ⟨q2, .inr ⟨_, rfl, ?_⟩⟩
                    have := gk'.done sa sb (.inr (by rw [← zb, ← eq_of_beq c9]; exact Nat.le_refl _))
                    simp only [Array.toList_append, Array.toList_push, ext_end, ext_to] at this ⊢
                    exact this
                  · have c9' := beq_no c9
                    have m4 := m5
                    have g3 : Mg lt a.toList b.toList ((out.push xb) ++ b.extract (ib + 1) (ib + 1 + k')).toList (ia) (ib + 1 + k') := by
                      simp only [Array.toList_append, Array.toList_push, ext_end, ext_to] at gk' ⊢
                      exact gk'
                    refine wpS_bind (el_ok ha ?_)
                    have g4 := g3.takeA C.wo sa sb la m4
                    refine wpS_if (c := ((ia) + 1 + 1 == a.size)) (fun c7 => ?_) (fun c7 => ?_)
                    · refine wpS_pure ⟨q2, .inr ⟨_, rfl, ?_⟩⟩
                      have c8 : (ia) + 1 + 1 = a.toList.length := by rw [← za]; exact eq_of_beq c7
                      have := g4.lastA sb c8 fun x hx => hl x (by rw [← c8]; exact hx)
                      simp only [Array.toList_append, Array.toList_push, ext_end, ext_to] at this ⊢
                      exact this
                    · have c8 := beq_no c7
                      refine wpS_if (fun _ => ?_) (fun _ => ?_)
                      · exact wpS_pure ⟨q2, .inl ⟨((out.push xb) ++ b.extract (ib + 1) (ib + 1 + k')).push xa, (ia) + 1, (ib + 1 + k'), _, _, _, rfl, by rw [Array.toList_push]; exact g4, by omega, by omega, by omega⟩⟩
                      · exact wpS_pure ⟨q2, ((out.push xb) ++ b.extract (ib + 1) (ib + 1 + k')).push xa, (ia) + 1, (ib + 1 + k'), _, _, _, rfl, by rw [Array.toList_push]; exact g4, by omega, by omega, by omega⟩

                · obtain rfl : k' = 0 := by omega
                  have m4 := m5
                  have g3 : Mg lt a.toList b.toList (out.push xb).toList (ia) (ib + 1) := by
                    rw [Array.toList_push]
                    exact g2
                  refine wpS_bind (el_ok ha ?_)
                  have g4 := g3.takeA C.wo sa sb la m4
                  refine wpS_if (c := ((ia) + 1 + 1 == a.size)) (fun c7 => ?_) (fun c7 => ?_)
                  · refine wpS_pure ⟨q2, .inr ⟨_, rfl, ?_⟩⟩
                    have c8 : (ia) + 1 + 1 = a.toList.length := by rw [← za]; exact eq_of_beq c7
                    have := g4.lastA sb c8 fun x hx => hl x (by rw [← c8]; exact hx)
                    simp only [Array.toList_append, Array.toList_push, ext_end, ext_to] at this ⊢
                    exact this
                  · have c8 := beq_no c7
                    refine wpS_if (fun _ => ?_) (fun _ => ?_)
                    · exact wpS_pure ⟨q2, .inl ⟨(out.push xb).push xa, (ia) + 1, (ib + 1), _, _, _, rfl, by rw [Array.toList_push]; exact g4, by omega, by omega, by omega⟩⟩
                    · exact wpS_pure ⟨q2, (out.push xb).push xa, (ia) + 1, (ib + 1), _, _, _, rfl, by rw [Array.toList_push]; exact g4, by omega, by omega, by omega⟩)
        · rintro c st' ⟨q2, out, ia, ib, mg, ac, bc, rfl, g, l1, l2, l3⟩
          omega
        · rintro c st' ⟨q2, ⟨out, ia, ib, mg, ac, bc, rfl, g, l1, l2, l3⟩ | ⟨r, hr, hm⟩⟩
          · exact wpS_bind (wpS_modify (wpS_pure ⟨_, _, _, _, rfl, g, l1, l2, l3, q2⟩))
          · obtain ⟨c1, c2⟩ := c
            dsimp only at hr
            subst hr
            exact wpS_pure ⟨r, rfl, hm, q2⟩
      · obtain ⟨c1, c2⟩ := c
        dsimp only at hr
        subst hr
        exact wpS_pure ⟨r, rfl, hm, q1⟩
  · rintro c st' ⟨out, ia, ib, mg, rfl, g, l1, l2, l3, q1⟩
    omega
  · rintro c st' ⟨r, hr, hm, q1⟩
    obtain ⟨c1, c2⟩ := c
    dsimp only at hr
    subst hr
    exact wpS_pure (h r st' hm q1)
end
end L2

namespace L2
open PySem PySem.Spec PyProof.Rows
section
variable {prog : Program} {w : World} {A : Around} {E : Value → Shared → Prop} {s : Shared} {kd : SortKind} {D : Keyed → Prop} {lt : Keyed → Keyed → Bool}
theorem rev_at {l : List Keyed} {n : Nat} (h0 : 0 < n) (h : n ≤ l.length) : l.reverse[l.length - n]? = l[n - 1]? := by
  rw [List.getElem?_reverse (by omega)]; congr 1; omega
theorem rev_drop {l : List Keyed} {n : Nat} (h : n ≤ l.length) : l.reverse.drop (l.length - n) = (l.take n).reverse := by
  rw [List.drop_reverse]; congr 2; omega
theorem rev_take {l : List Keyed} {n m : Nat} (h : n ≤ l.length) (hm : m ≤ n) : (l.reverse.drop (l.length - n)).take (n - m) = ((l.drop m).take (n - m)).reverse := by
  rw [rev_drop h, List.take_reverse, List.length_take, Nat.min_eq_left h, List.drop_take]
  congr 2
  · omega
  · congr 1; omega
theorem mgd_rev {a b r : List Keyed} (h : Mgd (fun x y => lt y x) b.reverse a.reverse r) : Mgd lt a b r.reverse := by
  refine ⟨List.pairwise_reverse.mpr h.1, ?_⟩
  refine (List.reverse_perm r).trans (h.2.trans ?_)
  refine ((List.reverse_perm b).append (List.reverse_perm a)).trans ?_
  exact List.perm_append_comm
/-- merged so far, from the end: na of a and nb of b are left -/
def Mh (lt : Keyed → Keyed → Bool) (a b : List Keyed) (out : List Keyed) (na nb : Nat) : Prop := Mg (fun x y => lt y x) b.reverse a.reverse out (b.length - nb) (a.length - na)
theorem Mh.done {a b out : List Keyed} {na nb : Nat} (g : Mh lt a b out na nb) (sa : Srt lt a) (sb : Srt lt b) (ha : na ≤ a.length) (hb : nb ≤ b.length) (h : na = 0 ∨ nb = 0) : Mgd lt a b (a.take na ++ b.take nb ++ out.reverse) := by
  have := mgd_rev (Mg.done (lt := fun x y => lt y x) g (List.pairwise_reverse.mpr sb) (List.pairwise_reverse.mpr sa) (by rw [List.length_reverse, List.length_reverse]; omega))
  rw [rev_drop ha, rev_drop hb] at this
  simpa using this
theorem Mh.firstB {a b out : List Keyed} {na nb : Nat} (g : Mh lt a b out na nb) (sa : Srt lt a) (ha : na ≤ a.length) (hb : nb ≤ b.length) (h : nb = 1) (hf : ∀ x, b[0]? = some x → ∀ y ∈ a, lt y x = false) : Mgd lt a b (b.take nb ++ a.take na ++ out.reverse) := by
  have := mgd_rev (Mg.lastA (lt := fun x y => lt y x) g (List.pairwise_reverse.mpr sa) (by rw [List.length_reverse]; omega) fun x hx y hy => by
    rw [rev_at (by omega) hb, h] at hx
    exact hf x hx y (by simpa using hy))
  rw [rev_drop ha, rev_drop hb] at this
  simpa using this
theorem Mh.takeA (C : Wo lt) {a b out : List Keyed} {na nb : Nat} (g : Mh lt a b out na nb) (sa : Srt lt a) (sb : Srt lt b) (h0 : 0 < na) (ha : na ≤ a.length) (hb : nb ≤ b.length) {x : Keyed} (e : a[na - 1]? = some x) (h : 0 < nb → ∀ y, b[nb - 1]? = some y → lt x y = false) : Mh lt a b (out ++ [x]) (na - 1) nb := by
  have := Mg.takeB (lt := fun x y => lt y x) C.flip g (List.pairwise_reverse.mpr sb) (List.pairwise_reverse.mpr sa) (x := x) (by rw [rev_at h0 ha]; exact e) fun y hy => by
    have hp : 0 < nb := by
      have := (List.getElem?_eq_some_iff.mp hy).1
      rw [List.length_reverse] at this
      omega
    rw [rev_at hp hb] at hy
    exact h hp y hy
  unfold Mh
  rw [show a.length - (na - 1) = a.length - na + 1 by omega]
  exact this
theorem Mh.takeB (C : Wo lt) {a b out : List Keyed} {na nb : Nat} (g : Mh lt a b out na nb) (sa : Srt lt a) (sb : Srt lt b) (h0 : 0 < nb) (ha : na ≤ a.length) (hb : nb ≤ b.length) {x : Keyed} (e : b[nb - 1]? = some x) (h : 0 < na → ∀ y, a[na - 1]? = some y → lt x y = false) : Mh lt a b (out ++ [x]) na (nb - 1) := by
  have := Mg.takeA (lt := fun x y => lt y x) C.flip g (List.pairwise_reverse.mpr sb) (List.pairwise_reverse.mpr sa) (x := x) (by rw [rev_at h0 hb]; exact e) fun y hy => by
    have hp : 0 < na := by
      have := (List.getElem?_eq_some_iff.mp hy).1
      rw [List.length_reverse] at this
      omega
    rw [rev_at hp ha] at hy
    exact h hp y hy
  unfold Mh
  rw [show b.length - (nb - 1) = b.length - nb + 1 by omega]
  exact this
theorem Mh.takeAs (C : Wo lt) {a b out : List Keyed} {na nb : Nat} (g : Mh lt a b out na nb) (sa : Srt lt a) (sb : Srt lt b) (ha : na ≤ a.length) (hb : nb ≤ b.length) {m : Nat} (hm : m ≤ na) (h : ∀ i, m ≤ i → i < na → ∀ x y, a[i]? = some x → b[nb - 1]? = some y → lt x y = false) : Mh lt a b (out ++ ((a.drop m).take (na - m)).reverse) m nb := by
  have := Mg.takeBs (lt := fun x y => lt y x) C.flip (List.pairwise_reverse.mpr sb) (List.pairwise_reverse.mpr sa) g (na - m) (by rw [List.length_reverse]; omega) fun i hi x y hx hy => by
    have hp : 0 < nb := by
      have := (List.getElem?_eq_some_iff.mp hy).1
      rw [List.length_reverse] at this
      omega
    rw [rev_at hp hb] at hy
    rw [show a.length - na + i = a.length - (na - i) by omega, rev_at (by omega) (by omega)] at hx
    exact h (na - i - 1) (by omega) (by omega) x y hx hy
  unfold Mh
  rw [rev_take ha hm] at this
  rw [show a.length - m = a.length - na + (na - m) by omega]
  exact this
theorem Mh.takeBs (C : Wo lt) {a b out : List Keyed} {na nb : Nat} (g : Mh lt a b out na nb) (sa : Srt lt a) (sb : Srt lt b) (ha : na ≤ a.length) (hb : nb ≤ b.length) {m : Nat} (hm : m ≤ nb) (h : ∀ i, m ≤ i → i < nb → ∀ x y, b[i]? = some x → a[na - 1]? = some y → lt x y = false) : Mh lt a b (out ++ ((b.drop m).take (nb - m)).reverse) na m := by
  have := Mg.takeAs (lt := fun x y => lt y x) C.flip (List.pairwise_reverse.mpr sb) (List.pairwise_reverse.mpr sa) g (nb - m) (by rw [List.length_reverse]; omega) fun i hi x y hx hy => by
    have hp : 0 < na := by
      have := (List.getElem?_eq_some_iff.mp hy).1
      rw [List.length_reverse] at this
      omega
    rw [rev_at hp ha] at hy
    rw [show b.length - nb + i = b.length - (nb - i) by omega, rev_at (by omega) (by omega)] at hx
    exact h (nb - i - 1) (by omega) (by omega) x y hx hy
  unfold Mh
  rw [rev_take hb hm] at this
  rw [show b.length - m = b.length - nb + (nb - m) by omega]
  exact this
theorem ext_fromto {l : Array Keyed} {m n : Nat} : (l.extract m n).toList = (l.toList.drop m).take (n - m) := by
  rw [Array.toList_extract, List.extract_eq_take_drop]
theorem ext_0 {l : Array Keyed} {n : Nat} : (l.extract 0 n).toList = l.toList.take n := by
  rw [Array.toList_extract, List.extract_eq_take_drop]; simp
theorem mergeHi_ok (C : Cmp prog w A E s kd D lt) {a b : Array Keyed} {st : SortSt} {Q : Array Keyed → SortSt → Prop} (hda : ∀ x ∈ a.toList, D x) (hdb : ∀ x ∈ b.toList, D x) (sa : Srt lt a.toList) (sb : Srt lt b.toList) (hs : kindOf st = kd)
    (na0 : 0 < a.toList.length) (nb0 : 0 < b.toList.length) (hf : ∀ x y, a.toList[0]? = some x → b.toList[0]? = some y → lt x y = false) (hl : ∀ x, a.toList[a.toList.length - 1]? = some x → ∀ y ∈ b.toList, lt x y = false)
    (h : ∀ r st', Mgd lt a.toList b.toList r.toList → Eqg st st' → Q r st') : wpS (model prog w) A E s (mergeHi_ a b) Q st := by
  have za : a.size = a.toList.length := by simp
  have zb : b.size = b.toList.length := by simp
  have ea : ∀ i, i < a.toList.length → ∃ x, a[i]? = some x ∧ D x ∧ a.toList[i]? = some x := fun i hi => ⟨a.toList[i], by rw [← Array.getElem?_toList]; exact List.getElem?_eq_getElem hi, hda _ (List.getElem_mem hi), List.getElem?_eq_getElem hi⟩
  have eb : ∀ i, i < b.toList.length → ∃ x, b[i]? = some x ∧ D x ∧ b.toList[i]? = some x := fun i hi => ⟨b.toList[i], by rw [← Array.getElem?_toList]; exact List.getElem?_eq_getElem hi, hdb _ (List.getElem_mem hi), List.getElem?_eq_getElem hi⟩
  have hfb : ∀ x, b.toList[0]? = some x → ∀ y ∈ a.toList, lt y x = false := fun x hx y hy => by
    obtain ⟨i, hi, rfl⟩ := List.getElem_of_mem hy
    obtain ⟨a0, _, _, la0⟩ := ea 0 na0
    exact C.wo.leT (hf a0 x la0 hx) (srt_get C.wo sa la0 (List.getElem?_eq_getElem hi) (Nat.zero_le _))
  refine wpS_bind (wpS_lift (wpAny_rule ⟨rfl, ?_⟩))
  obtain ⟨x0, hx0, dx0, lx0⟩ := ea (a.size - 1) (by omega)
  refine wpS_bind (el_ok hx0 ?_)
  have g0 : Mh lt a.toList b.toList [x0] (a.size - 1) b.size := by
    have g : Mh lt a.toList b.toList [] a.toList.length b.toList.length := ⟨.nil, by
      simp only [Nat.sub_self, List.drop_zero, List.nil_append]
      exact List.Perm.refl _, fun p hp => (by cases hp)⟩
    have := g.takeA C.wo sa sb na0 (Nat.le_refl _) (Nat.le_refl _) (by rw [← za]; exact lx0) fun _ y hy => hl x0 (by rw [← za]; exact lx0) y (List.mem_of_getElem? hy)
    rw [za, zb]
    exact this
  show wpS _ _ _ _ (if (a.size - 1 == 0) = true then _ else if (b.size == 1) = true then _ else _) _ _
  refine wpS_if (fun c1 => ?_) (fun c1 => wpS_if (fun c2 => ?_) (fun c2 => ?_))
  · refine wpS_pure (h _ st ?_ (Eqg.refl st))
    have := g0.done sa sb (by omega) (by omega) (.inl (eq_of_beq c1))
    simp only [Array.toList_append, Array.toList_reverse, ext_0] at this ⊢
    exact this
  · refine wpS_pure (h _ st ?_ (Eqg.refl st))
    have := g0.firstB sa (by omega) (by omega) (eq_of_beq c2) hfb
    simp only [Array.toList_append, Array.toList_reverse, ext_0] at this ⊢
    exact this
  have c1' := beq_no c1
  have c2' := beq_no c2
  refine wpS_bind (wpS_get ?_)
  refine wpS_bind (wpS_mono (wpS_forRange (I := fun x c st' => ∃ (out : Array Keyed) (na nb mg : Nat), c = (none, na, nb, out, mg) ∧ Mh lt a.toList b.toList out.toList na nb ∧ 0 < na ∧ na ≤ a.toList.length ∧ 1 < nb ∧ nb ≤ b.toList.length ∧ x + na + nb ≤ a.size + b.size ∧ Eqg st st')
    (Q := fun c st' => ∃ r, c.1 = some r ∧ Mgd lt a.toList b.toList r.toList ∧ Eqg st st') ?_ ?_ ⟨#[x0], a.size - 1, b.size, _, rfl, g0, by omega, by omega, by omega, by omega, by omega, Eqg.refl st⟩) ?_)
  · rintro x c st1 _ hx ⟨out, na, nb, mg, rfl, g, l1, l1', l2, l2', l3, q1⟩
    refine wpS_bind (wpS_mono (wpS_forRange (I := fun y c st' => st' = st1 ∧ ∃ (out : Array Keyed) (na nb ac bc : Nat), c = (none, na, nb, out, ac, bc) ∧ Mh lt a.toList b.toList out.toList na nb ∧ 0 < na ∧ na ≤ a.toList.length ∧ 1 < nb ∧ nb ≤ b.toList.length ∧ x + y + na + nb ≤ a.size + b.size)
      (Q := fun c st' => st' = st1 ∧ ((∃ (out : Array Keyed) (na nb ac bc : Nat), c = (none, na, nb, out, ac, bc) ∧ Mh lt a.toList b.toList out.toList na nb ∧ 0 < na ∧ na ≤ a.toList.length ∧ 1 < nb ∧ nb ≤ b.toList.length ∧ x + 1 + na + nb ≤ a.size + b.size) ∨ ∃ r, c.1 = some r ∧ Mgd lt a.toList b.toList r.toList)) ?_ ?_ ⟨rfl, out, na, nb, 0, 0, rfl, g, l1, l1', l2, l2', l3⟩) ?_)
    · rintro y c st' _ hy ⟨rfl, out, na, nb, ac, bc, rfl, g, l1, l1', l2, l2', l3⟩
      obtain ⟨xb, hb, db, lb⟩ := eb (nb - 1) (by omega)
      obtain ⟨xa, ha, da, la⟩ := ea (na - 1) (by omega)
      refine wpS_bind (el_ok hb (wpS_bind (el_ok ha (wpS_bind (C.cmp xb xa _ _ db da (q1.1.trans hs) ?_)))))
      cases e : lt xb xa with
      | true =>
        refine wpS_bind (el_ok ha ?_)
        have g' := g.takeA C.wo sa sb l1 l1' l2' la fun _ y hy => by rw [lb] at hy; cases hy; exact C.wo.asym _ _ e
        refine wpS_if (c := (na - 1 == 0)) (fun c3 => ?_) (fun c3 => ?_)
        · refine wpS_pure ⟨rfl, .inr ⟨_, rfl, ?_⟩⟩
          have := g'.done sa sb (by omega) l2' (.inl (eq_of_beq c3))
          simp only [Array.toList_append, Array.toList_push, Array.toList_reverse, ext_0, ext_fromto] at this ⊢
          exact this
        · have c4 := beq_no c3
          dsimp only
          split
          · exact wpS_pure ⟨rfl, .inl ⟨out.push xa, na - 1, nb, _, _, rfl, by rw [Array.toList_push]; exact g', by omega, by omega, l2, l2', by omega⟩⟩
          · exact wpS_pure ⟨rfl, out.push xa, na - 1, nb, _, _, rfl, by rw [Array.toList_push]; exact g', by omega, by omega, l2, l2', by omega⟩
      | false =>
        refine wpS_bind (el_ok hb ?_)
        have g' := g.takeB C.wo sa sb (by omega) l1' l2' lb fun _ y hy => by rw [la] at hy; cases hy; exact e
        refine wpS_if (c := (nb - 1 == 1)) (fun c3 => ?_) (fun c3 => ?_)
        · refine wpS_pure ⟨rfl, .inr ⟨_, rfl, ?_⟩⟩
          have := g'.firstB sa l1' (by omega) (eq_of_beq c3) hfb
          simp only [Array.toList_append, Array.toList_push, Array.toList_reverse, ext_0, ext_fromto] at this ⊢
          exact this
        · have c4 := beq_no c3
          dsimp only
          split
          · exact wpS_pure ⟨rfl, .inl ⟨out.push xb, na, nb - 1, _, _, rfl, by rw [Array.toList_push]; exact g', l1, l1', by omega, by omega, by omega⟩⟩
          · exact wpS_pure ⟨rfl, out.push xb, na, nb - 1, _, _, rfl, by rw [Array.toList_push]; exact g', l1, l1', by omega, by omega, by omega⟩
    · rintro c st' ⟨rfl, out, na, nb, ac, bc, rfl, g, l1, l1', l2, l2', l3⟩
      omega
    · rintro c st' ⟨rfl, ⟨out, na, nb, ac, bc, rfl, g, l1, l1', l2, l2', l3⟩ | ⟨r, hr, hm⟩⟩
      · refine wpS_bind (wpS_lift (wpAny_rule ⟨rfl, ?_⟩))
        refine wpS_bind (wpS_mono (wpS_forRange (I := fun y c st' => Eqg st st' ∧ ∃ (out : Array Keyed) (na nb mg ac bc : Nat), c = (none, na, nb, out, mg, ac, bc) ∧ Mh lt a.toList b.toList out.toList na nb ∧ 0 < na ∧ na ≤ a.toList.length ∧ 1 < nb ∧ nb ≤ b.toList.length ∧ x + 1 + y + na + nb ≤ a.size + b.size)
          (Q := fun c st' => Eqg st st' ∧ ((∃ (out : Array Keyed) (na nb mg ac bc : Nat), c = (none, na, nb, out, mg, ac, bc) ∧ Mh lt a.toList b.toList out.toList na nb ∧ 0 < na ∧ na ≤ a.toList.length ∧ 1 < nb ∧ nb ≤ b.toList.length ∧ x + 1 + na + nb ≤ a.size + b.size) ∨ ∃ r, c.1 = some r ∧ Mgd lt a.toList b.toList r.toList)) ?_ ?_ ⟨q1, out, na, nb, _, ac, bc, rfl, g, l1, l1', l2, l2', l3⟩) ?_)
        · rintro y c st2 _ hy ⟨q2, out, na, nb, mg, ac, bc, rfl, g, l1, l1', l2, l2', l3⟩
          obtain ⟨xb, hb, db, lb⟩ := eb (nb - 1) (by omega)
          refine wpS_gt (k := mg) (n := 1) (fun _ => ?_) (fun _ => ?_)
          all_goals (
            refine wpS_bind (wpS_modify ?_)
            refine wpS_bind (el_ok hb ?_)
            refine wpS_bind (gallop_ok (left := false) (arr := a) (base := 0) (n := na) (hint := na - 1) C db (fun i hi => let ⟨x, h1, h2, _⟩ := ea (0 + i) (by omega); ⟨x, h1, h2⟩) (by omega) (q2.1.trans hs) (byd_mono C sa (by omega)) fun k hk k1 k2 => ?_)
            have gk := g.takeAs C.wo sa sb (by omega) (by omega) (m := k) (by omega) fun i h1 h2 x y hx hy => by
              have := k2 i h1 h2
              rw [byd_right (by rw [Nat.zero_add]; exact hx)] at this
              rw [lb] at hy
              cases hy
              exact C.wo.asym _ _ (by simpa using this)
            have m3 : 0 < k → ∀ y, a.toList[k - 1]? = some y → lt xb y = false := fun hp y hy => by
              have := k1 (k - 1) (by omega)
              rw [byd_right (by rw [Nat.zero_add]; exact hy)] at this
              simpa using this
            refine wpS_gt (k := na - k) (n := 0) (fun k0 => ?_) (fun k0 => ?_)
            · refine wpS_if (c := (k == 0)) (fun c3 => ?_) (fun c3 => ?_)
              · refine wpS_pure ⟨q2, .inr ⟨_, rfl, ?_⟩⟩
                have := gk.done sa sb (by omega) (by omega) (.inl (eq_of_beq c3))
                simp only [Array.toList_append, Array.toList_push, Array.toList_reverse, ext_0, ext_fromto] at this ⊢
                exact this
              · have c3' := beq_no c3
                have g1 : Mh lt a.toList b.toList (out ++ (a.extract k na).reverse).toList k nb := by
                  simp only [Array.toList_append, Array.toList_push, Array.toList_reverse, ext_0, ext_fromto] at gk ⊢
                  exact gk
                refine wpS_bind (el_ok hb ?_)
                have g2 := g1.takeB C.wo sa sb (by omega) (by omega) (by omega) lb m3
                refine wpS_if (c := (nb - 1 == 1)) (fun c5 => ?_) (fun c5 => ?_)
                · refine wpS_pure ⟨q2, .inr ⟨_, rfl, ?_⟩⟩
                  have := g2.firstB sa (by omega) (by omega) (eq_of_beq c5) hfb
                  simp only [Array.toList_append, Array.toList_push, Array.toList_reverse, ext_0, ext_fromto] at this ⊢
                  exact this
                · have c6 := beq_no c5
                  obtain ⟨xa, ha, da, la⟩ := ea (k - 1) (by omega)
                  refine wpS_bind (el_ok ha ?_)
                  refine wpS_bind (gallop_ok (left := true) (arr := b) (base := 0) (n := nb - 1) (hint := nb - 1 - 1) C da (fun i hi => let ⟨x, h1, h2, _⟩ := eb (0 + i) (by omega); ⟨x, h1, h2⟩) (by omega) (q2.1.trans hs) (byd_mono C sb (by omega)) fun k' hk' k1' k2' => ?_)
                  have gk' := g2.takeBs C.wo sa sb (by omega) (by omega) (m := k') (by omega) fun i h1 h2 x y hx hy => by
                    have := k2' i h1 h2
                    rw [byd_left (by rw [Nat.zero_add]; exact hx)] at this
                    rw [la] at hy
                    cases hy
                    exact this
                  have m5 : 0 < k' → ∀ y, b.toList[k' - 1]? = some y → lt xa y = false := fun hp y hy => by
                    have := k1' (k' - 1) (by omega)
                    rw [byd_left (by rw [Nat.zero_add]; exact hy)] at this
                    exact C.wo.asym _ _ this
                  refine wpS_gt (k := nb - 1 - k') (n := 0) (fun k0' => ?_) (fun k0' => ?_)
                  · refine wpS_if (c := (k' == 1)) (fun c9 => ?_) (fun c9 => wpS_if (c := (k' == 0)) (fun c10 => ?_) (fun c10 => ?_))
                    · refine wpS_pure ⟨q2, .inr ⟨_, rfl, ?_⟩⟩
                      have := gk'.firstB sa (by omega) (by omega) (eq_of_beq c9) hfb
                      simp only [Array.toList_append, Array.toList_push, Array.toList_reverse, ext_0, ext_fromto] at this ⊢
                      exact this
                    · refine wpS_pure ⟨q2, .inr ⟨_, rfl, ?_⟩⟩
                      have := gk'.done sa sb (by omega) (by omega) (.inr (eq_of_beq c10))
                      simp only [Array.toList_append, Array.toList_push, Array.toList_reverse, ext_0, ext_fromto] at this ⊢
                      exact this
                    · have c9' := beq_no c9
                      have c10' := beq_no c10
                      have m4 := m5
                      have g3 : Mh lt a.toList b.toList (((out ++ (a.extract k na).reverse).push xb) ++ (b.extract k' (nb - 1)).reverse).toList (k) k' := by
                        simp only [Array.toList_append, Array.toList_push, Array.toList_reverse, ext_0, ext_fromto] at gk' ⊢
                        exact gk'
                      refine wpS_bind (el_ok ha ?_)
                      have g4 := g3.takeA C.wo sa sb (by omega) (by omega) (by omega) la m4
                      refine wpS_if (c := ((k) - 1 == 0)) (fun c7 => ?_) (fun c7 => ?_)
                      · refine wpS_pure ⟨q2, .inr ⟨_, rfl, ?_⟩⟩
                        have := g4.done sa sb (by omega) (by omega) (.inl (eq_of_beq c7))
                        simp only [Array.toList_append, Array.toList_push, Array.toList_reverse, ext_0, ext_fromto] at this ⊢
                        exact this
                      · have c8 := beq_no c7
                        refine wpS_if (fun _ => ?_) (fun _ => ?_)
                        · exact wpS_pure ⟨q2, .inl ⟨(((out ++ (a.extract k na).reverse).push xb) ++ (b.extract k' (nb - 1)).reverse).push xa, (k) - 1, k', _, _, _, rfl, by rw [Array.toList_push]; exact g4, by omega, by omega, by omega, by omega, by omega⟩⟩
                        · exact wpS_pure ⟨q2, (((out ++ (a.extract k na).reverse).push xb) ++ (b.extract k' (nb - 1)).reverse).push xa, (k) - 1, k', _, _, _, rfl, by rw [Array.toList_push]; exact g4, by omega, by omega, by omega, by omega, by omega⟩

                  · obtain rfl : k' = nb - 1 := by omega
                    have m4 := m5
                    have g3 : Mh lt a.toList b.toList ((out ++ (a.extract k na).reverse).push xb).toList (k) (nb - 1) := by
                      rw [Array.toList_push]
                      exact g2
                    refine wpS_bind (el_ok ha ?_)
                    have g4 := g3.takeA C.wo sa sb (by omega) (by omega) (by omega) la m4
                    refine wpS_if (c := ((k) - 1 == 0)) (fun c7 => ?_) (fun c7 => ?_)
                    · refine wpS_pure ⟨q2, .inr ⟨_, rfl, ?_⟩⟩
                      have := g4.done sa sb (by omega) (by omega) (.inl (eq_of_beq c7))
                      simp only [Array.toList_append, Array.toList_push, Array.toList_reverse, ext_0, ext_fromto] at this ⊢
                      exact this
                    · have c8 := beq_no c7
                      refine wpS_if (fun _ => ?_) (fun _ => ?_)
                      · exact wpS_pure ⟨q2, .inl ⟨((out ++ (a.extract k na).reverse).push xb).push xa, (k) - 1, (nb - 1), _, _, _, rfl, by rw [Array.toList_push]; exact g4, by omega, by omega, by omega, by omega, by omega⟩⟩
                      · exact wpS_pure ⟨q2, ((out ++ (a.extract k na).reverse).push xb).push xa, (k) - 1, (nb - 1), _, _, _, rfl, by rw [Array.toList_push]; exact g4, by omega, by omega, by omega, by omega, by omega⟩


            · obtain rfl : k = na := by omega
              have g1 := g
              refine wpS_bind (el_ok hb ?_)
              have g2 := g1.takeB C.wo sa sb (by omega) (by omega) (by omega) lb m3
              refine wpS_if (c := (nb - 1 == 1)) (fun c5 => ?_) (fun c5 => ?_)
              · refine wpS_pure ⟨q2, .inr ⟨_, rfl, ?_⟩⟩
                have := g2.firstB sa (by omega) (by omega) (eq_of_beq c5) hfb
                simp only [Array.toList_append, Array.toList_push, Array.toList_reverse, ext_0, ext_fromto] at this ⊢
                exact this
              · have c6 := beq_no c5
                obtain ⟨xa, ha, da, la⟩ := ea (k - 1) (by omega)
                refine wpS_bind (el_ok ha ?_)
                refine wpS_bind (gallop_ok (left := true) (arr := b) (base := 0) (n := nb - 1) (hint := nb - 1 - 1) C da (fun i hi => let ⟨x, h1, h2, _⟩ := eb (0 + i) (by omega); ⟨x, h1, h2⟩) (by omega) (q2.1.trans hs) (byd_mono C sb (by omega)) fun k' hk' k1' k2' => ?_)
                have gk' := g2.takeBs C.wo sa sb (by omega) (by omega) (m := k') (by omega) fun i h1 h2 x y hx hy => by
                  have := k2' i h1 h2
                  rw [byd_left (by rw [Nat.zero_add]; exact hx)] at this
                  rw [la] at hy
                  cases hy
                  exact this
                have m5 : 0 < k' → ∀ y, b.toList[k' - 1]? = some y → lt xa y = false := fun hp y hy => by
                  have := k1' (k' - 1) (by omega)
                  rw [byd_left (by rw [Nat.zero_add]; exact hy)] at this
                  exact C.wo.asym _ _ this
                refine wpS_gt (k := nb - 1 - k') (n := 0) (fun k0' => ?_) (fun k0' => ?_)
                · refine wpS_if (c := (k' == 1)) (fun c9 => ?_) (fun c9 => wpS_if (c := (k' == 0)) (fun c10 => ?_) (fun c10 => ?_))
                  · refine wpS_pure ⟨q2, .inr ⟨_, rfl, ?_⟩⟩
                    have := gk'.firstB sa (by omega) (by omega) (eq_of_beq c9) hfb
                    simp only [Array.toList_append, Array.toList_push, Array.toList_reverse, ext_0, ext_fromto] at this ⊢
                    exact this
                  · refine wpS_pure ⟨q2, .inr ⟨_, rfl, ?_⟩⟩
                    have := gk'.done sa sb (by omega) (by omega) (.inr (eq_of_beq c10))
                    simp only [Array.toList_append, Array.toList_push, Array.toList_reverse, ext_0, ext_fromto] at this ⊢
                    exact this
                  · have c9' := beq_no c9
                    have c10' := beq_no c10
                    have m4 := m5
                    have g3 : Mh lt a.toList b.toList ((out.push xb) ++ (b.extract k' (nb - 1)).reverse).toList (k) k' := by
                      simp only [Array.toList_append, Array.toList_push, Array.toList_reverse, ext_0, ext_fromto] at gk' ⊢
                      exact gk'
                    refine wpS_bind (el_ok ha ?_)
                    have g4 := g3.takeA C.wo sa sb (by omega) (by omega) (by omega) la m4
                    refine wpS_if (c := ((k) - 1 == 0)) (fun c7 => ?_) (fun c7 => ?_)
                    · refine wpS_pure ⟨q2, .inr ⟨_, rfl, ?_⟩⟩
                      have := g4.done sa sb (by omega) (by omega) (.inl (eq_of_beq c7))
                      simp only [Array.toList_append, Array.toList_push, Array.toList_reverse, ext_0, ext_fromto] at this ⊢
                      exact this
                    · have c8 := beq_no c7
                      refine wpS_if (fun _ => ?_) (fun _ => ?_)
                      · exact wpS_pure ⟨q2, .inl ⟨((out.push xb) ++ (b.extract k' (nb - 1)).reverse).push xa, (k) - 1, k', _, _, _, rfl, by rw [Array.toList_push]; exact g4, by omega, by omega, by omega, by omega, by omega⟩⟩
                      · exact wpS_pure ⟨q2, ((out.push xb) ++ (b.extract k' (nb - 1)).reverse).push xa, (k) - 1, k', _, _, _, rfl, by rw [Array.toList_push]; exact g4, by omega, by omega, by omega, by omega, by omega⟩

                · obtain rfl : k' = nb - 1 := by omega
                  have m4 := m5
                  have g3 : Mh lt a.toList b.toList (out.push xb).toList (k) (nb - 1) := by
                    rw [Array.toList_push]
                    exact g2
                  refine wpS_bind (el_ok ha ?_)
                  have g4 := g3.takeA C.wo sa sb (by omega) (by omega) (by omega) la m4
                  refine wpS_if (c := ((k) - 1 == 0)) (fun c7 => ?_) (fun c7 => ?_)
                  · refine wpS_pure ⟨q2, .inr ⟨_, rfl, ?_⟩⟩
                    have := g4.done sa sb (by omega) (by omega) (.inl (eq_of_beq c7))
                    simp only [Array.toList_append, Array.toList_push, Array.toList_reverse, ext_0, ext_fromto] at this ⊢
                    exact this
                  · have c8 := beq_no c7
                    refine wpS_if (fun _ => ?_) (fun _ => ?_)
                    · exact wpS_pure ⟨q2, .inl ⟨(out.push xb).push xa, (k) - 1, (nb - 1), _, _, _, rfl, by rw [Array.toList_push]; exact g4, by omega, by omega, by omega, by omega, by omega⟩⟩
                    · exact wpS_pure ⟨q2, (out.push xb).push xa, (k) - 1, (nb - 1), _, _, _, rfl, by rw [Array.toList_push]; exact g4, by omega, by omega, by omega, by omega, by omega⟩)
        · rintro c st' ⟨q2, out, na, nb, mg, ac, bc, rfl, g, l1, l1', l2, l2', l3⟩
          omega
        · rintro c st' ⟨q2, ⟨out, na, nb, mg, ac, bc, rfl, g, l1, l1', l2, l2', l3⟩ | ⟨r, hr, hm⟩⟩
          · exact wpS_bind (wpS_modify (wpS_pure ⟨out, na, nb, _, rfl, g, l1, l1', l2, l2', l3, q2⟩))
          · obtain ⟨c1, c2⟩ := c
            dsimp only at hr
            subst hr
            exact wpS_pure ⟨r, rfl, hm, q2⟩
      · obtain ⟨c1, c2⟩ := c
        dsimp only at hr
        subst hr
        exact wpS_pure ⟨r, rfl, hm, q1⟩
  · rintro c st' ⟨out, na, nb, mg, rfl, g, l1, l1', l2, l2', l3, q1⟩
    omega
  · rintro c st' ⟨r, hr, hm, q1⟩
    obtain ⟨c1, c2⟩ := c
    dsimp only at hr
    subst hr
    exact wpS_pure (h r st' hm q1)
end
end L2

namespace L2
open PySem PySem.Spec PyProof.Rows
def countRun_ : Nat → Nat → StateT SortSt Sem (Option Nat) := sortPriv% PySem.Builtin.countRun
def binarySort_ : Nat → Nat → Nat → StateT SortSt Sem Bool := sortPriv% PySem.Builtin.binarySort
def sortRuns_ : StateT SortSt Sem Unit := sortPriv% PySem.Builtin.sortRuns
theorem put_back : ∀ (M : List Keyed) (n o : Nat) (arr : Array Keyed) (A B C : List Keyed), arr.toList = A ++ (B ++ C) → A.length = o + n → B.length = M.length →
    ((M.zipIdx n).foldl (fun a x => match x with | (p, j) => a.setIfInBounds (o + j) p) arr).toList = A ++ (M ++ C)
  | [], n, o, arr, A, B, C, h, _, hb => by
    obtain rfl : B = [] := List.length_eq_zero_iff.mp hb
    simpa using h
  | x :: M, n, o, arr, A, [], C, h, _, hb => by cases hb
  | x :: M, n, o, arr, A, y :: B, C, h, ha, hb => by
    rw [List.zipIdx_cons, List.foldl_cons]
    have e : (arr.setIfInBounds (o + n) x).toList = (A ++ [x]) ++ (B ++ C) := by
      rw [Array.toList_setIfInBounds, h, ← ha, List.set_append_right _ _ (Nat.le_refl _), Nat.sub_self]
      simp
    have := put_back M (n + 1) o _ (A ++ [x]) B C e (by simp; omega) (by simpa using hb)
    rw [this]
    simp
section
variable {prog : Program} {w : World} {A : Around} {E : Value → Shared → Prop} {s : Shared} {kd : SortKind} {D : Keyed → Prop} {lt : Keyed → Keyed → Bool}
theorem wpS_set {M : Model} {st st' : SortSt} {Q : PUnit → SortSt → Prop} (h : Q ⟨⟩ st') : wpS M A E s (set st' : StateT SortSt Sem PUnit) Q st := by
  unfold wpS; rw [StateT.run_set]; exact wpAny_pure ⟨rfl, h⟩
theorem byd_seg {left : Bool} {key : Keyed} {arr : Array Keyed} {base i : Nat} {x : Keyed} (e : arr.toList[base + i]? = some x) : byd lt left key arr base i = if left = true then lt x key else !lt key x := by
  cases left with
  | true => rw [byd_left e]; rfl
  | false => rw [byd_right e]; rfl
theorem byd_monoS (C : Wo lt) {left : Bool} {key : Keyed} {arr : Array Keyed} {base : Nat} {X : List Keyed} (hX : ∀ i, i < X.length → arr.toList[base + i]? = X[i]?) (sX : Srt lt X) :
    ∀ i j, i ≤ j → j < X.length → byd lt left key arr base j = true → byd lt left key arr base i = true := fun i j hij hj h => by
  have hi : i < X.length := by omega
  have ei : arr.toList[base + i]? = some X[i] := by rw [hX i hi, List.getElem?_eq_getElem hi]
  have ej : arr.toList[base + j]? = some X[j] := by rw [hX j hj, List.getElem?_eq_getElem hj]
  have le := srt_get C sX (List.getElem?_eq_getElem (by omega : i < X.length)) (List.getElem?_eq_getElem hj) hij
  rw [byd_seg ej] at h
  rw [byd_seg ei]
  cases left with
  | true =>
    simp only [if_true] at h ⊢
    rcases C.neg _ (X[i]'(by omega)) _ h with z | z
    · rw [z] at le; cases le
    · exact z
  | false =>
    simp only [Bool.false_eq_true, if_false] at h ⊢
    cases z : lt key (X[i]'(by omega)) with
    | false => rfl
    | true =>
      rcases C.neg _ (X[j]'hj) _ z with y | y
      · rw [y] at h; cases h
      · rw [y] at le; cases le
theorem mergeAt_ok (C : Cmp prog w A E s kd D lt) {i sa na pw sb nb pw2 : Nat} {st : SortSt} {P X Y S : List Keyed} {Q : Bool → SortSt → Prop}
    (hp1 : (pendingOf st)[i]? = some (sa, na, pw)) (hp2 : (pendingOf st)[i + 1]? = some (sb, nb, pw2)) (hA : (arrOf st).toList = P ++ (X ++ (Y ++ S))) (hsa : sa = P.length) (hna : na = X.length) (hsb : sb = P.length + X.length) (hnb : nb = Y.length)
    (x0 : 0 < X.length) (y0 : 0 < Y.length) (sX : Srt lt X) (sY : Srt lt Y) (hD : ∀ x ∈ (arrOf st).toList, D x) (hk : kindOf st = kd) (hf : failedOf st = none)
    (h : ∀ Z st', Srt lt Z → Z.Perm (X ++ Y) → (arrOf st').toList = P ++ (Z ++ S) → pendingOf st' = ((pendingOf st).setIfInBounds i (sa, na + nb, pw)).eraseIdxIfInBounds (i + 1) → kindOf st' = kd → failedOf st' = none → Q true st') :
    wpS (model prog w) A E s (mergeAt_ i) Q st := by
  subst hsa hna hsb hnb
  have eX : ∀ j, j < X.length → (arrOf st).toList[P.length + j]? = X[j]? := fun j hj => by
    rw [hA, List.getElem?_append_right (by omega), Nat.add_sub_cancel_left, List.getElem?_append_left hj]
  have eY : ∀ j, j < Y.length → (arrOf st).toList[P.length + X.length + j]? = Y[j]? := fun j hj => by
    rw [hA, List.getElem?_append_right (by omega), List.getElem?_append_right (by omega), List.getElem?_append_left (by omega)]
    congr 1; omega
  have dX : ∀ x ∈ X, D x := fun x hx => hD x (by rw [hA]; simp [hx])
  have dY : ∀ x ∈ Y, D x := fun x hx => hD x (by rw [hA]; simp [hx])
  refine wpS_bind (wpS_get ?_)
  rw [show (sortPriv% PySem.Builtin.SortState.pending) st = pendingOf st from rfl, hp1, hp2]
  refine wpS_bind (wpS_set ?_)
  have ey0 : (arrOf st)[P.length + X.length]? = some (Y[0]'y0) := by
    have := eY 0 y0
    rw [← Array.getElem?_toList, Nat.add_zero] at *
    rw [this, List.getElem?_eq_getElem y0]
  refine wpS_bind (el_ok ey0 ?_)
  refine wpS_bind (gallop_ok (left := false) (arr := arrOf st) (base := P.length) (n := X.length) (hint := 0) C (dY _ (List.getElem_mem y0)) (fun j hj => ⟨X[j], by rw [← Array.getElem?_toList, eX j hj, List.getElem?_eq_getElem hj], dX _ (List.getElem_mem hj)⟩) x0 hk (byd_monoS C.wo eX sX) fun k hk1 k1 k2 => ?_)
  have f1 : ∀ j (hj : j < X.length), j < k → lt (Y[0]'y0) X[j] = false := fun j hj hjk => by
    have := k1 j hjk
    rw [byd_seg (by rw [eX j hj, List.getElem?_eq_getElem hj])] at this
    simpa using this
  have f2 : ∀ j (hj : j < X.length), k ≤ j → lt (Y[0]'y0) X[j] = true := fun j hj hjk => by
    have := k2 j hjk hj
    rw [byd_seg (by rw [eX j hj, List.getElem?_eq_getElem hj])] at this
    simpa using this
  have lowX : ∀ x ∈ X.take k, ∀ y ∈ Y, lt y x = false := fun x hx y hy => by
    obtain ⟨j, hj, rfl⟩ := List.getElem_of_mem hx
    rw [List.length_take] at hj
    rw [List.getElem_take]
    obtain ⟨j2, hj2, rfl⟩ := List.getElem_of_mem hy
    exact C.wo.leT (f1 j (by omega) (by omega)) (srt_get C.wo sY (List.getElem?_eq_getElem y0) (List.getElem?_eq_getElem hj2) (Nat.zero_le _))
  refine wpS_if (c := (X.length - k == 0)) (fun c1 => ?_) (fun c1 => ?_)
  · refine wpS_pure (h (X ++ Y) _ ?_ (List.Perm.refl _) (by rw [List.append_assoc]; exact hA) rfl hk hf)
    have ek : X.take k = X := List.take_of_length_le (by have := eq_of_beq c1; omega)
    rw [ek] at lowX
    exact List.pairwise_append.mpr ⟨sX, sY, lowX⟩
  have c1' := beq_no c1
  have exl : (arrOf st)[P.length + k + (X.length - k) - 1]? = some (X[X.length - 1]'(by omega)) := by
    have := eX (X.length - 1) (by omega)
    rw [← Array.getElem?_toList, show P.length + k + (X.length - k) - 1 = P.length + (X.length - 1) by omega, this, List.getElem?_eq_getElem (by omega)]
  refine wpS_bind (el_ok exl ?_)
  refine wpS_bind (gallop_ok (left := true) (arr := arrOf st) (base := P.length + X.length) (n := Y.length) (hint := Y.length - 1) C (dX _ (List.getElem_mem (by omega))) (fun j hj => ⟨Y[j], by rw [← Array.getElem?_toList, eY j hj, List.getElem?_eq_getElem hj], dY _ (List.getElem_mem hj)⟩) (by omega) hk (byd_monoS C.wo eY sY) fun m hm1 m1 m2 => ?_)
  have f3 : ∀ j (hj : j < Y.length), j < m → lt Y[j] (X[X.length - 1]'(by omega)) = true := fun j hj hjm => by
    have := m1 j hjm
    rw [byd_seg (by rw [eY j hj, List.getElem?_eq_getElem hj])] at this
    simpa using this
  have f4 : ∀ j (hj : j < Y.length), m ≤ j → lt Y[j] (X[X.length - 1]'(by omega)) = false := fun j hj hjm => by
    have := m2 j hjm hj
    rw [byd_seg (by rw [eY j hj, List.getElem?_eq_getElem hj])] at this
    simpa using this
  have m0 : m ≠ 0 := fun z => by
    have := f4 0 y0 (by omega)
    rw [f2 (X.length - 1) (by omega) (by omega)] at this
    cases this
  refine wpS_if (c := (m == 0)) (fun c2 => absurd (eq_of_beq c2) m0) (fun c2 => ?_)
  have tx : ((arrOf st).extract (P.length + k) (P.length + X.length)).toList = X.drop k := by
    rw [ext_fromto, hA, List.drop_append, List.drop_eq_nil_of_le (by omega), List.nil_append, show P.length + k - P.length = k by omega, List.drop_append_of_le_length (by omega), List.take_append_of_le_length (by rw [List.length_drop]; omega), List.take_of_length_le (by rw [List.length_drop]; omega)]
  have ty : ((arrOf st).extract (P.length + X.length) (P.length + X.length + m)).toList = Y.take m := by
    rw [ext_fromto, hA, ← List.append_assoc, List.drop_append, List.drop_eq_nil_of_le (by simp), List.nil_append, List.length_append, Nat.sub_self, List.drop_zero, List.take_append_of_le_length (by omega)]
    congr 1; omega
  have sX2 : Srt lt (X.drop k) := srt_drop sX k
  have sY1 : Srt lt (Y.take m) := List.Pairwise.sublist (List.take_sublist _ _) sY
  have lX2 : (X.drop k).length = X.length - k := List.length_drop
  have lY1 : (Y.take m).length = m := by rw [List.length_take]; omega
  have hff : ∀ x y, (X.drop k)[0]? = some x → (Y.take m)[0]? = some y → lt x y = false := fun x y hx hy => by
    rw [List.getElem?_drop, Nat.add_zero, List.getElem?_eq_getElem (by omega)] at hx
    rw [List.getElem?_take_of_lt (by omega), List.getElem?_eq_getElem y0] at hy
    cases hx; cases hy
    exact C.wo.asym _ _ (f2 k (by omega) (Nat.le_refl _))
  have hll : ∀ x, (X.drop k)[(X.drop k).length - 1]? = some x → ∀ y ∈ Y.take m, lt x y = false := fun x hx y hy => by
    rw [lX2, List.getElem?_drop, show k + (X.length - k - 1) = X.length - 1 by omega, List.getElem?_eq_getElem (by omega)] at hx
    cases hx
    obtain ⟨j, hj, rfl⟩ := List.getElem_of_mem hy
    rw [lY1] at hj
    rw [List.getElem_take]
    exact C.wo.asym _ _ (f3 j (by omega) hj)
  have fin : ∀ (r : Array Keyed) (st' : SortSt), Mgd lt (X.drop k) (Y.take m) r.toList → Eqg (SortSt.mk' (kindOf st) (arrOf st) (((pendingOf st).setIfInBounds i (P.length, X.length + Y.length, pw)).eraseIdxIfInBounds (i + 1)) (gallopOf st) (failedOf st)) st' →
      Q true (SortSt.mk' (kindOf st') (List.foldl (fun a x => match x with | (p, j) => a.setIfInBounds (P.length + k + j) p) (arrOf st') r.toList.zipIdx) (pendingOf st') (gallopOf st') (failedOf st')) := fun r st' hm q => by
    obtain ⟨q1, q2, q3, q4⟩ := q
    refine h (X.take k ++ (r.toList ++ Y.drop m)) _ ?_ ?_ ?_ q3 (q1.trans hk) (q4.trans hf)
    · have rle : ∀ p ∈ r.toList, ∀ q ∈ Y.drop m, lt q p = false := fun p hp q hq => by
        have hq' : ∃ j, ∃ hj : j < Y.length, m ≤ j ∧ Y[j] = q := by
          obtain ⟨j, hj, rfl⟩ := List.getElem_of_mem hq
          rw [List.length_drop] at hj
          exact ⟨m + j, by omega, by omega, by rw [List.getElem_drop]⟩
        obtain ⟨j, hj, hmj, rfl⟩ := hq'
        rcases List.mem_append.mp (hm.2.mem_iff.mp hp) with z | z
        · obtain ⟨j2, hj2, rfl⟩ := List.getElem_of_mem (List.mem_of_mem_drop z)
          exact C.wo.leT (srt_get C.wo sX (List.getElem?_eq_getElem hj2) (List.getElem?_eq_getElem (by omega : X.length - 1 < X.length)) (by omega)) (f4 j hj hmj)
        · obtain ⟨j2, hj2, rfl⟩ := List.getElem_of_mem z
          rw [lY1] at hj2
          rw [List.getElem_take]
          exact srt_get C.wo sY (List.getElem?_eq_getElem (by omega)) (List.getElem?_eq_getElem hj) (by omega)
      refine List.pairwise_append.mpr ⟨List.Pairwise.sublist (List.take_sublist _ _) sX, List.pairwise_append.mpr ⟨hm.1, srt_drop sY m, rle⟩, fun p hp q hq => ?_⟩
      rcases List.mem_append.mp hq with z | z
      · rcases List.mem_append.mp (hm.2.mem_iff.mp z) with y | y
        · have : Srt lt (X.take k ++ X.drop k) := by rw [List.take_append_drop]; exact sX
          exact (List.pairwise_append.mp this).2.2 p hp q y
        · exact lowX p hp q (List.mem_of_mem_take y)
      · exact lowX p hp q (List.mem_of_mem_drop z)
    · have e1 : (X.take k ++ (r.toList ++ Y.drop m)).Perm (X.take k ++ ((X.drop k ++ Y.take m) ++ Y.drop m)) := List.Perm.append_left _ (hm.2.append_right _)
      refine e1.trans ?_
      rw [List.append_assoc, List.take_append_drop, ← List.append_assoc, List.take_append_drop]
    · show (List.foldl _ (arrOf st') r.toList.zipIdx).toList = _
      rw [q2]
      have := put_back r.toList 0 (P.length + k) (arrOf st) (P ++ X.take k) (X.drop k ++ Y.take m) (Y.drop m ++ S) (by
        show (arrOf st).toList = _
        rw [hA]
        have e1 : X = X.take k ++ X.drop k := (List.take_append_drop k X).symm
        have e2 : Y = Y.take m ++ Y.drop m := (List.take_append_drop m Y).symm
        conv => lhs; rw [e1, e2]
        simp only [List.append_assoc]) (by rw [List.length_append, List.length_take]; omega) hm.2.length_eq.symm
      rw [show (List.foldl (fun a x => match x with | (p, j) => a.setIfInBounds (P.length + k + j) p) (arrOf st) r.toList.zipIdx) = _ from rfl] at this
      rw [this]
      simp only [List.append_assoc]
  have dx : ∀ x ∈ ((arrOf st).extract (P.length + k) (P.length + X.length)).toList, D x := fun x hx => dX x (by rw [tx] at hx; exact List.mem_of_mem_drop hx)
  have dy : ∀ x ∈ ((arrOf st).extract (P.length + X.length) (P.length + X.length + m)).toList, D x := fun x hx => dY x (by rw [ty] at hx; exact List.mem_of_mem_take hx)
  show wpS _ _ _ _ (if X.length - k ≤ m then _ else _) _ _
  by_cases c3 : X.length - k ≤ m
  · rw [if_pos c3]
    refine wpS_bind (mergeLo_ok (a := (arrOf st).extract (P.length + k) (P.length + X.length)) (b := (arrOf st).extract (P.length + X.length) (P.length + X.length + m)) C dx dy (by rw [tx]; exact sX2) (by rw [ty]; exact sY1) hk (by rw [tx, lX2]; omega) (by rw [ty, lY1]; omega) (by rw [tx, ty]; exact hff) (by rw [tx, ty]; exact hll) fun r st' hm q => ?_)
    rw [tx, ty] at hm
    refine wpS_bind (wpS_modify (wpS_bind (wpS_get (wpS_pure ?_))))
    have e : (failedOf st').isNone = true := by rw [q.2.2.2]; show (failedOf st).isNone = true; rw [hf]; rfl
    have := fin r st' hm q
    rw [← e] at this
    exact this
  · rw [if_neg c3]
    refine wpS_bind (mergeHi_ok (a := (arrOf st).extract (P.length + k) (P.length + X.length)) (b := (arrOf st).extract (P.length + X.length) (P.length + X.length + m)) C dx dy (by rw [tx]; exact sX2) (by rw [ty]; exact sY1) hk (by rw [tx, lX2]; omega) (by rw [ty, lY1]; omega) (by rw [tx, ty]; exact hff) (by rw [tx, ty]; exact hll) fun r st' hm q => ?_)
    rw [tx, ty] at hm
    refine wpS_bind (wpS_modify (wpS_bind (wpS_get (wpS_pure ?_))))
    have e : (failedOf st').isNone = true := by rw [q.2.2.2]; show (failedOf st).isNone = true; rw [hf]; rfl
    have := fin r st' hm q
    rw [← e] at this
    exact this
end
end L2

/-! list.sort of any length: runs counted, things put in -/
namespace L2
open PySem PySem.Spec PyProof.Rows
section
variable {prog : Program} {w : World} {A : Around} {E : Value → Shared → Prop} {s : Shared} {kd : SortKind} {D : Keyed → Prop} {lt : Keyed → Keyed → Bool}
def SrtS (lt : Keyed → Keyed → Bool) (arr : Array Keyed) (lo m : Nat) : Prop := ∀ i j p q, i ≤ j → j < m → arr[lo + i]? = some p → arr[lo + j]? = some q → lt q p = false
def NonS (lt : Keyed → Keyed → Bool) (arr : Array Keyed) (lo m : Nat) : Prop := ∀ i j p q, i ≤ j → j < m → arr[lo + i]? = some p → arr[lo + j]? = some q → lt p q = false
def EqS (lt : Keyed → Keyed → Bool) (arr : Array Keyed) (b e : Nat) : Prop := ∀ i j p q, b ≤ i → i < e → b ≤ j → j < e → arr[i]? = some p → arr[j]? = some q → lt p q = false
/-- a state alike but for the order of what stands from lo on, n things -/
structure Kp (lo n : Nat) (st st' : SortSt) : Prop where
  kind : kindOf st' = kindOf st
  pend : pendingOf st' = pendingOf st
  fail : failedOf st' = failedOf st
  perm : (arrOf st').toList.Perm (arrOf st).toList
  out : ∀ i, i < lo ∨ lo + n ≤ i → (arrOf st')[i]? = (arrOf st)[i]?
theorem Kp.refl (lo n : Nat) (st : SortSt) : Kp lo n st st := ⟨rfl, rfl, rfl, .refl _, fun _ _ => rfl⟩
theorem Kp.trans {lo n : Nat} {a b c : SortSt} (x : Kp lo n a b) (y : Kp lo n b c) : Kp lo n a c := ⟨y.kind.trans x.kind, y.pend.trans x.pend, y.fail.trans x.fail, y.perm.trans x.perm, fun i h => (y.out i h).trans (x.out i h)⟩
theorem Kp.size {lo n : Nat} {a b : SortSt} (x : Kp lo n a b) : (arrOf b).size = (arrOf a).size := by
  have := x.perm.length_eq
  simpa using this
theorem at_ok {arr : Array Keyed} {i : Nat} (h : i < arr.size) : ∃ x, arr[i]? = some x := ⟨arr[i], getElem?_pos arr i h⟩
theorem ltAt_ok (C : Cmp prog w A E s kd D lt) {st : SortSt} {i j : Nat} {Q : Option Bool → SortSt → Prop} (hi : i < (arrOf st).size) (hj : j < (arrOf st).size) (hD : ∀ x ∈ (arrOf st).toList, D x) (hk : kindOf st = kd)
    (h : ∀ p q, (arrOf st)[i]? = some p → (arrOf st)[j]? = some q → Q (some (lt p q)) st) : wpS (model prog w) A E s (ltAt' i j) Q st := by
  obtain ⟨p, hp⟩ := at_ok hi
  obtain ⟨q, hq⟩ := at_ok hj
  rw [ltAt'_eq]
  refine wpS_bind (wpS_get ?_)
  show wpS _ _ _ _ (elem' (arrOf st) i >>= fun x => elem' (arrOf st) j >>= fun y => lt' x y) Q st
  refine wpS_bind (el_ok hp (wpS_bind (el_ok hq (C.cmp p q st Q (hD p ?_) (hD q ?_) hk (h p q hp hq)))))
  · exact List.mem_of_getElem? (by rw [Array.getElem?_toList]; exact hp)
  · exact List.mem_of_getElem? (by rw [Array.getElem?_toList]; exact hq)
theorem rev_ok {M : Model} {i j : Nat} {st : SortSt} {Q : Unit → SortSt → Prop} (h : Q () (setArr st (mirror (arrOf st) i j ((j - i) / 2)))) : wpS M A E s (reverseSlice' i j) Q st := by
  rw [reverseSlice'_eq]; exact wpS_modify h
theorem kp_mirror {lo n i j : Nat} {st : SortSt} (h1 : lo ≤ i) (h2 : j ≤ lo + n) (h3 : lo + n ≤ (arrOf st).size) : Kp lo n st (setArr st (mirror (arrOf st) i j ((j - i) / 2))) := by
  refine ⟨rfl, rfl, rfl, Array.perm_iff_toList_perm.mp (mirror_perm _ _ _ _), fun k hk => ?_⟩
  show (mirror (arrOf st) i j ((j - i) / 2))[k]? = _
  rw [getElem?_mirror_all (by omega), if_neg (by omega)]
theorem non_mirror {arr : Array Keyed} {lo m b e : Nat} (h : NonS lt arr lo m) (he : EqS lt arr b e) (h1 : lo ≤ b) (h2 : e ≤ lo + m) (h3 : lo + m ≤ arr.size) : NonS lt (mirror arr b e ((e - b) / 2)) lo m := by
  intro i j p q hij hj hp hq
  rw [getElem?_mirror_all (by omega)] at hp hq
  by_cases ci : b ≤ lo + i ∧ lo + i < e <;> by_cases cj : b ≤ lo + j ∧ lo + j < e
  · rw [if_pos ci] at hp
    rw [if_pos cj] at hq
    exact he _ _ p q (by omega) (by omega) (by omega) (by omega) hp hq
  · rw [if_pos ci] at hp
    rw [if_neg cj] at hq
    exact h (b + e - 1 - (lo + i) - lo) j p q (by omega) hj (by rw [show lo + (b + e - 1 - (lo + i) - lo) = b + e - 1 - (lo + i) by omega]; exact hp) hq
  · rw [if_neg ci] at hp
    rw [if_pos cj] at hq
    exact h i (b + e - 1 - (lo + j) - lo) p q (by omega) (by omega) hp (by rw [show lo + (b + e - 1 - (lo + j) - lo) = b + e - 1 - (lo + j) by omega]; exact hq)
  · rw [if_neg ci] at hp
    rw [if_neg cj] at hq
    exact h i j p q hij hj hp hq
theorem srt_mirror {arr : Array Keyed} {lo m : Nat} (h : NonS lt arr lo m) (h3 : lo + m ≤ arr.size) : SrtS lt (mirror arr lo (lo + m) ((lo + m - lo) / 2)) lo m := by
  intro i j p q hij hj hp hq
  rw [getElem?_mirror_all (by omega), if_pos (by omega)] at hp hq
  exact h (m - 1 - j) (m - 1 - i) q p (by omega) (by omega) (by rw [← hq]; congr 1; omega) (by rw [← hp]; congr 1; omega)
theorem non_snoc (C : Wo lt) {arr : Array Keyed} {lo m : Nat} (h : NonS lt arr lo m) (hm : 0 < m) {d e : Keyed} (hd : arr[lo + m - 1]? = some d) (he : arr[lo + m]? = some e) (hde : lt d e = false) : NonS lt arr lo (m + 1) := by
  intro i j p q hij hj hp hq
  by_cases c : j < m
  · exact h i j p q hij c hp hq
  · obtain rfl : j = m := by omega
    rw [he] at hq
    cases hq
    by_cases c2 : i = j
    · subst c2
      rw [he] at hp
      cases hp
      exact C.irr _
    · exact C.leT hde (h i (j - 1) p d (by omega) (by omega) hp (by rw [show lo + (j - 1) = lo + j - 1 by omega]; exact hd))
theorem srt_snocS (C : Wo lt) {arr : Array Keyed} {lo m : Nat} (h : SrtS lt arr lo m) (hm : 0 < m) {d e : Keyed} (hd : arr[lo + m - 1]? = some d) (he : arr[lo + m]? = some e) (hde : lt e d = false) : SrtS lt arr lo (m + 1) := by
  intro i j p q hij hj hp hq
  by_cases c : j < m
  · exact h i j p q hij c hp hq
  · obtain rfl : j = m := by omega
    rw [he] at hq
    cases hq
    by_cases c2 : i = j
    · subst c2
      rw [he] at hp
      cases hp
      exact C.irr _
    · exact C.leT (h i (j - 1) p d (by omega) (by omega) hp (by rw [show lo + (j - 1) = lo + j - 1 by omega]; exact hd)) hde
theorem eq_one (C : Wo lt) {x lo : Nat} (arr : Array Keyed) : EqS lt arr (lo + x - (0 + 1)) (lo + x) := fun i j p q i1 i2 j1 j2 hp hq => by
  obtain rfl : i = j := by omega
  rw [hp] at hq; cases hq; exact C.irr _
theorem eq_snoc (C : Wo lt) {arr : Array Keyed} {b e : Nat} (h : EqS lt arr b e) (hb : b < e) {d x : Keyed} (hd : arr[e - 1]? = some d) (hx : arr[e]? = some x) (h1 : lt x d = false) (h2 : lt d x = false) : EqS lt arr b (e + 1) := fun i j p q i1 i2 j1 j2 hp hq => by
  by_cases ci : i < e <;> by_cases cj : j < e
  · exact h i j p q i1 ci j1 cj hp hq
  · obtain rfl : j = e := by omega
    rw [hx] at hq; cases hq
    exact C.leT h2 (h i (j - 1) p d i1 ci (by omega) (by omega) hp hd)
  · obtain rfl : i = e := by omega
    rw [hx] at hp; cases hp
    exact C.leT (h (i - 1) j d q (by omega) (by omega) j1 cj hd hq) h1
  · obtain rfl : i = e := by omega
    obtain rfl : j = i := by omega
    rw [hp] at hq; cases hq; exact C.irr _
theorem asc_loop (C : Cmp prog w A E s kd D lt) {lo n a : Nat} {st : SortSt} {Q : Option (Option Nat) × Nat → SortSt → Prop} {body : Nat → Option (Option Nat) × Nat → StateT SortSt Sem (ForInStep (Option (Option Nat) × Nat))}
    (hb : ∀ x m (R : ForInStep (Option (Option Nat) × Nat) → SortSt → Prop), 1 ≤ m → m < n → (∀ p q, (arrOf st)[lo + m]? = some p → (arrOf st)[lo + m - 1]? = some q → R (if lt p q = true then .done (none, m) else .yield (none, m + 1)) st) → wpS (model prog w) A E s (body x (none, m)) R st)
    (ha : 1 ≤ a) (han : a ≤ n) (hsz : lo + n ≤ (arrOf st).size) (hs : SrtS lt (arrOf st) lo a)
    (h : ∀ m, a ≤ m → m ≤ n → SrtS lt (arrOf st) lo m → (m < n → ∀ p q, (arrOf st)[lo + m]? = some p → (arrOf st)[lo + m - 1]? = some q → lt p q = true) → Q (none, m) st) : wpS (model prog w) A E s (forIn [a:n] (none, a) body) Q st := by
  refine wpS_forRange (I := fun x c st' => st' = st ∧ c = (none, x) ∧ SrtS lt (arrOf st) lo x) ?_ ?_ ⟨rfl, rfl, hs⟩
  · rintro x c st' hax hxn ⟨rfl, rfl, g⟩
    refine hb x x _ (by omega) hxn fun p q hp hq => ?_
    cases e : lt p q with
    | true =>
      exact h x hax (by omega) g fun _ p' q' hp' hq' => by
        rw [hp] at hp'; rw [hq] at hq'; cases hp'; cases hq'; exact e
    | false => exact ⟨rfl, rfl, srt_snocS C.wo g (by omega) hq hp e⟩
  · rintro c st' ⟨rfl, rfl, g⟩
    rw [show max a n = n by omega] at g ⊢
    exact h n han (Nat.le_refl _) g fun z => by omega
theorem countRun_ok (C : Cmp prog w A E s kd D lt) {lo n : Nat} {st : SortSt} {Q : Option Nat → SortSt → Prop} (hn : 0 < n) (hsz : lo + n ≤ (arrOf st).size) (hD : ∀ x ∈ (arrOf st).toList, D x) (hk : kindOf st = kd)
    (h : ∀ m st', 1 ≤ m → m ≤ n → Kp lo n st st' → SrtS lt (arrOf st') lo m → Q (some m) st') : wpS (model prog w) A E s (countRun_ lo n) Q st := by
  have s1 : ∀ arr : Array Keyed, SrtS lt arr lo 1 := fun arr i j p q hij hj hp hq => by
    obtain rfl : i = 0 := by omega
    obtain rfl : j = 0 := by omega
    rw [hp] at hq; cases hq; exact C.wo.irr _
  refine wpS_bind (asc_loop C (lo := lo) (n := n) (a := 1) (st := st) (fun x m R h1 h2 hR => ?_) (Nat.le_refl _) hn hsz (s1 _) fun m hm1 hm2 g nx => ?_)
  · refine wpS_bind (ltAt_ok C (by omega) (by omega) hD hk fun p q hp hq => ?_)
    have := hR p q hp hq
    cases e : lt p q with
    | true => rw [e] at this; exact wpS_pure this
    | false => rw [e] at this; exact wpS_pure this
  refine wpS_if (c := (m == n)) (fun c1 => wpS_pure (h m st hm1 hm2 (Kp.refl _ _ _) g)) (fun c1 => ?_)
  have c1' := beq_no c1
  obtain ⟨pl, hpl⟩ := at_ok (show lo + m < (arrOf st).size by omega)
  obtain ⟨ql, hql⟩ := at_ok (show lo + m - 1 < (arrOf st).size by omega)
  have less := nx (by omega) pl ql hpl hql
  refine wpS_gt (k := m) (n := 1) (fun z => ?_) (fun z => ?_)
  · refine wpS_bind (ltAt_ok C (i := lo) (j := lo + m - 1) (by omega) (by omega) hD hk fun p q hp hq => ?_)
    cases e : lt p q with
    | true => exact wpS_pure (h m st hm1 hm2 (Kp.refl _ _ _) g)
    | false =>
      have eqs : EqS lt (arrOf st) lo (lo + m) := fun i j a b i1 i2 j1 j2 ha hb => by
        have ha' : (arrOf st)[lo + (i - lo)]? = some a := by rw [show lo + (i - lo) = i by omega]; exact ha
        have hb' : (arrOf st)[lo + (j - lo)]? = some b := by rw [show lo + (j - lo) = j by omega]; exact hb
        have l1 := g (i - lo) (m - 1) a q (by omega) (by omega) ha' (by rw [← hq]; congr 1; omega)
        have l2 := g 0 (j - lo) p b (by omega) (by omega) (by rw [Nat.add_zero]; exact hp) hb'
        have l3 := g 0 (i - lo) p a (by omega) (by omega) (by rw [Nat.add_zero]; exact hp) ha'
        have l4 := g (j - lo) (m - 1) b q (by omega) (by omega) hb' (by rw [← hq]; congr 1; omega)
        exact C.wo.leT l4 (C.wo.leT e l3)
      refine wpS_bind (rev_ok (i := lo) (j := lo + m) ?_)
      have k1 := kp_mirror (lo := lo) (n := n) (i := lo) (j := lo + m) (st := st) (Nat.le_refl _) (by omega) hsz
      have non0 : NonS lt (arrOf st) lo m := fun i j a b hij hj ha hb => eqs _ _ a b (by omega) (by omega) (by omega) (by omega) ha hb
      have non1 : NonS lt (arrOf (setArr st (mirror (arrOf st) lo (lo + m) ((lo + m - lo) / 2)))) lo (m + 1) := non_mirror (non_snoc C.wo non0 (by omega) hql hpl (C.wo.asym _ _ less)) eqs (Nat.le_refl _) (by omega) (by omega)
      generalize setArr st (mirror (arrOf st) lo (lo + m) ((lo + m - lo) / 2)) = st1 at k1 non1 ⊢
      refine wpS_bind (wpS_lift (wpAny_rule ⟨rfl, ?_⟩))
      refine wpS_bind (wpS_mono (wpS_forRange (a := m + 1) (b := n) (I := fun x c st' => ∃ neq, c = (none, x, neq) ∧ Kp lo n st st' ∧ NonS lt (arrOf st') lo x ∧ neq + 1 ≤ x ∧ EqS lt (arrOf st') (lo + x - (neq + 1)) (lo + x))
        (Q := fun c st' => ∃ x neq, c = (none, x, neq) ∧ m + 1 ≤ x ∧ x ≤ n ∧ Kp lo n st st' ∧ NonS lt (arrOf st') lo x ∧ neq + 1 ≤ x ∧ EqS lt (arrOf st') (lo + x - (neq + 1)) (lo + x)) ?_ ?_ ⟨0, rfl, k1, non1, by omega, eq_one C.wo _⟩) ?_)
      · rintro x c st2 hx1 hx2 ⟨neq, rfl, k2, g2, e1, e2⟩
        have z2 := k2.size
        have hD2 : ∀ y ∈ (arrOf st2).toList, D y := fun y hy => hD y (k2.perm.mem_iff.mp hy)
        have hk2 := k2.kind.trans hk
        refine wpS_bind (ltAt_ok C (i := lo + x) (j := lo + x - 1) (by omega) (by omega) hD2 hk2 fun p q hp hq => ?_)
        cases e : lt p q with
        | true =>
          have gs := non_snoc C.wo g2 (by omega) hq hp (C.wo.asym _ _ e)
          refine wpS_gt (k := neq) (n := 0) (fun z => ?_) (fun z => ?_)
          · refine wpS_bind (rev_ok (i := lo + x - (neq + 1)) (j := lo + x) ?_)
            exact wpS_pure ⟨0, rfl, k2.trans (kp_mirror (by omega) (by omega) (by omega)), non_mirror gs e2 (by omega) (by omega) (by omega), by omega, eq_one C.wo _⟩
          · exact wpS_pure ⟨0, rfl, k2, gs, by omega, eq_one C.wo _⟩
        | false =>
          refine wpS_bind (ltAt_ok C (i := lo + x - 1) (j := lo + x) (by omega) (by omega) hD2 hk2 fun q' p' hq' hp' => ?_)
          rw [hq] at hq'
          rw [hp] at hp'
          cases hq'; cases hp'
          cases e' : lt q p with
          | true => exact wpS_pure ⟨x, neq, rfl, hx1, by omega, k2, g2, e1, e2⟩
          | false =>
            refine wpS_pure ⟨neq + 1, rfl, k2, non_snoc C.wo g2 (by omega) hq hp e', by omega, ?_⟩
            have := eq_snoc C.wo e2 (by omega) hq hp e e'
            rw [show lo + (x + 1) - (neq + 1 + 1) = lo + x - (neq + 1) by omega]
            exact this
      · rintro c st2 ⟨neq, rfl, k2, g2, e1, e2⟩
        rw [show max (m + 1) n = n by omega] at g2 e1 e2 ⊢
        exact ⟨n, neq, rfl, by omega, Nat.le_refl _, k2, g2, e1, e2⟩
      · rintro c st2 ⟨x, neq, rfl, x1, x2, k2, g2, e1, e2⟩
        have z2 := k2.size
        refine wpS_gt (k := neq) (n := 0) (fun z => ?_) (fun z => ?_)
        · refine wpS_bind (rev_ok (i := lo + x - (neq + 1)) (j := lo + x) ?_)
          have k3 := k2.trans (kp_mirror (lo := lo) (n := n) (i := lo + x - (neq + 1)) (j := lo + x) (st := st2) (by omega) (by omega) (by omega))
          have g3 : NonS lt (arrOf (setArr st2 (mirror (arrOf st2) (lo + x - (neq + 1)) (lo + x) ((lo + x - (lo + x - (neq + 1))) / 2)))) lo x := non_mirror g2 e2 (by omega) (by omega) (by omega)
          generalize setArr st2 (mirror (arrOf st2) (lo + x - (neq + 1)) (lo + x) ((lo + x - (lo + x - (neq + 1))) / 2)) = st3 at k3 g3 ⊢
          refine wpS_bind (rev_ok (i := lo) (j := lo + x) ?_)
          have z3 := k3.size
          have k4 := k3.trans (kp_mirror (lo := lo) (n := n) (i := lo) (j := lo + x) (st := st3) (Nat.le_refl _) (by omega) (by omega))
          have g4 := srt_mirror g3 (by omega)
          refine wpS_bind (asc_loop C (lo := lo) (n := n) (a := x) (st := setArr st3 (mirror (arrOf st3) lo (lo + x) ((lo + x - lo) / 2))) (fun y m' R h1 h2 hR => ?_) (by omega) x2 (by rw [k4.size]; exact hsz) g4 fun m' a1 a2 g5 _ => wpS_pure (h m' _ (by omega) a2 k4 g5))
          refine wpS_bind (ltAt_ok C (by rw [k4.size]; omega) (by rw [k4.size]; omega) (fun y hy => hD y (k4.perm.mem_iff.mp hy)) (k4.kind.trans hk) fun p q hp hq => ?_)
          have := hR p q hp hq
          cases e : lt p q with
          | true => rw [e] at this; exact wpS_pure this
          | false => rw [e] at this; exact wpS_pure this

        · have k3 := k2
          have g3 := g2
          refine wpS_bind (rev_ok (i := lo) (j := lo + x) ?_)
          have z3 := k3.size
          have k4 := k3.trans (kp_mirror (lo := lo) (n := n) (i := lo) (j := lo + x) (st := st2) (Nat.le_refl _) (by omega) (by omega))
          have g4 := srt_mirror g3 (by omega)
          refine wpS_bind (asc_loop C (lo := lo) (n := n) (a := x) (st := setArr st2 (mirror (arrOf st2) lo (lo + x) ((lo + x - lo) / 2))) (fun y m' R h1 h2 hR => ?_) (by omega) x2 (by rw [k4.size]; exact hsz) g4 fun m' a1 a2 g5 _ => wpS_pure (h m' _ (by omega) a2 k4 g5))
          refine wpS_bind (ltAt_ok C (by rw [k4.size]; omega) (by rw [k4.size]; omega) (fun y hy => hD y (k4.perm.mem_iff.mp hy)) (k4.kind.trans hk) fun p q hp hq => ?_)
          have := hR p q hp hq
          cases e : lt p q with
          | true => rw [e] at this; exact wpS_pure this
          | false => rw [e] at this; exact wpS_pure this


  · obtain rfl : m = 1 := by omega
    have k1 := Kp.refl lo n st
    have non1 : NonS lt (arrOf st) lo (1 + 1) := non_snoc C.wo (fun i j a b hij hj ha hb => by
      obtain rfl : i = 0 := by omega
      obtain rfl : j = 0 := by omega
      rw [ha] at hb; cases hb; exact C.wo.irr _) (by omega) hql hpl (C.wo.asym _ _ less)
    refine wpS_bind (wpS_lift (wpAny_rule ⟨rfl, ?_⟩))
    refine wpS_bind (wpS_mono (wpS_forRange (a := 1 + 1) (b := n) (I := fun x c st' => ∃ neq, c = (none, x, neq) ∧ Kp lo n st st' ∧ NonS lt (arrOf st') lo x ∧ neq + 1 ≤ x ∧ EqS lt (arrOf st') (lo + x - (neq + 1)) (lo + x))
      (Q := fun c st' => ∃ x neq, c = (none, x, neq) ∧ 1 + 1 ≤ x ∧ x ≤ n ∧ Kp lo n st st' ∧ NonS lt (arrOf st') lo x ∧ neq + 1 ≤ x ∧ EqS lt (arrOf st') (lo + x - (neq + 1)) (lo + x)) ?_ ?_ ⟨0, rfl, k1, non1, by omega, eq_one C.wo _⟩) ?_)
    · rintro x c st2 hx1 hx2 ⟨neq, rfl, k2, g2, e1, e2⟩
      have z2 := k2.size
      have hD2 : ∀ y ∈ (arrOf st2).toList, D y := fun y hy => hD y (k2.perm.mem_iff.mp hy)
      have hk2 := k2.kind.trans hk
      refine wpS_bind (ltAt_ok C (i := lo + x) (j := lo + x - 1) (by omega) (by omega) hD2 hk2 fun p q hp hq => ?_)
      cases e : lt p q with
      | true =>
        have gs := non_snoc C.wo g2 (by omega) hq hp (C.wo.asym _ _ e)
        refine wpS_gt (k := neq) (n := 0) (fun z => ?_) (fun z => ?_)
        · refine wpS_bind (rev_ok (i := lo + x - (neq + 1)) (j := lo + x) ?_)
          exact wpS_pure ⟨0, rfl, k2.trans (kp_mirror (by omega) (by omega) (by omega)), non_mirror gs e2 (by omega) (by omega) (by omega), by omega, eq_one C.wo _⟩
        · exact wpS_pure ⟨0, rfl, k2, gs, by omega, eq_one C.wo _⟩
      | false =>
        refine wpS_bind (ltAt_ok C (i := lo + x - 1) (j := lo + x) (by omega) (by omega) hD2 hk2 fun q' p' hq' hp' => ?_)
        rw [hq] at hq'
        rw [hp] at hp'
        cases hq'; cases hp'
        cases e' : lt q p with
        | true => exact wpS_pure ⟨x, neq, rfl, hx1, by omega, k2, g2, e1, e2⟩
        | false =>
          refine wpS_pure ⟨neq + 1, rfl, k2, non_snoc C.wo g2 (by omega) hq hp e', by omega, ?_⟩
          have := eq_snoc C.wo e2 (by omega) hq hp e e'
          rw [show lo + (x + 1) - (neq + 1 + 1) = lo + x - (neq + 1) by omega]
          exact this
    · rintro c st2 ⟨neq, rfl, k2, g2, e1, e2⟩
      rw [show max (1 + 1) n = n by omega] at g2 e1 e2 ⊢
      exact ⟨n, neq, rfl, by omega, Nat.le_refl _, k2, g2, e1, e2⟩
    · rintro c st2 ⟨x, neq, rfl, x1, x2, k2, g2, e1, e2⟩
      have z2 := k2.size
      refine wpS_gt (k := neq) (n := 0) (fun z => ?_) (fun z => ?_)
      · refine wpS_bind (rev_ok (i := lo + x - (neq + 1)) (j := lo + x) ?_)
        have k3 := k2.trans (kp_mirror (lo := lo) (n := n) (i := lo + x - (neq + 1)) (j := lo + x) (st := st2) (by omega) (by omega) (by omega))
        have g3 : NonS lt (arrOf (setArr st2 (mirror (arrOf st2) (lo + x - (neq + 1)) (lo + x) ((lo + x - (lo + x - (neq + 1))) / 2)))) lo x := non_mirror g2 e2 (by omega) (by omega) (by omega)
        generalize setArr st2 (mirror (arrOf st2) (lo + x - (neq + 1)) (lo + x) ((lo + x - (lo + x - (neq + 1))) / 2)) = st3 at k3 g3 ⊢
        refine wpS_bind (rev_ok (i := lo) (j := lo + x) ?_)
        have z3 := k3.size
        have k4 := k3.trans (kp_mirror (lo := lo) (n := n) (i := lo) (j := lo + x) (st := st3) (Nat.le_refl _) (by omega) (by omega))
        have g4 := srt_mirror g3 (by omega)
        refine wpS_bind (asc_loop C (lo := lo) (n := n) (a := x) (st := setArr st3 (mirror (arrOf st3) lo (lo + x) ((lo + x - lo) / 2))) (fun y m' R h1 h2 hR => ?_) (by omega) x2 (by rw [k4.size]; exact hsz) g4 fun m' a1 a2 g5 _ => wpS_pure (h m' _ (by omega) a2 k4 g5))
        refine wpS_bind (ltAt_ok C (by rw [k4.size]; omega) (by rw [k4.size]; omega) (fun y hy => hD y (k4.perm.mem_iff.mp hy)) (k4.kind.trans hk) fun p q hp hq => ?_)
        have := hR p q hp hq
        cases e : lt p q with
        | true => rw [e] at this; exact wpS_pure this
        | false => rw [e] at this; exact wpS_pure this

      · have k3 := k2
        have g3 := g2
        refine wpS_bind (rev_ok (i := lo) (j := lo + x) ?_)
        have z3 := k3.size
        have k4 := k3.trans (kp_mirror (lo := lo) (n := n) (i := lo) (j := lo + x) (st := st2) (Nat.le_refl _) (by omega) (by omega))
        have g4 := srt_mirror g3 (by omega)
        refine wpS_bind (asc_loop C (lo := lo) (n := n) (a := x) (st := setArr st2 (mirror (arrOf st2) lo (lo + x) ((lo + x - lo) / 2))) (fun y m' R h1 h2 hR => ?_) (by omega) x2 (by rw [k4.size]; exact hsz) g4 fun m' a1 a2 g5 _ => wpS_pure (h m' _ (by omega) a2 k4 g5))
        refine wpS_bind (ltAt_ok C (by rw [k4.size]; omega) (by rw [k4.size]; omega) (fun y hy => hD y (k4.perm.mem_iff.mp hy)) (k4.kind.trans hk) fun p q hp hq => ?_)
        have := hR p q hp hq
        cases e : lt p q with
        | true => rw [e] at this; exact wpS_pure this
        | false => rw [e] at this; exact wpS_pure this


end
end L2

namespace L2
open PySem PySem.Spec PyProof.Rows
section
variable {prog : Program} {w : World} {A : Around} {E : Value → Shared → Prop} {s : Shared} {kd : SortKind} {D : Keyed → Prop} {lt : Keyed → Keyed → Bool}
theorem move_ok {M : Model} {i j : Nat} {st : SortSt} {Q : Unit → SortSt → Prop} (h : Q () (setArr st (bubble (arrOf st) i (i - j)))) : wpS M A E s (moveDown' i j) Q st := by
  rw [moveDown'_eq]; exact wpS_modify h
theorem binarySort_ok (C : Cmp prog w A E s kd D lt) {lo n ok : Nat} {st : SortSt} {Q : Bool → SortSt → Prop} (h1 : 1 ≤ ok) (hok : ok ≤ n) (hsz : lo + n ≤ (arrOf st).size) (hD : ∀ x ∈ (arrOf st).toList, D x) (hk : kindOf st = kd) (hs : SrtS lt (arrOf st) lo ok)
    (h : ∀ st', Kp lo n st st' → SrtS lt (arrOf st') lo n → Q true st') : wpS (model prog w) A E s (binarySort_ lo n ok) Q st := by
  refine wpS_bind (wpS_mono (wpS_forRange (a := max ok 1) (b := n) (I := fun k c st' => c = (none, ()) ∧ Kp lo n st st' ∧ SrtS lt (arrOf st') lo k) (Q := fun c st' => c = (none, ()) ∧ Kp lo n st st' ∧ SrtS lt (arrOf st') lo n) ?_ ?_ ⟨rfl, Kp.refl _ _ _, by rw [show max ok 1 = ok by omega]; exact hs⟩) ?_)
  · rintro k c st1 hk1 hk2 ⟨rfl, kp, g⟩
    have z1 := kp.size
    obtain ⟨e, he⟩ := at_ok (show lo + k < (arrOf st1).size by omega)
    refine wpS_bind (wpS_mono (wpS_forRange (a := 0) (b := k) (I := fun x c st' => st' = st1 ∧ ∃ l r, c = (none, l, r) ∧ l ≤ r ∧ r ≤ k ∧ r - l ≤ k - x ∧ (∀ i p, i < l → (arrOf st1)[lo + i]? = some p → lt e p = false) ∧ ∀ i p, r ≤ i → i < k → (arrOf st1)[lo + i]? = some p → lt e p = true)
      (Q := fun c st' => st' = st1 ∧ ∃ l r, c = (none, l, r) ∧ l ≤ k ∧ (∀ i p, i < l → (arrOf st1)[lo + i]? = some p → lt e p = false) ∧ ∀ i p, l ≤ i → i < k → (arrOf st1)[lo + i]? = some p → lt e p = true) ?_ ?_ ⟨rfl, 0, k, rfl, by omega, by omega, by omega, fun i p hi => by omega, fun i p h1 h2 => by omega⟩) ?_)
    · rintro x c st' _ hx ⟨rfl, l, r, rfl, g1, g2, g3, g4, g5⟩
      dsimp only
      by_cases hge : l ≥ r
      · rw [if_pos hge]
        obtain rfl : l = r := by omega
        exact wpS_pure ⟨rfl, l, l, rfl, g2, g4, g5⟩
      · rw [if_neg hge]
        refine wpS_bind (ltAt_ok C (i := lo + k) (j := lo + (l + r) / 2) (by omega) (by omega) (fun y hy => hD y (kp.perm.mem_iff.mp hy)) (kp.kind.trans hk) fun p q hp hq => ?_)
        rw [he] at hp
        cases hp
        cases c : lt e q with
        | true =>
          refine wpS_pure ⟨rfl, l, (l + r) / 2, rfl, by omega, by omega, by omega, g4, fun i p i1 i2 hp => ?_⟩
          rcases C.wo.neg e p q c with z | z
          · exact z
          · rw [g ((l + r) / 2) i q p i1 i2 hq hp] at z; cases z
        | false =>
          refine wpS_pure ⟨rfl, (l + r) / 2 + 1, r, rfl, by omega, by omega, by omega, fun i p i1 hp => ?_, g5⟩
          exact C.wo.leT (g i ((l + r) / 2) p q (by omega) (by omega) hp hq) c
    · rintro c st' ⟨rfl, l, r, rfl, g1, g2, g3, g4, g5⟩
      obtain rfl : l = r := by omega
      exact ⟨rfl, l, l, rfl, g2, g4, g5⟩
    · rintro c st' ⟨rfl, l, r, rfl, g2, g4, g5⟩
      refine wpS_bind (move_ok (i := lo + k) (j := lo + l) ?_)
      have sz : lo + k < (arrOf st').size := by omega
      refine wpS_pure ⟨rfl, kp.trans ⟨rfl, rfl, rfl, Array.perm_iff_toList_perm.mp (bubble_perm _ _ _), fun i hi => ?_⟩, fun i j p q hij hj hp hq => ?_⟩
      · show (bubble (arrOf st') (lo + k) (lo + k - (lo + l)))[i]? = _
        rw [getElem?_bubble sz _ (by omega), if_neg (by omega), if_neg (by omega)]
      · rw [show arrOf (setArr st' (bubble (arrOf st') (lo + k) (lo + k - (lo + l)))) = bubble (arrOf st') (lo + k) (lo + k - (lo + l)) from rfl, getElem?_bubble sz _ (by omega)] at hp hq
        rw [show lo + k - (lo + k - (lo + l)) = lo + l by omega] at hp hq
        by_cases ci : i = l <;> by_cases cj : j = l
        · subst ci; subst cj
          rw [if_pos rfl] at hp hq
          rw [hp] at hq; cases hq; exact C.wo.irr _
        · subst ci
          rw [if_pos rfl, he] at hp
          cases hp
          rw [if_neg (by omega), if_pos (by omega)] at hq
          exact C.wo.asym _ _ (g5 (j - 1) q (by omega) (by omega) (by rw [← hq]; congr 1; omega))
        · subst cj
          rw [if_neg (by omega), if_neg (by omega)] at hp
          rw [if_pos rfl, he] at hq
          cases hq
          exact g4 i p (by omega) hp
        · rw [if_neg (by omega)] at hp hq
          by_cases di : i < l <;> by_cases dj : j < l
          · rw [if_neg (by omega)] at hp hq
            exact g i j p q hij (by omega) hp hq
          · rw [if_neg (by omega)] at hp
            rw [if_pos (by omega)] at hq
            exact g i (j - 1) p q (by omega) (by omega) hp (by rw [← hq]; congr 1; omega)
          · omega
          · rw [if_pos (by omega)] at hp hq
            exact g (i - 1) (j - 1) p q (by omega) (by omega) (by rw [← hp]; congr 1; omega) (by rw [← hq]; congr 1; omega)
  · rintro c st1 ⟨rfl, kp, g⟩
    rw [show max (max ok 1) n = n by omega] at g
    exact ⟨rfl, kp, g⟩
  · rintro c st1 ⟨rfl, kp, g⟩
    exact wpS_pure (h st1 kp g)
/-- the runs that are waiting to be merged -/
def PendOk (p : List (Nat × Nat × Nat)) (rs : List (List Keyed)) : Prop := p.length = rs.length ∧ ∀ i r, rs[i]? = some r → ∃ pw, p[i]? = some ((rs.take i).flatten.length, r.length, pw)
theorem pend_nil : PendOk [] [] := ⟨rfl, fun i r h => by simp at h⟩
theorem pend_push {p : List (Nat × Nat × Nat)} {rs : List (List Keyed)} (h : PendOk p rs) (r : List Keyed) (pw : Nat) : PendOk (p ++ [(rs.flatten.length, r.length, pw)]) (rs ++ [r]) := by
  refine ⟨by simp [h.1], fun i x hx => ?_⟩
  by_cases c : i < rs.length
  · rw [List.getElem?_append_left c] at hx
    obtain ⟨q, hq⟩ := h.2 i x hx
    exact ⟨q, by rw [List.getElem?_append_left (by rw [h.1]; exact c), hq, List.take_append_of_le_length (by omega)]⟩
  · have hi : i = rs.length := by
      have := (List.getElem?_eq_some_iff.mp hx).1
      rw [List.length_append, List.length_singleton] at this
      omega
    subst hi
    rw [List.getElem?_append_right (Nat.le_refl _), Nat.sub_self] at hx
    simp at hx
    subst hx
    refine ⟨pw, ?_⟩
    rw [← h.1, List.getElem?_append_right (Nat.le_refl _), Nat.sub_self, h.1, List.take_append_of_le_length (Nat.le_refl _), List.take_of_length_le (Nat.le_refl _)]
    rfl
theorem pend_pow {p : List (Nat × Nat × Nat)} {rs : List (List Keyed)} (h : PendOk p rs) (k : Nat) (f : Nat × Nat × Nat → Nat × Nat × Nat) (hf : ∀ a b c, ∃ d, f (a, b, c) = (a, b, d)) : PendOk (p.modify k f) rs := by
  refine ⟨by rw [List.length_modify]; exact h.1, fun i x hx => ?_⟩
  obtain ⟨q, hq⟩ := h.2 i x hx
  rw [List.getElem?_modify, hq]
  by_cases c : k = i
  · obtain ⟨d, hd⟩ := hf (rs.take i).flatten.length x.length q
    exact ⟨d, by rw [Option.map_eq_map, Option.map_some, if_pos c, hd]⟩
  · exact ⟨q, by simp [c]⟩
theorem pend_merge {p : List (Nat × Nat × Nat)} {U B : List (List Keyed)} {X Y Z : List Keyed} {pw : Nat} (h : PendOk p (U ++ (X :: Y :: B))) (hz : Z.length = X.length + Y.length) : PendOk ((p.set U.length (U.flatten.length, X.length + Y.length, pw)).eraseIdx (U.length + 1)) (U ++ (Z :: B)) := by
  have hl := h.1
  simp only [List.length_append, List.length_cons] at hl
  refine ⟨by rw [List.length_eraseIdx_of_lt (by rw [List.length_set]; omega), List.length_set]; simp only [List.length_append, List.length_cons]; omega, fun i x hx => ?_⟩
  rw [List.getElem?_eraseIdx]
  by_cases c1 : i < U.length
  · rw [if_pos (by omega), List.getElem?_set_ne (by omega)]
    rw [List.getElem?_append_left c1] at hx
    obtain ⟨q, hq⟩ := h.2 i x (by rw [List.getElem?_append_left c1]; exact hx)
    refine ⟨q, ?_⟩
    rw [hq, List.take_append_of_le_length (by omega), List.take_append_of_le_length (by omega)]
  · by_cases c2 : i = U.length
    · subst c2
      rw [List.getElem?_append_right (Nat.le_refl _), Nat.sub_self] at hx
      simp at hx
      subst hx
      refine ⟨pw, ?_⟩
      rw [if_pos (by omega), List.getElem?_set_self (by omega), hz, List.take_append_of_le_length (Nat.le_refl _), List.take_of_length_le (Nat.le_refl _)]
    · rw [if_neg (by omega), List.getElem?_set_ne (by omega)]
      obtain ⟨j, rfl⟩ : ∃ j, i = U.length + (j + 1) := ⟨i - U.length - 1, by omega⟩
      rw [List.getElem?_append_right (by omega), Nat.add_sub_cancel_left, List.getElem?_cons_succ] at hx
      obtain ⟨q, hq⟩ := h.2 (U.length + (j + 1 + 1)) x (by
        rw [List.getElem?_append_right (by omega), Nat.add_sub_cancel_left, List.getElem?_cons_succ, List.getElem?_cons_succ]
        exact hx)
      refine ⟨q, ?_⟩
      rw [show U.length + (j + 1) + 1 = U.length + (j + 1 + 1) by omega, hq]
      congr 2
      rw [List.take_append, List.take_append, List.take_of_length_le (l := U) (by omega), List.take_of_length_le (l := U) (by omega), Nat.add_sub_cancel_left, Nat.add_sub_cancel_left]
      simp only [List.take_succ_cons, List.flatten_append, List.flatten_cons, List.length_append]
      omega
end
end L2

namespace L2
open PySem PySem.Spec PyProof.Rows
section
variable {prog : Program} {w : World} {A : Around} {E : Value → Shared → Prop} {s : Shared} {kd : SortKind} {D : Keyed → Prop} {lt : Keyed → Keyed → Bool}
/-- runs waiting, behind which S stands -/
structure Rn (lt : Keyed → Keyed → Bool) (kd : SortKind) (l₀ : List Keyed) (rs : List (List Keyed)) (S : List Keyed) (st : SortSt) : Prop where
  arr : (arrOf st).toList = rs.flatten ++ S
  srt : ∀ r ∈ rs, Srt lt r ∧ 0 < r.length
  pend : PendOk (pendingOf st).toList rs
  perm : (arrOf st).toList.Perm l₀
  kind : kindOf st = kd
  fail : failedOf st = none
theorem Rn.cut {l₀ : List Keyed} {rs : List (List Keyed)} {S : List Keyed} {st : SortSt} (R : Rn lt kd l₀ rs S st) {i : Nat} (hi : i + 1 < rs.length) : ∃ U X Y B, rs = U ++ (X :: Y :: B) ∧ U.length = i := by
  refine ⟨rs.take i, rs[i], rs[i + 1], rs.drop (i + 2), ?_, by rw [List.length_take]; omega⟩
  conv => lhs; rw [← List.take_append_drop i rs, List.drop_eq_getElem_cons (by omega), List.drop_eq_getElem_cons (by omega)]
theorem mergeRn (C : Cmp prog w A E s kd D lt) {l₀ : List Keyed} {rs : List (List Keyed)} {S : List Keyed} {st : SortSt} {i : Nat} {Q : Bool → SortSt → Prop} (R : Rn lt kd l₀ rs S st) (hD : ∀ x ∈ l₀, D x) (hi : i + 1 < rs.length)
    (h : ∀ rs' st', Rn lt kd l₀ rs' S st' → rs'.length + 1 = rs.length → rs'.flatten.length = rs.flatten.length → Q true st') : wpS (model prog w) A E s (mergeAt_ i) Q st := by
  obtain ⟨U, X, Y, B, rfl, rfl⟩ := R.cut hi
  obtain ⟨p1, e1⟩ := R.pend.2 U.length X (by rw [List.getElem?_append_right (Nat.le_refl _), Nat.sub_self]; rfl)
  obtain ⟨p2, e2⟩ := R.pend.2 (U.length + 1) Y (by rw [List.getElem?_append_right (by omega), Nat.add_sub_cancel_left]; rfl)
  rw [List.take_append_of_le_length (Nat.le_refl _), List.take_of_length_le (Nat.le_refl _), Array.getElem?_toList] at e1
  rw [List.take_append, List.take_of_length_le (by omega), Nat.add_sub_cancel_left, List.take_succ_cons, List.take_zero, Array.getElem?_toList] at e2
  simp only [List.flatten_append, List.flatten_cons, List.flatten_nil, List.append_nil, List.length_append] at e2
  have hX := R.srt X (by simp)
  have hY := R.srt Y (by simp)
  refine mergeAt_ok C (P := U.flatten) (X := X) (Y := Y) (S := B.flatten ++ S) e1 e2 (by rw [R.arr]; simp only [List.flatten_append, List.flatten_cons, List.append_assoc]) rfl rfl rfl rfl hX.2 hY.2 hX.1 hY.1 (fun x hx => hD x (R.perm.mem_iff.mp hx)) R.kind R.fail fun Z st' sZ pZ aZ pe kz fz => ?_
  have lz : Z.length = X.length + Y.length := by rw [pZ.length_eq, List.length_append]
  refine h (U ++ (Z :: B)) st' ⟨?_, fun r hr => ?_, ?_, ?_, kz, fz⟩ ?_ ?_
  · rw [aZ]; simp only [List.flatten_append, List.flatten_cons, List.append_assoc]
  · rcases List.mem_append.mp hr with z | z
    · exact R.srt r (List.mem_append_left _ z)
    · rcases List.mem_cons.mp z with rfl | z
      · exact ⟨sZ, by omega⟩
      · exact R.srt r (by simp [z])
  · rw [pe, Array.toList_eraseIdxIfInBounds, Array.toList_setIfInBounds]
    exact pend_merge R.pend lz
  · refine List.Perm.trans ?_ R.perm
    rw [aZ, R.arr]
    simp only [List.flatten_append, List.flatten_cons, List.append_assoc]
    refine List.Perm.append_left _ ?_
    rw [← List.append_assoc X]
    exact pZ.append_right _
  · simp
    omega
  · simp only [List.flatten_append, List.flatten_cons, List.length_append]
    omega
theorem Rn.low {l₀ : List Keyed} {rs : List (List Keyed)} {S : List Keyed} {st : SortSt} (R : Rn lt kd l₀ rs S st) : rs.length ≤ rs.flatten.length := by
  have : ∀ rs : List (List Keyed), (∀ r ∈ rs, 0 < r.length) → rs.length ≤ rs.flatten.length := by
    intro rs
    induction rs with
    | nil => intro _; exact Nat.le_refl _
    | cons r rs ih =>
      intro hr
      have h1 := hr r List.mem_cons_self
      have h2 := ih fun x hx => hr x (List.mem_cons_of_mem _ hx)
      rw [List.length_cons, List.flatten_cons, List.length_append]
      omega
  exact this rs fun r hr => (R.srt r hr).2
/-- what stands behind the runs is put in another order -/
theorem Rn.put {l₀ : List Keyed} {rs : List (List Keyed)} {S : List Keyed} {st st' : SortSt} {n : Nat} (R : Rn lt kd l₀ rs S st) (k : Kp rs.flatten.length n st st') : ∃ S', Rn lt kd l₀ rs S' st' ∧ S'.length = S.length := by
  have hlen : (arrOf st').toList.length = (arrOf st).toList.length := k.perm.length_eq
  have et : (arrOf st').toList.take rs.flatten.length = rs.flatten := by
    have e0 : (arrOf st).toList.take rs.flatten.length = rs.flatten := by rw [R.arr, List.take_append_of_le_length (Nat.le_refl _), List.take_of_length_le (Nat.le_refl _)]
    rw [← e0]
    refine List.ext_getElem? fun i => ?_
    by_cases c : i < rs.flatten.length
    · rw [List.getElem?_take_of_lt (by rw [e0]; exact c), List.getElem?_take_of_lt c, Array.getElem?_toList, Array.getElem?_toList]
      exact k.out i (.inl c)
    · rw [List.getElem?_eq_none (by rw [List.length_take, e0]; omega), List.getElem?_eq_none (by rw [List.length_take]; omega)]
  refine ⟨(arrOf st').toList.drop rs.flatten.length, ⟨?_, R.srt, by rw [k.pend]; exact R.pend, k.perm.trans R.perm, k.kind.trans R.kind, k.fail.trans R.fail⟩, ?_⟩
  · conv => lhs; rw [← List.take_append_drop rs.flatten.length (arrOf st').toList, et]
  · rw [List.length_drop, hlen, R.arr, List.length_append]; omega
theorem Rn.seg {l₀ : List Keyed} {rs : List (List Keyed)} {S : List Keyed} {st : SortSt} (C : Wo lt) (R : Rn lt kd l₀ rs S st) {n : Nat} (hn : n ≤ S.length) (h : SrtS lt (arrOf st) rs.flatten.length n) : Srt lt (S.take n) := by
  refine List.pairwise_iff_getElem.mpr fun i j hi hj hij => ?_
  rw [List.length_take] at hi hj
  have at_ : ∀ k (hk : k < S.length), (arrOf st)[rs.flatten.length + k]? = some S[k] := fun k hk => by
    rw [← Array.getElem?_toList, R.arr, List.getElem?_append_right (by omega), Nat.add_sub_cancel_left, List.getElem?_eq_getElem hk]
  rw [List.getElem_take, List.getElem_take]
  exact h i j _ _ (by omega) (by omega) (at_ i (by omega)) (at_ j (by omega))
theorem Rn.more {l₀ : List Keyed} {rs : List (List Keyed)} {S : List Keyed} {st : SortSt} (R : Rn lt kd l₀ rs S st) {n : Nat} (h0 : 0 < n) (hn : n ≤ S.length) (h : Srt lt (S.take n)) {g : Nat} {pw : Nat} :
    Rn lt kd l₀ (rs ++ [S.take n]) (S.drop n) (SortSt.mk' (kindOf st) (arrOf st) ((pendingOf st).push (rs.flatten.length, n, pw)) g (failedOf st)) := by
  refine ⟨?_, fun r hr => ?_, ?_, R.perm, R.kind, R.fail⟩
  · show (arrOf st).toList = _
    rw [R.arr]
    simp only [List.flatten_append, List.flatten_cons, List.flatten_nil, List.append_nil, List.append_assoc, List.take_append_drop]
  · rcases List.mem_append.mp hr with z | z
    · exact R.srt r z
    · rw [List.mem_singleton.mp z]
      exact ⟨h, by rw [List.length_take]; omega⟩
  · show PendOk ((pendingOf st).push _).toList _
    rw [Array.toList_push]
    have := pend_push R.pend (S.take n) pw
    rw [show (S.take n).length = n by rw [List.length_take]; omega] at this
    exact this
theorem ite_pred {c : Bool} {k : Nat} : (if c = true then k - 1 else k) ≤ k := by split <;> omega
theorem Rn.pow {l₀ : List Keyed} {rs : List (List Keyed)} {S : List Keyed} {st : SortSt} (R : Rn lt kd l₀ rs S st) {k g : Nat} {f : Nat × Nat × Nat → Nat × Nat × Nat} (hf : ∀ a b c, ∃ d, f (a, b, c) = (a, b, d)) :
    Rn lt kd l₀ rs S (SortSt.mk' (kindOf st) (arrOf st) ((pendingOf st).modify k f) g (failedOf st)) := by
  refine ⟨R.arr, R.srt, ?_, R.perm, R.kind, R.fail⟩
  show PendOk ((pendingOf st).modify k f).toList rs
  rw [Array.toList_modify]
  exact pend_pow R.pend k f hf
theorem wpS_le {β : Type} {M : Model} {st : SortSt} {Q : β → SortSt → Prop} {k n : Nat} {X Y : StateT SortSt Sem β} (h1 : k ≤ n → wpS M A E s X Q st) (h2 : n < k → wpS M A E s Y Q st) : wpS M A E s (if k ≤ n then X else Y) Q st := by
  by_cases h : k ≤ n
  · rw [if_pos h]; exact h1 h
  · rw [if_neg h]; exact h2 (by omega)
theorem wpS_lt {β : Type} {M : Model} {st : SortSt} {Q : β → SortSt → Prop} {k n : Nat} {X Y : StateT SortSt Sem β} (h1 : k < n → wpS M A E s X Q st) (h2 : n ≤ k → wpS M A E s Y Q st) : wpS M A E s (if k < n then X else Y) Q st := by
  by_cases h : k < n
  · rw [if_pos h]; exact h1 h
  · rw [if_neg h]; exact h2 (by omega)
theorem sortRuns_ok (C : Cmp prog w A E s kd D lt) {st : SortSt} {Q : Unit → SortSt → Prop} (hD : ∀ x ∈ (arrOf st).toList, D x) (hk : kindOf st = kd) (hf : failedOf st = none) (hp : pendingOf st = #[])
    (h : ∀ st', (arrOf st').toList.Perm (arrOf st).toList → Srt lt (arrOf st').toList → failedOf st' = none → Q () st') : wpS (model prog w) A E s sortRuns_ Q st := by
  have zs : (arrOf st).size = (arrOf st).toList.length := by simp
  have R0 : Rn lt kd (arrOf st).toList [] (arrOf st).toList st := ⟨rfl, fun r hr => (by cases hr), by rw [hp]; exact pend_nil, .refl _, hk, hf⟩
  refine wpS_bind (wpS_get ?_)
  refine wpS_bind (wpS_mono (wpS_forRange (a := 0) (b := (arrOf st).size) (I := fun x c st' => ∃ rs S, c = (none, rs.flatten.length) ∧ Rn lt kd (arrOf st).toList rs S st' ∧ (x ≤ rs.flatten.length ∨ S = []))
    (Q := fun c st' => ∃ rs, c.1 = none ∧ Rn lt kd (arrOf st).toList rs [] st') ?_ ?_ ⟨[], _, rfl, R0, .inl (Nat.zero_le _)⟩) ?_)
  · rintro x c st1 _ hx ⟨rs, S, rfl, R, pr⟩
    have ln : rs.flatten.length + S.length = (arrOf st).size := by
      have := R.perm.length_eq
      rw [R.arr, List.length_append] at this
      omega
    have z1 : (arrOf st1).size = (arrOf st).size := by
      have := R.perm.length_eq
      simpa using this
    by_cases c0 : rs.flatten.length ≥ (arrOf st).size
    · show wpS _ _ _ _ (if rs.flatten.length ≥ (arrOf st).size then _ else _) _ _
      rw [if_pos c0]
      obtain rfl : S = [] := List.length_eq_zero_iff.mp (by omega)
      exact wpS_pure ⟨rs, rfl, R⟩
    · show wpS _ _ _ _ (if rs.flatten.length ≥ (arrOf st).size then _ else _) _ _
      rw [if_neg c0]
      refine wpS_bind (countRun_ok C (lo := rs.flatten.length) (n := (arrOf st).size - rs.flatten.length) (by omega) (by omega) (fun y hy => hD y (R.perm.mem_iff.mp hy)) R.kind fun m st2 m1 m2 kp sm => ?_)
      obtain ⟨S2, R2, l2⟩ := R.put kp
      have sz2 : m ≤ S2.length := by omega
      have z2 : (arrOf st2).size = (arrOf st).size := by rw [kp.size, z1]
      have prx : x ≤ rs.flatten.length := by
        rcases pr with z | z
        · exact z
        · have := congrArg List.length z
          rw [List.length_nil] at this
          omega
      show wpS _ _ _ _ (if m < (sortPriv% PySem.Builtin.minRun) (arrOf st).size (arrOf st).size 0 then _ else _) _ _
      generalize (sortPriv% PySem.Builtin.minRun) (arrOf st).size (arrOf st).size 0 = mr
      refine wpS_lt (fun c1 => ?_) (fun c1 => ?_)
      · refine wpS_bind (wpS_lift (wpAny_rule ⟨rfl, ?_⟩))
        refine wpS_bind (binarySort_ok C (lo := rs.flatten.length) (n := min ((arrOf st).size - rs.flatten.length) mr) (ok := m) m1 (by omega) (by omega) (fun y hy => hD y (R2.perm.mem_iff.mp hy)) R2.kind sm fun st3 kp3 sm3 => ?_)
        obtain ⟨S3, R3, l3⟩ := R2.put kp3
        have hn0 : 0 < min ((arrOf st).size - rs.flatten.length) mr := by omega
        have hn1 : min ((arrOf st).size - rs.flatten.length) mr ≤ S3.length := by omega
        have hs := R3.seg C.wo hn1 sm3
        refine wpS_bind (wpS_get ?_)
        generalize hbk : (pendingOf st3).back? = bk
        cases bk with
        | none =>
          have l5 : rs.flatten.length = rs.flatten.length := rfl
          refine wpS_bind (wpS_modify ?_)
          have R6 := R3.more (pw := 0) (g := gallopOf (st3)) hn0 hn1 hs
          rw [l5] at R6
          refine wpS_pure ⟨rs ++ [S3.take (min ((arrOf st).size - rs.flatten.length) mr)], S3.drop (min ((arrOf st).size - rs.flatten.length) mr), ?_, R6, .inl ?_⟩
          · show ((none : Option Unit), rs.flatten.length + (min ((arrOf st).size - rs.flatten.length) mr)) = _
            congr 1
            simp only [List.flatten_append, List.flatten_cons, List.flatten_nil, List.append_nil, List.length_append, List.length_take]
            omega
          · simp only [List.flatten_append, List.flatten_cons, List.flatten_nil, List.append_nil, List.length_append, List.length_take]
            omega

        | some t =>
          obtain ⟨s1, n1, w1⟩ := t
          refine wpS_bind (wpS_mono (wpS_forRange (a := 0) (b := (arrOf st).size) (I := fun _ c st' => c = (none, ()) ∧ ∃ rs', Rn lt kd (arrOf st).toList rs' S3 st' ∧ rs'.flatten.length = rs.flatten.length) (Q := fun c st' => c = (none, ()) ∧ ∃ rs', Rn lt kd (arrOf st).toList rs' S3 st' ∧ rs'.flatten.length = rs.flatten.length) ?_ (fun _ _ z => z) ⟨rfl, rs, R3, rfl⟩) ?_)
          · rintro y c st4 _ _ ⟨rfl, rs', R4, l4⟩
            have pl : (pendingOf st4).size = rs'.length := by rw [← R4.pend.1]; simp
            refine wpS_bind (wpS_get ?_)
            show wpS _ _ _ _ (match (if (pendingOf st4).size > 1 then (pendingOf st4)[(pendingOf st4).size - 2]? else none) with | some (_, _, older) => _ | x => _) _ _
            by_cases hp1 : (pendingOf st4).size > 1
            · rw [if_pos hp1]
              obtain ⟨t, ht⟩ : ∃ t, (pendingOf st4)[(pendingOf st4).size - 2]? = some t := ⟨_, getElem?_pos _ _ (by omega)⟩
              rw [ht]
              obtain ⟨a1, a2, older⟩ := t
              refine wpS_le (fun _ => wpS_pure ⟨rfl, rs', R4, l4⟩) (fun _ => ?_)
              refine wpS_bind (mergeRn C R4 hD (i := (pendingOf st4).size - 2) (by omega) fun rs'' st5 R5 a5 b5 => ?_)
              exact wpS_pure ⟨rfl, rs'', R5, by omega⟩
            · rw [if_neg hp1]
              exact wpS_pure ⟨rfl, rs', R4, l4⟩
          · rintro c st4 ⟨rfl, rs', R4, l5⟩
            refine wpS_bind (wpS_modify ?_)
            have R5 := R4.pow (k := (pendingOf st4).size - 1) (f := fun x => match x with | (u, len, _) => (u, len, (sortPriv% PySem.Builtin.power) (arrOf st).size (2 * s1 + n1) (2 * s1 + n1 + n1 + (min ((arrOf st).size - rs.flatten.length) mr)) (arrOf st).size)) (g := gallopOf st4) fun a b c => ⟨_, rfl⟩
            refine wpS_bind (wpS_modify ?_)
            have R6 := R5.more (pw := 0) (g := gallopOf (st4)) hn0 hn1 hs
            rw [l5] at R6
            refine wpS_pure ⟨rs' ++ [S3.take (min ((arrOf st).size - rs.flatten.length) mr)], S3.drop (min ((arrOf st).size - rs.flatten.length) mr), ?_, R6, .inl ?_⟩
            · show ((none : Option Unit), rs.flatten.length + (min ((arrOf st).size - rs.flatten.length) mr)) = _
              congr 1
              simp only [List.flatten_append, List.flatten_cons, List.flatten_nil, List.append_nil, List.length_append, List.length_take]
              omega
            · simp only [List.flatten_append, List.flatten_cons, List.flatten_nil, List.append_nil, List.length_append, List.length_take]
              omega


      · have hs := R2.seg C.wo sz2 sm
        have hn0 : 0 < m := by omega
        refine wpS_bind (wpS_get ?_)
        generalize hbk : (pendingOf st2).back? = bk
        cases bk with
        | none =>
          have l5 : rs.flatten.length = rs.flatten.length := rfl
          refine wpS_bind (wpS_modify ?_)
          have R6 := R2.more (pw := 0) (g := gallopOf (st2)) hn0 sz2 hs
          rw [l5] at R6
          refine wpS_pure ⟨rs ++ [S2.take (m)], S2.drop (m), ?_, R6, .inl ?_⟩
          · show ((none : Option Unit), rs.flatten.length + (m)) = _
            congr 1
            simp only [List.flatten_append, List.flatten_cons, List.flatten_nil, List.append_nil, List.length_append, List.length_take]
            omega
          · simp only [List.flatten_append, List.flatten_cons, List.flatten_nil, List.append_nil, List.length_append, List.length_take]
            omega

        | some t =>
          obtain ⟨s1, n1, w1⟩ := t
          refine wpS_bind (wpS_mono (wpS_forRange (a := 0) (b := (arrOf st).size) (I := fun _ c st' => c = (none, ()) ∧ ∃ rs', Rn lt kd (arrOf st).toList rs' S2 st' ∧ rs'.flatten.length = rs.flatten.length) (Q := fun c st' => c = (none, ()) ∧ ∃ rs', Rn lt kd (arrOf st).toList rs' S2 st' ∧ rs'.flatten.length = rs.flatten.length) ?_ (fun _ _ z => z) ⟨rfl, rs, R2, rfl⟩) ?_)
          · rintro y c st4 _ _ ⟨rfl, rs', R4, l4⟩
            have pl : (pendingOf st4).size = rs'.length := by rw [← R4.pend.1]; simp
            refine wpS_bind (wpS_get ?_)
            show wpS _ _ _ _ (match (if (pendingOf st4).size > 1 then (pendingOf st4)[(pendingOf st4).size - 2]? else none) with | some (_, _, older) => _ | x => _) _ _
            by_cases hp1 : (pendingOf st4).size > 1
            · rw [if_pos hp1]
              obtain ⟨t, ht⟩ : ∃ t, (pendingOf st4)[(pendingOf st4).size - 2]? = some t := ⟨_, getElem?_pos _ _ (by omega)⟩
              rw [ht]
              obtain ⟨a1, a2, older⟩ := t
              refine wpS_le (fun _ => wpS_pure ⟨rfl, rs', R4, l4⟩) (fun _ => ?_)
              refine wpS_bind (mergeRn C R4 hD (i := (pendingOf st4).size - 2) (by omega) fun rs'' st5 R5 a5 b5 => ?_)
              exact wpS_pure ⟨rfl, rs'', R5, by omega⟩
            · rw [if_neg hp1]
              exact wpS_pure ⟨rfl, rs', R4, l4⟩
          · rintro c st4 ⟨rfl, rs', R4, l5⟩
            refine wpS_bind (wpS_modify ?_)
            have R5 := R4.pow (k := (pendingOf st4).size - 1) (f := fun x => match x with | (u, len, _) => (u, len, (sortPriv% PySem.Builtin.power) (arrOf st).size (2 * s1 + n1) (2 * s1 + n1 + n1 + (m)) (arrOf st).size)) (g := gallopOf st4) fun a b c => ⟨_, rfl⟩
            refine wpS_bind (wpS_modify ?_)
            have R6 := R5.more (pw := 0) (g := gallopOf (st4)) hn0 sz2 hs
            rw [l5] at R6
            refine wpS_pure ⟨rs' ++ [S2.take (m)], S2.drop (m), ?_, R6, .inl ?_⟩
            · show ((none : Option Unit), rs.flatten.length + (m)) = _
              congr 1
              simp only [List.flatten_append, List.flatten_cons, List.flatten_nil, List.append_nil, List.length_append, List.length_take]
              omega
            · simp only [List.flatten_append, List.flatten_cons, List.flatten_nil, List.append_nil, List.length_append, List.length_take]
              omega


  · rintro c st1 ⟨rs, S, rfl, R, pr⟩
    have ln : rs.flatten.length + S.length = (arrOf st).size := by
      have := R.perm.length_eq
      rw [R.arr, List.length_append] at this
      omega
    obtain rfl : S = [] := by
      rcases pr with z | z
      · exact List.length_eq_zero_iff.mp (by omega)
      · exact z
    exact ⟨rs, rfl, R⟩
  · rintro c st1 ⟨rs, hc, R⟩
    obtain ⟨c1, c2⟩ := c
    dsimp only at hc
    subst hc
    refine wpS_bind (wpS_mono (wpS_forRange (a := 0) (b := (arrOf st).size) (I := fun x c st' => c = (none, ()) ∧ ∃ rs', Rn lt kd (arrOf st).toList rs' [] st' ∧ rs'.length + x ≤ (arrOf st).size) (Q := fun c st' => c = (none, ()) ∧ ∃ rs', Rn lt kd (arrOf st).toList rs' [] st' ∧ rs'.length ≤ 1) ?_ ?_ ⟨rfl, rs, R, ?_⟩) ?_)
    · rintro y c st4 _ _ ⟨rfl, rs', R4, l4⟩
      have pl : (pendingOf st4).size = rs'.length := by rw [← R4.pend.1]; simp
      refine wpS_bind (wpS_get ?_)
      show wpS _ _ _ _ (if (pendingOf st4).size ≤ 1 then _ else _) _ _
      refine wpS_le (fun z => wpS_pure ⟨rfl, rs', R4, by omega⟩) (fun z => ?_)
      refine wpS_bind (mergeRn C R4 hD ?_ fun rs'' st5 R5 a5 b5 => ?_)
      · show (if _ = true then (pendingOf st4).size - 2 - 1 else (pendingOf st4).size - 2) + 1 < _
        exact Nat.lt_of_le_of_lt (Nat.succ_le_succ ite_pred) (by omega)
      · exact wpS_pure ⟨rfl, rs'', R5, by omega⟩
    · rintro c st4 ⟨rfl, rs', R4, l4⟩
      exact ⟨rfl, rs', R4, by omega⟩
    · have := R.low
      have := R.perm.length_eq
      rw [R.arr, List.append_nil] at this
      omega
    · rintro c st4 ⟨rfl, rs', R4, l4⟩
      refine wpS_pure (h st4 R4.perm ?_ R4.fail)
      rw [R4.arr, List.append_nil]
      match rs', l4, R4 with
      | [], _, _ => exact .nil
      | [r], _, R4 => simpa using (R4.srt r (by simp)).1
      | _ :: _ :: _, l4, _ => simp at l4
end
end L2

/-! tuples of ints, one less than another -/
namespace L2
open PySem PySem.Spec PyProof.Rows
def lexLt : List Int → List Int → Bool
  | [], [] => false
  | [], _ :: _ => true
  | _ :: _, [] => false
  | a :: as, b :: bs => if a = b then lexLt as bs else decide (a < b)
open PySem.SeqAt AutoSeq1 in
theorem tuple_ltAt (l b : Addr) (items items2 : Array Value) (n n2 : Nat) (dd dd2 : Option Addr) (sl sl2 : Array (Option Value)) (xs ys : List Int) (hx : IntsAre items.toList xs) (hy : IntsAre items2.toList ys) :
    Meets (Builtin.«tuple.__lt__» ⟨[.ref l, .ref b], []⟩) (fun A R s => s.heap.get? l = some { cls := .type "tuple", dict := dd, data := .seq items n, slots := sl } ∧ s.heap.get? b = some { cls := .type "tuple", dict := dd2, data := .seq items2 n2, slots := sl2 } ∧ R (.ok (.ret (.bool (lexLt xs ys)))) s) :=
  .of_wp fun prog w A R s h => by
    obtain ⟨hp, g, d, tk, os⟩ := s; obtain ⟨hl, hb, h⟩ := h
    have := AutoSeq1.sub_tuple_tuple
    have lx : items.size = xs.length := by rw [← Array.length_toList]; exact IntsAre.length hx
    have ly : items2.size = ys.length := by rw [← Array.length_toList]; exact IntsAre.length hy
    wp_walk using wpAny_loadPart' hl, wpAny_loadPart' hb, wpAny_forIn_list _ (fun rest r s' => r.1 = none ∧ s' = ⟨hp, g, d, tk, os⟩ ∧ ∃ us vs ps qs, rest = us.zip vs ∧ IntsAre us ps ∧ IntsAre vs qs ∧ lexLt xs ys = lexLt ps qs ∧ (xs.length < ys.length ↔ ps.length < qs.length)) _
    case turn =>
      rintro _ rest r s' ⟨_, rfl, us, vs, ps, qs, e, hu, hv, le, ln⟩
      cases hu with
      | nil => cases e
      | cons p t hu =>
        cases hv with
        | nil => cases e
        | cons q u hv =>
          cases e
          rw [lexLt] at le
          refine wpAny_bind (wpAny_eqBool_int ?_)
          by_cases z : p = q
          · rw [if_neg (by simp [z])]
            exact wpAny_pure ⟨rfl, rfl, _, _, _, _, rfl, hu, hv, by rw [le, if_pos z], by simpa using ln⟩
          · rw [if_pos (by simp [z])]
            rw [le, if_neg z] at h
            refine wpAny_bind (wpAny_rule (wpAny_bind (wpAny_lt_int ?_)))
            wp_walk
            exact ⟨_, rfl, h⟩
    case fin =>
      rintro ⟨_, _⟩ s' ⟨hr, rfl, us, vs, ps, qs, e, hu, hv, le, ln⟩
      cases hr
      have : lexLt ps qs = decide (items.size < items2.size) := by
        rw [lx, ly, show decide (xs.length < ys.length) = decide (ps.length < qs.length) from decide_eq_decide.mpr ln]
        cases hu with
        | nil => cases hv <;> simp [lexLt]
        | cons => cases hv with
          | nil => simp [lexLt]
          | cons => cases e
      rw [le, this] at h
      wp_walk
      exact ⟨_, rfl, h⟩
    case h => exact ⟨rfl, rfl, _, _, _, _, rfl, hx, hy, rfl, Iff.rfl⟩
theorem lex_irr : ∀ xs : List Int, lexLt xs xs = false
  | [] => rfl
  | a :: as => by rw [lexLt, if_pos rfl]; exact lex_irr as
theorem lex_neg : ∀ (xs ys zs : List Int), lexLt xs zs = true → lexLt xs ys = true ∨ lexLt ys zs = true
  | [], [], [], h => by simp [lexLt] at h
  | [], [], _ :: _, h => .inr rfl
  | [], _ :: _, _, h => .inl rfl
  | _ :: _, _, [], h => by simp [lexLt] at h
  | _ :: _, [], _ :: _, h => .inr rfl
  | a :: as, b :: bs, c :: cs, h => by
    simp only [lexLt] at h ⊢
    by_cases e1 : a = c
    · subst e1
      rw [if_pos rfl] at h
      by_cases e2 : a = b
      · subst e2
        rw [if_pos rfl, if_pos rfl]
        exact lex_neg as bs cs h
      · rw [if_neg e2, if_neg (Ne.symm e2), decide_eq_true_eq, decide_eq_true_eq]
        omega
    · rw [if_neg e1, decide_eq_true_eq] at h
      by_cases e2 : a = b
      · subst e2
        rw [if_neg e1]
        exact .inr (decide_eq_true h)
      · rw [if_neg e2]
        by_cases e3 : b = c
        · subst e3
          exact .inl (decide_eq_true h)
        · rw [if_neg e3, decide_eq_true_eq, decide_eq_true_eq]
          omega
theorem lex_asym : ∀ (xs ys : List Int), lexLt xs ys = true → lexLt ys xs = false
  | [], [], h => by simp [lexLt] at h
  | [], _ :: _, _ => rfl
  | _ :: _, [], h => by simp [lexLt] at h
  | a :: as, b :: bs, h => by
    simp only [lexLt] at h ⊢
    by_cases e : a = b
    · subst e
      rw [if_pos rfl] at h ⊢
      exact lex_asym as bs h
    · rw [if_neg e, decide_eq_true_eq] at h
      rw [if_neg (Ne.symm e)]
      exact decide_eq_false (by omega)
theorem lex_total : ∀ {xs ys : List Int}, lexLt xs ys = false → lexLt ys xs = false → xs = ys
  | [], [], _, _ => rfl
  | [], _ :: _, h, _ => by simp [lexLt] at h
  | _ :: _, [], _, h => by simp [lexLt] at h
  | a :: as, b :: bs, h1, h2 => by
    simp only [lexLt] at h1 h2
    by_cases e : a = b
    · subst e
      rw [if_pos rfl] at h1 h2
      rw [lex_total h1 h2]
    · rw [if_neg e, decide_eq_false_iff_not] at h1
      rw [if_neg (Ne.symm e), decide_eq_false_iff_not] at h2
      omega
section
variable {prog : Program} {w : World} {A : Around} {E : Value → Shared → Prop} {s : Shared} {a b : Addr} {xs ys : List Int}
/-- at a stands the tuple, or list, of these ints -/
def SeqI (T : String) (h : Heap) (a : Addr) (ks : List Int) : Prop := ∃ (vs : Array Value) (dd : Option Addr) (n : Nat) (sl : Array (Option Value)), h.get? a = some { cls := .type T, dict := dd, data := .seq vs n, slots := sl } ∧ IntsAre vs.toList ks
abbrev TupI := SeqI "tuple"
theorem rich_ltT {Q : Value → Shared → Prop} (ha : TupI s.heap a xs) (hb : TupI s.heap b ys) (hu : A.units < cLine) (h : Q (.bool (lexLt xs ys)) s) : wpAny (model prog w) A (richCompare .Lt (.ref a) (.ref b)) Q E s := by
  obtain ⟨vs, dd, n, sl, e, i⟩ := ha
  obtain ⟨vs2, dd2, n2, sl2, e2, i2⟩ := hb
  exact richCompare_meets_room (op := .Lt) ⟨_, e, rfl⟩ ⟨_, e2, rfl⟩ F.slot_tuple_lt F.entry_tuple_lt (F.args_tuple_lt_2 _ _) (tuple_ltAt a b vs vs2 n n2 dd dd2 sl sl2 xs ys i i2) ⟨e, e2, show Value.bool (lexLt xs ys) ≠ Value.notImplemented ∧ Q _ s from ⟨(fun x => nomatch x), h⟩⟩ hu
theorem one_gen {Q : Bool → Shared → Prop} (ha : TupI s.heap a xs) (hb : TupI s.heap b ys) (hu : A.units < cLine) (h : Q (lexLt xs ys) s) : wpAny (model prog w) A (oneLt' false (.ref a) (.ref b)) Q E s := by
  rw [oneLt'_eq]
  simp only [Bool.false_eq_true, if_false]
  exact wpAny_bind (rich_ltT ha hb hu (wpAny_truthy_bool h))
end
end L2

/-! list.sort and sorted of tuples of ints, however many -/
namespace L2
open PySem PySem.Spec PyProof.Rows
section
variable {prog : Program} {w : World} {A : Around} {E : Value → Shared → Prop} {s : Shared} {a b : Addr} {xs ys : List Int}
def keyW (h : Heap) : Value → List Int
  | .ref a => match h.get? a with
    | some o => match o.data with
      | .seq vs _ => vs.toList.map numOf
      | _ => []
    | none => []
  | _ => []
theorem SeqI.key {T : String} {h : Heap} (x : SeqI T h a xs) : keyW h (.ref a) = xs := by
  obtain ⟨vs, dd, n, sl, e, i⟩ := x
  show (match h.get? a with | some o => _ | none => _) = _
  rw [e]
  exact i.nums
theorem SeqI.kept {T : String} {h h' : Heap} (x : SeqI T h a xs) (k : ∀ o, h.get? a = some o → h'.get? a = some o) : SeqI T h' a xs :=
  let ⟨vs, dd, n, sl, e, i⟩ := x; ⟨vs, dd, n, sl, k _ e, i⟩
theorem one_one {Q : Bool → Shared → Prop} (ha : TupI s.heap a xs) (hb : TupI s.heap b ys) (hu : A.units < cLine) (h : Q (lexLt xs ys) s) : wpAny (model prog w) A (oneLt' true (.ref a) (.ref b)) Q E s := by
  rw [oneLt'_eq]
  simp only [if_true]
  refine wpAny_bind (wpAny_cRoomFor hu ?_)
  obtain ⟨vs, dd, n, sl, e, i⟩ := ha
  obtain ⟨vs2, dd2, n2, sl2, e2, i2⟩ := hb
  refine wpAny_bind (wpAny_callSpecialIfBound?_slot (T := "tuple") ⟨_, e, rfl⟩ F.slot_tuple_lt ?_)
  refine call_meets F.slot_tuple_lt ⟨_, e, rfl⟩ F.entry_tuple_lt (F.args_tuple_lt_2 _ _) (tuple_ltAt a b vs vs2 n n2 dd dd2 sl sl2 xs ys i i2) ⟨e, e2, ?_⟩
  exact wpAny_bind (wpAny_truthy_bool (wpAny_pure h))
theorem lex_kat {c : Bool} {Q : Bool → Shared → Prop} : ∀ {us vs : List Value} {xs ys : List Int}, IntsAre us xs → IntsAre vs ys → ∀ (i : Nat) (fin : Bool), (xs.length < ys.length ↔ fin = true) → Q (lexLt xs ys) s → W.KatLex prog w A c fin Q (us.zip vs) i s
  | _, _, _, _, .nil, .nil, i, fin, hf, h => by
    have : fin = false := by cases fin with | false => rfl | true => exact absurd (hf.mpr rfl) (by simp)
    subst this; exact h
  | _, _, _, _, .nil, .cons n t hr, i, fin, hf, h => by
    have : fin = true := hf.mp (by simp)
    subst this; exact h
  | _, _, _, _, .cons n t hr, .nil, i, fin, hf, h => by
    have : fin = false := by cases fin with | false => rfl | true => exact absurd (hf.mpr rfl) (by simp)
    subst this; exact h
  | _, _, _, _, .cons n t hr, .cons m u hs, i, fin, hf, h => by
    refine W.kat_cons (wpAny_eqBool_int ?_)
    rw [lexLt] at h
    by_cases e : n = m
    · rw [if_pos e] at h
      rw [show (n == m) = true by simp [e]]
      exact W.kat_yes (lex_kat hr hs (i + 1) fin (by simpa using hf) h)
    · rw [if_neg e] at h
      rw [show (n == m) = false by simp [e]]
      refine W.kat_no ?_
      cases hc : (c && i == 0) with
      | true => exact oneLt_int h
      | false => exact W.kat_one _ _ (wpAny_lt_int h)
theorem tup_lt {c : Bool} {Q : Bool → Shared → Prop} (ha : TupI s.heap a xs) (hb : TupI s.heap b ys) (h : Q (lexLt xs ys) s) : wpAny (model prog w) A (keyLt' (tuples' c) (.ref a) (.ref b)) Q E s := by
  obtain ⟨vs, dd, n, sl, e, i⟩ := ha
  obtain ⟨vs2, dd2, n2, sl2, e2, i2⟩ := hb
  refine W.kat_lt e rfl e2 rfl (lex_kat i i2 0 _ ?_ h)
  have l1 := IntsAre.length i
  have l2 := IntsAre.length i2
  rw [Array.length_toList] at l1 l2
  rw [decide_eq_true_eq]
  omega
def Kd3 (kd : SortKind) : Prop := (∃ c, kd = tuples' c) ∨ kd = general' ∨ kd = oneType'
def DS (T : String) (s : Shared) (p : Keyed) : Prop := ∃ a ks, p.1 = .ref a ∧ SeqI T s.heap a ks
def ltW (s : Shared) (p q : Keyed) : Bool := lexLt (keyW s.heap p.1) (keyW s.heap q.1)
theorem cmp_words {kd : SortKind} (hkd : Kd3 kd) (hu : A.units < cLine) : Cmp prog w A E s kd (DS "tuple" s) (ltW s) where
  wo := ⟨fun p => lex_irr _, fun p q h => lex_asym _ _ h, fun p q r h => lex_neg _ _ _ h⟩
  cmp := fun p q st Q ⟨a, ks, e1, h1⟩ ⟨b, js, e2, h2⟩ hk h => by
    unfold ltW at h
    rw [e1, e2, h1.key, h2.key] at h
    rw [lt'_eq]
    refine wpS_bind (wpS_get ?_)
    rw [hk, e1, e2]
    refine wpS_bind (wpS_lift (wpAny_attempt ?_))
    rcases hkd with ⟨c, rfl⟩ | rfl | rfl
    · exact tup_lt h1 h2 ⟨rfl, wpS_pure h⟩
    · exact one_gen h1 h2 hu ⟨rfl, wpS_pure h⟩
    · exact one_one h1 h2 hu ⟨rfl, wpS_pure h⟩
theorem firsts_any {M : Model} : ∀ (vs : List Value) {Q : List (Option Value) → Shared → Prop}, (∀ v ∈ vs, ∃ a ks, v = .ref a ∧ TupI s.heap a ks) → (∀ fs : List (Option Value), (∀ f ∈ fs, f = none ∨ ∃ n t, f = some (.int n t)) → Q fs s) → wpAny M A (vs.mapM firstOfTuple') Q E s
  | [], Q, _, h => by rw [List.mapM_nil]; exact wpAny_pure (h [] fun f hf => by cases hf)
  | v :: vs, Q, hv, h => by
    obtain ⟨a, ks, rfl, ws, dd, n, sl, e, i⟩ := hv v List.mem_cons_self
    rw [List.mapM_cons]
    refine wpAny_bind ?_
    rw [W.kas_first_eq]
    refine wpAny_bind (wpAny_typeOf (T := "tuple") ⟨_, e, rfl⟩ ?_)
    rw [if_neg (by first | decide | simp)]
    refine wpAny_bind (listItems_at e rfl (wpAny_pure ?_))
    refine wpAny_bind (firsts_any vs (fun v hv' => hv v (List.mem_cons_of_mem _ hv')) fun fs hfs => wpAny_pure (h _ fun f hf => ?_))
    rcases List.mem_cons.mp hf with rfl | hf
    · cases e0 : ws[0]? with
      | none => exact .inl rfl
      | some x =>
        obtain ⟨t, et⟩ := IntsAre.int_at i 0 x (by rw [Array.getElem?_toList]; exact e0)
        exact .inr ⟨_, t, by rw [et]⟩
    · exact hfs f hf
theorem kind_words {M : Model} {vs : List Value} {Q : SortKind → Shared → Prop} (hv : ∀ v ∈ vs, ∃ a ks, v = .ref a ∧ TupI s.heap a ks) (h : ∀ kd, Kd3 kd → Q kd s) : wpAny M A (keyKind' vs.toArray) Q E s := by
  rw [kat_kind_eq, List.mapM_toArray, map_eq_pure_bind]
  refine wpAny_bind (wpAny_bind (firsts_any vs hv fun fs hfs => wpAny_pure ?_))
  refine wpAny_ite_split (fun _ => ?_) (fun _ => wpAny_ite_split (fun _ => wpAny_pure (h _ (.inr (.inl rfl)))) fun _ => ?_)
  · refine wpAny_bind (wpAny_rule ?_)
    have hfm : (fs.toArray.filterMap id) = (fs.filterMap id).toArray := by simp
    rw [hfm, oneTypeOnly'_eq, List.mapM_toArray, map_eq_pure_bind]
    refine wpAny_bind (wpAny_bind (wpAny_bind (W.kas_mapM (r := .type "int") _ (fun v hv' Q' hq => ?_) (wpAny_pure ?_))))
    · obtain ⟨f, hf, ef⟩ := List.mem_filterMap.mp hv'
      rcases hfs f hf with rfl | ⟨n, t, rfl⟩
      · cases ef
      · cases ef
        exact wpAny_typeOf (typeIs_int s n t) hq
    · split
      · exact wpAny_pure (wpAny_pure (h _ (.inl ⟨_, rfl⟩)))
      · exact wpAny_pure (wpAny_pure (h _ (.inl ⟨_, rfl⟩)))
  · rw [oneTypeOnly'_eq, List.mapM_toArray, map_eq_pure_bind]
    refine wpAny_bind (wpAny_bind (wpAny_bind (W.kas_mapM (r := .type "tuple") _ (fun v hv' Q' hq => ?_) (wpAny_pure ?_))))
    · obtain ⟨a, ks, rfl, ws, dd, n, sl, e, i⟩ := hv v hv'
      exact wpAny_typeOf (T := "tuple") ⟨_, e, rfl⟩ hq
    · split
      · refine wpAny_pure (wpAny_pure (h _ ?_))
        split
        · exact .inr (.inr rfl)
        · exact .inr (.inl rfl)
      · exact wpAny_pure (wpAny_pure (h _ (.inr (.inl rfl))))
/-- vs in rising order -/
def RiseW (h : Heap) (l : List Value) : Prop := l.Pairwise fun u v => lexLt (keyW h v) (keyW h u) = false
theorem ite_binds {M : Model} {α β : Type} {c : Prop} [Decidable c] {m n : Sem α} {f : α → Sem β} {Q : β → Shared → Prop} (R : α → Prop) (h1 : c → ∀ Q' : α → Shared → Prop, (∀ x, R x → Q' x s) → wpAny M A m Q' E s) (h2 : ¬ c → ∀ Q' : α → Shared → Prop, (∀ x, R x → Q' x s) → wpAny M A n Q' E s)
    (h : ∀ x, R x → wpAny M A (f x) Q E s) : wpAny M A (if c then m >>= f else n >>= f) Q E s := by
  split
  · exact wpAny_bind (h1 (by assumption) _ h)
  · exact wpAny_bind (h2 (by assumption) _ h)
theorem sort_tree {T : String} (kp : SortKind → Prop) {D : Addr} {vs : List Value} {n : Nat} {P : PySem.Fin → Shared → Prop} (cm : ∀ s' kd, kp kd → Cmp prog w A E s' kd (DS T s') (ltW s'))
    (kn : ∀ (s' : Shared) (Q : SortKind → Shared → Prop), vs ≠ [] → (∀ v ∈ vs, ∃ a ks, v = .ref a ∧ SeqI T s'.heap a ks) → (∀ kd, kp kd → Q kd s') → wpAny (model prog w) A (keyKind' vs.toArray) Q E s')
    (ho : s.heap.get? D = some (seqObj "list" vs.toArray n)) (hv : ∀ v ∈ vs, ∃ a ks, v = .ref a ∧ a ≠ D ∧ SeqI T s.heap a ks) (hz : vs.length ≤ sizeLine)
    (h : ∀ out : Array Value, out.toList.Perm vs → RiseW s.heap out.toList → P (.done (.ret .none)) { s with heap := sortedHeap s.heap D vs out }) :
    wpAny (model prog w) A (Builtin.«list.sort» ⟨[.ref D], []⟩) P E s := by
  rw [list_sort_plain]
  obtain ⟨ep, he⟩ : ∃ ep, (s.heap.update D (Obj.mapSeq fun _ => #[])).get? D = some (seqObj "list" #[] ep) := ⟨_, get?_update_seq ho fun _ => #[]⟩
  refine wpAny_bind (listItems_at ho rfl (wpAny_bind (listUpdate_at ho rfl (wpAny_bind (seqEpoch_at he rfl (wpAny_bind (wpAny_newTuple (wpAny_bind (wpAny_newList (wpAny_holding ?_))) (by simpa using hz))))) (by simpa using hz))))
  obtain ⟨u, eu⟩ : ∃ u : Shared, u = { s with heap := ((s.heap.update D (Obj.mapSeq fun _ => #[])).push (seqObj "tuple" vs.toArray 0)).push (seqObj "list" #[] 0) } := ⟨_, rfl⟩
  have keep : ∀ b o, b ≠ D → s.heap.get? b = some o → u.heap.get? b = some o := fun b o hb e => by
    rw [eu]
    exact Heap.get?_push_of_some _ (Heap.get?_push_of_some _ ((Heap.get?_update_other _ _ (Ne.symm hb)).trans e))
  have hD : u.heap.get? D = some (seqObj "list" #[] ep) := by rw [eu]; exact Heap.get?_push_of_some _ (Heap.get?_push_of_some _ he)
  have hu4 : ∀ v ∈ vs, (∃ a ks, v = .ref a ∧ SeqI T u.heap a ks) ∧ keyW u.heap v = keyW s.heap v := fun v hv' => by
    obtain ⟨a, ks, rfl, ne, t⟩ := hv v hv'
    have t' := t.kept fun o q => keep a o ne q
    exact ⟨⟨a, ks, rfl, t'⟩, by rw [t.key, t'.key]⟩
  show wpAny (model prog w) A _ P E { s with heap := ((s.heap.update D (Obj.mapSeq fun _ => #[])).push (seqObj "tuple" vs.toArray 0)).push (seqObj "list" #[] 0) }
  rw [← eu]
  dsimp only
  refine ite_binds (fun kd => vs.toArray.size < 2 ∨ kp kd) (fun h2 Q' q => wpAny_pure (q _ (.inl h2))) (fun h2 Q' q => kn u Q' (fun z => h2 (by rw [z]; decide)) (fun v hv' => (hu4 v hv').1) fun kd hk => q kd (.inr hk)) fun kd hk => ?_
  refine wpAny_bind (wpAny_mono (Q := fun r s'' => s'' = u ∧ (arrOf r.2).toList.Perm (pairsOf vs).toList ∧ Srt (ltW u) (arrOf r.2).toList ∧ failedOf r.2 = none) ?_ (fun r s'' hr => ?_) fun _ _ e => e)
  · by_cases h2 : vs.toArray.size < 2
    · rw [if_pos h2, StateT.run_pure]
      refine wpAny_pure ⟨rfl, List.Perm.refl _, ?_, rfl⟩
      have lp : (pairsOf vs).toList.length < 2 := by rw [Array.length_toList, pairsOf_size]; simpa using h2
      show Srt _ (pairsOf vs).toList
      generalize (pairsOf vs).toList = L at lp ⊢
      cases L with
      | nil => exact .nil
      | cons x t =>
        cases t with
        | nil => exact List.pairwise_singleton _ _
        | cons y t => exact absurd lp (by simp)
    · rw [if_neg h2]
      refine wpAny_mono (sortRuns_ok (cm u kd (hk.resolve_left h2)) (st := SortSt.mk' kd (vs.toArray.zip vs.toArray) #[] 7 none) (Q := fun _ st' => (arrOf st').toList.Perm (pairsOf vs).toList ∧ Srt (ltW u) (arrOf st').toList ∧ failedOf st' = none)
        (fun p hp => ?_) rfl rfl rfl fun st' a1 a2 a3 => ⟨a1, a2, a3⟩) (fun r s'' x => x) fun _ _ e => e
      have hp' : p ∈ (pairsOf vs).toList := hp
      rw [pairsOf_toList] at hp'
      exact (hu4 _ (mem_zip_self hp').2).1
  obtain ⟨rfl, hp, hs, hf⟩ := hr
  refine wpAny_bind (seqEpoch_at hD rfl (wpAny_bind (listUpdate_at hD rfl ?_ (hsz2 := by
    have := hp.length_eq
    rw [Array.length_toList, Array.length_toList, pairsOf_size] at this
    rw [Array.size_map, this]; omega))))
  have same : ∀ p ∈ (arrOf r.2).toList, p.1 = p.2 ∧ p.1 ∈ vs := fun p hp' => by
    have := hp.mem_iff.mp hp'
    rw [pairsOf_toList] at this
    exact mem_zip_self this
  have := h ((arrOf r.2).map (·.2)) (by
    rw [Array.toList_map]
    refine (hp.map _).trans ?_
    rw [pairsOf_toList, List.map_snd_zip (Nat.le_refl _)]) (by
    rw [Array.toList_map]
    refine List.pairwise_map.mpr (List.Pairwise.imp_of_mem (fun {p q} hp' hq' x => ?_) hs)
    rw [← (same p hp').1, ← (same q hq').1, ← (hu4 _ (same p hp').2).2, ← (hu4 _ (same q hq').2).2]
    exact x)
  unfold sortedHeap at this
  subst eu
  rw [hf, if_neg (by simp)]
  exact wpAny_pure this
theorem sorted_seqs {T : String} (kp : SortKind → Prop) {l : Addr} {vs : List Value} {Q : Value → Shared → Prop} (cm : ∀ A, A.units < cLine → ∀ E s' kd, kp kd → Cmp prog w A E s' kd (DS T s') (ltW s'))
    (kn : ∀ (A : Around) E (s' : Shared) (Q : SortKind → Shared → Prop), vs ≠ [] → (∀ v ∈ vs, ∃ a ks, v = .ref a ∧ SeqI T s'.heap a ks) → (∀ kd, kp kd → Q kd s') → wpAny (model prog w) A (keyKind' vs.toArray) Q E s')
    (hu : A.units + 2 < cLine) (hl : s.heap.IsList l vs.toArray) (hv : ∀ v ∈ vs, ∃ a ks, v = .ref a ∧ SeqI T s.heap a ks) (hz : vs.length ≤ sizeLine)
    (h : ∀ (out : Array Value), out.toList.Perm vs → (∃ h1 : Heap, (∀ a ks, SeqI T s.heap a ks → SeqI T h1 a ks) ∧ RiseW h1 out.toList) → Q (.ref (s.heap.objs.size + 1)) { s with heap := sortedAll s.heap vs out }) :
    wpAny (model prog w) A (call (.builtin "sorted") [.ref l]) Q E s := by
  refine Calls.call_function_entry kind_sorted plain_sorted entry_sorted (args_sorted1 _) ?_
  unfold Builtin.«sorted»
  refine wpAny_bind (wpAny_of_eq (a := ()) rfl (wpAny_bind (collect_list hl (wpAny_bind (wpAny_newList ?_ hz)) hz)))
  obtain ⟨u, eu⟩ : ∃ u : Heap, u = (s.heap.push (seqObj "list" #[] 0)).update s.heap.objs.size (Obj.mapSeq (· ++ vs.toArray)) := ⟨_, rfl⟩
  have zu : u.objs.size = s.heap.objs.size + 1 := by rw [eu, Heap.size_update, size_push']
  have kp' : ∀ b o, s.heap.get? b = some o → (u.push (seqObj "list" vs.toArray 0)).get? b = some o := fun b o e => Heap.get?_push_of_some _ (by
    rw [eu, Heap.get?_update_ne _ _ _ _ (Nat.ne_of_lt (Heap.lt_size e))]
    exact Heap.get?_push_of_some _ e)
  have nw : (u.push (seqObj "list" vs.toArray 0)).get? (s.heap.objs.size + 1) = some (seqObj "list" vs.toArray 0) := zu ▸ Heap.get?_push_size _ rfl
  show wpAny _ _ _ _ _ { s with heap := ((s.heap.push (seqObj "list" #[] 0)).update s.heap.objs.size (Obj.mapSeq (· ++ vs.toArray))).push (seqObj "list" vs.toArray 0) }
  unfold sortedAll at h
  rw [← eu] at h ⊢
  rw [zu]
  refine wpAny_bind (wpAny_holding (wpAny_call_entry slot_list_sort ⟨_, nw, rfl⟩ entry_list_sort (sort_tree kp (cm _ (by exact hu) _) (kn _ _) nw (fun v hv' => ?_) hz fun out a2 a3 => ⟨_, rfl, wpAny_pure ⟨_, rfl, h out a2 ⟨_, fun a ks t => t.kept fun o e => kp' a o e, a3⟩⟩⟩) (args_list_sort _)))
  obtain ⟨a, ks, e, t⟩ := hv v hv'
  refine ⟨a, ks, e, ?_, t.kept fun o e => kp' a o e⟩
  obtain ⟨_, _, _, _, e', _⟩ := t
  exact Nat.ne_of_lt (Nat.lt_succ_of_lt (Heap.lt_size e'))
end
end L2


namespace L2
open PySem PySem.Spec PyProof.Rows
/-! a dict's keys, walked, whatever they are -/
/-! words -/
def Word (H : Hp) (v : V) (ks : List Int) : Prop := ∃ a, v = .ref a ∧ H a = some (.tup (ks.map V.int))
abbrev Words (H : Hp) (xs : List V) (ws : List (List Int)) : Prop := Paired (Word H) xs ws
theorem Paired.perm2 {α β : Type} {F : α → β → Prop} {l : List α} {m m' : List β} (p : m.Perm m') : Paired F l m → ∃ l', l.Perm l' ∧ Paired F l' m' := by
  induction p generalizing l with
  | nil => intro r; cases r; exact ⟨[], .nil, .nil⟩
  | cons x _ ih => intro r; cases r with | cons h t => obtain ⟨l', a, b⟩ := ih t; exact ⟨_ :: l', a.cons _, .cons h b⟩
  | swap x y t => intro r; cases r with | cons h t => cases t with | cons h2 t => exact ⟨_, .swap _ _ _, .cons h2 (.cons h t)⟩
  | trans _ _ i1 i2 => intro r; obtain ⟨l1, a, b⟩ := i1 r; obtain ⟨l2, c, d⟩ := i2 b; exact ⟨l2, a.trans c, d⟩
theorem Paired.flip {α β : Type} {F : α → β → Prop} : ∀ {l : List α} {m : List β}, Paired F l m → Paired (fun b a => F a b) m l
  | _, _, .nil => .nil
  | _, _, .cons h t => .cons h (Paired.flip t)
theorem Paired.mem1 {α β : Type} {F : α → β → Prop} : ∀ {l : List α} {m : List β}, Paired F l m → ∀ a ∈ l, ∃ b ∈ m, F a b
  | _, _, .nil, a, h => by cases h
  | _, _, .cons r t, a, h => by
    rcases List.mem_cons.mp h with rfl | h
    · exact ⟨_, List.mem_cons_self, r⟩
    · obtain ⟨b, hb, f⟩ := Paired.mem1 t a h
      exact ⟨b, List.mem_cons_of_mem _ hb, f⟩
/-- words in rising order, alike ones side by side -/
def Rise (ws : List (List Int)) : Prop := ws.Pairwise fun u v => lexLt v u = false
section
variable {X : Cx} {pins : List (Addr × Obj)} {σ : St} {H : Hp} {s : Shared}
theorem tupI_of {P : Program} {w : World} {h : Heap} {a : Addr} {ks : List Int} (ok : HOk P w H h) (e : H a = some (.tup (ks.map V.int))) : TupI h a ks := by
  obtain ⟨_, its, r, o, h1, h2, n, h3⟩ := (show ObjOk P w H h a (.tup (ks.map V.int)) from ok a _ e)
  obtain ⟨cls, dd, data, sl⟩ := o
  dsimp only at h2 h3
  subst h2 h3
  exact ⟨its.toArray, dd, n, sl, h1, by simpa using ints_of_vals r⟩
theorem word_val {P : Program} {w : World} {h : Heap} {v : V} {u : Value} {ks : List Int} (ok : HOk P w H h) (x : Word H v ks) (r : RelV v u) : ∃ a, u = .ref a ∧ H a = some (.tup (ks.map V.int)) ∧ TupI h a ks := by
  obtain ⟨a, rfl, e⟩ := x
  exact ⟨a, r, e, tupI_of ok e⟩
/-- what has been sorted, as rows of ints -/
theorem seqs_out {T : String} {F : V → List Int → Prop} {h h1 : Heap} (hF : ∀ {v u ks}, F v ks → RelV v u → ∃ a, u = .ref a ∧ SeqI T h a ks) {xs : List V} {us out : List Value} {ws : List (List Int)} (r : Vals xs us) (x : Paired F xs ws) (hp : out.Perm us)
    (hk : ∀ a ks, SeqI T h a ks → SeqI T h1 a ks) (hr : RiseW h1 out) : ∃ ys vs, Vals ys out ∧ Paired F ys vs ∧ ys.Perm xs ∧ vs.Perm ws ∧ Rise vs := by
  obtain ⟨ys, p1, r1⟩ := Paired.perm2 hp.symm r
  obtain ⟨vs, p2, r2⟩ := Paired.perm2 p1 (Paired.flip x)
  have x2 : Paired F ys vs := Paired.flip r2
  refine ⟨ys, vs, r1, x2, p1.symm, p2.symm, ?_⟩
  have key : ∀ {ys : List V} {out : List Value} {vs : List (List Int)}, Vals ys out → Paired F ys vs → out.map (keyW h1) = vs := by
    intro ys out vs a b
    induction a generalizing vs with
    | nil => cases b; rfl
    | cons r _ ih =>
      cases b with
      | cons f t =>
        obtain ⟨q, e1, e3⟩ := hF f r
        rw [List.map_cons, ih t, e1, (hk _ _ e3).key]
  rw [← key r1 x2]
  unfold Rise
  rw [List.pairwise_map]
  exact hr
end
section
variable {prog : Program} {w : World} {A : Around} {E : Value → Shared → Prop} {s : Shared}
theorem sorted_words {l : Addr} {vs : List Value} {Q : Value → Shared → Prop} (hu : A.units + 2 < cLine) (hl : s.heap.IsList l vs.toArray) (hv : ∀ v ∈ vs, ∃ a ks, v = .ref a ∧ TupI s.heap a ks) (hz : vs.length ≤ sizeLine)
    (h : ∀ (out : Array Value), out.toList.Perm vs → (∃ h1 : Heap, (∀ a ks, TupI s.heap a ks → TupI h1 a ks) ∧ RiseW h1 out.toList) → Q (.ref (s.heap.objs.size + 1)) { s with heap := sortedAll s.heap vs out }) :
    wpAny (model prog w) A (call (.builtin "sorted") [.ref l]) Q E s := sorted_seqs Kd3 (fun A hu E s' kd hk => cmp_words hk hu) (fun A E s' Q _ hv h => kind_words hv h) hu hl hv hz h
end
section
variable {X : Cx}
def rSortW (K : PySem.W.Frag) : List V → Hp → VK → Prop := fun xs H Q => ∃ (p : Addr) (ys : List V) (ws : List (List Int)), xs = [.ref p] ∧ SqL K H p ys ∧ Words H ys ws ∧
    ∀ (l : Addr) (zs : List V) (vs : List (List Int)), H l = none → zs.Perm ys → vs.Perm ws → Words H zs vs → Rise vs → Q (.ref l) (upd H l (.lst zs))
theorem call_sortedW (hu : X.A.units + 64 < cLine) : CallR X (.builtin "sorted") (rSortW X.K) := by
  intro pins s σ H xs us Q I r h
  obtain ⟨p, ys, ws, rfl, hq, hw, q⟩ := h
  obtain ⟨u, rfl, ru⟩ := r.one
  cases ru
  obtain ⟨its, rv, pl, hz⟩ := I.list hq
  have hlen : ys.length = its.length := rv.length
  refine sorted_words (by omega) pl.isList (fun v hv => ?_) (by omega) fun out a2 ⟨h1, k1, a3⟩ => ?_
  · obtain ⟨y, hy, ry⟩ := Paired.mem1 (Paired.flip rv) v hv
    obtain ⟨ks, _, hk⟩ := Paired.mem1 hw y hy
    obtain ⟨a, e1, e2, e3⟩ := word_val I.hok hk ry
    exact ⟨a, ks, e1, e3⟩
  obtain ⟨zs, vs, b1, b2, b3, b4, b5⟩ := seqs_out (fun f r => (word_val I.hok f r).imp fun _ z => ⟨z.1, z.2.2⟩) rv hw a2 k1 a3
  obtain ⟨e, he⟩ := sortedAll_at s.heap its out
  have fr : H (s.heap.objs.size + 1) = none := I.hok.fresh (Nat.le_succ _)
  refine ⟨.ref (s.heap.objs.size + 1), _, I.laid (a := s.heap.objs.size + 1) (o := .lst zs) (t' := s.toks) (fun b o q => sortedAll_old q) (Nat.le_succ _) ⟨?_, out.toList, e, b1, ?_⟩, rfl, q _ _ _ fr b3 b4 b2 b5⟩
  · rw [b3.length_eq]; omega
  · simpa [seqObj] using he
end
end L2


namespace L2
open PySem PySem.Spec PyProof.Rows PyProof.V
section
variable {X : Cx}
theorem lex_same : ∀ (a b : List Int), HT.lexLt a b = lexLt a b
  | [], [] => rfl
  | [], _ :: _ => rfl
  | _ :: _, [] => rfl
  | x :: a, y :: b => by
    rw [HT.lexLt_cons, lexLt, lex_same a b]
/-- t < u, words -/
def rLtW : R2 := fun x y H Q => ∃ a b : List Int, Word H x a ∧ Word H y b ∧ Q (.bl (lexLt a b)) H
theorem op_ltW (hu : X.A.units + 64 < cLine) : OpR X (compareOp .Lt) rLtW := by
  intro pins s σ H x y v u Q I rx ry h
  obtain ⟨ns, ms, ⟨p, rfl, hp⟩, ⟨r, rfl, hr⟩, hQ⟩ := h
  refine op_ltT (by omega) pins s σ H _ _ v u Q I rx ry ⟨p, r, ns, ms, rfl, rfl, .inl (.inl hp), .inl (.inl hr), ?_⟩
  rw [lex_same]
  exact hQ
theorem pi_tupK {K : PySem.W.Frag} {l tg : Expr} {tl : TE} (hk : X.K = K) (hl : PE X l tl) : PI X tg l (iTup K tl) := hk ▸ pi_tup hl
def upI (n : Nat) : List Int := (List.range n).map fun (k : Nat) => (k : Int)
end
section
variable {g : TG} {tc : TT} {te : TE} {σ : St} {H : Hp} {Q : VK} {K : PySem.W.Frag} {a b : Addr} {xs ys : List V}
theorem lc_tup (hn : xs.length ≤ sizeLine) (Pv : Nat → List V → Hp → Prop) (h0 : Pv 0 [] H) (hlen : ∀ i ys H, Pv i ys H → ys.length ≤ i) (hS : ∀ i ys H, Pv i ys H → SqT K H a xs)
    (hs : ∀ i x ys H, xs[i]? = some x → Pv i ys H → g x σ H fun σ2 H2 => tc σ2 H2 fun b H3 => if b = true then te σ2 H3 fun y H4 => Pv (i + 1) (ys ++ [y]) H4 else Pv (i + 1) ys H3)
    (hd : ∀ ys H, Pv xs.length ys H → ∀ D, H D = none → Q (.ref D) (upd H D (.lst ys))) : LcW (Itt K a) σ g tc te H Q :=
  lc_gen hn Pv h0 hlen (fun i ys H hi p => ⟨xs, xs[i], hS i ys H p, by simp [hi]⟩) (fun ys H p => ⟨xs, hS _ ys H p, Nat.le_refl _⟩) (fun i ys H hi p x H' y => by
    obtain ⟨e, y⟩ := y
    subst e
    exact hs i x ys _ (y xs (hS i ys _ p)) p) hd
/-- zip, the second one the shorter -/
theorem lc_zipS (hn : ys.length ≤ sizeLine) (hl : ys.length ≤ xs.length) (Pv : Nat → List V → Hp → Prop) (h0 : Pv 0 [] H) (hlen : ∀ i zs H, Pv i zs H → zs.length ≤ i) (hS : ∀ i zs H, Pv i zs H → SqL K H a xs ∧ SqL K H b ys)
    (hs : ∀ i x y p zs H, xs[i]? = some x → ys[i]? = some y → Pv i zs H → H p = none → g (.ref p) σ (upd H p (.tup [x, y])) fun σ2 H2 => tc σ2 H2 fun b H3 => if b = true then te σ2 H3 fun y H4 => Pv (i + 1) (zs ++ [y]) H4 else Pv (i + 1) zs H3)
    (hd : ∀ zs H, Pv ys.length zs H → ∀ D, H D = none → Q (.ref D) (upd H D (.lst zs))) : LcW (Itz K a b) σ g tc te H Q :=
  lc_gen hn Pv h0 hlen (fun i zs H hi p => ⟨xs, ys, xs[i]'(by omega), ys[i], (hS i zs H p).1, (hS i zs H p).2, by simp [show i < xs.length by omega], by simp [hi]⟩) (fun zs H p => ⟨xs, ys, (hS _ zs H p).1, (hS _ zs H p).2, .inr (Nat.le_refl _)⟩) (fun i zs H hi p x H' y => by
    obtain ⟨q, u, v, e1, e2, e3, y1, y2⟩ := y
    subst e1 e3
    exact hs i u v q zs _ (y1 xs (hS i zs _ p).1) (y2 ys (hS i zs _ p).2) p e2) hd
end
end L2

/-! sums of words by what two leaves -/
namespace L2
open PySem PySem.Spec PyProof.Rows
abbrev WS := List (List Int)
def SR (r : WS) : Prop := r.Pairwise fun u v => lexLt u v = true
structure IsOdd (L r : WS) : Prop where
  rise : SR r
  mem : ∀ w, w ∈ r ↔ L.count w % 2 = 1
/-- the keys that came an odd number of times -/
structure OddK (L ks : WS) : Prop where
  nd : ks.Nodup
  mem : ∀ w, w ∈ ks ↔ L.count w % 2 = 1
/-! products -/
/-! how many, how long -/
/-! lists of words in the heap -/
theorem Word.mono {H H' : Hp} {v : V} {w : List Int} (k : ∀ t p, H t = some (.tup p) → H' t = some (.tup p)) (x : Word H v w) : Word H' v w := let ⟨a, e, q⟩ := x; ⟨a, e, k _ _ q⟩
theorem Words.mono {H H' : Hp} {xs : List V} {L : WS} (k : ∀ t p, H t = some (.tup p) → H' t = some (.tup p)) (x : Words H xs L) : Words H' xs L := Paired.mapP x fun _ _ q => Word.mono k q
theorem Words.same {H H' : Hp} {xs : List V} {L : WS} (s : Same H H') (x : Words H xs L) : Words H' xs L := Words.mono (fun t p e => s t _ e) x
theorem Word.same {H H' : Hp} {v : V} {w : List Int} (s : Same H H') (x : Word H v w) : Word H' v w := Word.mono (fun t p e => s t _ e) x
theorem Words.len {H : Hp} {xs : List V} {L : WS} (x : Words H xs L) : xs.length = L.length := Paired.length x
theorem Words.get {H : Hp} : ∀ {xs : List V} {L : WS} {i : Nat} {x : V}, Words H xs L → xs[i]? = some x → ∃ w, L[i]? = some w ∧ Word H x w
  | _, _, _, _, .nil, e => by simp at e
  | _, _, 0, _, .cons r _, e => by simp at e; subst e; exact ⟨_, rfl, r⟩
  | _, _, i + 1, x, .cons _ t, e => by
    obtain ⟨w, h1, h2⟩ := Words.get (i := i) (x := x) t (by simpa using e)
    exact ⟨w, by simpa using h1, h2⟩
theorem Words.snoc {H : Hp} {xs : List V} {L : WS} {x : V} {w : List Int} (h : Words H xs L) (e : Word H x w) : Words H (xs ++ [x]) (L ++ [w]) := Paired.snoc h e
/-- a frame about a list or a dict keeps the tuples -/
theorem Frm.tups {b : Addr} {H H' : Hp} (f : Frm b H H') (hb : ∀ p, H b ≠ some (.tup p)) : ∀ t p, H t = some (.tup p) → H' t = some (.tup p) := fun t p e => f t _ e fun z => hb p (z ▸ e)
/-- what is alike -/
theorem words_eqv {K : PySem.W.Frag} {H : Hp} {xs ys : List V} {L : WS} (h1 : Words H xs L) (h2 : Words H ys L) {n : Nat} (hn : 1 ≤ n) : ∀ (i : Nat) (x y : V), xs[i]? = some x → ys[i]? = some y → Eqv K H n x y := fun i x y e1 e2 => by
  obtain ⟨w, q1, p, rfl, hp⟩ := Words.get h1 e1
  obtain ⟨w', q2, q, rfl, hq⟩ := Words.get h2 e2
  rw [q1] at q2
  cases q2
  obtain ⟨n', rfl⟩ : ∃ n', n = n' + 1 := ⟨n - 1, by omega⟩
  refine .tup (.inl (.inl hp)) (.inl (.inl hq)) rfl fun j u v e1 e2 => ?_
  rw [e1] at e2
  cases e2
  obtain ⟨z, hz, rfl⟩ := map_int_at e1
  exact .flat rfl
end L2

namespace L2
open PySem PySem.Spec PyProof.Rows
section
variable {X : Cx}
theorem call_sortedWK {K : PySem.W.Frag} (h : X.K = K) (hu : X.A.units + 64 < cLine) : CallR X (.builtin "sorted") (rSortW K) := h ▸ call_sortedW hu
theorem call_tupleL : CallR X (.type "tuple") (fun xs H Q => ∃ p ys, xs = [.ref p] ∧ H p = some (.lst ys) ∧ ∀ l, H l = none → Q (.ref l) (upd H l (.tup ys))) := by
  intro pins s σ H xs us Q I r ⟨p, ys, e, hp, q⟩
  exact call_tuple_of pins s σ H xs us Q I r ⟨p, ys, e, .inl ⟨SqL.of hp, q⟩⟩
end
end L2

/-! instances without an __init__, methods by name, a text with a number in it, != of words -/
namespace L2
open PySem PySem.Spec PyProof.Rows PyProof.V
section
variable {X : Cx} {C : Addr} {x m : Str} {p pos apos : Pos} {e o : Expr} {es : List Expr} {ta : TE} {t : TA}
structure MkO (K : PySem.W.Frag) (C : Addr) : Prop where
  makes : PySem.W.makesIn K C = true
  init : PySem.W.findIn K (.ref C) "__init__" = some (some (.builtin "object.__init__"))
  kp : PySem.W.keepIn K (.ref C) = true
end
end L2

/-! the one sum that a list of words comes to; tables of sums -/
namespace L2
open PySem PySem.Spec PyProof.Rows
/-! rows and tables in the heap -/
/-! what stands behind each letter -/
end L2


/-! try with an except that names nothing: what is known of the names stays -/

/-! range(n - 1, -1, -1) walked by for -/

/-! a zip walked without a for: its tuple stays handed out from the first item on; it has no keys -/
namespace L2
open PySem PySem.Spec PyProof.Rows
section
variable {prog : Program} {w : World} {A : Around} {E : Value → Shared → Prop} {s : Shared}
/-- a zip whose tuple has been handed out -/
abbrev IsZipT (h : Heap) (z TI TO T : Addr) (b : Bool) : Prop :=
  h.get? z = some { cls := .type "zip", dict := none, data := .fields #[rawInt T, .bool b, .bool false, .ref TI, .ref TO], slots := #[] }
structure ZS (h : Heap) (z TI TO i1 i2 l1 l2 : Addr) (k : Nat) : Prop where
  zp : (IsZip h z TI TO .none ∧ ∃ a b, IsPair h TO a b) ∨ ∃ T b o, IsZipT h z TI TO T b ∧ h.get? T = some o ∧ o.cls = .type "tuple" ∧ T ≠ z ∧ T ≠ TO ∧ T ≠ i1 ∧ T ≠ i2
  ti : IsPair h TI (.ref i1) (.ref i2)
  j1 : h.IsListIter i1 l1 k
  j2 : h.IsListIter i2 l2 k
end
end L2

/-! dict(zip(list, list)): the walk -/

/-! dict(zip(list of ints, list)): the rule -/

/-! enumerate(tuple) -/

/-! for over enumerate(tuple) -/

/-! words cut -/

/-! t[::-1], t a tuple -/

/-! try: what may be raised is told anew at each entry; == of plain things or alike lists -/

/-! Tables of sets that only grew: where a hash is looked for, where it is put. -/
namespace L2
open PySem PySem.Spec PyProof.Rows
def adv (mask : Nat) (p : SetTable.Probe) : SetTable.Probe :=
  if p.more > 0 then { p with j := p.j + 1, more := p.more - 1 } else
  { p with j := (SetTable.leap mask p.i p.perturb).1, more := SetTable.runEnd mask (SetTable.leap mask p.i p.perturb).1 - (SetTable.leap mask p.i p.perturb).1, i := (SetTable.leap mask p.i p.perturb).1, perturb := (SetTable.leap mask p.i p.perturb).2 }
/-- the n-th look for a hash -/
def stH (mask : Nat) (h : Int) : Nat → SetTable.Probe
  | 0 => { j := SetTable.bits h % (mask + 1), more := SetTable.runEnd mask (SetTable.bits h % (mask + 1)) - SetTable.bits h % (mask + 1), i := SetTable.bits h % (mask + 1), perturb := SetTable.bits h, dummy := none }
  | n + 1 => adv mask (stH mask h n)
def pj (mask : Nat) (h : Int) (n : Nat) : Nat := (stH mask h n).j
/-! where a number stands among rising ones -/
end L2

namespace L2
open PySem PySem.Spec PyProof.Rows
/-- a hash is found at j: ahead of it all places that are looked at are taken -/
def Rch (mask : Nat) (P : Nat → Prop) (h : Int) (j : Nat) : Prop := ∃ s, s < 10 * SetTable.turns mask ∧ pj mask h s = j ∧ ∀ m, m < s → P (pj mask h m)
structure TbG (t : SetTable) (hs : List Int) : Prop where
  dum : t.dummies = #[]
  rise : t.place.toList.Pairwise (· < ·)
  dom : ∀ j ∈ t.place.toList, j ≤ t.mask
  len : t.place.size = hs.length
  msk : t.mask = 7 ∨ t.mask = 31
  few : hs.length * 5 < t.mask * 3
  rch : ∀ (i j : Nat) (h : Int), t.place.toList[i]? = some j → hs[i]? = some h → Rch t.mask (· ∈ t.place.toList) h j
end L2

/-! A table laid anew. -/
namespace L2
open PySem PySem.Spec PyProof.Rows
def occ (owner : Array (Option Nat)) (j : Nat) : Prop := ∃ k, owner[j]? = some (some k)
structure OC (mask : Nat) (owner : Array (Option Nat)) (hs : List Int) : Prop where
  sz : owner.size = mask + 1
  sur : ∀ i : Nat, i < hs.length → ∃ j : Nat, owner[j]? = some (some i)
  lt : ∀ j i : Nat, owner[j]? = some (some i) → i < hs.length
  one : ∀ j j' i : Nat, owner[j]? = some (some i) → owner[j']? = some (some i) → j = j'
  rch : ∀ (j i : Nat) (h : Int), owner[j]? = some (some i) → hs[i]? = some h → Rch mask (occ owner) h j
end L2


/-! Sets of tuples of ints: looked for, put. -/


/-! set(a list of tuples of ints) -/

/-! A set of tuples of ints is walked; sorted(such a set). -/


namespace L2
open PySem PySem.Spec PyProof.Rows PyProof.V
section
variable {X : Cx}
theorem word_eqAt {pins : List (Addr × Obj)} {σ : St} {H : Hp} {s : Shared} {A : Around} (I : Inv X pins σ H s) {x y : V} {u v : Value} {a b : List Int} (hx : Word H x a) (hy : Word H y b) (ru : RelV x u) (rv : RelV y v) (hu : A.units + 4 < cLine) : SeqAt.EqAt A s u v (decide (a = b)) := by
  obtain ⟨p, rfl, hp⟩ := hx
  obtain ⟨r, rfl, hr⟩ := hy
  cases ru
  cases rv
  by_cases e : p = r
  · subst e
    rw [hp] at hr
    have : a = b := by
      have h1 := Option.some.inj hr
      have h2 : a.map V.int = b.map V.int := by injection h1
      exact (List.map_inj_right (fun _ _ z => V.int.inj z)).mp h2
    rw [decide_eq_true this]
    exact SeqAt.EqAt.same _
  · obtain ⟨_, its, r1, p1⟩ := (show ObjOk X.prog X.w H s.heap p (.tup (a.map V.int)) from I.hok p _ hp)
    obtain ⟨_, its2, r2, p2⟩ := (show ObjOk X.prog X.w H s.heap r (.tup (b.map V.int)) from I.hok r _ hr)
    have l1 : a.length = its.length := by simpa using r1.length
    have l2 : b.length = its2.length := by simpa using r2.length
    refine SeqAt.EqAt.of_refs e ?_
    have q := SeqAt.RcAt.tuples (A := A) (s := s) (l := p) (b := r) (items := its.toArray) (items2 := its2.toArray) (e := fun j => a.getD j 0 == b.getD j 0) p1 p2 (by omega) fun j h1 h2 => by
      obtain ⟨t1, e1⟩ := ints_at r1 h1
      obtain ⟨t2, e2⟩ := ints_at r2 h2
      rw [e1, e2]
      exact SeqAt.EqAt.int_int _ _ _ _
    have z : ((List.range (min its.toArray.size its2.toArray.size)).all (fun j => a.getD j 0 == b.getD j 0) && its.toArray.size == its2.toArray.size) = decide (a = b) := by
      rw [Bool.eq_iff_iff, Bool.and_eq_true, List.all_eq_true, decide_eq_true_iff, beq_iff_eq]
      simp only [List.size_toArray]
      constructor
      · rintro ⟨z, zl⟩
        refine List.ext_getElem (by omega) fun i h1 h2 => ?_
        have := z i (List.mem_range.mpr (by omega))
        simpa [h1, h2] using this
      · intro z
        subst z
        exact ⟨fun i _ => by simp, by omega⟩
    rw [z] at q
    exact q
end
end L2


/-! rows as masks, reckoned by what two leaves: least bits, the image under a table, pairs -/
namespace L2
def mulT (T : Nat → Nat) : Nat → Nat → Nat
  | 0, _ => 0
  | n + 1, v => (if v.testBit n = true then T n else 0) ^^^ mulT T n v
/-- the least bit of a mask -/
def LB (v j : Nat) : Prop := v.testBit j = true ∧ ∀ k, k < j → v.testBit k = false
/-- the rows from i on, paired off: S their slid rows, p their partners -/
structure Up (T : Nat → Nat) (n i : Nat) (S : Nat → Nat) (p : Nat → Option Nat) : Prop where
  lb : ∀ r, i ≤ r → r < n → LB (S r) r
  bd : ∀ r, i ≤ r → r < n → S r < 2 ^ n
  inv : ∀ r q, i ≤ r → r < n → p r = some q → i ≤ q ∧ q < n ∧ q ≠ r ∧ p q = some r
  img : ∀ r q, i ≤ r → r < n → p r = some q → r < q → mulT T n (S r) = S q
  ker : ∀ r, i ≤ r → r < n → (∀ q, p r = some q → q < r) → mulT T n (S r) = 0
/-! ### one more row taken -/
def xorL : List Nat → Nat
  | [] => 0
  | a :: l => a ^^^ xorL l
/-- within the taking of row i: rest is left, a is its slid row as yet, lone the rows without a partner met so far -/
structure Tk (T : Nat → Nat) (n i : Nat) (S : Nat → Nat) (p : Nat → Option Nat) (rest a : Nat) (lone : List Nat) : Prop where
  up : Up T n (i + 1) S p
  eq : mulT T n a = rest ^^^ xorL (lone.map S)
  la : LB a i
  ba : a < 2 ^ n
  br : rest < 2 ^ n
  lo : ∀ k, k ≤ i → rest.testBit k = false
  ln : ∀ l ∈ lone, i < l ∧ l < n ∧ p l = none
  as : lone.Pairwise (· < ·)
  ab : ∀ l ∈ lone, ∀ k, k ≤ l → rest.testBit k = false
end L2

/-! a table that is paired off is high and square; slides keep that -/

/-! |= and ^= of ints, bit_length, reversed(range(n)) walked by for, an instance by its class's name -/

/-! masks below 256 as the program's ints -/
namespace L2
open PySem PyProof.Rows
section
variable {X : Cx}
theorem pt_truthK {K : PySem.W.Frag} {a : Expr} {ta : TE} (hk : X.K = K) (h : PT X a (fun σ H Q => ta σ H fun x H' => ∃ k, TruV X.K x H' k ∧ Q k H')) : PT X a (fun σ H Q => ta σ H fun x H' => ∃ k, TruV K x H' k ∧ Q k H') := hk ▸ h
end
end L2


/-! Comprehensions whose own names are cells: another comprehension within reads them. -/
namespace L2
open PySem PySem.Spec PyProof.Rows
structure LcScopeC (N : List Str) (osc scope : Scope) (Ls Fs : List Str) (fi : List Nat) : Prop where
  kind : scope.kind = .function
  cells : ∀ y ∈ scope.names, y.2 = .cell → scope.names.lookup y.1 = some .cell
  names : ∀ y ∈ scope.names, y.2 = .local → scope.names.lookup y.1 = some .local
  fre : ∀ x ∈ Fs, scope.names.lookup x = some .free
  all : ∀ y ∈ scope.names, y.2 = .free → osc.names.lookup y.1 = some .cell ∨ osc.names.lookup y.1 = some .free
  ix : fi.map (fun i => N[i]?) = Fs.map some
/-! ### cells laid behind a closure -/
end L2

/-! a list of new lists, row by row -/

/-! ranks over two: the least bits of what rows come to -/
namespace L2
/-! ### the parts of a table that is paired off -/
end L2 

/-! any things: xs[::-1], == of alike things, tables among trees, pairing off as mathematics -/
namespace L2
open PySem PySem.Spec PyProof.Rows
/-! ### xs[::-1] -/
section
variable {X : Cx}
/-! ### == of alike things -/
end
/-! ### pairing off, as mathematics -/
/-! ### a full table by its rank -/
section
variable {X : Cx}
def rEqNil (K : PySem.W.Frag) : R2 := fun x y H Q => ∃ (p q : Addr) (xs : List V), x = .ref p ∧ y = .ref q ∧ SqL K H p xs ∧ SqL K H q [] ∧ Q (.bl xs.isEmpty) H
theorem op_eqNilK {K : PySem.W.Frag} (h : X.K = K) (hu : X.A.units + 64 < cLine) : OpR X (compareOp .Eq) (rEqNil K) := by
  subst h
  intro pins s σ H x y v u Q I rx ry h
  obtain ⟨p, q, xs, rfl, rfl, hp, hq, hQ⟩ := h
  cases rx
  cases ry
  obtain ⟨its, r1, p1, _⟩ := I.list hp
  obtain ⟨its2, r2, p2, _⟩ := I.list hq
  have l1 := r1.length
  have l2 : its2.length = 0 := by simpa using r2.length.symm
  cases xs with
  | nil =>
    have l3 : its.length = 0 := by simpa using l1.symm
    refine SeqAt.eq_listAt (e := fun _ => true) p1.isList p2.isList (by simp only [List.size_toArray]; omega) (by omega) (fun j h1 _ => by simp only [List.size_toArray] at h1; omega) ⟨.bl true, H, I, ?_, hQ⟩
    show Value.bool _ = Value.bool true
    simp
  | cons z zs =>
    have l3 : its.length = zs.length + 1 := by simpa using l1.symm
    exact SeqAt.eq_list_lengthsAt p1.isList p2.isList (by simp only [List.size_toArray, bne_iff_ne]; omega) (by omega) ⟨.bl false, H, I, rfl, hQ⟩
end
/-! ### things that are told by some tree -/
end L2


/-! within an except suite: a range walked in a comprehension, defs called with what is handled known -/
namespace L2
open PySem PySem.Spec PyProof.Rows
/-- what is handled is an exception that is told, raised while none was handled -/
def Trk (H : Hp) (v : Value) : Prop := ∃ a C, v = .ref a ∧ H a = some (.ext (isX a C))
def Hnd (A : Around) (H : Hp) : Prop := ∀ v, A.handled = some v → Trk H v
/-! defs called within an except suite, with what is handled known -/
section
variable {P : Program} {w : World} {K : PySem.W.Frag} {mg : Str → Option Value} {base : Heap}
structure FnOkQ (P : Program) (w : World) (K : PySem.W.Frag) (mg : Str → Option Value) (base : Heap) (k : Nat) (f : Addr) (fd : FuncData) (ps : List Str) (sp : Sp) : Prop where
  len : ∀ vs H Q E, sp vs H Q E → vs.length = ps.length
  run : ∀ (A : Around) (outer : List Env) (s : Shared) (H : Hp) (args : Args) (us : List Value) (vs : List V) (Q : VK), RoomS k A → Hnd A H → Env0 P w K mg base A outer s H → BindsTo s fd args (ps.zip us) → Vals vs us → sp vs H Q E0 →
    codeAny (model P w) A (.call (.ref f) args) (CR CX0 outer P w H s Q E0) s
end
end L2

/-! a comprehension out of which an exception goes -/
namespace L2
open PySem PySem.Spec PyProof.Rows
/-- as Exc, the flight told by v -/
def ExcV (v : Value) (h : Heap) (a T : Addr) (C : Value) : Prop :=
  ∃ oe vs oT ts, h.get? a = some oe ∧ oe.cls = C ∧ oe.data = .fields vs ∧ vs[1]? = some (.ref T) ∧ h.get? T = some oT ∧ oT.data = .fields ts ∧ ts[3]? = some v ∧ T ≠ a ∧ vs[2]? = some .none
theorem ExcV.kept {v : Value} {h h' : Heap} {a T : Addr} {C : Value} (x : ExcV v h a T C) (k : ∀ b o, h.get? b = some o → (∃ vs, o.data = .fields vs) → h'.get? b = some o) : ExcV v h' a T C := by
  obtain ⟨oe, vs, oT, ts, p1, p2, p3, p4, p5, p6, p⟩ := x
  exact ⟨oe, vs, oT, ts, k _ _ p1 ⟨_, p3⟩, p2, p3, p4, k _ _ p5 ⟨_, p6⟩, p6, p⟩
section
variable {M : Model} {A : Around} {E : Value → Shared → Prop} {s : Shared} {env : Env} {outer : List Env} {L a T : Addr} {C v : Value} {base h : Heap} {Q : Unit → Shared → Prop}
/-- the frame is written into an exception that is not in flight there -/
theorem note1 (hfr : A.frames = some (env :: outer)) (hf : env.frame = some L) (hl : s.heap.FunFrames base (env :: outer)) (hx : ExcV v s.heap a T C) (hw : (v == rawInt L) = false)
    (hQ : ∀ h' T', (∀ b o, s.heap.get? b = some o → b ∉ frs (env :: outer) → b ≠ a → b ≠ T → h'.get? b = some o) → (∀ b o, s.heap.get? b = some o → b ∈ frs (env :: outer) → ∃ sl, h'.get? b = some { o with slots := sl }) →
      ExcV (rawInt L) h' a T' C → s.heap.objs.size ≤ T' → s.heap.objs.size ≤ h'.objs.size → Q () { s with heap := h' }) : wpAny M A (noteFrame (.ref a) env) Q E s := by
  obtain ⟨oe, vs, oT, ts, ha, rfl, hv, h1, eT, dT, f3, nTa, h2⟩ := hx
  have nf : ∀ b o, s.heap.get? b = some o → (∃ ws, o.data = .fields ws) → b ∉ frs (env :: outer) := fun b o e ⟨ws, d⟩ hb => by
    obtain ⟨_, o', e', n⟩ := hl.mem hb
    rw [e] at e'; cases e'
    exact n ws d
  have sz : 2 < vs.size := (Array.getElem?_eq_some_iff.mp h2).1
  unfold noteFrame
  simp only [hf]
  refine wpAny_bind (wpAny_field ha hv h1 ?_)
  show wpAny M A (if (Value.ref T != Value.none) = true then _ else _) _ _ s
  rw [if_pos (by simp)]
  refine wpAny_bind (wpAny_field eT dT f3 ?_)
  rw [if_neg (by rw [hw]; exact Bool.false_ne_true)]
  refine wpAny_bind (setF eT dT (Array.getElem?_eq_some_iff.mp f3).1 fun h0 ⟨o1, g1, _⟩ sb => ?_)
  have hl0 : h0.FunFrames base (env :: outer) := hl.of_keeps fun b o e n => ⟨o, (sb.2 b fun z => by rw [z, eT] at e; cases e; exact n _ dT).trans e, rfl⟩
  have a0 : h0.get? a = some oe := (sb.2 a (Ne.symm nTa)).trans ha
  refine wpAny_bind (wpAny_frameOf_fun hfr hl0 hf fun h₁ so => wpAny_bind (wpAny_entryPlaceOf fun pl hpl => ?_))
  unfold EntryCells.newEntry newFields
  refine wpAny_bind (wpAny_newObj_type ?_ (hpl.sizeOk5 _ _ _ _ _))
  generalize hob : ([Value.ref T, Value.ref L, .none, rawInt L, .none] ++ (if pl.isEmpty then List.replicate 6 Value.none else pl)).toArray = us
  have t3 : us[3]? = some (rawInt L) := by rw [← hob]; rfl
  have a1 : h₁.get? a = some oe := (so.2.1 a (nf a oe ha ⟨vs, hv⟩)).trans a0
  have ne : h₁.objs.size ≠ a := Nat.ne_of_gt (Heap.lt_size a1)
  refine setF (Heap.get?_push_of_some _ a1) hv (by omega) fun g2 ⟨o2, e2, c2, d2⟩ sb2 => ?_
  have eN : g2.get? h₁.objs.size = some _ := (sb2.2 _ ne).trans (Heap.get?_push_size h₁ rfl)
  have old : ∀ b o, h₁.get? b = some o → b ≠ a → g2.get? b = some o := fun b o e z => (sb2.2 b z).trans (Heap.get?_push_of_some _ e)
  have z1 : h₁.objs.size = s.heap.objs.size := so.1.trans sb.1
  have z2 : g2.objs.size = h₁.objs.size + 1 := sb2.1.trans (Heap.size_push ..)
  refine hQ g2 h₁.objs.size (fun b o e n na nt => old b o ((so.2.1 b n).trans ((sb.2 b nt).trans e)) na) (fun b o e hb => ?_) ⟨o2, _, _, us, e2, c2, d2, by simp [show 1 < vs.size by omega], eN, rfl, t3, ne, by rw [Array.getElem?_setIfInBounds_ne (by decide)]; exact h2⟩ (Nat.le_of_eq z1.symm) (by omega)
  obtain ⟨_, o', e', n⟩ := hl.mem hb
  rw [e] at e'; cases e'
  have nbT : b ≠ T := fun z => by rw [z, eT] at e; cases e; exact n _ dT
  obtain ⟨sl, y⟩ := so.2.2 b o ((sb.2 b nbT).trans e)
  exact ⟨sl, old b _ y fun z => by rw [z, ha] at e; cases e; exact n _ hv⟩
/-- it is passed on -/
theorem pass_on {α : Type} {what : String} {Q : α → Shared → Prop} (hx : ExcV v s.heap a T C) (hE : ∀ h' v', Heap.SameBut T s.heap h' → ExcV v' h' a T C → E (.ref a) { s with heap := h' }) : wpAny M A (PySem.passOn what (.ref a) env) Q E s := by
  obtain ⟨oe, vs, oT, ts, p1, rfl, p3, p4, p5, p6, p7, p8, p9⟩ := hx
  unfold PySem.passOn
  refine wpAny_bind (wpAny_field p1 p3 p4 ?_)
  rw [if_neg (by simp)]
  unfold setFlight
  refine wpAny_bind (wpAny_bind (wpAny_field p1 p3 p4 ?_))
  rw [if_pos (by simp)]
  have t3 := (Array.getElem?_eq_some_iff.mp p7).1
  refine setF p5 p6 t3 fun h' ⟨o', e', c', d'⟩ sb => wpAny_throw (hE h' _ sb ⟨oe, vs, o', _, (sb.2 a (Ne.symm p8)).trans p1, rfl, p3, p4, e', d', Array.getElem?_setIfInBounds_self_of_lt t3, p8, p9⟩)
theorem land_any (hx : ExcV v s.heap a T C) (hQ : ∀ h', Heap.SameBut T s.heap h' → Exc h' a T C → Q () { s with heap := h' }) : wpAny M A (setFlight (.ref a) none) Q E s := by
  obtain ⟨oe, vs, oT, ts, p1, rfl, p3, p4, p5, p6, p7, p8, p9⟩ := hx
  unfold setFlight
  refine wpAny_bind (wpAny_field p1 p3 p4 ?_)
  rw [if_pos (by simp)]
  have t3 := (Array.getElem?_eq_some_iff.mp p7).1
  exact setF p5 p6 t3 fun h' ⟨o', e', c', d'⟩ sb => hQ h' sb ⟨oe, vs, o', _, (sb.2 a (Ne.symm p8)).trans p1, rfl, p3, p4, e', d', by simp [t3], p8, p9⟩
/-- it leaves the frame, wherever it was in flight -/
theorem leave_any (hfr : A.frames = some (env :: outer)) (hf : env.frame = some L) (hl : s.heap.FunFrames base (env :: outer)) (hx : ExcV v s.heap a T C)
    (hQ : ∀ h' T', (∀ b o, s.heap.get? b = some o → b ∉ frs (env :: outer) → b ≠ a → b ≠ T → h'.get? b = some o) → (∀ b o, s.heap.get? b = some o → b ∈ frs (env :: outer) → ∃ sl, h'.get? b = some { o with slots := sl }) →
      Exc h' a T' C → (T' = T ∨ s.heap.objs.size ≤ T') → Q () { s with heap := h' }) : wpAny M A (leaving env (.ref a)) Q E s := by
  have nf : ∀ b, b ∈ frs (env :: outer) → b ≠ T := fun b hb z => by
    obtain ⟨oe, vs, oT, ts, p1, _, p3, p4, p5, p6, _⟩ := hx
    obtain ⟨_, o', e', n⟩ := hl.mem hb
    rw [z, p5] at e'; cases e'
    exact n _ p6
  unfold leaving
  cases hw : v == rawInt L with
  | true =>
    have hx' := hx
    obtain ⟨oe, vs, oT, ts, p1, _, p3, p4, p5, p6, p7, p8, p9⟩ := hx
    unfold noteFrame
    simp only [hf]
    refine wpAny_bind (wpAny_bind (wpAny_field p1 p3 p4 ?_))
    show wpAny M A (if (Value.ref T != Value.none) = true then _ else _) _ _ s
    rw [if_pos (by simp)]
    refine wpAny_bind (wpAny_field p5 p6 p7 ?_)
    rw [if_pos hw]
    refine wpAny_pure (land_any hx' fun h' sb ex => hQ h' T (fun b o e _ _ nt => (sb.2 b nt).trans e) (fun b o e hb => ⟨o.slots, (sb.2 b (nf b hb)).trans e⟩) ex (.inl rfl))
  | false =>
    refine wpAny_bind (note1 hfr hf hl hx hw fun h' T' k1 k2 ex nT _ => ?_)
    have ne : ∀ b o, s.heap.get? b = some o → b ≠ T' := fun b o e => Nat.ne_of_lt (Nat.lt_of_lt_of_le (Heap.lt_size e) nT)
    refine land_any ex fun h2 sb ex2 => hQ h2 T' (fun b o e n na nt => (sb.2 b (ne b o e)).trans (k1 b o e n na nt)) (fun b o e hb => ?_) ex2 (.inr nT)
    obtain ⟨sl, q⟩ := k2 b o e hb
    exact ⟨sl, (sb.2 b (ne b o e)).trans q⟩
end
section
variable {prog : Program} {w : World} {A : Around} {R : Result → Shared → Prop} {s : Shared}
theorem comp_loopX {elt target iter : Expr} {ifs : List Expr} {scope : Scope} {pos : Pos} {it acc : Value} {env : Env} (I : Nat → Shared → Prop)
    (turn : ∀ n s, I n s → wpAny (model prog w) A (pyNext it) (fun r s₁ => match r with
      | none => R (.ok .next) s₁
      | some v => wpAny (model prog w) A (letOwnedTupleGo target it v) (fun _ s₁' => wpAny (model prog w) A (assign target env v) (fun _ s₂ =>
          wpAny (model prog w) A (forIn ifs true fun c r => if r = true then do let ok ← isTrue c env (eval c env); pure (ForInStep.yield ok) else pure (ForInStep.yield r)) (fun ok s₃ =>
            if ok = true then wpAny (model prog w) A (eval elt env) (fun x s₄ =>
              wpAny (model prog w) A (call (.builtin "list.append") [acc, x]) (fun _ s₅ => ∃ m, m < n ∧ I m s₅) (fun _ _ => False) s₄) (fun x s' => notedBy (model prog w) A env (fun e s'' => R (.error e) s'') x s') s₃
            else ∃ m, m < n ∧ I m s₃) (fun _ _ => False) s₂) (fun _ _ => False) s₁') (fun _ _ => False) s₁) (fun _ _ => False) s)
    (n : Nat) (h : I n s) : codeAny (model prog w) A (.compLoop (.ListComp elt [⟨target, iter, ifs, 0⟩] scope pos) 0 it acc env) R s := by
  refine codeAny_loop rfl I (fun n s hI => ?_) n h
  show wpAny _ A ((compTurn (.ListComp elt [⟨target, iter, ifs, 0⟩] scope pos) 0 it acc env).onRaise (fun x => do noteFrame x env; theTreesLotGoes x)) _ _ s
  refine wpAny_noted ?_
  rw [compTurn_list]
  refine wpAny_bind (wpAny_standAt (wpAny_bind (wpAny_mono (turn n s hI) (fun r s₁ h₁ => ?_) fun _ _ h' => h'.elim)))
  cases r with
  | none => exact wpAny_pure h₁
  | some v =>
    refine wpAny_bind (wpAny_mono h₁ (fun _ s₁' h₁' => ?_) fun _ _ h' => h'.elim)
    refine wpAny_bind (wpAny_mono h₁' (fun _ s₂ h₂ => wpAny_bind (wpAny_mono h₂ (fun ok s₃ h₃ => ?_) fun _ _ h' => h'.elim)) fun _ _ h' => h'.elim)
    cases ok with
    | false => exact wpAny_pure ⟨rfl, h₃⟩
    | true =>
      exact wpAny_bind (wpAny_bind (wpAny_mono h₃ (fun x s₄ h₄ => wpAny_bind (wpAny_mono h₄ (fun _ s₅ h₅ => wpAny_pure (wpAny_pure ⟨rfl, h₅⟩)) fun _ _ h' => h'.elim)) fun _ _ h' => h'))
end
/-- what was there when the def began is no part of the block -/
def Olds (X : Cx) (s3 : Shared) (ex : List Addr) : Prop := ∀ b o, X.s₀.heap.get? b = some o → b ∉ ex ∧ ∃ o', s3.heap.get? b = some o'
def xeB (X B : Cx) (R : Addr → Hp → Prop) : Value → Shared → Prop := fun e s' => ∃ (a T C : Addr) (σ' : L2.St) (H' : Hp), e = .ref a ∧ Inv B [] σ' H' s' ∧ Exc s'.heap a T (.ref C) ∧ X.s₀.heap.get? a = none ∧ X.s₀.heap.get? T = none ∧ H' a = none ∧ H' T = none ∧ R C H'
section
variable {X : Cx} {pins : List (Addr × Obj)} {σ : St} {tg elt iter : Expr} {ifs : List Expr} {scope : Scope} {pos : Pos} {Ls Fs : List Str} {fi : List Nat} {g : TG} {tc : TT} {te : TE}
theorem passB {R : Addr → Hp → Prop} {N : List Str} {cl : List (Str × Addr)} {C : Addr} {s3 : Shared} {H3 : Hp} {ex : List Addr} (ho : Olds X s3 ex) :
    Passes (CX1 X.prog X.w) ((blk X scope N cl C s3 H3 ex).wish (xeB X (blk X scope N cl C s3 H3 ex) R)) (ET R) := by
  intro pins σ H s e s' I c
  obtain ⟨a, T, C, H', rfl, os, bare, un, ok, ex, na, nT, ha, hT, C', hC, hR⟩ := c
  cases hC
  have I0 := I.unwish
  have I' : Inv _ pins σ H' s' := I0.call' os un ok bare (fun b z => nomatch z)
  have old : ∀ b, s.heap.get? b = none → X.s₀.heap.get? b = none := fun b e => by
    cases q : X.s₀.heap.get? b with
    | none => rfl
    | some o =>
      obtain ⟨nb, o', z⟩ := ho b o q
      obtain ⟨o2, z2⟩ := I0.base.there b o' z nb
      rw [e] at z2
      cases z2
  exact ⟨a, T, C, σ, H', rfl, I'.pins_of (fun p hp => nomatch hp), ex, old a na, old T nT, ha, hT, hR⟩
theorem lc_blockX {R : Addr → Hp → Prop} {H2 : Hp} {s2 : Shared} {it : Addr} {fp : List Addr} {tn : Nat → Heap → Prop} {J : It} {cl : List (Str × Addr)} {Q : VK} {E : Value → Shared → Prop} {RR : Value → Addr → Result → Shared → Prop}
    (S : LcScope X.N X.env.scope scope Ls Fs fi)
    (hex : X.ex = []) (hb : ∀ C s3 H3 ex, Olds X s3 ex → PG (blk X scope (Ls ++ Fs) cl C s3 H3 ex) tg g ∧ PTs (blk X scope (Ls ++ Fs) cl C s3 H3 ex) ifs tc ∧ PE ((blk X scope (Ls ++ Fs) cl C s3 H3 ex).wish (xeB X (blk X scope (Ls ++ Fs) cl C s3 H3 ex) R)) elt te)
    (hcl1 : ∀ x c, cl.lookup x = some c → X.env.cells.lookup x = some c) (hcl2 : ∀ y ∈ scope.names, y.2 = .free → ∃ c, cl.lookup y.1 = some c)
    (I2 : Inv X pins σ H2 s2) (TX : ∀ C s3 H3 ex, TurnX (blk X scope (Ls ++ Fs) cl C s3 H3 ex) tg J fp it tn) (st2 : tn 0 s2.heap) (f2 : ∀ b ∈ fp, FpOk X pins H2 b)
    (hW : ∃ W : Nat → Nat → List V → Hp → Prop, (∃ m, W 0 m [] H2) ∧ ∀ i m ys H, W i m ys H →
      (J.stop i H ∧ ys.length ≤ sizeLine ∧ ∀ D, H D = none → Q (.ref D) (upd H D (.lst ys))) ∨
      (J.go i H ∧ ys.length ≤ sizeLine ∧ ∃ N : List V → Hp → Prop, (∀ ys' H', N ys' H' → ∃ m', m' < m ∧ W (i + 1) m' ys' H') ∧ ∀ x H', J.yld i H x H' → g x (capt Ls.length fi σ) H' fun σ2 H2 =>
        tc σ2 H2 fun b H3 => if b = true then te σ2 H3 fun y H4 => N (ys ++ [y]) H4 else N ys H3))
    (fin : ∀ D C H' s' m, Inv X pins σ H' s' → Q (.ref D) H' → s'.heap.Ns C m → FpOk X pins H' C → RR (.ref D) C (.ok .next) s')
    (err : ∀ (D C : Addr) (H' : Hp) (s' : Shared) (m : Str → Option Value) (a T Cc : Addr), Inv X pins σ H' s' → s'.heap.Ns C m → FpOk X pins H' C → Exc s'.heap a T (.ref Cc) → X.s₀.heap.get? a = none → X.s₀.heap.get? T = none → H' a = none → H' T = none → R Cc H' →
      ∀ env' : Env, env'.frame = X.env.frame → notedBy (model X.prog X.w) X.A env' (fun e s'' => RR (.ref D) C (.error e) s'') (.ref a) s') :
    wpAny (model X.prog X.w) X.A (newList []) (fun acc s₃ => wpAny (model X.prog X.w) X.A (newFunctionEnv scope X.env.globals cl [] X.env.qual none .none (some X.env)) (fun cenv s₄ =>
      codeAny (model X.prog X.w) X.A (.compStart (.ListComp elt [⟨tg, iter, ifs, 0⟩] scope pos) 0 (.ref it) acc { cenv with scope := relabel scope X.env }) (RR acc cenv.locals) s₄) E s₃) E s2 := by
  refine wpAny_newObj_type (wpAny_newFunctionEnv S.cells (by intro y hy; simp at hy) (fun h₁ hns₁ hsb₁ => ?_) S.kind)
  dsimp only at hns₁ hsb₁ ⊢
  generalize hH3 : s2.heap.push { cls := .type "list", dict := none, data := .seq ([] : List Value).toArray } = h3 at hns₁ hsb₁ ⊢
  generalize hC : h3.objs.size = C at hns₁ hsb₁ ⊢
  generalize hD : s2.heap.objs.size = D
  have hCD : C = D + 1 := by rw [← hC, ← hH3, Heap.size_push, hD]
  have k23 : ∀ b o, s2.heap.get? b = some o → h3.get? b = some o := fun b o e => by rw [← hH3]; exact Heap.get?_push_of_some _ e
  have k34 : ∀ b o, h3.get? b = some o → h₁.get? b = some o := fun b o e => hsb₁.extBut b o (Nat.ne_of_lt (by have := aLt e; omega)) (Heap.get?_push_of_some _ e)
  have hDo : h3.get? D = some { cls := .type "list", data := .seq ([] : List Value).toArray } := by rw [← hH3, ← hD]; exact Heap.get?_push_size _ rfl
  obtain ⟨W, ⟨m0, w0⟩, turn⟩ := hW
  have T := TX C { s2 with heap := h3 } H2 (D :: fp)
  -- the state where the block begins
  have I3 : Inv X pins σ H2 { s2 with heap := h3 } := I2.kept (t' := s2.toks) k23
  have frD : H2 D = none := by rw [← hD]; exact I2.fresh
  have frC : H2 C = none := I2.hok.fresh (by omega)
  have DL : D ≠ X.env.locals := Nat.ne_of_gt (by have : @LT.lt Nat _ X.env.locals s2.heap.objs.size := I2.lt; omega)
  have CL : C ≠ X.env.locals := Nat.ne_of_gt (by have : @LT.lt Nat _ X.env.locals s2.heap.objs.size := I2.lt; omega)
  have cellLt : ∀ x c, X.env.cells.lookup x = some c → @LT.lt Nat _ c D := fun x c e => by
    obtain ⟨v, q⟩ := I2.cell x c e
    have : @LT.lt Nat _ c s2.heap.objs.size := q.lt
    omega
  have fpLt : ∀ b ∈ fp, @LT.lt Nat _ b D := fun b hb => by
    obtain ⟨o, e, _⟩ := T.obj _ _ st2 b hb
    have := aLt e
    omega
  have exLoc : ∀ b ∈ D :: fp, b ≠ C ∧ (∀ x c, X.env.cells.lookup x = some c → c ≠ b) := fun b hb => by
    rcases List.mem_cons.mp hb with e | hb
    · subst e
      exact ⟨Nat.ne_of_lt (by omega), fun x c e => Nat.ne_of_lt (cellLt x c e)⟩
    · exact ⟨Nat.ne_of_lt (by have := fpLt b hb; omega), (f2 b hb).2.2.2.2.1⟩
  have ok' : (blk X scope (Ls ++ Fs) cl C { s2 with heap := h3 } H2 (D :: fp)).Ok := by
    refine ⟨I2.ok.mod, S.kind, I2.ok.glob, I2.ok.blt, ?_, fun x y c e1 e2 => I2.ok.inj x y c (hcl1 x c e1) (hcl1 y c e2), fun x hx => ?_, fun x c hx => absurd hx Bool.false_ne_true, I2.ok.hd, I2.ok.frames, .inl rfl,
      fun b hb => ⟨(exLoc b hb).1, fun x c e => (exLoc b hb).2 x c (hcl1 x c e)⟩, I3.bs, Nat.le_trans I2.ok.bsz I3.sz, fun b o e hb => ?_, fun b hb => ?_, I3.stack, I3.stkFree⟩
    · show h3.objs.size ≤ C
      omega
    · obtain ⟨y, hy, e1, e2⟩ := relabel_free S.cells hx
      obtain ⟨c, q⟩ := hcl2 y hy e2
      exact ⟨c, e1 ▸ q⟩
    · rcases List.mem_cons.mp hb with z | hb
      · exact absurd z (Nat.ne_of_lt (by have := aLt (I2.bk b o e); omega))
      · rcases (f2 b hb).2.2.2.1 with z | z
        · exact I2.ok.noex b o e z
        · have h1 : @LT.lt Nat _ b X.base.objs.size := aLt e
          have h2 : @LE.le Nat _ X.base.objs.size X.s₀.heap.objs.size := I2.ok.bsz
          have h3 : @LE.le Nat _ X.s₀.heap.objs.size b := z
          omega
    · intro hz
      have hz' := I2.stkSub b hz
      rcases List.mem_cons.mp hb with e | hb
      · subst e
        rcases List.mem_cons.mp hz' with z | z
        · exact DL z
        · exact I2.nofs (by omega) z
      · rcases List.mem_cons.mp hz' with z | z
        · exact (f2 b hb).2.1 z
        · exact (f2 b hb).2.2.1 z
  obtain ⟨m2, hn2, hl2⟩ := id I2.loc
  -- the captured values lie in cells that no one changes
  have cap : ∀ (i : Nat) (x : Str) (v : V), (Ls ++ Fs)[i]? = some x → (capt Ls.length fi σ)[i]? = some (some v) → ∃ u c, RelV v u ∧ ((relabel scope X.env).names.lookup x = some .cell ∨ (relabel scope X.env).names.lookup x = some .free) ∧
      cl.lookup x = some c ∧ X.env.cells.lookup x = some c ∧ s2.heap.IsCell c (some u) := by
    intro i x v e1 e2
    unfold capt at e2
    by_cases hi : i < Ls.length
    · rw [List.getElem?_append_left (by simpa using hi), List.getElem?_replicate, if_pos hi] at e2
      cases e2
    · have hi' : Ls.length ≤ i := Nat.le_of_not_lt hi
      rw [List.getElem?_append_right hi'] at e1
      rw [List.getElem?_append_right (by simpa using hi'), List.length_replicate, List.getElem?_map] at e2
      cases e3 : fi[i - Ls.length]? with
      | none => rw [e3] at e2; cases e2
      | some j =>
        rw [e3] at e2
        have e4 : σ.getD j none = some v := Option.some.inj e2
        have e5 : X.N[j]? = some x := by
          have q := congrArg (fun l => l[i - Ls.length]?) S.ix
          simp only [List.getElem?_map, e3, e1, Option.map_some] at q
          exact Option.some.inj q
        have e6 : σ[j]? = some (some v) := by
          rw [List.getD_eq_getElem?_getD] at e4
          cases e7 : σ[j]? with
          | none => rw [e7] at e4; cases e4
          | some z => rw [e7] at e4; exact congrArg some e4
        have fx := S.fre x (List.mem_of_getElem? e1)
        have al := S.all (x, .free) (PySem.mem_of_lookup fx) rfl
        have vis : Vis X.env.scope x := by
          rcases al with z | z
          · exact .inr (.inl z)
          · exact .inr (.inr z)
        obtain ⟨u, ru, lk⟩ := hl2 j x v e5 e6 vis
        rcases lk with ⟨k, _⟩ | ⟨k, c, ec, hcell⟩
        · have k' : X.env.scope.names.lookup x = some .local := k
          rcases al with z | z
          · rw [show X.env.scope.names.lookup x = some .cell from z] at k'; cases k'
          · rw [show X.env.scope.names.lookup x = some .free from z] at k'; cases k'
        · obtain ⟨c', ec'⟩ := hcl2 (x, .free) (PySem.mem_of_lookup fx) rfl
          have : c' = c := Option.some.inj ((hcl1 x c' ec').symm.trans ec)
          subst this
          exact ⟨u, c', ru, relabel_look fx, ec', ec, hcell⟩
  have capLen : (capt Ls.length fi σ).length = (Ls ++ Fs).length := by
    unfold capt
    have q := congrArg List.length S.ix
    simp only [List.length_map] at q
    rw [List.length_append, List.length_replicate, List.length_map, List.length_append, q]
  -- whatever the block's names hold, the captured ones hold what they held
  have re : ∀ {ps : List (Addr × Obj)} {σ' : St} {H' : Hp} {s' : Shared}, Inv (blk X scope (Ls ++ Fs) cl C { s2 with heap := h3 } H2 (D :: fp)) ps σ' H' s' → Inv (blk X scope (Ls ++ Fs) cl C { s2 with heap := h3 } H2 (D :: fp)) ps (capt Ls.length fi σ) H' s' := by
    intro ps σ' H' s' J'
    refine ⟨J'.ok, J'.os, J'.bare, J'.base, ?_, J'.cell, J'.free, J'.freeC, J'.pin, J'.hok, capLen⟩
    obtain ⟨m, hn, _⟩ := J'.loc
    refine ⟨m, hn, fun i x v e1 e2 _ => ?_⟩
    obtain ⟨u, c, ru, kk, ec, ec2, o, ho, hd⟩ := cap i x v e1 e2
    obtain ⟨sl, q⟩ := J'.base.any (k23 c o ho) (I2.freeC x c ec2) fun z => (exLoc c z).2 x c ec2 rfl
    exact ⟨u, ru, .inr ⟨kk, c, ec, _, q, hd⟩⟩
  have I4 : Inv (blk X scope (Ls ++ Fs) cl C { s2 with heap := h3 } H2 (D :: fp)) [(D, { cls := .type "list", data := .seq ([] : List Value).toArray })] (capt Ls.length fi σ) H2 { s2 with heap := h₁, toks := s2.toks + ([] : List (Str × Value)).length } := by
    refine ⟨ok', rfl, I2.bare, Un.kept k34, ⟨_, hns₁, fun i x v e1 e2 _ => ?_⟩, fun x c e => ?_, frC, fun x c e => I2.freeC x c (hcl1 x c e), fun p hp => ?_, I2.hok.kept fun b o e => k34 b o (k23 b o e), capLen⟩
    · obtain ⟨u, c, ru, kk, ec, ec2, o, ho, hd⟩ := cap i x v e1 e2
      exact ⟨u, ru, .inr ⟨kk, c, ec, o, k34 c o (k23 c o ho), hd⟩⟩
    · obtain ⟨v, o, ho, hd⟩ := I2.cell x c (hcl1 x c e)
      exact ⟨v, o, k34 c o (k23 c o ho), hd⟩
    · have hp' : p = (D, { cls := .type "list", data := .seq ([] : List Value).toArray }) := by
        have : p ∈ ([] : List (Addr × Obj)) ++ [(D, { cls := .type "list", data := .seq ([] : List Value).toArray })] := hp
        simpa using this
      subst hp'
      refine ⟨k34 D _ hDo, frD, Nat.ne_of_lt (show @LT.lt Nat _ D C by omega), fun z => ?_, fun v z => by cases z⟩
      rcases List.mem_cons.mp (I2.stkSub D z) with z | z
      · exact DL z
      · exact I2.nofs (by omega) z
  have olds : Olds X { s2 with heap := h3 } (D :: fp) := fun b o e => by
    obtain ⟨o', z⟩ := I2.base.there b o e (by rw [hex]; exact fun y => nomatch y)
    refine ⟨fun hb => ?_, o', k23 b o' z⟩
    rcases List.mem_cons.mp hb with q | hb
    · exact absurd q (Nat.ne_of_lt (by have := aLt z; omega))
    · rcases (f2 b hb).2.2.2.1 with q | q
      · rw [hex] at q; exact nomatch q
      · exact absurd (aLt e) (Nat.not_lt.mpr q)
  obtain ⟨hg, ht, he⟩ := hb C { s2 with heap := h3 } H2 (D :: fp) olds
  -- what the def's own context knows where an exception goes out
  have backX : ∀ {ps : List (Addr × Obj)} {σ' : St} {H' : Hp} {s' : Shared}, Inv (blk X scope (Ls ++ Fs) cl C { s2 with heap := h3 } H2 (D :: fp)) ps σ' H' s' → Inv X pins σ H' s' ∧ FpOk X pins H' C := by
    intro ps σ' H' s' J'
    have neD : ∀ b o, s2.heap.get? b = some o → b ≠ D := fun b o e => Nat.ne_of_lt (by have := aLt e; omega)
    have nex : ∀ b, b ∉ fp → b ≠ D → b ∉ D :: fp := fun b h1 h2 z => (List.mem_cons.mp z).elim h2 h1
    have U : Un (frs X.stack) fp H2 H' s2.heap s'.heap :=
      ⟨fun b o e n hb hx => J'.base.keep b o (k23 b o e) n hb (nex b hx (neD b o e)), fun b o e n hb hx => J'.base.slot b o (k23 b o e) n hb (nex b hx (neD b o e)), fun b o e n hx => J'.base.free b o (k23 b o e) n (nex b hx (neD b o e)), fun b o e hx => J'.base.there b o (k23 b o e) (nex b hx (neD b o e)), J'.base.tups, J'.base.frzs, J'.base.tbls⟩
    refine ⟨I2.call' J'.os U J'.hok J'.bare fun b hb => ⟨(f2 b hb).2.2.2.1, (f2 b hb).2.1, (f2 b hb).2.2.2.2.1, (f2 b hb).2.2.2.2.2⟩, ?_⟩
    refine ⟨J'.free, CL, I2.nofs (by omega), .inr (by have := I2.sz; omega), fun x c e => Nat.ne_of_lt (by have := cellLt x c e; omega), fun p hp => ?_⟩
    have := aLt (I2.pin p hp).1
    exact Nat.ne_of_lt (by omega)
  -- behind the block: what the def's own context knows
  have back : ∀ {ps : List (Addr × Obj)} {σ' : St} {H' : Hp} {s' : Shared} {ys : List V} {its : List Value} {n : Nat}, Inv (blk X scope (Ls ++ Fs) cl C { s2 with heap := h3 } H2 (D :: fp)) ps σ' H' s' → s'.heap.get? D = some { cls := .type "list", data := .seq its.toArray n } →
      H' D = none → Vals ys its → ys.length ≤ sizeLine → Inv X pins σ (upd H' D (.lst ys)) s' ∧ FpOk X pins (upd H' D (.lst ys)) C := by
    intro ps σ' H' s' ys its n J' hDs hDn rv hz
    have neD : ∀ b o, s2.heap.get? b = some o → b ≠ D := fun b o e => Nat.ne_of_lt (by have := aLt e; omega)
    have nex : ∀ b, b ∉ fp → b ≠ D → b ∉ D :: fp := fun b h1 h2 z => (List.mem_cons.mp z).elim h2 h1
    have U : Un (frs X.stack) fp H2 (upd H' D (.lst ys)) s2.heap s'.heap := by
      refine ⟨fun b o e n hb hx => J'.base.keep b o (k23 b o e) n hb (nex b hx (neD b o e)), fun b o e n hb hx => J'.base.slot b o (k23 b o e) n hb (nex b hx (neD b o e)), fun b o e n hx => ?_, fun b o e hx => J'.base.there b o (k23 b o e) (nex b hx (neD b o e)), fun b xs e => ?_, fun b o u e => ?_, fun b ps e => ?_⟩
      · rw [upd_ne (neD b o e)]
        exact J'.base.free b o (k23 b o e) n (nex b hx (neD b o e))
      · rw [upd_ne (ne_of_none e frD)]
        exact J'.base.tups b xs e
      · rw [upd_ne (ne_of_none e frD)]
        exact J'.base.frzs b o u e
      · obtain ⟨more, q⟩ := J'.base.tbls b ps e
        exact ⟨more, by rw [upd_ne (ne_of_none e frD)]; exact q⟩
    have hok' : HOk X.prog X.w (upd H' D (.lst ys)) s'.heap := fun b u q => by
      by_cases hbD : b = D
      · subst hbD
        rw [upd_same] at q
        cases q
        exact ⟨hz, its, n, rv, hDs⟩
      · rw [upd_ne hbD] at q
        exact (J'.hok b u q).stay (fun c v _ r => r) (fun c r => by rw [upd_ne (ne_of_none r hDn)]; exact r) fun c xs r => by rw [upd_ne (ne_of_none r hDn)]; exact r
    refine ⟨I2.call' J'.os U hok' J'.bare fun b hb => ⟨(f2 b hb).2.2.2.1, (f2 b hb).2.1, (f2 b hb).2.2.2.2.1, (f2 b hb).2.2.2.2.2⟩, ?_⟩
    refine ⟨by rw [upd_ne (Nat.ne_of_gt (by omega))]; exact J'.free, CL, I2.nofs (by omega), .inr (by have := I2.sz; omega), fun x c e => Nat.ne_of_lt (by have := cellLt x c e; omega), fun p hp => ?_⟩
    have := aLt (I2.pin p hp).1
    exact Nat.ne_of_lt (by omega)
  have loop : codeAny (model X.prog X.w) X.A (.compLoop (.ListComp elt [⟨tg, iter, ifs, 0⟩] scope pos) 0 (.ref it) (.ref D) (compEnvC scope cl C X.env)) (RR (.ref D) C) { s2 with heap := h₁, toks := s2.toks + ([] : List (Str × Value)).length } := by
    refine comp_loopX (fun n s' => ∃ (i : Nat) (ys : List V) (H' : Hp) (its : List Value) (k : Nat), Inv (blk X scope (Ls ++ Fs) cl C { s2 with heap := h3 } H2 (D :: fp)) [(D, { cls := .type "list", data := .seq its.toArray k })] (capt Ls.length fi σ) H' s' ∧
      Vals ys its ∧ tn i s'.heap ∧ (∀ b ∈ fp, H' b = none) ∧ W i n ys H') ?_ m0 ⟨0, [], H2, [], 0, I4, .nil, T.keep _ _ _ st2 fun b _ o e => k34 b o (k23 b o e), fun b hb => (f2 b hb).1, w0⟩
    rintro n s5 ⟨i, ys, H5, its, k, I5, rv, st5, fr5, w5⟩
    have stat : ∀ {H' : Hp} {its' : List Value} {k' : Nat}, (∀ b ∈ fp, H' b = none) → ∀ b ∈ fp, FpOk (blk X scope (Ls ++ Fs) cl C { s2 with heap := h3 } H2 (D :: fp)) [(D, { cls := .type "list", data := .seq its'.toArray k' })] H' b := fun hn b hb => by
      refine ⟨hn b hb, (exLoc b (List.mem_cons_of_mem _ hb)).1, fun z => ok'.exfs b (List.mem_cons_of_mem _ hb) z, .inl (List.mem_cons_of_mem _ hb), fun x c e => (exLoc b (List.mem_cons_of_mem _ hb)).2 x c (hcl1 x c e), fun p hp => ?_⟩
      have hp' : p = _ := List.mem_singleton.mp hp
      rw [hp']
      have := fpLt b hb
      show D ≠ b
      exact Nat.ne_of_gt this
    have pinD := I5.pin (D, { cls := .type "list", data := .seq its.toArray k }) (List.mem_singleton.mpr rfl)
    rcases turn i n ys H5 w5 with ⟨stop, hz, qn⟩ | ⟨go, hz, N, hN, step⟩
    · refine wpAny_mono (T.done i _ s5 _ H5 _ I5 (stat fr5) st5 stop) (fun r s6 ⟨hr, I6⟩ => ?_) fun _ _ h => h
      subst hr
      have pin6 := I6.pin (D, { cls := .type "list", data := .seq its.toArray k }) (List.mem_singleton.mpr rfl)
      obtain ⟨b1, b2⟩ := back I6 pin6.1 pin6.2.1 rv hz
      obtain ⟨m, hn, _⟩ := I6.loc
      exact fin D C _ s6 m b1 (qn D pin6.2.1) hn b2
    · refine wpAny_mono (T.item i _ s5 _ H5 _ I5 (stat fr5) st5 go) (fun r s6 ⟨u, hr, h6⟩ => ?_) fun _ _ h => h
      subst hr
      refine wpAny_mono h6 (fun _ s7 ⟨x, H7, I7, r7, y7, st7, fr7⟩ => ?_) fun _ _ h => h
      have I7' := I7.pinned (stat fr7) (T.obj _ _ st7)
      refine wpAny_mono (hg _ s7 _ H7 x u _ I7' r7 (step x H7 y7)) (fun _ s8 ⟨σ8, H8, I8, q8⟩ => ?_) fun _ _ h => h
      refine wpAny_mono (ht _ s8 σ8 H8 _ I8 q8) (fun ok s9 ⟨H9, I9, q9⟩ => ?_) fun _ _ h => h
      have keepT : ∀ {σ' : St} {H' : Hp} {s' : Shared}, Inv (blk X scope (Ls ++ Fs) cl C { s2 with heap := h3 } H2 (D :: fp)) ([(D, { cls := .type "list", data := .seq its.toArray k })] ++ pinsAt fp s7.heap) σ' H' s' → tn (i + 1) s'.heap ∧ ∀ b ∈ fp, H' b = none := by
        intro σ' H' s' J'
        refine ⟨T.keep _ _ _ st7 fun b hb o e => (J'.pin (b, o) (List.mem_append_right _ (List.mem_append_right _ (mem_pinsAt hb e)))).1, fun b hb => ?_⟩
        obtain ⟨o, e, d⟩ := T.obj _ _ st7 b hb
        exact (J'.pin (b, o) (List.mem_append_right _ (List.mem_append_right _ (mem_pinsAt hb e)))).2.1
      cases ok with
      | false =>
        rw [if_neg Bool.false_ne_true] at q9 ⊢
        obtain ⟨m', hm, w'⟩ := hN _ _ q9
        exact ⟨m', hm, i + 1, ys, H9, its, k, re I9.unpinned, rv, (keepT I9).1, (keepT I9).2, w'⟩
      | true =>
        rw [if_pos rfl] at q9 ⊢
        refine wpAny_mono (he _ s9 σ8 H9 _ (I9.wish _) q9) (fun v s10 ⟨y, H10, I10', r10, q10⟩ => ?_) fun e sx ⟨a, T, Cc, σx, Hx, ee, Ix, ex, na, nT, ha, hT, hR⟩ => by
          subst ee
          obtain ⟨b1, b2⟩ := backX Ix
          obtain ⟨m, hn, _⟩ := Ix.loc
          exact err D C Hx sx m a T Cc b1 hn b2 ex na nT ha hT hR _ rfl
        have I10 := I10'.unwish
        obtain ⟨m', hm, w'⟩ := hN _ _ q10
        obtain ⟨k10, f10⟩ := keepT I10
        have I11 : Inv (blk X scope (Ls ++ Fs) cl C { s2 with heap := h3 } H2 (D :: fp)) [(D, { cls := .type "list", data := .seq its.toArray k })] (capt Ls.length fi σ) H10 s10 := re I10.unpinned
        have pin11 := I11.pin (D, { cls := .type "list", data := .seq its.toArray k }) (List.mem_singleton.mpr rfl)
        refine wpAny_list_append_plain ⟨k, pin11.1⟩ (fun h' hp' sb => ?_) (by rw [List.size_toArray, ← rv.length]; exact hz)
        obtain ⟨k', hk'⟩ := hp'
        have e1 : its.toArray.push v = (its ++ [v]).toArray := by simp
        rw [e1] at hk'
        have I12 : Inv (blk X scope (Ls ++ Fs) cl C { s2 with heap := h3 } H2 (D :: fp)) [] (capt Ls.length fi σ) H10 { s10 with heap := h', toks := s10.toks } :=
          (I11.pins_of (pins' := []) fun p hp => (nomatch hp)).turned (it := D) (fun b o hb e => (sb.2 b hb).trans e) pin11.2.1 pin11.2.2.1 (.inl List.mem_cons_self) (fun x c e => (exLoc D List.mem_cons_self).2 x c (hcl1 x c e)) fun p hp => (nomatch hp)
        have I13 : Inv (blk X scope (Ls ++ Fs) cl C { s2 with heap := h3 } H2 (D :: fp)) [(D, { cls := .type "list", data := .seq (its ++ [v]).toArray k' })] (capt Ls.length fi σ) H10 { s10 with heap := h', toks := s10.toks } := I12.pins_of fun p hp => by
          have hp' : p = _ := List.mem_singleton.mp hp
          subst hp'
          exact ⟨hk', pin11.2.1, pin11.2.2.1, pin11.2.2.2.1, fun v z => by cases z⟩
        refine ⟨m', hm, i + 1, ys ++ [y], H10, its ++ [v], k', I13, rv.append (.cons r10 .nil), ?_, f10, w'⟩
        exact T.keep _ _ _ k10 fun b hb o e => (sb.2 b (Nat.ne_of_lt (fpLt b hb))).trans e
  exact codeAny_compStart_list loop (T.self _ 0 _ _ _ (T.keep _ _ _ st2 fun b _ o e => k34 b o (k23 b o e)) loop)

end
/-- frames that stay -/
theorem ff_on {h h' base : Heap} : ∀ {l : List Env}, h.FunFrames base l → (∀ b ∈ frs l, ∀ o, h.get? b = some o → ∃ o', h'.get? b = some o' ∧ o'.data = o.data) → h'.FunFrames base l
  | [], _, _ => trivial
  | env :: rest, hl, k => by
    obtain ⟨hk, ⟨L, o, hf, hn, ho, hd⟩, hr⟩ := hl
    have e1 : frs (env :: rest) = L :: frs rest := by unfold frs; rw [List.filterMap_cons, hf]
    rw [e1] at k
    obtain ⟨o', ho', hd'⟩ := k L List.mem_cons_self o ho
    exact ⟨hk, ⟨L, o', hf, hn, ho', fun vs => hd' ▸ hd vs⟩, ff_on hr fun b hb => k b (List.mem_cons_of_mem _ hb)⟩
theorem note_frame {x : Value} {env env' : Env} (h : env'.frame = env.frame) : noteFrame x env' = noteFrame x env := by
  unfold noteFrame PySem.frameOf
  rw [h]
section
variable {P : Program} {w : World} {K : PySem.W.Frag} {mg : Str → Option Value} {base : Heap} {N : List Str} {qual : Str} {scope : Scope} {f : Addr} {cd : Value} {A : Around} {outer : List Env} {s₀ s : Shared} {H₀ H : Hp} {E : XK} {CX : CXT} {pins : List (Addr × Obj)} {σ : L2.St}
theorem step_leftC {a T Z : Addr} {h' : Heap} (I : Inv (cxOf CX P w K mg base N qual scope f cd A outer s₀ H₀ E) pins σ H s)
    (na : H a = none ∧ s₀.heap.get? a = none) (nT : H T = none ∧ s₀.heap.get? T = none) (nZ : H Z = none ∧ s₀.heap.get? Z = none)
    (keep : ∀ b o, s.heap.get? b = some o → b ∉ frs (cxOf CX P w K mg base N qual scope f cd A outer s₀ H₀ E).stack → b ≠ a → b ≠ T → b ≠ Z → h'.get? b = some o)
    (slot : ∀ b o, s.heap.get? b = some o → b ∈ frs (cxOf CX P w K mg base N qual scope f cd A outer s₀ H₀ E).stack → ∃ sl, h'.get? b = some { o with slots := sl }) :
    Un (frs outer) [] H₀ H s₀.heap h' ∧ HOk P w H h' := by
  have B : Un (frs outer) [] H₀ H s₀.heap s.heap := I.base
  have neL : ∀ b o, s₀.heap.get? b = some o → b ∉ frs outer → b ∉ frs (cxOf CX P w K mg base N qual scope f cd A outer s₀ H₀ E).stack := fun b o e nb hb => by
    rcases List.mem_cons.mp (I.stkSub b hb) with z | z
    · exact absurd (Nat.lt_of_lt_of_le (Heap.lt_size e) I.ok.above) (by rw [z]; exact Nat.lt_irrefl _)
    · exact nb z
  have nea : ∀ b o, s₀.heap.get? b = some o → b ≠ a ∧ b ≠ T ∧ b ≠ Z := fun b o e => ⟨(fun z => by rw [z, na.2] at e; cases e), (fun z => by rw [z, nT.2] at e; cases e), (fun z => by rw [z, nZ.2] at e; cases e)⟩
  have any : ∀ b o, s.heap.get? b = some o → b ≠ a → b ≠ T → b ≠ Z → ∃ o', h'.get? b = some o' := fun b o e z1 z2 z3 => by
    by_cases hb : b ∈ frs (cxOf CX P w K mg base N qual scope f cd A outer s₀ H₀ E).stack
    · obtain ⟨sl, q⟩ := slot b o e hb
      exact ⟨_, q⟩
    · exact ⟨o, keep b o e hb z1 z2 z3⟩
  refine ⟨⟨fun b o e n hb hx => keep b o (B.keep b o e n hb hx) (neL b o e hb) (nea b o e).1 (nea b o e).2.1 (nea b o e).2.2, fun b o e n hb hx => ?_, B.free, fun b o e hx => ?_, B.tups, B.frzs, B.tbls⟩, fun b u e => ?_⟩
  · obtain ⟨sl, q⟩ := B.slot b o e n hb hx
    obtain ⟨sl', q'⟩ := slot b _ q (by
      show b ∈ frs (envOfC qual scope s₀.heap.objs.size f cd :: outer)
      unfold frs
      rw [List.filterMap_cons]
      exact List.mem_cons_of_mem _ hb)
    exact ⟨sl', q'⟩
  · obtain ⟨o', q⟩ := B.there b o e hx
    exact any b o' q (nea b o e).1 (nea b o e).2.1 (nea b o e).2.2
  · refine (I.hok b u e).stay (fun c v hc q => ?_) (fun _ q => q) fun _ _ q => q
    have hH : H c ≠ none := by
      rcases hc with rfl | z
      · rw [e]; exact fun z => nomatch z
      · rw [z]; exact fun z => nomatch z
    exact keep c v q (fun z => hH (I.stkFree c z)) (fun z => hH (by rw [z]; exact na.1)) (fun z => hH (by rw [z]; exact nT.1)) (fun z => hH (by rw [z]; exact nZ.1))
abbrev RX (E : XK) : Addr → Hp → Prop := fun C H' => E (.ref C) none H'
theorem err_out {m : Str → Option Value} {use : Option (Value → Sem Unit)} {D Z a T Cc : Addr} {env' : Env} {Q : Value → Shared → Prop} (I : Inv (cxOf (CX1 P w) P w K mg base N qual scope f cd A outer s₀ H₀ E) pins σ H s) (hn : s.heap.Ns Z m) (hz : FpOk (cxOf (CX1 P w) P w K mg base N qual scope f cd A outer s₀ H₀ E) pins H Z)
    (ex : Exc s.heap a T (.ref Cc)) (na : s₀.heap.get? a = none) (nT : s₀.heap.get? T = none) (ha : H a = none) (hT : H T = none) (hE : E (.ref Cc) none H) (hf : env'.frame = (envOfC qual scope s₀.heap.objs.size f cd).frame) :
    notedBy (model P w) (A.deeper (envOfC qual scope s₀.heap.objs.size f cd)) env' (fun e s'' => compPost (model P w) (A.deeper (envOfC qual scope s₀.heap.objs.size f cd)) (cxOf (CX1 P w) P w K mg base N qual scope f cd A outer s₀ H₀ E).xe use Q (.ref D) Z (.error e) s'') (.ref a) s := by
  obtain ⟨z0, z1, z2, z3, z4, z5⟩ := hz
  have z3 : s₀.heap.objs.size ≤ Z := z3.elim (fun y => nomatch y) id
  have nZ0 : s₀.heap.get? Z = none := by
    cases q : s₀.heap.get? Z with
    | none => rfl
    | some o => exact absurd (Heap.lt_size q) (Nat.not_lt.mpr z3)
  have nZs : Z ∉ frs (envOfC qual scope s₀.heap.objs.size f cd :: outer) := fun hb => by
    rcases List.mem_cons.mp (I.stkSub Z hb) with z | z
    · exact z1 z
    · exact z2 z
  obtain ⟨oZ, es, ep, hZ, dZ, rest⟩ := hn
  have neZ : Z ≠ a ∧ Z ≠ T := ex.ne_dict hZ fun vs z => by rw [dZ] at z; cases z
  unfold notedBy
  rw [note_frame hf]
  refine note1 (L := s₀.heap.objs.size) (v := .none) I.ok.frames rfl I.stack ex (by rfl) fun h1 T1 k1 l1 ex1 n1 g1 => ?_
  have hZ1 := k1 Z oZ hZ nZs neZ.1 neZ.2
  refine ⟨m, ⟨oZ, es, ep, hZ1, dZ, rest⟩, fun h2 sb2 cenv _ => ?_⟩
  have ex2 : ExcV (rawInt s₀.heap.objs.size) h2 a T1 (.ref Cc) := ex1.kept fun b o e ⟨vs, d⟩ => (sb2.2 b fun z => by rw [z, hZ1] at e; cases e; rw [dZ] at d; cases d).trans e
  refine pass_on ex2 fun h3 v' sb3 ex3 => ?_
  have nT1 : ∀ b o, s.heap.get? b = some o → b ≠ T1 := fun b o e => Nat.ne_of_lt (Nat.lt_of_lt_of_le (Heap.lt_size e) n1)
  have fr3 : h3.FunFrames base (envOfC qual scope s₀.heap.objs.size f cd :: outer) := ff_on I.stack fun b hb o e => by
    obtain ⟨sl, q⟩ := l1 b o e hb
    exact ⟨_, (sb3.2 b (nT1 b o e)).trans ((sb2.2 b fun z => nZs (z ▸ hb)).trans q), rfl⟩
  refine leave_any (L := s₀.heap.objs.size) (base := base) I.ok.frames rfl fr3 ex3 fun h4 T4 k4 l4 ex4 n4 => ?_
  have keep : ∀ b o, s.heap.get? b = some o → b ∉ frs (envOfC qual scope s₀.heap.objs.size f cd :: outer) → b ≠ a → b ≠ T → b ≠ Z → h4.get? b = some o := fun b o e n ya yT yZ =>
    k4 b o ((sb3.2 b (nT1 b o e)).trans ((sb2.2 b yZ).trans (k1 b o e n ya yT))) n ya (nT1 b o e)
  have slot : ∀ b o, s.heap.get? b = some o → b ∈ frs (envOfC qual scope s₀.heap.objs.size f cd :: outer) → ∃ sl, h4.get? b = some { o with slots := sl } := fun b o e hb => by
    obtain ⟨sl, q⟩ := l1 b o e hb
    obtain ⟨sl', q'⟩ := l4 b _ ((sb3.2 b (nT1 b o e)).trans ((sb2.2 b fun z => nZs (z ▸ hb)).trans q)) hb
    exact ⟨sl', q'⟩
  obtain ⟨u, ok⟩ := step_leftC I ⟨ha, na⟩ ⟨hT, nT⟩ ⟨z0, nZ0⟩ keep slot
  -- where the last entry lies
  have le : s.heap.objs.size ≤ T4 := by
    rcases n4 with z | z
    · rw [z]; exact n1
    · have y3 : h3.objs.size = h2.objs.size := sb3.1
      have y2 : h2.objs.size = h1.objs.size := sb2.1
      have z : h3.objs.size ≤ T4 := z
      have g1 : s.heap.objs.size ≤ h1.objs.size := g1
      exact Nat.le_trans g1 (by rw [← y2, ← y3]; exact z)
  have fresh : s.heap.get? T4 = none := by
    cases q : s.heap.get? T4 with
    | none => rfl
    | some o => exact absurd (Heap.lt_size q) (Nat.not_lt.mpr le)
  exact ⟨a, T4, Cc, H, rfl, I.os, I.bare, u, ok, ex4, na, old_none I fresh, ha, none_of_heap I.hok fresh, hE⟩
/-- [elt for tg in iter], elt may raise -/
theorem pe_lcX {sc : Scope} {tg elt iter : Expr} {ifs : List Expr} {pos : Pos} {Ls Fs : List Str} {fi : List Nat} {g : TG} {tc : TT} {te : TE} {wi : TI}
    (S : LcScope N scope sc Ls Fs fi) (hi : PI (cxOf (CX1 P w) P w K mg base N qual scope f cd A outer s₀ H₀ E) tg iter wi)
    (hb : ∀ cl C s3 H3 ex, Olds (cxOf (CX1 P w) P w K mg base N qual scope f cd A outer s₀ H₀ E) s3 ex → PG (blk (cxOf (CX1 P w) P w K mg base N qual scope f cd A outer s₀ H₀ E) sc (Ls ++ Fs) cl C s3 H3 ex) tg g ∧ PTs (blk (cxOf (CX1 P w) P w K mg base N qual scope f cd A outer s₀ H₀ E) sc (Ls ++ Fs) cl C s3 H3 ex) ifs tc ∧
      PE ((blk (cxOf (CX1 P w) P w K mg base N qual scope f cd A outer s₀ H₀ E) sc (Ls ++ Fs) cl C s3 H3 ex).wish (xeB (cxOf (CX1 P w) P w K mg base N qual scope f cd A outer s₀ H₀ E) (blk (cxOf (CX1 P w) P w K mg base N qual scope f cd A outer s₀ H₀ E) sc (Ls ++ Fs) cl C s3 H3 ex) (RX E))) elt te)
    (hs : ∀ x, foldedSetIterable iter (cxOf (CX1 P w) P w K mg base N qual scope f cd A outer s₀ H₀ E).env x = pure x := by intro _; rfl) : PE (cxOf (CX1 P w) P w K mg base N qual scope f cd A outer s₀ H₀ E) (.ListComp elt [⟨tg, iter, ifs, 0⟩] sc pos) (tLc Ls.length fi wi g tc te) := by
  intro pins s σ H Q I h
  rw [eval_ListComp]
  obtain ⟨cl, hcl, hcl1, hcl2⟩ := clos_ok (scope := sc) (env := (cxOf (CX1 P w) P w K mg base N qual scope f cd A outer s₀ H₀ E).env) fun y hy hf => I.ok.has y.1 (S.all y hy hf)
  refine wpAny_comprehension_free (use := none) rfl hs hcl S.kind S.names (wpAny_mono (hi pins s σ H _ I h) (fun v s1 h1 => wpAny_mono h1 (fun itv s2 h2 => ?_) fun _ _ e => e) fun _ _ e => e)
  obtain ⟨it, fp, tn, J, H2, e, I2, T, st2, f2, hW⟩ := h2
  subst e
  refine lc_blockX (X := cxOf (CX1 P w) P w K mg base N qual scope f cd A outer s₀ H₀ E) (R := RX E) (RR := fun acc C => compPost (model P w) (A.deeper (envOfC qual scope s₀.heap.objs.size f cd)) (cxOf (CX1 P w) P w K mg base N qual scope f cd A outer s₀ H₀ E).xe none (EP (cxOf (CX1 P w) P w K mg base N qual scope f cd A outer s₀ H₀ E) pins σ Q) acc C) S rfl (hb cl) hcl1 hcl2 I2
    (fun C s3 H3 ex => Turn.at (X := blk (cxOf (CX1 P w) P w K mg base N qual scope f cd A outer s₀ H₀ E) sc (Ls ++ Fs) cl C s3 H3 ex) T rfl) st2 f2 hW (fun D C H' s' m I' q hn f => ?_) (fun D C H' s' m a T Cc I' hn fz ex na nT ha hT hR env' hf => err_out I' hn fz ex na nT ha hT hR hf)
  obtain ⟨f0, f1, f2, f3, f4, f5⟩ := f
  exact ⟨m, hn, fun h' hs' => ⟨.ref D, H', I'.turned (it := C) (t' := s'.toks) (fun b o hb e => (hs'.2 b hb).trans e) f0 f1 f3 f4 f5, rfl, q⟩⟩
end
end L2

/-! texts: slices, methods, int(text), a text walked, f"{a}{b}", a module's dict of texts -/
namespace L2
open PySem PySem.Spec PyProof.Rows PyProof.V
/-- a part of a list, by a slice's ends -/
def cutL {α : Type} (l : List α) (lo hi : Option Int) : List α := (l.drop (HT.sIx l.length 0 lo)).take (HT.sIx l.length l.length hi - HT.sIx l.length 0 lo)
/-- x[lo:hi] -/
def cutS (x : Str) (lo hi : Option Int) : Str := ⟨(cutL x.cps.toList lo hi).toArray⟩
theorem cutL_le {α : Type} (l : List α) (lo hi : Option Int) : (cutL l lo hi).length ≤ l.length := by
  unfold cutL; rw [List.length_take, List.length_drop]; omega
theorem indices_cut (lo hi : Option Int) (n : Nat) : Builtin.Str.strSliceIndices lo hi 1 n = (List.range (HT.sIx n n hi - HT.sIx n 0 lo)).map (HT.sIx n 0 lo + ·) := by
  obtain ⟨h1, h2, _⟩ := slice_bounds lo hi n
  have e : Builtin.Str.strSliceIndices lo hi 1 n = sliceRange (sliceBounds lo hi none n).1 (sliceBounds lo hi none n).2.1 1 := by
    unfold Builtin.Str.strSliceIndices sliceBounds
    cases lo <;> cases hi <;> simp
  rw [e, h1, h2]
  rw [sliceRange_one]
theorem str_ext {x y : Str} (h : x.cps.toList = y.cps.toList) : x = y := by
  obtain ⟨a⟩ := x; obtain ⟨b⟩ := y
  exact congrArg Str.mk (Array.toList_inj.mp h)
section
variable {X : Cx}
def rSlS : V → Option Int → Option Int → Hp → VK → Prop := fun x lo hi H Q => ∃ z, x = .str z ∧ z.length ≤ sizeLine ∧ Q (.str (cutS z lo hi)) H
theorem sl_str : SlR X rSlS := by
  intro pins s σ H x v vl vu lo hi sl Q I rx hs pl pu h
  obtain ⟨z, rfl, hz, q⟩ := h
  obtain ⟨t, rfl⟩ := rx
  refine ⟨"str", _, slot_str_getitem.lookup, typeIs_str s z t, ?_⟩
  obtain ⟨l, el, el2⟩ : ∃ l : Option (Int × Tok), vl = partValue l ∧ l.map (·.1) = lo := by
    cases pl with
    | none => exact ⟨none, rfl, rfl⟩
    | int i t => exact ⟨some (i, t), rfl, rfl⟩
  obtain ⟨u, eu, eu2⟩ : ∃ u : Option (Int × Tok), vu = partValue u ∧ u.map (·.1) = hi := by
    cases pu with
    | none => exact ⟨none, rfl, rfl⟩
    | int i t => exact ⟨some (i, t), rfl, rfl⟩
  subst el eu
  refine wpAny_getItem_str_slice (l := l) (u := u) (st := none) hs rfl ?_
  have ep : slicePicked z l u none = (List.range (HT.sIx z.length z.length hi - HT.sIx z.length 0 lo)).map (HT.sIx z.length 0 lo + ·) := by
    unfold slicePicked
    rw [el2, eu2]
    exact indices_cut lo hi z.length
  have hl : z.cps.toList.length = z.length := by simp [Str.length]
  have ec : ((slicePicked z l u none).filterMap (z.cps[·]?)) = cutL z.cps.toList lo hi := by
    rw [ep, pick_run]
    unfold cutL
    rw [hl]
  unfold sliceMade
  rw [ec]
  split
  · rename_i c
    have c2 : (slicePicked z l u none).length = z.length := by
      have := (Bool.and_eq_true_iff.mp c).2
      simpa using this
    have : cutS z lo hi = z := by
      refine str_ext ?_
      show cutL z.cps.toList lo hi = _
      rw [ep, List.length_map, List.length_range] at c2
      unfold cutL
      rw [hl]
      have a1 : HT.sIx z.length z.length hi ≤ z.length := by
        cases hi with
        | none => exact Nat.le_refl _
        | some i => simp only [HT.sIx]; split <;> omega
      have a2 : HT.sIx z.length 0 lo = 0 ∨ z.length = 0 := by omega
      rcases a2 with a2 | a2
      · rw [a2, List.drop_zero, List.take_of_length_le (by omega)]
      · have : z.cps.toList = [] := List.length_eq_zero_iff.mp (by omega)
        rw [this]; simp
    exact ⟨.str z, H, I, ⟨_, rfl⟩, this ▸ q⟩
  · exact ⟨Nat.le_trans (by have := cutL_le z.cps.toList lo hi; simp only [Str.length, List.size_toArray]; omega) hz, ⟨.str _, H, I.tok _, ⟨_, rfl⟩, q⟩⟩
theorem mt_isdigit : MtR X "str.isdigit" (fun x xs H Q => ∃ z, x = .str z ∧ xs = [] ∧ Q (.bl (Txt.isdigit z)) H) := by
  intro pins s σ H x xs v us Q I rx rs h
  obtain ⟨z, rfl, rfl, q⟩ := h
  obtain ⟨t, rfl⟩ := rx
  cases rs
  exact SC.isdigit ⟨.bl _, H, I, rfl, q⟩
theorem mt_isascii : MtR X "str.isascii" (fun x xs H Q => ∃ z, x = .str z ∧ xs = [] ∧ Q (.bl (Txt.isascii z)) H) := by
  intro pins s σ H x xs v us Q I rx rs h
  obtain ⟨z, rfl, rfl, q⟩ := h
  obtain ⟨t, rfl⟩ := rx
  cases rs
  exact SC.isascii ⟨.bl _, H, I, rfl, q⟩
theorem mt_startswith : MtR X "str.startswith" (fun x xs H Q => ∃ z y, x = .str z ∧ xs = [.str y] ∧ Q (.bl (Txt.startswith z y)) H) := by
  intro pins s σ H x xs v us Q I rx rs h
  obtain ⟨z, y, rfl, rfl, q⟩ := h
  obtain ⟨t, rfl⟩ := rx
  obtain ⟨u, rfl, t', rfl⟩ := rs.one
  exact SC.startswith ⟨.bl _, H, I, rfl, q⟩
/-- texts by their values -/
theorem strs_of_vals : ∀ {ts : List Str} {us : List Value}, Vals (ts.map V.str) us → ∃ l : List (Str × Tok), us = strValues l ∧ l.map (·.1) = ts
  | [], us, h => by cases h; exact ⟨[], rfl, rfl⟩
  | t :: ts, us, h => by
    cases h with
    | cons r hs =>
      obtain ⟨k, rfl⟩ := r
      obtain ⟨l, rfl, e⟩ := strs_of_vals hs
      exact ⟨(t, k) :: l, rfl, by rw [List.map_cons, e]⟩
theorem vals_of_strs : ∀ (l : List (Str × Tok)), Vals ((l.map (·.1)).map V.str) (strValues l)
  | [] => .nil
  | (t, k) :: l => .cons ⟨k, rfl⟩ (vals_of_strs l)
theorem mt_join : MtR X "str.join" (fun x xs H Q => ∃ z p ts, x = .str z ∧ xs = [.ref p] ∧ SqL X.K H p (ts.map V.str) ∧ JoinOk z ts = true ∧ Q (.str (Txt.join z ts)) H) := by
  intro pins s σ H x xs v us Q I rx rs h
  obtain ⟨z, p, ts, rfl, rfl, hq, ok, q⟩ := h
  obtain ⟨t, rfl⟩ := rx
  obtain ⟨u, rfl, ru⟩ := rs.one
  cases ru
  obtain ⟨its, rv, pl, hz⟩ := I.list hq
  obtain ⟨l, rfl, e⟩ := strs_of_vals rv
  exact SC.join pl.isList e ok fun t' k => ⟨.str _, H, I.tok _, ⟨_, rfl⟩, q⟩
/-- what comes of a split: a new list -/
theorem mt_split : MtR X "str.split" (fun x xs H Q => ∃ z y, x = .str z ∧ xs = [.str y] ∧ (y.length == 0) = false ∧ z.length ≤ sizeLine ∧ (Txt.split z y).length ≤ sizeLine ∧ ∀ p, H p = none → Q (.ref p) (upd H p (.lst ((Txt.split z y).map V.str)))) := by
  intro pins s σ H x xs v us Q I rx rs h
  obtain ⟨z, y, rfl, rfl, hy, hz, hn, q⟩ := h
  obtain ⟨t, rfl⟩ := rx
  obtain ⟨u, rfl, t', rfl⟩ := rs.one
  have fin : ∀ (l : List (Str × Tok)) (tk : Nat), l.map (·.1) = Txt.split z y → EP X pins σ Q (.ref s.heap.objs.size) { s with heap := s.heap.push { cls := .type "list", data := .seq (strValues l).toArray }, toks := tk } := fun l tk e => by
    refine ⟨.ref s.heap.objs.size, _, I.laid (t' := tk) (o := .lst ((Txt.split z y).map V.str)) (fun b ob q => Heap.get?_push_of_some _ q) (Nat.le_refl _) ?_, rfl, q _ (I.hok.fresh (Nat.le_refl _))⟩
    exact ⟨by rw [List.length_map]; exact hn, strValues l, 0, e ▸ vals_of_strs l, Heap.get?_push_size _ rfl⟩
  have slot := F.slot_str_split
  by_cases h1 : (decide (z.length < y.length) || decide (Builtin.Str.strKind z < Builtin.Str.strKind y)) = true
  · exact call_meets slot (typeIs_str _ _ _) F.entry_str_split (F.args_str_split_2 _ _) (meets_str_split_cannot_occur z y t t' h1) (fin [(z, t)] _ (by unfold Txt.split; rw [if_pos h1]; rfl))
  · have h1' := Bool.eq_false_iff.mpr h1
    by_cases hf : (Builtin.Str.occurrences z y 0 z.length (z.length + 1)).isEmpty = true
    · exact call_meets slot (typeIs_str _ _ _) F.entry_str_split (F.args_str_split_2 _ _) (meets_str_split_not_found z y t t' h1' hy hf) (fin [(z, t)] _ (by unfold Txt.split; rw [if_neg h1, if_pos hf]; rfl))
    · have es : Txt.split z y = Builtin.Str.partsBetween z (Builtin.Str.occurrences z y 0 z.length (z.length + 1)) y.length := by unfold Txt.split; rw [if_neg h1, if_neg hf]
      refine call_meets slot (typeIs_str _ _ _) F.entry_str_split (F.args_str_split_2 _ _) (meets_str_split_sep z y t t' h1' hy (Bool.eq_false_iff.mpr hf) hz (es ▸ hn)) ?_
      have := fin (numbered s.toks (Txt.split z y)) (s.toks + (Builtin.Str.partsBetween z (Builtin.Str.occurrences z y 0 z.length (z.length + 1)) y.length).length) (numbered_texts _ _)
      rw [← strsFrom_eq, es] at this
      exact this
/-- int(text) -/
theorem call_intS : CallR X (.type "int") (fun xs H Q => ∃ z n, xs = [.str z] ∧ PySem.intText? z = some n ∧ z.length ≤ 640 ∧ Q (.int n) H) := by
  intro pins s σ H xs us Q I r h
  obtain ⟨z, n, rfl, hn, hl, q⟩ := h
  obtain ⟨u, rfl, t, rfl⟩ := vals1 r
  exact W.KIN.call_text hn hl ⟨.int n, H, I.tok _, ⟨_, rfl⟩, q⟩
/-- text * 0, text * 1 -/
theorem op_mulS : OpR X (binaryOp .Mult) (fun x y H Q => ∃ z n, x = .str z ∧ y = .int n ∧ (n = 0 ∨ n = 1) ∧ Q (.str (if n = 0 then Str.empty else z)) H) := by
  intro pins s σ H x y v u Q I rx ry h
  obtain ⟨z, n, rfl, rfl, hn, q⟩ := h
  obtain ⟨t, rfl⟩ := rx
  obtain ⟨t', rfl⟩ := ry
  rcases hn with rfl | rfl
  · exact P.mul_str_none (by decide) (by decide) ⟨.str _, H, I.tok _, ⟨_, rfl⟩, q⟩
  · exact P.mul_str (by decide) (fun _ h => by simp at h) (fun _ h => by simp at h) ⟨.str z, H, I, ⟨_, rfl⟩, q⟩
theorem mt_joinK {K : PySem.W.Frag} (h : X.K = K) : MtR X "str.join" (fun x xs H Q => ∃ z p ts, x = .str z ∧ xs = [.ref p] ∧ SqL K H p (ts.map V.str) ∧ JoinOk z ts = true ∧ Q (.str (Txt.join z ts)) H) := h ▸ mt_join
/-- a text walked: its signs -/
def Its (z : Str) : It := ⟨fun i _ => i < z.length, fun i H x H' => H' = H ∧ ∃ c, z.cps.toList[i]? = some c ∧ x = .str ⟨#[c]⟩, fun i _ => i = z.length⟩
def iStr (tl : TE) : TI := fun σ H R => tl σ H fun x H1 => ∃ z, x = .str z ∧ R (Its z) H1
theorem turn_str {P : Program} {w : World} {K : PySem.W.Frag} {tg : Expr} {z : Str} {t : Tok} {it : Addr} {T : String} (hT : ["enumerate", "zip", "dict_itemiterator", "dict_reverseitemiterator", "odict_iterator", "itertools.zip_longest", "itertools.pairwise"].contains T = false)
    (W : ∀ A : Around, A.handled = none → Walks P w A it [it] [it] z.cps.size (SignAt z) (fun i h => h.IsStrIter it T z t i))
    (sf : ∀ (A : Around) (i : Nat) (s : Shared) (Q : Value → Shared → Prop) (E : Value → Shared → Prop), s.heap.IsStrIter it T z t i → Q (.ref it) s → wpAny (model P w) A (pyIter (.ref it)) Q E s) : Turn P w K tg (Its z) [it] it (fun i h => h.IsStrIter it T z t i) where
  mem := by simp
  obj := fun i h st b hb => by
    have e : b = it := by simpa using hb
    subst e
    obtain ⟨o, e, c, d⟩ := st
    exact ⟨o, e, fun v q => by rw [d] at q; cases q⟩
  keep := fun i h h' st k => let ⟨o, ho, r⟩ := st; ⟨o, k it (by simp) o ho, r⟩
  item := by
    intro X hP hw hK hc i pins s σ H E I hf st hg
    subst hP hw hK
    obtain ⟨f0, f1, f2, f3, f4, f5⟩ := hf it (by simp)
    refine (W X.A (I.ok.hd hc)).item i s _ _ hg st fun v h' tk hv st' kp => ?_
    obtain ⟨c, u, ec, rfl⟩ := hv
    have I1 : Inv X pins σ H { s with heap := h', toks := tk } := I.turned (t' := tk) (fun b o hb e => kp b o (by simpa using hb) e) f0 f1 f3 f4 f5
    obtain ⟨o, e, c', d⟩ := id st'
    exact ⟨_, rfl, go_of (s := { s with heap := h', toks := tk }) e c' d hT ⟨.str ⟨#[c]⟩, H, I1, ⟨_, rfl⟩, ⟨rfl, c, by rw [Array.getElem?_toList]; exact ec, rfl⟩, st', fun b hb => (hf b hb).1⟩⟩
  done := by
    intro X hP hw hK hc i pins s σ H E I hf st hg
    subst hP hw hK
    obtain ⟨f0, f1, f2, f3, f4, f5⟩ := hf it (by simp)
    have e : i = z.cps.size := hg
    subst e
    exact (W X.A (I.ok.hd hc)).done s _ _ st fun h' tk kp => ⟨rfl, I.turned (t' := tk) (fun b o hb e => kp b o (by simpa using hb) e) f0 f1 f3 f4 f5⟩
  self := sf
theorem pi_str {l tg : Expr} {tl : TE} (hl : PE X l tl) : PI X tg l (iStr tl) := by
  intro pins s σ H R I h
  refine thn (hl pins s σ H _ I h) fun v s1 ⟨x, H1, I1, r1, q1⟩ => ?_
  obtain ⟨z, e, q⟩ := q1
  subst e
  obtain ⟨t, rfl⟩ := r1
  have fp : ∀ b ∈ [s1.heap.objs.size], FpOk X pins H1 b := fun b hb => by
    have e : b = s1.heap.objs.size := by simpa using hb
    subst e
    exact I1.fpOk (Nat.le_refl _) (I1.hok.fresh (Nat.le_refl _))
  by_cases ha : z.cps.all (· < 128) = true
  · exact wpAny_pyIter_ascii ha ⟨_, _, _, _, H1, rfl, I1.kept (t' := s1.toks) fun b o e => Heap.get?_push_of_some _ e, turn_str (T := "str_ascii_iterator") (by decide) (fun A hA => Walks.strAscii hA _ z t) (fun A i s Q E st h => wpAny_pyIter_striter_ascii st h), ⟨_, Heap.get?_push_size _ rfl, rfl, rfl⟩, fp, q⟩
  · exact wpAny_pyIter_wide (Bool.eq_false_iff.mpr ha) ⟨_, _, _, _, H1, rfl, I1.kept (t' := s1.toks) fun b o e => Heap.get?_push_of_some _ e, turn_str (T := "str_iterator") (by decide) (fun A hA => Walks.strWide hA _ z t) (fun A i s Q E st h => wpAny_pyIter_striter_wide st h), ⟨_, Heap.get?_push_size _ rfl, rfl, rfl⟩, fp, q⟩
theorem lc_str {z : Str} {σ : St} {g : TG} {tc : TT} {te : TE} {H : Hp} {Q : VK} (hn : z.length ≤ sizeLine) (Pv : Nat → List V → Hp → Prop) (h0 : Pv 0 [] H) (hlen : ∀ i ys H, Pv i ys H → ys.length ≤ i)
    (hs : ∀ i c ys H, z.cps.toList[i]? = some c → Pv i ys H → g (.str ⟨#[c]⟩) σ H fun σ2 H2 => tc σ2 H2 fun b H3 => if b = true then te σ2 H3 fun y H4 => Pv (i + 1) (ys ++ [y]) H4 else Pv (i + 1) ys H3)
    (hd : ∀ ys H, Pv z.length ys H → ∀ D, H D = none → Q (.ref D) (upd H D (.lst ys))) : LcW (Its z) σ g tc te H Q :=
  lc_gen hn Pv h0 hlen (fun i ys H hi p => hi) (fun ys H p => rfl) (fun i ys H hi p x H' y => by
    obtain ⟨e, c, ec, ex⟩ := y
    subst e ex
    exact hs i c ys _ ec p) hd
end
end L2

/-! max(l, default=d), l a list of ints; f"x{n}". -/
namespace PySem
theorem args_maxD (a d : Value) : argsOk "max" ⟨[a], [("default", d)]⟩ := by unfold argsOk; kernel_rfl
section
variable {prog : Program} {w : World} {A : Around} {R : Result → Shared → Prop} {I : Addr} {fp wr : List Addr} {n : Nat} {P : Nat → Value → Prop} {St : Nat → Heap → Prop}
/-- what the loop carries: nothing before the first item, the best one twice behind it -/
def BestAt (P : Nat → Value → Prop) (bt : Nat → Nat → Bool) (i : Nat) (B : Array Value) : Prop := (i = 0 ∧ B = #[]) ∨ ∃ j vb, i = j + 1 ∧ P (argBest bt j) vb ∧ B = #[vb, vb]
theorem maxD_loop (W : Walks prog w A.in1 I fp wr n P St) (bt : Nat → Nat → Bool) (hcmp : CmpOf prog w A.in1 .Gt P bt) (S : Addr) (hSf : S ∉ fp) (d : Value) :
    ∀ (k i : Nat) (s : Shared) (B : Array Value) (c : Nat), n - i = k → i ≤ n → St i s.heap → BestAt P bt i B →
    s.heap.get? S = some { cls := .type "list", dict := none, data := .seq B c, slots := #[] } →
    (∀ v h' tk, (n = 0 ∧ v = d ∨ 0 < n ∧ P (argBest bt (n - 1)) v) → (∀ b o, b ∉ wr → b ≠ S → s.heap.get? b = some o → h'.get? b = some o) → R (.ok (.ret v)) { s with heap := h', toks := tk }) →
    codeAny (model prog w) A (.builtin "max.loop" ⟨[.ref I, .none, .ref S], [("default", d)]⟩) R s := by
  have hSw : S ∉ wr := fun h => hSf (W.sub _ h)
  have other : ∀ {h : Heap} {o : Obj} {b : Addr} {o' : Obj}, b ≠ S → h.get? b = some o' → (h.update S fun _ => o).get? b = some o' := fun hb e => (Heap.get?_update_other _ _ (Ne.symm hb)).trans e
  have hname : (toString "max" ++ toString ".loop" : String) = "max.loop" := by decide
  intro k
  induction k with
  | zero =>
    intro i s B c hk hi hst hB hS hR
    have hin : i = n := by omega
    subst hin
    refine codeAny_builtin F.entry_max_loop ?_
    rw [Around.under_plainId F.plain_max_loop _]
    show wpAny _ A.in1 (seqItems? (.ref S) >>= _) _ _ s
    refine wpAny_bind (wpAny_seqItems hS rfl ?_)
    show wpAny _ A.in1 (tryCatch (pyNext (.ref I)) _ >>= _) _ _ s
    refine wpAny_bind (wpAny_tryCatch (W.done s _ _ hst fun h' tk hk' => ?_))
    rcases hB with ⟨h0, rfl⟩ | ⟨j, vb, hj, hP, rfl⟩
    · refine wpAny_bind (wpAny_rule (wpAny_pure ?_))
      exact hR d h' tk (.inl ⟨h0, rfl⟩) fun b o hbw _ e => hk' b o hbw e
    · have hS' := hk' S _ hSw hS
      show wpAny _ A.in1 (updateSeq S (fun _ => #[]) >>= _) _ _ _
      refine wpAny_bind ?_
      refine wpAny_updateSeq hS' rfl (wpAny_bind (wpAny_letGo (wpAny_pure ?_)))
      refine hR vb _ tk (.inr ⟨by omega, by rw [hj]; exact hP⟩) fun b o hbw hbS e => (Heap.get?_update_other _ _ (Ne.symm hbS)).trans (hk' b o hbw e)
  | succ k ih =>
    intro i s B c hk hi hst hB hS hR
    have hlt : i < n := by omega
    refine codeAny_builtin F.entry_max_loop ?_
    rw [Around.under_plainId F.plain_max_loop _]
    show wpAny _ A.in1 (seqItems? (.ref S) >>= _) _ _ s
    refine wpAny_bind (wpAny_seqItems hS rfl ?_)
    show wpAny _ A.in1 (tryCatch (pyNext (.ref I)) _ >>= _) _ _ s
    refine wpAny_bind (wpAny_tryCatch (W.item i s _ _ hlt hst fun v h' tk hP hst' hk' => ?_))
    have hS' := hk' S _ hSw hS
    rcases hB with ⟨h0, rfl⟩ | ⟨j, vb, hj, hPb, rfl⟩
    · subst h0
      show wpAny _ A.in1 (updateSeq S (fun _ => #[v, v]) >>= _) _ _ _
      refine wpAny_bind ?_
      refine wpAny_updateSeq hS' rfl ?_
      rw [hname]
      refine wpAny_pure ⟨plainId_quiet F.plain_max_loop _, ih 1 _ #[v, v] _ (by omega) hlt (W.frame _ _ _ hst' fun b hbf o e => ?_) (.inr ⟨0, v, rfl, hP, rfl⟩) (Heap.get?_update_self _ hS' rfl) fun v' h'' tk'' hP' hk'' => ?_⟩
      · exact (Heap.get?_update_other _ _ (fun h : S = b => hSf (by rw [h]; exact hbf))).trans e
      · exact hR v' h'' tk'' hP' fun b o hbw hbS e => hk'' b o hbw hbS ((Heap.get?_update_other _ _ (Ne.symm hbS)).trans (hk' b o hbw e))
    · subst hj
      show wpAny _ A.in1 (tryCatch (holding [v, v] (richCompare .Gt v vb >>= _)) _ >>= _) _ _ _
      refine wpAny_bind (wpAny_tryCatch (wpAny_holding (wpAny_bind (hcmp (j + 1) (argBest bt j) v vb _ _ _ hP hPb ?_))))
      refine wpAny_bind (wpAny_holding (wpAny_truthy_bool ?_))
      refine wpAny_bind (wpAny_letGo (wpAny_pure ?_))
      cases hb : bt (j + 1) (argBest bt j) with
      | true =>
        simp only [if_true]
        refine wpAny_bind ?_
        refine wpAny_updateSeq hS' rfl (wpAny_bind (wpAny_letGo ?_))
        rw [hname]
        refine wpAny_pure ⟨plainId_quiet F.plain_max_loop _, ih (j + 1 + 1) _ #[v, v] _ (by omega) hlt (W.frame _ _ _ hst' fun b hbf o e => ?_) (.inr ⟨j + 1, v, rfl, by simp only [argBest, hb, if_true]; exact hP, rfl⟩) (Heap.get?_update_self _ hS' rfl) fun v' h'' tk'' hP' hk'' => ?_⟩
        · exact (Heap.get?_update_other _ _ (fun h : S = b => hSf (by rw [h]; exact hbf))).trans e
        · exact hR v' h'' tk'' hP' fun b o hbw hbS e => hk'' b o hbw hbS ((Heap.get?_update_other _ _ (Ne.symm hbS)).trans (hk' b o hbw e))
      | false =>
        simp only [Bool.false_eq_true, if_false]
        refine wpAny_bind (wpAny_letGo ?_)
        rw [hname]
        refine wpAny_pure ⟨plainId_quiet F.plain_max_loop _, ih (j + 1 + 1) _ #[vb, vb] c (by omega) hlt hst' (.inr ⟨j + 1, vb, rfl, by simp only [argBest, hb, Bool.false_eq_true, if_false]; exact hPb, rfl⟩) hS' fun v' h'' tk'' hP' hk'' => ?_⟩
        exact hR v' h'' tk'' hP' fun b o hbw hbS e => hk'' b o hbw hbS (hk' b o hbw e)
end
section
variable {prog : Program} {w : World} {A : Around} {E : Value → Shared → Prop} {s : Shared}
theorem call_agains {id : String} {b : Builtin} {args : List Value} {kw : List (Str × Value)} {Q : Value → Shared → Prop} (hk : builtinKind id = none) (hp : plainId id = true) (hb : entryFor table id = some b) (ha : argsOk id ⟨args, kw⟩)
    (hc : wpAny (model prog w) A.in1 (b ⟨args, kw⟩) (fun fin s' => match fin with
      | .done f => (match (Except.ok f : Result) with | .ok (.ret v) => Q v s' | .ok _ => False | .error e => E e s')
      | .again c' => c'.quiet = true ∧ codeAny (model prog w) A c' (fun r s' => match r with | .ok (.ret v) => Q v s' | .ok _ => False | .error e => E e s') s') E s) :
    wpAny (model prog w) A (call (.builtin id) args kw) Q E s := by
  refine wpAny_call (codeAny_call_builtin hp hb ?_)
  simp only [checkBuiltinCall, hk]
  cases hsig : Manifest.signature? id with
  | none => exact wpAny_pure hc
  | some sig =>
    have ha' : Bind.checkArgs id sig ⟨args, kw⟩ = pure () := by simpa only [argsOk, hsig] using ha
    simp only [ha']
    exact wpAny_pure hc
theorem maxD_ints {l : Addr} {d : Value} {xs : Array (Int × Tok)} {Q : Value → Shared → Prop} (hh : A.handled = none) (hl : s.heap.IsList l (intItems xs))
    (h : ∀ v h' tk, (xs.size = 0 ∧ v = d ∨ 0 < xs.size ∧ (intItems xs)[argBest (fun i j => decide (numAt xs i > numAt xs j)) (xs.size - 1)]? = some v) → (∀ b o, s.heap.get? b = some o → h'.get? b = some o) → Q v { s with heap := h', toks := tk }) :
    wpAny (model prog w) A (call (.builtin "max") [.ref l] [("default", d)]) Q E s := by
  have hname : (toString "max" ++ toString ".loop" : String) = "max.loop" := by decide
  have hsz : (intItems xs).size = xs.size := by simp [intItems]
  refine call_agains F.kind_max F.plain_max F.entry_max (args_maxD _ _) ?_
  show wpAny _ A.in1 (Builtin.Builtins.bindParams "max" ["key", "default"] 0 ⟨[], [("default", d)]⟩ >>= _) _ _ s
  refine wpAny_bind (wpAny_of_eq (show Builtin.Builtins.bindParams "max" ["key", "default"] 0 ⟨[], [("default", d)]⟩ = pure [none, some d] from rfl) ?_)
  refine wpAny_bind (wpAny_pure ?_)
  refine wpAny_bind (iter_intList hl fun s₂ e st hfp hlI => ?_)
  subst e
  have W := Walks.list (prog := prog) (w := w) (A := A.in1) hh s.heap.objs.size l hlI (intItems xs)
  refine wpAny_bind (wpAny_newObj_type ?_)
  have hSf : (s.heap.push { cls := .type "list_iterator", data := .fields #[.ref l, .int 0 0] }).objs.size ∉ [s.heap.objs.size, l] := fun hm => Nat.lt_irrefl _ (hfp _ hm)
  rw [hname]
  refine wpAny_pure ⟨plainId_quiet F.plain_max_loop _, maxD_loop W _ (CmpOf.ints_gt (numAt xs) (fun _ _ => intItems_at)) _ hSf d _ 0 _ #[] _ rfl (Nat.zero_le _) (W.frame _ _ _ st fun b _ o e => Heap.get?_push_of_some _ e) (.inl ⟨rfl, rfl⟩) (Heap.get?_push_size _ rfl) fun v h' tk hP hk => ?_⟩
  refine h v h' tk (by rw [hsz] at hP; exact hP) (old_kept fun b o hbw e => hk b o hbw (Nat.ne_of_lt (Heap.lt_size e)) (Heap.get?_push_of_some _ e))
end
end PySem
namespace L2
open PySem PySem.Spec PyProof.Rows PyProof.V
section
variable {X : Cx}
def tMaxD (K : PySem.W.Frag) (ta : TE) : TE := tCB (fun xs H Q => ∃ (p : Addr) (ns : List Int), xs = [.ref p] ∧ SqL K H p (ns.map V.int) ∧ ∀ M : Int, (ns = [] → M = 0) → (ns ≠ [] → M ∈ ns) → (∀ a ∈ ns, a ≤ M) → Q (.int M) H) (tCons ta tNil)
/-- max(e, default=0) -/
theorem pe_maxD {K : PySem.W.Frag} {a : Expr} {ta : TE} {p pos kp cp : Pos} {j : Nat} (hK : X.K = K) (hc : X.calm = true) (hg : Gl X "max") (hm : X.mg "max" = none) (ha : PE X a ta) (hs : starEach [a] X.env = [(false, eval a X.env)] := by rfl) :
    PE X (.Call (.Name "max" p) [a] [⟨some "default", .Constant (.int 0) j cp, kp⟩] pos) (tMaxD K ta) := by
  subst hK
  intro pins s σ H Q I h
  unfold tMaxD tCB at h
  refine wpAny_Call_Name_kw (ld_blt I hg hm boot_max ?_ (by decide) (by decide))
  refine PyProof.Rows.callWith_kw (e := a) (rest := []) ?_ (by rw [hs]; rfl) (by rw [hs]; rfl) (by rfl) (by rfl)
  refine thn ((pa_cons ha pa_nil hs) pos pins s σ H _ I h) fun us s1 ⟨vs, H1, I1, r1, q, ns, ev, hq, hQ⟩ => ?_
  subst ev
  obtain ⟨u, rfl, ru⟩ := r1.one
  cases ru
  refine PyProof.Rows.kws_cons (wpAny_Constant_int (PyProof.Rows.kws_nil ?_))
  have I2 := I1.tok (s1.toks + 1)
  obtain ⟨its, rv, pl, hz⟩ := I2.list hq
  obtain ⟨m, fr⟩ := I2.fr
  have hi := ints_of_vals rv
  obtain ⟨xs, e⟩ := hi.allInts.items
  have hns : ns = xs.toList.map (·.1) := by
    rw [← hi.numsOf, ← nums_intItems, ← e]
  have hsz : ns.length = xs.size := by rw [hns, List.length_map, Array.length_toList]
  have pl' := pl.isList
  rw [e] at pl'
  refine maxD_ints (I2.ok.hd hc) pl' fun v h' tk hv hk => ?_
  rcases hv with ⟨h0, rfl⟩ | ⟨hp, hv⟩
  · refine ⟨.int 0, H1, I2.keptN fr (fr.grownK hk) (News.grown (news := allNews X.base s1.heap X.env.locals) news_all hk), ⟨_, rfl⟩, ?_⟩
    have : ns = [] := List.length_eq_zero_iff.mp (by omega)
    subst this
    exact hQ 0 (fun _ => rfl) (fun z => absurd rfl z) (fun a ha => by cases ha)
  · obtain ⟨t, rfl⟩ := intItems_at hv
    obtain ⟨h1, h2⟩ := argBest_gt (numAt xs) (xs.size - 1)
    refine ⟨.int _, H1, I2.keptN fr (fr.grownK hk) (News.grown (news := allNews X.base s1.heap X.env.locals) news_all hk), ⟨t, rfl⟩, hQ _ (fun z => by rw [z] at hsz; simp at hsz; omega) (fun _ => ?_) fun a ha => ?_⟩
    · rw [hns, numAt_eq]; exact getD_mem (by rw [List.length_map, Array.length_toList]; omega)
    · rw [hns] at ha
      obtain ⟨j, hj, rfl⟩ := mem_getD ha
      rw [List.length_map, Array.length_toList] at hj
      rw [← numAt_eq]; exact h2 j (by omega)
/-- f"x{n}" -/
def tFs3 (a : Str) (tv : TE) : TE := fun σ H Q => tv σ H fun v H1 => ∃ i : Int, v = .int i ∧ i.natAbs < 10 ^ 12 ∧ Q (.str (a ++ Str.ofString (toString i))) H1
theorem pe_fs3 {a : Str} {v : Expr} {tv : TE} {j1 : Nat} {p1 p2 pos : Pos} (hv : PE X v tv) (ha : a.length ≤ 1000) : PE X (.JoinedStr [.Constant (.str a) j1 p1, .FormattedValue v (-1) none p2] pos) (tFs3 a tv) := by
  intro pins s σ H Q I h
  refine wpAny_JoinedStr ?_
  have z1 : (Str.empty ++ a).length ≤ sizeLine := by rw [strLen_append, sizeLine_eq]; show 0 + _ ≤ _; omega
  refine Calls.Constant_str ⟨a, _, rfl, z1, ?_⟩
  refine wpAny_FormattedValue_plain (thn (hv pins _ σ H _ (I.tok _) h) fun u s1 ⟨x, H1, I1, rx, i, e, hi, q⟩ => ?_)
  subst e
  obtain ⟨t, rfl⟩ := rx
  have li := int_text_length_le10 (k := 12) (by decide) hi
  have lg : i.natAbs.log2 < 1920 := by
    by_cases h0 : i.natAbs = 0
    · rw [h0]; decide
    · exact Nat.lt_of_lt_of_le ((Nat.log2_lt (k := 40) h0).mpr (Nat.lt_of_lt_of_le hi (by decide))) (by decide)
  have z2 : (Str.empty ++ a ++ Str.ofString (toString i)).length ≤ sizeLine := by rw [strLen_append, strLen_append, PySem.ofString_length, sizeLine_eq]; show 0 + _ + _ ≤ _; omega
  have ee : Str.empty ++ a ++ Str.ofString (toString i) = a ++ Str.ofString (toString i) := by rw [Str.append_left_empty (x := Str.empty) (by rfl)]
  exact wpAny_formatField_int lg ⟨_, _, rfl, z2, z2, ⟨.str _, H1, (I1.tok _).tok _, ⟨_, rfl⟩, ee ▸ q⟩⟩
end
end L2

namespace L2
open PySem PySem.Spec PyProof.Rows PyProof.V
section
variable {X : Cx}
/-- // by a positive divisor of at most 2000 binary figures -/
def CDivL (_ j : Int) : Prop := 0 < j ∧ j < 2 ^ 2000
theorem op_fdivL : OpR X (binaryOp .FloorDiv) (rI CDivL fun i j => .int (i / j)) := opI fun i j _ _ _ _ _ hc q => by
  have h1 : (0 : Int) < j := hc.1
  have h2 : j < 2 ^ 2000 := hc.2
  have h3 : j.natAbs < 2 ^ 2000 := by
    have : ((2 ^ 2000 : Nat) : Int) = (2 : Int) ^ 2000 := by rw [Int.natCast_pow]; rfl
    rw [← this] at h2
    generalize 2 ^ 2000 = z at *
    omega
  refine floordiv_int (by omega) (by rw [Int.fdiv_eq_ediv_of_nonneg i (by omega)]; exact q) (.inl (PyProof.noPylong_of_log2 ?_))
  exact Nat.lt_of_lt_of_le ((Nat.log2_lt (by omega)).mpr h3) (by decide)
/-- a word that is not in a list of words -/
def rNotInW : R2 := fun x y H Q => ∃ (p : Addr) (xs : List V) (w : List Int) (L : List (List Int)), y = .ref p ∧ H p = some (.lst xs) ∧ Words H xs L ∧ Word H x w ∧ Q (.bl (!decide (w ∈ L))) H
noncomputable def isWd (H : Hp) (w : List Int) (u : Value) : Bool := match u with
  | .ref t => @decide (H t = some (.tup (w.map V.int))) (Classical.propDecidable _)
  | _ => false
theorem wd_inj {a b : List Int} (h : a.map V.int = b.map V.int) : a = b := (List.map_inj_right (fun _ _ z => V.int.inj z)).mp h
theorem isWd_eq {H : Hp} {w a : List Int} {x : V} {u : Value} (h : Word H x a) (r : RelV x u) : isWd H w u = decide (a = w) := by
  obtain ⟨t, rfl, e⟩ := h
  cases r
  refine (@decide_eq_decide _ _ (Classical.propDecidable _) _).mpr ?_
  rw [e]
  constructor
  · intro z
    have h1 := Option.some.inj z
    have h2 : a.map V.int = w.map V.int := by injection h1
    exact wd_inj h2
  · intro z; rw [z]
theorem any_wd {H : Hp} {w : List Int} : ∀ {xs : List V} {us : List Value} {L : List (List Int)}, Vals xs us → Words H xs L → us.any (isWd H w) = decide (w ∈ L)
  | [], _, _, .nil, .nil => by simp
  | x :: xs, u :: us, a :: L, .cons r t, .cons e f => by
    rw [List.any_cons, isWd_eq e r, any_wd t f, Bool.eq_iff_iff, Bool.or_eq_true, decide_eq_true_iff, decide_eq_true_iff, decide_eq_true_iff, List.mem_cons]
    exact or_congr ⟨Eq.symm, Eq.symm⟩ Iff.rfl
theorem mem_wd {H : Hp} {pins : List (Addr × Obj)} {σ : St} {s : Shared} {A : Around} (I : Inv X pins σ H s) (hu : A.units + 4 < cLine) {w : List Int} {y : V} {v : Value} (hy : Word H y w) (rv : RelV y v) : ∀ {xs : List V} {us : List Value} {L : List (List Int)}, Vals xs us → Words H xs L → ∀ u ∈ us, SeqAt.EqAt A s u v (isWd H w u)
  | [], _, _, .nil, .nil => fun u h => by cases h
  | x :: xs, u :: us, a :: L, .cons r t, .cons e f => fun u' h => by
    rcases List.mem_cons.mp h with rfl | h
    · rw [isWd_eq e r]; exact word_eqAt I e hy r rv hu
    · exact mem_wd I hu hy rv t f u' h
theorem op_notInW (hu : X.A.units + 64 < cLine) : OpR X (compareOp .NotIn) rNotInW := by
  intro pins s σ H x y v u Q I rx ry h
  obtain ⟨p, xs, w, L, rfl, hp, hL, hx, q⟩ := h
  cases ry
  obtain ⟨its, r, pl, hz⟩ := I.list (SqL.of (K := X.K) hp)
  refine SeqAt.notIn_listAt (isWd H w) pl.isList (fun z hz => mem_wd I (by show X.A.units + 1 + 4 < _; omega) hx rx r hL z (by simpa using hz)) ⟨.bl _, H, I, rfl, ?_⟩
  rw [show its.toArray.any (isWd H w) = its.any (isWd H w) by simp, any_wd r hL]
  exact q
end
end L2

namespace Qk66
open PySem L2 PyProof.Rows
def top (i : Nat) : Stmt := PySem.Challenge.pw_bendfronts_k66_sums_written.main.body.getD i (.Pass ⟨0, 0, 0, 0⟩)
section
variable {P : Program} {w : World} {K : PySem.W.Frag} {mg : Str → Option Value} {base : Heap}
/-! ### bag and take -/
theorem dlt {i j : Int} (h : 0 < j) (h2 : j < 10 ^ 60) : CDivL i j := ⟨h, Int.lt_of_lt_of_le h2 (by decide +kernel)⟩
def spTake : Sp := fun vs H Q _ => ∃ (b : Addr) (m : Int), vs = [.ref b, .int m] ∧ Bag H b ∧ 1 ≤ m ∧ m < 10 ^ 60 ∧ ∀ (d : Int) (H' : Hp), 0 ≤ d → d < m → Bag H' b → Frm b H H' → Q (.int d) H'
abbrev s__law_take : Stmt := top 30
theorem sc__law_take : FnScope ["_law_bag_here", "_law_most", "_law_digit"] ["_law_bag_here", "_law_most"] (defScope s__law_take) := ⟨rfl, rfl, rfl, by decide +kernel, rfl, by decide +kernel, by decide +kernel⟩
theorem ok_take {f : Addr} {fd : FuncData} (F : Fun K "_law_take" "_law_take" s__law_take f fd) : FnOk P w K mg base CX0 1 f fd ["_law_bag_here", "_law_most"] spTake := by
  refine F.ok sc__law_take (fun vs H Q E h => ?_) (fun cdv A outer s H vs Q E hr h => ?_)
  · obtain ⟨b, m, rfl, _⟩ := h
    rfl
  · obtain ⟨b, m, rfl, ⟨g, r, hg, hb⟩, h1, h2, k⟩ := h
    refine ⟨_, (pss_cons (ps_if (pt_cmpR op_gt (pe_ix (ix_listK (K := K) rfl) (pv 0) pe_int (fun _ _ => rfl)) pe_int (nomark _)) (pss_cons (ps_set (i := 2) sc__law_take.nd rfl (Or.inl rfl) (pe_op op_mod (pe_ix (ix_listK (K := K) rfl) (pv 0) pe_int (fun _ _ => rfl)) (pv 1)))
      (pss_cons (ps_asg (pe_op op_fdivL (pe_ix (ix_listK (K := K) rfl) (pv 0) pe_int (fun _ _ => rfl)) (pv 1)) (pg_sub (pv 0) pe_int set_list))
      (pss_one (ps_ret (pv 2))))) pss_nil)
      (pss_cons (ps_asg (pe_op op_mod (pe_op op_add (pe_op op_mul (pe_ix (ix_listK (K := K) rfl) (pv 0) pe_int (fun _ _ => rfl)) pe_int) pe_int) pe_int) (pg_sub (pv 0) pe_int set_list))
      (pss_one (ps_ret (pe_op op_mod (pe_op op_mod (pe_op op_pow (pe_op op_fdivL (pe_ix (ix_listK (K := K) rfl) (pv 0) pe_int (fun _ _ => rfl)) pe_int) pe_int) pe_int) (pv 1)))))), ?_⟩
    refine ⟨_, rfl, b, _, _, _, rfl, rfl, SqL.of hb, atI_nat (j := 0) rfl, _, _, rfl, rfl, _, rfl, ?_⟩
    refine ite2 (fun hp => ?_) (fun hp => ?_)
    · have hp' : 0 < g := of_decide_eq_true hp
      refine ⟨_, rfl, b, _, _, _, rfl, rfl, SqL.of hb, atI_nat (j := 0) rfl, _, rfl, _, _, rfl, rfl, (by omega : 0 < m), ?_⟩
      refine ⟨_, rfl, b, _, _, _, rfl, rfl, SqL.of hb, atI_nat (j := 0) rfl, _, rfl, _, _, rfl, rfl, dlt (by omega) h2, _, rfl, b, _, _, 0, rfl, rfl, hb, rfl, ?_⟩
      refine ⟨_, rfl, k _ _ (Int.emod_nonneg _ (by omega)) (Int.emod_lt_of_pos _ (by omega)) ⟨g / m, r, Int.ediv_nonneg (by omega) (by omega), upd_same⟩ Frm.upd⟩
    · refine ⟨_, rfl, b, _, _, _, rfl, rfl, SqL.of hb, atI_nat (j := 1) rfl, _, _, rfl, rfl, .inr ⟨by decide, by decide⟩, _, _, rfl, rfl, _, _, rfl, rfl, (show (0 : Int) < 2147483647 by decide), _, rfl, b, _, _, 1, rfl, rfl, hb, rfl, ?_⟩
      have e1 : 0 ≤ (r * 48271 + 11) % 2147483647 := Int.emod_nonneg _ (by decide)
      have e2 : (r * 48271 + 11) % 2147483647 < 2147483647 := Int.emod_lt_of_pos _ (by decide)
      refine ⟨_, rfl, b, _, _, _, rfl, rfl, SqL.of upd_same, atI_nat (j := 1) rfl, _, _, rfl, rfl, dlt (by decide) (by decide +kernel), _, _, rfl, rfl, ⟨by decide, by decide, by omega⟩, _, _, rfl, rfl, (show (0 : Int) < 2147483629 by decide), _, rfl, _, _, rfl, rfl, (by omega : 0 < m), ?_⟩
      exact k _ _ (Int.emod_nonneg _ (by omega)) (Int.emod_lt_of_pos _ (by omega)) ⟨g, _, hg, upd_same⟩ Frm.upd
def spBag (K : PySem.W.Frag) : Sp := fun vs H Q _ => ∃ (a : Addr) (i : Int) (ns : List Int), vs = [.ref a, .int i] ∧ SqL K H a (ns.map V.int) ∧ 0 ≤ i ∧ i < 1000 ∧ ∀ (l : Addr) (H' : Hp), H l = none → Same H H' → Bag H' l → Q (.ref l) H'
abbrev s__law_bag : Stmt := top 29
theorem sc__law_bag : FnScope ["_law_script", "_law_at", "_law_cell", "_law_great", "_law_primes"] ["_law_script", "_law_at"] (defScope s__law_bag) := ⟨rfl, rfl, rfl, by decide +kernel, rfl, by decide +kernel, by decide +kernel⟩
theorem ok_bag {f : Addr} {fd : FuncData} (F : Fun K "_law_bag" "_law_bag" s__law_bag f fd) (b_len : mg "len" = none) (b_abs : mg "abs" = none) : FnOk P w K mg base CX0 1 f fd ["_law_script", "_law_at"] (spBag K) := by
  refine F.ok sc__law_bag (fun vs H Q E h => ?_) (fun cdv A outer s H vs Q E hr h => ?_)
  · obtain ⟨a, i, ns, rfl, _⟩ := h
    rfl
  · obtain ⟨a, i, ns, rfl, hS, h0, h1, k⟩ := h
    refine ⟨_, (pss_cons (ps_set (i := 2) sc__law_bag.nd rfl (Or.inl rfl) pe_int)
      (pss_cons (ps_if (pt_cmpR op_lt (pv 1) (pe_callB (call_lenK (K := K) rfl) (by rfl) b_len PySem.boot_len (pa_cons (pv 0) pa_nil)) (nomark _)) (pss_one (ps_set (i := 2) sc__law_bag.nd rfl (Or.inl rfl) (pe_ix (ix_listK (K := K) rfl) (pv 0) (pv 1) (fun _ _ => rfl)))) pss_nil)
      (pss_cons (ps_set (i := 3) sc__law_bag.nd rfl (Or.inl rfl) pe_int)
      (pss_cons (ps_if (pt_cmpR op_ge (pe_callB call_abs (by rfl) b_abs boot_abs (pa_cons (pv 2) pa_nil)) (pe_op op_pow pe_int pe_int) (nomark _)) (pss_one (ps_set (i := 3) sc__law_bag.nd rfl (Or.inl rfl) (pe_callB call_abs (by rfl) b_abs boot_abs (pa_cons (pv 2) pa_nil)))) pss_nil)
      (pss_cons (ps_set (i := 4) sc__law_bag.nd rfl (Or.inl rfl) (pe_tup (pa_cons pe_int (pa_cons pe_int (pa_cons pe_int (pa_cons pe_int (pa_cons pe_int (pa_cons pe_int (pa_cons pe_int (pa_cons pe_int pa_nil))))))))))
      (pss_one (ps_ret (pe_lst (pa_cons (pv 3) (pa_cons (pe_op op_mod (pe_op op_pow (pe_op op_add (pe_op op_add (pe_op op_mod (pv 2) pe_int) (pe_op op_mul pe_int (pv 1))) pe_int) pe_int) (pe_ix (ix_tupK (K := K) rfl) (pv 4) (pe_op op_mod (pv 1) pe_int) (fun _ _ => rfl))) pa_nil)))))))))), ?_⟩
    refine ⟨_, rfl, _, rfl, a, _, rfl, .inl hS, _, _, rfl, rfl, _, rfl, ?_⟩
    have last : ∀ (c : Int), 0 ≤ c % 2147483647 ∧ c % 2147483647 < 2147483647 := fun c => ⟨Int.emod_nonneg _ (by decide), Int.emod_lt_of_pos _ (by decide)⟩
    have e3 : 0 ≤ i % 8 := Int.emod_nonneg _ (by decide)
    have e4 : i % 8 < 8 := Int.emod_lt_of_pos _ (by decide)
    obtain ⟨j, hj⟩ : ∃ j : Nat, i % 8 = (j : Int) := ⟨(i % 8).toNat, by omega⟩
    have hj8 : j < 8 := by omega
    obtain ⟨q, hq, hq0⟩ : ∃ q : Int, ([V.int 2147483629, .int 2147483587, .int 2147483579, .int 2147483563, .int 2147483549, .int 2147483543, .int 2147483497, .int 2147483489] : List V)[j]? = some (.int q) ∧ 0 < q := by
      match j, hj8 with
      | 0, _ => exact ⟨_, rfl, by decide⟩
      | 1, _ => exact ⟨_, rfl, by decide⟩
      | 2, _ => exact ⟨_, rfl, by decide⟩
      | 3, _ => exact ⟨_, rfl, by decide⟩
      | 4, _ => exact ⟨_, rfl, by decide⟩
      | 5, _ => exact ⟨_, rfl, by decide⟩
      | 6, _ => exact ⟨_, rfl, by decide⟩
      | 7, _ => exact ⟨_, rfl, by decide⟩
    have two : ∀ (c : Int) (B : Prop), B → (c = 0 ∨ ∃ j : Nat, i = (j : Int) ∧ ns[j]? = some c) → B := fun _ _ b _ => b
    refine ite2 (fun hp => ?_) (fun hp => ?_)
    · have hp' : i < ((ns.map V.int).length : Int) := of_decide_eq_true hp
      rw [List.length_map] at hp'
      obtain ⟨n, hn⟩ : ∃ n : Nat, i = (n : Int) := ⟨i.toNat, by omega⟩
      have hnl : n < ns.length := by omega
      refine ⟨_, rfl, _, rfl, a, _, _, _, rfl, rfl, hS, (by rw [hn]; exact atI_nat (v := V.int ns[n]) (by simp [hnl])), ?_⟩
      refine ⟨_, rfl, _, rfl, _, _, rfl, rfl, ⟨by decide, by decide, by decide⟩, _, _, rfl, rfl, _, rfl, ?_⟩
      refine ite2 (fun hp => ?_) (fun hp => ?_)
      · refine ⟨_, rfl, _, rfl, ?_⟩
        have l0 := last ns[n]
        refine ⟨(by show 8 ≤ sizeLine; decide), fun pl hpl => ?_⟩
        refine ⟨_, rfl, _, rfl, _, _, rfl, rfl, (show (0 : Int) < 2147483647 by decide), _, rfl, _, _, rfl, rfl, .inl ⟨by decide, by decide⟩, _, _, rfl, rfl, _, _, rfl, rfl, _, _, rfl, rfl, ⟨by decide, by decide, by omega⟩, _, rfl, _, rfl, _, _, rfl, rfl, (show (0 : Int) < 8 by decide), pl, _, _, _, rfl, rfl, SqT.of upd_same, (by rw [hj]; exact atI_nat hq), _, _, rfl, rfl, hq0, (by show 2 ≤ sizeLine; decide), fun l hl => ?_⟩
        have hl0 : H l = none := (Same.laid hpl).free hl
        exact k l _ hl0 ((Same.laid hpl).step hl) ⟨_, _, (by split <;> omega), upd_same⟩
      · have l0 := last ns[n]
        refine ⟨(by show 8 ≤ sizeLine; decide), fun pl hpl => ?_⟩
        refine ⟨_, rfl, _, rfl, _, _, rfl, rfl, (show (0 : Int) < 2147483647 by decide), _, rfl, _, _, rfl, rfl, .inl ⟨by decide, by decide⟩, _, _, rfl, rfl, _, _, rfl, rfl, _, _, rfl, rfl, ⟨by decide, by decide, by omega⟩, _, rfl, _, rfl, _, _, rfl, rfl, (show (0 : Int) < 8 by decide), pl, _, _, _, rfl, rfl, SqT.of upd_same, (by rw [hj]; exact atI_nat hq), _, _, rfl, rfl, hq0, (by show 2 ≤ sizeLine; decide), fun l hl => ?_⟩
        have hl0 : H l = none := (Same.laid hpl).free hl
        exact k l _ hl0 ((Same.laid hpl).step hl) ⟨0, _, Int.le_refl _, upd_same⟩
    · refine ⟨_, rfl, _, rfl, _, _, rfl, rfl, ⟨by decide, by decide, by decide⟩, _, _, rfl, rfl, _, rfl, ?_⟩
      refine ite2 (fun hp => ?_) (fun hp => ?_)
      · exact absurd hp (by decide)
      · have l0 := last 0
        refine ⟨(by show 8 ≤ sizeLine; decide), fun pl hpl => ?_⟩
        refine ⟨_, rfl, _, rfl, _, _, rfl, rfl, (show (0 : Int) < 2147483647 by decide), _, rfl, _, _, rfl, rfl, .inl ⟨by decide, by decide⟩, _, _, rfl, rfl, _, _, rfl, rfl, _, _, rfl, rfl, ⟨by decide, by decide, by omega⟩, _, rfl, _, rfl, _, _, rfl, rfl, (show (0 : Int) < 8 by decide), pl, _, _, _, rfl, rfl, SqT.of upd_same, (by rw [hj]; exact atI_nat hq), _, _, rfl, rfl, hq0, (by show 2 ≤ sizeLine; decide), fun l hl => ?_⟩
        have hl0 : H l = none := (Same.laid hpl).free hl
        exact k l _ hl0 ((Same.laid hpl).step hl) ⟨0, _, Int.le_refl _, upd_same⟩
end
end Qk66

namespace Qk66
open PySem L2 PyProof.Rows
section
variable {P : Program} {w : World} {K : PySem.W.Frag} {mg : Str → Option Value} {base : Heap}
/-! texts of sums: how they are read -/
def dig (c : Nat) : Bool := decide (48 ≤ c) && decide (c ≤ 57)
/-- a letter's figures, as the law reads them -/
def figL (f : List Nat) : Option Int := if f ≠ [] ∧ f.all dig = true ∧ f.length ≤ 2 ∧ ¬ (f.length = 2 ∧ f[0]? = some 48) then some ((f.foldl (fun a c => a * 10 + (c - 48)) 0 : Nat) : Int) else none
/-- a number of at most two figures, as the program reads it -/
def numT (l : List Nat) : Option Int := if l[0]? = some 45 then (if figL (l.drop 1) = some 0 then none else (figL (l.drop 1)).map fun n => -n) else figL l
theorem figL_pos {f : List Nat} {n : Int} (h : figL f = some n) : 0 ≤ n ∧ n ≤ 99 := by
  unfold figL at h
  by_cases c : f ≠ [] ∧ f.all dig = true ∧ f.length ≤ 2 ∧ ¬ (f.length = 2 ∧ f[0]? = some 48)
  · rw [if_pos c] at h
    cases h
    obtain ⟨c1, c2, c3, _⟩ := c
    match f, c1, c2, c3 with
    | [a], _, c2, _ =>
      have d1 : dig a = true := by simpa using c2
      unfold dig at d1
      simp only [Bool.and_eq_true, decide_eq_true_eq] at d1
      simp
      omega
    | [a, b], _, c2, _ =>
      have d : dig a = true ∧ dig b = true := by simpa using c2
      obtain ⟨d1, d2⟩ := d
      unfold dig at d1 d2
      simp only [Bool.and_eq_true, decide_eq_true_eq] at d1 d2
      simp
      omega
    | _ :: _ :: _ :: _, _, _, c3 => exact absurd c3 (by simp)
  · rw [if_neg c] at h; cases h
theorem figL_minus {l : List Nat} (h : l[0]? = some 45) : figL l = none := by
  unfold figL
  rw [if_neg]
  rintro ⟨_, z, _⟩
  cases l with
  | nil => cases h
  | cons a r =>
    have : a = 45 := by simpa using h
    subst this
    rw [List.all_cons] at z
    rw [show dig 45 = false by decide, Bool.false_and] at z
    cases z
theorem figL_of {f : List Nat} {n : Int} (h : numT f = some n) (h0 : 0 ≤ n) : figL f = some n := by
  unfold numT at h
  by_cases c : f[0]? = some 45
  · rw [if_pos c] at h
    exfalso
    by_cases z : figL (f.drop 1) = some 0
    · rw [if_pos z] at h; cases h
    · rw [if_neg z] at h
      cases e : figL (f.drop 1) with
      | none => rw [e] at h; cases h
      | some k =>
        rw [e] at h z
        have : -k = n := Option.some.inj h
        have := figL_pos e
        have : k ≠ 0 := fun y => z (by rw [y])
        omega
  · rw [if_neg c] at h; exact h
theorem numT_of {f : List Nat} {n : Int} (h : figL f = some n) : numT f = some n := by
  unfold numT
  rw [if_neg fun c => by rw [figL_minus c] at h; cases h]
  exact h
def nameBy (g : List Nat → Option Int) (x : Str) : Option Int := if x.cps.toList.take 1 = [120] then g (x.cps.toList.drop 1) else none
def wordBy (g : List Nat → Option Int) (x : Str) : Option (List Int) := if x = "1" then some [] else (Txt.split x ".").mapM (nameBy g)
/-- a sum: names from 0 on, words rising -/
def sumB (L : List (List Int)) : Bool := L.all (fun w => w.all fun k => decide (0 ≤ k)) && (L.zip (L.drop 1)).all fun p => lexLt p.1 p.2
def fitS (L : List (List Int)) : Bool := sumB L && (decide (L.length ≤ 40) && L.all fun w => decide (w.length ≤ 8))
def sumBy (g : List Nat → Option Int) (x : Str) : Option (List (List Int)) := if x = "0" then some [] else ((Txt.split x " + ").mapM (wordBy g)).bind fun L => if fitS L = true then some L else none
theorem mapMG {α β : Type} {f : α → Option β} : ∀ {xs : List α} {ls : List β}, xs.mapM f = some ls ↔ Paired (fun x p => f x = some p) xs ls
  | [], ls => by
    rw [List.mapM_nil]
    constructor
    · intro h; cases h; exact .nil
    · intro h; cases h; rfl
  | x :: xs, ls => by
    rw [List.mapM_cons]
    constructor
    · intro h
      cases e : f x with
      | none => rw [e] at h; cases h
      | some p =>
        rw [e] at h
        cases e2 : xs.mapM f with
        | none =>
          have h : (Option.bind (xs.mapM f) fun ys => some (p :: ys)) = some ls := h
          rw [e2] at h; cases h
        | some r =>
          have h : (Option.bind (xs.mapM f) fun ys => some (p :: ys)) = some ls := h
          rw [e2] at h
          cases h
          exact .cons e (mapMG.mp e2)
    · intro h
      cases h with
      | cons a r =>
        show (Option.bind (f x) fun y => Option.bind (xs.mapM f) fun ys => some (y :: ys)) = _
        rw [a, mapMG.mpr r]
        rfl
theorem paired_impG {α β : Type} {f g : α → Option β} : ∀ {xs : List α} {ls : List β}, Paired (fun x p => f x = some p) xs ls → (∀ x p, p ∈ ls → f x = some p → g x = some p) → Paired (fun x p => g x = some p) xs ls
  | _, _, .nil, _ => .nil
  | _, _, .cons a r, h => .cons (h _ _ List.mem_cons_self a) (paired_impG r fun x p hp => h x p (List.mem_cons_of_mem _ hp))
theorem mapM_noneG {α β : Type} {f : α → Option β} {xs : List α} {x : α} (hx : x ∈ xs) (h : f x = none) : xs.mapM f = none := by
  cases e : xs.mapM f with
  | none => rfl
  | some ls =>
    obtain ⟨p, _, hp⟩ := Paired.mem1 (mapMG.mp e) x hx
    rw [h] at hp
    cases hp
theorem paired_snoc {α β : Type} {R : α → β → Prop} : ∀ {xs : List α} {ys : List β} {x : α} {y : β}, Paired R xs ys → R x y → Paired R (xs ++ [x]) (ys ++ [y])
  | _, _, _, _, .nil, h => .cons h .nil
  | _, _, _, _, .cons a r, h => .cons a (paired_snoc r h)
theorem wordBy_imp {f g : List Nat → Option Int} (hfg : ∀ l n, 0 ≤ n → f l = some n → g l = some n) {x : Str} {w : List Int} (h0 : ∀ k ∈ w, 0 ≤ k) (h : wordBy f x = some w) : wordBy g x = some w := by
  unfold wordBy at h ⊢
  by_cases c : x = "1"
  · rw [if_pos c] at h ⊢; exact h
  · rw [if_neg c] at h ⊢
    refine mapMG.mpr (paired_impG (mapMG.mp h) fun y n hn e => ?_)
    unfold nameBy at e ⊢
    by_cases d : y.cps.toList.take 1 = [120]
    · rw [if_pos d] at e ⊢; exact hfg _ _ (h0 n hn) e
    · rw [if_neg d] at e; cases e
theorem sumBy_imp {f g : List Nat → Option Int} (hfg : ∀ l n, 0 ≤ n → f l = some n → g l = some n) {x : Str} {L : List (List Int)} (h : sumBy f x = some L) : sumBy g x = some L := by
  unfold sumBy at h ⊢
  by_cases c : x = "0"
  · rw [if_pos c] at h ⊢; exact h
  · rw [if_neg c] at h ⊢
    cases e : (Txt.split x " + ").mapM (wordBy f) with
    | none => rw [e] at h; cases h
    | some r =>
      rw [e] at h
      have h : (if fitS r = true then some r else none) = some L := h
      by_cases d : fitS r = true
      · rw [if_pos d] at h
        have h := Option.some.inj h
        subst h
        have nn : ∀ w ∈ r, ∀ k ∈ w, 0 ≤ k := fun w hw k hk => by
          unfold fitS sumB at d
          simp only [Bool.and_eq_true] at d
          exact of_decide_eq_true (List.all_eq_true.mp (List.all_eq_true.mp d.1.1 w hw) k hk)
        rw [mapMG.mpr (paired_impG (mapMG.mp e) fun y w hw hy => wordBy_imp hfg (nn w hw) hy)]
        show (if fitS r = true then some r else none) = some r
        rw [if_pos d]
      · rw [if_neg d] at h; cases h
theorem sum_eq (x : Str) : sumBy numT x = sumBy figL x := by
  cases e : sumBy numT x with
  | some ls => exact (sumBy_imp (fun l n h0 h => figL_of h h0) e).symm
  | none =>
    cases e2 : sumBy figL x with
    | none => rfl
    | some ls =>
      rw [sumBy_imp (fun l n _ h => numT_of h) e2] at e
      cases e
end
end Qk66

namespace Qk66
open PySem L2 PyProof.Rows
section
variable {P : Program} {w : World} {K : PySem.W.Frag} {mg : Str → Option Value} {base : Heap}
/-! parts joined by a separator whose first sign they have not, split again -/
def joinY (y : List Nat) : List (List Nat) → List Nat
  | [] => []
  | [p] => p
  | p :: q :: r => p ++ (y ++ joinY y (q :: r))
theorem cat_signs (x y : Str) : (x ++ y).cps.toList = x.cps.toList ++ y.cps.toList := by
  show (x.cps ++ y.cps).toList = _
  rw [Array.toList_append]
theorem join_signs (y : Str) : ∀ ps : List Str, (Str.join y ps).cps.toList = joinY y.cps.toList (ps.map (·.cps.toList))
  | [] => rfl
  | [p] => rfl
  | p :: q :: r => by
    have ih := join_signs y (q :: r)
    show (p ++ y ++ Str.join y (q :: r)).cps.toList = p.cps.toList ++ (y.cps.toList ++ joinY y.cps.toList ((q :: r).map (·.cps.toList)))
    rw [cat_signs, cat_signs, ih, List.append_assoc]
theorem len_signs (x : Str) : x.length = x.cps.toList.length := by simp [Str.length]
theorem sub_signs (x : Str) (i j : Nat) : (Builtin.Str.strSub x i j).cps.toList = (x.cps.toList.drop i).take (j - i) := by
  show (x.cps.extract i j).toList = _
  rw [Array.toList_extract, List.extract_eq_drop_take]
theorem at_iff (x y : Str) (k : Nat) : StrLaws.At x y x.length k ↔ k + y.length ≤ x.length ∧ (x.cps.toList.drop k).take y.length = y.cps.toList := by
  unfold StrLaws.At Builtin.Str.subAt
  rw [beq_iff_eq, ← Array.toList_inj, Array.toList_extract, List.extract_eq_drop_take, show k + y.length - k = y.length by omega]
theorem at_head {x y : Str} {c : Nat} {yt : List Nat} (hy : y.cps.toList = c :: yt) {k : Nat} (h : StrLaws.At x y x.length k) : x.cps.toList[k]? = some c := by
  have h := ((at_iff x y k).mp h).2
  rw [hy] at h
  have := congrArg (fun l : List Nat => l[0]?) h
  simp only [List.getElem?_cons_zero] at this
  rw [List.getElem?_take_of_lt (by rw [len_signs, hy]; simp), List.getElem?_drop] at this
  simpa using this
theorem parts_of {x y : Str} {c : Nat} {yt : List Nat} (hy : y.cps.toList = c :: yt) : ∀ (ps : List Str) (a : Nat) (cuts : List Nat) (f : Nat), ps ≠ [] → (∀ p ∈ ps, c ∉ p.cps.toList) → x.cps.toList.drop a = joinY y.cps.toList (ps.map (·.cps.toList)) → StrLaws.ChainG x y x.length a cuts f → (∀ k, f ≤ k → ¬ StrLaws.At x y x.length k) →
    StrLaws.partsFrom x y.length a cuts = ps
  | [], _, _, _, h, _, _, _, _ => absurd rfl h
  | [p], a, cuts, f, _, hf, hd, hc, hn => by
    have hd : x.cps.toList.drop a = p.cps.toList := hd
    cases cuts with
    | nil =>
      show [Builtin.Str.strSub x a x.length] = [p]
      congr 1
      refine str_ext ?_
      rw [sub_signs, hd, List.take_of_length_le]
      rw [← hd, List.length_drop, len_signs]
      exact Nat.le_refl _
    | cons cc r =>
      exfalso
      obtain ⟨h1, h2, _⟩ := hc
      have := at_head hy h2
      have m : c ∈ x.cps.toList.drop a := List.mem_of_getElem? (i := cc - a) (by rw [List.getElem?_drop, show a + (cc - a) = cc by omega]; exact this)
      rw [hd] at m
      exact hf p List.mem_cons_self m
  | p :: q :: r, a, cuts, f, _, hf, hd, hc, hn => by
    have hd : x.cps.toList.drop a = p.cps.toList ++ (y.cps.toList ++ joinY y.cps.toList ((q :: r).map (·.cps.toList))) := hd
    have ln := congrArg List.length hd
    rw [List.length_drop, List.length_append, List.length_append, ← len_signs, ← len_signs, ← len_signs] at ln
    have yp : 0 < y.length := by rw [len_signs, hy]; simp
    have atp : StrLaws.At x y x.length (a + p.length) := by
      refine (at_iff x y _).mpr ⟨by omega, ?_⟩
      rw [← List.drop_drop, hd, len_signs p, List.drop_left, len_signs y, List.take_left]
    have before : ∀ k, a ≤ k → k < a + p.length → ¬ StrLaws.At x y x.length k := fun k h1 h2 h => by
      have e := at_head hy h
      have e2 : (x.cps.toList.drop a)[k - a]? = some c := by rw [List.getElem?_drop, show a + (k - a) = k by omega]; exact e
      rw [hd, List.getElem?_append_left (by rw [← len_signs]; omega)] at e2
      exact hf p List.mem_cons_self (List.mem_of_getElem? e2)
    cases cuts with
    | nil =>
      have : f = a := hc
      exact absurd atp (hn _ (by omega))
    | cons cc r' =>
      obtain ⟨h1, h2, h3, h4⟩ := hc
      have ecc : cc = a + p.length := by
        rcases Nat.lt_trichotomy cc (a + p.length) with z | z | z
        · exact absurd h2 (before cc h1 z)
        · exact z
        · exact absurd atp (h3 _ (by omega) z)
      show Builtin.Str.strSub x a cc :: StrLaws.partsFrom x y.length (cc + y.length) r' = p :: q :: r
      congr 1
      · refine str_ext ?_
        rw [sub_signs, hd, ecc, show a + p.length - a = p.length by omega, len_signs p, List.take_left]
      · refine parts_of hy (q :: r) _ r' f (by simp) (fun z hz => hf z (List.mem_cons_of_mem _ hz)) ?_ h4 hn
        rw [ecc, Nat.add_assoc, ← List.drop_drop, hd, ← List.drop_drop, len_signs p, List.drop_left, len_signs y, List.drop_left]
theorem split_is (x y : Str) (hy : 1 ≤ y.length) (hk : Builtin.Str.strKind y = 1) : Txt.split x y = StrLaws.partsFrom x y.length 0 (Builtin.Str.occurrences x y 0 x.length (x.length + 1)) := by
  have kx : ¬ Builtin.Str.strKind x < Builtin.Str.strKind y := by
    rw [hk]
    unfold Builtin.Str.strKind
    split
    · decide
    · split <;> decide
  obtain ⟨f, hG, hn⟩ := StrLaws.occ_tight x y hy
  unfold Txt.split
  by_cases c1 : x.length < y.length
  · rw [if_pos (by simp [c1])]
    cases e : Builtin.Str.occurrences x y 0 x.length (x.length + 1) with
    | nil => show [x] = [Builtin.Str.strSub x 0 x.length]; rw [StrLaws.sub_whole]
    | cons cc r =>
      rw [e] at hG
      have := hG.2.1.1
      omega
  · rw [if_neg (by simp [c1, kx])]
    by_cases c2 : (Builtin.Str.occurrences x y 0 x.length (x.length + 1)).isEmpty = true
    · rw [if_pos c2, List.isEmpty_iff.mp c2]
      show [x] = [Builtin.Str.strSub x 0 x.length]
      rw [StrLaws.sub_whole]
    · rw [if_neg c2]
      exact StrLaws.partsBetween_eq _ _ _
theorem split_join {y : Str} {c : Nat} {yt : List Nat} (hy : y.cps.toList = c :: yt) (hk : Builtin.Str.strKind y = 1) {ps : List Str} (h : ps ≠ []) (hf : ∀ p ∈ ps, c ∉ p.cps.toList) : Txt.split (Txt.join y ps) y = ps := by
  have e0 : Txt.join y ps = Str.join y ps := StrLaws.glued_eq_join _ _
  have ly : 1 ≤ y.length := by rw [len_signs, hy]; simp
  rw [e0, split_is _ _ ly hk]
  obtain ⟨f, hG, hn⟩ := StrLaws.occ_tight (Str.join y ps) y ly
  exact parts_of hy ps 0 _ f h hf (by rw [List.drop_zero, join_signs]) hG hn
end
end Qk66

namespace Qk66
open PySem L2 PyProof.Rows
section
variable {P : Program} {w : World} {K : PySem.W.Frag} {mg : Str → Option Value} {base : Heap}
/-! the texts of sums, and that they are read back -/
def nameT (n : Int) : Str := "x" ++ Str.ofString (toString n)
def wordT (w : List Int) : Str := if w = [] then "1" else Txt.join "." (w.map nameT)
def sumT (L : List (List Int)) : Str := if L = [] then "0" else Txt.join " + " (L.map wordT)
def smallW (w : List Int) : Prop := ∀ k ∈ w, 0 ≤ k ∧ k ≤ 99
theorem tabN : ∀ a : Fin 100, figL (Str.ofString (toString ((a.val : Nat) : Int))).cps.toList = some ((a.val : Nat) : Int) ∧ (Str.ofString (toString ((a.val : Nat) : Int))).cps.toList.all dig = true ∧ (Str.ofString (toString ((a.val : Nat) : Int))).cps.toList.length ≤ 2 := by decide +kernel
theorem nameT_signs {n : Int} (h0 : 0 ≤ n) (h9 : n ≤ 99) : ∃ f : List Nat, (nameT n).cps.toList = 120 :: f ∧ figL f = some n ∧ f.all dig = true ∧ f.length ≤ 2 := by
  obtain ⟨k, rfl⟩ := Int.eq_ofNat_of_zero_le h0
  have t := tabN ⟨k, by omega⟩
  refine ⟨_, ?_, t.1, t.2.1, t.2.2⟩
  unfold nameT
  rw [cat_signs, show ("x" : Str).cps.toList = [120] by decide +kernel]
  rfl
theorem nameT_len {n : Int} (h0 : 0 ≤ n) (h9 : n ≤ 99) : (nameT n).length ≤ 3 := by
  obtain ⟨f, e, _, _, l⟩ := nameT_signs h0 h9
  rw [len_signs, e, List.length_cons]; omega
theorem nameT_by {n : Int} (h0 : 0 ≤ n) (h9 : n ≤ 99) : nameBy figL (nameT n) = some n := by
  obtain ⟨f, e, h, _⟩ := nameT_signs h0 h9
  unfold nameBy
  rw [e, if_pos (by rfl)]
  exact h
theorem name_no {n : Int} (h0 : 0 ≤ n) (h9 : n ≤ 99) {c : Nat} (h1 : c ≠ 120) (h2 : dig c = false) : c ∉ (nameT n).cps.toList := by
  obtain ⟨f, e, _, d, _⟩ := nameT_signs h0 h9
  rw [e]
  intro hc
  rcases List.mem_cons.mp hc with z | z
  · exact h1 z
  · rw [List.all_eq_true.mp d c z] at h2; cases h2
theorem joinY_mem {y : List Nat} : ∀ {ps : List (List Nat)} {c : Nat}, c ∈ joinY y ps → c ∈ y ∨ ∃ p ∈ ps, c ∈ p
  | [], _, h => by cases h
  | [p], c, h => .inr ⟨p, List.mem_cons_self, h⟩
  | p :: q :: r, c, h => by
    have h : c ∈ p ++ (y ++ joinY y (q :: r)) := h
    rcases List.mem_append.mp h with z | z
    · exact .inr ⟨p, List.mem_cons_self, z⟩
    · rcases List.mem_append.mp z with z | z
      · exact .inl z
      · rcases joinY_mem z with z | ⟨p', hp', hc⟩
        · exact .inl z
        · exact .inr ⟨p', List.mem_cons_of_mem _ hp', hc⟩
theorem joinY_head {y : List Nat} {a : Nat} {t : List Nat} : ∀ {r : List (List Nat)}, (joinY y ((a :: t) :: r))[0]? = some a
  | [] => rfl
  | _ :: _ => rfl
theorem joinY_len {y : List Nat} {b : Nat} : ∀ {ps : List (List Nat)}, (∀ p ∈ ps, p.length ≤ b) → (joinY y ps).length ≤ (b + y.length) * ps.length
  | [], _ => Nat.zero_le _
  | [p], h => by
    have := h p List.mem_cons_self
    show p.length ≤ (b + y.length) * 1
    omega
  | p :: q :: r, h => by
    have a := h p List.mem_cons_self
    have c := joinY_len (y := y) (b := b) (ps := q :: r) fun z hz => h z (List.mem_cons_of_mem _ hz)
    show (p ++ (y ++ joinY y (q :: r))).length ≤ (b + y.length) * ((q :: r).length + 1)
    rw [List.length_append, List.length_append, Nat.mul_add, Nat.mul_one]
    omega
theorem tx_join (y : Str) (ps : List Str) : (Txt.join y ps).cps.toList = joinY y.cps.toList (ps.map (·.cps.toList)) := by
  have e0 : Txt.join y ps = Str.join y ps := StrLaws.glued_eq_join _ _
  rw [e0, join_signs]
theorem dot_signs : ("." : Str).cps.toList = [46] := by decide +kernel
theorem plus_signs : (" + " : Str).cps.toList = [32, 43, 32] := by decide +kernel
theorem one_signs : ("1" : Str).cps.toList = [49] := by decide +kernel
theorem nil_signs : ("0" : Str).cps.toList = [48] := by decide +kernel
theorem wordT_head {w : List Int} (h : smallW w) (hn : w ≠ []) : (wordT w).cps.toList[0]? = some 120 := by
  cases w with
  | nil => exact absurd rfl hn
  | cons n r =>
    unfold wordT
    rw [if_neg hn, tx_join, List.map_cons, List.map_cons]
    obtain ⟨f, e, _⟩ := nameT_signs (h n List.mem_cons_self).1 (h n List.mem_cons_self).2
    rw [e]
    exact joinY_head
theorem wordT_ne {w : List Int} (h : smallW w) (hn : w ≠ []) : wordT w ≠ "1" := fun z => by
  have e := wordT_head h hn
  rw [z, one_signs] at e
  cases e
theorem wordT_cons {w : List Int} (h : smallW w) : ∃ a t, (wordT w).cps.toList = a :: t ∧ a ≠ 48 := by
  by_cases hn : w = []
  · subst hn; exact ⟨49, [], one_signs, by decide⟩
  · have e := wordT_head h hn
    cases q : (wordT w).cps.toList with
    | nil => rw [q] at e; cases e
    | cons a t =>
      rw [q] at e
      have : a = 120 := by simpa using e
      exact ⟨a, t, rfl, by omega⟩
theorem wordT_no {w : List Int} (h : smallW w) : 32 ∉ (wordT w).cps.toList := by
  unfold wordT
  by_cases hn : w = []
  · rw [if_pos hn, one_signs]; decide
  · rw [if_neg hn, tx_join, dot_signs]
    intro hc
    rcases joinY_mem hc with z | ⟨p, hp, z⟩
    · exact absurd z (by decide)
    · rw [List.map_map] at hp
      obtain ⟨n, hn', rfl⟩ := List.mem_map.mp hp
      exact name_no (h n hn').1 (h n hn').2 (by decide) (by decide) z
theorem wordT_len {w : List Int} (h : smallW w) {m : Nat} (hm : w.length ≤ m) : (wordT w).length ≤ 4 * m + 1 := by
  unfold wordT
  by_cases hn : w = []
  · rw [if_pos hn, len_signs, one_signs]; simp
  · rw [if_neg hn, len_signs, tx_join, dot_signs]
    have := joinY_len (y := [46]) (b := 3) (ps := (w.map nameT).map (·.cps.toList)) fun p hp => by
      rw [List.map_map] at hp
      obtain ⟨n, hn', rfl⟩ := List.mem_map.mp hp
      show (nameT n).cps.toList.length ≤ 3
      rw [← len_signs]; exact nameT_len (h n hn').1 (h n hn').2
    rw [List.length_map, List.length_map] at this
    have e : (3 + [46].length) * w.length = 4 * w.length := rfl
    omega
theorem paired_map {α β : Type} {f : β → Option α} {g : α → β} : ∀ {xs : List α}, (∀ x ∈ xs, f (g x) = some x) → Paired (fun x p => f x = some p) (xs.map g) xs
  | [], _ => .nil
  | x :: _, h => .cons (h x List.mem_cons_self) (paired_map fun y hy => h y (List.mem_cons_of_mem _ hy))
theorem word_back {w : List Int} (h : smallW w) : wordBy figL (wordT w) = some w := by
  by_cases hn : w = []
  · subst hn; unfold wordBy; rw [if_pos (by rfl)]
  · have ne := wordT_ne h hn
    unfold wordBy
    rw [if_neg ne]
    have e : wordT w = Txt.join "." (w.map nameT) := if_neg hn
    rw [e, split_join (c := 46) (yt := []) dot_signs (by decide +kernel) (by simpa using hn) fun p hp => by
      obtain ⟨n, hn', rfl⟩ := List.mem_map.mp hp
      exact name_no (h n hn').1 (h n hn').2 (by decide) (by decide)]
    exact mapMG.mpr (paired_map fun n hn' => nameT_by (h n hn').1 (h n hn').2)
theorem sumT_ne {L : List (List Int)} (h : ∀ w ∈ L, smallW w) (hn : L ≠ []) : sumT L ≠ "0" := fun z => by
  cases L with
  | nil => exact hn rfl
  | cons w r =>
    obtain ⟨a, t, e, ha⟩ := wordT_cons (h w List.mem_cons_self)
    have q : (sumT (w :: r)).cps.toList[0]? = some a := by
      unfold sumT
      rw [if_neg hn, tx_join, List.map_cons, List.map_cons, e]
      exact joinY_head
    rw [z, nil_signs] at q
    exact ha (by simpa using q.symm)
theorem sum_parts {L : List (List Int)} (h : ∀ w ∈ L, smallW w) (hn : L ≠ []) : Txt.split (sumT L) " + " = L.map wordT := by
  have e : sumT L = Txt.join " + " (L.map wordT) := if_neg hn
  rw [e]
  exact split_join (c := 32) (yt := [43, 32]) plus_signs (by decide +kernel) (by simpa using hn) fun p hp => by
    obtain ⟨w, hw, rfl⟩ := List.mem_map.mp hp
    exact wordT_no (h w hw)
theorem sum_back {L : List (List Int)} (h : ∀ w ∈ L, smallW w) : sumBy figL (sumT L) = if fitS L = true then some L else none := by
  by_cases hn : L = []
  · subst hn; unfold sumBy; rw [if_pos (by rfl)]; rfl
  · unfold sumBy
    rw [if_neg (sumT_ne h hn), sum_parts h hn, mapMG.mpr (paired_map fun w hw => word_back (h w hw))]
    rfl
theorem sumT_len {L : List (List Int)} (h : ∀ w ∈ L, smallW w) {m k : Nat} (hk : L.length ≤ k) (hm : ∀ w ∈ L, w.length ≤ m) : (sumT L).length ≤ (4 * m + 4) * k + 1 := by
  unfold sumT
  by_cases hn : L = []
  · rw [if_pos hn, len_signs, nil_signs]; simp
  · rw [if_neg hn, len_signs, tx_join, plus_signs]
    have := joinY_len (y := [32, 43, 32]) (b := 4 * m + 1) (ps := (L.map wordT).map (·.cps.toList)) fun p hp => by
      rw [List.map_map] at hp
      obtain ⟨w, hw, rfl⟩ := List.mem_map.mp hp
      show (wordT w).cps.toList.length ≤ _
      rw [← len_signs]; exact wordT_len (h w hw) (hm w hw)
    rw [List.length_map, List.length_map] at this
    have e : 4 * m + 1 + [32, 43, 32].length = 4 * m + 4 := rfl
    rw [e] at this
    have e2 := Nat.mul_le_mul_left (4 * m + 4) hk
    omega
theorem sumT_pos {L : List (List Int)} (h : ∀ w ∈ L, smallW w) : 1 ≤ (sumT L).length := by
  cases L with
  | nil => decide +kernel
  | cons w r =>
    obtain ⟨a, t, e, _⟩ := wordT_cons (h w List.mem_cons_self)
    have q : (sumT (w :: r)).cps.toList[0]? = some a := by
      unfold sumT
      rw [if_neg (by simp), tx_join, List.map_cons, List.map_cons, e]
      exact joinY_head
    rw [len_signs]
    cases z : (sumT (w :: r)).cps.toList with
    | nil => rw [z] at q; cases q
    | cons _ _ => simp
end
end Qk66

namespace Qk66
open PySem L2 PyProof.Rows
section
variable {P : Program} {w : World} {K : PySem.W.Frag} {mg : Str → Option Value} {base : Heap}
/-! numbers read -/
theorem cut_tail (x : Str) : (cutS x (some 1) none).cps.toList = x.cps.toList.drop 1 := by
  show cutL x.cps.toList (some 1) none = _
  unfold cutL
  generalize x.cps.toList = l
  have e1 : HT.sIx l.length 0 (some 1) = min 1 l.length := HT.sIx_nat l.length 0 1
  rw [e1, HT.sIx_none]
  cases l with
  | nil => rfl
  | cons a r =>
    rw [Nat.min_eq_left (by simp), List.take_of_length_le (by rw [List.length_drop]; omega)]
theorem cut_head (x : Str) : (cutS x none (some 1)).cps.toList = x.cps.toList.take 1 := by
  show cutL x.cps.toList none (some 1) = _
  unfold cutL
  generalize x.cps.toList = l
  have e1 : HT.sIx l.length l.length (some 1) = min 1 l.length := HT.sIx_nat l.length l.length 1
  rw [e1, HT.sIx_none]
  cases l with
  | nil => rfl
  | cons a r =>
    rw [Nat.min_eq_left (by simp)]
    rfl
theorem minus_is : ("-" : Str) = ⟨#[45]⟩ := by decide +kernel
theorem starts_minus (x : Str) : Txt.startswith x "-" = decide (x.cps.toList[0]? = some 45) := by
  rw [minus_is]
  have h := StrLaws.subAt_one x 45 0
  rw [Bool.eq_iff_iff, decide_eq_true_iff, ← h]
  unfold Txt.startswith
  rw [Bool.and_eq_true, decide_eq_true_iff]
theorem uni_dig : ∀ c : Nat, c < 128 → Unicode.isDigit c = dig c := by decide +kernel
theorem ascii_is (x : Str) : Txt.isascii x = x.cps.toList.all (fun c => decide (c < 128)) := by
  unfold Txt.isascii
  rw [← Array.all_toList]
theorem digit_is (x : Str) : Txt.isdigit x = (decide (0 < x.cps.toList.length) && x.cps.toList.all Unicode.isDigit) := by
  unfold Txt.isdigit
  rw [← Array.all_toList, len_signs]
/-- the figures that are looked at -/
def figs (l : List Nat) : List Nat := if l[0]? = some 45 then l.drop 1 else l
def goodF (F : List Nat) : Bool := decide (F.length ≤ 2) && (F.all (fun c => decide (c < 128)) && (decide (0 < F.length) && F.all Unicode.isDigit))
theorem goodF_is {F : List Nat} : goodF F = true → (∃ c, F = [c] ∧ dig c = true) ∨ ∃ c d, F = [c, d] ∧ dig c = true ∧ dig d = true := by
  intro h
  unfold goodF at h
  simp only [Bool.and_eq_true, decide_eq_true_eq] at h
  obtain ⟨h1, h2, h3, h4⟩ := h
  match F, h1, h2, h3, h4 with
  | [c], _, h2, _, h4 =>
    have a : c < 128 := by simpa using h2
    have b : Unicode.isDigit c = true := by simpa using h4
    exact .inl ⟨c, rfl, by rw [← uni_dig c a]; exact b⟩
  | [c, d], _, h2, _, h4 =>
    have a : c < 128 ∧ d < 128 := by simpa using h2
    have b : Unicode.isDigit c = true ∧ Unicode.isDigit d = true := by simpa using h4
    exact .inr ⟨c, d, rfl, by rw [← uni_dig c a.1]; exact b.1, by rw [← uni_dig d a.2]; exact b.2⟩
  | [], _, _, h3, _ => exact absurd h3 (by simp)
  | _ :: _ :: _ :: _, h1, _, _, _ => exact absurd h1 (by simp)
theorem dig_small {c : Nat} (d : dig c = true) : c < 128 := by
  unfold dig at d
  simp only [Bool.and_eq_true, decide_eq_true_eq] at d
  omega
theorem figL_good {F : List Nat} {n : Int} (h : figL F = some n) : goodF F = true := by
  unfold figL at h
  by_cases c : F ≠ [] ∧ F.all dig = true ∧ F.length ≤ 2 ∧ ¬ (F.length = 2 ∧ F[0]? = some 48)
  · obtain ⟨c1, c2, c3, _⟩ := c
    unfold goodF
    have a1 : F.all (fun c => decide (c < 128)) = true := List.all_eq_true.mpr fun x hx => decide_eq_true (dig_small (List.all_eq_true.mp c2 x hx))
    have a2 : F.all Unicode.isDigit = true := List.all_eq_true.mpr fun x hx => by
      have := List.all_eq_true.mp c2 x hx
      rw [uni_dig x (dig_small this)]; exact this
    rw [a1, a2, decide_eq_true c3, decide_eq_true (List.length_pos_iff.mpr c1)]; rfl
  · rw [if_neg c] at h; cases h
theorem num_bad {l : List Nat} (h : goodF (figs l) = false) : numT l = none := by
  unfold figs at h
  unfold numT
  by_cases m : l[0]? = some 45
  · rw [if_pos m] at h ⊢
    cases e : figL (l.drop 1) with
    | none => split <;> rfl
    | some n => rw [figL_good e] at h; cases h
  · rw [if_neg m] at h ⊢
    cases e : figL l with
    | none => rfl
    | some n => rw [figL_good e] at h; cases h
theorem tab1 : ∀ a : Fin 10, numT [48 + a.val] = if Str.ofString (toString ((a.val : Nat) : Int)) = ⟨#[48 + a.val]⟩ then some ((a.val : Nat) : Int) else none := by decide +kernel
theorem tab1n : ∀ a : Fin 10, numT [45, 48 + a.val] = if Str.ofString (toString (-((a.val : Nat) : Int))) = ⟨#[45, 48 + a.val]⟩ then some (-((a.val : Nat) : Int)) else none := by decide +kernel
theorem tab2 : ∀ a b : Fin 10, numT [48 + a.val, 48 + b.val] = if Str.ofString (toString ((a.val * 10 + b.val : Nat) : Int)) = ⟨#[48 + a.val, 48 + b.val]⟩ then some ((a.val * 10 + b.val : Nat) : Int) else none := by decide +kernel
theorem tab2n : ∀ a b : Fin 10, numT [45, 48 + a.val, 48 + b.val] = if Str.ofString (toString (-((a.val * 10 + b.val : Nat) : Int))) = ⟨#[45, 48 + a.val, 48 + b.val]⟩ then some (-((a.val * 10 + b.val : Nat) : Int)) else none := by decide +kernel
theorem dig_fin {c : Nat} (d : dig c = true) : ∃ a : Fin 10, c = 48 + a.val := by
  unfold dig at d
  simp only [Bool.and_eq_true, decide_eq_true_eq] at d
  exact ⟨⟨c - 48, by omega⟩, by show c = 48 + (c - 48); omega⟩
theorem dig_all {l : List Nat} (h : ∀ c ∈ l, dig c = true) : PySem.NumText.AllDigits l := fun y hy => by
  have d := h y hy
  unfold dig at d
  simp only [Bool.and_eq_true, decide_eq_true_eq] at d
  exact d
theorem dv1 (a : Fin 10) : PySem.NumText.digitsVal [48 + a.val] = a.val := by show 0 * 10 + (48 + a.val - 48) = _; omega
theorem dv2 (a b : Fin 10) : PySem.NumText.digitsVal [48 + a.val, 48 + b.val] = a.val * 10 + b.val := by show (0 * 10 + (48 + a.val - 48)) * 10 + (48 + b.val - 48) = _; omega
theorem num_good {x : Str} (h : goodF (figs x.cps.toList) = true) : ∃ n : Int, intText? x = some n ∧ n.natAbs < 100 ∧ x.length ≤ 3 ∧ (numT x.cps.toList) = if Str.ofString (toString n) = x then some n else none := by
  have hh := goodF_is h
  unfold figs at hh
  by_cases m : x.cps.toList[0]? = some 45
  · rw [if_pos m] at hh
    have el : ∀ r, x.cps.toList.drop 1 = r → x.cps.toList = 45 :: r := fun r hr => by
      cases q : x.cps.toList with
      | nil => rw [q] at m; cases m
      | cons a t => rw [q] at m hr; have : a = 45 := by simpa using m
                    rw [this]; rw [show t = r from hr]
    rcases hh with ⟨c, e, d⟩ | ⟨c, d, e, d1, d2⟩
    · obtain ⟨a, rfl⟩ := dig_fin d
      have e := el _ e
      have ex : x = ⟨#[45, 48 + a.val]⟩ := str_ext (by rw [e])
      refine ⟨_, PySem.intText_neg e (dig_all (by simpa using d)) (by simp) (by rw [len_signs, e]; simp), ?_⟩
      rw [len_signs, e, dv1, ex]
      exact ⟨by have := a.2; omega, by simp, tab1n a⟩
    · obtain ⟨a, rfl⟩ := dig_fin d1
      obtain ⟨b, rfl⟩ := dig_fin d2
      have e := el _ e
      have ex : x = ⟨#[45, 48 + a.val, 48 + b.val]⟩ := str_ext (by rw [e])
      refine ⟨_, PySem.intText_neg e (dig_all (by simpa using ⟨d1, d2⟩)) (by simp) (by rw [len_signs, e]; simp), ?_⟩
      rw [len_signs, e, dv2, ex]
      exact ⟨by have := a.2; have := b.2; omega, by simp, tab2n a b⟩
  · rw [if_neg m] at hh
    rcases hh with ⟨c, e, d⟩ | ⟨c, d, e, d1, d2⟩
    · obtain ⟨a, rfl⟩ := dig_fin d
      have ex : x = ⟨#[48 + a.val]⟩ := str_ext (by rw [e])
      refine ⟨_, PySem.intText_digits (by rw [e]; exact dig_all (by simpa using d)) (by rw [e]; simp) (by rw [len_signs, e]; simp), ?_⟩
      rw [len_signs, e, dv1, ex]
      exact ⟨by have := a.2; omega, by simp, tab1 a⟩
    · obtain ⟨a, rfl⟩ := dig_fin d1
      obtain ⟨b, rfl⟩ := dig_fin d2
      have ex : x = ⟨#[48 + a.val, 48 + b.val]⟩ := str_ext (by rw [e])
      refine ⟨_, PySem.intText_digits (by rw [e]; exact dig_all (by simpa using ⟨d1, d2⟩)) (by rw [e]; simp) (by rw [len_signs, e]; simp), ?_⟩
      rw [len_signs, e, dv2, ex]
      exact ⟨by have := a.2; have := b.2; omega, by simp, tab2 a b⟩
theorem iteTd {p : Prop} [Decidable p] {A B : Prop} (h : p) (a : A) : if decide p = true then A else B := by rw [decide_eq_true h]; exact a
theorem iteFd {p : Prop} [Decidable p] {A B : Prop} (h : ¬ p) (b : B) : if decide p = true then A else B := by rw [decide_eq_false h]; exact b
def spNum : Sp := fun vs H Q _ => ∃ (x : Str), vs = [.str x, .int 2] ∧ x.length ≤ 3000 ∧ Q ((numT x.cps.toList).elim .non V.int) H
abbrev s_read_number : Stmt := top 24
theorem sc_read_number : FnScope ["text", "most", "figures", "number"] ["text", "most"] (defScope s_read_number) := ⟨rfl, rfl, rfl, by decide +kernel, rfl, by decide +kernel, by decide +kernel⟩
theorem ok_num {f : Addr} {fd : FuncData} (F : Fun K "read_number" "read_number" s_read_number f fd) (b_len : mg "len" = none) (b_int : mg "int" = none) (b_str : mg "str" = none) : FnOk P w K mg base CX0 1 f fd ["text", "most"] spNum := by
  refine F.ok sc_read_number (fun vs H Q E h => ?_) (fun cdv A outer s H vs Q E hr h => ?_)
  · obtain ⟨x, rfl, _⟩ := h
    rfl
  · obtain ⟨x, rfl, hx, q⟩ := h
    refine ⟨_, (pss_cons (ps_set (i := 2) sc_read_number.nd rfl (Or.inl rfl) (pe_ifExp (pt_val (pe_bmK (K := K) rfl (pe_bm PySem.F.plainAttrs_str PySem.F.slot_str_startswith PySem.F.type_str_startswith mt_startswith (pv 0) (pa_cons pe_str pa_nil)))) (pe_slice sl_str (pv 0) (po_some pe_int) po_none) (pv 0)))
      (pss_cons (ps_if (PW.pt (pw_or (pt_cmpR op_gt (pe_callB call_len_str (by rfl) b_len PySem.boot_len (pa_cons (pv 2) pa_nil)) (pv 1) (nomark _)) (pw_or (pt_not (pt_val (pe_bm0K (K := K) rfl (pe_bm0 PySem.F.plainAttrs_str PySem.F.slot_str_isascii PySem.F.type_str_isascii mt_isascii (pv 2))))) (pw_or1 (pt_not (pt_val (pe_bm0K (K := K) rfl (pe_bm0 PySem.F.plainAttrs_str PySem.F.slot_str_isdigit PySem.F.type_str_isdigit mt_isdigit (pv 2))))))))) (pss_one (ps_ret pe_non)) pss_nil)
      (pss_cons (ps_set (i := 3) sc_read_number.nd rfl (Or.inl rfl) (pe_callTy call_intS (by rfl) b_int boot_int (pa_cons (pv 0) pa_nil)))
      (pss_one (ps_ret (pe_ifExp (pt_cmpR op_eq (pe_callTy call_str_int (by rfl) b_str boot_str (pa_cons (pv 3) pa_nil)) (pv 0) (nomark _)) (pv 3) pe_non)))))), ?_⟩
    have lx : x.length ≤ sizeLine := by rw [sizeLine_eq]; omega
    refine ⟨_, rfl, rfl, x, "-", rfl, rfl, _, rfl, ?_⟩
    rw [starts_minus]
    by_cases m : x.cps.toList[0]? = some 45
    · rw [decide_eq_true m]
      refine iteT ?_
      have FE : (cutS x (some 1) none).cps.toList = figs x.cps.toList := by rw [cut_tail]; unfold figs; rw [if_pos m]
      refine ⟨_, rfl, _, rfl, x, rfl, lx, ?_⟩
      generalize cutS x (some 1) none = FG at *
      have hg : goodF (figs x.cps.toList) = (decide (FG.length ≤ 2) && (Txt.isascii FG && Txt.isdigit FG)) := by
        rw [ascii_is, digit_is, len_signs, FE]
        unfold goodF
        rfl
      have lf : FG.length ≤ sizeLine := Nat.le_trans (by rw [len_signs, FE, len_signs]; unfold figs; split <;> simp <;> omega) lx
      refine ⟨_, rfl, FG, rfl, lf, _, rfl, _, _, rfl, rfl, _, rfl, ?_⟩
      by_cases c1 : FG.length ≤ 2
      · rw [decide_eq_false (show ¬ ((2 : Int) < (FG.length : Int)) by omega)]
        refine iteF ?_
        refine ⟨_, rfl, rfl, FG, rfl, rfl, _, rfl, ?_⟩
        cases c2 : Txt.isascii FG with
        | false =>
          refine iteT ?_
          rw [num_bad (by rw [hg, c2]; simp)] at q
          exact q
        | true =>
          refine iteF ?_
          refine ⟨_, rfl, rfl, FG, rfl, rfl, _, rfl, ?_⟩
          cases c3 : Txt.isdigit FG with
          | false =>
            refine iteT ?_
            rw [num_bad (by rw [hg, c2, c3]; simp)] at q
            exact q
          | true =>
            refine iteF ?_
            have gg : goodF (figs x.cps.toList) = true := by rw [hg, c2, c3, decide_eq_true c1]; rfl
            obtain ⟨n, hn, n10, l2, en⟩ := num_good gg
            rw [en] at q
            refine ⟨_, rfl, x, n, rfl, hn, by omega, ?_⟩
            refine ⟨_, rfl, n, rfl, ?_, _, rfl, rfl, _, rfl, ?_⟩
            · by_cases h0 : n.natAbs = 0
              · rw [h0]; decide
              · exact Nat.lt_of_lt_of_le ((Nat.log2_lt (k := 7) h0).mpr (by omega)) (by decide)
            · by_cases es : Str.ofString (toString n) = x
              · rw [if_pos es] at q
                exact iteTd (congrArg V.str es) ⟨_, rfl, q⟩
              · rw [if_neg es] at q
                exact iteFd (fun z => es (V.str.inj z)) q
      · rw [decide_eq_true (show (2 : Int) < (FG.length : Int) by omega)]
        refine iteT ?_
        rw [num_bad (by rw [hg, decide_eq_false c1]; rfl)] at q
        exact q
    · rw [decide_eq_false m]
      refine iteF ?_
      have FE : x.cps.toList = figs x.cps.toList := by unfold figs; rw [if_neg m]
      refine ⟨_, rfl, ?_⟩
      have hg : goodF (figs x.cps.toList) = (decide (x.length ≤ 2) && (Txt.isascii x && Txt.isdigit x)) := by
        rw [ascii_is, digit_is, len_signs, ← FE]
        unfold goodF
        rfl
      have lf : x.length ≤ sizeLine := lx
      refine ⟨_, rfl, x, rfl, lf, _, rfl, _, _, rfl, rfl, _, rfl, ?_⟩
      by_cases c1 : x.length ≤ 2
      · rw [decide_eq_false (show ¬ ((2 : Int) < (x.length : Int)) by omega)]
        refine iteF ?_
        refine ⟨_, rfl, rfl, x, rfl, rfl, _, rfl, ?_⟩
        cases c2 : Txt.isascii x with
        | false =>
          refine iteT ?_
          rw [num_bad (by rw [hg, c2]; simp)] at q
          exact q
        | true =>
          refine iteF ?_
          refine ⟨_, rfl, rfl, x, rfl, rfl, _, rfl, ?_⟩
          cases c3 : Txt.isdigit x with
          | false =>
            refine iteT ?_
            rw [num_bad (by rw [hg, c2, c3]; simp)] at q
            exact q
          | true =>
            refine iteF ?_
            have gg : goodF (figs x.cps.toList) = true := by rw [hg, c2, c3, decide_eq_true c1]; rfl
            obtain ⟨n, hn, n10, l2, en⟩ := num_good gg
            rw [en] at q
            refine ⟨_, rfl, x, n, rfl, hn, by omega, ?_⟩
            refine ⟨_, rfl, n, rfl, ?_, _, rfl, rfl, _, rfl, ?_⟩
            · by_cases h0 : n.natAbs = 0
              · rw [h0]; decide
              · exact Nat.lt_of_lt_of_le ((Nat.log2_lt (k := 7) h0).mpr (by omega)) (by decide)
            · by_cases es : Str.ofString (toString n) = x
              · rw [if_pos es] at q
                exact iteTd (congrArg V.str es) ⟨_, rfl, q⟩
              · rw [if_neg es] at q
                exact iteFd (fun z => es (V.str.inj z)) q
      · rw [decide_eq_true (show (2 : Int) < (x.length : Int) by omega)]
        refine iteT ?_
        rw [num_bad (by rw [hg, decide_eq_false c1]; rfl)] at q
        exact q
end
end Qk66

namespace Qk66
open PySem L2 PyProof.Rows
section
variable {P : Program} {w : World} {K : PySem.W.Frag} {mg : Str → Option Value} {base : Heap}
/-! ### words and sums known: any words -/
def spWholeI : Sp := fun vs H Q _ => ∃ i : Int, vs = [.int i] ∧ Q (.bl true) H
abbrev s_is_whole : Stmt := top 1
theorem sc_is_whole : FnScope ["thing"] ["thing"] (defScope s_is_whole) := ⟨rfl, rfl, rfl, by decide +kernel, rfl, by decide +kernel, by decide +kernel⟩
theorem ok_isWhole {f : Addr} {fd : FuncData} (F : Fun K "is_whole" "is_whole" s_is_whole f fd) (b_isinstance : mg "isinstance" = none) (b_int : mg "int" = none) (b_bool : mg "bool" = none) : FnOk P w K mg base CX0 1 f fd ["thing"] spWholeI := by
  refine F.ok sc_is_whole (fun vs H Q E h => ?_) (fun cdv A outer s H vs Q E hr h => ?_)
  · obtain ⟨i, rfl, _⟩ := h
    rfl
  · obtain ⟨i, rfl, k⟩ := h
    refine ⟨_, (pss_one (ps_ret (pe_and (pe_callB (call_isinstK (K := K) rfl) (by rfl) b_isinstance boot_isinstance (pa_cons (pv 0) (pa_cons (pe_bltn (v := .ty "int") (by rfl) b_int boot_int rfl) pa_nil))) (pe_one (pe_not (pe_callB (call_isinstK (K := K) rfl) (by rfl) b_isinstance boot_isinstance (pa_cons (pv 0) (pa_cons (pe_bltn (v := .ty "bool") (by rfl) b_bool boot_bool rfl) pa_nil)))))))), ?_⟩
    refine ⟨_, rfl, _, "int", _, true, rfl, .int i, by rfl, true, rfl, iteT ?_⟩
    exact ⟨_, rfl, _, "bool", _, false, rfl, .int i, by rfl, false, rfl, k⟩
def okW (w : List Int) : Bool := w.all fun k => decide (0 ≤ k)
def spWordI : Sp := fun vs H Q _ => ∃ (x : V) (w : List Int), vs = [x] ∧ Word H x w ∧ w.length ≤ 10000 ∧ ∀ H', Same H H' → Q (.bl (okW w)) H'
abbrev s_is_word : Stmt := top 15
theorem sc_is_word : FnScope ["thing"] ["thing"] (defScope s_is_word) := ⟨rfl, rfl, rfl, by decide +kernel, rfl, by decide +kernel, by decide +kernel⟩
theorem ok_isWord {f : Addr} {fd : FuncData} (F : Fun K "is_word" "is_word" s_is_word f fd) (h_is_whole : Has P w K mg base 1 "is_whole" ["thing"] spWholeI) (b_isinstance : mg "isinstance" = none) (b_tuple : mg "tuple" = none) (b_all : mg "all" = none) : FnOk P w K mg base CX0 2 f fd ["thing"] spWordI := by
  refine F.ok sc_is_word (fun vs H Q E h => ?_) (fun cdv A outer s H vs Q E hr h => ?_)
  · obtain ⟨x, w, rfl, _⟩ := h
    rfl
  · obtain ⟨x, w, rfl, ⟨p, rfl, hp⟩, hz, k⟩ := h
    refine ⟨_, (pss_one (ps_ret (pe_and (pe_callB (call_isinstK (K := K) rfl) (by rfl) b_isinstance boot_isinstance (pa_cons (pv 0) (pa_cons (pe_bltn (v := .ty "tuple") (by rfl) b_tuple boot_tuple rfl) pa_nil))) (pe_one (pe_callB (call_allK (K := K) rfl rfl) (by rfl) b_all boot_all (pa_cons (pe_lc (Ls := ["name"]) (Fs := []) (fi := []) (LcScope.of (show lcLook ["thing"] (defScope s_is_word) _ [] [] = true by decide +kernel)) rfl (pi_tupK (K := K) rfl (pv 0)) (fun cl C s3 H3 ex => ⟨(pg_name (i := 0) (show ((["name"] : List Str) ++ ([] : List Str)).Nodup by decide +kernel) rfl (Or.inl rfl)), pts_nil, (pe_and (pe_has h_is_whole (hr.mono (by decide)) (pa_cons (pv 0) pa_nil)) (pe_one (pe_cmpR op_ge (pv 0) pe_int (nomark _))))⟩)) pa_nil)))))), ?_⟩
    refine ⟨_, rfl, _, "tuple", _, true, rfl, .tup hp, by rfl, true, rfl, iteT ?_⟩
    refine ⟨_, rfl, p, rfl, ⟨_, .inl (.inl hp)⟩, lc_tup (K := K) (xs := w.map V.int) (by rw [List.length_map, sizeLine_eq]; omega) (fun i zs G => Same H G ∧ zs = ((w.take i).map fun (k : Int) => decide (0 ≤ k)).map V.bl) ⟨Same.refl _, rfl⟩
      (fun i zs G ⟨_, z⟩ => by rw [z, List.length_map, List.length_map, List.length_take]; omega) (fun i zs G ⟨s', _⟩ => .inl (.inl (s' p _ hp))) ?_ ?_⟩
    · rintro i x zs G hx ⟨s', rfl⟩
      obtain ⟨t, ht, rfl⟩ := map_int_at hx
      dsimp only [gName, tTrue]
      refine iteT ⟨_, rfl, t, rfl, true, rfl, iteT ⟨_, rfl, _, _, rfl, rfl, s', ?_⟩⟩
      rw [List.take_add_one, ht, List.map_append, List.map_append]
      rfl
    · rintro zs G ⟨s', rfl⟩ D hD
      refine ⟨D, _, rfl, SqL.of upd_same, ?_⟩
      rw [List.length_map, List.take_of_length_le (Nat.le_refl _), List.all_map]
      exact k _ (s'.step hD)
theorem cut_tl (xs : List V) : cutV xs (some 1) none = xs.drop 1 := by
  unfold cutV
  rw [HT.sIx_none, show (1 : Int) = ((1 : Nat) : Int) from rfl, HT.sIx_nat]
  cases xs with
  | nil => rfl
  | cons x xs => simp
def spSumI : Sp := fun vs H Q _ => ∃ (a : Addr) (xs : List V) (L : List (List Int)), vs = [.ref a] ∧ H a = some (.lst xs) ∧ Words H xs L ∧ L.length ≤ 10000 ∧ (∀ w ∈ L, w.length ≤ 10000) ∧ ∀ H', Same H H' → Q (.bl (sumB L)) H'
abbrev s_is_sum : Stmt := top 16
theorem sc_is_sum : FnScope ["thing"] ["thing"] (defScope s_is_sum) := ⟨rfl, rfl, rfl, by decide +kernel, rfl, by decide +kernel, by decide +kernel⟩
theorem ok_isSum {f : Addr} {fd : FuncData} (F : Fun K "is_sum" "is_sum" s_is_sum f fd) (h_is_word : Has P w K mg base 2 "is_word" ["thing"] spWordI) (b_isinstance : mg "isinstance" = none) (b_list : mg "list" = none) (b_all : mg "all" = none) (b_zip : mg "zip" = none) : FnOk P w K mg base CX0 3 f fd ["thing"] spSumI := by
  refine F.ok sc_is_sum (fun vs H Q E h => ?_) (fun cdv A outer s H vs Q E hr h => ?_)
  · obtain ⟨a, xs, L, rfl, _⟩ := h
    rfl
  · obtain ⟨a, xs, L, rfl, ea, wa, nL, nw, k⟩ := h
    refine ⟨_, (pss_cons (ps_if (PW.pt (pw_or (pt_not (pt_val (pe_callB (call_isinstK (K := K) rfl) (by rfl) b_isinstance boot_isinstance (pa_cons (pv 0) (pa_cons (pe_bltn (v := .ty "list") (by rfl) b_list boot_list rfl) pa_nil))))) (pw_or1 (pt_not (pt_val (pe_callB (call_allK (K := K) rfl rfl) (by rfl) b_all boot_all (pa_cons (pe_lc (Ls := ["part"]) (Fs := []) (fi := []) (LcScope.of (show lcLook ["thing"] (defScope s_is_sum) _ [] [] = true by decide +kernel)) rfl (pi_listK (K := K) rfl (pv 0)) (fun cl C s3 H3 ex => ⟨(pg_name (i := 0) (show ((["part"] : List Str) ++ ([] : List Str)).Nodup by decide +kernel) rfl (Or.inl rfl)), pts_nil, (pe_has h_is_word (hr.mono (by decide)) (pa_cons (pv 0) pa_nil))⟩)) pa_nil))))))) (pss_one (ps_ret pe_bl)) pss_nil)
      (pss_one (ps_ret (pe_callB (call_allK (K := K) rfl rfl) (by rfl) b_all boot_all (pa_cons (pe_lc (Ls := ["word", "onward"]) (Fs := []) (fi := []) (LcScope.of (show lcLook ["thing"] (defScope s_is_sum) _ [] [] = true by decide +kernel)) rfl (pi_zipK (K := K) rfl (by rfl) b_zip (pa_cons (pv 0) (pa_cons (pe_slice (sl_listK (K := K) rfl) (pv 0) (po_some pe_int) po_none) pa_nil))) (fun cl C s3 H3 ex => ⟨(pg_tupK (K := K) (n := 2) rfl rfl (pgs_cons (pg_name (i := 0) (show ((["word", "onward"] : List Str) ++ ([] : List Str)).Nodup by decide +kernel) rfl (Or.inl rfl)) (pgs_cons (pg_name (i := 1) (show ((["word", "onward"] : List Str) ++ ([] : List Str)).Nodup by decide +kernel) rfl (Or.inl rfl)) pgs_nil))), pts_nil, (pe_cmpR (op_ltW hr.units) (pv 0) (pv 1) (nomark _))⟩)) pa_nil))))), ?_⟩
    have lx := Words.len wa
    refine ⟨_, rfl, _, "list", _, true, rfl, .lst ea, by rfl, true, rfl, iteF ?_⟩
    refine ⟨_, rfl, a, rfl, ⟨_, SqL.of ea⟩, lc_list (K := K) (xs := xs) (by rw [sizeLine_eq]; omega) (fun i zs G => Same H G ∧ zs = ((L.take i).map okW).map V.bl) ⟨Same.refl _, rfl⟩
      (fun i zs G ⟨_, z⟩ => by rw [z, List.length_map, List.length_map, List.length_take]; omega) (fun i zs G ⟨s', _⟩ => SqL.of (s' a _ ea)) ?_ ?_⟩
    · rintro i x zs G hx ⟨s', rfl⟩
      obtain ⟨v, hv, wx⟩ := Words.get wa hx
      dsimp only [gName, tTrue]
      refine iteT ⟨_, rfl, x, v, rfl, wx.same s', nw v (List.mem_of_getElem? hv), fun G' s2 => ⟨s'.trans s2, ?_⟩⟩
      rw [List.take_add_one, hv, List.map_append, List.map_append]
      rfl
    · rintro zs G ⟨s', rfl⟩ D hD
      rw [lx, List.take_of_length_le (Nat.le_refl _)]
      refine ⟨D, _, rfl, SqL.of upd_same, _, rfl, ?_⟩
      obtain ⟨G1, hG1⟩ : ∃ G1, G1 = upd G D (.lst ((L.map okW).map V.bl)) := ⟨_, rfl⟩
      rw [← hG1]
      have s1 : Same H G1 := by rw [hG1]; exact s'.step hD
      have es : sumB L = ((L.map okW).all id && (L.zip (L.drop 1)).all fun p => lexLt p.1 p.2) := by unfold sumB okW; rw [List.all_map]; rfl
      rw [es] at k
      cases c1 : (L.map okW).all id with
      | false =>
        rw [c1] at k
        exact iteT (k G1 s1)
      | true =>
      rw [c1, Bool.true_and] at k
      refine iteF ?_
      refine ⟨_, rfl, _, rfl, _, rfl, a, xs, rfl, SqL.of (s1 a _ ea), fun q hq => ?_⟩
      rw [cut_tl]
      obtain ⟨G2, hG2⟩ : ∃ G2, G2 = upd G1 q (.lst (xs.drop 1)) := ⟨_, rfl⟩
      rw [← hG2]
      have s2 : Same H G2 := by rw [hG2]; exact s1.step hq
      have eq : G2 q = some (.lst (xs.drop 1)) := by rw [hG2]; exact upd_same
      have zl : (L.zip (L.drop 1)).length = (xs.drop 1).length := by rw [List.length_zip, List.length_drop, List.length_drop, lx]; omega
      refine ⟨a, q, rfl, ⟨_, SqL.of (s2 a _ ea)⟩, ⟨_, SqL.of eq⟩, lc_zipS (K := K) (xs := xs) (ys := xs.drop 1) (by rw [List.length_drop, sizeLine_eq]; omega) (by rw [List.length_drop]; omega) (fun i zs G => Same G2 G ∧ zs = (((L.zip (L.drop 1)).take i).map fun (p : List Int × List Int) => lexLt p.1 p.2).map V.bl) ⟨Same.refl _, rfl⟩
        (fun i zs G ⟨_, z⟩ => by rw [z, List.length_map, List.length_map, List.length_take]; omega) (fun i zs G ⟨s3, _⟩ => ⟨SqL.of (s3 a _ (s2 a _ ea)), SqL.of (s3 q _ eq)⟩) ?_ ?_⟩
      · rintro i x y p zs G3 hx hy ⟨s3, rfl⟩ hp
        rw [List.getElem?_drop] at hy
        obtain ⟨u, hu, wx⟩ := Words.get wa hx
        obtain ⟨v, hv, wy⟩ := Words.get wa hy
        have hz : (L.zip (L.drop 1))[i]? = some (u, v) := by
          rw [List.getElem?_zip_eq_some]
          exact ⟨hu, by rw [List.getElem?_drop]; exact hv⟩
        have s4 : Same H (upd G3 p (.tup [x, y])) := (s2.trans s3).step hp
        refine ⟨p, _, rfl, SqT.of upd_same, rfl, _, _, rfl, _, _, rfl, rfl, ?_⟩
        refine lcT ⟨_, rfl, _, rfl, u, v, wx.same s4, wy.same s4, s3.step hp, ?_⟩
        rw [List.take_add_one, hz, List.map_append, List.map_append]
        rfl
      · rintro zs G3 ⟨s3, rfl⟩ D2 hD2
        refine ⟨D2, _, rfl, SqL.of upd_same, ?_⟩
        rw [← zl, List.take_of_length_le (Nat.le_refl _), List.all_map]
        exact k _ ((s2.trans s3).step hD2)
end
end Qk66

namespace Qk66
open PySem L2 PyProof.Rows
section
variable {P : Program} {w : World} {K : PySem.W.Frag} {mg : Str → Option Value} {base : Heap}
theorem x_sign : ("x" : Str).cps.toList = [120] := by decide +kernel
theorem cut_x (x : Str) : cutS x none (some 1) = "x" ↔ x.cps.toList.take 1 = [120] := by
  constructor
  · intro h; rw [← cut_head, h, x_sign]
  · intro h; exact str_ext (by rw [cut_head, h, x_sign])
def spName (C : Addr) : Sp := fun vs H Q E => ∃ (x : Str), vs = [.str x] ∧ x.length ≤ 3000 ∧ (∀ n, nameBy numT x = some n → Q (.int n) H) ∧ (nameBy numT x = none → ∀ H', Same H H' → E (.ref C) none H')
abbrev s_read_name : Stmt := top 25
theorem sc_read_name : FnScope ["text", "number"] ["text"] (defScope s_read_name) := ⟨rfl, rfl, rfl, by decide +kernel, rfl, by decide +kernel, by decide +kernel⟩
theorem ok_name {f a_NoText : Addr} {fd : FuncData} {t1 : Tok} (F : Fun K "read_name" "read_name" s_read_name f fd) (g_NAME_FIGURES : mg "NAME_FIGURES" = some (.int 2 t1))
    (g_NoText : mg "NoText" = some (.ref a_NoText)) (x_NoText : PySem.W.excIn K a_NoText bmV "ValueError.__new__" = true) (h_read_number : Has P w K mg base 1 "read_number" ["text", "most"] spNum) : FnOk P w K mg base (CX1 P w) 2 f fd ["text"] (spName a_NoText) := by
  refine F.okX sc_read_name (fun vs H Q E h => ?_) (fun cdv A outer s H vs Q E hr h => ?_)
  · obtain ⟨x, rfl, _⟩ := h
    rfl
  · obtain ⟨x, rfl, hx, q1, q2⟩ := h
    refine ⟨_, (pss_cons (ps_set (i := 1) sc_read_name.nd rfl (Or.inl rfl) (pe_has h_read_number (hr.mono (by decide)) (pa_cons (pe_slice sl_str (pv 0) (po_some pe_int) po_none) (pa_cons (pe_glob (v := .int 2) (by rfl) g_NAME_FIGURES ⟨_, rfl⟩) pa_nil))))
      (pss_cons (ps_if (PW.pt (pw_or (pt_cmpR op_ne (pe_slice sl_str (pv 0) po_none (po_some pe_int)) pe_str (nomark _)) (pw_or1 (pt_cmpR op_isN (pv 1) pe_non (nomark _))))) (pss_one (ps_raise (by rfl) g_NoText x_NoText (pa_cons pe_str pa_nil))) pss_nil)
      (pss_one (ps_ret (pv 1))))), ?_⟩
    have lx : x.length ≤ sizeLine := by rw [sizeLine_eq]; omega
    have lt : (cutS x (some 1) none).length ≤ 3000 := by rw [len_signs, cut_tail, List.length_drop, ← len_signs]; omega
    refine ⟨_, rfl, 1, rfl, x, rfl, lx, cutS x (some 1) none, rfl, lt, ?_⟩
    rw [cut_tail]
    refine ⟨_, rfl, 1, rfl, x, rfl, lx, rfl, _, rfl, ?_⟩
    unfold nameBy at q1 q2
    by_cases c : x.cps.toList.take 1 = [120]
    · rw [if_pos c] at q1 q2
      rw [decide_eq_true (congrArg V.str ((cut_x x).mpr c))]
      refine iteF ?_
      refine ⟨_, rfl, rfl, _, rfl, ?_⟩
      cases e2 : numT (x.cps.toList.drop 1) with
      | none => exact iteT ⟨by show 1 ≤ sizeLine; decide, q2 e2 H (Same.refl _)⟩
      | some n => exact iteF ⟨_, rfl, q1 n e2⟩
    · rw [if_neg c] at q2
      rw [decide_eq_false (fun z => c ((cut_x x).mp (V.str.inj z)))]
      exact iteT (iteT ⟨by show 1 ≤ sizeLine; decide, q2 rfl H (Same.refl _)⟩)
def spWord (C : Addr) : Sp := fun vs H Q E => ∃ (x : Str), vs = [.str x] ∧ x.length ≤ 3000 ∧ (∀ w, wordBy numT x = some w → w.length ≤ 3001 → ∀ t H', H t = none → Same H H' → H' t = some (.tup (w.map V.int)) → Q (.ref t) H') ∧ (wordBy numT x = none → ∀ H', Same H H' → E (.ref C) none H')
abbrev s_read_word : Stmt := top 26
theorem sc_read_word : FnScope ["text"] ["text"] (defScope s_read_word) := ⟨rfl, rfl, rfl, by decide +kernel, rfl, by decide +kernel, by decide +kernel⟩
theorem ok_word {f a_NoText : Addr} {fd : FuncData} (F : Fun K "read_word" "read_word" s_read_word f fd) (h_read_name : HasX P w K mg base 2 "read_name" ["text"] (spName a_NoText)) (b_tuple : mg "tuple" = none) : FnOk P w K mg base (CX1 P w) 3 f fd ["text"] (spWord a_NoText) := by
  refine F.okX sc_read_word (fun vs H Q E h => ?_) (fun cdv A outer s H vs Q E hr h => ?_)
  · obtain ⟨x, rfl, _⟩ := h
    rfl
  · obtain ⟨x, rfl, hx, q1, q2⟩ := h
    refine ⟨_, (pss_one (ps_ret (pe_ifExp (pt_cmpR op_eq (pv 0) pe_str (nomark _)) (pe_tup pa_nil) (pe_callTy call_tupleL (by rfl) b_tuple boot_tuple (pa_cons (pe_lcX (Ls := ["part"]) (Fs := []) (fi := []) (LcScope.of (show lcLook ["text"] (defScope s_read_word) _ [] [] = true by decide +kernel)) (pi_listK (K := K) rfl (pe_bmK (K := K) rfl (pe_bm PySem.F.plainAttrs_str PySem.F.slot_str_split PySem.F.type_str_split mt_split (pv 0) (pa_cons pe_str pa_nil)))) (fun cl C s3 H3 ex ho => ⟨(pg_name (i := 0) (show ((["part"] : List Str) ++ ([] : List Str)).Nodup by decide +kernel) rfl (Or.inl rfl)), pts_nil, (pe_hasX h_read_name (hr.mono (by decide)) (passB ho) (pa_cons (pv 0) pa_nil))⟩)) pa_nil))))), ?_⟩
    have lx : x.length ≤ sizeLine := by rw [sizeLine_eq]; omega
    refine ⟨_, rfl, rfl, _, rfl, ?_⟩
    by_cases c : x = "1"
    · refine iteTd (congrArg V.str c) ⟨by show 0 ≤ sizeLine; decide, fun t ht => ?_⟩
      exact q1 [] (by unfold wordBy; rw [if_pos c]) (by simp) t _ ht (Same.laid ht) upd_same
    · refine iteFd (fun z => c (V.str.inj z)) ?_
      have hb : wordBy numT x = (Txt.split x ".").mapM (nameBy numT) := by unfold wordBy; rw [if_neg c]
      have wt := split_weight x "." (by decide +kernel)
      have sl : (Txt.split x ".").length ≤ 3001 := by omega
      refine ⟨_, rfl, rfl, x, ".", rfl, rfl, by decide +kernel, lx, by rw [sizeLine_eq]; omega, fun p hp => ?_⟩
      refine ⟨p, rfl, ⟨_, SqL.of upd_same⟩, ?_⟩
      have s0 : Same H (upd H p (.lst ((Txt.split x ".").map V.str))) := Same.laid hp
      have e0 : (upd H p (.lst ((Txt.split x ".").map V.str))) p = some (.lst ((Txt.split x ".").map V.str)) := upd_same
      generalize upd H p (.lst ((Txt.split x ".").map V.str)) = H0 at *
      refine lc_list (K := K) (a := p) (xs := (Txt.split x ".").map V.str) (by rw [List.length_map, sizeLine_eq]; omega) (fun i zs G => Same H0 G ∧ ∃ ls : List Int, Paired (fun x p => nameBy numT x = some p) ((Txt.split x ".").take i) ls ∧ zs = ls.map V.int) ⟨Same.refl _, [], .nil, rfl⟩
        (fun i zs G q => by
          obtain ⟨_, ls, hp, hL⟩ := q
          rw [hL, List.length_map, ← Paired.length hp, List.length_take]; omega) (fun i zs G q => SqL.of (q.1 p _ e0)) (fun i v zs G hv q => ?_) (fun zs G q D hD => ?_)
      · obtain ⟨sG, ls, hP, rfl⟩ := q
        rw [List.getElem?_map] at hv
        cases ep : (Txt.split x ".")[i]? with
        | none => rw [ep] at hv; cases hv
        | some y =>
          rw [ep] at hv
          cases hv
          have my : y ∈ Txt.split x "." := List.mem_of_getElem? ep
          have ly : y.length ≤ 3000 := Nat.le_trans (part_short my) (by omega)
          refine lcG ?_
          refine ⟨_, rfl, y, rfl, ly, fun n hn => ?_, fun hn G2 s2 => ⟨a_NoText, rfl, ?_⟩⟩
          · refine ⟨sG, ls ++ [n], ?_, by rw [List.map_append]; rfl⟩
            rw [List.take_add_one, ep]
            exact paired_snoc hP hn
          · exact q2 (by rw [hb, mapM_noneG my hn]) G2 (s0.trans (sG.trans s2))
      · obtain ⟨sG, ls, hP, rfl⟩ := q
        rw [List.length_map, List.take_of_length_le (Nat.le_refl _)] at hP
        have ll := Paired.length hP
        have s3 : Same H (upd G D (.lst (ls.map V.int))) := (s0.trans sG).step hD
        have eD : (upd G D (.lst (ls.map V.int))) D = some (.lst (ls.map V.int)) := upd_same
        generalize upd G D (.lst (ls.map V.int)) = G3 at *
        refine ⟨D, _, rfl, eD, fun t ht => ?_⟩
        exact q1 ls (by rw [hb, mapMG.mpr hP]) (by omega) t _ (s3.free ht) (s3.step ht) upd_same
end
end Qk66

namespace Qk66
open PySem L2 PyProof.Rows
section
variable {P : Program} {w : World} {K : PySem.W.Frag} {mg : Str → Option Value} {base : Heap}
def spSum (C : Addr) : Sp := fun vs H Q E => ∃ v : V, vs = [v] ∧ ((∃ x : Str, v = .str x ∧ x.length ≤ 2900 ∧ (∀ L, sumBy numT x = some L → ∀ l xs H', H l = none → Same H H' → H' l = some (.lst xs) → Words H' xs L → Q (.ref l) H') ∧ (sumBy numT x = none → ∀ H', Same H H' → E (.ref C) none H')) ∨
  (Sim H v ∧ isStr v = false ∧ ∀ H', Same H H' → E (.ref C) none H'))
abbrev s_read_sum : Stmt := top 27
theorem sc_read_sum : FnScope ["text", "words"] ["text"] (defScope s_read_sum) := ⟨rfl, rfl, rfl, by decide +kernel, rfl, by decide +kernel, by decide +kernel⟩
theorem ok_sum {f a_NoText : Addr} {fd : FuncData} {t1 t2 : Tok} (F : Fun K "read_sum" "read_sum" s_read_sum f fd) (g_NoText : mg "NoText" = some (.ref a_NoText)) (x_NoText : PySem.W.excIn K a_NoText bmV "ValueError.__new__" = true) (g_MOST_WORDS : mg "MOST_WORDS" = some (.int 40 t1)) (g_MOST_NAMES : mg "MOST_NAMES" = some (.int 8 t2))
    (h_read_word : HasX P w K mg base 3 "read_word" ["text"] (spWord a_NoText)) (h_is_sum : Has P w K mg base 3 "is_sum" ["thing"] spSumI) (b_isinstance : mg "isinstance" = none) (b_str : mg "str" = none) (b_len : mg "len" = none) (b_max : mg "max" = none) : FnOk P w K mg base (CX1 P w) 4 f fd ["text"] (spSum a_NoText) := by
  refine F.okX sc_read_sum (fun vs H Q E h => ?_) (fun cdv A outer s H vs Q E hr h => ?_)
  · obtain ⟨x, rfl, _⟩ := h
    rfl
  · obtain ⟨v, rfl, h⟩ := h
    refine ⟨_, (pss_cons (ps_if (pt_not (pt_val (pe_callB (call_isinstK (K := K) rfl) (by rfl) b_isinstance boot_isinstance (pa_cons (pv 0) (pa_cons (pe_bltn (v := .ty "str") (by rfl) b_str boot_str rfl) pa_nil))))) (pss_one (ps_raise (by rfl) g_NoText x_NoText (pa_cons pe_str pa_nil))) pss_nil)
      (pss_cons (ps_set (i := 1) sc_read_sum.nd rfl (Or.inl rfl) (pe_ifExp (pt_cmpR op_eq (pv 0) pe_str (nomark _)) (pe_lst pa_nil) (pe_lcX (Ls := ["part"]) (Fs := []) (fi := []) (LcScope.of (show lcLook ["text", "words"] (defScope s_read_sum) _ [] [] = true by decide +kernel)) (pi_listK (K := K) rfl (pe_bmK (K := K) rfl (pe_bm PySem.F.plainAttrs_str PySem.F.slot_str_split PySem.F.type_str_split mt_split (pv 0) (pa_cons pe_str pa_nil)))) (fun cl C s3 H3 ex ho => ⟨(pg_name (i := 0) (show ((["part"] : List Str) ++ ([] : List Str)).Nodup by decide +kernel) rfl (Or.inl rfl)), pts_nil, (pe_hasX h_read_word (hr.mono (by decide)) (passB ho) (pa_cons (pv 0) pa_nil))⟩))))
      (pss_cons (ps_if (PW.pt (pw_or (pt_not (pt_val (pe_has h_is_sum (hr.mono (by decide)) (pa_cons (pv 1) pa_nil)))) (pw_or (pt_cmpR op_gt (pe_callB (call_lenK (K := K) rfl) (by rfl) b_len PySem.boot_len (pa_cons (pv 1) pa_nil)) (pe_glob (v := .int 40) (by rfl) g_MOST_WORDS ⟨_, rfl⟩) (nomark _)) (pw_or1 (pt_cmpR op_gt (pe_maxD (K := K) rfl rfl (by rfl) b_max (pe_lcX (Ls := ["word"]) (Fs := []) (fi := []) (LcScope.of (show lcLook ["text", "words"] (defScope s_read_sum) _ [] [] = true by decide +kernel)) (pi_listK (K := K) rfl (pv 1)) (fun cl C s3 H3 ex ho => ⟨(pg_name (i := 0) (show ((["word"] : List Str) ++ ([] : List Str)).Nodup by decide +kernel) rfl (Or.inl rfl)), pts_nil, (pe_callB (call_lenK (K := K) rfl) (by rfl) b_len PySem.boot_len (pa_cons (pv 0) pa_nil))⟩))) (pe_glob (v := .int 8) (by rfl) g_MOST_NAMES ⟨_, rfl⟩) (nomark _)))))) (pss_one (ps_raise (by rfl) g_NoText x_NoText (pa_cons pe_str pa_nil))) pss_nil)
      (pss_one (ps_ret (pv 1)))))), ?_⟩
    rcases h with ⟨x, rfl, hx, q1, q2⟩ | ⟨sv, ns, q⟩
    · have lx : x.length ≤ sizeLine := by rw [sizeLine_eq]; omega
      refine ⟨_, rfl, _, "str", _, true, rfl, .str x, by rfl, _, rfl, iteF ?_⟩
      refine ⟨_, rfl, rfl, _, rfl, ?_⟩
      -- behind the words: whether they are a sum
      have last : ∀ (l : Addr) (xs : List V) (L : List (List Int)) (G : Hp), H l = none → Same H G → G l = some (.lst xs) → Words G xs L → L.length ≤ 5000 → (∀ w ∈ L, w.length ≤ 5000) → (fitS L = true → sumBy numT x = some L) → (fitS L = false → sumBy numT x = none) →
          (tSeq (tIfS (tOr (tNot (tB (tCall spSumI [] E0 (tCons (tVar 1) tNil)))) (tOr (tTest (tOp (rI0 fun i j => V.bl (decide (j < i))) (tCB (fun xs H Q => ∃ p ys, xs = [V.ref p] ∧ (SqL K H p ys ∨ SqT K H p ys) ∧ Q (V.int ↑ys.length) H) (tCons (tVar 1) tNil)) (tC (V.int 40))))
            (tTest (tOp (rI0 fun i j => V.bl (decide (j < i))) (tMaxD K (tLc [Str.ofString "word"].length [] (iList K (tVar 1)) (gName 0) tTrue (tCB (fun xs H Q => ∃ p ys, xs = [V.ref p] ∧ (SqL K H p ys ∨ SqT K H p ys) ∧ Q (V.int ↑ys.length) H) (tCons (tVar 0) tNil)))) (tC (V.int 8))))))
            (tRaise a_NoText E (tCons (tC (V.str (Str.ofString "these words are no sum"))) tNil)) tNext) (tRet (tVar 1)))
            { nx := fun x H' => Q V.non H', rt := Q } [some (.str x), some (.ref l)] G := fun l xs L G hl sG eG hL h50 hw50 r1 r2 => by
        have ll := Words.len hL
        unfold fitS at r1 r2
        refine ⟨_, rfl, l, xs, L, rfl, eG, hL, by omega, fun w hw => Nat.le_trans (hw50 w hw) (by omega), fun G2 s2 => ⟨_, rfl, ?_⟩⟩
        have eG2 := s2 _ _ eG
        have hL2 := Words.same s2 hL
        have sG2 := sG.trans s2
        cases d : sumB L with
        | false =>
          rw [d] at r2
          exact iteT (iteT ⟨by show 1 ≤ sizeLine; decide, q2 (r2 rfl) G2 sG2⟩)
        | true =>
        rw [d, Bool.true_and] at r1 r2
        refine iteF ?_
        refine ⟨_, rfl, l, _, rfl, .inl (SqL.of eG2), _, _, rfl, rfl, _, rfl, ?_⟩
        by_cases c40 : L.length ≤ 40
        rotate_left
        · rw [decide_eq_false c40] at r2
          rw [decide_eq_true (show (40 : Int) < (xs.length : Int) by omega)]
          exact iteT (iteT ⟨by show 1 ≤ sizeLine; decide, q2 (r2 rfl) G2 sG2⟩)
        rw [decide_eq_true c40, Bool.true_and] at r1 r2
        rw [decide_eq_false (show ¬ (40 : Int) < (xs.length : Int) by omega)]
        refine iteF ?_
        refine ⟨_, rfl, l, rfl, ⟨_, SqL.of eG2⟩, lc_list (K := K) (a := l) (xs := xs) (by rw [sizeLine_eq]; omega) (fun i zs G' => Same G2 G' ∧ zs = ((L.take i).map fun w => (w.length : Int)).map V.int) ⟨Same.refl _, rfl⟩
          (fun i zs G' z => by rw [z.2, List.length_map, List.length_map, List.length_take]; omega) (fun i zs G' z => SqL.of (z.1 l _ eG2)) (fun i v zs G' hv z => ?_) (fun zs G3 z D hD => ?_)⟩
        · obtain ⟨sg, rfl⟩ := z
          obtain ⟨w, hw, p, rfl, hp⟩ := Words.get hL2 hv
          refine lcG ?_
          refine ⟨_, rfl, p, _, rfl, .inr (SqT.of (sg _ _ hp)), sg, ?_⟩
          rw [List.take_add_one, hw, List.map_append, List.map_append, List.length_map]
          rfl
        obtain ⟨sg, rfl⟩ := z
        rw [ll, List.take_of_length_le (Nat.le_refl _)]
        refine ⟨D, _, rfl, SqL.of upd_same, fun M m0 m1 m2 => ⟨_, _, rfl, rfl, _, rfl, ?_⟩⟩
        have s4 := sG2.trans (sg.step (o := .lst ((L.map fun w => (w.length : Int)).map V.int)) hD)
        have eG4 := (sg.step (o := .lst ((L.map fun w => (w.length : Int)).map V.int)) hD) _ _ eG2
        have hL4 := Words.same (sg.step (o := .lst ((L.map fun w => (w.length : Int)).map V.int)) hD) hL2
        generalize upd G3 D (.lst ((L.map fun w => (w.length : Int)).map V.int)) = G4 at *
        have e8 : (L.all fun w => decide (w.length ≤ 8)) = decide (M ≤ 8) := by
          by_cases c : M ≤ 8
          · rw [decide_eq_true c, List.all_eq_true]
            intro w hw
            have := m2 _ (List.mem_map.mpr ⟨w, hw, rfl⟩)
            exact decide_eq_true (by omega)
          · rw [decide_eq_false c, List.all_eq_false]
            have hn : L.map (fun w => (w.length : Int)) ≠ [] := fun z => c (by rw [m0 z]; decide)
            obtain ⟨w, hw, e⟩ := List.mem_map.mp (m1 hn)
            exact ⟨w, hw, by simp; omega⟩
        rw [e8] at r1 r2
        by_cases c8 : M ≤ 8
        · rw [decide_eq_true c8] at r1
          rw [decide_eq_false (show ¬ (8 : Int) < M by omega)]
          exact iteF ⟨_, rfl, q1 L (r1 rfl) l xs G4 hl s4 eG4 hL4⟩
        · rw [decide_eq_false c8] at r2
          rw [decide_eq_true (show (8 : Int) < M by omega)]
          exact iteT ⟨by show 1 ≤ sizeLine; decide, q2 (r2 rfl) G4 s4⟩
      by_cases c : x = "0"
      · refine iteTd (congrArg V.str c) ⟨by show 0 ≤ sizeLine; decide, fun l hl => ?_⟩
        refine last l [] [] _ hl (Same.laid hl) upd_same .nil (by decide) (fun w hw => by cases hw) (fun _ => by unfold sumBy; rw [if_pos c]) (fun z => absurd z (by decide))
      · refine iteFd (fun z => c (V.str.inj z)) ?_
        have hb : sumBy numT x = ((Txt.split x " + ").mapM (wordBy numT)).bind fun L => if fitS L = true then some L else none := by unfold sumBy; rw [if_neg c]
        have wt := split_weight x " + " (by decide +kernel)
        have sl : (Txt.split x " + ").length ≤ 2901 := by omega
        refine ⟨_, rfl, rfl, x, " + ", rfl, rfl, by decide +kernel, lx, by rw [sizeLine_eq]; omega, fun p hp => ?_⟩
        refine ⟨p, rfl, ⟨_, SqL.of upd_same⟩, ?_⟩
        have s0 : Same H (upd H p (.lst ((Txt.split x " + ").map V.str))) := Same.laid hp
        have e0 : (upd H p (.lst ((Txt.split x " + ").map V.str))) p = some (.lst ((Txt.split x " + ").map V.str)) := upd_same
        generalize upd H p (.lst ((Txt.split x " + ").map V.str)) = H0 at *
        refine lc_list (K := K) (a := p) (xs := (Txt.split x " + ").map V.str) (by rw [List.length_map, sizeLine_eq]; omega) (fun i zs G => Same H0 G ∧ ∃ L : List (List Int), Paired (fun x p => wordBy numT x = some p) ((Txt.split x " + ").take i) L ∧ Words G zs L ∧ ∀ w ∈ L, w.length ≤ 5000) ⟨Same.refl _, [], .nil, .nil, fun w hw => by cases hw⟩
          (fun i zs G q => by
            obtain ⟨_, L, hp, hL, _⟩ := q
            rw [Words.len hL, ← Paired.length hp, List.length_take]; omega) (fun i zs G q => SqL.of (q.1 p _ e0)) (fun i v zs G hv q => ?_) (fun zs G q D hD => ?_)
        · obtain ⟨sG, L, hP, hL, hw5⟩ := q
          rw [List.getElem?_map] at hv
          cases ep : (Txt.split x " + ")[i]? with
          | none => rw [ep] at hv; cases hv
          | some y =>
            rw [ep] at hv
            cases hv
            have my : y ∈ Txt.split x " + " := List.mem_of_getElem? ep
            have ly : y.length ≤ 3000 := Nat.le_trans (part_short my) (by omega)
            refine lcG ?_
            refine ⟨_, rfl, y, rfl, ly, fun w hw wl t G2 ht s2 et => ?_, fun hn G2 s2 => ⟨a_NoText, rfl, ?_⟩⟩
            · refine ⟨sG.trans s2, L ++ [w], ?_, Words.snoc (Words.same s2 hL) ⟨t, rfl, et⟩, fun u hu => ?_⟩
              · rw [List.take_add_one, ep]
                exact paired_snoc hP hw
              · rcases List.mem_append.mp hu with z | z
                · exact hw5 u z
                · rw [List.mem_singleton.mp z]; omega
            · exact q2 (by rw [hb, mapM_noneG my hn]; rfl) G2 (s0.trans (sG.trans s2))
        · obtain ⟨sG, L, hP, hL, hw5⟩ := q
          rw [List.length_map, List.take_of_length_le (Nat.le_refl _)] at hP
          have ll := Paired.length hP
          have fD : H D = none := (s0.trans sG).free hD
          refine last D zs L _ fD ((s0.trans sG).step hD) upd_same (Words.same (Same.laid hD) hL) (by omega) hw5 (fun d => ?_) (fun d => ?_)
          · rw [hb, mapMG.mpr hP]; show (if fitS L = true then some L else none) = _; rw [if_pos d]
          · rw [hb, mapMG.mpr hP]; show (if fitS L = true then some L else none) = _; rw [if_neg (by rw [d]; exact Bool.false_ne_true)]
    · obtain ⟨t, ty, kt⟩ := sim_str (K := K) sv
      rw [ns] at kt
      exact ⟨_, rfl, _, "str", t, false, rfl, ty, kt, _, rfl, iteT ⟨by show 1 ≤ sizeLine; decide, q H (Same.refl _)⟩⟩
end
end Qk66

namespace Qk66
open PySem L2 PyProof.Rows
section
variable {P : Program} {w : World} {K : PySem.W.Frag} {mg : Str → Option Value} {base : Heap}
theorem join_dot {ts : List Str} (hl : ts.length ≤ 60) (h : ∀ t ∈ ts, t.length ≤ 10) : JoinOk "." ts = true := by
  unfold JoinOk
  rw [StrLaws.joinFits (B := 10) h (by rw [show ("." : Str).length = 1 by decide +kernel]; omega)]
  rfl
theorem join_plus {ts : List Str} (hl : ts.length ≤ 3000) (h : ∀ t ∈ ts, t.length ≤ 3000) : JoinOk " + " ts = true := by
  unfold JoinOk
  rw [StrLaws.joinFits (B := 3000) h (by rw [show (" + " : Str).length = 3 by decide +kernel]; omega)]
  rfl
theorem join_comma {ts : List Str} (hl : ts.length ≤ 60) (h : ∀ t ∈ ts, t.length ≤ 100) : JoinOk "," ts = true := by
  unfold JoinOk
  rw [StrLaws.joinFits (B := 100) h (by rw [show ("," : Str).length = 1 by decide +kernel]; omega)]
  rfl
def spShowW : Sp := fun vs H Q _ => ∃ (x : V) (w : List Int), vs = [x] ∧ Word H x w ∧ w.length ≤ 9 ∧ smallW w ∧ ∀ H', Same H H' → Q (.str (wordT w)) H'
abbrev s_show_word : Stmt := top 21
theorem sc_show_word : FnScope ["word"] ["word"] (defScope s_show_word) := ⟨rfl, rfl, rfl, by decide +kernel, rfl, by decide +kernel, by decide +kernel⟩
theorem ok_showW {f : Addr} {fd : FuncData} (F : Fun K "show_word" "show_word" s_show_word f fd) : FnOk P w K mg base CX0 1 f fd ["word"] spShowW := by
  refine F.ok sc_show_word (fun vs H Q E h => ?_) (fun cdv A outer s H vs Q E hr h => ?_)
  · obtain ⟨x, w, rfl, _⟩ := h
    rfl
  · obtain ⟨x, w, rfl, ⟨p, rfl, hp⟩, hz, sm, q⟩ := h
    refine ⟨_, (pss_one (ps_ret (pe_ifExp (pt_truthK (K := K) rfl (pt_truth (pv 0) (fun _ => rfl))) (pe_bmK (K := K) rfl (pe_bm PySem.F.plainAttrs_str PySem.F.slot_str_join PySem.F.type_str_join (mt_joinK (K := K) rfl) pe_str (pa_cons (pe_lc (Ls := ["name"]) (Fs := []) (fi := []) (LcScope.of (show lcLook ["word"] (defScope s_show_word) _ [] [] = true by decide +kernel)) rfl (pi_tupK (K := K) rfl (pv 0)) (fun cl C s3 H3 ex => ⟨(pg_name (i := 0) (show ((["name"] : List Str) ++ ([] : List Str)).Nodup by decide +kernel) rfl (Or.inl rfl)), pts_nil, (pe_fs3 (pv 0) (by decide +kernel))⟩)) pa_nil))) pe_str))), ?_⟩
    refine ⟨_, rfl, !(w.map V.int).isEmpty, .inr (.inl ⟨_, SqT.of hp, rfl⟩), ?_⟩
    cases hw : w with
    | nil =>
      subst hw
      exact iteF (q H (Same.refl _))
    | cons n0 r0 =>
      have hne : w ≠ [] := by rw [hw]; simp
      rw [← hw]
      refine ite2 (fun _ => ?_) (fun z => absurd (by rw [hw]; rfl) z)
      refine ⟨rfl, ?_⟩
      refine ⟨_, rfl, p, rfl, ⟨_, .inl (.inl hp)⟩, lc_tup (K := K) (xs := w.map V.int) (by rw [List.length_map, sizeLine_eq]; omega) (fun i zs G => Same H G ∧ zs = ((w.take i).map nameT).map V.str) ⟨Same.refl _, rfl⟩
        (fun i zs G z => by rw [z.2, List.length_map, List.length_map, List.length_take]; omega) (fun i zs G z => .inl (.inl (z.1 p _ hp))) ?_ ?_⟩
      · rintro i x zs G hx ⟨s', rfl⟩
        obtain ⟨t, ht, rfl⟩ := map_int_at hx
        have hn := sm t (List.mem_of_getElem? ht)
        refine lcG ?_
        refine ⟨_, rfl, t, rfl, by omega, s', ?_⟩
        rw [List.take_add_one, ht, List.map_append, List.map_append]
        rfl
      · rintro zs G ⟨s', rfl⟩ D hD
        rw [List.length_map, List.take_of_length_le (Nat.le_refl _)]
        refine ⟨".", D, w.map nameT, rfl, rfl, SqL.of upd_same, join_dot (by rw [List.length_map]; omega) (fun t ht => ?_), ?_⟩
        · obtain ⟨n, hn, rfl⟩ := List.mem_map.mp ht
          have := nameT_len (sm n hn).1 (sm n hn).2
          omega
        · have e : wordT w = Txt.join "." (w.map nameT) := if_neg hne
          rw [← e]
          exact q _ (s'.step hD)
def spShowS : Sp := fun vs H Q _ => ∃ (l : Addr) (xs : List V) (L : List (List Int)), vs = [.ref l] ∧ H l = some (.lst xs) ∧ Words H xs L ∧ L.length ≤ 60 ∧ (∀ w ∈ L, w.length ≤ 9 ∧ smallW w) ∧ ∀ H', Same H H' → Q (.str (sumT L)) H'
abbrev s_show_sum : Stmt := top 22
theorem sc_show_sum : FnScope ["one"] ["one"] (defScope s_show_sum) := ⟨rfl, rfl, rfl, by decide +kernel, rfl, by decide +kernel, by decide +kernel⟩
theorem ok_showS {f : Addr} {fd : FuncData} (F : Fun K "show_sum" "show_sum" s_show_sum f fd) (h_show_word : Has P w K mg base 1 "show_word" ["word"] spShowW) : FnOk P w K mg base CX0 2 f fd ["one"] spShowS := by
  refine F.ok sc_show_sum (fun vs H Q E h => ?_) (fun cdv A outer s H vs Q E hr h => ?_)
  · obtain ⟨l, xs, L, rfl, _⟩ := h
    rfl
  · obtain ⟨l, xs, L, rfl, hl, hL, hlen, hk, q⟩ := h
    refine ⟨_, (pss_one (ps_ret (pe_ifExp (pt_truthK (K := K) rfl (pt_truth (pv 0) (fun _ => rfl))) (pe_bmK (K := K) rfl (pe_bm PySem.F.plainAttrs_str PySem.F.slot_str_join PySem.F.type_str_join (mt_joinK (K := K) rfl) pe_str (pa_cons (pe_lc (Ls := ["word"]) (Fs := []) (fi := []) (LcScope.of (show lcLook ["one"] (defScope s_show_sum) _ [] [] = true by decide +kernel)) rfl (pi_listK (K := K) rfl (pv 0)) (fun cl C s3 H3 ex => ⟨(pg_name (i := 0) (show ((["word"] : List Str) ++ ([] : List Str)).Nodup by decide +kernel) rfl (Or.inl rfl)), pts_nil, (pe_has h_show_word (hr.mono (by decide)) (pa_cons (pv 0) pa_nil))⟩)) pa_nil))) pe_str))), ?_⟩
    have hxl := Words.len hL
    refine ⟨_, rfl, !xs.isEmpty, .inl ⟨_, SqL.of hl, rfl⟩, ?_⟩
    cases hx : xs with
    | nil =>
      rw [hx] at hxl
      have : L = [] := List.length_eq_zero_iff.mp hxl.symm
      subst this
      exact iteF (q H (Same.refl _))
    | cons x0 r0 =>
      have hne : L ≠ [] := fun z => by rw [z, hx] at hxl; cases hxl
      rw [← hx]
      refine ite2 (fun _ => ?_) (fun z => absurd (by rw [hx]; rfl) z)
      refine ⟨rfl, ?_⟩
      refine ⟨_, rfl, l, rfl, ⟨_, SqL.of hl⟩, lc_list (K := K) (a := l) (xs := xs) (Nat.le_of_lt (small1000 (by omega))) (fun i zs G => Same H G ∧ zs = ((L.take i).map wordT).map V.str) ⟨Same.refl _, rfl⟩
        (fun i zs G p => by rw [p.2, List.length_map, List.length_map, List.length_take]; omega) (fun i zs G p => SqL.of (p.1 l _ hl)) (fun i x zs G hx p => ?_) (fun zs G1 p D hD => ?_)⟩
      · obtain ⟨sG, rfl⟩ := p
        obtain ⟨w, hw, wx⟩ := Words.get hL hx
        have := hk w (List.mem_of_getElem? hw)
        refine lcG ?_
        refine ⟨_, rfl, x, w, rfl, wx.same sG, this.1, this.2, fun G2 s2 => ⟨sG.trans s2, ?_⟩⟩
        rw [List.take_add_one, hw, List.map_append, List.map_append]
        rfl
      · obtain ⟨sG, rfl⟩ := p
        rw [hxl, List.take_of_length_le (Nat.le_refl _)]
        refine ⟨" + ", D, L.map wordT, rfl, rfl, SqL.of upd_same, join_plus (by rw [List.length_map]; omega) (fun t ht => ?_), ?_⟩
        · obtain ⟨w, hw, rfl⟩ := List.mem_map.mp ht
          have := wordT_len (hk w hw).2 (hk w hw).1
          omega
        · have e : sumT L = Txt.join " + " (L.map wordT) := if_neg hne
          rw [← e]
          exact q _ (sG.step hD)
def numS (n : Int) : Str := Str.ofString (toString n)
def listT (ns : List Int) : Str := if ns = [] then "-" else Txt.join "," (ns.map numS)
theorem numS_len {n : Int} (h : n.natAbs < 10 ^ 60) : (numS n).length ≤ 100 := by
  have := int_text_length_le10 (k := 60) (by decide) h
  unfold numS
  rw [PySem.ofString_length]
  omega
theorem num_log {n : Int} (h : n.natAbs < 10 ^ 60) : n.natAbs.log2 < 1920 := by
  by_cases h0 : n.natAbs = 0
  · rw [h0]; decide
  · exact Nat.lt_of_lt_of_le ((Nat.log2_lt (k := 200) h0).mpr (Nat.lt_of_lt_of_le h (by decide))) (by decide)
def spShowL : Sp := fun vs H Q _ => ∃ (l : Addr) (ns : List Int), vs = [.ref l] ∧ H l = some (.lst (ns.map V.int)) ∧ ns.length ≤ 60 ∧ (∀ n ∈ ns, n.natAbs < 10 ^ 60) ∧ ∀ H', Same H H' → Q (.str (listT ns)) H'
abbrev s_show_list : Stmt := top 23
theorem sc_show_list : FnScope ["numbers"] ["numbers"] (defScope s_show_list) := ⟨rfl, rfl, rfl, by decide +kernel, rfl, by decide +kernel, by decide +kernel⟩
theorem ok_showL {f : Addr} {fd : FuncData} (F : Fun K "show_list" "show_list" s_show_list f fd) (b_str : mg "str" = none) : FnOk P w K mg base CX0 1 f fd ["numbers"] spShowL := by
  refine F.ok sc_show_list (fun vs H Q E h => ?_) (fun cdv A outer s H vs Q E hr h => ?_)
  · obtain ⟨l, ns, rfl, _⟩ := h
    rfl
  · obtain ⟨l, ns, rfl, hl, hlen, hk, q⟩ := h
    refine ⟨_, (pss_one (ps_ret (pe_ifExp (pt_truthK (K := K) rfl (pt_truth (pv 0) (fun _ => rfl))) (pe_bmK (K := K) rfl (pe_bm PySem.F.plainAttrs_str PySem.F.slot_str_join PySem.F.type_str_join (mt_joinK (K := K) rfl) pe_str (pa_cons (pe_lc (Ls := ["number"]) (Fs := []) (fi := []) (LcScope.of (show lcLook ["numbers"] (defScope s_show_list) _ [] [] = true by decide +kernel)) rfl (pi_listK (K := K) rfl (pv 0)) (fun cl C s3 H3 ex => ⟨(pg_name (i := 0) (show ((["number"] : List Str) ++ ([] : List Str)).Nodup by decide +kernel) rfl (Or.inl rfl)), pts_nil, (pe_callTy call_str_int (by rfl) b_str boot_str (pa_cons (pv 0) pa_nil))⟩)) pa_nil))) pe_str))), ?_⟩
    refine ⟨_, rfl, !(ns.map V.int).isEmpty, .inl ⟨_, SqL.of hl, rfl⟩, ?_⟩
    cases hx : ns with
    | nil =>
      subst hx
      exact iteF (q H (Same.refl _))
    | cons x0 r0 =>
      have hne : ns ≠ [] := by rw [hx]; simp
      rw [← hx]
      refine ite2 (fun _ => ?_) (fun z => absurd (by rw [hx]; rfl) z)
      refine ⟨rfl, ?_⟩
      refine ⟨_, rfl, l, rfl, ⟨_, SqL.of hl⟩, lc_list (K := K) (a := l) (xs := ns.map V.int) (Nat.le_of_lt (small1000 (by rw [List.length_map]; omega))) (fun i zs G => Same H G ∧ zs = ((ns.take i).map numS).map V.str) ⟨Same.refl _, rfl⟩
        (fun i zs G p => by rw [p.2, List.length_map, List.length_map, List.length_take]; omega) (fun i zs G p => SqL.of (p.1 l _ hl)) (fun i x zs G hx p => ?_) (fun zs G1 p D hD => ?_)⟩
      · obtain ⟨sG, rfl⟩ := p
        obtain ⟨t, ht, rfl⟩ := map_int_at hx
        have := hk t (List.mem_of_getElem? ht)
        refine lcG ?_
        refine ⟨_, rfl, t, rfl, num_log this, sG, ?_⟩
        rw [List.take_add_one, ht, List.map_append, List.map_append]
        rfl
      · obtain ⟨sG, rfl⟩ := p
        rw [List.length_map, List.take_of_length_le (Nat.le_refl _)]
        refine ⟨",", D, ns.map numS, rfl, rfl, SqL.of upd_same, join_comma (by rw [List.length_map]; omega) (fun t ht => ?_), ?_⟩
        · obtain ⟨n, hn, rfl⟩ := List.mem_map.mp ht
          exact numS_len (hk n hn)
        · have e : listT ns = Txt.join "," (ns.map numS) := if_neg hne
          rw [← e]
          exact q _ (sG.step hD)
end
end Qk66

namespace Qk66
open PySem L2 PyProof.Rows
section
variable {P : Program} {w : World} {K : PySem.W.Frag} {mg : Str → Option Value} {base : Heap}
def spTxt : Sp := fun vs H Q _ => ∃ (l : Addr) (xs : List V) (L : List (List Int)), vs = [.ref l] ∧ H l = some (.lst xs) ∧ Words H xs L ∧ L.length ≤ 60 ∧ (∀ w ∈ L, w.length ≤ 9 ∧ smallW w) ∧ ∀ H', Same H H' → Q (.str (sumT L)) H'
theorem join_nil {w : List Int} (h : smallW w) : Txt.join "." (w.map nameT) = "" ↔ w = [] := by
  constructor
  · intro z
    refine Classical.byContradiction fun hn => ?_
    have e := wordT_head h hn
    have e2 : wordT w = Txt.join "." (w.map nameT) := if_neg hn
    rw [e2, z, show ("" : Str).cps.toList = [] by decide +kernel] at e
    cases e
  · intro z; subst z; decide +kernel
theorem name_log {n : Int} (h0 : 0 ≤ n) (h9 : n ≤ 99) : n.natAbs.log2 < 1920 := by
  by_cases z : n.natAbs = 0
  · rw [z]; decide
  · exact Nat.lt_of_lt_of_le ((Nat.log2_lt (k := 7) z).mpr (by omega)) (by decide)
abbrev s__law_text : Stmt := top 31
theorem sc__law_text : FnScope ["_law_some", "_law_words"] ["_law_some"] (defScope s__law_text) := ⟨rfl, rfl, rfl, by decide +kernel, rfl, by decide +kernel, by decide +kernel⟩
theorem ok_txt {f : Addr} {fd : FuncData} (F : Fun K "_law_text" "_law_text" s__law_text f fd) (b_str : mg "str" = none) (b_int : mg "int" = none) : FnOk P w K mg base CX0 1 f fd ["_law_some"] spTxt := by
  refine F.ok sc__law_text (fun vs H Q E h => ?_) (fun cdv A outer s H vs Q E hr h => ?_)
  · obtain ⟨l, xs, L, rfl, _⟩ := h
    rfl
  · obtain ⟨l, xs, L, rfl, hl, hL, hlen, hk, q⟩ := h
    refine ⟨_, (pss_cons (ps_if (pt_cmpR (op_eqNilK (K := K) rfl hr.units) (pv 0) (pe_lst pa_nil) (nomark _)) (pss_one (ps_ret pe_str)) pss_nil)
      (pss_cons (ps_lc (i := 1) sc__law_text.nd rfl (Or.inl rfl) (Ls := ["_law_word"]) (Fs := []) (fi := []) (LcScope.of (show lcLook ["_law_some", "_law_words"] (defScope s__law_text) _ [] [] = true by decide +kernel)) rfl (pi_listK (K := K) rfl (pv 0)) (fun cl C s3 H3 ex => ⟨(pg_name (i := 0) (show ((["_law_word"] : List Str) ++ ([] : List Str)).Nodup by decide +kernel) rfl (Or.inl rfl)), pts_nil, (pe_bmK (K := K) rfl (pe_bm PySem.F.plainAttrs_str PySem.F.slot_str_join PySem.F.type_str_join (mt_joinK (K := K) rfl) pe_str (pa_cons (pe_lc (Ls := ["_law_name"]) (Fs := []) (fi := []) (LcScope.of (by rfl)) rfl (pi_tupK (K := K) rfl (pv 0)) (fun cl C s3 H3 ex => ⟨(pg_name (i := 0) (show ((["_law_name"] : List Str) ++ ([] : List Str)).Nodup by decide +kernel) rfl (Or.inl rfl)), pts_nil, (pe_op op_add_str pe_str (pe_callTy call_str_int (by rfl) b_str boot_str (pa_cons (pv 0) pa_nil)))⟩)) pa_nil)))⟩))
      (pss_one (ps_ret (pe_bmK (K := K) rfl (pe_bm PySem.F.plainAttrs_str PySem.F.slot_str_join PySem.F.type_str_join (mt_joinK (K := K) rfl) pe_str (pa_cons (pe_lc (Ls := ["_law_word"]) (Fs := []) (fi := []) (LcScope.of (show lcLook ["_law_some", "_law_words"] (defScope s__law_text) _ [] [] = true by decide +kernel)) rfl (pi_listK (K := K) rfl (pv 1)) (fun cl C s3 H3 ex => ⟨(pg_name (i := 0) (show ((["_law_word"] : List Str) ++ ([] : List Str)).Nodup by decide +kernel) rfl (Or.inl rfl)), pts_nil, (pe_ix (ix_listK (K := K) rfl) (pe_lst (pa_cons (pv 0) (pa_cons pe_str pa_nil))) (pe_callTy call_int1 (by rfl) b_int boot_int (pa_cons (pe_cmpR op_eq (pv 0) pe_str (nomark _)) pa_nil)) (fun _ _ => rfl))⟩)) pa_nil))))))), ?_⟩
    have hxl := Words.len hL
    refine ⟨_, rfl, (by show 0 ≤ sizeLine; decide), fun n hn => ?_⟩
    have s1 : Same H (upd H n (.lst [])) := Same.laid hn
    have e1 : (upd H n (.lst [])) n = some (.lst []) := upd_same
    generalize upd H n (.lst []) = H1 at *
    refine ⟨l, n, xs, rfl, rfl, SqL.of (s1 _ _ hl), SqL.of e1, _, rfl, ?_⟩
    cases xs with
    | nil =>
      have : L = [] := List.length_eq_zero_iff.mp hxl.symm
      subst this
      exact iteT (q H1 s1)
    | cons x0 r0 =>
      have hne : L ≠ [] := fun z => by rw [z] at hxl; cases hxl
      refine iteF ?_
      generalize x0 :: r0 = xs at *
      have hl1 := s1 _ _ hl
      have hL1 := Words.same s1 hL
      refine ⟨_, rfl, l, rfl, ⟨_, SqL.of hl1⟩, lc_list (K := K) (a := l) (xs := xs) (Nat.le_of_lt (small1000 (by omega))) (fun i zs G => Same H1 G ∧ zs = ((L.take i).map fun w => Txt.join "." (w.map nameT)).map V.str) ⟨Same.refl _, rfl⟩
        (fun i zs G p => by rw [p.2, List.length_map, List.length_map, List.length_take]; omega) (fun i zs G p => SqL.of (p.1 l _ hl1)) (fun i x zs G hx p => ?_) (fun zs G1 p D hD => ?_)⟩
      · obtain ⟨sG, rfl⟩ := p
        obtain ⟨w, hw, t, rfl, ht⟩ := Words.get hL1 hx
        obtain ⟨w9, sm⟩ := hk w (List.mem_of_getElem? hw)
        refine lcG ?_
        refine ⟨rfl, ?_⟩
        have ht' := sG _ _ ht
        refine ⟨_, rfl, t, rfl, ⟨_, .inl (.inl ht')⟩, lc_tup (K := K) (xs := w.map V.int) (by rw [List.length_map, sizeLine_eq]; omega) (fun i zs G' => Same G G' ∧ zs = ((w.take i).map nameT).map V.str) ⟨Same.refl _, rfl⟩
          (fun i zs G z => by rw [z.2, List.length_map, List.length_map, List.length_take]; omega) (fun i zs G z => .inl (.inl (z.1 t _ ht'))) ?_ ?_⟩
        · rintro j x zs' G' hx' ⟨s', rfl⟩
          obtain ⟨k, hk', rfl⟩ := map_int_at hx'
          have hn := sm k (List.mem_of_getElem? hk')
          have nl := nameT_len hn.1 hn.2
          unfold nameT at nl
          rw [strLen_append] at nl
          refine lcG ?_
          refine ⟨_, rfl, k, rfl, name_log hn.1 hn.2, _, _, rfl, rfl, Nat.le_trans nl (by decide), s', ?_⟩
          rw [List.take_add_one, hk', List.map_append, List.map_append]
          rfl
        · rintro zs' G' ⟨s', rfl⟩ D hD
          rw [List.length_map, List.take_of_length_le (Nat.le_refl _)]
          refine ⟨".", D, w.map nameT, rfl, rfl, SqL.of upd_same, join_dot (by rw [List.length_map]; omega) (fun t ht => ?_), sG.trans (s'.step hD), ?_⟩
          · obtain ⟨n, hn, rfl⟩ := List.mem_map.mp ht
            have := nameT_len (sm n hn).1 (sm n hn).2
            omega
          · rw [List.take_add_one, hw, List.map_append, List.map_append]
            rfl
      · obtain ⟨sG, rfl⟩ := p
        rw [hxl, List.take_of_length_le (Nat.le_refl _)]
        have s2 : Same H (upd G1 D (.lst ((L.map fun w => Txt.join "." (w.map nameT)).map V.str))) := (s1.trans sG).step hD
        have eD : (upd G1 D (.lst ((L.map fun w => Txt.join "." (w.map nameT)).map V.str))) D = some (.lst ((L.map fun w => Txt.join "." (w.map nameT)).map V.str)) := upd_same
        generalize upd G1 D (.lst ((L.map fun w => Txt.join "." (w.map nameT)).map V.str)) = G2 at *
        refine ⟨rfl, ?_⟩
        refine ⟨_, rfl, D, rfl, ⟨_, SqL.of eD⟩, lc_list (K := K) (a := D) (xs := (L.map fun w => Txt.join "." (w.map nameT)).map V.str) (Nat.le_of_lt (small1000 (by rw [List.length_map, List.length_map]; omega))) (fun i zs G => Same G2 G ∧ zs = ((L.take i).map wordT).map V.str) ⟨Same.refl _, rfl⟩
          (fun i zs G p => by rw [p.2, List.length_map, List.length_map, List.length_take]; omega) (fun i zs G p => SqL.of (p.1 D _ eD)) (fun i x zs G hx p => ?_) (fun zs G3 p D2 hD2 => ?_)⟩
        · obtain ⟨sG2, rfl⟩ := p
          rw [List.getElem?_map, List.getElem?_map] at hx
          cases hw : L[i]? with
          | none => rw [hw] at hx; cases hx
          | some w =>
          rw [hw] at hx
          cases hx
          obtain ⟨w9, sm⟩ := hk w (List.mem_of_getElem? hw)
          refine lcG ?_
          refine ⟨_, rfl, (by show 2 ≤ sizeLine; decide), fun p hp => ?_⟩
          have hat : atI [V.str (Txt.join "." (w.map nameT)), V.str "1"] (if decide (V.str (Txt.join "." (w.map nameT)) = V.str (Str.ofString "")) = true then 1 else 0) = some (.str (wordT w)) := by
            by_cases hw0 : w = []
            · rw [decide_eq_true (congrArg V.str ((join_nil sm).mpr hw0)), if_pos rfl]
              subst hw0
              rfl
            · rw [decide_eq_false (fun z => hw0 ((join_nil sm).mp (V.str.inj z)))]
              have e : wordT w = Txt.join "." (w.map nameT) := if_neg hw0
              rw [e]
              rfl
          refine ⟨_, rfl, rfl, .inr ⟨_, rfl, p, _, _, .str (wordT w), rfl, rfl, SqL.of upd_same, hat, sG2.step hp, ?_⟩⟩
          rw [List.take_add_one, hw, List.map_append, List.map_append]
          rfl
        · obtain ⟨sG2, rfl⟩ := p
          rw [List.length_map, List.length_map, List.take_of_length_le (Nat.le_refl _)]
          refine ⟨" + ", D2, L.map wordT, rfl, rfl, SqL.of upd_same, join_plus (by rw [List.length_map]; omega) (fun t ht => ?_), ?_⟩
          · obtain ⟨w, hw, rfl⟩ := List.mem_map.mp ht
            have := wordT_len (hk w hw).2 (hk w hw).1
            omega
          · have e : sumT L = Txt.join " + " (L.map wordT) := if_neg hne
            rw [← e]
            exact q _ (s2.trans (sG2.step hD2))
end
end Qk66

namespace Qk66
open PySem L2 PyProof.Rows
section
variable {P : Program} {w : World} {K : PySem.W.Frag} {mg : Str → Option Value} {base : Heap}
def spNb : Sp := fun vs H Q _ => ∃ (x : Str), vs = [.str x] ∧ x.length ≤ 3000 ∧ ∀ H', Same H H' → Q ((figL x.cps.toList).elim .non V.int) H'
theorem sign_dig (c : Nat) : (!(Builtin.Str.occurrences (Str.ofString "0123456789") ⟨#[c]⟩ 0 (Str.ofString "0123456789").length 1).isEmpty) = dig c := by
  rw [StrLaws.found_one]
  have e : (Str.ofString "0123456789").cps.toList = [48, 49, 50, 51, 52, 53, 54, 55, 56, 57] := by decide +kernel
  rw [e]
  unfold dig
  rw [Bool.eq_iff_iff, decide_eq_true_iff, Bool.and_eq_true, decide_eq_true_iff, decide_eq_true_iff]
  simp only [List.mem_cons, List.not_mem_nil, or_false]
  omega
abbrev s__law_number : Stmt := top 32
theorem sc__law_number : FnScope ["_law_figures"] ["_law_figures"] (defScope s__law_number) := ⟨rfl, rfl, rfl, by decide +kernel, rfl, by decide +kernel, by decide +kernel⟩
theorem ok_nb {f : Addr} {fd : FuncData} (F : Fun K "_law_number" "_law_number" s__law_number f fd) (b_len : mg "len" = none) (b_all : mg "all" = none) (b_int : mg "int" = none) : FnOk P w K mg base CX0 1 f fd ["_law_figures"] spNb := by
  refine F.ok sc__law_number (fun vs H Q E h => ?_) (fun cdv A outer s H vs Q E hr h => ?_)
  · obtain ⟨x, rfl, _⟩ := h
    rfl
  · obtain ⟨x, rfl, hx, q⟩ := h
    refine ⟨_, (pss_cons (ps_if (PW.pt (pw_or (pt_not (pt_chain op_le op_le pe_int (pe_callB call_len_str (by rfl) b_len PySem.boot_len (pa_cons (pv 0) pa_nil)) pe_int)) (pw_or1 (pt_not (pt_val (pe_callB (call_allK (K := K) rfl rfl) (by rfl) b_all boot_all (pa_cons (pe_lc (Ls := ["_law_sign"]) (Fs := []) (fi := []) (LcScope.of (show lcLook ["_law_figures"] (defScope s__law_number) _ [] [] = true by decide +kernel)) rfl (pi_str (pv 0)) (fun cl C s3 H3 ex => ⟨(pg_name (i := 0) (show ((["_law_sign"] : List Str) ++ ([] : List Str)).Nodup by decide +kernel) rfl (Or.inl rfl)), pts_nil, (pe_cmpR op_in_str (pv 0) pe_str rfl)⟩)) pa_nil))))))) (pss_one (ps_ret pe_non)) pss_nil)
      (pss_cons (ps_if (PW.pt (pw_and (pt_cmpR op_eq (pe_callB call_len_str (by rfl) b_len PySem.boot_len (pa_cons (pv 0) pa_nil)) pe_int (nomark _)) (pw_and1 (pt_cmpR op_eq (pe_ix ix_str (pv 0) pe_int (fun _ _ => rfl)) pe_str (nomark _))))) (pss_one (ps_ret pe_non)) pss_nil)
      (pss_one (ps_ret (pe_callTy call_intS (by rfl) b_int boot_int (pa_cons (pv 0) pa_nil)))))), ?_⟩
    have lx : x.length ≤ sizeLine := by rw [sizeLine_eq]; omega
    have ll := len_signs x
    refine ⟨_, rfl, x, rfl, lx, _, _, rfl, rfl, _, rfl, ?_⟩
    by_cases c1 : (1 : Int) ≤ (x.length : Int)
    rotate_left
    · rw [decide_eq_false c1]
      have e : figL x.cps.toList = none := by
        unfold figL; rw [if_neg]; rintro ⟨z, _⟩; exact z (List.length_eq_zero_iff.mp (by omega))
      rw [e] at q
      exact iteF ⟨_, rfl, iteT (iteT (q H (Same.refl _)))⟩
    rw [decide_eq_true c1]
    refine iteT ⟨_, _, rfl, rfl, _, rfl, ?_⟩
    by_cases c2 : (x.length : Int) ≤ 2
    rotate_left
    · rw [decide_eq_false c2]
      have e : figL x.cps.toList = none := by
        unfold figL; rw [if_neg]; rintro ⟨_, _, z, _⟩; omega
      rw [e] at q
      exact iteT (iteT (q H (Same.refl _)))
    rw [decide_eq_true c2]
    refine iteF ?_
    refine ⟨_, rfl, x, rfl, lc_str (z := x) (by omega) (fun j zs G' => Same H G' ∧ zs = ((x.cps.toList.take j).map dig).map V.bl) ⟨Same.refl _, rfl⟩
      (fun j zs G' z => by rw [z.2, List.length_map, List.length_map, List.length_take]; omega) (fun j cc zs G' hcc z => ?_) (fun zs G3 z D hD => ?_)⟩
    · obtain ⟨sg, rfl⟩ := z
      refine lcG ?_
      refine ⟨_, rfl, _, _, rfl, rfl, sg, ?_⟩
      show _ = _
      rw [show (!(Builtin.Str.occurrences (Str.ofString "0123456789") ⟨#[cc]⟩ 0 (Str.ofString "0123456789").length 1).isEmpty) = dig cc from sign_dig cc, List.take_add_one, hcc, List.map_append, List.map_append]
      rfl
    obtain ⟨sg, rfl⟩ := z
    have et : x.cps.toList.take x.length = x.cps.toList := List.take_of_length_le (Nat.le_of_eq (len_signs x).symm)
    rw [et]
    refine ⟨D, _, rfl, SqL.of upd_same, _, rfl, ?_⟩
    have s3 : Same H (upd G3 D (.lst ((x.cps.toList.map dig).map V.bl))) := sg.step hD
    generalize upd G3 D (.lst ((x.cps.toList.map dig).map V.bl)) = G4 at *
    have ea : (x.cps.toList.map dig).all id = x.cps.toList.all dig := by rw [List.all_map]; rfl
    rw [ea]
    cases da : x.cps.toList.all dig with
    | false =>
      have e : figL x.cps.toList = none := by unfold figL; rw [if_neg]; rintro ⟨_, z, _⟩; rw [da] at z; cases z
      rw [e] at q
      exact iteT (q G4 s3)
    | true =>
    refine iteF ?_
    have fne : x.cps.toList ≠ [] := fun z => by rw [z] at ll; simp at ll; omega
    have good : ¬ (x.cps.toList.length = 2 ∧ x.cps.toList[0]? = some 48) → ∃ (n : Int), figL x.cps.toList = some n ∧ intText? x = some n := fun hz => by
      refine ⟨_, by unfold figL; rw [if_pos ⟨fne, da, by omega, hz⟩], ?_⟩
      rw [PySem.intText_digits (x := x) (by intro d hd; have := List.all_eq_true.mp da d hd; unfold dig at this; simp only [Bool.and_eq_true, decide_eq_true_eq] at this; exact this) fne (by omega)]
      rfl
    refine ⟨_, rfl, x, rfl, lx, rfl, _, rfl, ?_⟩
    by_cases l2 : x.cps.toList.length = 2
    · refine iteTd (congrArg V.int (by omega)) ?_
      obtain ⟨c0, ec0⟩ : ∃ c0, x.cps.toList[0]? = some c0 := by cases q : x.cps.toList with | nil => exact absurd q fne | cons a r => exact ⟨a, rfl⟩
      refine ⟨_, rfl, x, 0, c0, rfl, rfl, lx, atI_nat (j := 0) ec0, rfl, _, rfl, ?_⟩
      by_cases z0 : c0 = 48
      · have e : figL x.cps.toList = none := by unfold figL; rw [if_neg]; rintro ⟨_, _, _, z⟩; exact z ⟨l2, by rw [ec0, z0]⟩
        rw [e] at q
        refine iteTd (congrArg V.str ?_) (q G4 s3)
        rw [z0]; decide +kernel
      · obtain ⟨n, en, ei⟩ := good (fun z => z0 (by rw [ec0] at z; exact Option.some.inj z.2))
        rw [en] at q
        refine iteFd (fun z => z0 ?_) ⟨_, rfl, x, n, rfl, ei, by omega, q G4 s3⟩
        have z := V.str.inj z
        have := congrArg (fun s : Str => s.cps.toList) z
        rw [show (Str.ofString "0").cps.toList = [48] by decide +kernel] at this
        exact (List.cons.inj this).1
    · obtain ⟨n, en, ei⟩ := good (fun z => l2 z.1)
      rw [en] at q
      exact iteFd (fun z => l2 (by have := V.int.inj z; omega)) (iteF ⟨_, rfl, x, n, rfl, ei, by omega, q G4 s3⟩)
end
end Qk66

namespace Qk66
open PySem L2 PyProof.Rows
section
variable {P : Program} {w : World} {K : PySem.W.Frag} {mg : Str → Option Value} {base : Heap}
def spSaid : Sp := fun vs H Q _ => ∃ v : V, vs = [v] ∧ ((∃ x : Str, v = .str x ∧ x.length ≤ 2900 ∧ (∀ L, sumBy numT x = some L → ∀ l xs H', H l = none → Same H H' → H' l = some (.lst xs) → Words H' xs L → Q (.ref l) H') ∧ (sumBy numT x = none → ∀ H', Same H H' → Q (.str "no text") H')) ∨
  (Sim H v ∧ isStr v = false ∧ ∀ H', Same H H' → Q (.str "no text") H'))
theorem rCat_new {l b : Addr} {xs zs : List V} {H : Hp} {Q : VK} (hl : H l = some (.lst xs)) (hb : H b = some (.lst zs)) (hz : xs.length + zs.length ≤ sizeLine) (h : ∀ p H', H p = none → Same H H' → H' p = some (.lst (xs ++ zs)) → Q (.ref p) H') : rCat (.ref l) (.ref b) H Q :=
  ⟨l, b, xs, zs, rfl, rfl, hl, hb, hz, fun p hp => h p _ hp (Same.laid hp) upd_same⟩
abbrev wh10 : List V := [.bl true, .bl false, .bl false, .bl false, .bl false, .bl false, .bl false, .bl false, .bl false, .bl false]
abbrev s__law_said : Stmt := top 34
theorem sc__law_said : FnScope ["_law_thing", "e", "_law_kinds"] ["_law_thing"] (defScope s__law_said) := ⟨rfl, rfl, rfl, by decide +kernel, rfl, by decide +kernel, by decide +kernel⟩
theorem ok_said {f a_FrontError a_NoText a_NoHeights a_TooMany a_NoTable a_NoBanding a_NoSetting a_NoMove a_NoPaper a_NoRow a_NoName : Addr} {fd : FuncData} (F : Fun K "_law_said" "_law_said" s__law_said f fd) (g_FrontError : mg "FrontError" = some (.ref a_FrontError)) (x_FrontError : PySem.W.excIn K a_FrontError bmV "ValueError.__new__" = true) (m_NoText : PySem.W.mroIn K a_NoText (.ref a_FrontError) = some true)
    (g_NoText : mg "NoText" = some (.ref a_NoText)) (g_NoHeights : mg "NoHeights" = some (.ref a_NoHeights)) (g_TooMany : mg "TooMany" = some (.ref a_TooMany)) (g_NoTable : mg "NoTable" = some (.ref a_NoTable))
    (g_NoBanding : mg "NoBanding" = some (.ref a_NoBanding)) (g_NoSetting : mg "NoSetting" = some (.ref a_NoSetting)) (g_NoMove : mg "NoMove" = some (.ref a_NoMove)) (g_NoPaper : mg "NoPaper" = some (.ref a_NoPaper)) (g_NoRow : mg "NoRow" = some (.ref a_NoRow)) (g_NoName : mg "NoName" = some (.ref a_NoName))
    (xc : XCls K a_NoText) (k0 : PySem.W.kitOne K (.ref a_NoText) (.ref a_NoText) = some true) (k1 : PySem.W.kitOne K (.ref a_NoText) (.ref a_NoHeights) = some false) (k2 : PySem.W.kitOne K (.ref a_NoText) (.ref a_TooMany) = some false) (k3 : PySem.W.kitOne K (.ref a_NoText) (.ref a_NoTable) = some false)
    (k4 : PySem.W.kitOne K (.ref a_NoText) (.ref a_NoBanding) = some false) (k5 : PySem.W.kitOne K (.ref a_NoText) (.ref a_NoSetting) = some false) (k6 : PySem.W.kitOne K (.ref a_NoText) (.ref a_NoMove) = some false) (k7 : PySem.W.kitOne K (.ref a_NoText) (.ref a_NoPaper) = some false) (k8 : PySem.W.kitOne K (.ref a_NoText) (.ref a_NoRow) = some false) (k9 : PySem.W.kitOne K (.ref a_NoText) (.ref a_NoName) = some false)
    (kv : PySem.W.kitOne K (.ref a_NoText) (.type "ValueError") = some true) (h_read_sum : HasX P w K mg base 4 "read_sum" ["text"] (spSum a_NoText)) (b_isinstance : mg "isinstance" = none) (b_ValueError : mg "ValueError" = none) (b_int : mg "int" = none) : FnOk P w K mg base CX0 5 f fd ["_law_thing"] spSaid := by
  refine F.ok sc__law_said (fun vs H Q E h => ?_) (fun cdv A outer s H vs Q E hr h => ?_)
  · obtain ⟨v, rfl, _⟩ := h
    rfl
  · obtain ⟨v, rfl, h⟩ := h
    let R_try : Addr → Hp → Prop := fun C H' => C = a_NoText ∧ ∀ H'', Same H' H'' → Q (.str "no text") H''
    have hR_try : ∀ C H', R_try C H' → PySem.W.mroIn K C (.ref a_FrontError) = some true := fun C H' z => by rw [z.1]; exact m_NoText
    refine ⟨_, (pss_one (ps_try R_try (fun pins => (pss_one (ps_ret (pe_hasX h_read_sum (hr.mono (by decide)) (passT rfl) (pa_cons (pv 0) pa_nil))))) (fun pins a_x => (pss_cons (ps_set (i := 2) sc__law_said.nd rfl (Or.inl rfl) (pe_lst (pa_cons (pe_callB (call_isX (K := K) rfl) (by rfl) b_isinstance boot_isinstance (pa_cons (pv 1) (pa_cons (pe_glob (v := .ref a_NoText) (by rfl) g_NoText rfl) pa_nil))) (pa_cons (pe_callB (call_isX (K := K) rfl) (by rfl) b_isinstance boot_isinstance (pa_cons (pv 1) (pa_cons (pe_glob (v := .ref a_NoHeights) (by rfl) g_NoHeights rfl) pa_nil))) (pa_cons (pe_callB (call_isX (K := K) rfl) (by rfl) b_isinstance boot_isinstance (pa_cons (pv 1) (pa_cons (pe_glob (v := .ref a_TooMany) (by rfl) g_TooMany rfl) pa_nil))) (pa_cons (pe_callB (call_isX (K := K) rfl) (by rfl) b_isinstance boot_isinstance (pa_cons (pv 1) (pa_cons (pe_glob (v := .ref a_NoTable) (by rfl) g_NoTable rfl) pa_nil))) pa_nil))))))
      (pss_cons (ps_set (i := 2) sc__law_said.nd rfl (Or.inl rfl) (pe_op op_cat (pv 2) (pe_lst (pa_cons (pe_callB (call_isX (K := K) rfl) (by rfl) b_isinstance boot_isinstance (pa_cons (pv 1) (pa_cons (pe_glob (v := .ref a_NoBanding) (by rfl) g_NoBanding rfl) pa_nil))) (pa_cons (pe_callB (call_isX (K := K) rfl) (by rfl) b_isinstance boot_isinstance (pa_cons (pv 1) (pa_cons (pe_glob (v := .ref a_NoSetting) (by rfl) g_NoSetting rfl) pa_nil))) (pa_cons (pe_callB (call_isX (K := K) rfl) (by rfl) b_isinstance boot_isinstance (pa_cons (pv 1) (pa_cons (pe_glob (v := .ref a_NoMove) (by rfl) g_NoMove rfl) pa_nil))) pa_nil))))))
      (pss_cons (ps_set (i := 2) sc__law_said.nd rfl (Or.inl rfl) (pe_op op_cat (pv 2) (pe_lst (pa_cons (pe_callB (call_isX (K := K) rfl) (by rfl) b_isinstance boot_isinstance (pa_cons (pv 1) (pa_cons (pe_glob (v := .ref a_NoPaper) (by rfl) g_NoPaper rfl) pa_nil))) (pa_cons (pe_callB (call_isX (K := K) rfl) (by rfl) b_isinstance boot_isinstance (pa_cons (pv 1) (pa_cons (pe_glob (v := .ref a_NoRow) (by rfl) g_NoRow rfl) pa_nil))) (pa_cons (pe_callB (call_isX (K := K) rfl) (by rfl) b_isinstance boot_isinstance (pa_cons (pv 1) (pa_cons (pe_glob (v := .ref a_NoName) (by rfl) g_NoName rfl) pa_nil))) pa_nil))))))
      (pss_one (ps_ret (pe_op op_mulS pe_str (pe_callTy call_int1 (by rfl) b_int boot_int (pa_cons (pe_and (pe_cmpR op_eq (pe_bmK (K := K) rfl (pe_bm PySem.F.plainAttrs_list PySem.F.slot_list_count PySem.F.type_list_count (mt_countK (K := K) rfl) (pv 2) (pa_cons pe_bl pa_nil))) pe_int (nomark _)) (pe_and (pe_ix (ix_listK (K := K) rfl) (pv 2) pe_int (fun _ _ => rfl)) (pe_one (pe_callB (call_isX (K := K) rfl) (by rfl) b_isinstance boot_isinstance (pa_cons (pv 1) (pa_cons (pe_bltn (v := .ty "ValueError") (by rfl) b_ValueError PyProof.Rows.Boot.«ValueError» rfl) pa_nil)))))) pa_nil))))))))) (by rfl) g_FrontError x_FrontError hR_try sc__law_said.nd (i := 1) rfl rfl)), ?_⟩
    refine ⟨?_, fun a C H1 hR ha => ?_⟩
    · refine ⟨_, rfl, v, rfl, ?_⟩
      rcases h with ⟨x, rfl, hx, q1, q2⟩ | ⟨sv, ns, q⟩
      · exact .inl ⟨x, rfl, hx, q1, fun hn H1 s1 => ⟨a_NoText, rfl, rfl, fun H2 s2 => q2 hn H2 (s1.trans s2)⟩⟩
      · exact .inr ⟨sv, ns, fun H1 s1 => ⟨a_NoText, rfl, rfl, fun H2 s2 => q H2 (s1.trans s2)⟩⟩
    · obtain ⟨rfl, q⟩ := hR
      have s0 : Same H1 (upd H1 a (.ext (isX a C))) := Same.laid ha
      have ha0 : (upd H1 a (.ext (isX a C))) a = some (.ext (isX a C)) := upd_same
      generalize upd H1 a (.ext (isX a C)) = H0 at *
      refine ⟨_, rfl, a, _, _, true, rfl, ha0, xc, .inl ⟨_, rfl, k0⟩, _, rfl, a, _, _, false, rfl, ha0, xc, .inl ⟨_, rfl, k1⟩, _, rfl, a, _, _, false, rfl, ha0, xc, .inl ⟨_, rfl, k2⟩, _, rfl, a, _, _, false, rfl, ha0, xc, .inl ⟨_, rfl, k3⟩, (by show 4 ≤ sizeLine; decide), fun p1 hp1 => ?_⟩
      have s1 : Same H0 (upd H0 p1 (.lst [.bl true, .bl false, .bl false, .bl false])) := Same.laid hp1
      have e1 : (upd H0 p1 (.lst [.bl true, .bl false, .bl false, .bl false])) p1 = some (.lst [.bl true, .bl false, .bl false, .bl false]) := upd_same
      generalize upd H0 p1 (.lst [.bl true, .bl false, .bl false, .bl false]) = H2 at *
      have ha2 := s1 _ _ ha0
      refine ⟨_, rfl, _, rfl, a, _, _, false, rfl, ha2, xc, .inl ⟨_, rfl, k4⟩, _, rfl, a, _, _, false, rfl, ha2, xc, .inl ⟨_, rfl, k5⟩, _, rfl, a, _, _, false, rfl, ha2, xc, .inl ⟨_, rfl, k6⟩, (by show 3 ≤ sizeLine; decide), fun p2 hp2 => ?_⟩
      have s2 : Same H2 (upd H2 p2 (.lst [.bl false, .bl false, .bl false])) := Same.laid hp2
      have e2 : (upd H2 p2 (.lst [.bl false, .bl false, .bl false])) p2 = some (.lst [.bl false, .bl false, .bl false]) := upd_same
      generalize upd H2 p2 (.lst [.bl false, .bl false, .bl false]) = H3 at *
      refine rCat_new (s2 _ _ e1) e2 (by show 7 ≤ sizeLine; decide) (fun p3 H4 hp3 s3 e3 => ?_)
      have ha4 := s3 _ _ (s2 _ _ ha2)
      refine ⟨_, rfl, _, rfl, a, _, _, false, rfl, ha4, xc, .inl ⟨_, rfl, k7⟩, _, rfl, a, _, _, false, rfl, ha4, xc, .inl ⟨_, rfl, k8⟩, _, rfl, a, _, _, false, rfl, ha4, xc, .inl ⟨_, rfl, k9⟩, (by show 3 ≤ sizeLine; decide), fun p4 hp4 => ?_⟩
      have s4 : Same H4 (upd H4 p4 (.lst [.bl false, .bl false, .bl false])) := Same.laid hp4
      have e4 : (upd H4 p4 (.lst [.bl false, .bl false, .bl false])) p4 = some (.lst [.bl false, .bl false, .bl false]) := upd_same
      generalize upd H4 p4 (.lst [.bl false, .bl false, .bl false]) = H5 at *
      refine rCat_new (s4 _ _ e3) e4 (by show 10 ≤ sizeLine; decide) (fun p5 H6 hp5 s5 e5 => ?_)
      have e5 : H6 p5 = some (.lst wh10) := e5
      have ha6 := s5 _ _ (s4 _ _ ha4)
      have sA : Same H1 H6 := ((((s0.trans s1).trans s2).trans s3).trans s4).trans s5
      have c1 : ((wh10).countP fun z => eqV z (.bl true)) = 1 := by decide +kernel
      refine ⟨_, rfl, .inl ⟨rfl, _, SqL.of e5⟩, p5, _, _, rfl, rfl, SqL.of e5, rfl, (by decide +kernel), rfl, _, rfl, ?_⟩
      refine ite2 (fun _ => ?_) (fun z => ?_)
      rotate_left
      · have z : ¬ (decide (V.int (((wh10).countP fun z => eqV z (.bl true) : Nat) : Int) = V.int 1)) = true := z
        rw [c1] at z
        exact absurd rfl z
      refine ⟨_, rfl, p5, _, _, _, rfl, rfl, SqL.of e5, rfl, _, rfl, iteT ?_⟩
      refine ⟨_, rfl, a, _, _, true, rfl, ha6, xc, .inr ⟨_, rfl, kv⟩, ?_⟩
      exact .inr ⟨true, rfl, _, _, rfl, rfl, .inr rfl, q H6 sA⟩
end
end Qk66

namespace Qk66
open PySem L2 PyProof.Rows
section
variable {P : Program} {w : World} {K : PySem.W.Frag} {mg : Str → Option Value} {base : Heap}
theorem t60 {m : Int} (h : m ≤ 1000) : m < 10 ^ 60 := Int.lt_of_le_of_lt h (by decide +kernel)
theorem frm_put {b p : Addr} {H H' : Hp} {o : HO} (s : Frm b H H') (h : H p = none) : Frm b H (L2.upd H' p o) := fun c u e n => by rw [upd_ne (ne_of_none e h)]; exact s c u e n
theorem bag_ne {H : Hp} {b p : Addr} (x : Bag H b) (h : H p = none) : p ≠ b := by obtain ⟨_, _, _, e⟩ := x; exact (ne_of_none e h).symm
theorem bag_same {H H' : Hp} {b : Addr} (s : Same H H') (x : Bag H b) : Bag H' b := let ⟨g, r, h, e⟩ := x; ⟨g, r, h, s _ _ e⟩
theorem bag_put {H : Hp} {b p : Addr} {o : HO} (x : Bag H b) (h : p ≠ b) : Bag (L2.upd H p o) b := let ⟨g, r, h0, e⟩ := x; ⟨g, r, h0, by rw [upd_ne h.symm]; exact e⟩
theorem bag_tups {b : Addr} {H H' : Hp} (f : Frm b H H') (x : Bag H b) : ∀ t p, H t = some (.tup p) → H' t = some (.tup p) := f.tups fun p z => by
  obtain ⟨_, _, _, e⟩ := x
  rw [e] at z; cases z
theorem zip_rise : ∀ {L : List (List Int)}, Rise L → L.Nodup → ((L.zip (L.drop 1)).all fun p => lexLt p.1 p.2) = true
  | [], _, _ => rfl
  | [a], _, _ => rfl
  | a :: b :: r, h, n => by
    have ih := zip_rise (L := b :: r) (List.Pairwise.tail h) (List.Pairwise.tail n)
    show (lexLt a b && ((b :: r).zip r).all fun p => lexLt p.1 p.2) = true
    rw [Bool.and_eq_true]
    refine ⟨?_, ih⟩
    have h1 := (List.pairwise_cons.mp h).1 b List.mem_cons_self
    have h2 := (List.pairwise_cons.mp n).1 b List.mem_cons_self
    cases e : lexLt a b with
    | true => rfl
    | false => exact absurd (lex_total e h1) h2
theorem fit_of {L : List (List Int)} (h : Rise L) (n : L.Nodup) (l : L.length ≤ 40) (k : ∀ w ∈ L, w.length ≤ 8 ∧ smallW w) : fitS L = true := by
  unfold fitS sumB
  rw [zip_rise h n, decide_eq_true l, Bool.and_true, Bool.true_and, Bool.and_eq_true, List.all_eq_true, List.all_eq_true]
  exact ⟨fun w hw => List.all_eq_true.mpr fun j hj => decide_eq_true ((k w hw).2 j hj).1, fun w hw => decide_eq_true (k w hw).1⟩
def spSm : Sp := fun vs H Q _ => ∃ (b : Addr), vs = [.ref b] ∧ Bag H b ∧ ∀ (l : Addr) (xs : List V) (L : List (List Int)) (H' : Hp), H l = none → Bag H' b → Frm b H H' → H' l = some (.lst xs) → Words H' xs L → L.length ≤ 40 → (∀ w ∈ L, w.length ≤ 8 ∧ smallW w) → fitS L = true → Q (.ref l) H'
abbrev s__law_sum : Stmt := top 35
theorem sc__law_sum : FnScope ["_law_bag_here", "_law_way", "_law_most", "_law_found", "_law_k", "_law_word"] ["_law_bag_here"] (defScope s__law_sum) := ⟨rfl, rfl, rfl, by decide +kernel, rfl, by decide +kernel, by decide +kernel⟩
theorem ok_sm {f : Addr} {fd : FuncData} (F : Fun K "_law_sum" "_law_sum" s__law_sum f fd) (h__law_take : Has P w K mg base 1 "_law_take" ["_law_bag_here", "_law_most"] spTake) (b_range : mg "range" = none) (b_tuple : mg "tuple" = none) (b_sorted : mg "sorted" = none) : FnOk P w K mg base CX0 2 f fd ["_law_bag_here"] spSm := by
  refine F.ok sc__law_sum (fun vs H Q E h => ?_) (fun cdv A outer s H vs Q E hr h => ?_)
  · obtain ⟨b, rfl, _⟩ := h
    rfl
  · obtain ⟨b, rfl, bg, k⟩ := h
    refine ⟨_, (pss_cons (ps_set (i := 1) sc__law_sum.nd rfl (Or.inr rfl) (pe_has h__law_take (hr.mono (by decide)) (pa_cons (pv 0) (pa_cons pe_int pa_nil))))
      (pss_cons (ps_set (i := 2) sc__law_sum.nd rfl (Or.inl rfl) (pe_ix (ix_listK (K := K) rfl) (pe_lst (pa_cons pe_int (pa_cons pe_int (pa_cons pe_int (pa_cons pe_int (pa_cons pe_int (pa_cons pe_int pa_nil))))))) (pv 1) (fun _ _ => rfl)))
      (pss_cons (ps_set (i := 3) sc__law_sum.nd rfl (Or.inl rfl) (pe_lst pa_nil))
      (pss_cons (ps_for PassesOwn.never rfl (pi_range1 (by rfl) b_range (pa_cons (pe_has h__law_take (hr.mono (by decide)) (pa_cons (pv 0) (pa_cons (pe_op op_add (pv 2) pe_int) pa_nil))) pa_nil)) (pg_name (i := 4) sc__law_sum.nd rfl (Or.inl rfl)) (pss_cons (ps_set (i := 5) sc__law_sum.nd rfl (Or.inl rfl) (pe_callTy call_tupleL (by rfl) b_tuple boot_tuple (pa_cons (pe_lc (Ls := ["_law_name"]) (Fs := ["_law_bag_here", "_law_way"]) (fi := [0, 1]) (LcScope.of (show lcLook ["_law_bag_here", "_law_way", "_law_most", "_law_found", "_law_k", "_law_word"] (defScope s__law_sum) _ ["_law_bag_here", "_law_way"] [0, 1] = true by decide +kernel)) rfl (pi_range1 (by rfl) b_range (pa_cons (pe_has h__law_take (hr.mono (by decide)) (pa_cons (pv 0) (pa_cons pe_int pa_nil))) pa_nil)) (fun cl C s3 H3 ex => ⟨(pg_name (i := 0) (show ((["_law_name"] : List Str) ++ (["_law_bag_here", "_law_way"] : List Str)).Nodup by decide +kernel) rfl (Or.inl rfl)), pts_nil, (pe_has h__law_take (hr.mono (by decide)) (pa_cons (pv 1) (pa_cons (pe_ix (ix_listK (K := K) rfl) (pe_lst (pa_cons pe_int (pa_cons pe_int pa_nil))) (pe_op op_mod (pv 2) pe_int) (fun _ _ => rfl)) pa_nil)))⟩)) pa_nil)))
      (pss_one (ps_if (pt_cmpR (op_notInW hr.units) (pv 5) (pv 3) rfl) (pss_one (ps_expr (pe_bmK (K := K) rfl (pe_bm PySem.F.plainAttrs_list PySem.F.slot_list_append PySem.F.type_list_append mt_append (pv 3) (pa_cons (pv 5) pa_nil))))) pss_nil))))
      (pss_one (ps_ret (pe_callB (call_sortedWK (K := K) rfl hr.units) (by rfl) b_sorted boot_sorted (pa_cons (pv 3) pa_nil)))))))), ?_⟩
    refine ⟨_, rfl, b, 6, rfl, bg, by decide, t60 (by decide), fun wy H1 w0 w1 bg1 f1 => ?_⟩
    refine ⟨by show 6 ≤ sizeLine; decide, fun p hp => ?_⟩
    have s2 : Same H1 (upd H1 p (.lst [.int 2, .int 5, .int 40, .int 3, .int 4, .int 4])) := Same.laid hp
    have e2 : (upd H1 p (.lst [.int 2, .int 5, .int 40, .int 3, .int 4, .int 4])) p = some (.lst [.int 2, .int 5, .int 40, .int 3, .int 4, .int 4]) := upd_same
    generalize upd H1 p (.lst [.int 2, .int 5, .int 40, .int 3, .int 4, .int 4]) = H2 at *
    obtain ⟨mo, hmo, m1, m2⟩ : ∃ m : Int, atI [V.int 2, .int 5, .int 40, .int 3, .int 4, .int 4] wy = some (.int m) ∧ 2 ≤ m ∧ m ≤ 40 := by
      have : wy = 0 ∨ wy = 1 ∨ wy = 2 ∨ wy = 3 ∨ wy = 4 ∨ wy = 5 := by omega
      rcases this with rfl | rfl | rfl | rfl | rfl | rfl <;> exact ⟨_, rfl, by decide, by decide⟩
    refine ⟨_, rfl, p, _, _, .int mo, rfl, rfl, SqL.of e2, hmo, ?_⟩
    refine ⟨by show 0 ≤ sizeLine; decide, fun fo hfo => ?_⟩
    have s3 : Same H2 (upd H2 fo (.lst [])) := Same.laid hfo
    have e3 : (upd H2 fo (.lst [])) fo = some (.lst []) := upd_same
    generalize upd H2 fo (.lst []) = H3 at *
    have bg2 := bag_same s2 bg1
    have bg3 := bag_same s3 bg2
    have f3 : Frm b H H3 := (f1.trans s2.frm).trans s3.frm
    have nfo : fo ≠ b := bag_ne bg2 hfo
    have ffo : H fo = none := (f1.trans s2.frm).free bg2 hfo
    refine ⟨_, rfl, _, rfl, _, _, rfl, rfl, b, _, rfl, bg3, by omega, t60 (by omega), fun d H4 d0 d1 bg4 f4 => ⟨d, rfl, by omega, by omega, for_range (n := d.toNat) (fun i σ G => ∃ (v4 v5 : Option V) (xs : List V) (L : List (List Int)), σ = [some (.ref b), some (.int wy), some (.int mo), some (.ref fo), v4, v5] ∧ Bag G b ∧ Frm b H G ∧ G fo = some (.lst xs) ∧ Words G xs L ∧ L.length ≤ i ∧ (∀ w ∈ L, w.length ≤ 8 ∧ smallW w) ∧ L.Nodup)
      ⟨none, none, [], [], rfl, bg4, f3.trans f4, f4 _ _ e3 nfo, .nil, Nat.le_refl _, (fun w hw => by cases hw), List.nodup_nil⟩ ?_ ?_⟩⟩
    · rintro i σ G hi ⟨v4, v5, xs, L, rfl, bgG, fG, eG, hL, lL, kL, nL⟩
      refine ⟨_, rfl, b, 9, rfl, bgG, by decide, t60 (by decide), fun t G1 t0 t1 bgA fA => ⟨t, rfl, by omega, by omega, lc_rng (n := t.toNat) (by rw [sizeLine_eq]; omega) (fun i zs G' => Frm b G1 G' ∧ Bag G' b ∧ ∃ w : List Int, zs = w.map V.int ∧ w.length = i ∧ smallW w) ⟨Frm.refl _ _, bgA, [], rfl, rfl, fun k hk => nomatch hk⟩ ?_ ?_ ?_⟩⟩
      · rintro i zs G' ⟨_, _, w, rfl, e, _⟩
        rw [List.length_map, e]; exact Nat.le_refl _
      · rintro j zs G' hj ⟨fr, bgB, w, rfl, e, wn⟩
        refine lcG ?_
        refine ⟨_, rfl, by show 2 ≤ sizeLine; decide, fun q hq => ?_⟩
        obtain ⟨m, hm, m1', m2'⟩ : ∃ m : Int, atI [V.int 100, .int 4] (wy % 2) = some (.int m) ∧ 1 ≤ m ∧ m ≤ 100 := by
          have : wy % 2 = 0 ∨ wy % 2 = 1 := by omega
          rcases this with z | z <;> rw [z] <;> exact ⟨_, rfl, by decide, by decide⟩
        refine ⟨_, rfl, _, _, rfl, rfl, (by decide : (0 : Int) < 2), q, _, _, .int m, rfl, rfl, SqL.of upd_same, hm, ?_⟩
        refine ⟨b, m, rfl, bag_same (Same.laid hq) bgB, m1', t60 (by omega), fun k G2 k0 k1 bgC fC => ?_⟩
        refine ⟨(fr.trans (Same.laid hq).frm).trans fC, bgC, w ++ [k], by simp, by simp [e], fun k' hk' => ?_⟩
        rcases List.mem_append.mp hk' with z | z
        · exact wn k' z
        · rw [List.mem_singleton.mp z]; omega
      · rintro zs G' ⟨fr, bgB, w, rfl, e, wn⟩ D hD
        refine ⟨D, _, rfl, upd_same, fun u hu => ?_⟩
        have sE : Same G' (upd (upd G' D (.lst (w.map V.int))) u (.tup (w.map V.int))) := (Same.laid hD).step hu
        have eu : (upd (upd G' D (.lst (w.map V.int))) u (.tup (w.map V.int))) u = some (.tup (w.map V.int)) := upd_same
        generalize upd (upd G' D (.lst (w.map V.int))) u (.tup (w.map V.int)) = G5 at *
        have f5 : Frm b G G5 := (fA.trans fr).trans sE.frm
        have bg5 := bag_same sE bgB
        have e5 := f5 _ _ eG nfo
        have hL5 := hL.mono (bag_tups f5 bgG)
        refine ⟨_, rfl, _, rfl, fo, xs, w, L, rfl, e5, hL5, ⟨u, rfl, eu⟩, _, rfl, ?_⟩
        by_cases hin : w ∈ L
        · rw [decide_eq_true hin]
          exact iteF ⟨_, _, xs, L, rfl, bg5, fG.trans f5, e5, hL5, by omega, kL, nL⟩
        · rw [decide_eq_false hin]
          refine iteT ⟨_, rfl, .inl ⟨rfl, _, SqL.of e5⟩, _, rfl, fo, _, _, rfl, rfl, e5, ?_, ?_⟩
          · rw [Words.len hL5, sizeLine_eq]; omega
          refine ⟨_, _, xs ++ [.ref u], L ++ [w], rfl, bag_put bg5 nfo, frm_put (fG.trans f5) ffo, upd_same, ?_, ?_, ?_, ?_⟩
          · have h6 : Words G5 (xs ++ [.ref u]) (L ++ [w]) := Words.snoc hL5 ⟨u, rfl, eu⟩
            exact h6.mono fun t' p' e' => by
              rw [upd_ne (ne_of e' e5 (by intro z; cases z))]
              exact e'
          · rw [List.length_append, List.length_singleton]; omega
          · intro v hv
            rcases List.mem_append.mp hv with z | z
            · exact kL v z
            · rw [List.mem_singleton.mp z]; exact ⟨by omega, wn⟩
          · rw [List.nodup_append]
            refine ⟨nL, by simp, fun a ha c hc z => ?_⟩
            rw [List.mem_singleton.mp hc] at z
            exact hin (z ▸ ha)
    · rintro σ G ⟨v4, v5, xs, L, rfl, bgG, fG, eG, hL, lL, kL, nL⟩
      refine ⟨_, rfl, fo, xs, L, rfl, SqL.of eG, hL, fun l zs vs hl pz pv wv rise => ?_⟩
      have l40 : vs.length ≤ 40 := by rw [pv.length_eq]; omega
      have k8 : ∀ w ∈ vs, w.length ≤ 8 ∧ smallW w := fun w hw => kL w (pv.mem_iff.mp hw)
      exact k l zs vs _ (fG.free bgG hl) (bag_same (Same.laid hl) bgG) (fG.trans (Same.laid hl).frm) upd_same (Words.same (Same.laid hl) wv) l40 k8 (fit_of rise (pv.nodup_iff.mpr nL) l40 k8)
end
end Qk66

namespace Qk66
open PySem L2 PyProof.Rows
section
variable {P : Program} {w : World} {K : PySem.W.Frag} {mg : Str → Option Value} {base : Heap}
abbrev tsRead (K : PySem.W.Frag) : TS :=
  tSeq (tIfS (tTest (tOp rEq (tVar 0) (tC (V.str (Str.ofString "0"))))) (tRet (tLst tNil)) tNext)
    (tSeq (tAsg (tLst tNil) (gName 1))
      (tSeq
        (tFor
          (iList K
            (tBM K "str"
              (fun x xs H Q =>
                ∃ z y,
                  x = V.str z ∧
                    xs = [V.str y] ∧
                      (y.length == 0) = false ∧
                        z.length ≤ sizeLine ∧
                          (Txt.split z y).length ≤ sizeLine ∧
                            ∀ (p : Addr), H p = none → Q (V.ref p) (upd H p (HO.lst (List.map V.str (Txt.split z y)))))
              (tVar 0) (tCons (tC (V.str (Str.ofString " + "))) tNil)))
          (gName 2)
          (tSeq (tAsg (tLst tNil) (gName 3))
            (tSeq
              (tFor
                (iList K
                  (tOp rRep
                    (tBM K "str"
                      (fun x xs H Q =>
                        ∃ z y,
                          x = V.str z ∧
                            xs = [V.str y] ∧
                              (y.length == 0) = false ∧
                                z.length ≤ sizeLine ∧
                                  (Txt.split z y).length ≤ sizeLine ∧
                                    ∀ (p : Addr),
                                      H p = none → Q (V.ref p) (upd H p (HO.lst (List.map V.str (Txt.split z y)))))
                      (tVar 2) (tCons (tC (V.str (Str.ofString "."))) tNil))
                    (tCB
                      (fun xs H Q =>
                        (∃ i, xs = [V.int i] ∧ Q (V.int i) H) ∨
                          ∃ k, xs = [V.bl k] ∧ Q (V.int (if k = true then 1 else 0)) H)
                      (tCons (tOp rNe (tVar 2) (tC (V.str (Str.ofString "1")))) tNil))))
                (gName 4)
                (tSeq
                  (tIfS
                    (tOr
                      (tTest
                        (tOp rNe (tSl rSlS (tVar 4) tNoPart (tPart (tC (V.int 1)))) (tC (V.str (Str.ofString "x")))))
                      (tTest
                        (tOp (fun x y H Q => y = V.non ∧ Q (V.bl (decide (x = V.non))) H)
                          (tCall spNb [] E0 (tCons (tSl rSlS (tVar 4) (tPart (tC (V.int 1))) tNoPart) tNil))
                          (tC V.non))))
                    (tRet (tC V.non)) tNext)
                  (tDrop
                    (tBM K "list" rAppend (tVar 3)
                      (tCons (tCall spNb [] E0 (tCons (tSl rSlS (tVar 4) (tPart (tC (V.int 1))) tNoPart) tNil))
                        tNil)))))
              (tSeq
                (tIfS
                  (tTest
                    (tOp (rI0 fun i j => V.bl (decide (j < i)))
                      (tCB
                        (fun xs H Q => ∃ p ys, xs = [V.ref p] ∧ (SqL K H p ys ∨ SqT K H p ys) ∧ Q (V.int ↑ys.length) H)
                        (tCons (tVar 3) tNil))
                      (tC (V.int 8))))
                  (tRet (tC V.non)) tNext)
                (tDrop
                  (tBM K "list" rAppend (tVar 1)
                    (tCons
                      (tCB
                        (fun xs H Q =>
                          ∃ p ys,
                            xs = [V.ref p] ∧
                              H p = some (HO.lst ys) ∧ ∀ (l : Addr), H l = none → Q (V.ref l) (upd H l (HO.tup ys)))
                        (tCons (tVar 3) tNil))
                      tNil)))))))
        (tSeq
          (tIfS
            (tOr
              (tTest
                (tOp (rI0 fun i j => V.bl (decide (j < i)))
                  (tCB (fun xs H Q => ∃ p ys, xs = [V.ref p] ∧ (SqL K H p ys ∨ SqT K H p ys) ∧ Q (V.int ↑ys.length) H)
                    (tCons (tVar 1) tNil))
                  (tC (V.int 40))))
              (tNot
                (tB
                  (tCB (fun xs H Q => ∃ p bs, xs = [V.ref p] ∧ SqL K H p (List.map V.bl bs) ∧ Q (V.bl (bs.all id)) H)
                    (tCons
                      (tLc [Str.ofString "_law_k"].length [1]
                        (iRng2
                          (tCons (tC (V.int 1))
                            (tCons
                              (tCB
                                (fun xs H Q =>
                                  ∃ p ys, xs = [V.ref p] ∧ (SqL K H p ys ∨ SqT K H p ys) ∧ Q (V.int ↑ys.length) H)
                                (tCons (tVar 1) tNil))
                              tNil)))
                        (gName 0) tTrue
                        (tOp rLtW (tOp (rIxL K) (tVar 1) (tOp (rI0 fun i j => V.int (i - j)) (tVar 0) (tC (V.int 1))))
                          (tOp (rIxL K) (tVar 1) (tVar 0))))
                      tNil)))))
            (tRet (tC V.non)) tNext)
          (tRet (tVar 1)))))
def spRd : Sp := fun vs H Q _ => ∃ (x : Str), vs = [.str x] ∧ x.length ≤ 2900 ∧ (∀ L, sumBy figL x = some L → ∀ l xs H', H l = none → Same H H' → H' l = some (.lst xs) → Words H' xs L → Q (.ref l) H') ∧ (sumBy figL x = none → ∀ H', Same H H' → Q .non H')
theorem rise_range (L : List (List Int)) : ((L.zip (L.drop 1)).all fun p => lexLt p.1 p.2) = ((List.range (L.length - 1)).map fun j => lexLt (L.getD j []) (L.getD (j + 1) [])).all id := by
  rw [List.all_map, Bool.eq_iff_iff, List.all_eq_true, List.all_eq_true]
  constructor
  · intro h j hj
    have hj := List.mem_range.mp hj
    have e : (L.zip (L.drop 1))[j]? = some (L.getD j [], L.getD (j + 1) []) := by
      rw [List.getElem?_zip_eq_some]
      refine ⟨?_, ?_⟩
      · show L[j]? = some (L.getD j [])
        have : j < L.length := by omega
        simp [this]
      · show (L.drop 1)[j]? = some (L.getD (j + 1) [])
        have : j + 1 < L.length := by omega
        rw [List.getElem?_drop, Nat.add_comm 1 j]
        simp [this]
    exact h _ (List.mem_of_getElem? e)
  · intro h p hp
    obtain ⟨j, hj⟩ := List.mem_iff_getElem?.mp hp
    rw [List.getElem?_zip_eq_some, List.getElem?_drop, Nat.add_comm 1 j] at hj
    obtain ⟨h1, h2⟩ := hj
    have l2 := (List.getElem?_eq_some_iff.mp h2).1
    have := h j (List.mem_range.mpr (by omega))
    simp only [Function.comp, id] at this
    rw [List.getD_eq_getElem?_getD, List.getD_eq_getElem?_getD, h1, h2] at this
    exact this
theorem wordBy_pos {y : Str} {w : List Int} (h : wordBy figL y = some w) : okW w = true := by
  unfold wordBy at h
  by_cases c : y = "1"
  · rw [if_pos c] at h; cases h; rfl
  · rw [if_neg c] at h
    refine List.all_eq_true.mpr fun k hk => decide_eq_true ?_
    obtain ⟨z, _, hz⟩ := Paired.mem1 (Paired.flip (mapMG.mp h)) k hk
    have hz : nameBy figL z = some k := hz
    unfold nameBy at hz
    by_cases d : z.cps.toList.take 1 = [120]
    · rw [if_pos d] at hz; exact (figL_pos hz).1
    · rw [if_neg d] at hz; cases hz
theorem words_pos {ys : List Str} {L : List (List Int)} (h : Paired (fun x p => wordBy figL x = some p) ys L) : (L.all fun w => w.all fun k => decide (0 ≤ k)) = true := by
  refine List.all_eq_true.mpr fun w hw => ?_
  obtain ⟨z, _, hz⟩ := Paired.mem1 (Paired.flip h) w hw
  exact wordBy_pos hz
theorem long_none {x y : Str} {w : List Int} (c : x ≠ "0") (my : y ∈ Txt.split x " + ") (h : wordBy figL y = some w) (l : 8 < w.length) : sumBy figL x = none := by
  unfold sumBy
  rw [if_neg c]
  cases e : (Txt.split x " + ").mapM (wordBy figL) with
  | none => rfl
  | some L =>
    show (if fitS L = true then some L else none) = none
    rw [if_neg]
    intro z
    obtain ⟨w', hw', e'⟩ := Paired.mem1 (mapMG.mp e) y my
    have e' : wordBy figL y = some w' := e'
    rw [h] at e'
    cases e'
    unfold fitS at z
    simp only [Bool.and_eq_true] at z
    have := of_decide_eq_true (List.all_eq_true.mp z.2.2 w hw')
    omega
theorem rep_if (c : Bool) {α : Type} (xs : List α) : (List.replicate (if c = true then (1 : Int) else 0).toNat xs).flatten = if c = true then xs else [] := by
  cases c
  · rfl
  · show [xs].flatten = xs; simp
theorem rd_read {vs : List V} {H : Hp} {Q : VK} {E : XK} (h : spRd vs H Q E) : tsRead K { nx := fun x H' => Q V.non H', rt := Q } (L2.start [Str.ofString "_law_text_here", Str.ofString "_law_found", Str.ofString "_law_part", Str.ofString "_law_names", Str.ofString "_law_one"] vs) H := by
  obtain ⟨x, rfl, hx, q1, q2⟩ := h
  have lx : x.length ≤ sizeLine := by rw [sizeLine_eq]; omega
  refine ⟨_, rfl, rfl, _, rfl, ?_⟩
  by_cases c : x = "0"
  · exact iteTd (congrArg V.str c) ⟨by show 0 ≤ sizeLine; decide, fun l hl => q1 [] (by unfold sumBy; rw [if_pos c]) l [] _ hl (Same.laid hl) upd_same .nil⟩
  refine iteFd (fun z => c (V.str.inj z)) ?_
  have hb : sumBy figL x = ((Txt.split x " + ").mapM (wordBy figL)).bind fun L => if fitS L = true then some L else none := by unfold sumBy; rw [if_neg c]
  have wt := split_weight x " + " (by decide +kernel)
  have sl : (Txt.split x " + ").length ≤ 2901 := by omega
  refine ⟨by show 0 ≤ sizeLine; decide, fun fo hfo => ?_⟩
  have s0 : Same H (upd H fo (.lst [])) := Same.laid hfo
  have e0 : (upd H fo (.lst [])) fo = some (.lst []) := upd_same
  generalize upd H fo (.lst []) = H0 at *
  refine ⟨_, rfl, rfl, x, " + ", rfl, rfl, by decide +kernel, lx, by rw [sizeLine_eq]; omega, fun p hp => ?_⟩
  have nfp : fo ≠ p := ne_of_none e0 hp
  have s1 : Same H0 (upd H0 p (.lst ((Txt.split x " + ").map V.str))) := Same.laid hp
  have e1 : (upd H0 p (.lst ((Txt.split x " + ").map V.str))) p = some (.lst ((Txt.split x " + ").map V.str)) := upd_same
  have e01 := s1 _ _ e0
  generalize upd H0 p (.lst ((Txt.split x " + ").map V.str)) = H1 at *
  have fp : H p = none := s0.free hp
  refine ⟨p, rfl, ⟨_, SqL.of e1⟩, for_list (K := K) (a := p) (xs := (Txt.split x " + ").map V.str) (fun i σ G => ∃ (v2 v3 v4 : Option V) (zs : List V) (L : List (List Int)), σ = [some (.str x), some (.ref fo), v2, v3, v4] ∧ Same H G ∧ G p = some (.lst ((Txt.split x " + ").map V.str)) ∧ G fo = some (.lst zs) ∧ Paired (fun x p => wordBy figL x = some p) ((Txt.split x " + ").take i) L ∧ Words G zs L ∧ ∀ w ∈ L, w.length ≤ 8)
    ⟨none, none, none, [], [], rfl, s0.trans s1, e1, e01, .nil, .nil, fun w hw => by cases hw⟩ (fun i σ G _ ⟨_, _, _, _, _, _, _, ep, _⟩ => SqL.of ep) ?_ ?_⟩
  · rintro i v σ G hv ⟨v2, v3, v4, zs, L, rfl, sG, ep, ef, hP, hL, h8⟩
    rw [List.getElem?_map] at hv
    cases ey : (Txt.split x " + ")[i]? with
    | none => rw [ey] at hv; cases hv
    | some y =>
    rw [ey] at hv
    cases hv
    have my : y ∈ Txt.split x " + " := List.mem_of_getElem? ey
    have ly1 : y.length ≤ x.length := part_short my
    have ly : y.length ≤ sizeLine := by omega
    have bad : wordBy figL y = none → ∀ G', Same H G' → Q .non G' := fun hn G' s => q2 (by rw [hb, mapM_noneG my hn]; rfl) G' s
    refine ⟨by show 0 ≤ sizeLine; decide, fun na hna => ?_⟩
    have s2 : Same G (upd G na (.lst [])) := Same.laid hna
    have e2 : (upd G na (.lst [])) na = some (.lst []) := upd_same
    have nna : na ≠ fo := (ne_of_none ef hna).symm
    have nnp : na ≠ p := (ne_of_none ep hna).symm
    have fna : H na = none := sG.free hna
    generalize upd G na (.lst []) = G2 at *
    have wy := split_weight y "." (by decide +kernel)
    refine ⟨_, rfl, rfl, y, ".", rfl, rfl, by decide +kernel, ly, by rw [sizeLine_eq]; omega, fun d hd => ?_⟩
    have s3 : Same G2 (upd G2 d (.lst ((Txt.split y ".").map V.str))) := Same.laid hd
    have e3 : (upd G2 d (.lst ((Txt.split y ".").map V.str))) d = some (.lst ((Txt.split y ".").map V.str)) := upd_same
    generalize upd G2 d (.lst ((Txt.split y ".").map V.str)) = G3 at *
    refine ⟨_, rfl, rfl, .inr ⟨_, rfl, d, _, _, rfl, rfl, e3, ?_, ?_, ?_, fun r hr' => ?_⟩⟩
    · split <;> decide
    · split <;> decide
    · rw [List.length_map, sizeLine_eq]
      split
      · show _ * 1 ≤ _; omega
      · show _ * 0 ≤ _; omega
    rw [rep_if]
    obtain ⟨ns, hns⟩ : ∃ ns : List Str, ns = if y = "1" then [] else Txt.split y "." := ⟨_, rfl⟩
    have ens : (if (!decide (V.str y = V.str (Str.ofString "1"))) = true then (Txt.split y ".").map V.str else []) = ns.map V.str := by
      by_cases z : y = "1"
      · rw [decide_eq_true (congrArg V.str z), hns, if_pos z]; rfl
      · rw [decide_eq_false (fun w => z (V.str.inj w)), hns, if_neg z]; rfl
    have lns : ns.length ≤ 2901 := by
      rw [hns]; split
      · simp
      · omega
    have hwb : wordBy figL y = ns.mapM (nameBy figL) := by
      unfold wordBy
      rw [hns]
      by_cases z : y = "1"
      · rw [if_pos z, if_pos z]; rfl
      · rw [if_neg z, if_neg z]
    have lmem : ∀ o ∈ ns, o.length ≤ 2900 := fun o ho => by
      rw [hns] at ho
      by_cases z : y = "1"
      · rw [if_pos z] at ho; cases ho
      · rw [if_neg z] at ho; exact Nat.le_trans (part_short ho) (by omega)
    rw [ens]
    have s4 : Same G3 (upd G3 r (.lst (ns.map V.str))) := Same.laid hr'
    have e4 : (upd G3 r (.lst (ns.map V.str))) r = some (.lst (ns.map V.str)) := upd_same
    have nr : na ≠ r := ne_of_none (s3 _ _ e2) hr'
    have nfr : fo ≠ r := ne_of_none ((s2.trans s3) _ _ ef) hr'
    generalize upd G3 r (.lst (ns.map V.str)) = G4 at *
    have s24 := (s2.trans s3).trans s4
    refine ⟨r, rfl, ⟨_, SqL.of e4⟩, for_list (K := K) (a := r) (xs := ns.map V.str) (fun j σ G' => ∃ (v4 : Option V) (ks : List Int), σ = [some (.str x), some (.ref fo), some (.str y), some (.ref na), v4] ∧ Same G G' ∧ G' r = some (.lst (ns.map V.str)) ∧ G' na = some (.lst (ks.map V.int)) ∧ Paired (fun x p => nameBy figL x = some p) (ns.take j) ks)
      ⟨v4, [], rfl, s24, e4, s4 _ _ (s3 _ _ e2), .nil⟩ (fun i σ G _ ⟨_, _, _, _, ep, _⟩ => SqL.of ep) ?_ ?_⟩
    · rintro j v σ G5 hv ⟨v4, ks, rfl, s5, er, en, hK⟩
      rw [List.getElem?_map] at hv
      cases eo : ns[j]? with
      | none => rw [eo] at hv; cases hv
      | some o =>
      rw [eo] at hv
      cases hv
      have mo : o ∈ ns := List.mem_of_getElem? eo
      have lo := lmem o mo
      have los : o.length ≤ sizeLine := by rw [sizeLine_eq]; omega
      have badN : nameBy figL o = none → ∀ G', Same H G' → Q .non G' := fun hn G' s => bad (by rw [hwb, mapM_noneG mo hn]) G' s
      refine ⟨_, rfl, 1, rfl, o, rfl, los, rfl, _, rfl, ?_⟩
      by_cases hc : o.cps.toList.take 1 = [120]
      rotate_left
      · rw [decide_eq_false (fun z => hc ((cut_x o).mp (V.str.inj z)))]
        exact iteT (iteT (badN (by unfold nameBy; rw [if_neg hc]) G5 (sG.trans s5)))
      rw [decide_eq_true (congrArg V.str ((cut_x o).mpr hc))]
      refine iteF ?_
      have hnb : nameBy figL o = figL (o.cps.toList.drop 1) := by unfold nameBy; rw [if_pos hc]
      have lt : (cutS o (some 1) none).length ≤ 3000 := by rw [len_signs, cut_tail, List.length_drop, ← len_signs]; omega
      refine ⟨_, rfl, 1, rfl, o, rfl, los, cutS o (some 1) none, rfl, lt, fun G6 s6 => ?_⟩
      rw [cut_tail, ← hnb]
      refine ⟨rfl, _, rfl, ?_⟩
      cases eN : nameBy figL o with
      | none =>
        exact iteT (badN eN G6 (sG.trans (s5.trans s6)))
      | some n =>
      refine iteF ?_
      have en6 := s6 _ _ en
      refine ⟨_, rfl, .inl ⟨rfl, _, SqL.of en6⟩, _, rfl, 1, rfl, o, rfl, los, cutS o (some 1) none, rfl, lt, fun G7 s7 => ?_⟩
      rw [cut_tail, ← hnb, eN]
      have lk := Paired.length hK
      refine ⟨na, _, _, rfl, rfl, s7 _ _ en6, ?_, ?_⟩
      · rw [List.length_map, ← lk, List.length_take, sizeLine_eq]; omega
      refine ⟨_, ks ++ [n], rfl, ((s5.trans s6).trans s7).put hna, ?_, ?_, ?_⟩
      · rw [upd_ne nr.symm]; exact s7 _ _ (s6 _ _ er)
      · rw [upd_same, List.map_append]; rfl
      · rw [List.take_add_one, eo]; exact paired_snoc hK eN
    · rintro σ G5 ⟨v4, ks, rfl, s5, er, en, hK⟩
      rw [List.length_map, List.take_of_length_le (Nat.le_refl _)] at hK
      have ew : wordBy figL y = some ks := by rw [hwb, mapMG.mpr hK]
      refine ⟨_, rfl, na, _, rfl, .inl (SqL.of en), _, _, rfl, rfl, _, rfl, ?_⟩
      rw [List.length_map]
      by_cases c8 : ks.length ≤ 8
      rotate_left
      · rw [decide_eq_true (show (8 : Int) < (ks.length : Int) by omega)]
        exact iteT (q2 (long_none c my ew (by omega)) G5 (sG.trans s5))
      rw [decide_eq_false (show ¬ (8 : Int) < (ks.length : Int) by omega)]
      refine iteF ?_
      have ef5 := s5 _ _ ef
      refine ⟨_, rfl, .inl ⟨rfl, _, SqL.of ef5⟩, _, rfl, na, _, rfl, en, fun t ht => ?_⟩
      have s6 : Same G5 (upd G5 t (.tup (ks.map V.int))) := Same.laid ht
      have et : (upd G5 t (.tup (ks.map V.int))) t = some (.tup (ks.map V.int)) := upd_same
      generalize upd G5 t (.tup (ks.map V.int)) = G6 at *
      have ef6 := s6 _ _ ef5
      refine ⟨fo, _, _, rfl, rfl, ef6, ?_, ?_⟩
      · rw [Words.len hL, ← Paired.length hP, List.length_take, sizeLine_eq]; omega
      refine ⟨_, _, _, zs ++ [.ref t], L ++ [ks], rfl, ((sG.trans s5).trans s6).put hfo, ?_, upd_same, ?_, ?_, ?_⟩
      · rw [upd_ne nfp.symm]; exact s6 _ _ (s5 _ _ ep)
      · rw [List.take_add_one, ey]; exact paired_snoc hP ew
      · have h6 : Words G6 (zs ++ [.ref t]) (L ++ [ks]) := Words.snoc (Words.same (s5.trans s6) hL) ⟨t, rfl, et⟩
        exact h6.mono fun t' p' e' => by
          rw [upd_ne (ne_of e' ef6 (by intro z; cases z))]
          exact e'
      · intro u hu
        rcases List.mem_append.mp hu with z | z
        · exact h8 u z
        · rw [List.mem_singleton.mp z]; exact c8
  · rintro σ G ⟨v2, v3, v4, zs, L, rfl, sG, ep, ef, hP, hL, h8⟩
    rw [List.length_map, List.take_of_length_le (Nat.le_refl _)] at hP
    have hb2 : sumBy figL x = if fitS L = true then some L else none := by rw [hb, mapMG.mpr hP]; rfl
    have ll := Words.len hL
    have lP := Paired.length hP
    have hfit : fitS L = (((L.zip (L.drop 1)).all fun p => lexLt p.1 p.2) && decide (L.length ≤ 40)) := by
      unfold fitS sumB
      rw [words_pos hP, Bool.true_and, show (L.all fun w => decide (w.length ≤ 8)) = true from List.all_eq_true.mpr fun w hw => decide_eq_true (h8 w hw), Bool.and_true]
    refine ⟨_, rfl, fo, _, rfl, .inl (SqL.of ef), _, _, rfl, rfl, _, rfl, ?_⟩
    by_cases c40 : L.length ≤ 40
    rotate_left
    · rw [decide_eq_true (show (40 : Int) < (zs.length : Int) by omega)]
      refine iteT (iteT (q2 ?_ G sG))
      rw [hb2, hfit, decide_eq_false c40, Bool.and_false]; rfl
    rw [decide_eq_false (show ¬ (40 : Int) < (zs.length : Int) by omega)]
    refine iteF ?_
    refine ⟨_, rfl, fo, _, rfl, .inl (SqL.of ef), _, _, rfl, ⟨by decide, by decide, by omega, by omega⟩, ?_⟩
    refine lc_rng (n := ((zs.length : Int) - 1).toNat) (by rw [sizeLine_eq]; omega) (fun i bs G' => Same G G' ∧ bs = ((List.range i).map fun j => lexLt (L.getD j []) (L.getD (j + 1) [])).map V.bl) ⟨Same.refl _, rfl⟩
      (fun i bs G' z => by rw [z.2, List.length_map, List.length_map, List.length_range]; exact Nat.le_refl _) (fun i bs G' hi z => ?_) (fun bs G' z D hD => ?_)
    · obtain ⟨sg, rfl⟩ := z
      have h1 : i + 1 < zs.length := by omega
      obtain ⟨u, hu, wu⟩ := Words.get hL (i := i) (x := zs[i]) (by simp)
      obtain ⟨v, hv, wv⟩ := Words.get hL (i := i + 1) (x := zs[i + 1]) (by simp)
      refine lcG ?_
      refine ⟨_, rfl, _, rfl, _, _, rfl, rfl, fo, _, _, zs[i], rfl, rfl, SqL.of (sg _ _ ef), ?_, ?_⟩
      · show atI zs (1 + (i : Int) - 1) = _
        rw [show 1 + (i : Int) - 1 = ((i : Nat) : Int) by omega]
        exact atI_nat (by simp)
      refine ⟨_, rfl, _, rfl, fo, _, _, zs[i + 1], rfl, rfl, SqL.of (sg _ _ ef), ?_, ?_⟩
      · show atI zs (1 + (i : Int)) = _
        rw [show 1 + (i : Int) = ((i + 1 : Nat) : Int) by omega]
        exact atI_nat (by simp)
      refine ⟨u, v, wu.same sg, wv.same sg, sg, ?_⟩
      rw [List.range_succ, List.map_append, List.map_append]
      simp [hu, hv]
    · obtain ⟨sg, rfl⟩ := z
      have en : ((zs.length : Int) - 1).toNat = L.length - 1 := by omega
      rw [en]
      refine ⟨D, _, rfl, SqL.of upd_same, _, rfl, ?_⟩
      rw [← rise_range]
      rw [decide_eq_true c40, Bool.and_true] at hfit
      rw [← hfit]
      have sH := sG.trans (sg.step (o := .lst (((List.range (L.length - 1)).map fun j => lexLt (L.getD j []) (L.getD (j + 1) [])).map V.bl)) hD)
      have sH2 := sg.step (o := .lst (((List.range (L.length - 1)).map fun j => lexLt (L.getD j []) (L.getD (j + 1) [])).map V.bl)) hD
      cases d : fitS L with
      | false => exact iteT (q2 (by rw [hb2, d]; rfl) _ sH)
      | true => exact iteF ⟨_, rfl, q1 L (by rw [hb2, d]; rfl) fo zs _ hfo sH (sH2 _ _ ef) (Words.same sH2 hL)⟩
end
end Qk66

namespace Qk66
open PySem L2 PyProof.Rows
section
variable {P : Program} {w : World} {K : PySem.W.Frag} {mg : Str → Option Value} {base : Heap}
abbrev s__law_read : Stmt := top 33
theorem sc__law_read : FnScope ["_law_text_here", "_law_found", "_law_part", "_law_names", "_law_one"] ["_law_text_here"] (defScope s__law_read) := ⟨rfl, rfl, rfl, by decide +kernel, rfl, by decide +kernel, by decide +kernel⟩
theorem ok_rd {f : Addr} {fd : FuncData} (F : Fun K "_law_read" "_law_read" s__law_read f fd) (h__law_number : Has P w K mg base 1 "_law_number" ["_law_figures"] spNb) (b_all : mg "all" = none) (b_len : mg "len" = none) (b_int : mg "int" = none) (b_tuple : mg "tuple" = none) (b_range : mg "range" = none) : FnOk P w K mg base CX0 2 f fd ["_law_text_here"] spRd := by
  refine F.ok sc__law_read (fun vs H Q E h => ?_) (fun cdv A outer s H vs Q E hr h => ?_)
  · obtain ⟨x, rfl, _⟩ := h
    rfl
  · exact ⟨_, (pss_cons (ps_if (pt_cmpR op_eq (pv 0) pe_str (nomark _)) (pss_one (ps_ret (pe_lst pa_nil))) pss_nil)
      (pss_cons (ps_set (i := 1) sc__law_read.nd rfl (Or.inr rfl) (pe_lst pa_nil))
      (pss_cons (ps_for PassesOwn.never rfl (pi_listK (K := K) rfl (pe_bmK (K := K) rfl (pe_bm PySem.F.plainAttrs_str PySem.F.slot_str_split PySem.F.type_str_split mt_split (pv 0) (pa_cons pe_str pa_nil)))) (pg_name (i := 2) sc__law_read.nd rfl (Or.inl rfl)) (pss_cons (ps_set (i := 3) sc__law_read.nd rfl (Or.inl rfl) (pe_lst pa_nil))
      (pss_cons (ps_for PassesOwn.never rfl (pi_listK (K := K) rfl (pe_op op_rep (pe_bmK (K := K) rfl (pe_bm PySem.F.plainAttrs_str PySem.F.slot_str_split PySem.F.type_str_split mt_split (pv 2) (pa_cons pe_str pa_nil))) (pe_callTy call_int1 (by rfl) b_int boot_int (pa_cons (pe_cmpR op_ne (pv 2) pe_str (nomark _)) pa_nil)))) (pg_name (i := 4) sc__law_read.nd rfl (Or.inl rfl)) (pss_cons (ps_if (PW.pt (pw_or (pt_cmpR op_ne (pe_slice sl_str (pv 4) po_none (po_some pe_int)) pe_str (nomark _)) (pw_or1 (pt_cmpR op_isN (pe_has h__law_number (hr.mono (by decide)) (pa_cons (pe_slice sl_str (pv 4) (po_some pe_int) po_none) pa_nil)) pe_non (nomark _))))) (pss_one (ps_ret pe_non)) pss_nil)
      (pss_one (ps_expr (pe_bmK (K := K) rfl (pe_bm PySem.F.plainAttrs_list PySem.F.slot_list_append PySem.F.type_list_append mt_append (pv 3) (pa_cons (pe_has h__law_number (hr.mono (by decide)) (pa_cons (pe_slice sl_str (pv 4) (po_some pe_int) po_none) pa_nil)) pa_nil)))))))
      (pss_cons (ps_if (pt_cmpR op_gt (pe_callB (call_lenK (K := K) rfl) (by rfl) b_len PySem.boot_len (pa_cons (pv 3) pa_nil)) pe_int (nomark _)) (pss_one (ps_ret pe_non)) pss_nil)
      (pss_one (ps_expr (pe_bmK (K := K) rfl (pe_bm PySem.F.plainAttrs_list PySem.F.slot_list_append PySem.F.type_list_append mt_append (pv 1) (pa_cons (pe_callTy call_tupleL (by rfl) b_tuple boot_tuple (pa_cons (pv 3) pa_nil)) pa_nil)))))))))
      (pss_cons (ps_if (PW.pt (pw_or (pt_cmpR op_gt (pe_callB (call_lenK (K := K) rfl) (by rfl) b_len PySem.boot_len (pa_cons (pv 1) pa_nil)) pe_int (nomark _)) (pw_or1 (pt_not (pt_val (pe_callB (call_allK (K := K) rfl rfl) (by rfl) b_all boot_all (pa_cons (pe_lc (Ls := ["_law_k"]) (Fs := ["_law_found"]) (fi := [1]) (LcScope.of (show lcLook ["_law_text_here", "_law_found", "_law_part", "_law_names", "_law_one"] (defScope s__law_read) _ ["_law_found"] [1] = true by decide +kernel)) rfl (pi_range2 (by rfl) b_range (pa_cons pe_int (pa_cons (pe_callB (call_lenK (K := K) rfl) (by rfl) b_len PySem.boot_len (pa_cons (pv 1) pa_nil)) pa_nil))) (fun cl C s3 H3 ex => ⟨(pg_name (i := 0) (show ((["_law_k"] : List Str) ++ (["_law_found"] : List Str)).Nodup by decide +kernel) rfl (Or.inl rfl)), pts_nil, (pe_cmpR (op_ltW hr.units) (pe_ix (ix_listK (K := K) rfl) (pv 1) (pe_op op_sub (pv 0) pe_int) (fun _ _ => rfl)) (pe_ix (ix_listK (K := K) rfl) (pv 1) (pv 0) (fun _ _ => rfl)) (nomark _))⟩)) pa_nil))))))) (pss_one (ps_ret pe_non)) pss_nil)
      (pss_one (ps_ret (pv 1))))))), rd_read h⟩
end
end Qk66

namespace Qk66
open PySem L2 PyProof.Rows
section
variable {P : Program} {w : World} {K : PySem.W.Frag} {mg : Str → Option Value} {base : Heap}
def spLi : Sp := fun vs H Q _ => ∃ (b : Addr), vs = [.ref b] ∧ Bag H b ∧ ∀ (H' : Hp), Bag H' b → Frm b H H' → Q (.bl true) H'
abbrev s__law_lists : Stmt := top 37
theorem sc__law_lists : FnScope ["_law_bag_here", "_law_some", "_law_k", "_law_most", "_law_sign", "_law_handed", "_law_due"] ["_law_bag_here"] (defScope s__law_lists) := ⟨rfl, rfl, rfl, by decide +kernel, rfl, by decide +kernel, by decide +kernel⟩
theorem ok_li {f : Addr} {fd : FuncData} (F : Fun K "_law_lists" "_law_lists" s__law_lists f fd) (h__law_take : Has P w K mg base 1 "_law_take" ["_law_bag_here", "_law_most"] spTake) (h_show_list : Has P w K mg base 1 "show_list" ["numbers"] spShowL) (b_range : mg "range" = none) (b_list : mg "list" = none) (b_str : mg "str" = none) (b_int : mg "int" = none) : FnOk P w K mg base CX0 2 f fd ["_law_bag_here"] spLi := by
  refine F.ok sc__law_lists (fun vs H Q E h => ?_) (fun cdv A outer s H vs Q E hr h => ?_)
  · obtain ⟨b, rfl, _⟩ := h
    rfl
  · obtain ⟨b, rfl, bg, k⟩ := h
    refine ⟨_, (pss_cons (ps_set (i := 1) sc__law_lists.nd rfl (Or.inl rfl) (pe_lst pa_nil))
      (pss_cons (ps_for PassesOwn.never rfl (pi_range1 (by rfl) b_range (pa_cons (pe_has h__law_take (hr.mono (by decide)) (pa_cons (pv 0) (pa_cons pe_int pa_nil))) pa_nil)) (pg_name (i := 2) sc__law_lists.nd rfl (Or.inl rfl)) (pss_cons (ps_set (i := 3) sc__law_lists.nd rfl (Or.inl rfl) (pe_ix (ix_listK (K := K) rfl) (pe_lst (pa_cons pe_int (pa_cons (pe_op op_pow pe_int pe_int) pa_nil))) (pe_has h__law_take (hr.mono (by decide)) (pa_cons (pv 0) (pa_cons pe_int pa_nil))) (fun _ _ => rfl)))
      (pss_cons (ps_set (i := 4) sc__law_lists.nd rfl (Or.inl rfl) (pe_op op_sub pe_int (pe_op op_mul pe_int (pe_has h__law_take (hr.mono (by decide)) (pa_cons (pv 0) (pa_cons pe_int pa_nil))))))
      (pss_one (ps_expr (pe_bmK (K := K) rfl (pe_bm PySem.F.plainAttrs_list PySem.F.slot_list_append PySem.F.type_list_append mt_append (pv 1) (pa_cons (pe_op op_mul (pv 4) (pe_has h__law_take (hr.mono (by decide)) (pa_cons (pv 0) (pa_cons (pv 3) pa_nil)))) pa_nil))))))))
      (pss_cons (ps_set (i := 5) sc__law_lists.nd rfl (Or.inl rfl) (pe_callTy (call_listK (K := K) rfl) (by rfl) b_list boot_list (pa_cons (pv 1) pa_nil)))
      (pss_cons (ps_set (i := 6) sc__law_lists.nd rfl (Or.inl rfl) (pe_bmK (K := K) rfl (pe_bm PySem.F.plainAttrs_str PySem.F.slot_str_join PySem.F.type_str_join (mt_joinK (K := K) rfl) pe_str (pa_cons (pe_lc (Ls := ["_law_one"]) (Fs := []) (fi := []) (LcScope.of (show lcLook ["_law_bag_here", "_law_some", "_law_k", "_law_most", "_law_sign", "_law_handed", "_law_due"] (defScope s__law_lists) _ [] [] = true by decide +kernel)) rfl (pi_listK (K := K) rfl (pv 1)) (fun cl C s3 H3 ex => ⟨(pg_name (i := 0) (show ((["_law_one"] : List Str) ++ ([] : List Str)).Nodup by decide +kernel) rfl (Or.inl rfl)), pts_nil, (pe_callTy call_str_int (by rfl) b_str boot_str (pa_cons (pv 0) pa_nil))⟩)) pa_nil))))
      (pss_one (ps_ret (pe_and (pe_cmpR op_eq (pe_has h_show_list (hr.mono (by decide)) (pa_cons (pv 5) pa_nil)) (pe_ix (ix_listK (K := K) rfl) (pe_lst (pa_cons (pv 6) (pa_cons pe_str pa_nil))) (pe_callTy call_int1 (by rfl) b_int boot_int (pa_cons (pe_cmpR (op_eqNilK (K := K) rfl hr.units) (pv 1) (pe_lst pa_nil) (nomark _)) pa_nil)) (fun _ _ => rfl)) (nomark _)) (pe_one (pe_cmpR (op_eqvK (K := K) rfl hr.units) (pv 5) (pv 1) (nomark _)))))))))), ?_⟩
    refine ⟨by show 0 ≤ sizeLine; decide, fun so hso => ?_⟩
    have s0 : Same H (upd H so (.lst [])) := Same.laid hso
    have e0 : (upd H so (.lst [])) so = some (.lst []) := upd_same
    have nso : so ≠ b := bag_ne bg hso
    have bg0 : Bag (upd H so (.lst [])) b := bag_same s0 bg
    generalize upd H so (.lst []) = H0 at *
    refine ⟨_, rfl, b, 6, rfl, bg0, by decide, t60 (by decide), fun d H1 d0 d1 bg1 f1 => ⟨d, rfl, by omega, by omega, for_range (n := d.toNat) (fun i σ G => ∃ (v2 v3 v4 : Option V) (ns : List Int), σ = [some (.ref b), some (.ref so), v2, v3, v4, none, none] ∧ Bag G b ∧ Frm b H G ∧ G so = some (.lst (ns.map V.int)) ∧ ns.length = i ∧ ∀ n ∈ ns, n.natAbs < 10 ^ 60)
      ⟨none, none, none, [], rfl, bg1, s0.frm.trans f1, f1 _ _ e0 nso, rfl, fun n hn => by cases hn⟩ ?_ ?_⟩⟩
    · rintro i σ G hi ⟨v2, v3, v4, ns, rfl, bgG, fG, eG, lG, kG⟩
      refine ⟨_, _, rfl, rfl, ⟨by decide, by decide, by decide⟩, by show 2 ≤ sizeLine; decide, fun p hp => ?_⟩
      have s1 : Same G (upd G p (.lst [.int 10, .int (10 ^ (59 : Int).toNat)])) := Same.laid hp
      have e1 : (upd G p (.lst [.int 10, .int (10 ^ (59 : Int).toNat)])) p = some (.lst [.int 10, .int (10 ^ (59 : Int).toNat)]) := upd_same
      have np : p ≠ b := bag_ne bgG hp
      have bgp := bag_same s1 bgG
      generalize upd G p (.lst [.int 10, .int (10 ^ (59 : Int).toNat)]) = G1 at *
      refine ⟨_, rfl, b, 2, rfl, bgp, by decide, t60 (by decide), fun a G2 a0 a1 bg2 f2 => ?_⟩
      obtain ⟨m, hm, m1, m2⟩ : ∃ m : Int, atI [V.int 10, .int (10 ^ (59 : Int).toNat)] a = some (.int m) ∧ 1 ≤ m ∧ m < 10 ^ 60 := by
        have : a = 0 ∨ a = 1 := by omega
        rcases this with rfl | rfl
        · exact ⟨_, rfl, by decide, by decide +kernel⟩
        · exact ⟨_, rfl, by decide +kernel, by decide +kernel⟩
      refine ⟨p, _, _, .int m, rfl, rfl, SqL.of (f2 _ _ e1 np), hm, ?_⟩
      refine ⟨_, rfl, b, 2, rfl, bg2, by decide, t60 (by decide), fun c G3 c0 c1 bg3 f3 => ?_⟩
      refine ⟨_, _, rfl, rfl, .inl ⟨by decide, by decide⟩, _, _, rfl, rfl, ?_⟩
      have sg : (1 : Int) - 2 * c = 1 ∨ (1 : Int) - 2 * c = -1 := by omega
      have f03 : Frm b G G3 := (s1.frm.trans f2).trans f3
      have e3 := f03 _ _ eG nso
      refine ⟨_, rfl, .inl ⟨rfl, _, SqL.of e3⟩, _, rfl, _, rfl, _, rfl, b, m, rfl, bg3, m1, m2, fun e G4 h0 h1 bg4 f4 => ?_⟩
      have e4 := f4 _ _ e3 nso
      refine ⟨_, _, rfl, rfl, .inl ⟨by omega, by omega⟩, so, _, _, rfl, rfl, e4, ?_, ?_⟩
      · rw [List.length_map, sizeLine_eq]; omega
      refine ⟨_, _, _, ns ++ [(1 - 2 * c) * e], rfl, bag_put bg4 nso, frm_put ((fG.trans f03).trans f4) hso, ?_, by simp [lG], fun n hn => ?_⟩
      · rw [upd_same, List.map_append]; rfl
      · rcases List.mem_append.mp hn with z | z
        · exact kG n z
        · rw [List.mem_singleton.mp z]
          have : ((1 - 2 * c) * e).natAbs = e.natAbs := by rcases sg with z | z <;> rw [z] <;> simp
          rw [this]
          omega
    · rintro σ G ⟨v2, v3, v4, ns, rfl, bgG, fG, eG, lG, kG⟩
      refine ⟨_, rfl, so, _, rfl, .inl (SqL.of eG), fun hd hhd => ?_⟩
      have s1 : Same G (upd G hd (.lst (ns.map V.int))) := Same.laid hhd
      have eh : (upd G hd (.lst (ns.map V.int))) hd = some (.lst (ns.map V.int)) := upd_same
      generalize upd G hd (.lst (ns.map V.int)) = G1 at *
      have es1 := s1 _ _ eG
      refine ⟨rfl, ?_⟩
      refine ⟨_, rfl, so, rfl, ⟨_, SqL.of es1⟩, lc_list (K := K) (a := so) (xs := ns.map V.int) (Nat.le_of_lt (small1000 (by rw [List.length_map]; omega))) (fun i zs G' => Same G1 G' ∧ zs = ((ns.take i).map numS).map V.str) ⟨Same.refl _, rfl⟩
        (fun i zs G p => by rw [p.2, List.length_map, List.length_map, List.length_take]; omega) (fun i zs G p => SqL.of (p.1 so _ es1)) (fun i x zs G hx p => ?_) (fun zs G2 p D hD => ?_)⟩
      · obtain ⟨sG, rfl⟩ := p
        obtain ⟨t, ht, rfl⟩ := map_int_at hx
        have := kG t (List.mem_of_getElem? ht)
        refine lcG ?_
        refine ⟨_, rfl, t, rfl, num_log this, sG, ?_⟩
        rw [List.take_add_one, ht, List.map_append, List.map_append]
        rfl
      obtain ⟨sG, rfl⟩ := p
      rw [List.length_map, List.take_of_length_le (Nat.le_refl _)]
      refine ⟨",", D, ns.map numS, rfl, rfl, SqL.of upd_same, join_comma (by rw [List.length_map]; omega) (fun t ht => ?_), ?_⟩
      · obtain ⟨n, hn, rfl⟩ := List.mem_map.mp ht
        exact numS_len (kG n hn)
      have s2 : Same G1 (upd G2 D (.lst ((ns.map numS).map V.str))) := sG.step hD
      generalize upd G2 D (.lst ((ns.map numS).map V.str)) = G3 at *
      refine ⟨_, rfl, hd, ns, rfl, s2 _ _ eh, by omega, kG, fun G4 s4 => ?_⟩
      refine ⟨_, rfl, by show 2 ≤ sizeLine; decide, fun p hp => ?_⟩
      have sx : Same G4 (upd G4 p (.lst [.str (Txt.join "," (ns.map numS)), .str "-"])) := Same.laid hp
      have ex : (upd G4 p (.lst [.str (Txt.join "," (ns.map numS)), .str "-"])) p = some (.lst [.str (Txt.join "," (ns.map numS)), .str "-"]) := upd_same
      generalize upd G4 p (.lst [.str (Txt.join "," (ns.map numS)), .str "-"]) = G5 at *
      refine ⟨_, rfl, by show 0 ≤ sizeLine; decide, fun q hq => ?_⟩
      have sy : Same G5 (upd G5 q (.lst [])) := Same.laid hq
      have ey : (upd G5 q (.lst [])) q = some (.lst []) := upd_same
      generalize upd G5 q (.lst []) = G6 at *
      have s16 : Same G1 G6 := ((s2.trans s4).trans sx).trans sy
      have hat : atI [V.str (Txt.join "," (ns.map numS)), V.str "-"] (if (ns.map V.int).isEmpty = true then 1 else 0) = some (.str (listT ns)) := by
        cases ns with
        | nil => rfl
        | cons a r => rfl
      refine ⟨so, q, _, rfl, rfl, SqL.of (s16 _ _ es1), SqL.of ey, .inr ⟨_, rfl, p, _, _, .str (listT ns), rfl, rfl, SqL.of (sy _ _ ex), hat, rfl, _, rfl, ?_⟩⟩
      refine iteTd rfl ?_
      refine ⟨_, rfl, _, rfl, hd, so, _, _, rfl, rfl, SqL.of (s16 _ _ eh), SqL.of (s16 _ _ es1), rfl, fun i x y hx hy => ?_, ?_⟩
      · rw [hx] at hy
        cases hy
        obtain ⟨t, _, rfl⟩ := map_int_at hx
        exact .flat rfl
      · exact k G6 (bag_same (s1.trans s16) bgG) (fG.trans (s1.trans s16).frm)
def spToo : Sp := fun vs H Q _ => ∃ (b : Addr), vs = [.ref b] ∧ Bag H b ∧ ∀ (y : Str) (H' : Hp), y.length ≤ 1000 → Bag H' b → Frm b H H' → Q (.str y) H'
abbrev s__law_too_many : Stmt := top 38
theorem sc__law_too_many : FnScope ["_law_bag_here"] ["_law_bag_here"] (defScope s__law_too_many) := ⟨rfl, rfl, rfl, by decide +kernel, rfl, by decide +kernel, by decide +kernel⟩
theorem ok_too {f : Addr} {fd : FuncData} (F : Fun K "_law_too_many" "_law_too_many" s__law_too_many f fd) (h__law_take : Has P w K mg base 1 "_law_take" ["_law_bag_here", "_law_most"] spTake) (h__law_text : Has P w K mg base 1 "_law_text" ["_law_some"] spTxt) (b_range : mg "range" = none) (b_tuple : mg "tuple" = none) : FnOk P w K mg base CX0 2 f fd ["_law_bag_here"] spToo := by
  refine F.ok sc__law_too_many (fun vs H Q E h => ?_) (fun cdv A outer s H vs Q E hr h => ?_)
  · obtain ⟨b, rfl, _⟩ := h
    rfl
  · obtain ⟨b, rfl, bg, k⟩ := h
    refine ⟨_, (pss_cons (ps_if (pt_cmpR op_eq (pe_has h__law_take (hr.mono (by decide)) (pa_cons (pv 0) (pa_cons pe_int pa_nil))) pe_int (nomark _)) (pss_one (ps_ret (pe_has h__law_text (hr.mono (by decide)) (pa_cons (pe_lc (Ls := ["_law_k"]) (Fs := []) (fi := []) (LcScope.of (show lcLook ["_law_bag_here"] (defScope s__law_too_many) _ [] [] = true by decide +kernel)) rfl (pi_range1 (by rfl) b_range (pa_cons pe_int pa_nil)) (fun cl C s3 H3 ex => ⟨(pg_name (i := 0) (show ((["_law_k"] : List Str) ++ ([] : List Str)).Nodup by decide +kernel) rfl (Or.inl rfl)), pts_nil, (pe_tup (pa_cons (pv 0) pa_nil))⟩)) pa_nil)))) pss_nil)
      (pss_one (ps_ret (pe_has h__law_text (hr.mono (by decide)) (pa_cons (pe_lst (pa_cons (pe_callTy call_tupleL (by rfl) b_tuple boot_tuple (pa_cons (pe_lc (Ls := ["_law_k"]) (Fs := ["_law_bag_here"]) (fi := [0]) (LcScope.of (show lcLook ["_law_bag_here"] (defScope s__law_too_many) _ ["_law_bag_here"] [0] = true by decide +kernel)) rfl (pi_range1 (by rfl) b_range (pa_cons pe_int pa_nil)) (fun cl C s3 H3 ex => ⟨(pg_name (i := 0) (show ((["_law_k"] : List Str) ++ (["_law_bag_here"] : List Str)).Nodup by decide +kernel) rfl (Or.inl rfl)), pts_nil, (pe_has h__law_take (hr.mono (by decide)) (pa_cons (pv 1) (pa_cons pe_int pa_nil)))⟩)) pa_nil)) pa_nil)) pa_nil))))), ?_⟩
    have len41 : ∀ L : List (List Int), (∀ w ∈ L, smallW w) → L.length ≤ 41 → (∀ w ∈ L, w.length ≤ 1) → (sumT L).length ≤ 1000 := fun L h h1 h2 => Nat.le_trans (sumT_len h h1 h2) (by decide)
    have len9 : ∀ w : List Int, smallW w → w.length ≤ 9 → (sumT [w]).length ≤ 1000 := fun w h h1 => Nat.le_trans (sumT_len (L := [w]) (k := 1) (m := 9) (fun v hv => by rw [List.mem_singleton.mp hv]; exact h) (by simp) (fun v hv => by rw [List.mem_singleton.mp hv]; exact h1)) (by decide)
    refine ⟨_, rfl, b, 2, rfl, bg, by decide, t60 (by decide), fun d H1 d0 d1 bg1 f1 => ⟨rfl, _, rfl, ?_⟩⟩
    refine ite2 (fun _ => ?_) (fun _ => ?_)
    · refine ⟨41, rfl, by decide, by decide, ?_⟩
      refine lc_rng (n := 41) (by decide) (fun i zs G => Same H1 G ∧ Words G zs ((upI i).map fun k => [k])) ⟨Same.refl _, .nil⟩
        (fun i zs G z => by rw [Words.len z.2]; simp [upI]) (fun i zs G hi z => ?_) (fun zs G z D hD => ?_)
      · obtain ⟨sG, hW⟩ := z
        refine lcG ?_
        refine ⟨_, rfl, by show 1 ≤ sizeLine; decide, fun t ht => ⟨sG.step ht, ?_⟩⟩
        have : (upI (i + 1)).map (fun k => [k]) = (upI i).map (fun k => [k]) ++ [[(i : Int)]] := by simp [upI, List.range_succ]
        rw [this]
        refine Words.snoc (Words.same (Same.laid ht) hW) ⟨t, rfl, ?_⟩
        rw [upd_same]
        simp
      · obtain ⟨sG, hW⟩ := z
        have hs : ∀ w ∈ (upI 41).map (fun k => [k]), w.length ≤ 1 ∧ smallW w := fun w hw => by
          obtain ⟨k, hk, rfl⟩ := List.mem_map.mp hw
          obtain ⟨j, hj, rfl⟩ := List.mem_map.mp hk
          have := List.mem_range.mp hj
          exact ⟨by simp, fun z hz => by rw [List.mem_singleton.mp hz]; omega⟩
        refine ⟨D, zs, _, rfl, upd_same, Words.same (Same.laid hD) hW, by decide, fun w hw => ⟨Nat.le_trans (hs w hw).1 (by decide), (hs w hw).2⟩, fun H' s' => ?_⟩
        have sA := (sG.step hD).trans s'
        exact k _ H' (len41 _ (fun w hw => (hs w hw).2) (by decide) fun w hw => (hs w hw).1) (bag_same sA bg1) (f1.trans sA.frm)
    · refine ⟨9, rfl, by decide, by decide, ?_⟩
      refine lc_rng (n := 9) (by decide) (fun i zs G' => Frm b H1 G' ∧ Bag G' b ∧ ∃ w : List Int, zs = w.map V.int ∧ w.length = i ∧ smallW w) ⟨Frm.refl _ _, bg1, [], rfl, rfl, fun k hk => nomatch hk⟩ ?_ ?_ ?_
      · rintro i zs G' ⟨_, _, w, rfl, e, _⟩
        rw [List.length_map, e]; exact Nat.le_refl _
      · rintro j zs G' hj ⟨fr, bgB, w, rfl, e, wn⟩
        refine lcG ?_
        refine ⟨_, rfl, b, 100, rfl, bgB, by decide, t60 (by decide), fun k G2 k0 k1 bgC fC => ?_⟩
        refine ⟨fr.trans fC, bgC, w ++ [k], by simp, by simp [e], fun k' hk' => ?_⟩
        rcases List.mem_append.mp hk' with z | z
        · exact wn k' z
        · rw [List.mem_singleton.mp z]; omega
      · rintro zs G' ⟨fr, bgB, w, rfl, e, wn⟩ D hD
        refine ⟨D, _, rfl, upd_same, fun u hu => ?_⟩
        have sE : Same G' (upd (upd G' D (.lst (w.map V.int))) u (.tup (w.map V.int))) := (Same.laid hD).step hu
        have eu : (upd (upd G' D (.lst (w.map V.int))) u (.tup (w.map V.int))) u = some (.tup (w.map V.int)) := upd_same
        generalize upd (upd G' D (.lst (w.map V.int))) u (.tup (w.map V.int)) = G5 at *
        refine ⟨by show 1 ≤ sizeLine; decide, fun l hl => ?_⟩
        have sl : Same G5 (upd G5 l (.lst [.ref u])) := Same.laid hl
        refine ⟨l, [.ref u], [w], rfl, upd_same, .cons ⟨u, rfl, sl _ _ eu⟩ .nil, by simp, fun v hv => by rw [List.mem_singleton.mp hv]; exact ⟨by omega, wn⟩, fun H' s' => ?_⟩
        have sA := (sE.trans sl).trans s'
        exact k _ H' (len9 w wn (by omega)) (bag_same sA bgB) ((f1.trans fr).trans sA.frm)
end
end Qk66

namespace Qk66
open PySem L2 PyProof.Rows
section
variable {P : Program} {w : World} {K : PySem.W.Frag} {mg : Str → Option Value} {base : Heap}
def spBent : Sp := fun vs H Q _ => ∃ (b : Addr) (x : Str), vs = [.ref b, .str x] ∧ Bag H b ∧ 1 ≤ x.length ∧ x.length ≤ 1441 ∧ ∀ (y : Str) (H' : Hp), y.length ≤ 2900 → Bag H' b → Frm b H H' → Q (.str y) H'
def wt3 (ps : List Str) : Nat := (ps.map (·.length)).sum + 3 * ps.length
theorem wt3_append (a b : List Str) : wt3 (a ++ b) = wt3 a + wt3 b := by
  unfold wt3
  rw [List.map_append, List.sum_append, List.length_append]
  omega
theorem join_wt {ps : List Str} (h : ps ≠ []) : (Txt.join " + " ps).length + 3 = wt3 ps := by
  have e0 : Txt.join " + " ps = Str.join " + " ps := StrLaws.glued_eq_join _ _
  cases ps with
  | nil => exact absurd rfl h
  | cons a l =>
    rw [e0, len_join_cons, show (" + " : Str).length = 3 by decide +kernel]
    unfold wt3
    rw [List.length_cons]
    omega
theorem split_wt {x : Str} (h : 1 ≤ x.length) : Txt.split x " + " ≠ [] ∧ wt3 (Txt.split x " + ") = x.length + 3 := by
  have e : Str.join " + " (Txt.split x " + ") = x := StrLaws.join_split x " + "
  have e0 : Txt.join " + " (Txt.split x " + ") = Str.join " + " (Txt.split x " + ") := StrLaws.glued_eq_join _ _
  have ne : Txt.split x " + " ≠ [] := fun z => by
    rw [z] at e
    rw [← e] at h
    exact absurd h (by decide +kernel)
  exact ⟨ne, by rw [← join_wt ne, e0, e]⟩
theorem wt3_mem {ps : List Str} {p : Str} (h : p ∈ ps) : p.length + 3 ≤ wt3 ps := by
  obtain ⟨a, b, rfl⟩ := List.append_of_mem h
  rw [wt3_append, show p :: b = [p] ++ b from rfl, wt3_append]
  have : wt3 [p] = p.length + 3 := by unfold wt3; simp
  omega
theorem wt3_len (ps : List Str) : 3 * ps.length ≤ wt3 ps := by unfold wt3; omega
theorem cut_to (xs : List V) (n : Nat) : cutV xs none (some (n : Int)) = xs.take n := by
  unfold cutV
  rw [HT.sIx_none, HT.sIx_nat]
  simp [List.take_eq_take_iff]
theorem cut_from (xs : List V) (n : Nat) : cutV xs (some (n : Int)) none = xs.drop n := by
  unfold cutV
  rw [HT.sIx_none, HT.sIx_nat]
  rcases Nat.le_total n xs.length with h | h
  · rw [Nat.min_eq_left h, List.take_of_length_le (by rw [List.length_drop]; omega)]
  · rw [Nat.min_eq_right h, List.drop_eq_nil_of_le (Nat.le_refl _), List.drop_eq_nil_of_le h, List.take_nil]
theorem cut_two (x : Str) (n : Nat) (hn : n ≤ x.length) : (cutS x none (some (n : Int))).length = n ∧ (cutS x (some (n : Int)) none).length = x.length - n := by
  rw [len_signs, len_signs, len_signs] at *
  constructor
  · show (cutL x.cps.toList none (some (n : Int))).length = n
    unfold cutL
    rw [HT.sIx_nat, HT.sIx_none, List.length_take, List.length_drop]
    omega
  · show (cutL x.cps.toList (some (n : Int)) none).length = _
    unfold cutL
    rw [HT.sIx_nat, HT.sIx_none, List.length_take, List.length_drop]
    omega
theorem cut_three (x : Str) : (cutS x (some 1) (some 2)).length + (cutS x none (some 1)).length + (cutS x (some 2) none).length = x.length := by
  rw [len_signs, len_signs, len_signs, len_signs]
  show (cutL x.cps.toList (some 1) (some 2)).length + (cutL x.cps.toList none (some 1)).length + (cutL x.cps.toList (some 2) none).length = _
  have e1 : ∀ d, HT.sIx x.cps.toList.length d (some 1) = min 1 x.cps.toList.length := fun d => HT.sIx_nat _ d 1
  have e2 : ∀ d, HT.sIx x.cps.toList.length d (some 2) = min 2 x.cps.toList.length := fun d => HT.sIx_nat _ d 2
  unfold cutL
  simp only [e1, e2, HT.sIx_none, List.length_take, List.length_drop]
  omega
abbrev s__law_bent : Stmt := top 36
theorem sc__law_bent : FnScope ["_law_bag_here", "_law_text_here", "_law_signs", "_law_way", "_law_at", "_law_sign", "_law_words", "_law_spot", "_law_there"] ["_law_bag_here", "_law_text_here"] (defScope s__law_bent) := ⟨rfl, rfl, rfl, by decide +kernel, rfl, by decide +kernel, by decide +kernel⟩
theorem ok_bent {f : Addr} {fd : FuncData} (F : Fun K "_law_bent" "_law_bent" s__law_bent f fd) (h__law_take : Has P w K mg base 1 "_law_take" ["_law_bag_here", "_law_most"] spTake) (b_len : mg "len" = none) : FnOk P w K mg base CX0 2 f fd ["_law_bag_here", "_law_text_here"] spBent := by
  refine F.ok sc__law_bent (fun vs H Q E h => ?_) (fun cdv A outer s H vs Q E hr h => ?_)
  · obtain ⟨b, x, rfl, _⟩ := h
    rfl
  · obtain ⟨b, x, rfl, bg, l1, l2, q⟩ := h
    refine ⟨_, (pss_cons (ps_set (i := 2) sc__law_bent.nd rfl (Or.inl rfl) pe_str)
      (pss_cons (ps_set (i := 3) sc__law_bent.nd rfl (Or.inl rfl) (pe_has h__law_take (hr.mono (by decide)) (pa_cons (pv 0) (pa_cons pe_int pa_nil))))
      (pss_cons (ps_set (i := 4) sc__law_bent.nd rfl (Or.inl rfl) (pe_has h__law_take (hr.mono (by decide)) (pa_cons (pv 0) (pa_cons (pe_callB call_len_str (by rfl) b_len PySem.boot_len (pa_cons (pv 1) pa_nil)) pa_nil))))
      (pss_cons (ps_set (i := 5) sc__law_bent.nd rfl (Or.inl rfl) (pe_ix (ix_listK (K := K) rfl) (pe_lst (pa_cons (pe_ix ix_str (pv 2) (pe_has h__law_take (hr.mono (by decide)) (pa_cons (pv 0) (pa_cons (pe_callB call_len_str (by rfl) b_len PySem.boot_len (pa_cons (pv 2) pa_nil)) pa_nil))) (fun _ _ => rfl)) (pa_cons (pe_ix ix_str pe_str (pe_has h__law_take (hr.mono (by decide)) (pa_cons (pv 0) (pa_cons pe_int pa_nil))) (fun _ _ => rfl)) pa_nil))) (pe_op op_mod (pv 3) pe_int) (fun _ _ => rfl)))
      (pss_cons (ps_set (i := 6) sc__law_bent.nd rfl (Or.inl rfl) (pe_bmK (K := K) rfl (pe_bm PySem.F.plainAttrs_str PySem.F.slot_str_split PySem.F.type_str_split mt_split (pv 1) (pa_cons pe_str pa_nil))))
      (pss_cons (ps_set (i := 7) sc__law_bent.nd rfl (Or.inl rfl) (pe_has h__law_take (hr.mono (by decide)) (pa_cons (pv 0) (pa_cons (pe_callB (call_lenK (K := K) rfl) (by rfl) b_len PySem.boot_len (pa_cons (pv 6) pa_nil)) pa_nil))))
      (pss_cons (ps_if (pt_cmpR op_lt (pv 3) pe_int (nomark _)) (pss_one (ps_ret (pe_op op_add_str (pe_op op_add_str (pe_slice sl_str (pv 1) po_none (po_some (pv 4))) (pv 5)) (pe_slice sl_str (pv 1) (po_some (pv 4)) po_none)))) pss_nil)
      (pss_cons (ps_if (pt_cmpR op_lt (pv 3) pe_int (nomark _)) (pss_one (ps_ret (pe_op op_add_str (pe_op op_add_str (pe_slice sl_str (pv 1) po_none (po_some (pv 4))) (pv 5)) (pe_slice sl_str (pv 1) (po_some (pe_op op_add (pv 4) pe_int)) po_none)))) pss_nil)
      (pss_cons (ps_if (pt_cmpR op_eq (pv 3) pe_int (nomark _)) (pss_one (ps_ret (pe_op op_add_str (pe_slice sl_str (pv 1) po_none (po_some (pv 4))) (pe_slice sl_str (pv 1) (po_some (pe_op op_add (pv 4) pe_int)) po_none)))) pss_nil)
      (pss_cons (ps_if (pt_cmpR op_eq (pv 3) pe_int (nomark _)) (pss_cons (ps_set (i := 8) sc__law_bent.nd rfl (Or.inl rfl) (pe_slice sl_str (pv 1) (po_some (pv 4)) po_none))
      (pss_one (ps_ret (pe_op op_add_str (pe_op op_add_str (pe_op op_add_str (pe_slice sl_str (pv 1) po_none (po_some (pv 4))) (pe_slice sl_str (pv 8) (po_some pe_int) (po_some pe_int))) (pe_slice sl_str (pv 8) po_none (po_some pe_int))) (pe_slice sl_str (pv 8) (po_some pe_int) po_none))))) pss_nil)
      (pss_cons (ps_if (pt_cmpR op_eq (pv 3) pe_int (nomark _)) (pss_one (ps_ret (pe_bmK (K := K) rfl (pe_bm PySem.F.plainAttrs_str PySem.F.slot_str_join PySem.F.type_str_join (mt_joinK (K := K) rfl) pe_str (pa_cons (pe_op op_cat (pe_op op_cat (pe_slice (sl_listK (K := K) rfl) (pv 6) po_none (po_some (pv 7))) (pe_lst (pa_cons (pe_ix (ix_listK (K := K) rfl) (pv 6) (pv 7) (fun _ _ => rfl)) pa_nil))) (pe_slice (sl_listK (K := K) rfl) (pv 6) (po_some (pv 7)) po_none)) pa_nil))))) pss_nil)
      (pss_one (ps_ret (pe_bmK (K := K) rfl (pe_bm PySem.F.plainAttrs_str PySem.F.slot_str_join PySem.F.type_str_join (mt_joinK (K := K) rfl) pe_str (pa_cons (pe_op op_cat (pe_slice (sl_listK (K := K) rfl) (pv 6) (po_some (pv 7)) po_none) (pe_slice (sl_listK (K := K) rfl) (pv 6) po_none (po_some (pv 7)))) pa_nil)))))))))))))))), ?_⟩
    have lx : x.length ≤ sizeLine := by rw [sizeLine_eq]; omega
    generalize hsg : (Str.ofString " !\"#$&'()*+,-./0123456789:;<=>?@ABCDEFGHIJKLMNOPQRSTUVWXYZ[\\]^_`abcdefghijklmnopqrstuvwxyz{|}~") = sg
    have lsg : sg.length = 94 := by rw [← hsg]; decide +kernel
    generalize hs2 : (Str.ofString "x.+ 0123456789-") = s2
    have ls2 : s2.length = 15 := by rw [← hs2]; decide +kernel
    have at_ : ∀ (z : Str) (d : Int), 0 ≤ d → d < (z.length : Int) → ∃ c, atI z.cps.toList d = some c := fun z d h0 h1 => by
      obtain ⟨n, rfl⟩ := Int.eq_ofNat_of_zero_le h0
      have hn : n < z.cps.toList.length := by rw [← len_signs]; omega
      exact ⟨z.cps.toList[n], atI_nat (by simp [hn])⟩
    refine ⟨_, rfl, b, 8, rfl, bg, by decide, t60 (by decide), fun wy H1 w0 w1 bg1 f1 => ?_⟩
    refine ⟨_, rfl, _, rfl, x, rfl, lx, b, _, rfl, bg1, by omega, Int.lt_of_le_of_lt (b := 1441) (by omega) (by decide +kernel), fun a H2 a0 a1 bg2 f2 => ?_⟩
    refine ⟨_, rfl, _, rfl, _, rfl, sg, rfl, by rw [sizeLine_eq]; omega, b, _, rfl, bg2, by omega, t60 (by omega), fun d H3 d0 d1 bg3 f3 => ?_⟩
    obtain ⟨c1, ec1⟩ := at_ sg d d0 d1
    refine ⟨sg, d, c1, rfl, rfl, by rw [sizeLine_eq]; omega, ec1, ?_⟩
    refine ⟨_, rfl, b, 15, rfl, bg3, by decide, t60 (by decide), fun e H4 e0 e1 bg4 f4 => ?_⟩
    obtain ⟨c2, ec2⟩ := at_ s2 e e0 (by omega)
    refine ⟨s2, e, c2, rfl, rfl, by rw [sizeLine_eq]; omega, ec2, (by show 2 ≤ sizeLine; decide), fun p hp => ?_⟩
    have s5 : Same H4 (upd H4 p (.lst [.str ⟨#[c1]⟩, .str ⟨#[c2]⟩])) := Same.laid hp
    have ep : (upd H4 p (.lst [.str ⟨#[c1]⟩, .str ⟨#[c2]⟩])) p = some (.lst [.str ⟨#[c1]⟩, .str ⟨#[c2]⟩]) := upd_same
    generalize upd H4 p (.lst [.str ⟨#[c1]⟩, .str ⟨#[c2]⟩]) = H5 at *
    have bg5 : Bag H5 b := by obtain ⟨g, r, h0, e⟩ := bg4; exact ⟨g, r, h0, s5 _ _ e⟩
    have f5 : Frm b H H5 := (((f1.trans f2).trans f3).trans f4).trans s5.frm
    obtain ⟨c, hc⟩ : ∃ c, atI [V.str ⟨#[c1]⟩, .str ⟨#[c2]⟩] (wy % 2) = some (.str ⟨#[c]⟩) := by
      have : wy % 2 = 0 ∨ wy % 2 = 1 := by omega
      rcases this with z | z <;> rw [z]
      · exact ⟨c1, rfl⟩
      · exact ⟨c2, rfl⟩
    refine ⟨_, rfl, _, _, rfl, rfl, (by decide : (0 : Int) < 2), p, _, _, _, rfl, rfl, SqL.of ep, hc, ?_⟩
    obtain ⟨wne, wx⟩ := split_wt l1
    have wl := wt3_len (Txt.split x " + ")
    have wp : 0 < (Txt.split x " + ").length := List.length_pos_iff.mpr wne
    refine ⟨_, rfl, rfl, x, " + ", rfl, rfl, by decide +kernel, lx, by rw [sizeLine_eq]; omega, fun ws hws => ?_⟩
    have s6 : Same H5 (upd H5 ws (.lst ((Txt.split x " + ").map V.str))) := Same.laid hws
    have ew : (upd H5 ws (.lst ((Txt.split x " + ").map V.str))) ws = some (.lst ((Txt.split x " + ").map V.str)) := upd_same
    have nws : ws ≠ b := bag_ne bg5 hws
    have bg6 := bag_same s6 bg5
    generalize upd H5 ws (.lst ((Txt.split x " + ").map V.str)) = H6 at *
    refine ⟨_, rfl, _, rfl, ws, _, rfl, .inl (SqL.of ew), b, _, rfl, bg6, by rw [List.length_map]; omega, Int.lt_of_le_of_lt (b := 1500) (by rw [List.length_map]; omega) (by decide +kernel), fun sp H7 p0 p1 bg7 f7 => ?_⟩
    rw [List.length_map] at p1
    have ew7 := f7 _ _ ew nws
    have fA : Frm b H H7 := (f5.trans s6.frm).trans f7
    have q5 : ∀ y : Str, y.length ≤ x.length + 1 → Q (.str y) H7 := fun y hy => q y H7 (by omega) bg7 fA
    obtain ⟨m, rfl⟩ := Int.eq_ofNat_of_zero_le p0
    obtain ⟨n, rfl⟩ := Int.eq_ofNat_of_zero_le a0
    have hn : n < x.length := by omega
    obtain ⟨t1, t2⟩ := cut_two x n (by omega)
    obtain ⟨_, t3⟩ := cut_two x (n + 1) (by omega)
    have oc : (⟨#[c]⟩ : Str).length = 1 := rfl
    have cast1 : ((n : Int) + 1) = ((n + 1 : Nat) : Int) := by omega
    have sz := sizeLine_eq
    refine ⟨_, rfl, _, _, rfl, rfl, _, rfl, ite2 (fun _ => ?_) (fun _ => ?_)⟩
    · refine ⟨_, rfl, _, rfl, _, rfl, x, rfl, lx, _, rfl, _, _, rfl, rfl, by omega, _, rfl, _, rfl, _, rfl, x, rfl, lx, _, _, rfl, rfl, ?_, ?_⟩
      · rw [strLen_append]; omega
      · exact q5 _ (by rw [strLen_append, strLen_append]; omega)
    refine ⟨_, rfl, _, _, rfl, rfl, _, rfl, ite2 (fun _ => ?_) (fun _ => ?_)⟩
    · refine ⟨_, rfl, _, rfl, _, rfl, x, rfl, lx, _, rfl, _, _, rfl, rfl, by omega, _, rfl, _, rfl, _, _, rfl, rfl, _, rfl, x, rfl, lx, ?_⟩
      rw [cast1]
      refine ⟨_, _, rfl, rfl, ?_, ?_⟩
      · rw [strLen_append]; omega
      · exact q5 _ (by rw [strLen_append, strLen_append]; omega)
    refine ⟨_, rfl, rfl, _, rfl, ite2 (fun _ => ?_) (fun _ => ?_)⟩
    · refine ⟨_, rfl, _, rfl, _, rfl, x, rfl, lx, _, rfl, _, rfl, _, _, rfl, rfl, _, rfl, x, rfl, lx, ?_⟩
      rw [cast1]
      refine ⟨_, _, rfl, rfl, by omega, ?_⟩
      exact q5 _ (by rw [strLen_append]; omega)
    refine ⟨_, rfl, rfl, _, rfl, ite2 (fun _ => ?_) (fun _ => ?_)⟩
    · refine ⟨_, rfl, _, rfl, _, rfl, x, rfl, lx, ?_⟩
      have ht := cut_three (cutS x (some (n : Int)) none)
      generalize cutS x (some (n : Int)) none = th at *
      have lt : th.length ≤ sizeLine := by omega
      refine ⟨_, rfl, _, rfl, _, rfl, x, rfl, lx, _, rfl, 1, rfl, 2, rfl, th, rfl, lt, _, _, rfl, rfl, by omega, ?_⟩
      refine ⟨_, rfl, 1, rfl, th, rfl, lt, _, _, rfl, rfl, by rw [strLen_append]; omega, ?_⟩
      refine ⟨_, rfl, 2, rfl, th, rfl, lt, _, _, rfl, rfl, by rw [strLen_append, strLen_append]; omega, ?_⟩
      exact q5 _ (by rw [strLen_append, strLen_append, strLen_append]; omega)
    refine ⟨_, rfl, rfl, _, rfl, ite2 (fun _ => ?_) (fun _ => ?_)⟩
    · have hm : m < (Txt.split x " + ").length := by omega
      generalize hW : Txt.split x " + " = W at *
      refine ⟨rfl, _, rfl, _, rfl, _, rfl, ws, _, rfl, SqL.of ew7, fun q1 hq1 => ?_⟩
      rw [cut_to, ← List.map_take]
      have s8 : Same H7 (upd H7 q1 (.lst ((W.take m).map V.str))) := Same.laid hq1
      have e8 : (upd H7 q1 (.lst ((W.take m).map V.str))) q1 = some (.lst ((W.take m).map V.str)) := upd_same
      generalize upd H7 q1 (.lst ((W.take m).map V.str)) = H8 at *
      refine ⟨_, rfl, _, rfl, ws, _, _, .str W[m], rfl, rfl, SqL.of (s8 _ _ ew7), atI_nat (by simp [hm]), by show 1 ≤ sizeLine; decide, fun q2 hq2 => ?_⟩
      have s9 : Same H8 (upd H8 q2 (.lst [.str W[m]])) := Same.laid hq2
      have e9 : (upd H8 q2 (.lst [.str W[m]])) q2 = some (.lst [.str W[m]]) := upd_same
      generalize upd H8 q2 (.lst [.str W[m]]) = H9 at *
      refine ⟨q1, q2, _, _, rfl, rfl, s9 _ _ e8, e9, by rw [List.length_map, List.length_take, List.length_singleton, sizeLine_eq]; omega, fun q3 hq3 => ?_⟩
      have s10 : Same H9 (upd H9 q3 (.lst ((W.take m).map V.str ++ [.str W[m]]))) := Same.laid hq3
      have e10 : (upd H9 q3 (.lst ((W.take m).map V.str ++ [.str W[m]]))) q3 = some (.lst ((W.take m).map V.str ++ [.str W[m]])) := upd_same
      generalize upd H9 q3 (.lst ((W.take m).map V.str ++ [.str W[m]])) = H10 at *
      have s710 := (s8.trans s9).trans s10
      refine ⟨_, rfl, _, rfl, _, rfl, ws, _, rfl, SqL.of (s710 _ _ ew7), fun q4 hq4 => ?_⟩
      rw [cut_from, ← List.map_drop]
      have s11 : Same H10 (upd H10 q4 (.lst ((W.drop m).map V.str))) := Same.laid hq4
      have e11 : (upd H10 q4 (.lst ((W.drop m).map V.str))) q4 = some (.lst ((W.drop m).map V.str)) := upd_same
      generalize upd H10 q4 (.lst ((W.drop m).map V.str)) = H11 at *
      refine ⟨q3, q4, _, _, rfl, rfl, s11 _ _ e10, e11, ?_, fun q5 hq5 => ?_⟩
      · rw [List.length_append, List.length_map, List.length_map, List.length_take, List.length_drop, List.length_singleton, sizeLine_eq]; omega
      have et : ((W.take m).map V.str ++ [.str W[m]]) ++ (W.drop m).map V.str = (W.take m ++ [W[m]] ++ W.drop m).map V.str := by rw [List.map_append, List.map_append]; rfl
      rw [et]
      have mp : ∀ t ∈ W.take m ++ [W[m]] ++ W.drop m, t ∈ W := fun t ht => by
        rcases List.mem_append.mp ht with z | z
        · rcases List.mem_append.mp z with z | z
          · exact List.mem_of_mem_take z
          · rw [List.mem_singleton.mp z]; exact List.getElem_mem hm
        · exact List.mem_of_mem_drop z
      refine ⟨" + ", q5, _, rfl, rfl, SqL.of upd_same, join_plus ?_ (fun t ht => ?_), ?_⟩
      · rw [List.length_append, List.length_append, List.length_take, List.length_drop, List.length_singleton]; omega
      · have := wt3_mem (mp t ht); omega
      have sZ := (s710.trans s11).trans (Same.laid (o := .lst ((W.take m ++ [W[m]] ++ W.drop m).map V.str)) hq5)
      refine q _ _ ?_ (bag_same sZ bg7) (fA.trans sZ.frm)
      have j1 := join_wt (ps := W.take m ++ [W[m]] ++ W.drop m) (fun z => by
        have := congrArg List.length z
        rw [List.length_append, List.length_append, List.length_singleton, List.length_nil] at this
        omega)
      rw [wt3_append, wt3_append] at j1
      have j2 : wt3 W = wt3 (W.take m) + wt3 (W.drop m) := by rw [← wt3_append, List.take_append_drop]
      have j3 : wt3 [W[m]] = W[m].length + 3 := by unfold wt3; simp
      have j4 := wt3_mem (List.getElem_mem hm)
      omega
    · have hm : m < (Txt.split x " + ").length := by omega
      generalize hW : Txt.split x " + " = W at *
      refine ⟨rfl, _, rfl, _, rfl, _, rfl, ws, _, rfl, SqL.of ew7, fun q1 hq1 => ?_⟩
      rw [cut_from, ← List.map_drop]
      have s8 : Same H7 (upd H7 q1 (.lst ((W.drop m).map V.str))) := Same.laid hq1
      have e8 : (upd H7 q1 (.lst ((W.drop m).map V.str))) q1 = some (.lst ((W.drop m).map V.str)) := upd_same
      generalize upd H7 q1 (.lst ((W.drop m).map V.str)) = H8 at *
      refine ⟨_, rfl, _, rfl, _, rfl, ws, _, rfl, SqL.of (s8 _ _ ew7), fun q2 hq2 => ?_⟩
      rw [cut_to, ← List.map_take]
      have s9 : Same H8 (upd H8 q2 (.lst ((W.take m).map V.str))) := Same.laid hq2
      have e9 : (upd H8 q2 (.lst ((W.take m).map V.str))) q2 = some (.lst ((W.take m).map V.str)) := upd_same
      generalize upd H8 q2 (.lst ((W.take m).map V.str)) = H9 at *
      refine ⟨q1, q2, _, _, rfl, rfl, s9 _ _ e8, e9, ?_, fun q3 hq3 => ?_⟩
      · rw [List.length_map, List.length_map, List.length_take, List.length_drop, sizeLine_eq]; omega
      rw [← List.map_append]
      have mp : ∀ t ∈ W.drop m ++ W.take m, t ∈ W := fun t ht => by
        rcases List.mem_append.mp ht with z | z
        · exact List.mem_of_mem_drop z
        · exact List.mem_of_mem_take z
      have nn : W.drop m ++ W.take m ≠ [] := fun z => by
        have := congrArg List.length z
        rw [List.length_append, List.length_take, List.length_drop] at this
        simp at this
        omega
      refine ⟨" + ", q3, _, rfl, rfl, SqL.of upd_same, join_plus ?_ (fun t ht => ?_), ?_⟩
      · rw [List.length_append, List.length_take, List.length_drop]; omega
      · have := wt3_mem (mp t ht); omega
      have sZ := (s8.trans s9).trans (Same.laid (o := .lst ((W.drop m ++ W.take m).map V.str)) hq3)
      refine q _ _ ?_ (bag_same sZ bg7) (fA.trans sZ.frm)
      have j1 := join_wt nn
      rw [wt3_append] at j1
      have j2 : wt3 W = wt3 (W.take m) + wt3 (W.drop m) := by rw [← wt3_append, List.take_append_drop]
      omega
end
end Qk66

namespace Qk66
open PySem L2 PyProof.Rows
section
variable {P : Program} {w : World} {K : PySem.W.Frag} {mg : Str → Option Value} {base : Heap}
theorem words_eqv {K : PySem.W.Frag} {H : Hp} {xs ys : List V} {L : List (List Int)} (h1 : Words H xs L) (h2 : Words H ys L) : xs.length = ys.length ∧ ∀ (i : Nat) (x y : V), xs[i]? = some x → ys[i]? = some y → Eqv K H 60 x y := by
  refine ⟨h1.len.trans h2.len.symm, fun i x y hx hy => ?_⟩
  obtain ⟨p, ep, t, rfl, et⟩ := h1.get hx
  obtain ⟨p', ep', t', rfl, et'⟩ := h2.get hy
  rw [ep] at ep'
  cases ep'
  refine .tup (SqT.of et) (SqT.of et') rfl fun j u v hu hv => ?_
  rw [hu] at hv
  cases hv
  obtain ⟨n, _, rfl⟩ := map_int_at hu
  exact .flat rfl
def spLaw (K : PySem.W.Frag) : Sp := fun vs H Q _ => ∃ (a : Addr) (ns : List Int), vs = [.ref a] ∧ SqL K H a (ns.map V.int) ∧ ns.length ≤ 63 ∧ ∀ H', Q (.bl true) H'
abbrev s_law : Stmt := top 39
theorem sc_law : FnScope ["_law_script", "_law_k", "_law_bag_here", "_law_is_great", "_law_some", "_law_text_here", "_law_handed", "_law_turn", "_law_found", "_law_bent_here", "_law_due", "_law_thing"] ["_law_script"] (defScope s_law) := ⟨rfl, rfl, rfl, by decide +kernel, rfl, by decide +kernel, by decide +kernel⟩
theorem ok_law {f : Addr} {fd : FuncData} (F : Fun K "law" "law" s_law f fd) (h__law_bag : Has P w K mg base 1 "_law_bag" ["_law_script", "_law_at"] (spBag K)) (h__law_take : Has P w K mg base 1 "_law_take" ["_law_bag_here", "_law_most"] spTake) (h__law_sum : Has P w K mg base 2 "_law_sum" ["_law_bag_here"] spSm) (h__law_text : Has P w K mg base 1 "_law_text" ["_law_some"] spTxt) (h__law_said : Has P w K mg base 5 "_law_said" ["_law_thing"] spSaid) (h_show_sum : Has P w K mg base 2 "show_sum" ["one"] spShowS)
    (h__law_bent : Has P w K mg base 2 "_law_bent" ["_law_bag_here", "_law_text_here"] spBent) (h__law_read : Has P w K mg base 2 "_law_read" ["_law_text_here"] spRd) (h__law_lists : Has P w K mg base 2 "_law_lists" ["_law_bag_here"] spLi) (h__law_too_many : Has P w K mg base 2 "_law_too_many" ["_law_bag_here"] spToo) (b_range : mg "range" = none) (b_max : mg "max" = none) (b_min : mg "min" = none) (b_len : mg "len" = none) (b_list : mg "list" = none) (b_isinstance : mg "isinstance" = none) (b_int : mg "int" = none) : FnOk P w K mg base CX0 6 f fd ["_law_script"] (spLaw K) := by
  refine F.ok sc_law (fun vs H Q E h => ?_) (fun cdv A outer s H vs Q E hr h => ?_)
  · obtain ⟨a, ns, rfl, _⟩ := h
    rfl
  · obtain ⟨a, ns, rfl, hS, hl, k⟩ := h
    refine ⟨_, (pss_cons (ps_for PassesOwn.never rfl (pi_range1 (by rfl) b_range (pa_cons (pe_callB (call_max2 rfl) (by rfl) b_max boot_max (pa_cons pe_int (pa_cons (pe_callB (call_min2 rfl) (by rfl) b_min boot_min (pa_cons pe_int (pa_cons (pe_callB (call_lenK (K := K) rfl) (by rfl) b_len PySem.boot_len (pa_cons (pv 0) pa_nil)) pa_nil))) pa_nil))) pa_nil)) (pg_name (i := 1) sc_law.nd rfl (Or.inl rfl)) (pss_cons (ps_set (i := 2) sc_law.nd rfl (Or.inr rfl) (pe_has h__law_bag (hr.mono (by decide)) (pa_cons (pv 0) (pa_cons (pv 1) pa_nil))))
      (pss_cons (ps_set (i := 3) sc_law.nd rfl (Or.inl rfl) (pe_cmpR op_eq (pe_has h__law_take (hr.mono (by decide)) (pa_cons (pv 2) (pa_cons pe_int pa_nil))) pe_int (nomark _)))
      (pss_cons (ps_set (i := 4) sc_law.nd rfl (Or.inl rfl) (pe_has h__law_sum (hr.mono (by decide)) (pa_cons (pv 2) pa_nil)))
      (pss_cons (ps_set (i := 5) sc_law.nd rfl (Or.inr rfl) (pe_has h__law_text (hr.mono (by decide)) (pa_cons (pv 4) pa_nil)))
      (pss_cons (ps_set (i := 6) sc_law.nd rfl (Or.inl rfl) (pe_callTy (call_listK (K := K) rfl) (by rfl) b_list boot_list (pa_cons (pv 4) pa_nil)))
      (pss_cons (ps_for PassesOwn.never rfl (pi_range1 (by rfl) b_range (pa_cons pe_int pa_nil)) (pg_name (i := 7) sc_law.nd rfl (Or.inl rfl)) (pss_cons (ps_set (i := 8) sc_law.nd rfl (Or.inl rfl) (pe_has h__law_said (hr.mono (by decide)) (pa_cons (pv 5) pa_nil)))
      (pss_cons (ps_if (PW.pt (pw_or (pt_cmpR op_ne (pe_has h_show_sum (hr.mono (by decide)) (pa_cons (pv 6) pa_nil)) (pv 5) (nomark _)) (pw_or (pt_cmpR (op_nevK (K := K) rfl hr.units) (pv 6) (pv 4) (nomark _)) (pw_or (pt_not (pt_val (pe_callB (call_isinstK (K := K) rfl) (by rfl) b_isinstance boot_isinstance (pa_cons (pv 8) (pa_cons (pe_bltn (v := .ty "list") (by rfl) b_list boot_list rfl) pa_nil))))) (pw_or1 (pt_cmpR (op_nevK (K := K) rfl hr.units) (pv 8) (pv 4) (nomark _))))))) (pss_one (ps_ret pe_bl)) pss_nil)
      (pss_one (ps_expr (pe_bmK (K := K) rfl (pe_bm PySem.F.plainAttrs_list PySem.F.slot_list_append PySem.F.type_list_append mt_append (pv 8) (pa_cons (pe_tup (pa_cons pe_int pa_nil)) pa_nil))))))))
      (pss_cons (ps_for PassesOwn.never rfl (pi_listK (K := K) rfl (pe_op op_cat (pe_lc (Ls := ["_law_turn"]) (Fs := ["_law_bag_here", "_law_text_here"]) (fi := [2, 5]) (LcScope.of (show lcLook ["_law_script", "_law_k", "_law_bag_here", "_law_is_great", "_law_some", "_law_text_here", "_law_handed", "_law_turn", "_law_found", "_law_bent_here", "_law_due", "_law_thing"] (defScope s_law) _ ["_law_bag_here", "_law_text_here"] [2, 5] = true by decide +kernel)) rfl (pi_range1 (by rfl) b_range (pa_cons pe_int pa_nil)) (fun cl C s3 H3 ex => ⟨(pg_name (i := 0) (show ((["_law_turn"] : List Str) ++ (["_law_bag_here", "_law_text_here"] : List Str)).Nodup by decide +kernel) rfl (Or.inl rfl)), pts_nil, (pe_has h__law_bent (hr.mono (by decide)) (pa_cons (pv 1) (pa_cons (pv 2) pa_nil)))⟩)) (pe_op op_rep (pe_lst (pa_cons (pe_has h__law_too_many (hr.mono (by decide)) (pa_cons (pv 2) pa_nil)) pa_nil)) (pe_callTy call_int1 (by rfl) b_int boot_int (pa_cons (pv 3) pa_nil))))) (pg_name (i := 9) sc_law.nd rfl (Or.inl rfl)) (pss_cons (ps_set (i := 10) sc_law.nd rfl (Or.inl rfl) (pe_has h__law_read (hr.mono (by decide)) (pa_cons (pv 9) pa_nil)))
      (pss_cut (ps_if (pt_cmpR op_isN (pv 10) pe_non (nomark _)) (pss_one (ps_set (i := 10) sc_law.nd rfl (Or.inl rfl) pe_str)) pss_nil)
      (pss_one (ps_if (pt_cmpR (op_neU (K := K) rfl hr.units) (pe_has h__law_said (hr.mono (by decide)) (pa_cons (pv 9) pa_nil)) (pv 10) (nomark _)) (pss_one (ps_ret pe_bl)) pss_nil)))))
      (pss_cons (ps_set (i := 11) sc_law.nd rfl (Or.inl rfl) (pe_ix (ix_listK (K := K) rfl) (PEc.out (pec_lst (pac_cons pec_non (pac_cons pec_int (pac_cons pec_bl (pac_cons (pec_lst (pac_cons (pec_of (pv 5)) pac_nil se_Name)) (pac_cons (pec_tup (pac_cons (pec_of (pv 5)) pac_nil se_Name)) (pac_cons (pec_lst pac_nil) (pac_cons (pec_lst (pac_cons (pec_tup (pac_cons pec_int pac_nil se_Constant)) pac_nil se_Tuple)) (pac_cons pec_int pac_nil se_Constant) se_List) se_List) se_Tuple) se_List) se_Constant) se_Constant) se_Constant))) (pe_has h__law_take (hr.mono (by decide)) (pa_cons (pv 2) (pa_cons pe_int pa_nil))) (fun _ _ => rfl)))
      (pss_one (ps_if (PW.pt (pw_or (pt_cmpR op_ne (pe_has h__law_said (hr.mono (by decide)) (pa_cons (pv 11) pa_nil)) pe_str (nomark _)) (pw_or1 (pt_not (pt_val (pe_has h__law_lists (hr.mono (by decide)) (pa_cons (pv 2) pa_nil))))))) (pss_one (ps_ret pe_bl)) pss_nil)))))))))))
      (pss_one (ps_ret (pe_cmpR op_eq (pe_has h__law_said (hr.mono (by decide)) (pa_cons pe_str pa_nil)) pe_str (nomark _))))), ?_⟩
    refine ⟨_, rfl, a, _, rfl, .inl hS, _, _, rfl, _, _, rfl, _, rfl, ?_, ?_, for_range (fun i σ H' => ∃ v1 v2 v3 v4 v5 v6 v7 v8 v9 v10 v11 : Option V, σ = [some (.ref a), v1, v2, v3, v4, v5, v6, v7, v8, v9, v10, v11] ∧ Same H H') ⟨none, none, none, none, none, none, none, none, none, none, none, rfl, Same.refl _⟩ ?_ ?_⟩
    · split <;> (try split) <;> omega
    · rw [List.length_map]
      split <;> (try split) <;> omega
    · rintro i σ H0 hi ⟨v1, v2, v3, v4, v5, v6, v7, v8, v9, v10, v11, rfl, sm⟩
      have hi' : i < 900 := by
        rw [List.length_map] at hi
        revert hi
        split <;> (try split) <;> omega
      refine ⟨_, rfl, _, rfl, a, _, ns, rfl, sm.seq hS, by omega, by omega, fun b H1 hb s1 bg1 => ?_⟩
      refine ⟨_, rfl, b, 6, rfl, bg1, by decide, t60 (by decide), fun d H2 d0 d1 bg2 f2 => ⟨rfl, ?_⟩⟩
      -- frames: all but the bag stays
      have fB : ∀ {G : Hp}, Frm b H1 G → Same H G := fun {G} f c o e => f c o (s1 c o (sm c o e)) (ne_of_none (sm c o e) hb)
      refine ⟨_, rfl, b, rfl, bg2, fun l xs L H4 hl bg4 f4 el hL h40 hk fit => ?_⟩
      have nl : l ≠ b := bag_ne bg2 hl
      have hsm : ∀ w ∈ L, smallW w := fun w hw => (hk w hw).2
      have tl1 := sumT_pos hsm
      have tl2 : (sumT L).length ≤ 1441 := Nat.le_trans (sumT_len hsm h40 fun w hw => (hk w hw).1) (by decide)
      have hk9 : ∀ w ∈ L, w.length ≤ 9 ∧ smallW w := fun w hw => ⟨Nat.le_succ_of_le (hk w hw).1, (hk w hw).2⟩
      refine ⟨_, rfl, l, xs, L, rfl, el, hL, by omega, hk9, fun H5 s5 => ?_⟩
      have rt : sumBy numT (sumT L) = some L := by rw [sum_eq, sum_back hsm, if_pos fit]
      generalize hx : sumT L = x at *
      refine ⟨_, rfl, l, xs, rfl, .inl (SqL.of (s5 _ _ el)), fun hd hhd => ?_⟩
      have s6 : Same H5 (upd H5 hd (.lst xs)) := Same.laid hhd
      have eh : (upd H5 hd (.lst xs)) hd = some (.lst xs) := upd_same
      generalize upd H5 hd (.lst xs) = H6 at *
      have s46 := s5.trans s6
      have bg6 : Bag H6 b := bag_same s46 bg4
      have f6 : Frm b H1 H6 := (f2.trans f4).trans s46.frm
      have el6 := s46 _ _ el
      have hL6 := hL.same s46
      have nhd : hd ≠ b := bag_ne (bag_same s5 bg4) hhd
      -- twice read
      refine ⟨2, rfl, by decide, by decide, for_range (n := 2) (fun j σ G => ∃ v7 v8 : Option V, σ = [some (.ref a), some (.int (0 + (i : Int))), some (.ref b), some (.bl (decide (V.int d = V.int 5))), some (.ref l), some (.str x), some (.ref hd), v7, v8, v9, v10, v11] ∧ Same H6 G) ⟨_, _, rfl, Same.refl _⟩ ?_ ?_⟩
      · rintro j σ G hj ⟨v7, v8, rfl, sG⟩
        refine ⟨_, rfl, _, rfl, .inl ⟨_, rfl, by omega, fun L' e' fo zs G1 hfo s1' ef hL' => ?_, fun e' => by rw [rt] at e'; cases e'⟩⟩
        rw [rt] at e'
        cases e'
        have sA := sG.trans s1'
        refine ⟨_, rfl, hd, xs, L, rfl, sA _ _ eh, hL6.same sA, by omega, hk9, fun G2 s2 => ?_⟩
        rw [hx]
        have sB := sA.trans s2
        refine ⟨_, rfl, rfl, _, rfl, ?_⟩
        rw [decide_eq_true (show V.str x = V.str x from rfl)]
        refine iteF ?_
        obtain ⟨q1, q2⟩ := words_eqv (K := K) (hL6.same sB) (hL6.same sB)
        refine ⟨_, rfl, _, rfl, hd, l, xs, xs, rfl, rfl, SqL.of (sB _ _ eh), SqL.of (sB _ _ el6), q1, q2, _, rfl, iteF ?_⟩
        have ef2 := s2 _ _ ef
        refine ⟨_, rfl, _, "list", _, true, rfl, .lst ef2, by rfl, _, rfl, iteF ?_⟩
        obtain ⟨q3, q4⟩ := words_eqv (K := K) (hL'.same s2) (hL6.same sB)
        refine ⟨_, rfl, _, rfl, fo, l, zs, xs, rfl, rfl, SqL.of ef2, SqL.of (sB _ _ el6), q3, q4, _, rfl, iteF ?_⟩
        refine ⟨_, rfl, .inl ⟨rfl, _, SqL.of ef2⟩, (by show 1 ≤ sizeLine; decide), fun t ht => ?_⟩
        refine ⟨fo, _, _, rfl, rfl, (Same.laid ht) _ _ ef2, ?_, ?_⟩
        · rw [hL'.len, sizeLine_eq]; omega
        · have fG : H6 fo = none := sG.free hfo
          exact ⟨_, _, rfl, (sB.step ht).put fG⟩
      rintro σ G ⟨v7, v8, rfl, sG⟩
      have bgG : Bag G b := bag_same sG bg6
      -- the bent ones
      refine ⟨4, rfl, by decide, by decide, ?_⟩
      refine lc_rng (n := 4) (by decide) (fun i zs G' => Bag G' b ∧ Frm b H1 G' ∧ ∃ ts : List Str, zs = ts.map V.str ∧ ts.length = i ∧ ∀ t ∈ ts, t.length ≤ 2900) ⟨bgG, f6.trans sG.frm, [], rfl, rfl, fun t ht => by cases ht⟩ ?_ ?_ ?_
      · rintro i zs G' ⟨_, _, ts, rfl, e, _⟩
        rw [List.length_map, e]; exact Nat.le_refl _
      · rintro j zs G' hj ⟨bgj, fj, ts, rfl, e, ht⟩
        refine lcG ?_
        refine ⟨_, rfl, _, rfl, b, x, rfl, bgj, tl1, tl2, fun y G2 ly bg2' f2' => ⟨bg2', fj.trans f2', ts ++ [y], by simp, by simp [e], fun t ht' => ?_⟩⟩
        rcases List.mem_append.mp ht' with z | z
        · exact ht t z
        · rw [List.mem_singleton.mp z]; exact ly
      rintro zs G1 ⟨bgj, fj, ts, rfl, ets, hts⟩ D hD
      have s7 : Same G1 (upd G1 D (.lst (ts.map V.str))) := Same.laid hD
      have e7 : (upd G1 D (.lst (ts.map V.str))) D = some (.lst (ts.map V.str)) := upd_same
      have nD : D ≠ b := bag_ne bgj hD
      generalize upd G1 D (.lst (ts.map V.str)) = G2 at *
      refine ⟨_, rfl, b, rfl, bag_same s7 bgj, fun y G3 ly bg3 f3 => ?_⟩
      refine ⟨by show 1 ≤ sizeLine; decide, fun E1 hE1 => ?_⟩
      have s8 : Same G3 (upd G3 E1 (.lst [.str y])) := Same.laid hE1
      have e8 : (upd G3 E1 (.lst [.str y])) E1 = some (.lst [.str y]) := upd_same
      generalize upd G3 E1 (.lst [.str y]) = G4 at *
      refine ⟨_, rfl, .inr ⟨_, rfl, E1, _, _, rfl, rfl, e8, ?_, ?_, ?_, fun E2 hE2 => ?_⟩⟩
      · split <;> decide
      · split <;> decide
      · split
        · show 1 * 1 ≤ sizeLine; decide
        · show 1 * 0 ≤ sizeLine; decide
      rw [rep_if]
      obtain ⟨us, eus, hus⟩ : ∃ us : List Str, (if decide (V.int d = V.int 5) = true then [V.str y] else []) = us.map V.str ∧ (us.length ≤ 1 ∧ ∀ t ∈ us, t.length ≤ 2900) := by
        by_cases z : V.int d = V.int 5
        · exact ⟨[y], by rw [decide_eq_true z]; rfl, by simp, fun t ht => by rw [List.mem_singleton.mp ht]; omega⟩
        · exact ⟨[], by rw [decide_eq_false z]; rfl, by simp, fun t ht => by cases ht⟩
      rw [eus]
      have s9 : Same G4 (upd G4 E2 (.lst (us.map V.str))) := Same.laid hE2
      have e9 : (upd G4 E2 (.lst (us.map V.str))) E2 = some (.lst (us.map V.str)) := upd_same
      generalize upd G4 E2 (.lst (us.map V.str)) = G5 at *
      refine ⟨D, E2, _, _, rfl, rfl, s9 _ _ (s8 _ _ (f3 _ _ e7 nD)), e9, ?_, fun E3 hE3 => ?_⟩
      · rw [List.length_map, List.length_map, sizeLine_eq]; omega
      rw [← List.map_append]
      have tus : ∀ t ∈ ts ++ us, t.length ≤ 2900 := fun t ht => by
        rcases List.mem_append.mp ht with z | z
        · exact hts t z
        · exact hus.2 t z
      generalize ts ++ us = vs at *
      have s10 : Same G5 (upd G5 E3 (.lst (vs.map V.str))) := Same.laid hE3
      have e10 : (upd G5 E3 (.lst (vs.map V.str))) E3 = some (.lst (vs.map V.str)) := upd_same
      generalize upd G5 E3 (.lst (vs.map V.str)) = G6 at *
      have s36 := (s8.trans s9).trans s10
      have bgS : Bag G6 b := bag_same s36 bg3
      have frS : Frm b H1 G6 := ((fj.trans s7.frm).trans f3).trans s36.frm
      refine ⟨E3, rfl, ⟨_, SqL.of e10⟩, for_list (K := K) (a := E3) (xs := vs.map V.str) (fun j σ G' => ∃ v9 v10 : Option V, σ = [some (.ref a), some (.int (0 + (i : Int))), some (.ref b), some (.bl (decide (V.int d = V.int 5))), some (.ref l), some (.str x), some (.ref hd), v7, v8, v9, v10, v11] ∧ Same G6 G') ⟨_, _, rfl, Same.refl _⟩ (fun i σ G' _ ⟨_, _, _, sm⟩ => SqL.of (sm _ _ e10)) ?_ ?_⟩
      · rintro j v σ G7 hv ⟨v9, v10, rfl, sj⟩
        rw [List.getElem?_map] at hv
        cases ey : vs[j]? with
        | none => rw [ey] at hv; cases hv
        | some y =>
        rw [ey] at hv
        cases hv
        have ly := tus y (List.mem_of_getElem? ey)
        refine ⟨_, rfl, y, rfl, by omega, fun L' e' du zs G8 hdu s3' ed hL' => ?_, fun e' G8 s3' => ?_⟩
        · refine ⟨fun σ G' => σ = [some (.ref a), some (.int (0 + (i : Int))), some (.ref b), some (.bl (decide (V.int d = V.int 5))), some (.ref l), some (.str x), some (.ref hd), v7, v8, some (.str y), some (.ref du), v11] ∧ G' = G8, ⟨_, rfl, rfl, _, rfl, iteF ⟨rfl, rfl⟩⟩, ?_⟩
          rintro σ' G' ⟨rfl, rfl⟩
          have e2 : sumBy numT y = some L' := by rw [sum_eq]; exact e'
          refine ⟨_, rfl, _, rfl, .inl ⟨_, rfl, by omega, fun L2 e3 fo zs2 G9 hfo s4' ef hL2 => ?_, fun e3 => by rw [e2] at e3; cases e3⟩⟩
          rw [e2] at e3
          cases e3
          obtain ⟨q1, q2⟩ := words_eqv (K := K) hL2 (hL'.same s4')
          refine ⟨_, rfl, .inr ⟨fo, du, zs2, zs, rfl, rfl, SqL.of ef, SqL.of (s4' _ _ ed), q1, q2, _, rfl, iteF ?_⟩⟩
          exact ⟨_, _, rfl, (sj.trans s3').trans s4'⟩
        · refine ⟨fun σ G' => σ = [some (.ref a), some (.int (0 + (i : Int))), some (.ref b), some (.bl (decide (V.int d = V.int 5))), some (.ref l), some (.str x), some (.ref hd), v7, v8, some (.str y), some (.str "no text"), v11] ∧ G' = G8, ⟨_, rfl, rfl, _, rfl, iteT ⟨rfl, rfl⟩⟩, ?_⟩
          rintro σ' G' ⟨rfl, rfl⟩
          have e2 : sumBy numT y = none := by rw [sum_eq]; exact e'
          refine ⟨_, rfl, _, rfl, .inl ⟨_, rfl, by omega, fun L2 e3 => (by rw [e2] at e3; cases e3), fun _ G9 s4' => ?_⟩⟩
          refine ⟨_, rfl, .inl ⟨rfl, _, rfl, ?_⟩⟩
          rw [decide_eq_true (show V.str "no text" = V.str "no text" from rfl)]
          exact iteF ⟨_, _, rfl, (sj.trans s3').trans s4'⟩
      rintro σ G7 ⟨v9, v10, rfl, sj⟩
      have bgj := bag_same sj bgS
      have fj := frS.trans sj.frm
      have nt : ∀ t, G7 t = none → t ≠ b := fun t ht => bag_ne bgj ht
      -- a thing that is no text
      refine ⟨_, rfl, by show 1 ≤ sizeLine; decide, fun t1 ht1 => ⟨_, rfl, by show 1 ≤ sizeLine; decide, fun t2 ht2 => ⟨by show 0 ≤ sizeLine; decide, fun t3 ht3 => ⟨by show 1 ≤ sizeLine; decide, fun t0 ht0 => ⟨by show 1 ≤ sizeLine; decide, fun t4 ht4 => ⟨by show 8 ≤ sizeLine; decide, fun t5 ht5 => ?_⟩⟩⟩⟩⟩⟩
      have e1 : (upd G7 t1 (.lst [.str x])) t1 = some (.lst [.str x]) := upd_same
      have sa : Same G7 (upd G7 t1 (.lst [.str x])) := Same.laid ht1
      generalize upd G7 t1 (.lst [.str x]) = K1 at *
      have e2 : (upd K1 t2 (.tup [.str x])) t2 = some (.tup [.str x]) := upd_same
      have sb : Same K1 (upd K1 t2 (.tup [.str x])) := Same.laid ht2
      generalize upd K1 t2 (.tup [.str x]) = K2 at *
      have e3' : (upd K2 t3 (.lst [])) t3 = some (.lst []) := upd_same
      have sc : Same K2 (upd K2 t3 (.lst [])) := Same.laid ht3
      generalize upd K2 t3 (.lst []) = K3 at *
      have s0 : Same K3 (upd K3 t0 (.tup [.int 1])) := Same.laid ht0
      generalize upd K3 t0 (.tup [.int 1]) = K30 at *
      have e4 : (upd K30 t4 (.lst [.ref t0])) t4 = some (.lst [.ref t0]) := upd_same
      have sd : Same K30 (upd K30 t4 (.lst [.ref t0])) := Same.laid ht4
      generalize upd K30 t4 (.lst [.ref t0]) = K4 at *
      have e5 : (upd K4 t5 (.lst [.non, .int 5, .bl true, .ref t1, .ref t2, .ref t3, .ref t4, .int 0])) t5 = some (.lst [.non, .int 5, .bl true, .ref t1, .ref t2, .ref t3, .ref t4, .int 0]) := upd_same
      have se : Same K4 (upd K4 t5 (.lst [.non, .int 5, .bl true, .ref t1, .ref t2, .ref t3, .ref t4, .int 0])) := Same.laid ht5
      generalize upd K4 t5 (.lst [.non, .int 5, .bl true, .ref t1, .ref t2, .ref t3, .ref t4, .int 0]) = K5 at *
      have sabc : Same G7 K30 := ((sa.trans sb).trans sc).trans s0
      have sall : Same G7 K5 := (sabc.trans sd).trans se
      have bgK : Bag K5 b := bag_same sall bgj
      have n5 : t5 ≠ b := nt t5 ((sabc.trans sd).free ht5)
      refine ⟨_, rfl, b, 8, rfl, bgK, by decide, t60 (by decide), fun e K6 h0 h1 bg6' f6' => ?_⟩
      have sz := (s0.trans sd).trans se
      have E1 := f6' _ _ (sz _ _ (sc _ _ (sb _ _ e1))) (nt t1 ht1)
      have E2 := f6' _ _ (sz _ _ (sc _ _ e2)) (nt t2 (sa.free ht2))
      have E3' := f6' _ _ (sz _ _ e3') (nt t3 ((sa.trans sb).free ht3))
      have E4 := f6' _ _ (se _ _ e4) (nt t4 (sabc.free ht4))
      have E5 := f6' _ _ e5 n5
      obtain ⟨v, hv, sv, nv⟩ : ∃ v, atI [V.non, .int 5, .bl true, .ref t1, .ref t2, .ref t3, .ref t4, .int 0] e = some v ∧ Sim K6 v ∧ isStr v = false := by
        have : e = 0 ∨ e = 1 ∨ e = 2 ∨ e = 3 ∨ e = 4 ∨ e = 5 ∨ e = 6 ∨ e = 7 := by omega
        rcases this with rfl | rfl | rfl | rfl | rfl | rfl | rfl | rfl
        · exact ⟨_, rfl, .non, rfl⟩
        · exact ⟨_, rfl, .int 5, rfl⟩
        · exact ⟨_, rfl, .bl true, rfl⟩
        · exact ⟨_, rfl, .lst E1, rfl⟩
        · exact ⟨_, rfl, .tup E2, rfl⟩
        · exact ⟨_, rfl, .lst E3', rfl⟩
        · exact ⟨_, rfl, .lst E4, rfl⟩
        · exact ⟨_, rfl, .int 0, rfl⟩
      refine ⟨t5, _, _, v, rfl, rfl, SqL.of E5, hv, ?_⟩
      refine ⟨_, rfl, v, rfl, .inr ⟨sv, nv, fun K7 s7 => ⟨rfl, _, rfl, ?_⟩⟩⟩
      rw [decide_eq_true (show V.str "no text" = V.str "no text" from rfl)]
      refine iteF ?_
      refine ⟨_, rfl, b, rfl, bag_same s7 bg6', fun K8 bg8 f8 => ⟨_, rfl, iteF ?_⟩⟩
      exact ⟨_, _, _, _, _, _, _, _, _, _, _, rfl, fB ((((fj.trans sall.frm).trans f6').trans s7.frm).trans f8)⟩
    · rintro σ G ⟨v1, v2, v3, v4, v5, v6, v7, v8, v9, v10, v11, rfl, sm⟩
      refine ⟨_, rfl, .inl ⟨_, rfl, by decide +kernel, fun L e => ?_, fun _ G2 s2 => ⟨rfl, ?_⟩⟩⟩
      · have : sumBy numT (Str.ofString "") = none := by decide +kernel
        rw [this] at e
        cases e
      · exact k G2
end
end Qk66

namespace Qk66
open PySem L2 PyProof.Rows
/-! ### what the top has written -/
theorem has_mk {P : Program} {w : World} {K : PySem.W.Frag} {mg : Str → Option Value} {base : Heap} {k : Nat} {x : Str} {ps : List Str} {sp : Sp} {f : Addr} {fd : FuncData} (G : FnOk P w K mg base CX0 k f fd ps sp) (m : mg x = some (.ref f)) (kp : PySem.W.keepIn K (.ref f) = true) (b : Binds K fd ps []) : Has P w K mg base k x ps sp := ⟨f, fd, G, m, kp, b⟩
theorem hasX_mk {P : Program} {w : World} {K : PySem.W.Frag} {mg : Str → Option Value} {base : Heap} {k : Nat} {x : Str} {ps : List Str} {sp : Sp} {f : Addr} {fd : FuncData} (G : FnOk P w K mg base (CX1 P w) k f fd ps sp) (m : mg x = some (.ref f)) (kp : PySem.W.keepIn K (.ref f) = true) (b : Binds K fd ps []) : HasX P w K mg base k x ps sp := ⟨f, fd, G, m, kp, b⟩
end Qk66

namespace Qk66
open PySem L2 PyProof.Rows
section
variable {P : Program} {w : World} {K : PySem.W.Frag} {mg : Str → Option Value} {base : Heap}
theorem all_mk {l : PySem.W.OpenLaw} {w : World} {K : PySem.W.Frag} {h : Heap} {mg : Str → Option Value} {fa : Addr} (X : K.In h) (G : h.Ns mainGlobals mg) (hfa : mg "law" = some (.ref fa))
    {f0 f1 f2 f3 f4 f5 f6 f7 f8 f9 f10 f11 f12 f13 f14 f15 f16 f17 f18 f19 f20 : Addr} {d0 d1 d2 d3 d4 d5 d6 d7 d8 d9 d10 d11 d12 d13 d14 d15 d16 d17 d18 d19 d20 : FuncData}
    {t_NAME_FIGURES : Tok} (ag_NAME_FIGURES : PySem.W.nsIn K mainGlobals "NAME_FIGURES" = some (some (.int 2 t_NAME_FIGURES)))
    {t_MOST_WORDS : Tok} (ag_MOST_WORDS : PySem.W.nsIn K mainGlobals "MOST_WORDS" = some (some (.int 40 t_MOST_WORDS)))
    {t_MOST_NAMES : Tok} (ag_MOST_NAMES : PySem.W.nsIn K mainGlobals "MOST_NAMES" = some (some (.int 8 t_MOST_NAMES)))
    {a_FrontError : Addr} (ag_FrontError : PySem.W.nsIn K mainGlobals "FrontError" = some (some (.ref a_FrontError)))
    {a_NoHeights : Addr} (ag_NoHeights : PySem.W.nsIn K mainGlobals "NoHeights" = some (some (.ref a_NoHeights)))
    {a_TooMany : Addr} (ag_TooMany : PySem.W.nsIn K mainGlobals "TooMany" = some (some (.ref a_TooMany)))
    {a_NoTable : Addr} (ag_NoTable : PySem.W.nsIn K mainGlobals "NoTable" = some (some (.ref a_NoTable)))
    {a_NoSetting : Addr} (ag_NoSetting : PySem.W.nsIn K mainGlobals "NoSetting" = some (some (.ref a_NoSetting)))
    {a_NoBanding : Addr} (ag_NoBanding : PySem.W.nsIn K mainGlobals "NoBanding" = some (some (.ref a_NoBanding)))
    {a_NoMove : Addr} (ag_NoMove : PySem.W.nsIn K mainGlobals "NoMove" = some (some (.ref a_NoMove)))
    {a_NoName : Addr} (ag_NoName : PySem.W.nsIn K mainGlobals "NoName" = some (some (.ref a_NoName)))
    {a_NoPaper : Addr} (ag_NoPaper : PySem.W.nsIn K mainGlobals "NoPaper" = some (some (.ref a_NoPaper)))
    {a_NoRow : Addr} (ag_NoRow : PySem.W.nsIn K mainGlobals "NoRow" = some (some (.ref a_NoRow)))
    {a_NoText : Addr} (ag_NoText : PySem.W.nsIn K mainGlobals "NoText" = some (some (.ref a_NoText)))
    (x_FrontError : PySem.W.excIn K a_FrontError [.type "ValueError", .type "Exception", .type "BaseException", .type "object"] "ValueError.__new__" = true)
    (x_NoText : PySem.W.excIn K a_NoText [.type "ValueError", .type "Exception", .type "BaseException", .type "object"] "ValueError.__new__" = true)
    (m_NoText : PySem.W.mroIn K a_NoText (.ref a_FrontError) = some true)
    (xc : L2.XCls K a_NoText)
    (k0 : PySem.W.kitOne K (.ref a_NoText) (.ref a_NoText) = some true)
    (k1 : PySem.W.kitOne K (.ref a_NoText) (.ref a_NoHeights) = some false)
    (k2 : PySem.W.kitOne K (.ref a_NoText) (.ref a_TooMany) = some false)
    (k3 : PySem.W.kitOne K (.ref a_NoText) (.ref a_NoTable) = some false)
    (k4 : PySem.W.kitOne K (.ref a_NoText) (.ref a_NoBanding) = some false)
    (k5 : PySem.W.kitOne K (.ref a_NoText) (.ref a_NoSetting) = some false)
    (k6 : PySem.W.kitOne K (.ref a_NoText) (.ref a_NoMove) = some false)
    (k7 : PySem.W.kitOne K (.ref a_NoText) (.ref a_NoPaper) = some false)
    (k8 : PySem.W.kitOne K (.ref a_NoText) (.ref a_NoRow) = some false)
    (k9 : PySem.W.kitOne K (.ref a_NoText) (.ref a_NoName) = some false)
    (kv : PySem.W.kitOne K (.ref a_NoText) (.type "ValueError") = some true)
    (a0 : PySem.W.nsIn K mainGlobals "_law_take" = some (some (.ref f0))) (l0 : Fun K "_law_take" "_law_take" s__law_take f0 d0)
    (a1 : PySem.W.nsIn K mainGlobals "_law_bag" = some (some (.ref f1))) (l1 : Fun K "_law_bag" "_law_bag" s__law_bag f1 d1)
    (a2 : PySem.W.nsIn K mainGlobals "read_number" = some (some (.ref f2))) (l2 : Fun K "read_number" "read_number" s_read_number f2 d2)
    (a3 : PySem.W.nsIn K mainGlobals "is_whole" = some (some (.ref f3))) (l3 : Fun K "is_whole" "is_whole" s_is_whole f3 d3)
    (a4 : PySem.W.nsIn K mainGlobals "is_word" = some (some (.ref f4))) (l4 : Fun K "is_word" "is_word" s_is_word f4 d4)
    (a5 : PySem.W.nsIn K mainGlobals "is_sum" = some (some (.ref f5))) (l5 : Fun K "is_sum" "is_sum" s_is_sum f5 d5)
    (a6 : PySem.W.nsIn K mainGlobals "read_name" = some (some (.ref f6))) (l6 : Fun K "read_name" "read_name" s_read_name f6 d6)
    (a7 : PySem.W.nsIn K mainGlobals "read_word" = some (some (.ref f7))) (l7 : Fun K "read_word" "read_word" s_read_word f7 d7)
    (a8 : PySem.W.nsIn K mainGlobals "read_sum" = some (some (.ref f8))) (l8 : Fun K "read_sum" "read_sum" s_read_sum f8 d8)
    (a9 : PySem.W.nsIn K mainGlobals "show_word" = some (some (.ref f9))) (l9 : Fun K "show_word" "show_word" s_show_word f9 d9)
    (a10 : PySem.W.nsIn K mainGlobals "show_sum" = some (some (.ref f10))) (l10 : Fun K "show_sum" "show_sum" s_show_sum f10 d10)
    (a11 : PySem.W.nsIn K mainGlobals "show_list" = some (some (.ref f11))) (l11 : Fun K "show_list" "show_list" s_show_list f11 d11)
    (a12 : PySem.W.nsIn K mainGlobals "_law_text" = some (some (.ref f12))) (l12 : Fun K "_law_text" "_law_text" s__law_text f12 d12)
    (a13 : PySem.W.nsIn K mainGlobals "_law_number" = some (some (.ref f13))) (l13 : Fun K "_law_number" "_law_number" s__law_number f13 d13)
    (a14 : PySem.W.nsIn K mainGlobals "_law_said" = some (some (.ref f14))) (l14 : Fun K "_law_said" "_law_said" s__law_said f14 d14)
    (a15 : PySem.W.nsIn K mainGlobals "_law_sum" = some (some (.ref f15))) (l15 : Fun K "_law_sum" "_law_sum" s__law_sum f15 d15)
    (a16 : PySem.W.nsIn K mainGlobals "_law_read" = some (some (.ref f16))) (l16 : Fun K "_law_read" "_law_read" s__law_read f16 d16)
    (a17 : PySem.W.nsIn K mainGlobals "_law_lists" = some (some (.ref f17))) (l17 : Fun K "_law_lists" "_law_lists" s__law_lists f17 d17)
    (a18 : PySem.W.nsIn K mainGlobals "_law_too_many" = some (some (.ref f18))) (l18 : Fun K "_law_too_many" "_law_too_many" s__law_too_many f18 d18)
    (a19 : PySem.W.nsIn K mainGlobals "_law_bent" = some (some (.ref f19))) (l19 : Fun K "_law_bent" "_law_bent" s__law_bent f19 d19)
    (a20 : PySem.W.nsIn K mainGlobals "law" = some (some (.ref f20))) (l20 : Fun K "law" "law" s_law f20 d20)
    (z_enumerate : PySem.W.nsIn K mainGlobals "enumerate" = some none)
    (z_list : PySem.W.nsIn K mainGlobals "list" = some none)
    (z_len : PySem.W.nsIn K mainGlobals "len" = some none)
    (z_range : PySem.W.nsIn K mainGlobals "range" = some none)
    (z_abs : PySem.W.nsIn K mainGlobals "abs" = some none)
    (z_isinstance : PySem.W.nsIn K mainGlobals "isinstance" = some none)
    (z_int : PySem.W.nsIn K mainGlobals "int" = some none)
    (z_bool : PySem.W.nsIn K mainGlobals "bool" = some none)
    (z_all : PySem.W.nsIn K mainGlobals "all" = some none)
    (z_sum : PySem.W.nsIn K mainGlobals "sum" = some none)
    (z_max : PySem.W.nsIn K mainGlobals "max" = some none)
    (z_min : PySem.W.nsIn K mainGlobals "min" = some none)
    (z_zip : PySem.W.nsIn K mainGlobals "zip" = some none)
    (z_tuple : PySem.W.nsIn K mainGlobals "tuple" = some none)
    (z_str : PySem.W.nsIn K mainGlobals "str" = some none)
    (z_sorted : PySem.W.nsIn K mainGlobals "sorted" = some none)
    (z_ValueError : PySem.W.nsIn K mainGlobals "ValueError" = some none) :
    ∃ fd : FuncData, (∀ (s : Shared) (v : Value), BindsTo s fd ⟨[v], []⟩ [("_law_script", v)]) ∧ ∀ base : Heap, K.In base → base.Ns mainGlobals mg → FnOk l.prog w K mg base CX0 6 fa fd ["_law_script"] (spLaw K) := by
  have e := hfa.symm.trans (PySem.W.mg_of X G a20)
  cases e
  have b_enumerate : mg "enumerate" = none := PySem.W.mg_none_of X G z_enumerate
  have b_list : mg "list" = none := PySem.W.mg_none_of X G z_list
  have b_len : mg "len" = none := PySem.W.mg_none_of X G z_len
  have b_range : mg "range" = none := PySem.W.mg_none_of X G z_range
  have b_abs : mg "abs" = none := PySem.W.mg_none_of X G z_abs
  have b_isinstance : mg "isinstance" = none := PySem.W.mg_none_of X G z_isinstance
  have b_int : mg "int" = none := PySem.W.mg_none_of X G z_int
  have b_bool : mg "bool" = none := PySem.W.mg_none_of X G z_bool
  have b_all : mg "all" = none := PySem.W.mg_none_of X G z_all
  have b_sum : mg "sum" = none := PySem.W.mg_none_of X G z_sum
  have b_max : mg "max" = none := PySem.W.mg_none_of X G z_max
  have b_min : mg "min" = none := PySem.W.mg_none_of X G z_min
  have b_zip : mg "zip" = none := PySem.W.mg_none_of X G z_zip
  have b_tuple : mg "tuple" = none := PySem.W.mg_none_of X G z_tuple
  have b_str : mg "str" = none := PySem.W.mg_none_of X G z_str
  have b_sorted : mg "sorted" = none := PySem.W.mg_none_of X G z_sorted
  have b_ValueError : mg "ValueError" = none := PySem.W.mg_none_of X G z_ValueError
  have g_NAME_FIGURES := PySem.W.mg_of X G ag_NAME_FIGURES
  have g_MOST_WORDS := PySem.W.mg_of X G ag_MOST_WORDS
  have g_MOST_NAMES := PySem.W.mg_of X G ag_MOST_NAMES
  have g_FrontError : mg "FrontError" = some (.ref a_FrontError) := PySem.W.mg_of X G ag_FrontError
  have g_NoHeights : mg "NoHeights" = some (.ref a_NoHeights) := PySem.W.mg_of X G ag_NoHeights
  have g_TooMany : mg "TooMany" = some (.ref a_TooMany) := PySem.W.mg_of X G ag_TooMany
  have g_NoTable : mg "NoTable" = some (.ref a_NoTable) := PySem.W.mg_of X G ag_NoTable
  have g_NoSetting : mg "NoSetting" = some (.ref a_NoSetting) := PySem.W.mg_of X G ag_NoSetting
  have g_NoBanding : mg "NoBanding" = some (.ref a_NoBanding) := PySem.W.mg_of X G ag_NoBanding
  have g_NoMove : mg "NoMove" = some (.ref a_NoMove) := PySem.W.mg_of X G ag_NoMove
  have g_NoName : mg "NoName" = some (.ref a_NoName) := PySem.W.mg_of X G ag_NoName
  have g_NoPaper : mg "NoPaper" = some (.ref a_NoPaper) := PySem.W.mg_of X G ag_NoPaper
  have g_NoRow : mg "NoRow" = some (.ref a_NoRow) := PySem.W.mg_of X G ag_NoRow
  have g_NoText : mg "NoText" = some (.ref a_NoText) := PySem.W.mg_of X G ag_NoText
  have F__law_take := l0
  have B__law_take := F__law_take.binds (ps := ["_law_bag_here", "_law_most"]) fun _ _ _ _ _ _ us hl => match us, hl with | [_, _], _ => rfl
  have F__law_bag := l1
  have B__law_bag := F__law_bag.binds (ps := ["_law_script", "_law_at"]) fun _ _ _ _ _ _ us hl => match us, hl with | [_, _], _ => rfl
  have F_read_number := l2
  have B_read_number := F_read_number.binds (ps := ["text", "most"]) fun _ _ _ _ _ _ us hl => match us, hl with | [_, _], _ => rfl
  have F_is_whole := l3
  have B_is_whole := F_is_whole.binds (ps := ["thing"]) fun _ _ _ _ _ _ us hl => match us, hl with | [_], _ => rfl
  have F_is_word := l4
  have B_is_word := F_is_word.binds (ps := ["thing"]) fun _ _ _ _ _ _ us hl => match us, hl with | [_], _ => rfl
  have F_is_sum := l5
  have B_is_sum := F_is_sum.binds (ps := ["thing"]) fun _ _ _ _ _ _ us hl => match us, hl with | [_], _ => rfl
  have F_read_name := l6
  have B_read_name := F_read_name.binds (ps := ["text"]) fun _ _ _ _ _ _ us hl => match us, hl with | [_], _ => rfl
  have F_read_word := l7
  have B_read_word := F_read_word.binds (ps := ["text"]) fun _ _ _ _ _ _ us hl => match us, hl with | [_], _ => rfl
  have F_read_sum := l8
  have B_read_sum := F_read_sum.binds (ps := ["text"]) fun _ _ _ _ _ _ us hl => match us, hl with | [_], _ => rfl
  have F_show_word := l9
  have B_show_word := F_show_word.binds (ps := ["word"]) fun _ _ _ _ _ _ us hl => match us, hl with | [_], _ => rfl
  have F_show_sum := l10
  have B_show_sum := F_show_sum.binds (ps := ["one"]) fun _ _ _ _ _ _ us hl => match us, hl with | [_], _ => rfl
  have F_show_list := l11
  have B_show_list := F_show_list.binds (ps := ["numbers"]) fun _ _ _ _ _ _ us hl => match us, hl with | [_], _ => rfl
  have F__law_text := l12
  have B__law_text := F__law_text.binds (ps := ["_law_some"]) fun _ _ _ _ _ _ us hl => match us, hl with | [_], _ => rfl
  have F__law_number := l13
  have B__law_number := F__law_number.binds (ps := ["_law_figures"]) fun _ _ _ _ _ _ us hl => match us, hl with | [_], _ => rfl
  have F__law_said := l14
  have B__law_said := F__law_said.binds (ps := ["_law_thing"]) fun _ _ _ _ _ _ us hl => match us, hl with | [_], _ => rfl
  have F__law_sum := l15
  have B__law_sum := F__law_sum.binds (ps := ["_law_bag_here"]) fun _ _ _ _ _ _ us hl => match us, hl with | [_], _ => rfl
  have F__law_read := l16
  have B__law_read := F__law_read.binds (ps := ["_law_text_here"]) fun _ _ _ _ _ _ us hl => match us, hl with | [_], _ => rfl
  have F__law_lists := l17
  have B__law_lists := F__law_lists.binds (ps := ["_law_bag_here"]) fun _ _ _ _ _ _ us hl => match us, hl with | [_], _ => rfl
  have F__law_too_many := l18
  have B__law_too_many := F__law_too_many.binds (ps := ["_law_bag_here"]) fun _ _ _ _ _ _ us hl => match us, hl with | [_], _ => rfl
  have F__law_bent := l19
  have B__law_bent := F__law_bent.binds (ps := ["_law_bag_here", "_law_text_here"]) fun _ _ _ _ _ _ us hl => match us, hl with | [_, _], _ => rfl
  have F_law := l20
  have B_law := F_law.binds (ps := ["_law_script"]) fun _ _ _ _ _ _ us hl => match us, hl with | [_], _ => rfl
  obtain ⟨oc, od, kV, dc, pm, an, cd, ct, sl, rfl, _, _⟩ := l20.ex
  refine ⟨PySem.W.fnOf "law" "law" (defArgs s_law) (defBody s_law) (defScope s_law) .none kV dc pm an cd ct, fun s v => .of_eq rfl, fun base _ _ => ?_⟩
  have h__law_take : Has l.prog w K mg base 1 "_law_take" ["_law_bag_here", "_law_most"] spTake := has_mk (ok_take F__law_take) (PySem.W.mg_of X G a0) l0.kp B__law_take
  have h__law_bag : Has l.prog w K mg base 1 "_law_bag" ["_law_script", "_law_at"] (spBag K) := has_mk (ok_bag F__law_bag b_len b_abs) (PySem.W.mg_of X G a1) l1.kp B__law_bag
  have h_read_number : Has l.prog w K mg base 1 "read_number" ["text", "most"] spNum := has_mk (ok_num F_read_number b_len b_int b_str) (PySem.W.mg_of X G a2) l2.kp B_read_number
  have h_is_whole : Has l.prog w K mg base 1 "is_whole" ["thing"] spWholeI := has_mk (ok_isWhole F_is_whole b_isinstance b_int b_bool) (PySem.W.mg_of X G a3) l3.kp B_is_whole
  have h_is_word : Has l.prog w K mg base 2 "is_word" ["thing"] spWordI := has_mk (ok_isWord F_is_word h_is_whole b_isinstance b_tuple b_all) (PySem.W.mg_of X G a4) l4.kp B_is_word
  have h_is_sum : Has l.prog w K mg base 3 "is_sum" ["thing"] spSumI := has_mk (ok_isSum F_is_sum h_is_word b_isinstance b_list b_all b_zip) (PySem.W.mg_of X G a5) l5.kp B_is_sum
  have h_read_name : HasX l.prog w K mg base 2 "read_name" ["text"] (spName a_NoText) := hasX_mk (ok_name F_read_name g_NAME_FIGURES g_NoText x_NoText h_read_number) (PySem.W.mg_of X G a6) l6.kp B_read_name
  have h_read_word : HasX l.prog w K mg base 3 "read_word" ["text"] (spWord a_NoText) := hasX_mk (ok_word F_read_word h_read_name b_tuple) (PySem.W.mg_of X G a7) l7.kp B_read_word
  have h_read_sum : HasX l.prog w K mg base 4 "read_sum" ["text"] (spSum a_NoText) := hasX_mk (ok_sum F_read_sum g_NoText x_NoText g_MOST_WORDS g_MOST_NAMES h_read_word h_is_sum b_isinstance b_str b_len b_max) (PySem.W.mg_of X G a8) l8.kp B_read_sum
  have h_show_word : Has l.prog w K mg base 1 "show_word" ["word"] spShowW := has_mk (ok_showW F_show_word) (PySem.W.mg_of X G a9) l9.kp B_show_word
  have h_show_sum : Has l.prog w K mg base 2 "show_sum" ["one"] spShowS := has_mk (ok_showS F_show_sum h_show_word) (PySem.W.mg_of X G a10) l10.kp B_show_sum
  have h_show_list : Has l.prog w K mg base 1 "show_list" ["numbers"] spShowL := has_mk (ok_showL F_show_list b_str) (PySem.W.mg_of X G a11) l11.kp B_show_list
  have h__law_text : Has l.prog w K mg base 1 "_law_text" ["_law_some"] spTxt := has_mk (ok_txt F__law_text b_str b_int) (PySem.W.mg_of X G a12) l12.kp B__law_text
  have h__law_number : Has l.prog w K mg base 1 "_law_number" ["_law_figures"] spNb := has_mk (ok_nb F__law_number b_len b_all b_int) (PySem.W.mg_of X G a13) l13.kp B__law_number
  have h__law_said : Has l.prog w K mg base 5 "_law_said" ["_law_thing"] spSaid := has_mk (ok_said F__law_said g_FrontError x_FrontError m_NoText g_NoText g_NoHeights g_TooMany g_NoTable g_NoBanding g_NoSetting g_NoMove g_NoPaper g_NoRow g_NoName xc k0 k1 k2 k3 k4 k5 k6 k7 k8 k9 kv h_read_sum b_isinstance b_ValueError b_int) (PySem.W.mg_of X G a14) l14.kp B__law_said
  have h__law_sum : Has l.prog w K mg base 2 "_law_sum" ["_law_bag_here"] spSm := has_mk (ok_sm F__law_sum h__law_take b_range b_tuple b_sorted) (PySem.W.mg_of X G a15) l15.kp B__law_sum
  have h__law_read : Has l.prog w K mg base 2 "_law_read" ["_law_text_here"] spRd := has_mk (ok_rd F__law_read h__law_number b_all b_len b_int b_tuple b_range) (PySem.W.mg_of X G a16) l16.kp B__law_read
  have h__law_lists : Has l.prog w K mg base 2 "_law_lists" ["_law_bag_here"] spLi := has_mk (ok_li F__law_lists h__law_take h_show_list b_range b_list b_str b_int) (PySem.W.mg_of X G a17) l17.kp B__law_lists
  have h__law_too_many : Has l.prog w K mg base 2 "_law_too_many" ["_law_bag_here"] spToo := has_mk (ok_too F__law_too_many h__law_take h__law_text b_range b_tuple) (PySem.W.mg_of X G a18) l18.kp B__law_too_many
  have h__law_bent : Has l.prog w K mg base 2 "_law_bent" ["_law_bag_here", "_law_text_here"] spBent := has_mk (ok_bent F__law_bent h__law_take b_len) (PySem.W.mg_of X G a19) l19.kp B__law_bent
  exact ok_law F_law h__law_bag h__law_take h__law_sum h__law_text h__law_said h_show_sum h__law_bent h__law_read h__law_lists h__law_too_many b_range b_max b_min b_len b_list b_isinstance b_int
theorem walk {l : PySem.W.OpenLaw} {q : Program} {loose : List Str} {XP : (Str → Option Value) → Heap → Prop} {YP : World → Heap → Prop} {d : DefRec} {K : Params → PySem.W.Frag} (hn : l.most = some 63) (hdf : d.params.defaults = [])
    (hY : ∀ (w : World) (h : Heap), YP w h → (K w.params).In h)
    (F : ∀ (w : World) (mg : Str → Option Value) (fa : Addr) (h : Heap), (K w.params).In h → h.Ns mainGlobals mg → mg d.name = some (.ref fa) →
      ∃ fd : FuncData, (∀ (s : Shared) (u : Value), BindsTo s fd ⟨[u], []⟩ [("_law_script", u)]) ∧ ∀ base : Heap, (K w.params).In base → base.Ns mainGlobals mg → FnOk l.prog w (K w.params) mg base CX0 6 fa fd ["_law_script"] (spLaw (K w.params))) :
    PySem.W.WalkO q loose XP YP l.row.toRowW d [] (fun f vs => PySem.call f vs) :=
  L2.walk_of (n := 63) (k := 6) (x := "_law_script") (CX := fun _ => CX0) (sp := fun w => spLaw (K w.params)) hn (by decide) hdf ⟨rfl, by decide, by decide⟩ hY F (fun _ _ a ns hl _ hS => ⟨a, ns, rfl, hS, hl, fun _ => rfl⟩) fun _ _ _ _ _ z => z
end
end Qk66

namespace PySem.W.Fast
def tw2017386690124016704:=0
def tw2869312106076077152:=0
def tw14412357920831692960:=0
def tw16262910984132764992:=0
def tw15511242271584563520:=0
def tw5767271758675134784:=0
def tw17007032105344653632:=0
def tw8420046925738262016:=0
def tw10190246438450687584:=0
def tw4622276926264986272:=0
def tw2703831594752664416:=0
def tw10772429268993459136:=0
def tw7049106131515339777:=0
def tw8766283158874424353:=0
def tw8140700821866530049:=0
def tw18182821657803481505:=0
def tw9677357950086480481:=0
def tw17213753475367065441:=0
def tw16414568221092906913:=0
def tw8145680412431272994:=0
def tw5090810756393483298:=0
def tw9688591753338234946:=0
def tw7680862445160528034:=0
def tw17328610664504999362:=0
def tw17037545636426347970:=0
def tw13357858589291873826:=0
def tw441476359941708450:=0
def tw15883497920373194562:=0
def tw14480496097803840354:=0
def tw4800308684641773571:=0
def tw13445490248130004163:=0
def tw15461184867651996963:=0
def tw16589906340859821411:=0
def tw13105381668279547267:=0
def tw9483623731409624483:=0
def tw11093591513482285731:=0
def tw4000829643891872419:=0
def tw15392318019143074787:=0
def tw12069337871981416452:=0
def tw1562814852360984580:=0
def tw2115247981345001732:=0
def tw7828395744707513924:=0
def tw769227865681267268:=0
def tw7775414524937860772:=0
def tw17079155296278900069:=0
def tw8958997666587473445:=0
def tw14372914022451698277:=0
def tw13241885563979443845:=0
def tw5642141070066220741:=0
def tw13419446385358739205:=0
def tw9543254788924223301:=0
def tw11366947580783199077:=0
def tw5652156185505350662:=0
def tw6636695062255449126:=0
def tw16226063677578653734:=0
def tw9573879158196640966:=0
def tw2197366774409835814:=0
def tw16725050154693963142:=0
def tw11401707203515010566:=0
def tw2558715345668932262:=0
def tw209421192037778439:=0
def tw12829034870102976679:=0
def tw12334015714602850471:=0
def tw5603083272844596519:=0
def tw6264313784787266919:=0
def tw11393010084922210023:=0
def tw5264867021933755303:=0
def tw14887903431918028136:=0
def tw8989278615703521832:=0
def tw8051070159371601576:=0
def tw13711576820292250633:=0
def tw5004113399853232233:=0
def tw13745457881878141161:=0
def tw14075252759831917865:=0
def tw7669366225091941705:=0
def tw16021198242282067305:=0
def tw4940306217675328905:=0
def tw4375678040511280553:=0
def tw941694624655295113:=0
def tw2488828235931166377:=0
def tw14830260094865635049:=0
def tw12455858834433487978:=0
def tw5397260725716250794:=0
def tw6039809806963342762:=0
def tw2608690725732005322:=0
def tw13684418442917191370:=0
def tw16882006404708012874:=0
def tw17301444534317622379:=0
def tw12668805578232832107:=0
def tw12570480456160281771:=0
def tw6700934911327597995:=0
def tw11507146447598893675:=0
def tw221923809186283339:=0
def tw13809991269438706571:=0
def tw9470856085614016427:=0
def tw5993203409315826603:=0
def tw226827587039932492:=0
def tw11354352186984553644:=0
def tw17121812734842903724:=0
def tw11495766693235105004:=0
def tw18011881768453758444:=0
def tw13429367096465059372:=0
def tw7095962520447573644:=0
def tw6334851240193788684:=0
def tw16521293859070446412:=0
def tw8595754190970646348:=0
def tw12196540992120966157:=0
def tw5626126590258221101:=0
def tw857044603574054029:=0
def tw11347663496508039373:=0
def tw9822892561223566541:=0
def tw3418826990916555085:=0
def tw16421617196426664365:=0
def tw15278085051248955821:=0
def tw1023827914233298477:=0
def tw414241712112793389:=0
def tw9916771386662970285:=0
def tw16696939474414840749:=0
def tw9538865650579976109:=0
def tw10105161385183681550:=0
def tw3757205563289916462:=0
def tw17598985242759348366:=0
def tw17332051235669725326:=0
def tw7604507345110170926:=0
def tw16325109733232123310:=0
def tw6117285657195676142:=0
def tw14327608182397334158:=0
def tw4068600869050523342:=0
def tw10978823399364456559:=0
def tw7981767398010259599:=0
def tw15249870059980080495:=0
def tw9913664466352342479:=0
def tw7754039634661508911:=0
def tw1982368923801369423:=0
def tw2172795296686108623:=0
def tw3355358323722975312:=0
def tw11094968114344662256:=0
def tw18045635054519846224:=0
def tw17500126880738738768:=0
def tw730639398867475024:=0
def tw2868939617668718224:=0
def tw8815425815016283185:=0
def tw3423127211952080017:=0
def tw2141501567861447121:=0
def tw12995746022988104241:=0
def tw12915836636577175121:=0
def tw15088195906944662193:=0
def tw4130013065329118161:=0
def tw8833521461586633938:=0
def tw4169064626530675986:=0
def tw513552761006609810:=0
def tw9660944272384407058:=0
def tw6705893470359677490:=0
def tw13744564993703636882:=0
def tw12240464772120948851:=0
def tw5050406295661970643:=0
def tw5509806307168248147:=0
def tw15921938046717649491:=0
def tw12698824922776171315:=0
def tw191160964854758355:=0
def tw8656501850320342100:=0
def tw1160899090526245972:=0
def tw15691247243357409428:=0
def tw1050292860653033716:=0
def tw17445017823181651284:=0
def tw14544388741427978676:=0
def tw16618750210132661748:=0
def tw14745260706047440372:=0
def tw16194134825915944500:=0
def tw16501073164412886644:=0
def tw18365612757181252212:=0
def tw8055980012688817972:=0
def tw17404002429501494068:=0
def tw13931097888234480468:=0
def tw10524549972513926996:=0
def tw5426525249508146004:=0
def tw12847668711948370836:=0
def tw7995047228563749812:=0
def tw9623809544885531604:=0
def tw3599206249168527316:=0
def tw10510264931548706837:=0
def tw15477194601599743125:=0
def tw12041086441556439285:=0
def tw6050669932062805365:=0
def tw11354418104177020405:=0
def tw8413320412203805237:=0
def tw16320890211827696213:=0
def tw14892277975385494165:=0
def tw10480877714823905973:=0
def tw11719170159001670421:=0
def tw14313456311593983062:=0
def tw17909535897380468182:=0
def tw3361937222204663318:=0
def tw1119637299985521206:=0
def tw1451012706499247702:=0
def tw18298465915325504182:=0
def tw12776365005720066806:=0
def tw3621799436845191990:=0
def tw17690621511114799990:=0
def tw9414583712567406486:=0
def tw5278165722753663894:=0
def tw16443643875147884502:=0
def tw17822040537502503351:=0
def tw7941936802655706615:=0
def tw10653723208955327095:=0
def tw12200811901538410135:=0
def tw4508253708036093751:=0
def tw5198971252541661015:=0
def tw17711116334779529400:=0
def tw14842049164615884984:=0
def tw4607188431314947320:=0
def tw1753545212470253816:=0
def tw921672606550440600:=0
def tw12863897590407520952:=0
def tw2627973794261480248:=0
def tw14878441040501949304:=0
def tw16161729529334644857:=0
def tw15942596766793026873:=0
def tw2302548794839175513:=0
def tw17303085718726448473:=0
def tw1273179297481113945:=0
def tw15168454635488297369:=0
def tw9983604634320648633:=0
def tw14655855723702328793:=0
def tw2027258985292322425:=0
def tw5892303348851396281:=0
def tw7020518935523248921:=0
def tw1580069328878123865:=0
def tw7014317892325939258:=0
def tw1988210264813819994:=0
def tw5637913613896369274:=0
def tw9906592144242504890:=0
def tw6662220268615635290:=0
def tw16267870512823976442:=0
def tw13593366042723243578:=0
def tw12862519157524801210:=0
def tw16366842407624693434:=0
def tw16810829140560162522:=0
def tw16126424948827855610:=0
def tw14036628025866937210:=0
def tw11551307993047582650:=0
def tw17901406643860427770:=0
def tw15588819033289795611:=0
def tw16357006927288647931:=0
def tw11610927365672193435:=0
def tw14399359744931704475:=0
def tw15155272272782958331:=0
def tw14129291077129963580:=0
def tw5441628117333802332:=0
def tw2439792184877874652:=0
def tw942532300832130620:=0
def tw8786737691048077916:=0
def tw9489458651265570492:=0
def tw12145582380560956284:=0
def tw3040485967216746364:=0
def tw3565699672986239900:=0
def tw226170375784841469:=0
def tw2335032266267898301:=0
def tw17782263516701766109:=0
def tw15559466037358939645:=0
def tw10083536338440021661:=0
def tw13331117259047992061:=0
def tw1741530592819167037:=0
def tw9602249753495789469:=0
def tw7842317644389172221:=0
def tw5264243353228484094:=0
def tw4373599118111664798:=0
def tw12292119868018426718:=0
def tw8240434744526741342:=0
def tw6620792626628977919:=0
def tw8801991990550569279:=0
def tw13042481451659879807:=0
def tw11371910250560793983:=0
def tw1310456666479636927:=0
def tw11175099792265758367:=0
def tw15178793763092578015:=0
def tw4113839892202901247:=0
def tw19954693167359775:=0
def tw13557850277914478431:=0
def tw9865028943249095551:=0
def tw8879811810942518175:=0
def tw5465390774283122623:=0
def tw1796264839875087327:=0
def tw4571238165531283455:=0
end PySem.W.Fast
open PySem PySem.W PyProof.Rows
set_option maxRecDepth 100000 in
set_option maxHeartbeats 0 in
theorem PySem.Challenge.cw_bendfronts_k66_sums_written_holds : PySem.Challenge.rw_bendfronts_k66_sums_written.Holds := by
  w_on; o_law; k_head; (case hw => w_witness2)
  k_fill
  refine Qk66.walk (l := PySem.Challenge.rw_bendfronts_k66_sums_written) rfl rfl (fun w h Y => PySem.W.kIn_of Y) ?F
  case F =>
    intro w mg fa h KX G hmg
    refine' Qk66.all_mk KX G hmg ?ag_NAME_FIGURES ?ag_MOST_WORDS ?ag_MOST_NAMES ?ag_FrontError ?ag_NoHeights ?ag_TooMany ?ag_NoTable ?ag_NoSetting ?ag_NoBanding ?ag_NoMove ?ag_NoName ?ag_NoPaper ?ag_NoRow ?ag_NoText ?x_FrontError ?x_NoText ?m_NoText ?xc ?k0 ?k1 ?k2 ?k3 ?k4 ?k5 ?k6 ?k7 ?k8 ?k9 ?kv ?a0 ?l0 ?a1 ?l1 ?a2 ?l2 ?a3 ?l3 ?a4 ?l4 ?a5 ?l5 ?a6 ?l6 ?a7 ?l7 ?a8 ?l8 ?a9 ?l9 ?a10 ?l10 ?a11 ?l11 ?a12 ?l12 ?a13 ?l13 ?a14 ?l14 ?a15 ?l15 ?a16 ?l16 ?a17 ?l17 ?a18 ?l18 ?a19 ?l19 ?a20 ?l20 ?z_enumerate ?z_list ?z_len ?z_range ?z_abs ?z_isinstance ?z_int ?z_bool ?z_all ?z_sum ?z_max ?z_min ?z_zip ?z_tuple ?z_str ?z_sorted ?z_ValueError
    (case ag_NAME_FIGURES => k_is)
    (case ag_MOST_WORDS => first | k_is | rfl)
    (case ag_MOST_NAMES => first | k_is | rfl)
    (case ag_FrontError => k_is)
    (case ag_NoHeights => k_is)
    (case ag_TooMany => k_is)
    (case ag_NoTable => k_is)
    (case ag_NoSetting => k_is)
    (case ag_NoBanding => k_is)
    (case ag_NoMove => k_is)
    (case ag_NoName => k_is)
    (case ag_NoPaper => k_is)
    (case ag_NoRow => k_is)
    (case ag_NoText => k_is)
    (case x_FrontError => k_exc)
    (case x_NoText => k_exc)
    (case m_NoText => first | k_is | rfl | decide +kernel)
    (case xc => exact ⟨by first | k_is | rfl | decide +kernel, by first | k_is | rfl | decide +kernel, by first | k_is | rfl | decide +kernel, by first | k_is | rfl | decide +kernel, by first | k_is | rfl | decide +kernel, by first | k_is | rfl | decide +kernel⟩)
    (case k0 => first | k_is | rfl | decide +kernel)
    (case k1 => first | k_is | rfl | decide +kernel)
    (case k2 => first | k_is | rfl | decide +kernel)
    (case k3 => first | k_is | rfl | decide +kernel)
    (case k4 => first | k_is | rfl | decide +kernel)
    (case k5 => first | k_is | rfl | decide +kernel)
    (case k6 => first | k_is | rfl | decide +kernel)
    (case k7 => first | k_is | rfl | decide +kernel)
    (case k8 => first | k_is | rfl | decide +kernel)
    (case k9 => first | k_is | rfl | decide +kernel)
    (case kv => first | k_is | rfl | decide +kernel)
    (case a0 => k_is)
    (case l0 => exact L2.fun_mk (by k_is) (by k_is) (by k_is))
    (case a1 => k_is)
    (case l1 => exact L2.fun_mk (by k_is) (by k_is) (by k_is))
    (case a2 => k_is)
    (case l2 => exact L2.fun_mk (by k_is) (by k_is) (by k_is))
    (case a3 => k_is)
    (case l3 => exact L2.fun_mk (by k_is) (by k_is) (by k_is))
    (case a4 => k_is)
    (case l4 => exact L2.fun_mk (by k_is) (by k_is) (by k_is))
    (case a5 => k_is)
    (case l5 => exact L2.fun_mk (by k_is) (by k_is) (by k_is))
    (case a6 => k_is)
    (case l6 => exact L2.fun_mk (by k_is) (by k_is) (by k_is))
    (case a7 => k_is)
    (case l7 => exact L2.fun_mk (by k_is) (by k_is) (by k_is))
    (case a8 => k_is)
    (case l8 => exact L2.fun_mk (by k_is) (by k_is) (by k_is))
    (case a9 => k_is)
    (case l9 => exact L2.fun_mk (by k_is) (by k_is) (by k_is))
    (case a10 => k_is)
    (case l10 => exact L2.fun_mk (by k_is) (by k_is) (by k_is))
    (case a11 => k_is)
    (case l11 => exact L2.fun_mk (by k_is) (by k_is) (by k_is))
    (case a12 => k_is)
    (case l12 => exact L2.fun_mk (by k_is) (by k_is) (by k_is))
    (case a13 => k_is)
    (case l13 => exact L2.fun_mk (by k_is) (by k_is) (by k_is))
    (case a14 => k_is)
    (case l14 => exact L2.fun_mk (by k_is) (by k_is) (by k_is))
    (case a15 => k_is)
    (case l15 => exact L2.fun_mk (by k_is) (by k_is) (by k_is))
    (case a16 => k_is)
    (case l16 => exact L2.fun_mk (by k_is) (by k_is) (by k_is))
    (case a17 => k_is)
    (case l17 => exact L2.fun_mk (by k_is) (by k_is) (by k_is))
    (case a18 => k_is)
    (case l18 => exact L2.fun_mk (by k_is) (by k_is) (by k_is))
    (case a19 => k_is)
    (case l19 => exact L2.fun_mk (by k_is) (by k_is) (by k_is))
    (case a20 => k_is)
    (case l20 => exact L2.fun_mk (by k_is) (by k_is) (by k_is))
    (case z_enumerate => k_is)
    (case z_list => k_is)
    (case z_len => k_is)
    (case z_range => k_is)
    (case z_abs => k_is)
    (case z_isinstance => k_is)
    (case z_int => k_is)
    (case z_bool => k_is)
    (case z_all => k_is)
    (case z_sum => k_is)
    (case z_max => k_is)
    (case z_min => k_is)
    (case z_zip => k_is)
    (case z_tuple => k_is)
    (case z_str => k_is)
    (case z_sorted => k_is)
    (case z_ValueError => k_is)


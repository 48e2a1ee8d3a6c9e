import PyProof.Rows.All
import Wide.All
import OpenK.AllK
import Wide.FinOn
import Lean
import PyProof.EqAt
import PyProof.EqKinds
import PyProof.TupleCall
import PyProof.AttrMissHeap
import PyProof.FactsAll.zip_1
import KE.KDictOf
import PyProof.Draws
import KE.KRevIter
import PyProof.FactsAll.range
import PyProof.Rows.RuleM_int
import KE.BitLaws
import PySem.Challenge.RW_bendfronts_k27_no_tables
set_option Elab.async false
set_option linter.all false
set_option maxRecDepth 100000
/-! THE HAND LAYER, for ints, bools, texts, own classes, LISTS and tuples (index, slices, in, append, pop ..), calls, loops. Paste it whole ahead of your own text; what your proof does not reach may be deleted. -/
namespace L2
open PySem PySem.Spec PyProof.Rows

/-- a key: an int or a str -/
abbrev Key := Sum Int Str
def keyIs : Key → Value → Bool
  | .inl k, v => Value.isInt k v
  | .inr x, v => Value.isStrOf x v
def keyH (w : World) : Key → Int
  | .inl k => hashInt k
  | .inr x => hashStr w x
theorem keyIs_shape : ∀ {k : Key} {v : Value}, keyIs k v = true → (∃ i t, k = Sum.inl i ∧ v = Value.int i t) ∨ (∃ x t, k = Sum.inr x ∧ v = Value.str x t)
  | .inl i, v, h => by
    obtain ⟨t, e⟩ := Value.isInt_shape (k := i) (v := v) h
    exact .inl ⟨i, t, rfl, e⟩
  | .inr x, v, h => by
    obtain ⟨t, e⟩ := Value.isStrOf_shape (x := x) (v := v) h
    exact .inr ⟨x, t, rfl, e⟩
theorem key_ll (a b : Int) : decide ((Sum.inl a : Key) = Sum.inl b) = (a == b) := by
  by_cases e : a = b
  · subst e; simp
  · have h : ¬ (Sum.inl a : Key) = Sum.inl b := fun q => e (Sum.inl.inj q)
    rw [decide_eq_false h]
    exact (beq_eq_false_iff_ne.mpr e).symm
theorem key_rr (a b : Str) : decide ((Sum.inr a : Key) = Sum.inr b) = decide (a = b) := by
  by_cases e : a = b
  · subst e; simp
  · have h : ¬ (Sum.inr a : Key) = Sum.inr b := fun q => e (Sum.inr.inj q)
    rw [decide_eq_false h, decide_eq_false e]
theorem key_lr (a : Int) (b : Str) : decide ((Sum.inl a : Key) = Sum.inr b) = false := decide_eq_false (fun q => nomatch q)
theorem key_rl (a : Str) (b : Int) : decide ((Sum.inr a : Key) = Sum.inl b) = false := decide_eq_false (fun q => nomatch q)

def mixKind (prog : Program) (w : World) : PySem.KeyKind prog w Key where
  is := keyIs
  hash := keyH w
  inj := fun v a b ha hb => by
    rcases keyIs_shape ha with ⟨i, t, rfl, rfl⟩ | ⟨x, t, rfl, rfl⟩
    · rcases keyIs_shape hb with ⟨j, u, rfl, e⟩ | ⟨y, u, rfl, e⟩
      · injection e with e1 _; rw [e1]
      · exact nomatch e
    · rcases keyIs_shape hb with ⟨j, u, rfl, e⟩ | ⟨y, u, rfl, e⟩
      · exact nomatch e
      · injection e with e1 _; rw [e1]
  byValue := fun k v h => by
    rcases keyIs_shape h with ⟨i, t, rfl, rfl⟩ | ⟨x, t, rfl, rfl⟩ <;> rfl
  pyHash := fun hv h => by
    rcases keyIs_shape hv with ⟨i, t, rfl, rfl⟩ | ⟨x, t, rfl, rfl⟩
    · exact wpAny_pyHash_int h
    · exact wpAny_pyHash_str h
  eqBool := fun hu hv h => by
    rcases keyIs_shape hu with ⟨i, t, rfl, rfl⟩ | ⟨x, t, rfl, rfl⟩
    · rcases keyIs_shape hv with ⟨j, u, rfl, rfl⟩ | ⟨y, u, rfl, rfl⟩
      · rw [key_ll] at h; exact wpAny_eqBool_int h
      · rw [key_lr] at h; exact SeqAt.EqAt.int_str i t y u _ _ _ _ h
    · rcases keyIs_shape hv with ⟨j, u, rfl, rfl⟩ | ⟨y, u, rfl, rfl⟩
      · rw [key_rl] at h; exact SeqAt.EqAt.str_int x t j u _ _ _ _ h
      · rw [key_rr] at h; exact wpAny_eqBool_str h
  «strs» := fun k x t v h => by
    rcases keyIs_shape h with ⟨i, u, rfl, e⟩ | ⟨y, u, rfl, e⟩
    · exact nomatch e
    · injection e with e1 _
      subst e1
      cases v <;> rfl

end L2

namespace L2
open PySem PySem.Spec PyProof.Rows

/-- a value, without the heap -/
inductive V where
  | non | bl (b : Bool) | int (i : Int) | str (x : Str) | byt (b : Array UInt8) | flt (b : UInt64) | ref (a : Addr) | ty (n : String)
  deriving DecidableEq

def RelV : V → Value → Prop
  | .non, u => u = Value.none
  | .bl b, u => u = Value.bool b
  | .int i, u => ∃ t, u = Value.int i t
  | .str x, u => ∃ t, u = Value.str x t
  | .byt b, u => ∃ t, u = Value.bytes b t
  | .flt b, u => ∃ t, u = Value.float b t
  | .ref a, u => u = Value.ref a
  | .ty n, u => u = Value.type n

abbrev Vals : List V → List Value → Prop := Paired RelV
theorem Vals.length {xs : List V} {us : List Value} (r : Vals xs us) : xs.length = us.length := Paired.length r
theorem Vals.get : ∀ {xs : List V} {us : List Value} {i : Nat} {x : V}, Vals xs us → xs[i]? = some x → ∃ u, us[i]? = some u ∧ RelV x u
  | _, _, _, _, .nil, e => by simp at e
  | _, _, 0, _, .cons r _, e => by simp at e; subst e; exact ⟨_, rfl, r⟩
  | _, _, i + 1, x, .cons _ t, e => by
    obtain ⟨u, h1, h2⟩ := Vals.get (i := i) (x := x) t (by simpa using e)
    exact ⟨u, by simpa using h1, h2⟩
theorem Vals.set {x : V} {u : Value} (r : RelV x u) : ∀ {xs : List V} {us : List Value} (i : Nat), Vals xs us → Vals (xs.set i x) (us.set i u)
  | _, _, _, .nil => .nil
  | _, _, 0, .cons _ t => .cons r t
  | _, _, i + 1, .cons q t => .cons q (Vals.set r i t)
theorem Vals.append : ∀ {xs ys : List V} {us ws : List Value}, Vals xs us → Vals ys ws → Vals (xs ++ ys) (us ++ ws)
  | _, _, _, _, .nil, s => s
  | _, _, _, _, .cons r t, s => .cons r (Vals.append t s)
theorem Vals.take : ∀ {xs : List V} {us : List Value} (n : Nat), Vals xs us → Vals (xs.take n) (us.take n)
  | _, _, 0, _ => .nil
  | _, _, _ + 1, .nil => .nil
  | _, _, n + 1, .cons r t => .cons r (Vals.take n t)
theorem Vals.drop : ∀ {xs : List V} {us : List Value} (n : Nat), Vals xs us → Vals (xs.drop n) (us.drop n)
  | _, _, 0, r => r
  | _, _, _ + 1, .nil => .nil
  | _, _, n + 1, .cons _ t => Vals.drop n t
def RelO : Option V → Option Value → Prop
  | some v, some u => RelV v u
  | none, none => True
  | _, _ => False
def KV {κ : Type} : List (κ × V) → List (κ × Value) → Prop := Paired fun (p : κ × V) (q : κ × Value) => p.1 = q.1 ∧ RelV p.2 q.2

/-- a key of a dict (00_mix): an int or a text -/
def kV : Key → V
  | .inl i => .int i
  | .inr x => .str x

/-- what stands at a tracked address -/
inductive HO where
  /-- a list -/
  | lst (xs : List V)
  /-- a tuple (never changes) -/
  | tup (xs : List V)
  /-- a dict whose keys are ints and texts; one whose keys are tuples of ints and texts (the empty one is both) -/
  | dK (kvs : List (Key × V)) | dT (kvs : List (List Key × V))
  /-- a set of ints: its members, its size -/
  | set (S : Int → Bool) (n : Nat)
  /-- an instance of the class at C, its dict at dx, its attributes -/
  | ins (C dx : Addr) (fs : List (Str × V))
  /-- the dict of the instance at x -/
  | own (x : Addr)
  /-- the dict of an exception -/
  | xd (fs : List (Str × V))
  /-- a bound method, f of x -/
  | met (f x : Addr)
  /-- a range object lo, lo + 1, .. below hi -/
  | rng (lo hi : Int)
  /-- a thing that is known to the object (the script; a dict while a loop walks it): read, never written while it is so -/
  | frz (o : Obj) (u : HO)
  /-- a code object's table -/
  | tbl (ps : Array Value)
  /-- any other thing, by what is true of its one object (a def of one's own: SetO a S n := HO.ext fun h => ..) -/
  | ext (φ : Heap → Prop)

abbrev Hp := Addr → Option HO
def upd (H : Hp) (a : Addr) (o : HO) : Hp := fun b => if b = a then some o else H b
theorem upd_same {H : Hp} {a : Addr} {o : HO} : upd H a o a = some o := by unfold upd; rw [if_pos rfl]
theorem upd_ne {H : Hp} {a b : Addr} {o : HO} (h : b ≠ a) : upd H a o b = H b := by unfold upd; rw [if_neg h]
theorem upd_upd {H : Hp} {a : Addr} {o u : HO} : upd (upd H a o) a u = upd H a u := by
  funext b; unfold upd; split <;> rfl
theorem ne_of_none {H : Hp} {a b : Addr} {o : HO} (h : H a = some o) (h' : H b = none) : a ≠ b := by
  intro e; subst e; rw [h] at h'; cases h'

section
variable (P : Program) (w : World)
def ObjOk (H : Hp) (h : Heap) (a : Addr) : HO → Prop
  | .lst xs => xs.length ≤ sizeLine ∧ ∃ (its : List Value) (n : Nat), Vals xs its ∧ h.get? a = some { cls := .type "list", data := .seq its.toArray n }
  | .tup xs => xs.length ≤ sizeLine ∧ ∃ its : List Value, Vals xs its ∧ IsTup h a its.toArray
  | .dK kvs => kvs.length ≤ sizeLine ∧ (a == sysModules) = false ∧ ∃ vs, KV kvs vs ∧ h.DictOf (mixKind P w) a vs
  | .dT kvs => kvs.length ≤ sizeLine ∧ (a == sysModules) = false ∧ ∃ xs : List (List Key × Addr × Value),
      Paired (fun (p : List Key × V) (q : List Key × Addr × Value) => p.1 = q.1 ∧ H q.2.1 = some (.tup (p.1.map kV)) ∧ RelV p.2 q.2.2) kvs xs ∧
      ∃ o es ep, h.get? a = some o ∧ o.ExactDict ∧ o.data = .dict es ep ∧ es.toList = xs.map (entryOfKey (tupleKind (mixKind P w))) ∧ (xs.map (·.1)).Nodup
  | .set S n => h.SetOf (intKind P w) a S n
  | .ins C dx fs => H dx = some (.own a) ∧ fs.length ≤ 1000 ∧ dx ≠ a ∧ h.get? a = some (PySem.W.instObj C dx) ∧
      ∃ mA, h.Ns1 dx mA ∧ (∀ f, RelO (fs.lookup f) (mA f)) ∧ PySem.Within mA (fs.map (·.1))
  | .own _ => ∃ o, h.get? a = some o
  | .xd fs => ∃ mA, h.Ns1 a mA ∧ ∀ f, RelO (fs.lookup f) (mA f)
  | .rng lo hi => ∃ t u v, h.get? a = some { cls := .type "range", data := .fields #[.int lo t, .int hi u, .int 1 v] }
  | .frz o u => h.get? a = some o ∧ ObjOk H h a u
  | .tbl ps => h.get? a = some { cls := .none, data := .fields ps }
  | .met f x => h.get? a = some (PySem.W.methodObj (.ref f) (.ref x))
  | .ext φ => φ h ∧ (∃ o, h.get? a = some o) ∧ ∀ h1 h2 : Heap, φ h1 → (∀ o, h1.get? a = some o → h2.get? a = some o) → φ h2
/-- the abstract heap is held -/
def HOk (H : Hp) (h : Heap) : Prop := ∀ a o, H a = some o → ObjOk P w H h a o
end

section
variable {P : Program} {w : World} {H H' : Hp} {h h' : Heap} {a : Addr} {o : HO}
theorem ObjOk.lt (x : ObjOk P w H h a o) : a < h.objs.size := by
  cases o with
  | lst xs => obtain ⟨_, _, _, _, e⟩ := x; exact Heap.lt_size e
  | tup xs => obtain ⟨_, _, _, p⟩ := x; exact p.lt
  | dK kvs => obtain ⟨_, _, _, _, o, _, _, e, _⟩ := x; exact Heap.lt_size e
  | dT kvs => obtain ⟨_, _, _, _, o, _, _, e, _⟩ := x; exact Heap.lt_size e
  | set S n => obtain ⟨o, _, _, _, e, _⟩ := x; exact Heap.lt_size e
  | ins C dx fs => obtain ⟨_, _, _, e, _⟩ := x; exact Heap.lt_size e
  | own y => obtain ⟨_, e⟩ := x; exact Heap.lt_size e
  | xd fs => obtain ⟨_, ⟨_, _, _, e, _⟩, _⟩ := x; exact Heap.lt_size e
  | rng lo hi => obtain ⟨_, _, _, e⟩ := x; exact Heap.lt_size e
  | frz ob u => obtain ⟨e, _⟩ := x; exact Heap.lt_size e
  | tbl ps => exact Heap.lt_size (show h.get? a = some _ from x)
  | met f y => exact Heap.lt_size (show h.get? a = some _ from x)
  | ext φ => obtain ⟨_, ⟨_, e⟩, _⟩ := x; exact Heap.lt_size e
theorem Paired.mapP {α β : Type} {F G : α → β → Prop} : ∀ {l₁ : List α} {l₂ : List β}, Paired F l₁ l₂ → (∀ a b, F a b → G a b) → Paired G l₁ l₂
  | _, _, .nil, _ => .nil
  | _, _, .cons r t, f => .cons (f _ _ r) (Paired.mapP t f)
/-- what an object's description leans on: its own object, its own dict, the tuples -/
theorem ObjOk.stay (x : ObjOk P w H h a o) (k : ∀ b u, (b = a ∨ H b = some (.own a)) → h.get? b = some u → h'.get? b = some u)
    (ho : ∀ b, H b = some (.own a) → H' b = some (.own a)) (ht : ∀ b xs, H b = some (.tup xs) → H' b = some (.tup xs)) : ObjOk P w H' h' a o := by
  induction o with
  | lst xs => obtain ⟨z, its, n, r, e⟩ := x; exact ⟨z, its, n, r, k _ _ (.inl rfl) e⟩
  | tup xs => obtain ⟨z, its, r, ob, e, c⟩ := x; exact ⟨z, its, r, ob, k _ _ (.inl rfl) e, c⟩
  | dK kvs => obtain ⟨z, y, vs, r, ob, es, ep, e, c⟩ := x; exact ⟨z, y, vs, r, ob, es, ep, k _ _ (.inl rfl) e, c⟩
  | dT kvs =>
    obtain ⟨z, y, xs, r, ob, es, ep, e, c⟩ := x
    exact ⟨z, y, xs, Paired.mapP r fun p q z => ⟨z.1, ht _ _ z.2.1, z.2.2⟩, ob, es, ep, k _ _ (.inl rfl) e, c⟩
  | set S n => obtain ⟨ob, es, ep, t, e, c⟩ := x; exact ⟨ob, es, ep, t, k _ _ (.inl rfl) e, c⟩
  | ins C dx fs =>
    obtain ⟨d, z, ne, e, mA, ⟨od, es, ep, e2, c⟩, r⟩ := x
    exact ⟨ho _ d, z, ne, k _ _ (.inl rfl) e, mA, ⟨od, es, ep, k _ _ (.inr d) e2, c⟩, r⟩
  | own y => obtain ⟨ob, e⟩ := x; exact ⟨ob, k _ _ (.inl rfl) e⟩
  | xd fs => obtain ⟨mA, ⟨od, es, ep, e, c⟩, r⟩ := x; exact ⟨mA, ⟨od, es, ep, k _ _ (.inl rfl) e, c⟩, r⟩
  | rng lo hi => obtain ⟨t, u, v, e⟩ := x; exact ⟨t, u, v, k _ _ (.inl rfl) e⟩
  | frz ob u ih => obtain ⟨e, q⟩ := x; exact ⟨k _ _ (.inl rfl) e, ih q⟩
  | tbl ps =>
    have e : h.get? a = some { cls := .none, data := .fields ps } := x
    show h'.get? a = some { cls := .none, data := .fields ps }
    exact k a _ (.inl rfl) e
  | met f y =>
    have e : h.get? a = some (PySem.W.methodObj (.ref f) (.ref y)) := x
    show h'.get? a = some (PySem.W.methodObj (.ref f) (.ref y))
    exact k a _ (.inl rfl) e
  | ext φ => obtain ⟨p, ⟨o, e⟩, st⟩ := x; exact ⟨st _ _ p fun o q => k _ _ (.inl rfl) q, ⟨o, k _ _ (.inl rfl) e⟩, st⟩
theorem HOk.lt (x : HOk P w H h) (e : H a = some o) : a < h.objs.size := (x a o e).lt
theorem HOk.fresh (x : HOk P w H h) (e : h.objs.size ≤ a) : H a = none := by
  cases q : H a with
  | none => rfl
  | some u => exact absurd (Nat.lt_of_lt_of_le (x.lt q) e) (Nat.lt_irrefl _)
/-- every object of the heap is kept -/
theorem HOk.kept (x : HOk P w H h) (k : ∀ b u, h.get? b = some u → h'.get? b = some u) : HOk P w H h' := fun a o e =>
  (x a o e).stay (fun b u _ q => k b u q) (fun _ q => q) fun _ _ q => q
/-- a new object is laid and tracked -/
theorem HOk.laid (x : HOk P w H h) (k : ∀ b u, h.get? b = some u → h'.get? b = some u) (hp : h.objs.size ≤ a) (new : ObjOk P w (upd H a o) h' a o) : HOk P w (upd H a o) h' := fun b u e => by
  have hn := x.fresh hp
  by_cases hb : b = a
  · subst hb; rw [upd_same] at e; cases e; exact new
  · rw [upd_ne hb] at e
    exact (x b u e).stay (fun c v _ q => k c v q) (fun c q => by rw [upd_ne (ne_of_none q hn)]; exact q) fun c xs q => by rw [upd_ne (ne_of_none q hn)]; exact q
end

/-- what may be read as u: it is u, or a known u -/
def Rd (H : Hp) (a : Addr) (u : HO) : Prop := H a = some u ∨ ∃ o, H a = some (.frz o u)
theorem Rd.ok {P : Program} {w : World} {H : Hp} {h : Heap} {a : Addr} {u : HO} (r : Rd H a u) (x : HOk P w H h) : ObjOk P w H h a u := by
  rcases r with r | ⟨o, r⟩
  · exact x a u r
  · obtain ⟨_, q⟩ := x a _ r
    exact q
/-- what may be written -/
def Mut : Option HO → Prop
  | some (.lst _) => True
  | some (.dK _) => True
  | some (.dT _) => True
  | some (.set _ _) => True
  | some (.ins _ _ _) => True
  | some (.ext _) => True
  | _ => False
section
variable {P : Program} {w : World} {H : Hp} {h h' : Heap} {x e : Addr} {o' : HO}
/-- the object at e is changed: x itself, or the dict of the instance x -/
theorem HOk.write (ok : HOk P w H h) (mu : Mut (H x)) (he : e = x ∨ H e = some (.own x)) (k : ∀ b u, b ≠ e → h.get? b = some u → h'.get? b = some u) (heo : ∃ u, h'.get? e = some u)
    (new : ObjOk P w (upd H x o') h' x o') : HOk P w (upd H x o') h' := fun b u q => by
  have nown : ∀ c y, H c = some (.own y) → c ≠ x := fun c y r z => by subst z; rw [r] at mu; exact mu
  have ntup : ∀ c xs, H c = some (.tup xs) → c ≠ x := fun c xs r z => by subst z; rw [r] at mu; exact mu
  by_cases hb : b = x
  · subst hb; rw [upd_same] at q; cases q; exact new
  · rw [upd_ne hb] at q
    by_cases hbe : b = e
    · have q' : H b = some (.own x) := by
        rcases he with z | z
        · exact absurd (hbe.trans z) hb
        · rw [hbe]; exact z
      rw [q] at q'; cases q'
      obtain ⟨v, hv⟩ := heo
      exact ⟨v, by rw [hbe]; exact hv⟩
    · refine (ok b u q).stay (fun c v hc r => k c v ?_ r) (fun c r => by rw [upd_ne (nown c b r)]; exact r) fun c xs r => by rw [upd_ne (ntup c xs r)]; exact r
      rcases hc with rfl | hc
      · exact hbe
      · rintro rfl
        rcases he with z | z
        · exact nown c b hc z
        · rw [hc] at z; cases z; exact hb rfl
end

/-! ### kept unless tracked; of the frames at fs (the callers') the slots may change (an exception that passes writes there); of the records at ex (iterators) nothing is said -/
structure Un (fs ex : List Addr) (H H' : Hp) (h h' : Heap) : Prop where
  keep : ∀ b o, h.get? b = some o → H b = none → b ∉ fs → b ∉ ex → h'.get? b = some o
  slot : ∀ b o, h.get? b = some o → H b = none → b ∈ fs → b ∉ ex → ∃ sl, h'.get? b = some { o with slots := sl }
  free : ∀ b o, h.get? b = some o → H b = none → b ∉ ex → H' b = none
  there : ∀ b o, h.get? b = some o → b ∉ ex → ∃ o', h'.get? b = some o'
  tups : ∀ b xs, H b = some (.tup xs) → H' b = some (.tup xs)
  frzs : ∀ b o u, H b = some (.frz o u) → H' b = some (.frz o u)
  tbls : ∀ b ps, H b = some (.tbl ps) → ∃ more, H' b = some (.tbl (ps ++ more))
section
variable {fs fs' ex ex' : List Addr} {H H1 H2 : Hp} {h h1 h2 h' : Heap} {a x e : Addr} {o : HO}
theorem Un.any (u : Un fs ex H H1 h h1) {b : Addr} {ob : Obj} (q : h.get? b = some ob) (n : H b = none) (hx : b ∉ ex) : ∃ sl, h1.get? b = some { ob with slots := sl } := by
  by_cases hb : b ∈ fs
  · exact u.slot b ob q n hb hx
  · exact ⟨ob.slots, u.keep b ob q n hb hx⟩
theorem Un.kept (k : ∀ b u, h.get? b = some u → h'.get? b = some u) : Un fs ex H H h h' :=
  ⟨fun b ob q _ _ _ => k b ob q, fun b ob q _ _ _ => ⟨ob.slots, k b ob q⟩, fun _ _ _ n _ => n, fun b ob q _ => ⟨ob, k b ob q⟩, fun _ _ q => q, fun _ _ _ q => q, fun _ ps q => ⟨#[], by rw [q]; simp⟩⟩
theorem Un.refl : Un fs ex H H h h := Un.kept fun _ _ q => q
theorem Un.laid (k : ∀ b u, h.get? b = some u → h'.get? b = some u) (hp : h.objs.size ≤ a) (hn : H a = none) : Un fs ex H (upd H a o) h h' where
  keep := fun b u q _ _ _ => k b u q
  slot := fun b u q _ _ _ => ⟨u.slots, k b u q⟩
  free := fun b u q n _ => by rw [upd_ne (Nat.ne_of_lt (Nat.lt_of_lt_of_le (Heap.lt_size q) hp))]; exact n
  there := fun b u q _ => ⟨u, k b u q⟩
  tups := fun b xs q => by rw [upd_ne (ne_of_none q hn)]; exact q
  frzs := fun b u xs q => by rw [upd_ne (ne_of_none q hn)]; exact q
  tbls := fun b ps q => ⟨#[], by rw [upd_ne (ne_of_none q hn), q]; simp⟩
theorem Un.write (mu : Mut (H x)) (he : e = x ∨ H e = some (.own x)) (k : ∀ b u, b ≠ e → h.get? b = some u → h'.get? b = some u) (heo : ∃ u, h'.get? e = some u) : Un fs ex H (upd H x o) h h' := by
  have hx : ∀ b, H b = none → b ≠ x := fun b n z => by subst z; rw [n] at mu; exact mu
  have hb : ∀ b, H b = none → b ≠ e := fun b n z => by
    subst z
    rcases he with r | r
    · exact hx b n r
    · rw [n] at r; cases r
  have hm : ∀ b u, H b = some u → ¬ Mut (some u) → b ≠ x := fun b u q nm z => by subst z; rw [q] at mu; exact nm mu
  refine ⟨fun b u q n _ _ => k b u (hb b n) q, fun b u q n _ _ => ⟨u.slots, k b u (hb b n) q⟩, fun b u q n _ => by rw [upd_ne (hx b n)]; exact n, fun b u q _ => ?_,
    fun b xs q => by rw [upd_ne (hm b _ q fun z => z)]; exact q, fun b u xs q => by rw [upd_ne (hm b _ q fun z => z)]; exact q, fun b ps q => ⟨#[], by rw [upd_ne (hm b _ q fun z => z), q]; simp⟩⟩
  by_cases hbe : b = e
  · subst hbe; exact heo
  · exact ⟨u, k b u hbe q⟩
end

/-! ### the heap without what is tracked -/
def trk (h : Heap) (H : Hp) : List Addr := (List.range h.objs.size).filter fun a => (H a).isSome
def hidT (h : Heap) (H : Hp) : Heap := PySem.W.hideAll h (trk h H)
theorem hidT_size (h : Heap) (H : Hp) : (hidT h H).objs.size = h.objs.size := PySem.W.hideAll_size _ _
theorem hidT_get {h : Heap} {H : Hp} {b : Addr} {o : Obj} (e : h.get? b = some o) (n : H b = none) : (hidT h H).get? b = some o :=
  PySem.W.hideAll_get _ e fun hm => by
    have q : (H b).isSome = true := (List.mem_filter.mp hm).2
    rw [n] at q; simp at q
theorem of_hidT {h : Heap} {H : Hp} {b : Addr} {o : Obj} (e : (hidT h H).get? b = some o) : h.get? b = some o ∧ H b = none := by
  have e' : h.get? b = some o := PySem.W.of_hideAll (trk h H) e
  refine ⟨e', ?_⟩
  cases q : H b with
  | none => rfl
  | some x =>
    have hm : b ∈ trk h H := List.mem_filter.mpr ⟨List.mem_range.mpr (Heap.lt_size e'), by simp [q]⟩
    have z : (hidT h H).get? b = none := PySem.W.hideAll_none (trk h H) hm
    rw [z] at e; cases e

/-! ### OpenK's ledger, filled with every new object but one -/
def allNews (g h : Heap) (L : Addr) : List (Addr × Obj) := (List.range h.objs.size).filterMap fun a => if a = L ∨ (g.get? a).isSome = true then none else (h.get? a).map fun o => (a, o)
theorem mem_allNews {g h : Heap} {L a : Addr} {o : Obj} (h1 : a ≠ L) (h2 : g.get? a = none) (h3 : h.get? a = some o) : (a, o) ∈ allNews g h L :=
  List.mem_filterMap.mpr ⟨a, List.mem_range.mpr (Heap.lt_size h3), by simp [h1, h2, h3]⟩
theorem of_mem_allNews {g h : Heap} {L : Addr} {p : Addr × Obj} (hp : p ∈ allNews g h L) : p.1 ≠ L ∧ g.get? p.1 = none ∧ h.get? p.1 = some p.2 := by
  obtain ⟨b, _, e⟩ := List.mem_filterMap.mp hp
  split at e
  · cases e
  · rename_i hn
    cases q : h.get? b with
    | none => rw [q] at e; simp at e
    | some u =>
      rw [q] at e
      simp only [Option.map_some, Option.some.injEq] at e
      subst e
      refine ⟨fun z => hn (.inl z), ?_, q⟩
      show g.get? b = none
      cases r : g.get? b with
      | none => rfl
      | some v => exact (hn (.inr (by simp [r]))).elim
def rest (g h : Heap) (L d : Addr) : List (Addr × Obj) := (allNews g h L).filter fun p => decide (p.1 ≠ d)
theorem news_all {g h : Heap} {L : Addr} : News g L h (allNews g h L) := fun p hp => let ⟨a, b, c⟩ := of_mem_allNews hp; ⟨c, a, b⟩
end L2

namespace L2
open PySem PySem.Spec PyProof.Rows

/-- the module's facts, over the base: the heap at the law's entry without what is tracked there -/
structure Mod (K : PySem.W.Frag) (mg : Str → Option Value) (base : Heap) : Prop where
  kin : K.In base
  glob : base.Ns mainGlobals mg
  blt : ∃ mb, base.Ns builtinsNs mb ∧ ∀ x : Str, x ≠ "__name__" → mb x = bootBuiltins x
  nolimit : base.NoLimit

/-- the context: a def's body (or a comprehension's block) running. base: fixed through the whole law; s₀, H₀: the entry; outer: the frames whose slots others may change (a def's callers); stack: all frames that run;
   ex: iterators that were made ahead of the entry and are walked here (a comprehension's); fn: the names whose cells were made at the entry (a def: all; a comprehension's block: its own); calm: not within an except suite; pn: pins that every state bears; xe: what is wanted of an exception that leaves the code -/
structure Cx where
  prog : Program
  w : World
  K : PySem.W.Frag
  mg : Str → Option Value
  base : Heap
  A : Around
  N : List Str
  s₀ : Shared
  H₀ : Hp
  env : Env
  outer : List Env
  stack : List Env
  ex : List Addr
  fn : Str → Bool
  calm : Bool
  pn : List (Addr × Obj)
  xe : Value → Shared → Prop
/-- the callers' frames -/
def frs (l : List Env) : List Addr := l.filterMap (·.frame)
abbrev Cx.fs (X : Cx) : List Addr := frs X.outer

def Vis (sc : Scope) (x : Str) : Prop := sc.names.lookup x = some .local ∨ sc.names.lookup x = some .cell ∨ sc.names.lookup x = some .free
def Loc (sc : Scope) (x : Str) : Prop := sc.names.lookup x = some .local ∨ sc.names.lookup x = some .cell
def Look (env : Env) (h : Heap) (m : Str → Option Value) (x : Str) (u : Value) : Prop :=
  (env.kindOf x = some .local ∧ m x = some u) ∨ ((env.kindOf x = some .cell ∨ env.kindOf x = some .free) ∧ ∃ c, env.cells.lookup x = some c ∧ h.IsCell c (some u))

structure Cx.Ok (X : Cx) : Prop where
  mod : Mod X.K X.mg X.base
  kind : X.env.scope.kind = .function
  glob : X.env.globals = mainGlobals
  blt : X.env.builtins = builtinsNs
  above : X.s₀.heap.objs.size ≤ X.env.locals
  inj : ∀ x y c, X.env.cells.lookup x = some c → X.env.cells.lookup y = some c → x = y
  has : ∀ x, (X.env.kindOf x = some .cell ∨ X.env.kindOf x = some .free) → ∃ c, X.env.cells.lookup x = some c
  cab : ∀ x c, X.fn x = true → X.env.cells.lookup x = some c → X.s₀.heap.objs.size ≤ c
  hd : X.calm = true → X.A.handled = none
  frames : X.A.frames = some X.stack
  stk : X.stack = X.outer ∨ (X.stack = X.env :: X.outer ∧ X.env.frame = some X.env.locals)
  exf : ∀ b ∈ X.ex, b ≠ X.env.locals ∧ ∀ x c, X.env.cells.lookup x = some c → c ≠ b
  bs : ∀ b o, X.base.get? b = some o → X.s₀.heap.get? b = some o ∧ X.H₀ b = none
  bsz : X.base.objs.size ≤ X.s₀.heap.objs.size
  noex : ∀ b o, X.base.get? b = some o → b ∉ X.ex
  exfs : ∀ b ∈ X.ex, b ∉ X.fs
  funs : X.s₀.heap.FunFrames X.base X.outer
  frf : ∀ b ∈ X.fs, X.H₀ b = none

structure Inv (X : Cx) (pins : List (Addr × Obj)) (σ : List (Option V)) (H : Hp) (s : Shared) : Prop where
  ok : X.Ok
  os : s.os = X.s₀.os
  bare : AllBare s.gens
  base : Un X.fs X.ex X.H₀ H X.s₀.heap s.heap
  loc : ∃ m, s.heap.Ns X.env.locals m ∧ ∀ (i : Nat) (x : Str) (v : V), X.N[i]? = some x → σ[i]? = some (some v) → Vis X.env.scope x → ∃ u, RelV v u ∧ Look X.env s.heap m x u
  cell : ∀ x c, X.env.cells.lookup x = some c → ∃ v, s.heap.IsCell c v
  free : H X.env.locals = none
  freeC : ∀ x c, X.env.cells.lookup x = some c → H c = none
  pin : ∀ p ∈ X.pn ++ pins, s.heap.get? p.1 = some p.2 ∧ H p.1 = none ∧ p.1 ≠ X.env.locals ∧ p.1 ∉ X.fs ∧ ∀ v, p.2.data ≠ .cell v
  hok : HOk X.prog X.w H s.heap
  len : σ.length = X.N.length

section
variable {X : Cx} {pins : List (Addr × Obj)} {σ : List (Option V)} {H H' : Hp} {s : Shared} {h' : Heap}

theorem Cx.Ok.nofr (ok : X.Ok) {b : Addr} {o : Obj} (e : X.base.get? b = some o) : b ∉ X.fs := fun hb => by
  have := (ok.funs.mem hb).1
  rw [e] at this; cases this
theorem Inv.bs (I : Inv X pins σ H s) : ∀ b o, X.base.get? b = some o → s.heap.get? b = some o ∧ H b = none := fun b o e =>
  ⟨I.base.keep b o (I.ok.bs b o e).1 (I.ok.bs b o e).2 (I.ok.nofr e) (I.ok.noex b o e), I.base.free b o (I.ok.bs b o e).1 (I.ok.bs b o e).2 (I.ok.noex b o e)⟩
theorem Inv.bk (I : Inv X pins σ H s) : ∀ b o, X.base.get? b = some o → s.heap.get? b = some o := fun b o e => (I.bs b o e).1
theorem Inv.mod (I : Inv X pins σ H s) : Mod X.K X.mg X.base := I.ok.mod
theorem Inv.kIn (I : Inv X pins σ H s) : X.K.In s.heap := I.ok.mod.kin.keeps I.bk
/-- the frame over the base: for OpenK's rules (K.In X.base is I.mod.kin) -/
theorem Inv.fr (I : Inv X pins σ H s) : ∃ m, Fr X.base X.env.locals s.heap m :=
  let ⟨m, hn, _⟩ := I.loc
  ⟨m, hn, I.bk, Nat.le_trans I.ok.bsz I.ok.above⟩
theorem Inv.lt (I : Inv X pins σ H s) : X.env.locals < s.heap.objs.size := let ⟨_, hn, _⟩ := I.loc; hn.lt
theorem Inv.sz (I : Inv X pins σ H s) : X.s₀.heap.objs.size ≤ s.heap.objs.size := Nat.le_trans I.ok.above (Nat.le_of_lt I.lt)
theorem Inv.nofs (I : Inv X pins σ H s) {a : Addr} (h : s.heap.objs.size ≤ a) : a ∉ X.fs := fun hb => by
  obtain ⟨_, o, ho, _⟩ := I.ok.funs.mem hb
  exact absurd (Nat.lt_of_lt_of_le (Heap.lt_size ho) (Nat.le_trans I.sz h)) (Nat.lt_irrefl _)
theorem Inv.cne (I : Inv X pins σ H s) : ∀ x c, X.env.cells.lookup x = some c → c ≠ X.env.locals := fun x c e z => by
  obtain ⟨v, o, ho, hd⟩ := I.cell x c e
  obtain ⟨m, ⟨o', es, ep, ho', hd', _⟩, _⟩ := I.loc
  rw [z, ho'] at ho; cases ho; rw [hd'] at hd; cases hd
theorem Inv.funs (I : Inv X pins σ H s) : s.heap.FunFrames X.base X.outer := by
  have all : ∀ (l : List Env), (∀ b ∈ frs l, b ∈ X.fs) → X.s₀.heap.FunFrames X.base l → s.heap.FunFrames X.base l := by
    intro l
    induction l with
    | nil => intro _ _; trivial
    | cons env r ih =>
      intro hs hl
      obtain ⟨hk, ⟨L, o, hf, hn, ho, hd⟩, hr⟩ := hl
      have hL : L ∈ X.fs := hs L (by unfold frs; rw [List.filterMap_cons, hf]; exact List.mem_cons_self)
      obtain ⟨sl, e⟩ := I.base.slot L o ho (I.ok.frf L hL) hL fun z => I.ok.exfs L z hL
      exact ⟨hk, ⟨L, _, hf, hn, e, hd⟩, ih (fun b hb => hs b (by unfold frs; rw [List.filterMap_cons, hf]; exact List.mem_cons_of_mem _ hb)) hr⟩
  exact all X.outer (fun _ hb => hb) I.ok.funs

/-- the frames that run, for a call -/
theorem Inv.stack (I : Inv X pins σ H s) : s.heap.FunFrames X.base X.stack := by
  rcases I.ok.stk with e | ⟨e, hf⟩
  · rw [e]; exact I.funs
  · rw [e]
    obtain ⟨m, hn, _⟩ := I.loc
    refine .cons (by rw [I.ok.kind]; decide) hf hn ?_ I.funs
    exact Heap.get?_none_of_le (Nat.le_trans I.ok.bsz I.ok.above)
theorem Inv.stkSub (I : Inv X pins σ H s) : ∀ b ∈ frs X.stack, b ∈ X.env.locals :: X.fs := fun b hb => by
  rcases I.ok.stk with e | ⟨e, hf⟩
  · rw [e] at hb; exact List.mem_cons_of_mem _ hb
  · rw [e] at hb
    unfold frs at hb
    rw [List.filterMap_cons, hf] at hb
    exact hb
theorem Inv.stkFree (I : Inv X pins σ H s) : ∀ b ∈ frs X.stack, H b = none := fun b hb => by
  rcases List.mem_cons.mp (I.stkSub b hb) with e | hb
  · rw [e]; exact I.free
  · obtain ⟨_, o, ho, _⟩ := I.ok.funs.mem hb
    exact I.base.free b o ho (I.ok.frf b hb) fun z => I.ok.exfs b z hb

/-- THE STEP: the untracked objects but the frame and the records at ch are kept (the callers' frames up to slots), the frame's map is kept, the new abstract heap is held -/
theorem Inv.step {g' : Array GenState} {t' : Nat} {d' : Drawn} {ch : List Addr} (I : Inv X pins σ H s)
    (hch : ∀ b ∈ ch, (b ∈ X.ex ∨ X.s₀.heap.objs.size ≤ b) ∧ b ≠ X.env.locals ∧ (∀ x c, X.env.cells.lookup x = some c → c ≠ b) ∧ ∀ p ∈ X.pn ++ pins, p.1 ≠ b)
    (keep : ∀ b o, b ≠ X.env.locals → b ∉ X.fs → b ∉ ch → s.heap.get? b = some o → H b = none → h'.get? b = some o)
    (slot : ∀ b o, b ≠ X.env.locals → b ∈ X.fs → b ∉ ch → s.heap.get? b = some o → H b = none → ∃ sl, h'.get? b = some { o with slots := sl }) (free : ∀ b o, b ∉ ch → s.heap.get? b = some o → H b = none → H' b = none)
    (there : ∀ b o, b ∉ ch → s.heap.get? b = some o → ∃ o', h'.get? b = some o')
    (tups : ∀ b xs, H b = some (.tup xs) → H' b = some (.tup xs)) (frzs : ∀ b o u, H b = some (.frz o u) → H' b = some (.frz o u)) (tbls : ∀ b ps, H b = some (.tbl ps) → ∃ more, H' b = some (.tbl (ps ++ more)))
    (ns : ∀ m, s.heap.Ns X.env.locals m → h'.Ns X.env.locals m) (hok : HOk X.prog X.w H' h') (hg : AllBare g') :
    Inv X pins σ H' { s with heap := h', gens := g', drawn := d', toks := t' } := by
  have neL : ∀ b o, X.s₀.heap.get? b = some o → b ≠ X.env.locals := fun b o e => Nat.ne_of_lt (Nat.lt_of_lt_of_le (Heap.lt_size e) I.ok.above)
  have neC : ∀ b o, X.s₀.heap.get? b = some o → b ∉ X.ex → b ∉ ch := fun b o e hx hb => by
    rcases (hch b hb).1 with z | z
    · exact hx z
    · exact absurd (Nat.lt_of_lt_of_le (Heap.lt_size e) z) (Nat.lt_irrefl _)
  have cellK : ∀ x c, X.env.cells.lookup x = some c → ∀ v, s.heap.IsCell c v → h'.IsCell c v := fun x c e v ⟨o, ho, hd⟩ => by
    have nch : c ∉ ch := fun z => (hch c z).2.2.1 x c e rfl
    by_cases hc : c ∈ X.fs
    · obtain ⟨sl, q⟩ := slot c o (I.cne x c e) hc nch ho (I.freeC x c e)
      exact ⟨_, q, hd⟩
    · exact ⟨o, keep c o (I.cne x c e) hc nch ho (I.freeC x c e), hd⟩
  refine ⟨I.ok, I.os, hg, ⟨fun b o e n hb hx => ?_, fun b o e n hb hx => ?_, fun b o e n hx => ?_, fun b o e hx => ?_, fun b xs e => tups b xs (I.base.tups b xs e), fun b o xs e => frzs b o xs (I.base.frzs b o xs e), fun b ps e => ?_⟩, ?_, fun x c e => ?_, ?_, fun x c e => ?_, fun p hp => ?_, hok, I.len⟩
  · exact keep b o (neL b o e) hb (neC b o e hx) (I.base.keep b o e n hb hx) (I.base.free b o e n hx)
  · obtain ⟨sl, e1⟩ := I.base.slot b o e n hb hx
    obtain ⟨sl', e2⟩ := slot b _ (neL b o e) hb (neC b o e hx) e1 (I.base.free b o e n hx)
    exact ⟨sl', e2⟩
  · obtain ⟨o', e1⟩ := I.base.there b o e hx
    exact free b o' (neC b o e hx) e1 (I.base.free b o e n hx)
  · obtain ⟨o', e1⟩ := I.base.there b o e hx
    exact there b o' (neC b o e hx) e1
  · obtain ⟨m1, e1⟩ := I.base.tbls b ps e
    obtain ⟨m2, e2⟩ := tbls b _ e1
    exact ⟨m1 ++ m2, by rw [e2, Array.append_assoc]⟩
  · obtain ⟨m, hn, hl⟩ := I.loc
    refine ⟨m, ns m hn, fun i x v e1 e2 e3 => ?_⟩
    obtain ⟨u, r, l⟩ := hl i x v e1 e2 e3
    refine ⟨u, r, ?_⟩
    rcases l with l | ⟨k, c, e, z⟩
    · exact .inl l
    · exact .inr ⟨k, c, e, cellK x c e _ z⟩
  · obtain ⟨v, z⟩ := I.cell x c e
    exact ⟨v, cellK x c e v z⟩
  · obtain ⟨m, ⟨o, _, _, ho, _⟩, _⟩ := I.loc
    exact free _ o (fun z => (hch _ z).2.1 rfl) ho I.free
  · obtain ⟨v, o, ho, hd⟩ := I.cell x c e
    exact free c o (fun z => (hch c z).2.2.1 x c e rfl) ho (I.freeC x c e)
  · obtain ⟨e, n, ne, nf, d⟩ := I.pin p hp
    have nch : p.1 ∉ ch := fun z => (hch p.1 z).2.2.2 p hp rfl
    exact ⟨keep p.1 p.2 ne nf nch e n, free p.1 p.2 nch e n, ne, nf, d⟩
/-- .. where the frame's own object is kept too -/
theorem Inv.un {t' : Nat} (I : Inv X pins σ H s) (u : Un X.fs [] H H' s.heap h') (hok : HOk X.prog X.w H' h') : Inv X pins σ H' { s with heap := h', toks := t' } := by
  obtain ⟨m, ⟨o, es, ep, ho, r⟩, _⟩ := id I.loc
  obtain ⟨sl, hL⟩ := u.any ho I.free (by simp)
  exact I.step (g' := s.gens) (d' := s.drawn) (ch := []) (fun _ z => nomatch z) (fun b o _ hb _ e n => u.keep b o e n hb (by simp)) (fun b o _ hb _ e n => u.slot b o e n hb (by simp)) (fun b o _ e n => u.free b o e n (by simp)) (fun b o _ e => u.there b o e (by simp)) u.tups u.frzs u.tbls (fun m' hm => by
    obtain ⟨o', es', ep', ho', r'⟩ := hm
    rw [ho] at ho'; cases ho'
    exact ⟨_, es', ep', hL, r'⟩) hok I.bare
/-- behind a call (or a comprehension's block): the slots of this frame may have changed too, the records at ch may have turned -/
theorem Inv.call {g' : Array GenState} {t' : Nat} {d' : Drawn} {ch : List Addr} (I : Inv X pins σ H s) (u : Un (frs X.stack) ch H H' s.heap h') (hok : HOk X.prog X.w H' h') (hg : AllBare g')
    (hch : ∀ b ∈ ch, (b ∈ X.ex ∨ X.s₀.heap.objs.size ≤ b) ∧ b ≠ X.env.locals ∧ (∀ x c, X.env.cells.lookup x = some c → c ≠ b) ∧ ∀ p ∈ X.pn ++ pins, p.1 ≠ b) :
    Inv X pins σ H' { s with heap := h', gens := g', drawn := d', toks := t' } := by
  obtain ⟨m, ⟨o, es, ep, ho, r⟩, _⟩ := id I.loc
  obtain ⟨sl, hL⟩ := u.any ho I.free fun z => (hch _ z).2.1 rfl
  exact I.step (ch := ch) hch (fun b o hL hb hc e n => u.keep b o e n (fun z => (List.mem_cons.mp (I.stkSub b z)).elim hL hb) hc) (fun b o _ _ hc e n => u.any e n hc) (fun b o hc e n => u.free b o e n hc) (fun b o hc e => u.there b o e hc) u.tups u.frzs u.tbls (fun m' hm => by
    obtain ⟨o', es', ep', ho', r'⟩ := hm
    rw [ho] at ho'; cases ho'
    exact ⟨_, es', ep', hL, r'⟩) hok hg
/-- an untracked record of ours (an iterator) has turned -/
theorem Inv.turned {t' : Nat} {it : Addr} (I : Inv X pins σ H s) (k : ∀ b o, b ≠ it → s.heap.get? b = some o → h'.get? b = some o) (hn : H it = none) (hL : it ≠ X.env.locals)
    (h1 : it ∈ X.ex ∨ X.s₀.heap.objs.size ≤ it) (h2 : ∀ x c, X.env.cells.lookup x = some c → c ≠ it) (h3 : ∀ p ∈ X.pn ++ pins, p.1 ≠ it) : Inv X pins σ H { s with heap := h', toks := t' } := by
  have nit : ∀ b u, H b = some u → b ≠ it := fun b u e z => by rw [z, hn] at e; cases e
  refine I.step (g' := s.gens) (d' := s.drawn) (ch := [it]) (fun b hb => ?_) (fun b o _ _ hc e _ => k b o (fun z => hc (by simp [z])) e) (fun b o _ _ hc e _ => ⟨o.slots, k b o (fun z => hc (by simp [z])) e⟩) (fun _ _ _ _ n => n)
    (fun b o hc e => ⟨o, k b o (fun z => hc (by simp [z])) e⟩) (fun _ _ e => e) (fun _ _ _ e => e) (fun b ps e => ⟨#[], by rw [e]; simp⟩) (fun m hm => ?_) (fun b u e => ?_) I.bare
  · have e : b = it := by simpa using hb
    subst e
    exact ⟨h1, hL, h2, h3⟩
  · obtain ⟨o, es, ep, ho, r⟩ := hm
    exact ⟨o, es, ep, k _ o (Ne.symm hL) ho, r⟩
  · refine (I.hok b u e).stay (fun c v hc q => k c v ?_ q) (fun _ q => q) fun _ _ q => q
    rcases hc with z | z
    · rw [z]; exact nit b u e
    · exact nit c _ z
theorem Inv.tok (I : Inv X pins σ H s) (t : Nat) : Inv X pins σ H { s with toks := t } := I.un (h' := s.heap) (t' := t) Un.refl I.hok
/-- all objects kept -/
theorem Inv.kept {t' : Nat} (I : Inv X pins σ H s) (k : ∀ b u, s.heap.get? b = some u → h'.get? b = some u) : Inv X pins σ H { s with heap := h', toks := t' } := I.un (Un.kept k) (I.hok.kept k)
/-- a new object laid and tracked -/
theorem Inv.laid {a : Addr} {o : HO} {t' : Nat} (I : Inv X pins σ H s) (k : ∀ b u, s.heap.get? b = some u → h'.get? b = some u) (hp : s.heap.objs.size ≤ a) (new : ObjOk X.prog X.w (upd H a o) h' a o) :
    Inv X pins σ (upd H a o) { s with heap := h', toks := t' } := I.un (Un.laid k hp (I.hok.fresh hp)) (I.hok.laid k hp new)
/-- an object written -/
theorem Inv.write {x e : Addr} {o : HO} {t' : Nat} (I : Inv X pins σ H s) (mu : Mut (H x)) (he : e = x ∨ H e = some (.own x)) (k : ∀ b u, b ≠ e → s.heap.get? b = some u → h'.get? b = some u) (heo : ∃ u, h'.get? e = some u)
    (new : ObjOk X.prog X.w (upd H x o) h' x o) : Inv X pins σ (upd H x o) { s with heap := h', toks := t' } := I.un (Un.write mu he k heo) (I.hok.write mu he k heo new)
/-- forgetting slots, pins -/
theorem Inv.weak {σ' : List (Option V)} (I : Inv X pins σ H s) (hl : σ'.length = σ.length) (w : ∀ (i : Nat) v, σ'[i]? = some (some v) → σ[i]? = some (some v)) : Inv X pins σ' H s :=
  ⟨I.ok, I.os, I.bare, I.base, let ⟨m, hn, hl'⟩ := I.loc; ⟨m, hn, fun i x v e1 e2 e3 => hl' i x v e1 (w i v e2) e3⟩, I.cell, I.free, I.freeC, I.pin, I.hok, hl.trans I.len⟩
theorem Inv.pins_of {pins' : List (Addr × Obj)} (I : Inv X pins σ H s) (h : ∀ p ∈ pins', s.heap.get? p.1 = some p.2 ∧ H p.1 = none ∧ p.1 ≠ X.env.locals ∧ p.1 ∉ X.fs ∧ ∀ v, p.2.data ≠ .cell v) : Inv X pins' σ H s :=
  ⟨I.ok, I.os, I.bare, I.base, I.loc, I.cell, I.free, I.freeC, fun p hp => (List.mem_append.mp hp).elim (fun z => I.pin p (List.mem_append_left _ z)) (h p), I.hok, I.len⟩

theorem nodup_ix {N : List Str} (hN : N.Nodup) {i j : Nat} {x : Str} (a : N[i]? = some x) (b : N[j]? = some x) : i = j := by
  obtain ⟨h1, e1⟩ := List.getElem?_eq_some_iff.mp a
  obtain ⟨h2, e2⟩ := List.getElem?_eq_some_iff.mp b
  exact (List.getElem_inj hN).mp (e1.trans e2.symm)

/-- a name is stored; what changed -/
theorem store_ok2 {M : Model} {A : Around} {E : Value → Shared → Prop} {i : Nat} {x : Str} {v : V} {u : Value} {Q : Unit → Shared → Prop} (I : Inv X pins σ H s) (hN : X.N.Nodup) (hi : X.N[i]? = some x) (hx : Loc X.env.scope x) (r : RelV v u)
    (h : ∀ s', Inv X pins (σ.set i (some v)) H s' → (∃ a, Heap.SameBut a s.heap s'.heap ∧ (a = X.env.locals ∨ X.env.cells.lookup x = some a)) → Q () s') (hf : X.fn x = true ∨ X.env.scope.names.lookup x = some .local := by first | exact .inl rfl | exact .inr rfl | assumption) : wpAny M A (storeName X.env x u) Q E s := by
  obtain ⟨m, hn, hl⟩ := id I.loc
  have hcls : (X.env.scope.kind == .class || (X.env.scope.kind == .module && X.env.locals != X.env.globals)) = false := by rw [I.ok.kind]; rfl
  have hiσ : i < σ.length := by rw [I.len]; exact (List.getElem?_eq_some_iff.mp hi).1
  have cne := I.cne
  have tracked : ∀ {a : Addr} {h' : Heap}, (∃ o, s.heap.get? a = some o ∧ H a = none) → Heap.SameBut a s.heap h' → HOk X.prog X.w H h' := fun {a h'} ha hs b ob e => by
    obtain ⟨_, _, hfree⟩ := ha
    refine (I.hok b ob e).stay (fun c w' hc q => (hs.2 c ?_).trans q) (fun _ q => q) fun _ _ q => q
    rintro rfl
    rcases hc with rfl | hc
    · rw [hfree] at e; cases e
    · rw [hfree] at hc; cases hc
  rcases hx with hk | hk
  · refine wpAny_storeName_local hk hn (fun h' hn' hs => ?_) hcls
    obtain ⟨oL, _, _, hoL, _⟩ := id hn
    refine h _ ⟨I.ok, I.os, I.bare, ⟨fun b o e n hb hx => ?_, fun b o e n hb hx => ?_, I.base.free, fun b o e hx => ?_, I.base.tups, I.base.frzs, I.base.tbls⟩, ⟨_, hn', fun j y v' e1 e2 e3 => ?_⟩, fun y c e => ?_, I.free, I.freeC, fun p hp => ?_, tracked ⟨oL, hoL, I.free⟩ hs, by simpa using I.len⟩ ⟨_, hs, .inl rfl⟩
    · exact (hs.2 b (Nat.ne_of_lt (Nat.lt_of_lt_of_le (Heap.lt_size e) I.ok.above))).trans (I.base.keep b o e n hb hx)
    · obtain ⟨sl, e1⟩ := I.base.slot b o e n hb hx
      exact ⟨sl, (hs.2 b (Nat.ne_of_lt (Nat.lt_of_lt_of_le (Heap.lt_size e) I.ok.above))).trans e1⟩
    · obtain ⟨o', e1⟩ := I.base.there b o e hx
      exact ⟨o', (hs.2 b (Nat.ne_of_lt (Nat.lt_of_lt_of_le (Heap.lt_size e) I.ok.above))).trans e1⟩
    · by_cases hj : j = i
      · subst hj
        rw [hi] at e1; cases e1
        rw [List.getElem?_set_self hiσ] at e2
        cases e2
        exact ⟨u, r, .inl ⟨hk, by simp⟩⟩
      · rw [List.getElem?_set_ne (Ne.symm hj)] at e2
        obtain ⟨u', r', q⟩ := hl j y v' e1 e2 e3
        refine ⟨u', r', ?_⟩
        rcases q with ⟨k, e⟩ | ⟨k, c, e, z⟩
        · refine .inl ⟨k, ?_⟩
          have : y ≠ x := fun e => hj (nodup_ix hN e1 (e ▸ hi))
          simp [this, e]
        · exact .inr ⟨k, c, e, z.sameBut hs (cne y c e)⟩
    · obtain ⟨w', z⟩ := I.cell y c e
      exact ⟨w', z.sameBut hs (cne y c e)⟩
    · obtain ⟨e, n, ne, nf, d⟩ := I.pin p hp
      exact ⟨(hs.2 p.1 ne).trans e, n, ne, nf, d⟩
  · have hfn : X.fn x = true := by
      rcases hf with z | z
      · exact z
      · rw [z] at hk; cases hk
    obtain ⟨c, hc⟩ := I.ok.has x (.inl hk)
    obtain ⟨w', z⟩ := I.cell x c hc
    refine wpAny_storeName_cell I.ok.kind hk hc z (fun h' hc' hs => ?_)
    obtain ⟨oc, hoc, hocd⟩ := id z
    refine h { s with heap := h' } ⟨I.ok, I.os, I.bare, ⟨fun b o e n hb hx => ?_, fun b o e n hb hx => ?_, I.base.free, fun b o e hx => ?_, I.base.tups, I.base.frzs, I.base.tbls⟩, ⟨m, hn.sameBut hs (Ne.symm (cne x c hc)), fun j y v' e1 e2 e3 => ?_⟩, fun y c' e => ?_, I.free, I.freeC, fun p hp => ?_, tracked ⟨oc, hoc, I.freeC x c hc⟩ hs, by simpa using I.len⟩ ⟨c, hs, .inr hc⟩
    · exact (hs.2 b (Nat.ne_of_lt (Nat.lt_of_lt_of_le (Heap.lt_size e) (I.ok.cab x c hfn hc)))).trans (I.base.keep b o e n hb hx)
    · obtain ⟨sl, e1⟩ := I.base.slot b o e n hb hx
      exact ⟨sl, (hs.2 b (Nat.ne_of_lt (Nat.lt_of_lt_of_le (Heap.lt_size e) (I.ok.cab x c hfn hc)))).trans e1⟩
    · obtain ⟨o', e1⟩ := I.base.there b o e hx
      exact ⟨o', (hs.2 b (Nat.ne_of_lt (Nat.lt_of_lt_of_le (Heap.lt_size e) (I.ok.cab x c hfn hc)))).trans e1⟩
    · by_cases hj : j = i
      · subst hj
        rw [hi] at e1; cases e1
        rw [List.getElem?_set_self hiσ] at e2
        cases e2
        exact ⟨u, r, .inr ⟨.inl hk, c, hc, hc'⟩⟩
      · rw [List.getElem?_set_ne (Ne.symm hj)] at e2
        obtain ⟨u', r', q⟩ := hl j y v' e1 e2 e3
        refine ⟨u', r', ?_⟩
        rcases q with q | ⟨k, c', e, z'⟩
        · exact .inl q
        · refine .inr ⟨k, c', e, z'.sameBut hs ?_⟩
          rintro rfl
          exact hj (nodup_ix hN e1 (I.ok.inj _ _ _ e hc ▸ hi))
    · by_cases hcc : c' = c
      · subst hcc; exact ⟨_, hc'⟩
      · obtain ⟨w2, z2⟩ := I.cell y c' e
        exact ⟨w2, z2.sameBut hs hcc⟩
    · obtain ⟨e, n, ne, nf, d⟩ := I.pin p hp
      refine ⟨(hs.2 p.1 ?_).trans e, n, ne, nf, d⟩
      intro q
      rw [q, hoc] at e
      have q' : oc = p.2 := Option.some.inj e
      exact d w' (by rw [← q']; exact hocd)
theorem store_ok {M : Model} {A : Around} {E : Value → Shared → Prop} {i : Nat} {x : Str} {v : V} {u : Value} {Q : Unit → Shared → Prop} (I : Inv X pins σ H s) (hN : X.N.Nodup) (hi : X.N[i]? = some x) (hx : Loc X.env.scope x) (r : RelV v u)
    (h : ∀ s', Inv X pins (σ.set i (some v)) H s' → Q () s') (hf : X.fn x = true ∨ X.env.scope.names.lookup x = some .local := by first | exact .inl rfl | exact .inr rfl | assumption) : wpAny M A (storeName X.env x u) Q E s :=
  store_ok2 I hN hi hx r (fun s' I' _ => h s' I') hf
/-- behind a call or a block, the state as it is -/
theorem Inv.call' {s' : Shared} {ch : List Addr} (I : Inv X pins σ H s) (ho : s'.os = s.os) (u : Un (frs X.stack) ch H H' s.heap s'.heap) (hok : HOk X.prog X.w H' s'.heap) (hg : AllBare s'.gens)
    (hch : ∀ b ∈ ch, (b ∈ X.ex ∨ X.s₀.heap.objs.size ≤ b) ∧ b ≠ X.env.locals ∧ (∀ x c, X.env.cells.lookup x = some c → c ≠ b) ∧ ∀ p ∈ X.pn ++ pins, p.1 ≠ b) : Inv X pins σ H' s' := by
  obtain ⟨h', g', d', t', o'⟩ := s'
  have e : o' = s.os := ho
  subst e
  exact I.call (g' := g') (t' := t') (d' := d') u hok hg hch
end

/-! ### the judgements -/
/-- an exception: its class, its own dict's address (where it has one), the abstract heap behind it -/
abbrev XK := Value → Option Addr → Hp → Prop
abbrev St := List (Option V)
abbrev VK := V → Hp → Prop
/-- an expression's reading; a test's; an argument list's -/
abbrev TE := St → Hp → VK → Prop
abbrev TT := St → Hp → (Bool → Hp → Prop) → Prop
abbrev TA := St → Hp → (List V → Hp → Prop) → Prop
/-- what is wanted behind a statement -/
structure Ends where
  nx : St → Hp → Prop
  rt : VK
  bk : St → Hp → Prop := fun _ _ => False
  ct : St → Hp → Prop := fun _ _ => False
abbrev TS := Ends → St → Hp → Prop

def EP (X : Cx) (pins : List (Addr × Obj)) (σ : St) (Q : VK) (u : Value) (s' : Shared) : Prop := ∃ v H', Inv X pins σ H' s' ∧ RelV v u ∧ Q v H'
def TP (X : Cx) (pins : List (Addr × Obj)) (σ : St) (Q : Bool → Hp → Prop) (b : Bool) (s' : Shared) : Prop := ∃ H', Inv X pins σ H' s' ∧ Q b H'
def AP (X : Cx) (pins : List (Addr × Obj)) (σ : St) (Q : List V → Hp → Prop) (us : List Value) (s' : Shared) : Prop := ∃ vs H', Inv X pins σ H' s' ∧ Vals vs us ∧ Q vs H'
def SP (X : Cx) (pins : List (Addr × Obj)) (D : Ends) (f : Flow) (s' : Shared) : Prop :=
  match f with
  | .next => ∃ σ' H', Inv X pins σ' H' s' ∧ D.nx σ' H'
  | .brk => ∃ σ' H', Inv X pins σ' H' s' ∧ D.bk σ' H'
  | .cont => ∃ σ' H', Inv X pins σ' H' s' ∧ D.ct σ' H'
  | .ret u => ∃ v σ' H', Inv X pins σ' H' s' ∧ RelV v u ∧ D.rt v H'

def PE (X : Cx) (e : Expr) (t : TE) : Prop :=
  ∀ (pins : List (Addr × Obj)) (s : Shared) (σ : St) (H : Hp) (Q : VK), Inv X pins σ H s → t σ H Q → wpAny (model X.prog X.w) X.A (eval e X.env) (EP X pins σ Q) X.xe s
def PT (X : Cx) (e : Expr) (t : TT) : Prop :=
  ∀ (pins : List (Addr × Obj)) (s : Shared) (σ : St) (H : Hp) (Q : Bool → Hp → Prop), Inv X pins σ H s → t σ H Q → wpAny (model X.prog X.w) X.A (isTrue e X.env (eval e X.env)) (TP X pins σ Q) X.xe s
/-- a test whatever its 'whole' is (and, or) -/
def PW (X : Cx) (e : Expr) (t : TT) : Prop :=
  ∀ (whole : Sem Value) (pins : List (Addr × Obj)) (s : Shared) (σ : St) (H : Hp) (Q : Bool → Hp → Prop), Inv X pins σ H s → t σ H Q → wpAny (model X.prog X.w) X.A (isTrue e X.env whole) (TP X pins σ Q) X.xe s
theorem PW.pt {X : Cx} {e : Expr} {t : TT} (h : PW X e t) : PT X e t := h _
/-- an argument list (no star), from the left -/
def PA (X : Cx) (es : List Expr) (t : TA) : Prop :=
  ∀ (pos : Pos) (pins : List (Addr × Obj)) (s : Shared) (σ : St) (H : Hp) (Q : List V → Hp → Prop), Inv X pins σ H s → t σ H Q → wpAny (model X.prog X.w) X.A (spliced (backTo pos (starEach es X.env))) (AP X pins σ Q) X.xe s
def PS (X : Cx) (st : Stmt) (t : TS) : Prop :=
  ∀ (pins : List (Addr × Obj)) (s : Shared) (σ : St) (H : Hp) (D : Ends), Inv X pins σ H s → t D σ H → wpAny (model X.prog X.w) X.A (exec st X.env) (SP X pins D) X.xe s
def PSs (X : Cx) (st : List Stmt) (t : TS) : Prop :=
  ∀ (pins : List (Addr × Obj)) (s : Shared) (σ : St) (H : Hp) (D : Ends), Inv X pins σ H s → t D σ H → wpAny (model X.prog X.w) X.A (execs st X.env) (SP X pins D) X.xe s
/-- weaken the end -/
theorem thn {α : Type} {t : Sem α} {Q Q' : α → Shared → Prop} {M : Model} {A : Around} {E : Value → Shared → Prop} {s : Shared} (h : wpAny M A t Q E s) (hQ : ∀ a s, Q a s → Q' a s) : wpAny M A t Q' E s := wpAny_mono h hQ fun _ _ x => x
end L2

namespace L2
open PySem PySem.Spec PyProof.Rows
section
variable {X : Cx}

/-! ### names and constants -/
def tVar (i : Nat) : TE := fun σ H Q => ∃ v, σ[i]? = some (some v) ∧ Q v H
def tC (v : V) : TE := fun _ H Q => Q v H
theorem pe_var {i : Nat} {x : Str} {pos : Pos} (hN : X.N[i]? = some x) (hv : Vis X.env.scope x) (hd : (x == ("__debug__" : Str)) = false := by decide) (hcd : (x == ("__classdict__" : Str)) = false := by decide) : PE X (.Name x pos) (tVar i) := by
  intro pins s σ H Q I h
  obtain ⟨v, e, h⟩ := h
  obtain ⟨m, hn, hl⟩ := I.loc
  obtain ⟨u, r, l⟩ := hl i x v hN e hv
  have fin : EP X pins σ Q u s := ⟨v, H, I, r, h⟩
  rcases l with ⟨hk, hm⟩ | ⟨hk, c, hc, hcell⟩
  · exact wpAny_Name (wpAny_loadName_local I.ok.kind hk hn hm fin) hd
  · rcases hk with hk | hk
    · exact wpAny_Name (wpAny_loadName_cell I.ok.kind hk hc hcell fin) hd
    · exact wpAny_Name (wpAny_loadName_free I.ok.kind hk hc hcell fin hcd) hd
theorem pe_int {i j pos} : PE X (.Constant (.int i) j pos) (tC (.int i)) := fun _ _ _ H _ I h => wpAny_Constant_int ⟨.int i, H, I.tok _, ⟨_, rfl⟩, h⟩
theorem pe_bl {b j pos} : PE X (.Constant (.bool b) j pos) (tC (.bl b)) := fun _ _ _ H _ I h => Constant_bool ⟨.bl b, H, I, rfl, h⟩
theorem pe_non {j pos} : PE X (.Constant .none j pos) (tC .non) := fun _ _ _ H _ I h => Constant_none ⟨.non, H, I, rfl, h⟩
theorem pe_str {x j pos} : PE X (.Constant (.str x) j pos) (tC (.str x)) := fun _ _ _ H _ I h => Calls.Constant_str ⟨.str x, H, I.tok _, ⟨_, rfl⟩, h⟩

/-- a global name of the def -/
def Gl (X : Cx) (x : Str) : Prop := X.env.kindOf x = some .globalImplicit
theorem ld_glob {E : Value → Shared → Prop} {pins : List (Addr × Obj)} {s : Shared} {σ : St} {H : Hp} {x : Str} {u : Value} {pos : Pos} {Q : Value → Shared → Prop} (I : Inv X pins σ H s) (hg : Gl X x) (hm : X.mg x = some u) (h : Q u s)
    (hd : (x == ("__debug__" : Str)) = false := by decide) : wpAny (model X.prog X.w) X.A (eval (.Name x pos) X.env) Q E s :=
  Calls.Name_function_global I.ok.kind hg (Calls.loadGlobal_global (by rw [I.ok.glob]; exact I.mod.glob.keeps I.bk) hm h) hd
theorem ld_blt {E : Value → Shared → Prop} {pins : List (Addr × Obj)} {s : Shared} {σ : St} {H : Hp} {x : Str} {u : Value} {pos : Pos} {Q : Value → Shared → Prop} (I : Inv X pins σ H s) (hg : Gl X x) (hm : X.mg x = none) (hv : bootBuiltins x = some u) (h : Q u s)
    (hn : x ≠ "__name__" := by decide) (hd : (x == ("__debug__" : Str)) = false := by decide) : wpAny (model X.prog X.w) X.A (eval (.Name x pos) X.env) Q E s := by
  obtain ⟨mb, h1, h2⟩ := I.mod.blt
  exact Calls.Name_function_global I.ok.kind hg (Calls.loadGlobal_builtin (by rw [I.ok.glob]; exact I.mod.glob.keeps I.bk) hm (by rw [I.ok.blt]; exact h1.keeps I.bk) ((h2 x hn).trans hv) h) hd
/-- a module's constant, a class, a function, as a value -/
theorem pe_glob {x : Str} {v : V} {u : Value} {pos : Pos} (hg : Gl X x) (hm : X.mg x = some u) (r : RelV v u) (hd : (x == ("__debug__" : Str)) = false := by decide) : PE X (.Name x pos) (tC v) :=
  fun _ _ _ H _ I h => ld_glob I hg hm ⟨v, H, I, r, h⟩ hd
theorem pe_bltn {x : Str} {v : V} {u : Value} {pos : Pos} (hg : Gl X x) (hm : X.mg x = none) (hv : bootBuiltins x = some u) (r : RelV v u) (hn : x ≠ "__name__" := by decide) (hd : (x == ("__debug__" : Str)) = false := by decide) : PE X (.Name x pos) (tC v) :=
  fun _ _ _ H _ I h => ld_blt I hg hm hv ⟨v, H, I, r, h⟩ hn hd

/-! ### arithmetic -/
variable {a b : Expr} {ta tb : TE} {pos : Pos}
/-! ### comparisons -/
/-- a comparison as a value, as a test -/
def tB (t : TE) : TT := fun σ H Q => t σ H fun x H1 => ∃ c, x = .bl c ∧ Q c H1
/-- an expression whose value is a bool, as a test -/
theorem pt_val {e : Expr} {t : TE} (h : PE X e t) (he : ∀ whole, isTrue e X.env whole = (do let v ← whole; standAt e.pos; holding [v] (truthy v)) := by intro _; rfl) : PT X e (tB t) := by
  intro pins s σ H Q I hw
  refine isTrue_plain (thn (h pins s σ H _ I hw) fun v s1 ⟨x, H1, I1, r1, q1⟩ => ?_) (he _)
  obtain ⟨d, rfl, q⟩ := q1
  cases r1
  exact wpAny_truthy_bool ⟨H1, I1, q⟩

/-! ### and, or, not -/
variable {tA tB' : TT} {rest : List Expr}
def tAnd (t u : TT) : TT := fun σ H Q => t σ H fun c H1 => if c = true then u σ H1 Q else Q false H1
def tOr (t u : TT) : TT := fun σ H Q => t σ H fun c H1 => if c = true then Q true H1 else u σ H1 Q
def tNot (t : TT) : TT := fun σ H Q => t σ H fun c H1 => Q (!c) H1
theorem pw_and1 (ha : PT X a tA) : PW X (.BoolOp .And [a] pos) tA := by
  intro wh pins s σ H Q I h
  refine isTrue_and (thn (ha pins s σ H Q I h) fun c s1 e => ?_)
  cases c with
  | true => exact isTrue_and_nil e
  | false => exact e
theorem pw_or1 (ha : PT X a tA) : PW X (.BoolOp .Or [a] pos) tA := by
  intro wh pins s σ H Q I h
  refine isTrue_or (thn (ha pins s σ H Q I h) fun c s1 e => ?_)
  cases c with
  | false => exact isTrue_or_nil e
  | true => exact e
theorem pw_and (ha : PT X a tA) (hb : PW X (.BoolOp .And (b :: rest) pos) tB') : PW X (.BoolOp .And (a :: b :: rest) pos) (tAnd tA tB') := by
  intro wh pins s σ H Q I h
  refine isTrue_and (thn (ha pins s σ H _ I h) fun c s1 ⟨H1, I1, q1⟩ => ?_)
  cases c with
  | true => exact hb wh pins s1 σ H1 Q I1 q1
  | false => exact ⟨H1, I1, q1⟩
theorem pw_or (ha : PT X a tA) (hb : PW X (.BoolOp .Or (b :: rest) pos) tB') : PW X (.BoolOp .Or (a :: b :: rest) pos) (tOr tA tB') := by
  intro wh pins s σ H Q I h
  refine isTrue_or (thn (ha pins s σ H _ I h) fun c s1 ⟨H1, I1, q1⟩ => ?_)
  cases c with
  | true => exact ⟨H1, I1, q1⟩
  | false => exact hb wh pins s1 σ H1 Q I1 q1
theorem pt_not (ha : PT X a tA) : PT X (.UnaryOp .Not a pos) (tNot tA) := by
  intro pins s σ H Q I h
  exact isTrue_not (ha pins s σ H (fun c H1 => Q (!c) H1) I h)
/-- .. as values (bools) -/
def tAndV (ta tb : TE) : TE := fun σ H Q => ta σ H fun x H1 => ∃ c, x = .bl c ∧ if c = true then tb σ H1 Q else Q (.bl false) H1
def tNotV (ta : TE) : TE := fun σ H Q => ta σ H fun x H1 => ∃ c, x = .bl c ∧ Q (.bl (!c)) H1
theorem pe_one {op} {t : TE} (h : PE X a t) : PE X (.BoolOp op [a] pos) t := fun pins s σ H Q I hw => BoolOp_one (h pins s σ H Q I hw)
theorem pe_and (ha : PE X a ta) (hb : PE X (.BoolOp .And (b :: rest) pos) tb) : PE X (.BoolOp .And (a :: b :: rest) pos) (tAndV ta tb) := by
  intro pins s σ H Q I h
  refine BoolOp_and (thn (ha pins s σ H _ I h) fun v s1 ⟨x, H1, I1, r1, q1⟩ => ?_)
  obtain ⟨c, rfl, q1⟩ := q1
  cases r1
  refine wpAny_truthy_bool ?_
  cases c with
  | true => exact hb pins s1 σ H1 Q I1 q1
  | false => exact ⟨.bl false, H1, I1, rfl, q1⟩
theorem pe_not (ha : PE X a ta) : PE X (.UnaryOp .Not a pos) (tNotV ta) := by
  intro pins s σ H Q I h
  refine UnaryOp_ (thn (ha pins s σ H _ I h) fun v s1 ⟨x, H1, I1, r1, q1⟩ => ?_)
  obtain ⟨c, rfl, q1⟩ := q1
  cases r1
  exact not_of (wpAny_truthy_bool ⟨.bl (!c), H1, I1, rfl, q1⟩)
/-- a if t else b -/
def tIf (t : TT) (ta tb : TE) : TE := fun σ H Q => t σ H fun c H1 => if c = true then ta σ H1 Q else tb σ H1 Q
theorem pe_ifExp {c : Expr} (hc : PT X c tA) (ha : PE X a ta) (hb : PE X b tb) : PE X (.IfExp c a b pos) (tIf tA ta tb) := by
  intro pins s σ H Q I h
  refine wpAny_IfExp (thn (hc pins s σ H _ I h) fun d s1 ⟨H1, I1, q1⟩ => ?_)
  cases d with
  | true => exact ha pins s1 σ H1 Q I1 q1
  | false => exact hb pins s1 σ H1 Q I1 q1
end
end L2

namespace L2
open PySem PySem.Spec PyProof.Rows

/-! ### a list, a tuple that is read: tracked, frozen, or an object of the module -/
def SqL (K : PySem.W.Frag) (H : Hp) (a : Addr) (xs : List V) : Prop :=
  Rd H a (.lst xs) ∨
    ∃ (o : Obj) (its : Array Value) (n : Nat), K.lookup a = some o ∧ o.cls = .type "list" ∧ o.dict = none ∧ o.data = .seq its n ∧ its.size ≤ sizeLine ∧ Vals xs its.toList
def SqT (K : PySem.W.Frag) (H : Hp) (a : Addr) (xs : List V) : Prop :=
  Rd H a (.tup xs) ∨
    ∃ (o : Obj) (its : Array Value) (n : Nat), K.lookup a = some o ∧ o.cls = .type "tuple" ∧ o.data = .seq its n ∧ its.size ≤ sizeLine ∧ Vals xs its.toList
def absV : Value → Option V
  | .none => some .non
  | .bool b => some (.bl b)
  | .int i _ => some (.int i)
  | .str x _ => some (.str x)
  | .bytes b _ => some (.byt b)
  | .float b _ => some (.flt b)
  | .ref a => some (.ref a)
  | .type n => some (.ty n)
  | _ => none
theorem RelV.abs {x : V} {u : Value} (r : RelV x u) : absV u = some x := by
  cases x with
  | non => cases r; rfl
  | bl _ => cases r; rfl
  | int _ => obtain ⟨t, rfl⟩ := r; rfl
  | str _ => obtain ⟨t, rfl⟩ := r; rfl
  | byt _ => obtain ⟨t, rfl⟩ := r; rfl
  | flt _ => obtain ⟨t, rfl⟩ := r; rfl
  | ref _ => cases r; rfl
  | ty _ => cases r; rfl
theorem RelV.inj {x y : V} {u : Value} (r : RelV x u) (q : RelV y u) : x = y := Option.some.inj (r.abs.symm.trans q.abs)
theorem Vals.inj : ∀ {xs ys : List V} {us : List Value}, Vals xs us → Vals ys us → xs = ys
  | _, _, _, .nil, .nil => rfl
  | _, _, _, .cons r t, .cons r' t' => by rw [r.inj r', Vals.inj t t']
section
variable {X : Cx} {pins : List (Addr × Obj)} {σ : St} {H : Hp} {s : Shared} {a : Addr} {xs ys : List V}
theorem SqL.of {K : PySem.W.Frag} (h : H a = some (.lst xs)) : SqL K H a xs := .inl (.inl h)
theorem SqT.of {K : PySem.W.Frag} (h : H a = some (.tup xs)) : SqT K H a xs := .inl (.inl h)
theorem Inv.list (I : Inv X pins σ H s) (h : SqL X.K H a xs) : ∃ its : List Value, Vals xs its ∧ PlainL s.heap a its.toArray ∧ xs.length ≤ sizeLine := by
  rcases h with h | ⟨o, its, n, hk, hc, hd, hs, hz, r⟩
  · obtain ⟨z, its, n, r, e⟩ := h.ok I.hok
    exact ⟨its, r, ⟨_, n, e, rfl, rfl, rfl⟩, z⟩
  · refine ⟨its.toList, r, ⟨o, n, I.kIn a o hk, hc, hd, by simpa using hs⟩, ?_⟩
    have e := r.length
    simp only [Array.length_toList] at e
    omega
theorem Inv.tuple (I : Inv X pins σ H s) (h : SqT X.K H a xs) : ∃ its : List Value, Vals xs its ∧ IsTup s.heap a its.toArray ∧ xs.length ≤ sizeLine := by
  rcases h with h | ⟨o, its, n, hk, hc, hs, hz, r⟩
  · obtain ⟨z, its, r, p⟩ := h.ok I.hok
    exact ⟨its, r, p, z⟩
  · refine ⟨its.toList, r, ⟨o, I.kIn a o hk, hc, n, by simpa using hs⟩, ?_⟩
    have e := r.length
    simp only [Array.length_toList] at e
    omega
theorem Inv.list_inj (I : Inv X pins σ H s) (h : SqL X.K H a xs) (h' : SqL X.K H a ys) : xs = ys := by
  obtain ⟨its, r, ⟨o, n, e, _, _, d⟩, _⟩ := I.list h
  obtain ⟨its', r', ⟨o', n', e', _, _, d'⟩, _⟩ := I.list h'
  rw [e] at e'; cases e'
  rw [d] at d'
  injection d' with d1 _
  have : its = its' := by simpa using congrArg Array.toList d1
  subst this
  exact r.inj r'
end

/-! ### another wish about exceptions -/
abbrev Cx.wish (X : Cx) (E : Value → Shared → Prop) : Cx := { X with xe := E }
/-- no exception leaves -/
abbrev Cx.nox (X : Cx) : Cx := X.wish fun _ _ => False
theorem Cx.Ok.wish {X : Cx} (ok : X.Ok) (E : Value → Shared → Prop) : (X.wish E).Ok :=
  ⟨ok.mod, ok.kind, ok.glob, ok.blt, ok.above, ok.inj, ok.has, ok.cab, ok.hd, ok.frames, ok.stk, ok.exf, ok.bs, ok.bsz, ok.noex, ok.exfs, ok.funs, ok.frf⟩
theorem Cx.Ok.unwish {X : Cx} {E : Value → Shared → Prop} (ok : (X.wish E).Ok) : X.Ok :=
  ⟨ok.mod, ok.kind, ok.glob, ok.blt, ok.above, ok.inj, ok.has, ok.cab, ok.hd, ok.frames, ok.stk, ok.exf, ok.bs, ok.bsz, ok.noex, ok.exfs, ok.funs, ok.frf⟩
section
variable {X : Cx} {pins : List (Addr × Obj)} {σ : St} {H : Hp} {s : Shared} {E : Value → Shared → Prop}
theorem Inv.wish (I : Inv X pins σ H s) (E : Value → Shared → Prop) : Inv (X.wish E) pins σ H s := ⟨I.ok.wish E, I.os, I.bare, I.base, I.loc, I.cell, I.free, I.freeC, I.pin, I.hok, I.len⟩
theorem Inv.unwish (I : Inv (X.wish E) pins σ H s) : Inv X pins σ H s := ⟨I.ok.unwish, I.os, I.bare, I.base, I.loc, I.cell, I.free, I.freeC, I.pin, I.hok, I.len⟩
theorem SP.unwish {D : Ends} {f : Flow} {s' : Shared} (h : SP (X.wish E) pins D f s') : SP X pins D f s' := by
  cases f with
  | next => obtain ⟨σ', H', I, q⟩ := h; exact ⟨σ', H', I.unwish, q⟩
  | brk => obtain ⟨σ', H', I, q⟩ := h; exact ⟨σ', H', I.unwish, q⟩
  | cont => obtain ⟨σ', H', I, q⟩ := h; exact ⟨σ', H', I.unwish, q⟩
  | ret u => obtain ⟨v, σ', H', I, r, q⟩ := h; exact ⟨v, σ', H', I.unwish, r, q⟩
theorem PSs.nox {st : List Stmt} {t : TS} (h : PSs X.nox st t) : PSs X st t := fun pins s σ H D I hw =>
  wpAny_mono (h pins s σ H D (I.wish _) hw) (fun _ _ q => q.unwish) fun _ _ z => False.elim z
end

/-! ### blocks and small statements -/
section
variable {X : Cx} {st : Stmt} {rest : List Stmt} {t u : TS} {e : Expr} {te : TE} {pos : Pos}
def tNext : TS := fun D σ H => D.nx σ H
def tSeq (t u : TS) : TS := fun D σ H => t { D with nx := u D } σ H
theorem pss_nil : PSs X [] tNext := fun _ _ σ H _ I h => wpAny_execs_nil ⟨σ, H, I, h⟩
theorem pss_cons (h1 : PS X st t) (h2 : PSs X rest u) : PSs X (st :: rest) (tSeq t u) := by
  intro pins s σ H D I h
  refine wpAny_execs_cons (thn (h1 pins s σ H { D with nx := u D } I h) fun f s1 q => ?_)
  cases f with
  | next =>
    obtain ⟨σ', H', I', q⟩ := q
    exact h2 pins s1 σ' H' D I' q
  | ret v => exact q
  | brk => exact q
  | cont => exact q
theorem pss_one (h1 : PS X st t) : PSs X [st] t := by
  intro pins s σ H D I h
  refine wpAny_execs_cons (thn (h1 pins s σ H D I h) fun f s1 q => ?_)
  cases f with
  | next => exact wpAny_execs_nil q
  | ret v => exact q
  | brk => exact q
  | cont => exact q
/-- in a def's body nothing is shown -/
theorem Inv.quiet {pins : List (Addr × Obj)} {σ : St} {H : Hp} {s : Shared} (I : Inv X pins σ H s) : interactive X.env = false := by simp [interactive, I.ok.kind]
/-- an expression whose value is dropped -/
def tDrop (te : TE) : TS := fun D σ H => te σ H fun _ H1 => D.nx σ H1
theorem ps_expr (he : PE X e te) (hs : swapsWith e none pos.line X.env = pure false := by rfl) : PS X (.Expr e pos) (tDrop te) := by
  intro pins s σ H D I h
  exact wpAny_Expr_any (thn (he pins s σ H _ I h) fun v s1 ⟨x, H1, I1, r1, q1⟩ => ⟨σ, H1, I1, q1⟩) I.quiet hs
def tRet (te : TE) : TS := fun D σ H => te σ H D.rt
theorem ps_ret (he : PE X e te) : PS X (.Return (some e) pos) (tRet te) := by
  intro pins s σ H D I h
  exact wpAny_Return_some (thn (he pins s σ H _ I h) fun v s1 ⟨x, H1, I1, r1, q1⟩ => ⟨x, σ, H1, I1, r1, q1⟩)
def tIfS (c : TT) (t u : TS) : TS := fun D σ H => c σ H fun b H1 => if b = true then t D σ H1 else u D σ H1
theorem ps_if {c : Expr} {a b : List Stmt} {tc : TT} (hc : PT X c tc) (ha : PSs X a t) (hb : PSs X b u) : PS X (.If c a b pos) (tIfS tc t u) := by
  intro pins s σ H D I h
  refine wpAny_If (thn (hc pins s σ H _ I h) fun d s1 ⟨H1, I1, q1⟩ => ?_)
  cases d with
  | true => exact ha pins s1 σ H1 D I1 q1
  | false => exact hb pins s1 σ H1 D I1 q1
end

/-! ### targets -/
abbrev TG := V → St → Hp → (St → Hp → Prop) → Prop
abbrev TGs := List V → St → Hp → (St → Hp → Prop) → Prop
def PG (X : Cx) (target : Expr) (t : TG) : Prop :=
  ∀ (pins : List (Addr × Obj)) (s : Shared) (σ : St) (H : Hp) (v : V) (u : Value) (Q : St → Hp → Prop), Inv X pins σ H s → RelV v u → t v σ H Q →
    wpAny (model X.prog X.w) X.A (assign target X.env u) (fun _ s' => ∃ σ' H', Inv X pins σ' H' s' ∧ Q σ' H') X.xe s
/-- several targets, one after another -/
def PGs (X : Cx) (ts : List Expr) (t : TGs) : Prop :=
  ∀ (pins : List (Addr × Obj)) (s : Shared) (σ : St) (H : Hp) (vs : List V) (us : List Value) (Q : St → Hp → Prop), Inv X pins σ H s → Vals vs us → t vs σ H Q →
    wpAny (model X.prog X.w) X.A (assignInOrder ((assignEach ts X.env).map (·.2)) us) (fun _ s' => ∃ σ' H', Inv X pins σ' H' s' ∧ Q σ' H') X.xe s
/-- o[i] = v, by values -/
abbrev TSet := V → V → V → Hp → (Hp → Prop) → Prop
def PSet (X : Cx) (t : TSet) : Prop :=
  ∀ (pins : List (Addr × Obj)) (s : Shared) (σ : St) (H : Hp) (o i v : V) (ov iv u : Value) (Q : Hp → Prop), Inv X pins σ H s → RelV o ov → RelV i iv → RelV v u → t o i v H Q →
    wpAny (model X.prog X.w) X.A (setItem ov iv u) (fun _ s' => ∃ H', Inv X pins σ H' s' ∧ Q H') X.xe s
/-- a op= b, by values -/
abbrev TIp := V → V → Hp → VK → Prop
def PIp (X : Cx) (op : Operator) (t : TIp) : Prop :=
  ∀ (pins : List (Addr × Obj)) (s : Shared) (σ : St) (H : Hp) (x y : V) (v u : Value) (Q : VK), Inv X pins σ H s → RelV x v → RelV y u → t x y H Q →
    wpAny (model X.prog X.w) X.A (inplaceOp op v u) (EP X pins σ Q) X.xe s
section
variable {X : Cx} {pos : Pos}
def gName (i : Nat) : TG := fun v σ H Q => Q (σ.set i (some v)) H
theorem pg_name {i : Nat} {x : Str} (hN : X.N.Nodup) (hi : X.N[i]? = some x) (hx : Loc X.env.scope x) (hf : X.fn x = true ∨ X.env.scope.names.lookup x = some .local := by first | exact .inl rfl | exact .inr rfl | assumption) : PG X (.Name x pos) (gName i) := by
  intro pins s σ H v u Q I r h
  exact wpAny_assign_Name (store_ok I hN hi hx r (fun s' I' => ⟨_, H, I', h⟩) hf)
def gNil : TGs := fun vs σ H Q => vs = [] ∧ Q σ H
def gCons (t : TG) (u : TGs) : TGs := fun vs σ H Q => ∃ v r, vs = v :: r ∧ t v σ H fun σ' H' => u r σ' H' Q
theorem pgs_nil : PGs X [] gNil := by
  intro pins s σ H vs us Q I r h
  obtain ⟨e, h⟩ := h
  subst e
  cases r
  exact assignInOrder_nil ⟨σ, H, I, h⟩
theorem pgs_cons {e : Expr} {es : List Expr} {t : TG} {u : TGs} (h1 : PG X e t) (h2 : PGs X es u)
    (hs : (assignEach (e :: es) X.env).map (·.2) = assign e X.env :: (assignEach es X.env).map (·.2) := by rfl) : PGs X (e :: es) (gCons t u) := by
  intro pins s σ H vs us Q I r h
  obtain ⟨v, vr, e1, h⟩ := h
  subst e1
  cases r with
  | cons r rr =>
    rw [hs]
    refine assignInOrder_cons (thn (h1 pins s σ H _ _ _ I r h) fun _ s1 ⟨σ1, H1, I1, q1⟩ => ?_)
    exact h2 pins s1 σ1 H1 _ _ Q I1 rr q1
/-- (a, b, ..) = a tuple of that length -/
def gTup (K : PySem.W.Frag) (n : Nat) (t : TGs) : TG := fun v σ H Q => ∃ a xs, v = .ref a ∧ SqT K H a xs ∧ xs.length = n ∧ t xs σ H Q
theorem pg_tup {es : List Expr} {k : Nat} {t : TGs} {n : Nat} (hc : X.calm = true) (h : PGs X es t)
    (hn : (assignEach es X.env).length = n := by rfl) (hst : (assignEach es X.env).findIdx? (·.1) = none := by rfl) : PG X (.Tuple es k pos) (gTup X.K n t) := by
  intro pins s σ H v u Q I r hw
  obtain ⟨a, xs, e1, hq, hl, hw⟩ := hw
  subst e1
  cases r
  obtain ⟨its, rv, ht, hz⟩ := I.tuple hq
  refine assign_Tuple_tuple (I.ok.hd hc) ht (by simp [hn, ← hl, rv.length]) hst fun h' hx => ?_
  have I1 : Inv X pins σ H { s with heap := h' } := I.kept (t' := s.toks) fun b o e => hx b o (Nat.ne_of_lt (Heap.lt_size e)) e
  exact h pins _ σ H xs _ Q I1 (by simpa using rv) hw
/-- o[i] = .. -/
def gSub (to ti : TE) (t : TSet) : TG := fun v σ H Q => to σ H fun o H1 => ti σ H1 fun i H2 => t o i v H2 fun H3 => Q σ H3
theorem pg_sub {o i : Expr} {to ti : TE} {t : TSet} (ho : PE X o to) (hi : PE X i ti) (hs : PSet X t)
    (ha : ∀ v, assign (.Subscript o i pos) X.env v = (do
      let ov ← holding [v] (eval o X.env)
      let iv ← holding [v, ov] (eval i X.env)
      standAt pos
      holding [v, ov, iv] (setItem ov iv v)
      release [v, ov, iv] []) := by intro _; rfl) : PG X (.Subscript o i pos) (gSub to ti t) := by
  intro pins s σ H v u Q I r h
  rw [ha]
  refine wpAny_bind (wpAny_holding (thn (ho pins s σ H _ I h) fun ov s1 ⟨x, H1, I1, r1, q1⟩ => ?_))
  refine wpAny_bind (wpAny_holding (thn (hi pins s1 σ H1 _ I1 q1) fun iv s2 ⟨y, H2, I2, r2, q2⟩ => ?_))
  refine wpAny_bind (wpAny_standAt (wpAny_bind (wpAny_holding (thn (hs pins s2 σ H2 x y v ov iv u _ I2 r1 r2 r q2) fun _ s3 ⟨H3, I3, q3⟩ => ?_))))
  exact wpAny_release ⟨σ, H3, I3, q3⟩
/-- target = value -/
def tAsg (te : TE) (g : TG) : TS := fun D σ H => te σ H fun x H1 => g x σ H1 D.nx
theorem ps_asg {tg e : Expr} {te : TE} {g : TG} (he : PE X e te) (hg : PG X tg g) (hs : swapsWithSole [tg] e pos.line X.env = pure false := by rfl) (hw : swappedStores [tg] e X.env = pure none := by rfl)
    (h1 : (assignEach [tg] X.env).map (·.2) = [assign tg X.env] := by rfl) : PS X (.Assign [tg] e pos) (tAsg te g) := by
  intro pins s σ H D I h
  refine wpAny_Assign_stores (thn (he pins s σ H _ I h) fun v s1 ⟨x, H1, I1, r1, q1⟩ => ?_) hs hw
  rw [h1]
  exact thn (hg pins s1 σ H1 x v _ I1 r1 q1) fun _ s2 q => q
/-- name = value -/
theorem ps_set {i : Nat} {x : Str} {e : Expr} {te : TE} {pos' : Pos} (hN : X.N.Nodup) (hi : X.N[i]? = some x) (hx : Loc X.env.scope x) (he : PE X e te) (hs : swapsWith e (some (.Name x pos')) pos.line X.env = pure false := by rfl) (hf : X.fn x = true ∨ X.env.scope.names.lookup x = some .local := by first | exact .inl rfl | exact .inr rfl | assumption) :
    PS X (.Assign [.Name x pos'] e pos) (tAsg te (gName i)) := by
  intro pins s σ H D I h
  refine wpAny_Assign_Name (thn (he pins s σ H _ I h) fun v s1 ⟨y, H1, I1, r1, q1⟩ => ?_) hs
  exact store_ok I1 hN hi hx r1 (fun s2 I2 => ⟨_, H1, I2, q1⟩) hf
/-- name op= e -/
def tAug (i : Nat) (te : TE) (ti : TIp) : TS := fun D σ H => ∃ x, σ[i]? = some (some x) ∧ te σ H fun y H1 => ti x y H1 fun z H2 => D.nx (σ.set i (some z)) H2
theorem ps_aug {i : Nat} {x : Str} {e : Expr} {te : TE} {op : Operator} {ti : TIp} {pos' : Pos} (hN : X.N.Nodup) (hi : X.N[i]? = some x) (hx : Loc X.env.scope x) (he : PE X e te) (ho : PIp X op ti) (hf : X.fn x = true ∨ X.env.scope.names.lookup x = some .local := by first | exact .inl rfl | exact .inr rfl | assumption) :
    PS X (.AugAssign (.Name x pos') op e pos) (tAug i te ti) := by
  intro pins s σ H D I h
  obtain ⟨v, e1, h⟩ := h
  obtain ⟨m, hn, hl⟩ := I.loc
  have vis : Vis X.env.scope x := by rcases hx with k | k; exact .inl k; exact .inr (.inl k)
  obtain ⟨u, r, l⟩ := hl i x v hi e1 vis
  refine wpAny_AugAssign_Name ?_
  have go : wpAny (model X.prog X.w) X.A (eval e X.env) (fun w s₂ => wpAny (model X.prog X.w) X.A (inplaceOp op u w) (fun r s₃ => wpAny (model X.prog X.w) X.A (storeName X.env x r) (fun _ => SP X pins D .next) X.xe s₃) X.xe s₂) X.xe s := by
    refine thn (he pins s σ H _ I h) fun w s1 ⟨y, H1, I1, r1, q1⟩ => ?_
    refine thn (ho pins s1 σ H1 v y u w _ I1 r r1 q1) fun z s2 ⟨zv, H2, I2, r2, q2⟩ => ?_
    exact store_ok I2 hN hi hx r2 (fun s3 I3 => ⟨_, H2, I3, q2⟩) hf
  rcases l with ⟨hk, hm⟩ | ⟨hk, c, hc, hcell⟩
  · exact wpAny_loadName_local I.ok.kind hk hn hm go
  · rcases hk with hk | hk
    · exact wpAny_loadName_cell I.ok.kind hk hc hcell go
    · rcases hx with k | k
      · have : X.env.scope.names.lookup x = some .free := hk
        rw [k] at this; cases this
      · have : X.env.scope.names.lookup x = some .free := hk
        rw [k] at this; cases this
/-- o[i] op= e -/
def tAugS (to ti te : TE) (tget : V → V → Hp → VK → Prop) (tip : TIp) (tset : TSet) : TS := fun D σ H => to σ H fun o H1 => ti σ H1 fun i H2 => tget o i H2 fun x H3 => te σ H3 fun y H4 => tip x y H4 fun z H5 => tset o i z H5 fun H6 => D.nx σ H6
/-- o[i], by values -/
def PGet (X : Cx) (t : V → V → Hp → VK → Prop) : Prop :=
  ∀ (pins : List (Addr × Obj)) (s : Shared) (σ : St) (H : Hp) (o i : V) (ov iv : Value) (Q : VK), Inv X pins σ H s → RelV o ov → RelV i iv → t o i H Q →
    wpAny (model X.prog X.w) X.A (getItem ov iv) (EP X pins σ Q) X.xe s
theorem ps_augS {o i e : Expr} {to ti te : TE} {tget : V → V → Hp → VK → Prop} {tip : TIp} {tset : TSet} {op : Operator} {tpos : Pos} (ho : PE X o to) (hi : PE X i ti) (hg : PGet X tget) (he : PE X e te) (hp : PIp X op tip) (hs : PSet X tset)
    (ha : ∀ ov iv new, augStore i ov iv new = (do holding [new, ov, iv] (setItem ov iv new); release [new, ov, iv] []; pure .next) := by intros; rfl) : PS X (.AugAssign (.Subscript o i tpos) op e pos) (tAugS to ti te tget tip tset) := by
  intro pins s σ H D I h
  refine wpAny_AugAssign_SubscriptAny (thn (ho pins s σ H _ I h) fun ov s1 ⟨x1, H1, I1, r1, q1⟩ => ?_) ha
  refine thn (hi pins s1 σ H1 _ I1 q1) fun iv s2 ⟨x2, H2, I2, r2, q2⟩ => ?_
  refine thn (hg pins s2 σ H2 x1 x2 ov iv _ I2 r1 r2 q2) fun old s3 ⟨x3, H3, I3, r3, q3⟩ => ?_
  refine thn (he pins s3 σ H3 _ I3 q3) fun v s4 ⟨x4, H4, I4, r4, q4⟩ => ?_
  refine thn (hp pins s4 σ H4 x3 x4 old v _ I4 r3 r4 q4) fun new s5 ⟨x5, H5, I5, r5, q5⟩ => ?_
  exact thn (hs pins s5 σ H5 x1 x2 x5 ov iv new _ I5 r1 r2 r5 q5) fun _ s6 ⟨H6, I6, q6⟩ => ⟨σ, H6, I6, q6⟩
/-- ints -/
def ipI (f : Int → Int → Int) : TIp := fun x y H Q => ∃ i j, x = .int i ∧ y = .int j ∧ Q (.int (f i j)) H
end

/-! ### while -/
section
variable {X : Cx} {pos : Pos}
/-- the invariant W with its measure -/
def tWhile (c : TT) (tb : TS) : TS := fun D σ H => ∃ W : Nat → St → Hp → Prop, (∃ m, W m σ H) ∧ ∀ m σ H, W m σ H →
  c σ H fun b H1 => if b = true then ∃ N : St → Hp → Prop, (∀ σ' H', N σ' H' → ∃ m', m' < m ∧ W m' σ' H') ∧ tb { D with nx := N, ct := N, bk := D.nx } σ H1 else D.nx σ H1
theorem ps_while {c : Expr} {body : List Stmt} {tc : TT} {tb : TS} (hp : PassesOwn (model X.prog X.w) X.A X.env X.xe) (hc : PT X c tc) (hb : PSs X body tb) : PS X (.While c body [] pos) (tWhile tc tb) := by
  intro pins s σ H D I h
  obtain ⟨W, ⟨m0, w0⟩, turn⟩ := h
  refine wpAny_While (codeAny_whileLoop (fun n s' => ∃ σ' H', Inv X pins σ' H' s' ∧ W n σ' H') ?_ m0 ⟨σ, H, I, w0⟩)
  rintro n s1 ⟨σ1, H1, I1, w1⟩
  refine wpAny_passesOwn hp (thn (hc pins s1 σ1 H1 _ I1 (turn n σ1 H1 w1)) fun b s2 ⟨H2, I2, q2⟩ => ?_)
  cases b with
  | true =>
    obtain ⟨N, hN, q2⟩ := q2
    rw [if_pos rfl]
    refine wpAny_passesOwn hp (thn (hb pins s2 σ1 H2 _ I2 q2) fun f s3 q3 => ?_)
    cases f with
    | next =>
      obtain ⟨σ3, H3, I3, n3⟩ := q3
      obtain ⟨m', hm, w3⟩ := hN σ3 H3 n3
      exact ⟨m', hm, σ3, H3, I3, w3⟩
    | cont =>
      obtain ⟨σ3, H3, I3, n3⟩ := q3
      obtain ⟨m', hm, w3⟩ := hN σ3 H3 n3
      exact ⟨m', hm, σ3, H3, I3, w3⟩
    | brk => exact q3
    | ret v => exact q3
  | false =>
    rw [if_neg Bool.false_ne_true]
    exact wpAny_execs_nil ⟨σ1, H2, I2, q2⟩
end

/-! ### what a loop or a comprehension walks -/
/-- at turn i: it yields x (the heap may grow), or it stops -/
structure It where
  go : Nat → Hp → Prop
  yld : Nat → Hp → V → Hp → Prop
  stop : Nat → Hp → Prop
/-- the iterator's own objects may turn: they are not the frame's, not pinned, younger than the entry (or a comprehension's own) -/
def FpOk (X : Cx) (pins : List (Addr × Obj)) (H : Hp) (b : Addr) : Prop :=
  H b = none ∧ b ≠ X.env.locals ∧ b ∉ X.fs ∧ (b ∈ X.ex ∨ X.s₀.heap.objs.size ≤ b) ∧ (∀ x c, X.env.cells.lookup x = some c → c ≠ b) ∧ ∀ p ∈ X.pn ++ pins, p.1 ≠ b
theorem Inv.fpOk {X : Cx} {pins : List (Addr × Obj)} {σ : St} {H H' : Hp} {s : Shared} {b : Addr} (I : Inv X pins σ H s) (hb : s.heap.objs.size ≤ b) (hn : H' b = none) : FpOk X pins H' b := by
  refine ⟨hn, Nat.ne_of_gt (Nat.lt_of_lt_of_le I.lt hb), I.nofs hb, .inr (Nat.le_trans I.sz hb), fun x c e z => ?_, fun p hp z => ?_⟩
  · obtain ⟨v, q⟩ := I.cell x c e
    exact absurd (Nat.lt_of_lt_of_le q.lt (by rw [z]; exact hb)) (Nat.lt_irrefl _)
  · exact absurd (Nat.lt_of_lt_of_le (Heap.lt_size (I.pin p hp).1) (by rw [z]; exact hb)) (Nat.lt_irrefl _)
structure Turn (P : Program) (w : World) (K : PySem.W.Frag) (tg : Expr) (J : It) (fp : List Addr) (it : Addr) (tn : Nat → Heap → Prop) : Prop where
  mem : it ∈ fp
  obj : ∀ i h, tn i h → ∀ b ∈ fp, ∃ o, h.get? b = some o ∧ ∀ v, o.data ≠ .cell v
  keep : ∀ i h h', tn i h → (∀ b ∈ fp, ∀ o, h.get? b = some o → h'.get? b = some o) → tn i h'
  item : ∀ (X : Cx), X.prog = P → X.w = w → X.K = K → X.calm = true → ∀ (i : Nat) (pins : List (Addr × Obj)) (s : Shared) (σ : St) (H : Hp) (E : Value → Shared → Prop), Inv X pins σ H s → (∀ b ∈ fp, FpOk X pins H b) → tn i s.heap → J.go i H →
    wpAny (model P w) X.A (pyNext (.ref it)) (fun r s1 => ∃ u, r = some u ∧
      wpAny (model P w) X.A (letOwnedTupleGo tg (.ref it) u) (fun _ s2 => ∃ x H', Inv X pins σ H' s2 ∧ RelV x u ∧ J.yld i H x H' ∧ tn (i + 1) s2.heap ∧ ∀ b ∈ fp, H' b = none) E s1) E s
  done : ∀ (X : Cx), X.prog = P → X.w = w → X.K = K → X.calm = true → ∀ (i : Nat) (pins : List (Addr × Obj)) (s : Shared) (σ : St) (H : Hp) (E : Value → Shared → Prop), Inv X pins σ H s → (∀ b ∈ fp, FpOk X pins H b) → tn i s.heap → J.stop i H →
    wpAny (model P w) X.A (pyNext (.ref it)) (fun r s1 => r = none ∧ Inv X pins σ H s1) E s
  self : ∀ (A : Around) (i : Nat) (s : Shared) (Q : Value → Shared → Prop) (E : Value → Shared → Prop), tn i s.heap → Q (.ref it) s → wpAny (model P w) A (pyIter (.ref it)) Q E s
abbrev TI := St → Hp → (It → Hp → Prop) → Prop
/-- an iterator has come -/
def PIE (X : Cx) (pins : List (Addr × Obj)) (σ : St) (tg : Expr) (R : It → Hp → Prop) (itv : Value) (s2 : Shared) : Prop :=
  ∃ (it : Addr) (fp : List Addr) (tn : Nat → Heap → Prop) (J : It) (H' : Hp), itv = .ref it ∧ Inv X pins σ H' s2 ∧ Turn X.prog X.w X.K tg J fp it tn ∧ tn 0 s2.heap ∧ (∀ b ∈ fp, FpOk X pins H' b) ∧ R J H'
def PI (X : Cx) (tg iter : Expr) (wi : TI) : Prop :=
  ∀ (pins : List (Addr × Obj)) (s : Shared) (σ : St) (H : Hp) (R : It → Hp → Prop), Inv X pins σ H s → wi σ H R →
    wpAny (model X.prog X.w) X.A (eval iter X.env) (fun v s1 => wpAny (model X.prog X.w) X.A (pyIter v) (PIE X pins σ tg R) X.xe s1) X.xe s

/-- the step ahead of the store is nothing for an iterator that keeps no tuple -/
theorem go_of {M : Model} {A : Around} {E : Value → Shared → Prop} {s : Shared} {tg : Expr} {it : Addr} {u : Value} {o : Obj} {n : String} {vs : Array Value} {Q : Unit → Shared → Prop} (ho : s.heap.get? it = some o) (hc : o.cls = .type n) (hd : o.data = .fields vs)
    (hn : ["enumerate", "zip", "dict_itemiterator", "dict_reverseitemiterator", "odict_iterator", "itertools.zip_longest", "itertools.pairwise"].contains n = false) (hQ : Q () s) : wpAny M A (letOwnedTupleGo tg (.ref it) u) Q E s := by
  unfold letOwnedTupleGo
  cases tg <;> first
    | exact wpAny_pure hQ
    | (cases u <;> first
        | exact wpAny_pure hQ
        | (refine wpAny_bind (wpAny_load ho ?_)
           rw [hc, hd]
           show wpAny M A (if (["enumerate", "zip", "dict_itemiterator", "dict_reverseitemiterator", "odict_iterator", "itertools.zip_longest", "itertools.pairwise"].contains n && vs[0]? == some (rawInt _)) = true then _ else _) Q E s
           rw [if_neg (by intro h; rw [hn, Bool.false_and] at h; cases h)]
           exact wpAny_pure hQ))

/-- the list at a, as it stands at each turn (a loop may append to it) -/
def Itl (K : PySem.W.Frag) (a : Addr) : It :=
  ⟨fun i H => ∃ xs x, SqL K H a xs ∧ xs[i]? = some x, fun i H x H' => H' = H ∧ ∀ xs, SqL K H a xs → xs[i]? = some x, fun i H => ∃ xs, SqL K H a xs ∧ xs.length ≤ i⟩
/-- lo, lo + 1, .. (n of them) -/
def Itr (lo : Int) (n : Nat) : It := ⟨fun i _ => i < n, fun i H x H' => H' = H ∧ x = .int (lo + i), fun i _ => n ≤ i⟩
theorem turn_list {P : Program} {w : World} {K : PySem.W.Frag} {tg : Expr} (a it : Addr) : Turn P w K tg (Itl K a) [it] it (fun i h => h.IsListIter it a i) where
  mem := by simp
  obj := fun i h st b hb => by
    have e : b = it := by simpa using hb
    subst e
    obtain ⟨o, e, c, d⟩ := st
    exact ⟨o, e, fun v z => by rw [d] at z; cases z⟩
  keep := fun i h h' st k => st.at fun o e => k it (by simp) o e
  item := by
    intro X hP hw hK hc i pins s σ H E I hf st hg
    subst hP hw hK
    obtain ⟨xs, x, hq, hx⟩ := hg
    obtain ⟨its, rv, p, hz⟩ := I.list hq
    obtain ⟨u, hu, ru⟩ := rv.get hx
    obtain ⟨f0, f1, f2, f3, f4, f5⟩ := hf it (by simp)
    refine wpAny_pyNext_list_item st p.isList (x := u) (by simpa using hu) fun h' st' sb => ?_
    have I1 : Inv X pins σ H { s with heap := h' } := I.turned (t' := s.toks) (fun b o hb e => (sb.2 b hb).trans e) f0 f1 f3 f4 f5
    obtain ⟨o, e, c, d⟩ := id st'
    exact ⟨u, rfl, go_of (s := { s with heap := h' }) e c d (by decide) ⟨x, H, I1, ru, ⟨rfl, fun ys hy => by rw [I.list_inj hy hq]; exact hx⟩, st', fun b hb => (hf b hb).1⟩⟩
  done := by
    intro X hP hw hK hc i pins s σ H E I hf st hg
    subst hP hw hK
    obtain ⟨xs, hq, hx⟩ := hg
    obtain ⟨its, rv, p, hz⟩ := I.list hq
    obtain ⟨f0, f1, f2, f3, f4, f5⟩ := hf it (by simp)
    have hl := rv.length
    exact wpAny_pyNext_list_end (I.ok.hd hc) st p.isList (by simp; omega) fun h' eb => ⟨rfl, I.turned (t' := s.toks) (fun b o hb e => eb b o hb e) f0 f1 f3 f4 f5⟩
  self := fun _ _ _ _ _ st h => wpAny_pyIter_listiter st h
theorem turn_range {P : Program} {w : World} {K : PySem.W.Frag} {tg : Expr} (it : Addr) (lo : Int) (n : Nat) : Turn P w K tg (Itr lo n) [it] it (fun i h => IsRangeIter h it (lo + (i : Nat) * 1) ((n : Int) - (i : Nat)) 1) where
  mem := by simp
  obj := fun i h st b hb => by
    have e : b = it := by simpa using hb
    subst e
    exact ⟨_, st, fun v z => by
      have z' : Data.fields _ = Data.cell v := z
      cases z'⟩
  keep := fun i h h' st k => k it (by simp) _ st
  item := by
    intro X hP hw hK hc i pins s σ H E I hf st hg
    subst hP hw hK
    obtain ⟨f0, f1, f2, f3, f4, f5⟩ := hf it (by simp)
    have W := Walks.range (prog := X.prog) (w := X.w) (I.ok.hd hc) it lo 1 n
    refine W.item i s _ _ hg st fun v h' tk hv st' kk => ?_
    obtain ⟨t, rfl⟩ := hv
    have I1 : Inv X pins σ H { s with heap := h', toks := tk } := I.turned (fun b o hb e => kk b o (by simpa using hb) e) f0 f1 f3 f4 f5
    refine ⟨_, rfl, go_of (s := { s with heap := h', toks := tk }) (n := "range_iterator") st' rfl rfl (by decide) ⟨.int (lo + i), H, I1, ⟨t, ?_⟩, ⟨rfl, rfl⟩, st', fun b hb => (hf b hb).1⟩⟩
    rw [Int.mul_one]
  done := by
    intro X hP hw hK hc i pins s σ H E I hf st hg
    subst hP hw hK
    obtain ⟨f0, f1, f2, f3, f4, f5⟩ := hf it (by simp)
    exact wpAny_pyNext_range_end (I.ok.hd hc) st (by have : n ≤ i := hg; omega) fun h' eb => ⟨rfl, I.turned (t' := s.toks) (fun b o hb e => eb b o hb e) f0 f1 f3 f4 f5⟩
  self := fun _ _ _ _ _ st h => wpAny_pyIter_rangeiter st h
end L2

namespace L2
open PySem PySem.Spec PyProof.Rows
section
variable {X : Cx} {tg : Expr}
def iList (K : PySem.W.Frag) (tl : TE) : TI := fun σ H R => tl σ H fun x H1 => ∃ a, x = .ref a ∧ (∃ xs, SqL K H1 a xs) ∧ R (Itl K a) H1
theorem pi_list {l : Expr} {tl : TE} (hl : PE X l tl) : PI X tg l (iList X.K tl) := by
  intro pins s σ H R I h
  refine thn (hl pins s σ H _ I h) fun v s1 ⟨x, H1, I1, r1, q1⟩ => ?_
  obtain ⟨a, e, ⟨xs, hq⟩, q⟩ := q1
  subst e
  cases r1
  obtain ⟨its, rv, p, hz⟩ := I1.list hq
  refine wpAny_pyIter_list p.isList ?_
  refine ⟨s1.heap.objs.size, [s1.heap.objs.size], _, _, H1, rfl, I1.kept (t' := s1.toks) fun b o e => Heap.get?_push_of_some _ e, turn_list a _, ⟨_, Heap.get?_push_size _ rfl, rfl, rfl⟩, fun b hb => ?_, q⟩
  have e : b = s1.heap.objs.size := by simpa using hb
  subst e
  exact I1.fpOk (Nat.le_refl _) (I1.hok.fresh (Nat.le_refl _))
/-- a range object just made, walked -/
theorem range_it {pins : List (Addr × Obj)} {σ : St} {H : Hp} {s : Shared} {R : It → Hp → Prop} {E : Value → Shared → Prop} {lo hi : Int} {t u v : Tok} {tk : Nat} (I : Inv X pins σ H s) (h1 : -(2 ^ 62) ≤ lo) (h2 : lo < 2 ^ 62) (h3 : -(2 ^ 62) ≤ hi) (h4 : hi < 2 ^ 62)
    (q : R (Itr lo (hi - lo).toNat) H) : wpAny (model X.prog X.w) X.A (pyIter (.ref s.heap.objs.size)) (PIE X pins σ tg R) E { s with heap := s.heap.push { cls := .type "range", data := .fields #[.int lo t, .int hi u, .int 1 v] }, toks := tk } := by
  refine wpAny_pyIter_range (IsRange.new ..) (small_one h1 h2 h3 h4) ?_
  have I1 : Inv X pins σ H { s with heap := s.heap.push { cls := .type "range", data := .fields #[.int lo t, .int hi u, .int 1 v] }, toks := tk } := I.kept fun b o e => Heap.get?_push_of_some _ e
  refine ⟨(s.heap.push { cls := .type "range", data := .fields #[.int lo t, .int hi u, .int 1 v] }).objs.size, [(s.heap.push { cls := .type "range", data := .fields #[.int lo t, .int hi u, .int 1 v] }).objs.size], _, _, H, rfl,
    I1.kept (t' := tk) fun b o e => Heap.get?_push_of_some _ e, turn_range _ lo (hi - lo).toNat, ?_, fun b hb => ?_, q⟩
  · have e1 : lo + ((0 : Nat) : Int) * 1 = lo := by simp
    have e2 : (((hi - lo).toNat : Nat) : Int) - ((0 : Nat) : Int) = Builtin.Range.rangeSize lo hi 1 := by rw [rangeSize_one]; split <;> omega
    show IsRangeIter _ _ (lo + ((0 : Nat) : Int) * 1) ((((hi - lo).toNat : Nat) : Int) - ((0 : Nat) : Int)) 1
    rw [e1, e2]
    exact Heap.get?_push_size _ rfl
  · have e : b = (s.heap.push { cls := .type "range", data := .fields #[.int lo t, .int hi u, .int 1 v] }).objs.size := by simpa using hb
    subst e
    exact I1.fpOk (Nat.le_refl _) (I1.hok.fresh (Nat.le_refl _))
def iRng1 (ta : TA) : TI := fun σ H R => ta σ H fun vs H1 => ∃ j : Int, vs = [.int j] ∧ -(2 ^ 62) ≤ j ∧ j < 2 ^ 62 ∧ R (Itr 0 j.toNat) H1
theorem pi_range1 {a : Expr} {ta : TA} {p pos : Pos} (hg : Gl X "range") (hm : X.mg "range" = none) (ha : PA X [a] ta) (hs : starEach [a] X.env = [(false, eval a X.env)] := by rfl) : PI X tg (.Call (.Name "range" p) [a] [] pos) (iRng1 ta) := by
  intro pins s σ H R I h
  refine Call_ (ld_blt I hg hm boot_range (PyProof.Rows.callWith_type1 (thn (ha pos pins s σ H _ I h) fun us s1 ⟨vs, H1, I1, r1, q1⟩ => ?_) hs rfl))
  obtain ⟨j, e, q1, q2, q⟩ := q1
  subst e
  cases r1 with
  | cons r rr =>
    cases rr
    obtain ⟨t, rfl⟩ := r
    exact call_range_1 (range_it I1 (by omega) (by omega) q1 q2 (by simpa using q))
/-! ### for -/
/-- W: the invariant by the turn and a measure; N: what the body is to reach -/
def tFor (wi : TI) (g : TG) (tb : TS) : TS := fun D σ H => wi σ H fun J H1 => ∃ W : Nat → Nat → St → Hp → Prop, (∃ m, W 0 m σ H1) ∧ ∀ i m σ H, W i m σ H →
  (J.stop i H ∧ D.nx σ H) ∨ (J.go i H ∧ ∃ N : St → Hp → Prop, (∀ σ' H', N σ' H' → ∃ m', m' < m ∧ W (i + 1) m' σ' H') ∧ ∀ x H', J.yld i H x H' → g x σ H' fun σ2 H2 => tb { D with nx := N, ct := N, bk := D.nx } σ2 H2)
/-- the records at fp as they stand -/
def pinsAt (fp : List Addr) (h : Heap) : List (Addr × Obj) := fp.filterMap fun b => (h.get? b).map fun o => (b, o)
theorem mem_pinsAt {fp : List Addr} {h : Heap} {b : Addr} {o : Obj} (hb : b ∈ fp) (e : h.get? b = some o) : (b, o) ∈ pinsAt fp h := List.mem_filterMap.mpr ⟨b, hb, by rw [e]; rfl⟩
theorem of_pinsAt {fp : List Addr} {h : Heap} {p : Addr × Obj} (hp : p ∈ pinsAt fp h) : p.1 ∈ fp ∧ h.get? p.1 = some p.2 := by
  obtain ⟨b, hb, e⟩ := List.mem_filterMap.mp hp
  cases q : h.get? b with
  | none => rw [q] at e; cases e
  | some o =>
    rw [q] at e
    have e' : (b, o) = p := Option.some.inj e
    subst e'
    exact ⟨hb, q⟩
theorem Inv.pinned {pins : List (Addr × Obj)} {σ : St} {H : Hp} {s : Shared} {fp : List Addr} (I : Inv X pins σ H s) (hf : ∀ b ∈ fp, FpOk X pins H b) (ho : ∀ b ∈ fp, ∃ o, s.heap.get? b = some o ∧ ∀ v, o.data ≠ .cell v) : Inv X (pins ++ pinsAt fp s.heap) σ H s :=
  I.pins_of fun p hp => (List.mem_append.mp hp).elim (fun z => I.pin p (List.mem_append_right _ z)) fun z => by
    obtain ⟨hb, e⟩ := of_pinsAt z
    obtain ⟨f0, f1, f2, _⟩ := hf p.1 hb
    obtain ⟨o, e', d⟩ := ho p.1 hb
    rw [e] at e'; cases e'
    exact ⟨e, f0, f1, f2, d⟩
theorem Inv.unpinned {pins pl : List (Addr × Obj)} {σ : St} {H : Hp} {s : Shared} (I : Inv X (pins ++ pl) σ H s) : Inv X pins σ H s := I.pins_of fun p hp => I.pin p (List.mem_append_right _ (List.mem_append_left _ hp))
theorem ps_for {iter : Expr} {body : List Stmt} {wi : TI} {g : TG} {tb : TS} {pos : Pos} (hp : PassesOwn (model X.prog X.w) X.A X.env X.xe) (hc : X.calm = true) (hi : PI X tg iter wi) (hg : PG X tg g) (hb : PSs X body tb)
    (hs : ∀ x, foldedSetIterable iter X.env x = pure x := by intro _; rfl) : PS X (.For tg iter body [] pos) (tFor wi g tb) := by
  intro pins s σ H D I h
  refine wpAny_For (thn (hi pins s σ H _ I h) fun v s1 h1 => thn h1 fun itv s2 h2 => ?_) hs
  obtain ⟨it, fp, tn, J, H2, e, I2, T, st2, f2, W, ⟨m0, w0⟩, turn⟩ := h2
  subst e
  -- what stays true of the iterator's objects through the loop
  have stat : ∀ {H' : Hp}, (∀ b ∈ fp, H' b = none) → ∀ b ∈ fp, FpOk X pins H' b := fun hn b hb => ⟨hn b hb, (f2 b hb).2⟩
  refine codeAny_forLoop_any (fun n s' => ∃ i σ' H', Inv X pins σ' H' s' ∧ tn i s'.heap ∧ (∀ b ∈ fp, H' b = none) ∧ W i n σ' H') ?_ m0 ⟨0, σ, H2, I2, st2, fun b hb => (f2 b hb).1, w0⟩
  rintro n s3 ⟨i, σ3, H3, I3, st3, fr3, w3⟩
  rcases turn i n σ3 H3 w3 with ⟨stop, qn⟩ | ⟨go, N, hN, step⟩
  · refine wpAny_passesOwn hp (thn (T.done X rfl rfl rfl hc i pins s3 σ3 H3 X.xe I3 (stat fr3) st3 stop) fun r s4 ⟨hr, I4⟩ => ?_)
    subst hr
    exact wpAny_execs_nil ⟨σ3, H3, I4, qn⟩
  · refine wpAny_passesOwn hp (thn (T.item X rfl rfl rfl hc i pins s3 σ3 H3 X.xe I3 (stat fr3) st3 go) fun r s4 ⟨u, hr, h4⟩ => ?_)
    subst hr
    refine wpAny_passesOwn hp (thn h4 fun _ s5 ⟨x, H5, I5, r5, y5, st5, fr5⟩ => ?_)
    have I5' := I5.pinned (stat fr5) (T.obj _ _ st5)
    refine wpAny_passesOwn hp (thn (hg _ s5 σ3 H5 x u _ I5' r5 (step x H5 y5)) fun _ s6 ⟨σ6, H6, I6, q6⟩ => ?_)
    refine wpAny_passesOwn hp (thn (hb _ s6 σ6 H6 _ I6 q6) fun f s7 q7 => ?_)
    have again : ∀ {σ7 : St} {H7 : Hp}, Inv X (pins ++ pinsAt fp s5.heap) σ7 H7 s7 → N σ7 H7 → ∃ m, m < n ∧ ∃ i σ' H', Inv X pins σ' H' s7 ∧ tn i s7.heap ∧ (∀ b ∈ fp, H' b = none) ∧ W i m σ' H' := fun {σ7 H7} I7 n7 => by
      obtain ⟨m', hm, w7⟩ := hN σ7 H7 n7
      refine ⟨m', hm, i + 1, σ7, H7, I7.unpinned, T.keep _ _ _ st5 fun b hb o e => (I7.pin (b, o) (List.mem_append_right _ (List.mem_append_right _ (mem_pinsAt hb e)))).1, fun b hb => ?_, w7⟩
      obtain ⟨o, e, d⟩ := T.obj _ _ st5 b hb
      exact (I7.pin (b, o) (List.mem_append_right _ (List.mem_append_right _ (mem_pinsAt hb e)))).2.1
    cases f with
    | next => obtain ⟨σ7, H7, I7, n7⟩ := q7; exact again I7 n7
    | cont => obtain ⟨σ7, H7, I7, n7⟩ := q7; exact again I7 n7
    | brk => obtain ⟨σ7, H7, I7, q7⟩ := q7; exact ⟨σ7, H7, I7.unpinned, q7⟩
    | ret v => obtain ⟨x7, σ7, H7, I7, r7, q7⟩ := q7; exact ⟨x7, σ7, H7, I7.unpinned, r7, q7⟩
end

/-! ### the forms one uses -/
/-- over a list that the body leaves as it is -/
theorem for_list {K : PySem.W.Frag} {a : Addr} {xs : List V} {g : TG} {tb : TS} {D : Ends} {σ : St} {H : Hp} (Pv : Nat → St → Hp → Prop) (h0 : Pv 0 σ H) (hl : ∀ i σ H, i ≤ xs.length → Pv i σ H → SqL K H a xs)
    (hs : ∀ i x σ H, xs[i]? = some x → Pv i σ H → g x σ H fun σ2 H2 => tb { D with nx := Pv (i + 1), ct := Pv (i + 1), bk := D.nx } σ2 H2) (hd : ∀ σ H, Pv xs.length σ H → D.nx σ H) :
    ∃ W : Nat → Nat → St → Hp → Prop, (∃ m, W 0 m σ H) ∧ ∀ i m σ H, W i m σ H →
      ((Itl K a).stop i H ∧ D.nx σ H) ∨ ((Itl K a).go i H ∧ ∃ N : St → Hp → Prop, (∀ σ' H', N σ' H' → ∃ m', m' < m ∧ W (i + 1) m' σ' H') ∧ ∀ x H', (Itl K a).yld i H x H' → g x σ H' fun σ2 H2 => tb { D with nx := N, ct := N, bk := D.nx } σ2 H2) := by
  refine ⟨fun i m σ H => m = xs.length - i ∧ i ≤ xs.length ∧ Pv i σ H, ⟨xs.length, by simp, Nat.zero_le _, h0⟩, ?_⟩
  rintro i m σ H ⟨rfl, hi, p⟩
  have q := hl i σ H hi p
  by_cases hlt : i < xs.length
  · refine .inr ⟨⟨xs, xs[i], q, by simp [hlt]⟩, Pv (i + 1), fun σ' H' p' => ⟨xs.length - (i + 1), by omega, rfl, hlt, p'⟩, fun x H' y => ?_⟩
    obtain ⟨e, y⟩ := y
    subst e
    exact hs i x σ _ (y xs q) p
  · have e : i = xs.length := by omega
    subst e
    exact .inl ⟨⟨xs, q, Nat.le_refl _⟩, hd σ H p⟩
theorem for_range {lo : Int} {n : Nat} {g : TG} {tb : TS} {D : Ends} {σ : St} {H : Hp} (Pv : Nat → St → Hp → Prop) (h0 : Pv 0 σ H)
    (hs : ∀ i σ H, i < n → Pv i σ H → g (.int (lo + i)) σ H fun σ2 H2 => tb { D with nx := Pv (i + 1), ct := Pv (i + 1), bk := D.nx } σ2 H2) (hd : ∀ σ H, Pv n σ H → D.nx σ H) :
    ∃ W : Nat → Nat → St → Hp → Prop, (∃ m, W 0 m σ H) ∧ ∀ i m σ H, W i m σ H →
      ((Itr lo n).stop i H ∧ D.nx σ H) ∨ ((Itr lo n).go i H ∧ ∃ N : St → Hp → Prop, (∀ σ' H', N σ' H' → ∃ m', m' < m ∧ W (i + 1) m' σ' H') ∧ ∀ x H', (Itr lo n).yld i H x H' → g x σ H' fun σ2 H2 => tb { D with nx := N, ct := N, bk := D.nx } σ2 H2) := by
  refine ⟨fun i m σ H => m = n - i ∧ i ≤ n ∧ Pv i σ H, ⟨n, by simp, Nat.zero_le _, h0⟩, ?_⟩
  rintro i m σ H ⟨rfl, hi, p⟩
  by_cases hlt : i < n
  · refine .inr ⟨hlt, Pv (i + 1), fun σ' H' p' => ⟨n - (i + 1), by omega, rfl, hlt, p'⟩, fun x H' y => ?_⟩
    obtain ⟨e, y⟩ := y
    subst e y
    exact hs i σ _ hlt p
  · have e : i = n := by omega
    subst e
    exact .inl ⟨Nat.le_refl _, hd σ H p⟩
/-- while, by a word and a measure of the state -/
theorem while_by {c : TT} {tb : TS} {D : Ends} {σ : St} {H : Hp} (Pv : St → Hp → Prop) (μ : St → Hp → Nat) (h0 : Pv σ H)
    (hs : ∀ σ H, Pv σ H → c σ H fun b H1 => if b = true then tb { D with nx := fun σ' H' => Pv σ' H' ∧ μ σ' H' < μ σ H, ct := fun σ' H' => Pv σ' H' ∧ μ σ' H' < μ σ H, bk := D.nx } σ H1 else D.nx σ H1)
    (mono : ∀ σ H Q Q', (∀ b H1, Q b H1 → Q' b H1) → c σ H Q → c σ H Q') : tWhile c tb D σ H := by
  refine ⟨fun m σ H => m = μ σ H ∧ Pv σ H, ⟨_, rfl, h0⟩, ?_⟩
  rintro m σ H ⟨rfl, p⟩
  refine mono σ H _ _ (fun b H1 q => ?_) (hs σ H p)
  cases b with
  | true => exact ⟨_, fun σ' H' ⟨p', l⟩ => ⟨_, l, rfl, p'⟩, q⟩
  | false => exact q
end L2

namespace L2
open PySem PySem.Spec PyProof.Rows

abbrev R2 := V → V → Hp → VK → Prop
/-- a two-place operation on values: f is binaryOp op, inplaceOp op or compareOp op -/
def OpR (X : Cx) (f : Value → Value → Sem Value) (r : R2) : Prop :=
  ∀ (pins : List (Addr × Obj)) (s : Shared) (σ : St) (H : Hp) (x y : V) (v u : Value) (Q : VK), Inv X pins σ H s → RelV x v → RelV y u → r x y H Q →
    wpAny (model X.prog X.w) X.A (f v u) (EP X pins σ Q) X.xe s
/-- a one-place operation -/
def UnR (X : Cx) (f : Value → Sem Value) (r : V → Hp → VK → Prop) : Prop :=
  ∀ (pins : List (Addr × Obj)) (s : Shared) (σ : St) (H : Hp) (x : V) (v : Value) (Q : VK), Inv X pins σ H s → RelV x v → r x H Q →
    wpAny (model X.prog X.w) X.A (f v) (EP X pins σ Q) X.xe s
/-- a call of a value that is known (a builtin, a type) with values -/
def CallR (X : Cx) (f : Value) (r : List V → Hp → VK → Prop) : Prop :=
  ∀ (pins : List (Addr × Obj)) (s : Shared) (σ : St) (H : Hp) (xs : List V) (us : List Value) (Q : VK), Inv X pins σ H s → Vals xs us → r xs H Q →
    wpAny (model X.prog X.w) X.A (call f us) (EP X pins σ Q) X.xe s
/-- a value's truth -/
def TruR (X : Cx) (r : V → Hp → (Bool → Hp → Prop) → Prop) : Prop :=
  ∀ (pins : List (Addr × Obj)) (s : Shared) (σ : St) (H : Hp) (x : V) (v : Value) (Q : Bool → Hp → Prop), Inv X pins σ H s → RelV x v → r x H Q →
    wpAny (model X.prog X.w) X.A (truthy v) (TP X pins σ Q) X.xe s

def tOp (r : R2) (ta tb : TE) : TE := fun σ H Q => ta σ H fun x H1 => tb σ H1 fun y H2 => r x y H2 Q
def tUn (r : V → Hp → VK → Prop) (ta : TE) : TE := fun σ H Q => ta σ H fun x H1 => r x H1 Q
/-- ints in, under C, and a value out -/
def rI (C : Int → Int → Prop) (g : Int → Int → V) : R2 := fun x y H Q => ∃ i j, x = .int i ∧ y = .int j ∧ C i j ∧ Q (g i j) H
def rI0 (g : Int → Int → V) : R2 := fun x y H Q => ∃ i j, x = .int i ∧ y = .int j ∧ Q (g i j) H
def rU (g : Int → V) : V → Hp → VK → Prop := fun x H Q => ∃ i, x = .int i ∧ Q (g i) H

section
variable {X : Cx} {a b c : Expr} {ta tb tc : TE} {pos : Pos}

theorem binT (ha : PE X a ta) (hb : PE X b tb) {pins : List (Addr × Obj)} {s : Shared} {σ : St} {H : Hp} {R : V → V → Hp → Prop} (I : Inv X pins σ H s)
    (h : ta σ H fun x H1 => tb σ H1 fun y H2 => R x y H2) {Q : Value → Shared → Prop} {f : Value → Value → Sem Value}
    (hf : ∀ v u s2 x y H2, Inv X pins σ H2 s2 → RelV x v → RelV y u → R x y H2 → wpAny (model X.prog X.w) X.A (f v u) Q X.xe s2) :
    wpAny (model X.prog X.w) X.A (eval a X.env) (fun v s₁ => wpAny (model X.prog X.w) X.A (eval b X.env) (fun u s₂ => wpAny (model X.prog X.w) X.A (f v u) Q X.xe s₂) X.xe s₁) X.xe s := by
  refine thn (ha pins s σ H _ I h) fun v s1 ⟨x, H1, I1, r1, q1⟩ => ?_
  refine thn (hb pins s1 σ H1 _ I1 q1) fun u s2 ⟨y, H2, I2, r2, q2⟩ => ?_
  exact hf v u s2 x y H2 I2 r1 r2 q2

theorem pe_op {op : Operator} {r : R2} (ho : OpR X (binaryOp op) r) (ha : PE X a ta) (hb : PE X b tb) : PE X (.BinOp a op b pos) (tOp r ta tb) := by
  intro pins s σ H Q I h
  exact wpAny_BinOp (binT ha hb I h fun v u s2 x y H2 I2 rx ry q => ho pins s2 σ H2 x y v u Q I2 rx ry q)
theorem pe_un {op : UnaryOp} {r : V → Hp → VK → Prop} (ho : UnR X (unaryOp op) r) (ha : PE X a ta) : PE X (.UnaryOp op a pos) (tUn r ta) := by
  intro pins s σ H Q I h
  exact UnaryOp_ (thn (ha pins s σ H _ I h) fun v s1 ⟨x, H1, I1, r1, q1⟩ => ho pins s1 σ H1 x v Q I1 r1 q1)
/-! ### ints -/
theorem opI {f : Value → Value → Sem Value} {C : Int → Int → Prop} {g : Int → Int → Int}
    (rule : ∀ (i j : Int) (t u : Tok) (s : Shared) (Q : Value → Shared → Prop) (E : Value → Shared → Prop), C i j → Q (.int (g i j) s.toks) { s with toks := s.toks + 1 } → wpAny (model X.prog X.w) X.A (f (.int i t) (.int j u)) Q E s) :
    OpR X f (rI C fun i j => .int (g i j)) := by
  intro pins s σ H x y v u Q I rx ry h
  obtain ⟨i, j, rfl, rfl, hc, q⟩ := h
  obtain ⟨t, rfl⟩ := rx
  obtain ⟨t', rfl⟩ := ry
  exact rule i j t t' s _ _ hc ⟨.int (g i j), H, I.tok _, ⟨_, rfl⟩, q⟩
theorem opI0 {f : Value → Value → Sem Value} {g : Int → Int → Int}
    (rule : ∀ (i j : Int) (t u : Tok) (s : Shared) (Q : Value → Shared → Prop) (E : Value → Shared → Prop), Q (.int (g i j) s.toks) { s with toks := s.toks + 1 } → wpAny (model X.prog X.w) X.A (f (.int i t) (.int j u)) Q E s) :
    OpR X f (rI0 fun i j => .int (g i j)) := by
  intro pins s σ H x y v u Q I rx ry h
  obtain ⟨i, j, rfl, rfl, q⟩ := h
  obtain ⟨t, rfl⟩ := rx
  obtain ⟨t', rfl⟩ := ry
  exact rule i j t t' s _ _ ⟨.int (g i j), H, I.tok _, ⟨_, rfl⟩, q⟩
theorem opB0 {f : Value → Value → Sem Value} {g : Int → Int → Bool}
    (rule : ∀ (i j : Int) (t u : Tok) (s : Shared) (Q : Value → Shared → Prop) (E : Value → Shared → Prop), Q (.bool (g i j)) s → wpAny (model X.prog X.w) X.A (f (.int i t) (.int j u)) Q E s) :
    OpR X f (rI0 fun i j => .bl (g i j)) := by
  intro pins s σ H x y v u Q I rx ry h
  obtain ⟨i, j, rfl, rfl, q⟩ := h
  obtain ⟨t, rfl⟩ := rx
  obtain ⟨t', rfl⟩ := ry
  exact rule i j t t' s _ _ ⟨.bl (g i j), H, I, rfl, q⟩

def CDiv (i j : Int) : Prop := 0 < j ∧ j < 1073741824
def CPow (i j : Int) : Prop := 0 ≤ j ∧ j ≤ 1000000 ∧ i.natAbs < 2 ^ 64
def CMul (i j : Int) : Prop := (-(2 ^ 64) < i ∧ i < 2 ^ 64) ∨ (-(2 ^ 64) < j ∧ j < 2 ^ 64)
theorem CMul.ok {i j : Int} (h : CMul i j) : IntMulOk i j := by
  rcases h with ⟨h1, h2⟩ | ⟨h1, h2⟩
  · exact .of_left (intBits_le_64 h1 h2)
  · exact .of_right (intBits_le_64 h1 h2)
theorem two_pow_nn (k : Nat) : (0 : Int) ≤ 2 ^ k := by
  rw [two_pow_cast]
  exact Int.natCast_nonneg _

theorem op_add : OpR X (binaryOp .Add) (rI0 fun i j => .int (i + j)) := opI0 fun _ _ _ _ _ _ _ q => add_int q
theorem op_sub : OpR X (binaryOp .Sub) (rI0 fun i j => .int (i - j)) := opI0 fun _ _ _ _ _ _ _ q => sub_int q
theorem op_mul : OpR X (binaryOp .Mult) (rI CMul fun i j => .int (i * j)) := opI fun _ _ _ _ _ _ _ hc q => mul_int q hc.ok
/-- // by a positive divisor -/
theorem op_fdiv : OpR X (binaryOp .FloorDiv) (rI CDiv fun i j => .int (i / j)) := opI fun i j _ _ _ _ _ hc q => by
  have h1 : (0 : Int) < j := hc.1
  have h2 : j < 1073741824 := hc.2
  exact floordiv_int (by omega) (by rw [Int.fdiv_eq_ediv_of_nonneg i (by omega)]; exact q) (.inl (PyProof.noPylong_small (by omega)))
/-- % by a positive divisor of any size -/
theorem op_mod : OpR X (binaryOp .Mod) (rI (fun _ j => 0 < j) fun i j => .int (i % j)) := opI fun i j _ _ _ _ _ hc q => by
  have h1 : (0 : Int) < j := hc
  exact mod_int' (by omega) (by rw [Int.fmod_eq_emod_of_nonneg i (by omega)]; exact q)
theorem op_pow : OpR X (binaryOp .Pow) (rI CPow fun i j => .int (i ^ j.toNat)) := opI fun _ _ _ _ _ _ _ hc q => pow_int_small hc.1 hc.2.1 hc.2.2 q
theorem op_shl : OpR X (binaryOp .LShift) (rI CPow fun i j => .int (i * 2 ^ j.toNat)) := opI fun _ _ _ _ _ _ _ hc q => lshift_int_small hc.1 hc.2.1 hc.2.2 q
theorem op_shr : OpR X (binaryOp .RShift) (rI (fun _ j => 0 ≤ j) fun i j => .int (i / 2 ^ j.toNat)) := opI fun i j _ _ _ _ _ hc q =>
  rshift_int hc (by rw [Int.fdiv_eq_ediv_of_nonneg i (two_pow_nn _)]; exact q)
theorem op_and : OpR X (binaryOp .BitAnd) (rI0 fun i j => .int (Builtin.bitAnd i j)) := opI0 fun _ _ _ _ _ _ _ q => and_int q
theorem unI {f : Value → Sem Value} {g : Int → Int}
    (rule : ∀ (i : Int) (t : Tok) (s : Shared) (Q : Value → Shared → Prop) (E : Value → Shared → Prop), Q (.int (g i) s.toks) { s with toks := s.toks + 1 } → wpAny (model X.prog X.w) X.A (f (.int i t)) Q E s) :
    UnR X f (rU fun i => .int (g i)) := by
  intro pins s σ H x v Q I rx h
  obtain ⟨i, rfl, q⟩ := h
  obtain ⟨t, rfl⟩ := rx
  exact rule i t s _ _ ⟨.int (g i), H, I.tok _, ⟨_, rfl⟩, q⟩
theorem un_neg : UnR X (unaryOp .USub) (rU fun i => .int (-i)) := unI fun _ _ _ _ _ q => neg_int q
/-! ### bools among ints: n += (a < b) -/
end

/-! ### comparisons -/
/-- the scalars that == tells apart as data does -/
def scal : V → V → Bool
  | .non, .non => true | .non, .int _ => true | .int _, .non => true | .non, .bl _ => true | .bl _, .non => true | .non, .str _ => true | .str _, .non => true
  | .int _, .int _ => true | .bl _, .bl _ => true | .str _, .str _ => true | .byt _, .byt _ => true
  | .int _, .str _ => true | .str _, .int _ => true | .bl _, .str _ => true | .str _, .bl _ => true
  | _, _ => false
def rEq : R2 := fun x y H Q => scal x y = true ∧ Q (.bl (decide (x = y))) H
def rNe : R2 := fun x y H Q => scal x y = true ∧ Q (.bl (!decide (x = y))) H

theorem dec_int {i j : Int} : decide (V.int i = V.int j) = (i == j) := by
  rw [Bool.eq_iff_iff]
  simp
theorem dec_bl {i j : Bool} : decide (V.bl i = V.bl j) = (i == j) := by
  rw [Bool.eq_iff_iff]
  simp
theorem dec_str {i j : Str} : decide (V.str i = V.str j) = (i == j) := by
  rw [Bool.eq_iff_iff]
  simp
theorem dec_byt {i j : Array UInt8} : decide (V.byt i = V.byt j) = (i.toList == j.toList) := by
  rw [Bool.eq_iff_iff]
  cases i
  cases j
  simp

section
variable {X : Cx} {a b c : Expr} {ta tb tc : TE} {pos : Pos}
theorem fin_bl {pins : List (Addr × Obj)} {σ : St} {H : Hp} {s : Shared} {Q : VK} {k k' : Bool} (I : Inv X pins σ H s) (q : Q (.bl k) H) (e : k = k') : EP X pins σ Q (.bool k') s := by
  subst e
  exact ⟨.bl k, H, I, rfl, q⟩
theorem op_eq : OpR X (compareOp .Eq) rEq := by
  intro pins s σ H x y v u Q I rx ry h
  obtain ⟨hs, q⟩ := h
  cases x with
  | non =>
    cases rx
    cases y with
    | non => cases ry; exact PySem.EqNone.eq_none_none (fin_bl I q (by simp))
    | bl j => cases ry; exact PySem.EqNone.eq_none_bool (fin_bl I q (by simp))
    | int j => obtain ⟨t', rfl⟩ := ry; exact PySem.EqNone.eq_none_int (fin_bl I q (by simp))
    | str j => obtain ⟨t', rfl⟩ := ry; exact PySem.EqNone.eq_none_str (fin_bl I q (by simp))
    | _ => exact absurd (show false = true from hs) Bool.false_ne_true
  | bl i =>
    cases rx
    cases y with
    | non => cases ry; exact PySem.EqNone.eq_bool_none (fin_bl I q (by simp))
    | bl j => cases ry; exact eq_bool (fin_bl I q dec_bl)
    | str j => obtain ⟨t', rfl⟩ := ry; exact PySem.EqMixed.eq_bool_str (fin_bl I q (by simp))
    | _ => exact absurd (show false = true from hs) Bool.false_ne_true
  | int i =>
    obtain ⟨t, rfl⟩ := rx
    cases y with
    | non => cases ry; exact PySem.EqNone.eq_int_none (fin_bl I q (by simp))
    | int j => obtain ⟨t', rfl⟩ := ry; exact eq_int (fin_bl I q dec_int)
    | str j => obtain ⟨t', rfl⟩ := ry; exact PySem.EqMixed.eq_int_str (fin_bl I q (by simp))
    | _ => exact absurd (show false = true from hs) Bool.false_ne_true
  | str i =>
    obtain ⟨t, rfl⟩ := rx
    cases y with
    | non => cases ry; exact PySem.EqNone.eq_str_none (fin_bl I q (by simp))
    | bl j => cases ry; exact PySem.EqMixed.eq_str_bool (fin_bl I q (by simp))
    | int j => obtain ⟨t', rfl⟩ := ry; exact PySem.EqMixed.eq_str_int (fin_bl I q (by simp))
    | str j => obtain ⟨t', rfl⟩ := ry; exact eq_str (fin_bl I q dec_str)
    | _ => exact absurd (show false = true from hs) Bool.false_ne_true
  | byt i =>
    obtain ⟨t, rfl⟩ := rx
    cases y with
    | byt j => obtain ⟨t', rfl⟩ := ry; exact PySem.W.eq_bytes (fin_bl I q dec_byt)
    | _ => exact absurd (show false = true from hs) Bool.false_ne_true
  | _ => cases y <;> exact absurd (show false = true from hs) Bool.false_ne_true
theorem op_ne : OpR X (compareOp .NotEq) rNe := by
  intro pins s σ H x y v u Q I rx ry h
  obtain ⟨hs, q⟩ := h
  cases x with
  | non =>
    cases rx
    cases y with
    | non => cases ry; exact PySem.EqNone.ne_none_none (fin_bl I q (by simp))
    | bl j => cases ry; exact PySem.EqNone.ne_none_bool (fin_bl I q (by simp))
    | int j => obtain ⟨t', rfl⟩ := ry; exact PySem.EqNone.ne_none_int (fin_bl I q (by simp))
    | str j => obtain ⟨t', rfl⟩ := ry; exact PySem.EqNone.ne_none_str (fin_bl I q (by simp))
    | _ => exact absurd (show false = true from hs) Bool.false_ne_true
  | bl i =>
    cases rx
    cases y with
    | non => cases ry; exact PySem.EqNone.ne_bool_none (fin_bl I q (by simp))
    | bl j => cases ry; exact ne_bool (fin_bl I q (congrArg not dec_bl))
    | str j => obtain ⟨t', rfl⟩ := ry; exact PySem.EqMixed.ne_bool_str (fin_bl I q (by simp))
    | _ => exact absurd (show false = true from hs) Bool.false_ne_true
  | int i =>
    obtain ⟨t, rfl⟩ := rx
    cases y with
    | non => cases ry; exact PySem.EqNone.ne_int_none (fin_bl I q (by simp))
    | int j => obtain ⟨t', rfl⟩ := ry; exact ne_int (fin_bl I q (congrArg not dec_int))
    | str j => obtain ⟨t', rfl⟩ := ry; exact PySem.EqMixed.ne_int_str (fin_bl I q (by simp))
    | _ => exact absurd (show false = true from hs) Bool.false_ne_true
  | str i =>
    obtain ⟨t, rfl⟩ := rx
    cases y with
    | non => cases ry; exact PySem.EqNone.ne_str_none (fin_bl I q (by simp))
    | bl j => cases ry; exact PySem.EqMixed.ne_str_bool (fin_bl I q (by simp))
    | int j => obtain ⟨t', rfl⟩ := ry; exact PySem.EqMixed.ne_str_int (fin_bl I q (by simp))
    | str j => obtain ⟨t', rfl⟩ := ry; exact ne_str (fin_bl I q (congrArg not dec_str))
    | _ => exact absurd (show false = true from hs) Bool.false_ne_true
  | byt i =>
    obtain ⟨t, rfl⟩ := rx
    cases y with
    | byt j => obtain ⟨t', rfl⟩ := ry; exact PySem.W.ne_bytes (fin_bl I q (congrArg not dec_byt))
    | _ => exact absurd (show false = true from hs) Bool.false_ne_true
  | _ => cases y <;> exact absurd (show false = true from hs) Bool.false_ne_true

theorem op_lt : OpR X (compareOp .Lt) (rI0 fun i j => .bl (decide (i < j))) := opB0 fun _ _ _ _ _ _ _ q => lt_int q
theorem op_gt : OpR X (compareOp .Gt) (rI0 fun i j => .bl (decide (j < i))) := opB0 fun _ _ _ _ _ _ _ q => gt_int q
theorem op_ge : OpR X (compareOp .GtE) (rI0 fun i j => .bl (decide (j ≤ i))) := opB0 fun _ _ _ _ _ _ _ q => ge_int q
/-- is None, is not None: the right side a value none -/
theorem op_isN : OpR X (compareOp .Is) (fun x y H Q => y = .non ∧ Q (.bl (decide (x = .non))) H) := by
  intro pins s σ H x y v u Q I rx ry h
  obtain ⟨rfl, q⟩ := h
  cases ry
  refine is_none_gen (fin_bl I q ?_)
  cases x <;> first
    | (cases rx; rfl)
    | (obtain ⟨t, rfl⟩ := rx; rfl)
theorem nomark (b : Expr) {op : CmpOp} (h : op ≠ .In := by decide) (h2 : op ≠ .NotIn := by decide) : behindInMarks op b = false := by
  have e1 : (op == CmpOp.In) = false := by cases op <;> first | rfl | exact absurd rfl h
  have e2 : (op == CmpOp.NotIn) = false := by cases op <;> first | rfl | exact absurd rfl h2
  cases b <;> simp [behindInMarks, e1, e2]
/-- a comparison as a value; hm: nomark b, or (for in, not in) by with_unfolding_all rfl -/
theorem pe_cmpR {op : CmpOp} {r : R2} (ho : OpR X (compareOp op) r) (ha : PE X a ta) (hb : PE X b tb) (hm : behindInMarks op b = false) : PE X (.Compare a [op] [b] pos) (tOp r ta tb) := by
  intro pins s σ H Q I h
  exact wpAny_Compare1 (binT ha hb I h fun v u s2 x y H2 I2 rx ry q => ho pins s2 σ H2 x y v u Q I2 rx ry q) hm
/-- a reading of a value as a test -/
def tTest (t : TE) : TT := fun σ H Q => t σ H fun x H' => ∃ k, x = .bl k ∧ Q k H'
theorem pt_cmpR {op : CmpOp} {r : R2} (ho : OpR X (compareOp op) r) (ha : PE X a ta) (hb : PE X b tb) (hm : behindInMarks op b = false) : PT X (.Compare a [op] [b] pos) (tTest (tOp r ta tb)) := by
  intro pins s σ H Q I h
  refine wpAny_isTrue_Compare1 (thn (ha pins s σ H _ I h) fun v s1 ⟨x, H1, I1, r1, q1⟩ => thn (hb pins s1 σ H1 _ I1 q1) fun u s2 ⟨y, H2, I2, r2, q2⟩ =>
    thn (ho pins s2 σ H2 x y v u _ I2 r1 r2 q2) fun c s3 ⟨z, H3, I3, r3, k, e, q3⟩ => ?_) hm
  subst e
  cases r3
  exact wpAny_truthy_bool ⟨H3, I3, q3⟩
/-! ### truth -/
/-- a value's truth by the abstract heap -/
def TruV (K : PySem.W.Frag) (x : V) (H : Hp) (k : Bool) : Prop :=
  match x with
  | .non => k = false
  | .bl b => k = b
  | .int i => k = (i != 0)
  | .str y => y.length ≤ sizeLine ∧ k = ((y.length : Int) != 0)
  | .byt y => y.size ≤ sizeLine ∧ k = ((y.size : Int) != 0)
  | .ref p => (∃ xs, SqL K H p xs ∧ k = !xs.isEmpty) ∨ (∃ xs, SqT K H p xs ∧ k = !xs.isEmpty) ∨ ∃ kvs, H p = some (.dK kvs) ∧ k = !kvs.isEmpty
  | _ => False
theorem isEmpty_kv {κ : Type} {kvs : List (κ × V)} {vs : List (κ × Value)} (r : KV kvs vs) : (!vs.isEmpty) = !kvs.isEmpty := by
  cases r <;> rfl
theorem isEmpty_of {xs : List V} {its : List Value} (r : Vals xs its) : (!its.toArray.isEmpty) = !xs.isEmpty := by
  cases r <;> simp
theorem line63 : (sizeLine : Nat) < 2 ^ 63 := by rw [sizeLine_eq]; decide
theorem tru_ok : TruR X (fun x H Q => ∃ k, TruV X.K x H k ∧ Q k H) := by
  intro pins s σ H x v Q I rx h
  obtain ⟨k, e, q⟩ := h
  have hl := line63
  have hs : sizeLine = 16777216 := sizeLine_eq
  cases x with
  | non =>
    cases rx
    have e' : k = false := e
    subst e'
    exact truthy_none ⟨H, I, q⟩
  | bl b =>
    cases rx
    have e' : k = b := e
    subst e'
    exact wpAny_truthy_bool ⟨H, I, q⟩
  | int i =>
    obtain ⟨t, rfl⟩ := rx
    have e' : k = (i != 0) := e
    subst e'
    exact PySem.P.truthy_int ⟨H, I, q⟩
  | str y =>
    obtain ⟨t, rfl⟩ := rx
    obtain ⟨hy, e'⟩ : y.length ≤ sizeLine ∧ k = ((y.length : Int) != 0) := e
    subst e'
    exact PySem.P.truthy_str (by omega) ⟨H, I.tok _, q⟩
  | byt y =>
    obtain ⟨t, rfl⟩ := rx
    obtain ⟨hy, e'⟩ : y.size ≤ sizeLine ∧ k = ((y.size : Int) != 0) := e
    subst e'
    exact PySem.W.truthy_bytes (by omega) ⟨H, I.tok _, q⟩
  | ref p =>
    cases rx
    have e' : (∃ xs, SqL X.K H p xs ∧ k = !xs.isEmpty) ∨ (∃ xs, SqT X.K H p xs ∧ k = !xs.isEmpty) ∨ ∃ kvs, H p = some (.dK kvs) ∧ k = !kvs.isEmpty := e
    rcases e' with ⟨xs, hx, e'⟩ | ⟨xs, hx, e'⟩ | ⟨kvs, hx, e'⟩
    · subst e'
      obtain ⟨its, r, pl, hz⟩ := I.list hx
      have hlen := r.length
      exact wpAny_truthy_list pl.isList (by simp only [List.size_toArray]; omega) ⟨H, I.tok _, by rw [isEmpty_of r]; exact q⟩
    · subst e'
      obtain ⟨its, r, pl, hz⟩ := I.tuple hx
      have hlen := r.length
      exact truthy_tuple pl (by simp only [List.size_toArray]; omega) ⟨H, I.tok _, by rw [isEmpty_of r]; exact q⟩
    · subst e'
      obtain ⟨hz, hS, vs, r, m⟩ : kvs.length ≤ sizeLine ∧ (p == sysModules) = false ∧ ∃ vs, KV kvs vs ∧ s.heap.DictOf (mixKind X.prog X.w) p vs := I.hok p _ hx
      have hlen : kvs.length = vs.length := Paired.length r
      exact wpAny_truthy_dict hS m (by omega) ⟨H, I.tok _, by rw [isEmpty_kv r]; exact q⟩
  | _ => exact (show False from e).elim
/-- any expression whose test is its value's truth (a name, a call, a subscript, a field ..: he by fun _ => rfl) -/
theorem pt_truth (ha : PE X a ta) (he : ∀ whole, isTrue a X.env whole = (do let v ← whole; standAt a.pos; holding [v] (truthy v))) :
    PT X a (fun σ H Q => ta σ H fun x H' => ∃ k, TruV X.K x H' k ∧ Q k H') := by
  intro pins s σ H Q I h
  exact isTrue_plain (thn (ha pins s σ H _ I h) fun v s1 ⟨x, H1, I1, r1, q1⟩ => tru_ok pins s1 σ H1 x v Q I1 r1 q1) (he _)

/-! ### strs and bytes -/
/-! ### scalar builtins, by CallR -/
theorem vals1 {x : V} {us : List Value} (r : Vals [x] us) : ∃ u, us = [u] ∧ RelV x u := by
  cases r with
  | cons r1 r2 => cases r2; exact ⟨_, rfl, r1⟩
theorem vals2 {x y : V} {us : List Value} (r : Vals [x, y] us) : ∃ u w', us = [u, w'] ∧ RelV x u ∧ RelV y w' := by
  cases r with
  | cons r1 r2 =>
    cases r2 with
    | cons r3 r4 => cases r4; exact ⟨_, _, rfl, r1, r3⟩
theorem call_abs : CallR X (.builtin "abs") (fun xs H Q => ∃ i, xs = [.int i] ∧ Q (.int (if i < 0 then -i else i)) H) := by
  intro pins s σ H xs us Q I r h
  obtain ⟨i, rfl, q⟩ := h
  obtain ⟨u, rfl, t, rfl⟩ := vals1 r
  exact call_abs_int fun u tk => ⟨.int (if i < 0 then -i else i), H, I.tok _, ⟨_, rfl⟩, q⟩
theorem call_max2 (hc : X.calm = true) : CallR X (.builtin "max") (fun xs H Q => ∃ i j, xs = [.int i, .int j] ∧ Q (.int (if j > i then j else i)) H) := by
  intro pins s σ H xs us Q I r h
  obtain ⟨i, j, rfl, q⟩ := h
  obtain ⟨u, w', rfl, ⟨t, rfl⟩, ⟨t', rfl⟩⟩ := vals2 r
  refine max_two_ints (I.ok.hd hc) fun h' tk k => ⟨_, H, I.kept k, ?_, q⟩
  by_cases hj : j > i
  · rw [if_pos hj, if_pos hj]; exact ⟨_, rfl⟩
  · rw [if_neg hj, if_neg hj]; exact ⟨_, rfl⟩
theorem call_min2 (hc : X.calm = true) : CallR X (.builtin "min") (fun xs H Q => ∃ i j, xs = [.int i, .int j] ∧ Q (.int (if j < i then j else i)) H) := by
  intro pins s σ H xs us Q I r h
  obtain ⟨i, j, rfl, q⟩ := h
  obtain ⟨u, w', rfl, ⟨t, rfl⟩, ⟨t', rfl⟩⟩ := vals2 r
  refine min_two_ints (I.ok.hd hc) fun h' tk k => ⟨_, H, I.kept k, ?_, q⟩
  by_cases hj : j < i
  · rw [if_pos hj, if_pos hj]; exact ⟨_, rfl⟩
  · rw [if_neg hj, if_neg hj]; exact ⟨_, rfl⟩
theorem call_int1 : CallR X (.type "int") (fun xs H Q => (∃ i, xs = [.int i] ∧ Q (.int i) H) ∨ ∃ k, xs = [.bl k] ∧ Q (.int (if k then 1 else 0)) H) := by
  intro pins s σ H xs us Q I r h
  rcases h with ⟨i, rfl, q⟩ | ⟨k, rfl, q⟩
  · obtain ⟨u, rfl, t, rfl⟩ := vals1 r
    exact call_int_int ⟨.int i, H, I, ⟨_, rfl⟩, q⟩
  · obtain ⟨u, rfl, r1⟩ := vals1 r
    cases r1
    exact call_int_bool ⟨.int (if k then 1 else 0), H, I.tok _, ⟨_, rfl⟩, q⟩
end
end L2

namespace L2
open PySem PySem.Spec PyProof.Rows

/-! ### an instance, its attributes a map -/
structure ObjM (h : Heap) (x dx C : Addr) (mA : Str → Option Value) : Prop where
  obj : h.get? x = some (PySem.W.instObj C dx)
  ns : h.Ns1 dx mA
  ne : dx ≠ x

theorem lookIn_ns {h : Heap} {dx : Addr} {mA : Str → Option Value} (n : h.Ns1 dx mA) : ∃ od, h.get? dx = some od ∧ ∀ name, PySem.W.lookIn name od = some (mA name) := by
  obtain ⟨o, es, ep, ho, hd, hk, _, hm⟩ := n
  refine ⟨o, ho, fun name => ?_⟩
  have e := hm name
  unfold nsFind findBy at e
  rw [← Array.find?_toList] at e
  unfold PySem.W.lookIn
  rw [hd]
  dsimp only
  split
  · rename_i y q
    rw [q] at e
    exact congrArg some e
  · rename_i q
    rw [q] at e
    have a : es.toList.any (·.refKey) = false := by
      rw [List.any_eq_false]
      intro y hy
      obtain ⟨z, t, hkey⟩ := hk y (Array.mem_toList_iff.mp hy)
      simp [DictEntry.refKey, hkey]
    have a' : ¬ es.toList.any (·.refKey) = true := by rw [a]; exact Bool.false_ne_true
    rw [if_neg a']
    exact congrArg some e

theorem ObjM.look {h : Heap} {x dx C : Addr} {mA : Str → Option Value} (I : ObjM h x dx C mA) : ∃ od, PySem.W.InstAt h x (PySem.W.instObj C dx) C (some od) ∧ ∀ name, PySem.W.lookIn name od = some (mA name) :=
  let ⟨od, ho, hl⟩ := lookIn_ns I.ns
  ⟨od, ⟨I.obj, rfl, rfl, ho⟩, hl⟩

section
variable {prog : Program} {w : World} {A : Around} {E : Value → Shared → Prop} {s : Shared} {K : PySem.W.Frag} {x dx C f : Addr} {mA : Str → Option Value} {name : Str} {v : Value}

theorem get_map {expr : Bool} {Q : Value → Shared → Prop} (X : K.In s.heap) (I : ObjM s.heap x dx C mA) (hg : PySem.W.plainGet K C name = true) (hh : PySem.W.hasDictIn K C = true)
    (ha : PySem.W.findIn K (.ref C) name = some none) (hv : mA name = some v) (hv' : PySem.W.handedIn v = true) (h : Q v { s with toks := s.toks + 1 }) :
    wpAny (model prog w) A (getAttr (.ref x) name expr) Q E s := by
  obtain ⟨od, J, hl⟩ := I.look
  exact PySem.W.get_value X J (PySem.W.plainGet_of hg).1 (PySem.W.findObj_own hh ha rfl (by rw [hl, hv])) hv' h

theorem get_meth {pl : Sem Bool} {Q : Value × List Value → Shared → Prop} (X : K.In s.heap) (I : ObjM s.heap x dx C mA) (hg : PySem.W.plainGet K C name = true)
    (hf : PySem.W.findIn K (.ref C) name = some (some (.ref f))) (ht : PySem.W.isFn K (.ref f) = true) (hv : mA name = none) (h : Q (.ref f, [.ref x]) s) :
    wpAny (model prog w) A (getMethod (.ref x) name pl) Q E s := by
  obtain ⟨od, J, hl⟩ := I.look
  exact PySem.W.method_fn X J (PySem.W.plainGet_of hg).1 (PySem.W.plainGet_of hg).2 hf (beq_iff_eq.mp ht) (by show (PySem.W.lookIn name od).map (·.isSome) = some false; rw [hl, hv]; rfl) h

theorem set_map {ns : List Str} {Q : Unit → Shared → Prop} (X : K.In s.heap) (I : ObjM s.heap x dx C mA)
    (hs : PySem.W.findIn K (.ref C) "__setattr__" = some (some (.builtin "object.__setattr__"))) (hp : PySem.W.plainOver K C = true) (ht : PySem.W.takerIn K C name = some none) (hh : PySem.W.hasDictIn K C = true)
    (hw : PySem.Within mA ns) (hsz : ns.length ≤ sizeLine)
    (h : ∀ h', ObjM h' x dx C (fun y => if y = name then some v else mA y) → Heap.SameBut dx s.heap h' → Q () { s with heap := h', toks := s.toks + 2 }) :
    wpAny (model prog w) A (setAttr (.ref x) name v) Q E s := by
  obtain ⟨od, J, hl⟩ := I.look
  refine PySem.W.set_plain X J hs (PySem.W.osa_open (s := { s with toks := s.toks + 1 }) (r := none) X J hp ht fun b => ?_)
  obtain ⟨cd, hc, hd'⟩ := PySem.W.any_some hh
  have hx : s.heap.get? x = some ⟨.ref C, some dx, .plain, #[]⟩ := I.obj
  refine wpAny_bind (wpAny_pure (wpAny_bind (wpAny_bind (wpAny_loadPart hx (wpAny_bind (PySem.W.Looks.here (s := { s with toks := s.toks + 1 }) (PySem.W.looks_clsIn X hc) ?_))))))
  rw [hd']
  refine wpAny_pure (a := some dx) (wpAny_bind (wpAny_pure (wpAny_bind ?_)))
  refine wpAny_nsSet1 (s := { s with toks := s.toks + 1 }) I.ns fun h' hn2 hs2 => ?_
  obtain ⟨oD, esD, epD, hoD, hdD, hcD⟩ := hn2.count (PySem.Within.cons name v hw)
  refine wpAny_bind (wpAny_lookBehind hoD (by rw [hdD]; exact pastItsLine_dict (Nat.le_trans hcD (by rw [List.length_cons]; omega))) ?_)
  exact wpAny_pure (h _ ⟨(hs2.2 _ (Ne.symm I.ne)).trans I.obj, hn2, I.ne⟩ hs2)

/-- C(..): the dict at the heap's end, the instance behind it; then its __init__ -/
theorem make_map {R : Result → Shared → Prop} {vs : List Value} {kw : List (Str × Value)} (X : K.In s.heap) (hm : PySem.W.makesIn K C = true)
    (hi : PySem.W.findIn K (.ref C) "__init__" = some (some (.ref f))) (hf : PySem.W.typeIn K (.ref f) = some (.type "function"))
    (h : codeAny (model prog w) (A.under (.builtin "type.__call__" ⟨.ref C :: vs, kw⟩)) (.call (.ref f) ⟨.ref (s.heap.objs.size + 1) :: vs, kw⟩) (PySem.W.InitBack (s.heap.objs.size + 1) R)
      { s with heap := (s.heap.push PySem.W.emptyDict).push (PySem.W.instObj C s.heap.objs.size) }) :
    codeAny (model prog w) A (.call (.ref C) ⟨vs, kw⟩) R s := by
  obtain ⟨hh, g, d, t, os⟩ := s
  exact PySem.W.make_core (PySem.W.makes_of X hm) (PySem.W.looks_findIn X hi) (fun self => PySem.W.bind_fn X self hf) (.inl rfl) h
end

/-! ### the attributes as a list of pairs -/
def putF (f : Str) (v : V) : List (Str × V) → List (Str × V)
  | [] => [(f, v)]
  | (g, x) :: r => if g = f then (g, v) :: r else (g, x) :: putF f v r
theorem lookup_putF (f g : Str) (v : V) : ∀ fs : List (Str × V), (putF f v fs).lookup g = if g = f then some v else fs.lookup g
  | [] => by
    show List.lookup g [(f, v)] = _
    by_cases h : g = f
    · have hb : (g == f) = true := beq_iff_eq.mpr h
      simp only [List.lookup, hb, if_pos h]
    · have hb : (g == f) = false := beq_eq_false_iff_ne.mpr h
      simp only [List.lookup, hb, if_neg h]
  | (k, x) :: r => by
    have ih := lookup_putF f g v r
    rw [show putF f v ((k, x) :: r) = (if k = f then (k, v) :: r else (k, x) :: putF f v r) from rfl]
    by_cases hk : k = f
    · rw [if_pos hk]
      by_cases h : g = k
      · have hb : (g == k) = true := beq_iff_eq.mpr h
        simp only [List.lookup, hb, if_pos (h.trans hk)]
      · have hb : (g == k) = false := beq_eq_false_iff_ne.mpr h
        simp only [List.lookup, hb, if_neg (fun e : g = f => h (e.trans hk.symm))]
    · rw [if_neg hk]
      by_cases h : g = k
      · have hb : (g == k) = true := beq_iff_eq.mpr h
        simp only [List.lookup, hb, if_neg (fun e : g = f => hk (h.symm.trans e))]
      · have hb : (g == k) = false := beq_eq_false_iff_ne.mpr h
        simp only [List.lookup, hb]
        exact ih
theorem keys_putF (f : Str) (v : V) : ∀ fs : List (Str × V), f ∈ (putF f v fs).map (·.1) ∧ ∀ g, g ∈ fs.map (·.1) → g ∈ (putF f v fs).map (·.1)
  | [] => ⟨by simp [putF], fun g h => by simp at h⟩
  | (k, x) :: r => by
    obtain ⟨i1, i2⟩ := keys_putF f v r
    rw [show putF f v ((k, x) :: r) = (if k = f then (k, v) :: r else (k, x) :: putF f v r) from rfl]
    by_cases hk : k = f
    · rw [if_pos hk]
      subst hk
      exact ⟨by simp, fun g h => by simpa using h⟩
    · rw [if_neg hk]
      refine ⟨?_, fun g h => ?_⟩
      · rw [List.map_cons]
        exact List.mem_cons_of_mem _ i1
      · rw [List.map_cons] at h ⊢
        rcases List.mem_cons.mp h with e | e
        · exact List.mem_cons.mpr (.inl e)
        · exact List.mem_cons_of_mem _ (i2 g e)
theorem length_putF (f : Str) (v : V) : ∀ fs : List (Str × V), (putF f v fs).length ≤ fs.length + 1
  | [] => by simp [putF]
  | (k, x) :: r => by
    have ih := length_putF f v r
    rw [show putF f v ((k, x) :: r) = (if k = f then (k, v) :: r else (k, x) :: putF f v r) from rfl]
    by_cases hk : k = f
    · rw [if_pos hk, List.length_cons, List.length_cons]; omega
    · rw [if_neg hk, List.length_cons, List.length_cons]; omega

theorem RelO.some_of {v : V} {o : Option Value} (r : RelO (some v) o) : ∃ u, o = some u ∧ RelV v u := by
  cases o with
  | none => exact (show False from r).elim
  | some u => exact ⟨u, rfl, r⟩
theorem RelO.none_of {o : Option Value} (r : RelO none o) : o = none := by
  cases o with
  | none => rfl
  | some u => exact (show False from r).elim
theorem handed_of {v : V} {u : Value} (r : RelV v u) : PySem.W.handedIn u = true := by
  cases v with
  | non => cases (show u = Value.none from r); rfl
  | bl b => cases (show u = Value.bool b from r); rfl
  | int i => obtain ⟨t, e⟩ := (show ∃ t, u = Value.int i t from r); cases e; rfl
  | str x => obtain ⟨t, e⟩ := (show ∃ t, u = Value.str x t from r); cases e; rfl
  | byt b => obtain ⟨t, e⟩ := (show ∃ t, u = Value.bytes b t from r); cases e; rfl
  | flt b => obtain ⟨t, e⟩ := (show ∃ t, u = Value.float b t from r); cases e; rfl
  | ref a => cases (show u = Value.ref a from r); rfl
  | ty n => cases (show u = Value.type n from r); rfl

section
variable {P : Program} {w : World} {H H' : Hp} {h h' : Heap} {a C dx : Addr} {fs fs' : List (Str × V)}
theorem ins_get (hok : HOk P w H h) (e : H a = some (.ins C dx fs)) : ∃ mA, ObjM h a dx C mA ∧ (∀ f, RelO (fs.lookup f) (mA f)) ∧ PySem.Within mA (fs.map (·.1)) ∧ fs.length ≤ 1000 ∧ H dx = some (.own a) := by
  obtain ⟨d, z, ne, ob, mA, n, r, q⟩ := (show ObjOk P w H h a (.ins C dx fs) from hok a _ e)
  exact ⟨mA, ⟨ob, n, ne⟩, r, q, z, d⟩
end

/-! ### what of the text a class must have -/
structure Cls (K : PySem.W.Frag) (C : Addr) : Prop where
  pg : PySem.W.plainGet K C Str.empty = true
  hd : PySem.W.hasDictIn K C = true
  po : PySem.W.plainOver K C = true
  sa : PySem.W.findIn K (.ref C) "__setattr__" = some (some (.builtin "object.__setattr__"))
theorem Cls.get {K : PySem.W.Frag} {C : Addr} (c : Cls K C) (f : Str) : PySem.W.plainGet K C f = true := c.pg
/-- no class of it has the name -/
def NoAttr (K : PySem.W.Frag) (C : Addr) (f : Str) : Prop := PySem.W.findIn K (.ref C) f = some none
theorem NoAttr.taker {K : PySem.W.Frag} {C : Addr} {f : Str} (n : NoAttr K C f) : PySem.W.takerIn K C f = some none := by
  unfold PySem.W.takerIn
  rw [show PySem.W.findIn K (.ref C) f = some none from n]
  rfl
/-- a constant of the class -/
structure Con (K : PySem.W.Frag) (C : Addr) (f : Str) (v : V) (u : Value) : Prop where
  at_ : PySem.W.findIn K (.ref C) f = some (some u)
  rel : RelV v u
  get : PySem.W.specialIn K u "__get__" = some none
  cp : PySem.W.copiedNames.contains f = false
/-- a method: a plain def of the class or of one above it -/
structure Meth (K : PySem.W.Frag) (C : Addr) (m : Str) (f : Addr) : Prop where
  at_ : PySem.W.findIn K (.ref C) m = some (some (.ref f))
  fn : PySem.W.isFn K (.ref f) = true
  kp : PySem.W.keepIn K (.ref f) = true

section
variable {X : Cx} {pins : List (Addr × Obj)} {σ : St} {H : Hp} {s : Shared} {a C dx : Addr} {fs : List (Str × V)} {f : Str} {v : V} {A : Around} {E : Value → Shared → Prop}

theorem getattr_ok {b : Bool} {Q : Value → Shared → Prop} (I : Inv X pins σ H s) (e : H a = some (.ins C dx fs)) (c : Cls X.K C) (n : NoAttr X.K C f) (l : fs.lookup f = some v)
    (h : ∀ u s', Inv X pins σ H s' → RelV v u → Q u s') : wpAny (model X.prog X.w) A (getAttr (.ref a) f b) Q E s := by
  obtain ⟨mA, O, r, _, _, _⟩ := ins_get I.hok e
  obtain ⟨u, hu, ru⟩ := RelO.some_of (v := v) (o := mA f) (by rw [← l]; exact r f)
  exact get_map I.kIn O (c.get f) c.hd n hu (handed_of ru) (h u _ (I.tok _) ru)

theorem getmeth_ok {m : Str} {g : Addr} {pl : Sem Bool} {Q : Value × List Value → Shared → Prop} (I : Inv X pins σ H s) (e : H a = some (.ins C dx fs)) (c : Cls X.K C) (k : Meth X.K C m g) (l : fs.lookup m = none)
    (h : Q (.ref g, [.ref a]) s) : wpAny (model X.prog X.w) A (getMethod (.ref a) m pl) Q E s := by
  obtain ⟨mA, O, r, _, _, _⟩ := ins_get I.hok e
  have hn : mA m = none := RelO.none_of (by rw [← l]; exact r m)
  exact get_meth I.kIn O (c.get m) k.at_ k.fn hn h

theorem setattr_ok {y : V} {u : Value} {Q : Unit → Shared → Prop} (I : Inv X pins σ H s) (e : H a = some (.ins C dx fs)) (c : Cls X.K C) (n : NoAttr X.K C f) (hl : fs.length < 1000) (ry : RelV y u)
    (h : ∀ s', Inv X pins σ (upd H a (.ins C dx (putF f y fs))) s' → Q () s') : wpAny (model X.prog X.w) A (setAttr (.ref a) f u) Q E s := by
  obtain ⟨mA, O, r, wi, _, ho⟩ := ins_get I.hok e
  have hz : (fs.map (·.1)).length ≤ sizeLine := by rw [List.length_map, sizeLine_eq]; omega
  refine set_map I.kIn O c.sa c.po n.taker c.hd wi hz fun h' O' sb => h _ ?_
  have hd : ∃ o, h'.get? dx = some o := let ⟨o, _, _, e', _⟩ := O'.ns; ⟨o, e'⟩
  refine I.write (x := a) (e := dx) (by rw [e]; exact True.intro) (.inr ho) (fun b q hb z => (sb.2 b hb).trans z) hd ?_
  refine ⟨by rw [upd_ne O.ne]; exact ho, ?_, O.ne, O'.obj, _, O'.ns, fun g => ?_, fun g hg => ?_⟩
  · have := length_putF f y fs; omega
  · show RelO ((putF f y fs).lookup g) (if g = f then some u else mA g)
    rw [lookup_putF]
    by_cases q : g = f
    · rw [if_pos q, if_pos q]; exact ry
    · rw [if_neg q, if_neg q]; exact r g
  · by_cases q : g = f
    · rw [q]; exact (keys_putF f y fs).1
    · refine (keys_putF f y fs).2 g (wi g fun z => hg ?_)
      show (if g = f then some u else mA g) = none
      rw [if_neg q]; exact z

/-- a new instance, tracked, without attributes -/
theorem Inv.made (I : Inv X pins σ H s) : Inv X pins σ (upd (upd H s.heap.objs.size (.own (s.heap.objs.size + 1))) (s.heap.objs.size + 1) (.ins C s.heap.objs.size []))
    { s with heap := (s.heap.push PySem.W.emptyDict).push (PySem.W.instObj C s.heap.objs.size) } := by
  have e1 : (s.heap.push PySem.W.emptyDict).get? s.heap.objs.size = some PySem.W.emptyDict := Heap.get?_push_size s.heap rfl
  have e2 : ((s.heap.push PySem.W.emptyDict).push (PySem.W.instObj C s.heap.objs.size)).get? (s.heap.objs.size + 1) = some (PySem.W.instObj C s.heap.objs.size) := by
    have := Heap.get?_push_size (s.heap.push PySem.W.emptyDict) (o := PySem.W.instObj C s.heap.objs.size) rfl
    rwa [Heap.size_push] at this
  have e3 : (s.heap.push PySem.W.emptyDict).Ns s.heap.objs.size (fun _ => none) := ⟨PySem.W.emptyDict, #[], _, e1, rfl, (fun e he => absurd he (by simp)), fun _ => rfl⟩
  have I1 := I.laid (a := s.heap.objs.size) (o := .own (s.heap.objs.size + 1)) (h' := s.heap.push PySem.W.emptyDict) (t' := s.toks) (fun b u q => Heap.get?_push_of_some _ q) (Nat.le_refl _) ⟨_, e1⟩
  refine I1.laid (a := s.heap.objs.size + 1) (o := .ins C s.heap.objs.size []) (t' := s.toks) (fun b u q => Heap.get?_push_of_some _ q) (Nat.le_of_eq (Heap.size_push _ _)) ?_
  have ne : s.heap.objs.size ≠ s.heap.objs.size + 1 := Nat.ne_of_lt (Nat.lt_succ_self _)
  refine ⟨by rw [upd_ne ne, upd_same], Nat.zero_le _, ne, e2, fun _ => none, (Heap.Ns1.of_empty e3).at fun o q => Heap.get?_push_of_some _ q, fun _ => True.intro, fun y hy => absurd rfl hy⟩

/-- e.f where nothing but the object is asked: through attributeBase (super) and the last hold -/
theorem attr_of {prog : Program} {w : World} {env : Env} {e : Expr} {f : Str} {pos : Pos} {s : Shared} {Q : Value → Shared → Prop} (hb : attributeBase e f env (eval e env) = eval e env)
    (h : wpAny (model prog w) A (eval e env) (fun o s₁ => wpAny (model prog w) A (getAttr o f true) Q E s₁) E s) : wpAny (model prog w) A (eval (.Attribute e f pos) env) Q E s :=
  Attribute_any_ h (by rw [arm_eval_Attribute, hb])
end

/-! ### readings and rules -/
/-- e.f, an attribute of the instance -/
def tFld (K : PySem.W.Frag) (ta : TE) (f : Str) : TE := fun σ H Q => ta σ H fun x H1 => ∃ a C dx fs v, x = .ref a ∧ H1 a = some (.ins C dx fs) ∧ Cls K C ∧ NoAttr K C f ∧ fs.lookup f = some v ∧ Q v H1
/-- e.f = value -/
def sFld (K : PySem.W.Frag) (ta tv : TE) (f : Str) : TS := fun D σ H => tv σ H fun y H1 => ta σ H1 fun x H2 => ∃ a C dx fs, x = .ref a ∧ H2 a = some (.ins C dx fs) ∧ Cls K C ∧ NoAttr K C f ∧ fs.length < 1000 ∧
  D.nx σ (upd H2 a (.ins C dx (putF f y fs)))
section
variable {X : Cx} {o e value : Expr} {f : Str} {pos pos' tpos : Pos} {ta tv : TE}
theorem pe_fld (he : PE X e ta) (hb : attributeBase e f X.env (eval e X.env) = eval e X.env) : PE X (.Attribute e f pos) (tFld X.K ta f) := by
  intro pins s σ H Q I h
  refine attr_of hb (thn (he pins s σ H _ I h) fun u s1 ⟨x, H1, I1, rx, a, C, dx, fs, v, ex, ea, c, n, l, q⟩ => ?_)
  subst ex
  obtain rfl : u = Value.ref a := rx
  exact getattr_ok I1 ea c n l fun u' s2 I2 ru => ⟨v, H1, I2, ru, q⟩
theorem ps_fld (ha : PE X o ta) (hv : PE X value tv) (hs : swapsWith value (some (.Attribute o f pos')) pos.line X.env = pure false) : PS X (.Assign [.Attribute o f pos'] value pos) (sFld X.K ta tv f) := by
  intro pins s σ H D I h
  refine plainObj_wpAny_Assign_Attribute (thn (hv pins s σ H _ I h) fun u s1 ⟨y, H1, I1, ry, q⟩ => thn (ha pins s1 σ H1 _ I1 q) fun ov s2 ⟨x, H2, I2, rx, a, C, dx, fs, ex, ea, c, n, l, q2⟩ => ?_) hs
  subst ex
  obtain rfl : ov = Value.ref a := rx
  exact setattr_ok I2 ea c n l ry fun s3 I3 => ⟨σ, _, I3, q2⟩
end

/-! ### isinstance -/
section
variable {X : Cx} {pins : List (Addr × Obj)} {σ : St} {H : Hp} {s : Shared} {A : Around} {E : Value → Shared → Prop} {Q : Value → Shared → Prop} {c : Value} {b : Bool}
/-- the type of a value, as the fragment's deciders take it; for an instance its class -/
inductive TyOf (K : PySem.W.Frag) (H : Hp) : V → Value → Prop where
  | non : TyOf K H .non (.type "NoneType")
  | bl (x : Bool) : TyOf K H (.bl x) (.type "bool")
  | int (i : Int) : TyOf K H (.int i) (.type "int")
  | str (x : Str) : TyOf K H (.str x) (.type "str")
  | flt (x : UInt64) : TyOf K H (.flt x) (.type "float")
  | lst {a : Addr} {xs : List V} (e : H a = some (.lst xs)) : TyOf K H (.ref a) (.type "list")
  | frz {a : Addr} {o : Obj} {xs : List V} (e : H a = some (.frz o (.lst xs))) : TyOf K H (.ref a) (.type "list")
  | tup {a : Addr} {xs : List V} (e : H a = some (.tup xs)) : TyOf K H (.ref a) (.type "tuple")
  | dK {a : Addr} {kvs : List (Key × V)} (e : H a = some (.dK kvs)) : TyOf K H (.ref a) (.type "dict")
  | dT {a : Addr} {kvs : List (List Key × V)} (e : H a = some (.dT kvs)) : TyOf K H (.ref a) (.type "dict")
  | ins {a C dx : Addr} {fs : List (Str × V)} (e : H a = some (.ins C dx fs)) (cl : Cls K C) (ha : PySem.W.findIn K (.ref C) "__class__" = some (some (.builtin "object.__class__")))
      (hn : PySem.W.specialIn K (.builtin "object.__class__") "__get__" = some (some (.builtin "getset_descriptor.__get__"))) (htk : PySem.W.takesIn K (.builtin "object.__class__") = some true)
      (hm : PySem.W.mroIn K C (.type "object") = some true) : TyOf K H (.ref a) (.ref C)
/-- isinstance(x, c) for one class c, a built-in or an own one: kitOne's answer -/
theorem isinst_ok {x : V} {u t : Value} (I : Inv X pins σ H s) (rx : RelV x u) (ty : TyOf X.K H x t) (e : PySem.W.kitOne X.K t c = some b) (h : ∀ tk, Q (.bool b) { s with toks := tk }) :
    wpAny (model X.prog X.w) A (call (.builtin "isinstance") [u, c]) Q E s := by
  cases ty with
  | non => cases (show u = Value.none from rx); exact PySem.W.kia_one PySem.W.kitx_none I.kIn True.intro e (fun z => nomatch z) h
  | bl y => cases (show u = Value.bool y from rx); exact PySem.W.kia_one PySem.W.kitx_bool I.kIn True.intro e (fun z => nomatch z) h
  | int i => obtain ⟨t, q⟩ := (show ∃ t, u = Value.int i t from rx); cases q; exact PySem.W.kia_one PySem.W.kitx_int I.kIn True.intro e (fun z => nomatch z) h
  | str y => obtain ⟨t, q⟩ := (show ∃ t, u = Value.str y t from rx); cases q; exact PySem.W.kia_one PySem.W.kitx_str I.kIn True.intro e (fun z => nomatch z) h
  | flt y => obtain ⟨t, q⟩ := (show ∃ t, u = Value.float y t from rx); cases q; exact PySem.W.kia_one PySem.W.kitx_float I.kIn True.intro e (fun z => nomatch z) h
  | @lst a xs ea =>
    cases (show u = Value.ref a from rx)
    obtain ⟨_, _, n, _, h1⟩ := (show ObjOk X.prog X.w H s.heap a (.lst xs) from I.hok a _ ea)
    exact PySem.W.kia_one PySem.W.kitx_list I.kIn ⟨_, h1, rfl⟩ e (fun z => nomatch z) h
  | @frz a ob xs ea =>
    cases (show u = Value.ref a from rx)
    obtain ⟨_, _, _, n, _, h1⟩ := (show ObjOk X.prog X.w H s.heap a (.frz ob (.lst xs)) from I.hok a _ ea)
    exact PySem.W.kia_one PySem.W.kitx_list I.kIn ⟨_, h1, rfl⟩ e (fun z => nomatch z) h
  | @tup a xs ea =>
    cases (show u = Value.ref a from rx)
    obtain ⟨_, _, _, p⟩ := (show ObjOk X.prog X.w H s.heap a (.tup xs) from I.hok a _ ea)
    obtain ⟨o, h1, h2, _⟩ := p
    exact PySem.W.kia_one PySem.W.kitx_tuple I.kIn ⟨o, h1, h2⟩ e (fun z => nomatch z) h
  | @dK a kvs ea =>
    cases (show u = Value.ref a from rx)
    obtain ⟨_, _, vs, _, p⟩ := (show ObjOk X.prog X.w H s.heap a (.dK kvs) from I.hok a _ ea)
    obtain ⟨o, es, ep, h1, h2, _⟩ := p
    exact PySem.W.kia_one PySem.W.kitx_dict I.kIn ⟨o, h1, h2.1⟩ e (fun z => nomatch z) h
  | @dT a kvs ea =>
    cases (show u = Value.ref a from rx)
    obtain ⟨_, _, xs, _, o, es, ep, h1, h2, _⟩ := (show ObjOk X.prog X.w H s.heap a (.dT kvs) from I.hok a _ ea)
    exact PySem.W.kia_one PySem.W.kitx_dict I.kIn ⟨o, h1, h2.1⟩ e (fun z => nomatch z) h
  | @ins a C dx fs ea cl ha hn htk hm =>
    cases (show u = Value.ref a from rx)
    obtain ⟨mA, O, _⟩ := ins_get I.hok ea
    obtain ⟨od, J, _⟩ := O.look
    exact PySem.W.kia_one (PySem.W.kitx_own (cl.get _) cl.hd ha hn htk hm) I.kIn J e (fun z => nomatch z) h
end
end L2

namespace L2
open PySem PySem.Spec PyProof.Rows

/-! ### room -/
structure Room (k : Nat) (A : Around) : Prop where
  hd : A.handled = none
  dp : A.depth + 3 * k + 5 < recursionLimit
  un : A.units + 16 * k + 200 < cLine
theorem Room.mono {j k : Nat} {A : Around} (r : Room k A) (h : j ≤ k) : Room j A := ⟨r.hd, by have := r.dp; omega, by have := r.un; omega⟩
theorem Room.deeper {k : Nat} {A : Around} (r : Room (k + 1) A) (env : Env) : Room k (A.deeper env) :=
  ⟨r.hd, by have := r.dp; show A.depth + 1 + 3 * k + 5 < _; omega, by have := r.un; show A.units + 3 + 16 * k + 200 < _; omega⟩
theorem make_depth {A : Around} {C : Addr} {us : List Value} {kw : List (Str × Value)} : (A.under (.builtin "type.__call__" ⟨.ref C :: us, kw⟩)).depth = A.depth + 1 := by
  first | rfl | simp [Around.under, Code.weight, Code.isCreation, Code.isGuard, Code.isCaller, Code.frames, Code.isFrame, guardIds]
theorem make_units {A : Around} {C : Addr} {us : List Value} {kw : List (Str × Value)} : (A.under (.builtin "type.__call__" ⟨.ref C :: us, kw⟩)).units = A.units + 1 := by
  first | rfl | simp [Around.under, Code.cUnits, Code.frames, Code.isFrame]
theorem Room.make {k : Nat} {A : Around} (r : Room (k + 1) A) (C : Addr) (us : List Value) (kw : List (Str × Value)) : Room k (A.under (.builtin "type.__call__" ⟨.ref C :: us, kw⟩)) :=
  ⟨r.hd, by have := r.dp; rw [make_depth]; omega, by have := r.un; rw [make_units]; omega⟩
theorem Room.depth {k : Nat} {A : Around} (r : Room k A) : A.depth < recursionLimit := by have := r.dp; omega
theorem Room.units {k : Nat} {A : Around} (r : Room k A) : A.units + 64 < cLine := by have := r.un; omega
/-! ### argument lists and displays -/
def tNil : TA := fun _ H Q => Q [] H
def tCons (ta : TE) (tr : TA) : TA := fun σ H Q => ta σ H fun x H1 => tr σ H1 fun xs H2 => Q (x :: xs) H2
section
variable {X : Cx} {e : Expr} {es : List Expr} {te : TE} {t : TA} {pos : Pos}
theorem pa_nil : PA X [] tNil := fun _ _ _ _ H Q I h => Calls.spliced_nil ⟨[], H, I, .nil, h⟩
theorem pa_cons (ha : PE X e te) (hr : PA X es t) (hs : starEach (e :: es) X.env = (false, eval e X.env) :: starEach es X.env := by rfl) : PA X (e :: es) (tCons te t) := by
  intro pos pins s σ H Q I h
  rw [hs]
  show wpAny _ _ (spliced ((false, eval e X.env) :: backTo pos (starEach es X.env))) _ _ s
  refine Calls.spliced_cons (thn (ha pins s σ H _ I h) fun u s1 ⟨x, H1, I1, r1, q1⟩ => ?_)
  exact thn (hr pos pins s1 σ H1 _ I1 q1) fun us s2 ⟨xs, H2, I2, r2, q2⟩ => ⟨x :: xs, H2, I2, .cons r1 r2, q2⟩

/-- a tuple, a list of written items -/
def tTup (t : TA) : TE := fun σ H Q => t σ H fun xs H1 => xs.length ≤ sizeLine ∧ ∀ p, H1 p = none → Q (.ref p) (upd H1 p (.tup xs))
def tLst (t : TA) : TE := fun σ H Q => t σ H fun xs H1 => xs.length ≤ sizeLine ∧ ∀ p, H1 p = none → Q (.ref p) (upd H1 p (.lst xs))
theorem pe_tup {x1} (h : PA X es t) : PE X (.Tuple es x1 pos) (tTup t) := by
  intro pins s σ H Q I hq
  refine wpAny_Tuple_spliced (thn (h pos pins s σ H _ I hq) fun us s1 ⟨xs, H1, I1, r, z, q⟩ => ⟨by rw [← r.length]; exact z, ?_⟩)
  have hf : H1 s1.heap.objs.size = none := I1.hok.fresh (Nat.le_refl _)
  refine ⟨.ref s1.heap.objs.size, upd H1 s1.heap.objs.size (.tup xs), I1.laid (t' := s1.toks) (fun b u e => Heap.get?_push_of_some _ e) (Nat.le_refl _) ?_, rfl, q _ hf⟩
  exact ⟨z, us, r, ⟨_, Heap.get?_push_size _ rfl, rfl, _, rfl⟩⟩
theorem pe_lst (h : PA X es t) : PE X (.List es pos) (tLst t) := by
  intro pins s σ H Q I hq
  refine wpAny_List_spliced (thn (h pos pins s σ H _ I hq) fun us s1 ⟨xs, H1, I1, r, z, q⟩ => ⟨by rw [← r.length]; exact z, ?_⟩)
  have hf : H1 s1.heap.objs.size = none := I1.hok.fresh (Nat.le_refl _)
  refine ⟨.ref s1.heap.objs.size, upd H1 s1.heap.objs.size (.lst xs), I1.laid (t' := s1.toks) (fun b u e => Heap.get?_push_of_some _ e) (Nat.le_refl _) ?_, rfl, q _ hf⟩
  exact ⟨z, us, 0, r, Heap.get?_push_size _ rfl⟩
end

/-! ### what a def promises -/
/-- a def's promise: the bound arguments in the parameters' order, the heap, the wanted end, the wanted exception -/
abbrev Sp := List V → Hp → VK → XK → Prop
/-- how an exception lies behind a call (file 08 gives it): the callers' frames, abstract heap and state ahead of the call, the wish, the exception, the state -/
abbrev CXT := List Env → Hp → Shared → XK → Value → Shared → Prop

/-- the state at a call -/
structure Env0 (P : Program) (w : World) (K : PySem.W.Frag) (mg : Str → Option Value) (base : Heap) (A : Around) (outer : List Env) (s : Shared) (H : Hp) : Prop where
  frames : A.frames = some outer
  mod : Mod K mg base
  bs : ∀ b o, base.get? b = some o → s.heap.get? b = some o ∧ H b = none
  bsz : base.objs.size ≤ s.heap.objs.size
  funs : s.heap.FunFrames base outer
  frf : ∀ b ∈ frs outer, H b = none
  hok : HOk P w H s.heap
  bare : AllBare s.gens
/-- a call's end -/
def CE (outer : List Env) (P : Program) (w : World) (H : Hp) (s : Shared) (Q : VK) (u : Value) (s' : Shared) : Prop :=
  ∃ v H', s'.os = s.os ∧ AllBare s'.gens ∧ Un (frs outer) [] H H' s.heap s'.heap ∧ HOk P w H' s'.heap ∧ RelV v u ∧ Q v H'
def CR (CX : CXT) (outer : List Env) (P : Program) (w : World) (H : Hp) (s : Shared) (Q : VK) (E : XK) (r : Result) (s' : Shared) : Prop :=
  match r with
  | .ok (.ret u) => CE outer P w H s Q u s'
  | .ok _ => False
  | .error e => CX outer H s E e s'
structure FnOk (P : Program) (w : World) (K : PySem.W.Frag) (mg : Str → Option Value) (base : Heap) (CX : CXT) (k : Nat) (f : Addr) (fd : FuncData) (ps : List Str) (sp : Sp) : Prop where
  len : ∀ vs H Q E, sp vs H Q E → vs.length = ps.length
  run : ∀ (A : Around) (outer : List Env) (s : Shared) (H : Hp) (args : Args) (us : List Value) (vs : List V) (Q : VK) (E : XK), Room k A → Env0 P w K mg base A outer s H → BindsTo s fd args (ps.zip us) → Vals vs us → sp vs H Q E →
    codeAny (model P w) A (.call (.ref f) args) (CR CX outer P w H s Q E) s
theorem Env0.make {P : Program} {w : World} {K : PySem.W.Frag} {mg : Str → Option Value} {base : Heap} {A : Around} {outer : List Env} {s : Shared} {H : Hp} (e : Env0 P w K mg base A outer s H) (C : Addr) (us : List Value) (kw : List (Str × Value)) :
    Env0 P w K mg base (A.under (.builtin "type.__call__" ⟨.ref C :: us, kw⟩)) outer s H := ⟨by first | exact e.frames | (simpa [Around.under, Code.envs, Code.isFrame, pushEnvs] using e.frames), e.mod, e.bs, e.bsz, e.funs, e.frf, e.hok, e.bare⟩
section
variable {X : Cx} {pins : List (Addr × Obj)} {σ : St} {H : Hp} {s s' : Shared}
/-- from a body: what a callee wants -/
theorem Inv.env0 (I : Inv X pins σ H s) : Env0 X.prog X.w X.K X.mg X.base X.A X.stack s H :=
  ⟨I.ok.frames, I.ok.mod, I.bs, Nat.le_trans I.ok.bsz I.sz, I.stack, I.stkFree, I.hok, I.bare⟩
/-- behind a call -/
theorem Inv.after {Q : VK} {u : Value} (I : Inv X pins σ H s) (h : CE X.stack X.prog X.w H s Q u s') : EP X pins σ Q u s' := by
  obtain ⟨v, H', os, bare, un, hok, r, q⟩ := h
  obtain ⟨hh, g, d, t, os'⟩ := s'
  obtain rfl : os' = s.os := os
  exact ⟨v, H', I.call (h' := hh) (g' := g) (d' := d) (t' := t) (ch := []) un hok bare (fun b z => absurd z (by simp)), r, q⟩
end

/-! ### calls -/
/-- f(..): the written arguments, then the defaults dvs; E: what is wanted of an exception -/
def tCall (sp : Sp) (dvs : List V) (E : XK) (t : TA) : TE := fun σ H Q => t σ H fun vs H1 => sp (vs ++ dvs) H1 Q E
/-- o.m(..) of an instance of the class at C -/
def tMeth (C : Addr) (m : Str) (sp : Sp) (dvs : List V) (E : XK) (ta : TE) (t : TA) : TE := fun σ H Q => ta σ H fun x H1 => ∃ a dx fs, x = .ref a ∧ H1 a = some (.ins C dx fs) ∧ fs.lookup m = none ∧
  t σ H1 fun vs H2 => sp (x :: (vs ++ dvs)) H2 Q E
/-- C(..): a new instance and its dict, then __init__ -/
def tMake (C : Addr) (sp : Sp) (dvs : List V) (E : XK) (t : TA) : TE := fun σ H Q => t σ H fun vs H1 => ∀ x dx, H1 x = none → H1 dx = none → dx ≠ x →
  sp (.ref x :: (vs ++ dvs)) (upd (upd H1 dx (.own x)) x (.ins C dx [])) (fun v H2 => v = .non ∧ Q (.ref x) H2) E

/-- how the parameters are bound: us the positional arguments, kw the keywords' values by name, ds the defaults that fill up -/
def Binds (K : PySem.W.Frag) (fd : FuncData) (ps : List Str) (ds : List Value) : Prop :=
  ∀ (s : Shared) (us : List Value), K.In s.heap → (us ++ ds).length = ps.length → BindsTo s fd ⟨us, []⟩ (ps.zip (us ++ ds))
/-- every parameter is given -/
theorem Binds.all {K : PySem.W.Frag} {fd : FuncData} {ps : List Str} (h : ∀ us : List Value, us.length = ps.length → bindArgs fd ⟨us, []⟩ = pure (ps.zip us)) : Binds K fd ps [] := fun s us _ hl => by
  rw [List.append_nil] at hl ⊢
  exact .of_eq (h us hl)

/-- an exception of a callee reaches what this body wants of exceptions -/
def Passes (CX : CXT) (X : Cx) (E : XK) : Prop := ∀ (pins : List (Addr × Obj)) (σ : St) (H : Hp) (s : Shared) (e : Value) (s' : Shared), Inv X pins σ H s → CX X.stack H s E e s' → X.xe e s'

section
variable {X : Cx} {CX : CXT} {k : Nat} {f C : Addr} {fd : FuncData} {ps : List Str} {sp : Sp} {dvs : List V} {ds : List Value} {E : XK} {x m : Str} {p pos apos : Pos} {e o : Expr} {es : List Expr} {ta : TE} {t : TA}

/-- the callee runs -/
theorem run_fn {pins : List (Addr × Obj)} {σ : St} {H : Hp} {s : Shared} {Q : VK} {us : List Value} {vs : List V} (F : FnOk X.prog X.w X.K X.mg X.base CX k f fd ps sp) (hr : Room k X.A) (hb : Binds X.K fd ps ds) (hd : Vals dvs ds) (hx : Passes CX X E)
    (I : Inv X pins σ H s) (r : Vals vs us) (h : sp (vs ++ dvs) H Q E) : wpAny (model X.prog X.w) X.A (call (.ref f) us) (EP X pins σ Q) X.xe s := by
  have r2 : Vals (vs ++ dvs) (us ++ ds) := r.append hd
  have hl : (us ++ ds).length = ps.length := by rw [← r2.length]; exact F.len _ _ _ _ h
  refine wpAny_call (codeAny_mono (F.run X.A X.stack s H ⟨us, []⟩ (us ++ ds) (vs ++ dvs) Q E hr I.env0 (hb s us I.kIn hl) r2 h) fun r s' hq => ?_)
  cases r with
  | error e => exact hx pins σ H s e s' I hq
  | ok fl =>
    cases fl with
    | ret u => exact I.after hq
    | next => exact False.elim hq
    | brk => exact False.elim hq
    | cont => exact False.elim hq

theorem pe_call (F : FnOk X.prog X.w X.K X.mg X.base CX k f fd ps sp) (hr : Room k X.A) (hg : Gl X x) (hm : X.mg x = some (.ref f)) (hk : PySem.W.keepIn X.K (.ref f) = true) (hb : Binds X.K fd ps ds) (hd : Vals dvs ds) (hx : Passes CX X E)
    (ha : PA X (e :: es) t) (hdb : (x == ("__debug__" : Str)) = false := by decide) (he : starEach (e :: es) X.env = (false, eval e X.env) :: starEach es X.env := by rfl) (hpl : (backTo pos (starEach es X.env)).any (·.1) = false := by rfl) :
    PE X (.Call (.Name x p) (e :: es) [] pos) (tCall sp dvs E t) := by
  intro pins s σ H Q I h
  refine wpAny_Call_Name_kw (ld_glob I hg hm ?_ hdb)
  refine PySem.W.callWith_K (h₀ := X.base) I.ok.mod.kin hk (thn (ha pos pins s σ H _ I h) fun us s1 ⟨vs, H1, I1, r, q⟩ => ⟨I1.kIn, ?_⟩) he hpl
  exact run_fn F hr hb hd hx I1 r q
/-- o.m(e, ..) -/
theorem pe_meth {pl : Sem Bool} (he : PE X o ta) (c : Cls X.K C) (hm : Meth X.K C m f) (F : FnOk X.prog X.w X.K X.mg X.base CX k f fd ps sp) (hr : Room k X.A) (hb : Binds X.K fd ps ds) (hd : Vals dvs ds) (hx : Passes CX X E) (ha : PA X (e :: es) t)
    (hst : starEach (e :: es) X.env = (false, eval e X.env) :: starEach es X.env := by rfl) (hpl : (backTo pos (starEach es X.env)).any (·.1) = false := by rfl)
    (ht : eval (.Call (.Attribute o m apos) (e :: es) [] pos) X.env = (do
      let ov ← eval o X.env
      standAt apos.atName
      let (f, first) ← holding [ov] (getMethod ov m pl)
      callWith pos f first (backTo pos (starEach (e :: es) X.env)) (backToKw pos (keywordEach [] X.env))) := by rfl) :
    PE X (.Call (.Attribute o m apos) (e :: es) [] pos) (tMeth C m sp dvs E ta t) := by
  intro pins s σ H Q I h
  refine PySem.W.methodCall_KW (pl := pl) (thn (he pins s σ H _ I h) fun u s1 ⟨x, H1, I1, rx, a, dx, fs, ex, ea, l, q⟩ => ?_) ht
  subst ex
  obtain rfl : u = Value.ref a := rx
  refine getmeth_ok I1 ea c hm l ?_
  refine PySem.W.callWith_K (first := [.ref a]) (h₀ := X.base) I.ok.mod.kin hm.kp (thn (ha pos pins s1 σ H1 _ I1 q) fun us s2 ⟨vs, H2, I2, r, q2⟩ => ⟨I2.kIn, ?_⟩) hst hpl
  exact run_fn (us := .ref a :: us) (vs := .ref a :: vs) F hr hb hd hx I2 (.cons rfl r) q2
/-- what a class must have to be made -/
structure Mk (K : PySem.W.Frag) (C f : Addr) : Prop where
  makes : PySem.W.makesIn K C = true
  init : PySem.W.findIn K (.ref C) "__init__" = some (some (.ref f))
  fn : PySem.W.isFn K (.ref f) = true
  kp : PySem.W.keepIn K (.ref C) = true

theorem run_make {pins : List (Addr × Obj)} {σ : St} {H : Hp} {s : Shared} {Q : VK} {us : List Value} {vs : List V} (M : Mk X.K C f) (F : FnOk X.prog X.w X.K X.mg X.base CX k f fd ps sp) (hr : Room (k + 1) X.A) (hb : Binds X.K fd ps ds) (hd : Vals dvs ds)
    (hx : Passes CX X E) (I : Inv X pins σ H s) (r : Vals vs us)
    (h : ∀ x dx, H x = none → H dx = none → dx ≠ x → sp (.ref x :: (vs ++ dvs)) (upd (upd H dx (.own x)) x (.ins C dx [])) (fun v H2 => v = .non ∧ Q (.ref x) H2) E) :
    wpAny (model X.prog X.w) X.A (call (.ref C) us) (EP X pins σ Q) X.xe s := by
  have hq := h (s.heap.objs.size + 1) s.heap.objs.size (I.hok.fresh (Nat.le_succ _)) (I.hok.fresh (Nat.le_refl _)) (Nat.ne_of_lt (Nat.lt_succ_self _))
  have I2 := Inv.made (C := C) I
  have r2 : Vals (V.ref (s.heap.objs.size + 1) :: (vs ++ dvs)) (Value.ref (s.heap.objs.size + 1) :: (us ++ ds)) := .cons rfl (r.append hd)
  have hl : (Value.ref (s.heap.objs.size + 1) :: us ++ ds).length = ps.length := by
    have e := r2.length
    rw [F.len _ _ _ _ hq] at e
    exact e.symm
  refine wpAny_call (make_map (f := f) I.kIn M.makes M.init (beq_iff_eq.mp M.fn) (codeAny_mono (F.run _ X.stack _ _ ⟨Value.ref (s.heap.objs.size + 1) :: us, []⟩ (Value.ref (s.heap.objs.size + 1) :: (us ++ ds)) _ _ E (hr.make C us [])
    (I2.env0.make C us []) (hb _ (Value.ref (s.heap.objs.size + 1) :: us) I2.kIn hl) r2 hq) fun r s' hq' => ?_))
  cases r with
  | error e => exact hx pins σ _ _ e s' I2 hq'
  | ok fl =>
    cases fl with
    | ret u =>
      obtain ⟨v, H', I3, rv, ev, q3⟩ := I2.after hq'
      subst ev
      exact ⟨rv, ⟨V.ref (s.heap.objs.size + 1), H', I3, rfl, q3⟩⟩
    | next => exact False.elim hq'
    | brk => exact False.elim hq'
    | cont => exact False.elim hq'
theorem pe_make (M : Mk X.K C f) (F : FnOk X.prog X.w X.K X.mg X.base CX k f fd ps sp) (hr : Room (k + 1) X.A) (hg : Gl X x) (hm : X.mg x = some (.ref C)) (hb : Binds X.K fd ps ds) (hd : Vals dvs ds) (hx : Passes CX X E)
    (ha : PA X (e :: es) t) (hdb : (x == ("__debug__" : Str)) = false := by decide) (he : starEach (e :: es) X.env = (false, eval e X.env) :: starEach es X.env := by rfl) (hpl : (backTo pos (starEach es X.env)).any (·.1) = false := by rfl) :
    PE X (.Call (.Name x p) (e :: es) [] pos) (tMake C sp dvs E t) := by
  intro pins s σ H Q I h
  refine wpAny_Call_Name_kw (ld_glob I hg hm ?_ hdb)
  refine PySem.W.callWith_K (h₀ := X.base) I.ok.mod.kin M.kp (thn (ha pos pins s σ H _ I h) fun us s1 ⟨vs, H1, I1, r, q⟩ => ⟨I1.kIn, ?_⟩) he hpl
  exact run_make M F hr hb hd hx I1 r q
end

/-! ### keywords -/
section
variable {X : Cx} {CX : CXT} {k : Nat} {f C : Addr} {fd : FuncData} {ps ks : List Str} {sp : Sp} {E : XK} {x m : Str} {p pos apos kpos : Pos} {e o : Expr} {es : List Expr} {kws : List Keyword} {te ta : TE} {t tk : TA} {nm : Option Str}
/-- how a call with keywords binds: g puts the positional values us and the keywords' values ws (names ks) in the parameters' order, defaults among them -/
structure KBinds (K : PySem.W.Frag) (fd : FuncData) (ps ks : List Str) (g : List Value → List Value → List Value) (gV : List V → List V → List V) : Prop where
  to : ∀ (s : Shared) (us ws : List Value), K.In s.heap → (g us ws).length = ps.length → BindsTo s fd ⟨us, ks.zip ws⟩ (ps.zip (g us ws))
  rel : ∀ {vs : List V} {us : List Value} {zs : List V} {ws : List Value}, Vals vs us → Vals zs ws → Vals (gV vs zs) (g us ws)
variable {g : List Value → List Value → List Value} {gV : List V → List V → List V}
end

/-! ### a def's body keeps its promise -/
/-- names: the parameters first -/
structure FnScope (N P : List Str) (sc : Scope) : Prop where
  kind : sc.kind = .function
  co : sc.isCoroutine = false
  gen : sc.isGenerator = false
  nd : N.Nodup
  pre : N.take P.length = P
  par : ∀ x ∈ P, sc.names.lookup x = some .local ∨ sc.names.lookup x = some .cell
  nofree : ∀ y ∈ sc.names, y.2 ≠ .free

theorem bindL_out {kindOf : Str → Option NameKind} {x : Str} : ∀ {binds : List (Str × Value)} {m : Str → Option Value}, (∀ v, (x, v) ∉ binds) → bindL kindOf binds m x = m x
  | [], _, _ => rfl
  | (n, v) :: r, m, h => by
    unfold bindL
    rw [bindL_out fun w hw => h w (List.mem_cons_of_mem _ hw)]
    split
    · have : x ≠ n := by rintro rfl; exact h v List.mem_cons_self
      simp [this]
    · rfl
theorem bindC_out {kindOf : Str → Option NameKind} {x : Str} : ∀ {binds : List (Str × Value)} {m : Str → Option Value}, (∀ v, (x, v) ∉ binds) → bindC kindOf binds m x = m x
  | [], _, _ => rfl
  | (n, v) :: r, m, h => by
    unfold bindC
    rw [bindC_out fun w hw => h w (List.mem_cons_of_mem _ hw)]
    split
    · rfl
    · have : x ≠ n := by rintro rfl; exact h v List.mem_cons_self
      simp [this]
theorem bindL_get {kindOf : Str → Option NameKind} {x : Str} {v : Value} : ∀ {P : List Str} {vs : List Value} {i : Nat} {m : Str → Option Value}, P.Nodup → P[i]? = some x → vs[i]? = some v → kindOf x = some .local →
    bindL kindOf (P.zip vs) m x = some v
  | [], _, _, _, _, h, _, _ => by simp at h
  | _ :: _, [], _, _, _, _, h, _ => by simp at h
  | p :: P, w :: vs, 0, m, nd, h1, h2, hk => by
    simp at h1 h2; subst h1; subst h2
    show bindL kindOf ((p, w) :: P.zip vs) m p = _
    unfold bindL
    rw [bindL_out fun v hv => (List.nodup_cons.mp nd).1 (List.of_mem_zip hv).1, if_pos hk]
    simp
  | p :: P, w :: vs, i + 1, m, nd, h1, h2, hk => by
    show bindL kindOf ((p, w) :: P.zip vs) m x = _
    unfold bindL
    exact bindL_get (i := i) (List.nodup_cons.mp nd).2 (by simpa using h1) (by simpa using h2) hk
theorem bindC_get {kindOf : Str → Option NameKind} {x : Str} {v : Value} : ∀ {P : List Str} {vs : List Value} {i : Nat} {m : Str → Option Value}, P.Nodup → P[i]? = some x → vs[i]? = some v → kindOf x ≠ some .local →
    bindC kindOf (P.zip vs) m x = some v
  | [], _, _, _, _, h, _, _ => by simp at h
  | _ :: _, [], _, _, _, _, h, _ => by simp at h
  | p :: P, w :: vs, 0, m, nd, h1, h2, hk => by
    simp at h1 h2; subst h1; subst h2
    show bindC kindOf ((p, w) :: P.zip vs) m p = _
    unfold bindC
    rw [bindC_out fun v hv => (List.nodup_cons.mp nd).1 (List.of_mem_zip hv).1, if_neg hk]
    simp
  | p :: P, w :: vs, i + 1, m, nd, h1, h2, hk => by
    show bindC kindOf ((p, w) :: P.zip vs) m x = _
    unfold bindC
    exact bindC_get (i := i) (List.nodup_cons.mp nd).2 (by simpa using h1) (by simpa using h2) hk

/-- the names' values at the entry -/
def start (N : List Str) (vs : List V) : St := vs.map some ++ List.replicate (N.length - vs.length) none

/-- the context of a def's body, at its entry; an exception leaves the frame, then lies as CX says -/
def cxOf (CX : CXT) (P : Program) (w : World) (K : PySem.W.Frag) (mg : Str → Option Value) (base : Heap) (N : List Str) (qual : Str) (scope : Scope) (f : Addr) (cd : Value) (A : Around) (outer : List Env) (s : Shared) (H : Hp) (E : XK) : Cx where
  prog := P
  w := w
  K := K
  mg := mg
  base := base
  A := A.deeper (envOfC qual scope s.heap.objs.size f cd)
  N := N
  s₀ := s
  H₀ := H
  env := envOfC qual scope s.heap.objs.size f cd
  outer := outer
  stack := envOfC qual scope s.heap.objs.size f cd :: outer
  ex := []
  calm := true
  fn := fun _ => true
  pn := []
  xe := fun e s' => wpAny (model P w) (A.deeper (envOfC qual scope s.heap.objs.size f cd)) (leaving (envOfC qual scope s.heap.objs.size f cd) e) (fun _ s'' => CX outer H s E e s'') (fun e' s'' => CX outer H s E e' s'') s'

theorem cell_has {sc : Scope} {n : Nat} {x : Str} (h : sc.names.lookup x = some .cell) : ∃ c, (cellsFrom n sc.names []).lookup x = some c := by
  have q := PySem.W.cellsFrom_some sc.names n [] (.inl h)
  exact Option.isSome_iff_exists.mp q

theorem inv_start {CX : CXT} {P : Program} {w : World} {K : PySem.W.Frag} {mg : Str → Option Value} {base : Heap} {N ps : List Str} {qual : Str} {scope : Scope} {f : Addr} {cd : Value} {A : Around} {outer : List Env} {s s1 : Shared} {H : Hp} {E : XK} {us : List Value} {vs : List V}
    (S : FnScope N ps scope) (hd : A.handled = none) (e0 : Env0 P w K mg base A outer s H) (hl : vs.length = ps.length) (r : Vals vs us)
    (x : InCallC s s.heap.objs.size (bindL (envOfC qual scope s.heap.objs.size f cd).kindOf (ps.zip us) fun _ => none) (cellsFrom (s.heap.objs.size + 1) scope.names []) (bindC (envOfC qual scope s.heap.objs.size f cd).kindOf (ps.zip us) fun _ => none) s1) :
    Inv (cxOf CX P w K mg base N qual scope f cd A outer s H E) [] (start N vs) H s1 := by
  have hpl : ps.length ≤ N.length := by have := congrArg List.length S.pre; rw [List.length_take] at this; omega
  obtain ⟨h1, tk, rfl, hk⟩ := x.done
  have noA : ∀ b : Addr, b ∉ (cxOf CX P w K mg base N qual scope f cd A outer s H E).ex := fun b z => absurd (show b ∈ ([] : List Addr) from z) (by simp)
  refine ⟨⟨e0.mod, S.kind, rfl, rfl, Nat.le_refl _, fun y z c h1 h2 => ?_, fun y hy => ?_, fun y c _ h => ?_, fun _ => hd, Around.frames_deeper e0.frames, .inr ⟨rfl, rfl⟩, fun b z => absurd z (noA b), e0.bs, e0.bsz, fun b _ _ => noA b, fun b z => absurd z (noA b), e0.funs, e0.frf⟩,
    rfl, e0.bare, Un.kept hk, ⟨_, x.toInCall.ns, fun i y v h1 h2 h3 => ?_⟩, fun y c h => ⟨_, x.cell y c h⟩, e0.hok.fresh (Nat.le_refl _), fun y c h => ?_, fun p hp => absurd (show p ∈ ([] : List (Addr × Obj)) from hp) (by simp), e0.hok.kept hk, ?_⟩
  · exact name_of_addr x.apart (PySem.mem_of_lookup h1) (PySem.mem_of_lookup h2)
  · have hy : scope.names.lookup y = some .cell ∨ scope.names.lookup y = some .free := hy
    rcases hy with hy | hy
    · exact cell_has hy
    · exact absurd rfl (S.nofree _ (PySem.mem_of_lookup hy))
  · exact Nat.le_of_lt (x.above y c (PySem.mem_of_lookup h))
  · have hi : i < vs.length := by
      unfold start at h2
      by_cases hi : i < vs.length
      · exact hi
      · rw [List.getElem?_append_right (by simpa using hi)] at h2
        rw [List.getElem?_replicate] at h2
        split at h2 <;> cases h2
    have ha : vs[i]? = some v := by
      unfold start at h2
      rw [List.getElem?_append_left (by simpa using hi), List.getElem?_map] at h2
      cases e : vs[i]? with
      | none => rw [e] at h2; cases h2
      | some a => rw [e] at h2; cases h2; rfl
    obtain ⟨u, hu, rv⟩ := r.get ha
    have hp : ps[i]? = some y := by
      rw [← S.pre, List.getElem?_take_of_lt (by omega)]; exact h1
    have ndP : ps.Nodup := by rw [← S.pre]; exact S.nd.sublist (List.take_sublist _ _)
    refine ⟨u, rv, ?_⟩
    rcases S.par y (List.mem_of_getElem? hp) with k | k
    · exact .inl ⟨k, bindL_get ndP hp hu k⟩
    · obtain ⟨c, e⟩ := cell_has (n := s.heap.objs.size + 1) k
      refine .inr ⟨.inl k, c, e, ?_⟩
      have q := x.cell y c e
      rw [bindC_get ndP hp hu (by show scope.names.lookup y ≠ _; rw [k]; decide)] at q
      exact q
  · exact e0.hok.fresh (Nat.le_of_lt (x.above y c (PySem.mem_of_lookup h)))
  · unfold start
    show _ = N.length
    rw [List.length_append, List.length_map, List.length_replicate]
    omega

/-- THE RULE: a def (or a method) of the text, by its body. The body's reading t is chosen for each entry; it is run at the parameters' values -/
theorem fn_of {CX : CXT} {P : Program} {w : World} {K : PySem.W.Frag} {mg : Str → Option Value} {base : Heap} {k : Nat} {f : Addr} {name qual : Str} {params : Arguments} {body : List Stmt} {scope : Scope} {dV kV doc pm cdv ct oc : Value} {an od : Option Addr}
    {osl : Array (Option Value)} {N ps : List Str} {sp : Sp} (lk : K.lookup f = some ⟨oc, od, .func (PySem.W.fnOf name qual params body scope dV kV doc pm an cdv ct), osl⟩) (hcd : PySem.W.codeIn K cdv qual = true) (S : FnScope N ps scope)
    (len : ∀ vs H Q E, sp vs H Q E → vs.length = ps.length)
    (hbody : ∀ (A : Around) (outer : List Env) (s : Shared) (H : Hp) (vs : List V) (Q : VK) (E : XK), Room k (A.deeper (envOfC qual scope s.heap.objs.size f cdv)) → sp vs H Q E →
      ∃ t, PSs (cxOf CX P w K mg base N qual scope f cdv A outer s H E) body t ∧ t { nx := fun _ H' => Q .non H', rt := Q } (start N vs) H) :
    FnOk P w K mg base CX (k + 1) f (PySem.W.fnOf name qual params body scope dV kV doc pm an cdv ct) ps sp := by
  refine ⟨len, fun A outer s H args us vs Q E hr e0 hb r hsp => ?_⟩
  have hl := len _ _ _ _ hsp
  have KX : K.In s.heap := e0.mod.kin.keeps fun b o e => (e0.bs b o e).1
  have lim : s.heap.NoLimit := e0.mod.nolimit.keeps fun b o e => (e0.bs b o e).1
  have hkind : ∀ y ∈ ps.zip us, scope.names.lookup y.1 = some .local ∨ (scope.names.lookup y.1 = some .cell ∧ ((cellsFrom (s.heap.objs.size + 1) scope.names []).lookup y.1).isSome = true) := fun ⟨n, v⟩ hy => by
    rcases S.par n (List.of_mem_zip hy).1 with q | q
    · exact .inl q
    · exact .inr ⟨q, PySem.W.cellsFrom_some _ _ _ (.inl q)⟩
  refine codeAny_call_function hr.depth (KX _ _ lk) rfl S.co S.gen rfl (PySem.W.codeRec_of KX hcd) (hb _ _ _ _ ?_)
  refine wpAny_newFunctionEnv_cells S.kind hkind fun env he s1 x => ?_
  subst he
  refine ⟨lim.keeps x.toInCall.keep, codeAny_func ?_⟩
  obtain ⟨t, ht, hq⟩ := hbody A outer s H vs Q E (hr.deeper _) hsp
  have I : Inv (cxOf CX P w K mg base N qual scope f cdv A outer s H E) [] (start N vs) H s1 := inv_start S hr.hd e0 hl r x
  refine wpAny_mono (ht [] s1 (start N vs) H _ I hq) (fun fl s' hs => ?_) fun e s' hs => hs
  have fin : ∀ {σ' : St} {H' : Hp} {v : V} {u : Value}, Inv (cxOf CX P w K mg base N qual scope f cdv A outer s H E) [] σ' H' s' → RelV v u → Q v H' → CE outer P w H s Q u s' :=
    fun {σ' H' v u} J rv q => ⟨v, H', J.os, J.bare, J.base, J.hok, rv, q⟩
  cases fl with
  | ret u =>
    obtain ⟨v, σ', H', J, rv, q⟩ := hs
    exact fin J rv q
  | next =>
    obtain ⟨σ', H', J, q⟩ := hs
    exact fin (v := V.non) (u := Value.none) J rfl q
  | brk =>
    obtain ⟨_, _, _, q⟩ := hs
    exact False.elim q
  | cont =>
    obtain ⟨_, _, _, q⟩ := hs
    exact False.elim q
end L2

namespace L2
open PySem PySem.Spec PyProof.Rows
section
variable {X : Cx} {x : Str} {p pos : Pos} {e : Expr} {es : List Expr} {t : TA} {id T : String} {r : List V → Hp → VK → Prop}

def tCB (r : List V → Hp → VK → Prop) (t : TA) : TE := fun σ H Q => t σ H fun vs H1 => r vs H1 Q
/-- f(e, ..), f a built-in function -/
theorem pe_callB (hc : CallR X (.builtin id) r) (hg : Gl X x) (hm : X.mg x = none) (hv : bootBuiltins x = some (.builtin id)) (ha : PA X (e :: es) t) (hn : x ≠ "__name__" := by decide) (hdb : (x == ("__debug__" : Str)) = false := by decide)
    (he : starEach (e :: es) X.env = (false, eval e X.env) :: starEach es X.env := by rfl) (hpl : (backTo pos (starEach es X.env)).any (·.1) = false := by rfl) : PE X (.Call (.Name x p) (e :: es) [] pos) (tCB r t) := by
  intro pins s σ H Q I h
  refine wpAny_Call_Name_kw (ld_blt I hg hm hv ?_ hn hdb)
  exact PyProof.Rows.callWith_builtin1 (thn (ha pos pins s σ H _ I h) fun us s1 ⟨vs, H1, I1, r1, q1⟩ => hc pins s1 σ H1 vs us Q I1 r1 q1) he hpl
/-- T(e, ..), T a built-in type -/
theorem pe_callTy (hc : CallR X (.type T) r) (hg : Gl X x) (hm : X.mg x = none) (hv : bootBuiltins x = some (.type T)) (ha : PA X (e :: es) t) (hn : x ≠ "__name__" := by decide) (hdb : (x == ("__debug__" : Str)) = false := by decide)
    (he : starEach (e :: es) X.env = (false, eval e X.env) :: starEach es X.env := by rfl) (hpl : (backTo pos (starEach es X.env)).any (·.1) = false := by rfl) : PE X (.Call (.Name x p) (e :: es) [] pos) (tCB r t) := by
  intro pins s σ H Q I h
  refine wpAny_Call_Name_kw (ld_blt I hg hm hv ?_ hn hdb)
  exact PyProof.Rows.callWith_type1 (thn (ha pos pins s σ H _ I h) fun us s1 ⟨vs, H1, I1, r1, q1⟩ => hc pins s1 σ H1 vs us Q I1 r1 q1) he hpl
end
end L2

namespace HT
open PySem PyProof.Rows

/-- t < u of tuples of ints -/
def lexLt : List Int → List Int → Bool
  | [], [] => false
  | [], _ :: _ => true
  | _ :: _, [] => false
  | x :: xs, y :: ys => if x = y then lexLt xs ys else decide (x < y)
section
open PySem.SeqAt
open PySem.AutoSeq1 (wpAny_loadPart')
open PySem.MeetsSeq PySem.MeetsSeq2 PySem.MeetsSeq3

end

section
variable {prog : Program} {w : World} {A : Around} {E : Value → Shared → Prop} {s : Shared}

/-! ### t[a:b], not the whole -/
/-- a slice's bound as a place among n (d where it is left out) -/
def sIx (n d : Nat) : Option Int → Nat
  | none => d
  | some v => if v < 0 then (v + (n : Int)).toNat else min v.toNat n
theorem sIx_none (n d : Nat) : sIx n d none = d := rfl
theorem sIx_nat (n d k : Nat) : sIx n d (some (k : Int)) = min k n := by
  show (if (k : Int) < 0 then ((k : Int) + (n : Int)).toNat else min (k : Int).toNat n) = min k n
  rw [if_neg (by omega), Int.toNat_natCast]
end
end HT

namespace L2
open PySem PySem.Spec PyProof.Rows

/-! ### the parts of a slice -/
abbrev TO := St → Hp → (Option Int → Hp → Prop) → Prop
/-- a slice's part (left out, or an int) -/
def PO (X : Cx) (e : Option Expr) (t : TO) : Prop :=
  ∀ (pins : List (Addr × Obj)) (s : Shared) (σ : St) (H : Hp) (Q : Option Int → Hp → Prop), Inv X pins σ H s → t σ H Q →
    wpAny (model X.prog X.w) X.A (evalPart e X.env) (fun u s' => ∃ o H', Inv X pins σ H' s' ∧ IsPart u o ∧ Q o H') X.xe s
def tNoPart : TO := fun _ H Q => Q none H
def tPart (t : TE) : TO := fun σ H Q => t σ H fun x H1 => ∃ i, x = .int i ∧ Q (some i) H1

section
variable {X : Cx} {e : Expr} {te : TE} {lo hi : Option Expr} {tl th : TO} {pos p2 : Pos}

theorem po_none : PO X none tNoPart := by
  intro pins s σ H Q I h
  rw [evalPart_none]
  exact wpAny_pure ⟨none, H, I, .none, h⟩
theorem po_some (h : PE X e te) : PO X (some e) (tPart te) := by
  intro pins s σ H Q I hw
  rw [evalPart_some]
  refine thn (h pins s σ H _ I hw) fun u s1 ⟨x, H1, I1, r1, q1⟩ => ?_
  obtain ⟨i, rfl, q⟩ := q1
  obtain ⟨t, rfl⟩ := r1
  exact ⟨some i, H1, I1, .int i t, q⟩

/-- what a slice of a value is, by values: the slice object stands at sl -/
def SlR (X : Cx) (r : V → Option Int → Option Int → Hp → VK → Prop) : Prop :=
  ∀ (pins : List (Addr × Obj)) (s : Shared) (σ : St) (H : Hp) (x : V) (v vl vu : Value) (lo hi : Option Int) (sl : Addr) (Q : VK), Inv X pins σ H s → RelV x v → s.heap.IsSliceOf sl vl vu .none → IsPart vl lo → IsPart vu hi → r x lo hi H Q →
    ∃ T id, typeLookup (.type T) "__getitem__" = pure (some (.builtin id)) ∧ s.TypeIs v T ∧ wpAny (model X.prog X.w) X.A (getItem v (.ref sl)) (EP X pins σ Q) X.xe s
def tSl (r : V → Option Int → Option Int → Hp → VK → Prop) (te : TE) (tl th : TO) : TE := fun σ H Q => te σ H fun x H1 => tl σ H1 fun l H2 => th σ H2 fun u H3 => r x l u H3 Q
/-- a[lo:hi], any a -/
theorem pe_slice {r : V → Option Int → Option Int → Hp → VK → Prop} (hr : SlR X r) (he : PE X e te) (hl : PO X lo tl) (hu : PO X hi th) : PE X (.Subscript e (.Slice lo hi none p2) pos) (tSl r te tl th) := by
  intro pins s σ H Q I h
  refine Subscript_ (thn (he pins s σ H _ I h) fun v s1 ⟨x, H1, I1, r1, q1⟩ => ?_)
  refine wpAny_Slice (thn (hl pins s1 σ H1 _ I1 q1) fun vl s2 ⟨l, H2, I2, pl, q2⟩ => thn (hu pins s2 σ H2 _ I2 q2) fun vu s3 ⟨u, H3, I3, pu, q3⟩ => ?_)
  rw [evalPart_none]
  refine wpAny_pure ?_
  have I4 : Inv X pins σ H3 { s3 with heap := s3.heap.push { cls := .type "slice", data := .fields #[vl, vu, .none] } } := I3.kept (t' := s3.toks) fun b ob q => Heap.get?_push_of_some _ q
  obtain ⟨T, id, hT, ht, hg⟩ := hr pins { s3 with heap := s3.heap.push { cls := .type "slice", data := .fields #[vl, vu, .none] } } σ H3 x v vl vu l u s3.heap.objs.size Q I4 r1 (Heap.IsSliceOf.new ..) pl pu q3
  show wpAny (model X.prog X.w) X.A (subscriptTail e (.Slice lo hi none p2) v (.ref s3.heap.objs.size)) (EP X pins σ Q) X.xe { s3 with heap := s3.heap.push { cls := .type "slice", data := .fields #[vl, vu, .none] } }
  exact tail_any (ops := [.ref s3.heap.objs.size, v]) ht hT hg (by with_unfolding_all rfl)

/-- the items of xs[lo:hi] -/
def cutV (xs : List V) (lo hi : Option Int) : List V := (xs.drop (HT.sIx xs.length 0 lo)).take (HT.sIx xs.length xs.length hi - HT.sIx xs.length 0 lo)
theorem cutV_length (xs : List V) (lo hi : Option Int) : (cutV xs lo hi).length ≤ xs.length := by
  unfold cutV
  rw [List.length_take, List.length_drop]
  omega
/-! ### t < u, t + u -/
end
end L2

namespace L2
open PySem PySem.Spec PyProof.Rows

/-! ### places -/
/-- the place that an index of any sign means -/
def ixN (n : Nat) (i : Int) : Option Nat := if 0 ≤ i then (if i < n then some i.toNat else none) else if -(n : Int) ≤ i then some (i + n).toNat else none
def atI {α : Type} (xs : List α) (i : Int) : Option α := (ixN xs.length i).bind fun j => xs[j]?
theorem ixN_seq {n : Nat} {i : Int} {j : Nat} (h : ixN n i = some j) : seqIndex? i n = some j ∧ j < n ∧ -(n : Int) ≤ i ∧ i < n := by
  unfold ixN at h
  by_cases h0 : 0 ≤ i
  · rw [if_pos h0] at h
    by_cases h1 : i < n
    · rw [if_pos h1] at h
      have e : i.toNat = j := Option.some.inj h
      exact ⟨by rw [seqIndex_of h0 h1, e], by omega, by omega, h1⟩
    · rw [if_neg h1] at h; cases h
  · rw [if_neg h0] at h
    by_cases h1 : -(n : Int) ≤ i
    · rw [if_pos h1] at h
      have e : (i + n).toNat = j := Option.some.inj h
      exact ⟨by rw [seqIndex_neg (by omega) h1, e], by omega, h1, by omega⟩
    · rw [if_neg h1] at h; cases h
theorem atI_get {α : Type} {xs : List α} {i : Int} {v : α} (h : atI xs i = some v) : ∃ j, seqIndex? i xs.length = some j ∧ xs[j]? = some v ∧ j < xs.length ∧ -(xs.length : Int) ≤ i ∧ i < xs.length := by
  unfold atI at h
  cases e : ixN xs.length i with
  | none => rw [e] at h; cases h
  | some j =>
    rw [e] at h
    obtain ⟨h1, h2, h3, h4⟩ := ixN_seq e
    exact ⟨j, h1, h, h2, h3, h4⟩
theorem atI_nat {α : Type} {xs : List α} {j : Nat} {v : α} (h : xs[j]? = some v) : atI xs (j : Int) = some v := by
  have hj : j < xs.length := (List.getElem?_eq_some_iff.mp h).1
  have e : ixN xs.length (j : Int) = some j := by
    unfold ixN
    rw [if_pos (by omega), if_pos (by omega)]; simp
  unfold atI; rw [e]; exact h
/-! ### what may be subscripted -/
/-- what stands as an index of a plain subscript -/
def PlainIx (b : Expr) : Prop := ∀ o i, subscripted b false o i = operate [o, i] (getItem o i)
/-- a subscript by values -/
def IxR (X : Cx) (r : R2) : Prop :=
  ∀ (value slice : Expr) (pins : List (Addr × Obj)) (s : Shared) (σ : St) (H : Hp) (x y : V) (v u : Value) (Q : VK), Inv X pins σ H s → RelV x v → RelV y u → r x y H Q →
    subscripted slice false v u = operate [v, u] (getItem v u) → wpAny (model X.prog X.w) X.A (subscriptTail value slice v u) (EP X pins σ Q) X.xe s
/-- a call of a builtin's method by values: the receiver, the arguments -/
def MtR (X : Cx) (id : String) (r : V → List V → Hp → VK → Prop) : Prop :=
  ∀ (pins : List (Addr × Obj)) (s : Shared) (σ : St) (H : Hp) (x : V) (xs : List V) (v : Value) (us : List Value) (Q : VK), Inv X pins σ H s → RelV x v → Vals xs us → r x xs H Q →
    wpAny (model X.prog X.w) X.A (call (.builtin id) (v :: us)) (EP X pins σ Q) X.xe s
section
variable {X : Cx} {a b : Expr} {ta tb : TE} {pos : Pos}
/-- a[b] -/
theorem pe_ix {r : R2} (hr : IxR X r) (ha : PE X a ta) (hb : PE X b tb) (hs : PlainIx b) : PE X (.Subscript a b pos) (tOp r ta tb) := by
  intro pins s σ H Q I h
  exact Subscript_ (binT ha hb I h fun v u s2 x y H2 I2 rx ry q => hr a b pins s2 σ H2 x y v u Q I2 rx ry q (hs _ _))

def rIxL (K : PySem.W.Frag) : R2 := fun x y H Q => ∃ p xs i v, x = .ref p ∧ y = .int i ∧ SqL K H p xs ∧ atI xs i = some v ∧ Q v H
theorem ix_list : IxR X (rIxL X.K) := by
  intro value slice pins s σ H x y v u Q I rx ry h hs
  obtain ⟨p, xs, i, z, rfl, rfl, hq, he, q⟩ := h
  cases rx
  obtain ⟨t, rfl⟩ := ry
  obtain ⟨its, r, pl, hz⟩ := I.list hq
  obtain ⟨j, h1, h2, h3, h4, h5⟩ := atI_get he
  obtain ⟨w, ew, rw'⟩ := r.get h2
  have hl := r.length
  have hn := line63
  have fin : EP X pins σ Q w s := ⟨z, H, I, rw', q⟩
  by_cases h0 : 0 ≤ i
  · have hj : i.toNat = j := by
      rw [seqIndex_of h0 h5] at h1
      exact Option.some.inj h1
    exact item_listR pl.isList h0 (by omega) (by rw [hj]; simpa using ew) fin hs
  · have hj : (i + (its.toArray.size : Int)).toNat = j := by
      rw [seqIndex_neg (by omega) h4] at h1
      rw [List.size_toArray, ← hl]
      exact Option.some.inj h1
    exact subscriptTail_builtinR (x := w) pl.isList.typeIs slot_list_getitem.lookup
      (wpAny_getItem_list_neg (Q := fun r s' => r = w ∧ EP X pins σ Q r s') pl.isList (by omega) (by rw [List.size_toArray] <;> omega) (by omega) (by rw [hj]; simpa using ew) ⟨rfl, fin⟩) hs
/-! ### xs[i] = v, any sign -/
/-- the list's object behind a store -/
theorem mapSeq_set (its : List Value) (n j : Nat) (u : Value) : Obj.mapSeq (·.setIfInBounds j u) { cls := .type "list", data := .seq its.toArray n } = { cls := .type "list", data := .seq (its.set j u).toArray n } := by
  simp [Obj.mapSeq]
theorem Inv.lst {pins : List (Addr × Obj)} {σ : St} {H : Hp} {s : Shared} {p : Addr} {xs : List V} (I : Inv X pins σ H s) (h : H p = some (.lst xs)) :
    ∃ (its : List Value) (n : Nat), Vals xs its ∧ s.heap.get? p = some { cls := .type "list", data := .seq its.toArray n } ∧ xs.length ≤ sizeLine := by
  obtain ⟨z, its, n, r, e⟩ := I.hok p _ h
  exact ⟨its, n, r, e, z⟩
/-- the list at p is written by an update of its object -/
theorem Inv.lstUpd {pins : List (Addr × Obj)} {σ : St} {H : Hp} {s : Shared} {p : Addr} {xs ys : List V} {its its' : List Value} {n n' : Nat} {f : Obj → Obj} (I : Inv X pins σ H s) (h : H p = some (.lst xs))
    (ho : s.heap.get? p = some { cls := .type "list", data := .seq its.toArray n }) (hf : f { cls := .type "list", data := .seq its.toArray n } = { cls := .type "list", data := .seq its'.toArray n' }) (r : Vals ys its') (hz : ys.length ≤ sizeLine) (t : Nat) :
    Inv X pins σ (upd H p (.lst ys)) { s with heap := s.heap.update p f, toks := t } := by
  have e : (s.heap.update p f).get? p = some { cls := .type "list", data := .seq its'.toArray n' } := by
    rw [Heap.get?_update_self f ho (by rw [hf] <;> rfl), hf]
  refine I.write (x := p) (e := p) (by rw [h]; trivial) (.inl rfl) (fun b u hb q => (Heap.get?_update_other _ _ (Ne.symm hb)).trans q) ⟨_, e⟩ ?_
  exact ⟨hz, its', n', r, e⟩
def rSetL : V → V → V → Hp → (Hp → Prop) → Prop := fun o i v H Q => ∃ p xs k j, o = .ref p ∧ i = .int k ∧ H p = some (.lst xs) ∧ ixN xs.length k = some j ∧ Q (upd H p (.lst (xs.set j v)))
theorem set_list : PSet X rSetL := by
  intro pins s σ H o i v ov iv u Q I ro ri rv h
  obtain ⟨p, xs, k, j, rfl, rfl, hp, hj, q⟩ := h
  cases ro
  obtain ⟨t, rfl⟩ := ri
  obtain ⟨its, n, r, ho, hz⟩ := I.lst hp
  obtain ⟨h1, h2, h3, h4⟩ := ixN_seq hj
  have hl := r.length
  have hn := line63
  have I' : Inv X pins σ (upd H p (.lst (xs.set j v))) { s with heap := s.heap.update p (Obj.mapSeq (·.setIfInBounds j u)) } :=
    I.lstUpd hp ho (mapSeq_set its n j u) (r.set rv j) (by rw [List.length_set]; exact hz) s.toks
  by_cases h0 : 0 ≤ k
  · have hk : k.toNat = j := by
      rw [seqIndex_of h0 h4] at h1
      exact Option.some.inj h1
    exact PySem.W.ki_setAt ho h0 (by omega) (by rw [List.size_toArray, ← hl]; exact h4) (by rw [hk]; exact ⟨_, I', q⟩)
  · have hk : (k + (its.toArray.size : Int)).toNat = j := by
      rw [seqIndex_neg (by omega) h3] at h1
      rw [List.size_toArray, ← hl]
      exact Option.some.inj h1
    exact PySem.W.ki_setBack ho (by omega) (by rw [List.size_toArray, ← hl]; exact h3) (by omega) (by rw [hk]; exact ⟨_, I', q⟩)

/-! ### slices -/
theorem slice_bounds (lo hi : Option Int) (n : Nat) : (sliceBounds lo hi none n).1 = ((HT.sIx n 0 lo : Nat) : Int) ∧ (sliceBounds lo hi none n).2.1 = ((HT.sIx n n hi : Nat) : Int) ∧ (sliceBounds lo hi none n).2.2 = 1 := by
  refine ⟨?_, ?_, rfl⟩
  · cases lo with
    | none => simp [sliceBounds, HT.sIx]
    | some i =>
      simp only [sliceBounds, HT.sIx, Option.getD_none, show (1 : Int) > 0 by decide, if_true]
      by_cases h : i < 0
      · simp only [h, if_true] <;> omega
      · simp only [h, if_false] <;> omega
  · cases hi with
    | none => simp [sliceBounds, HT.sIx]
    | some i =>
      simp only [sliceBounds, HT.sIx, Option.getD_none, show (1 : Int) > 0 by decide, if_true]
      by_cases h : i < 0
      · simp only [h, if_true] <;> omega
      · simp only [h, if_false] <;> omega
theorem slicePick_cut (its : List Value) (lo hi : Option Int) : slicePick its.toArray lo hi none = ((its.drop (HT.sIx its.length 0 lo)).take (HT.sIx its.length its.length hi - HT.sIx its.length 0 lo)).toArray := by
  obtain ⟨h1, h2, h3⟩ := slice_bounds lo hi its.toArray.size
  unfold slicePick
  rw [h1, h2, h3]
  simp only [sliceRange_one, pick_run, List.size_toArray] <;> rfl
/-- xs[lo:hi] of a list: a new list -/
def rSlL (K : PySem.W.Frag) : V → Option Int → Option Int → Hp → VK → Prop := fun x lo hi H Q => ∃ a xs, x = .ref a ∧ SqL K H a xs ∧ ∀ p, H p = none → Q (.ref p) (upd H p (.lst (cutV xs lo hi)))
theorem sl_list : SlR X (rSlL X.K) := by
  intro pins s σ H x v vl vu lo hi sl Q I rx hs pl pu h
  obtain ⟨a, xs, rfl, hx, q⟩ := h
  cases rx
  obtain ⟨its, r, ht, hz⟩ := I.list hx
  have hlen := r.length
  refine ⟨"list", _, slot_list_getitem.lookup, ht.isList.typeIs, ?_⟩
  refine wpAny_getItem_list_slice ht.isList hs pl pu .none (by simp) ?_ (by rw [List.size_toArray] <;> omega)
  rw [slicePick_cut, ← hlen]
  refine ⟨.ref s.heap.objs.size, _, I.laid (t' := s.toks) (o := .lst (cutV xs lo hi)) (fun b ob q => Heap.get?_push_of_some _ q) (Nat.le_refl _) ?_, rfl, q _ (I.hok.fresh (Nat.le_refl _))⟩
  exact ⟨Nat.le_trans (cutV_length xs lo hi) hz, _, 0, (r.drop (HT.sIx xs.length 0 lo)).take (HT.sIx xs.length xs.length hi - HT.sIx xs.length 0 lo), Heap.get?_push_size _ rfl⟩

/-! ### in, not in: flat items -/
def flatV : V → Bool
  | .non => true
  | .bl _ => true
  | .int _ => true
  | .str _ => true
  | _ => false
/-- == of flat values -/
def eqV : V → V → Bool
  | .non, .non => true
  | .bl a, .bl b => a == b
  | .bl a, .int b => (if a then 1 else 0) == b
  | .int a, .bl b => a == (if b then 1 else 0)
  | .int a, .int b => a == b
  | .str a, .str b => a == b
  | _, _ => false
theorem eqAt_V {A : Around} {s : Shared} {y x : V} {u v : Value} (ry : RelV y u) (rx : RelV x v) (fy : flatV y = true) (fx : flatV x = true) : SeqAt.EqAt A s u v (eqV y x) := by
  cases y with
  | non =>
    cases ry
    cases x with
    | non => cases rx; exact SeqAt.EqAt.same _
    | bl b => cases rx; exact SeqAt.EqAt.none_bool b
    | int b => obtain ⟨t, rfl⟩ := rx; exact SeqAt.EqAt.none_int b t
    | str b => obtain ⟨t, rfl⟩ := rx; exact SeqAt.EqAt.none_str b t
    | _ => exact absurd (show false = true from fx) Bool.false_ne_true
  | bl a =>
    cases ry
    cases x with
    | non => cases rx; exact SeqAt.EqAt.bool_none a
    | bl b => cases rx; exact SeqAt.EqAt.bool_bool a b
    | int b => obtain ⟨t, rfl⟩ := rx; exact SeqAt.EqAt.bool_int a b t
    | str b => obtain ⟨t, rfl⟩ := rx; exact SeqAt.EqAt.bool_str a b t
    | _ => exact absurd (show false = true from fx) Bool.false_ne_true
  | int a =>
    obtain ⟨t', rfl⟩ := ry
    cases x with
    | non => cases rx; exact SeqAt.EqAt.int_none a t'
    | bl b => cases rx; exact SeqAt.EqAt.int_bool a t' b
    | int b => obtain ⟨t, rfl⟩ := rx; exact SeqAt.EqAt.int_int a t' b t
    | str b => obtain ⟨t, rfl⟩ := rx; exact SeqAt.EqAt.int_str a t' b t
    | _ => exact absurd (show false = true from fx) Bool.false_ne_true
  | str a =>
    obtain ⟨t', rfl⟩ := ry
    cases x with
    | non => cases rx; exact SeqAt.EqAt.str_none a t'
    | bl b => cases rx; exact SeqAt.EqAt.str_bool a t' b
    | int b => obtain ⟨t, rfl⟩ := rx; exact SeqAt.EqAt.str_int a t' b t
    | str b => obtain ⟨t, rfl⟩ := rx; exact SeqAt.EqAt.str_str a t' b t
    | _ => exact absurd (show false = true from fx) Bool.false_ne_true
  | _ => exact absurd (show false = true from fy) Bool.false_ne_true
/-- the items' answers, read off the values (a value's own answer does not lean on its token) -/
def eqU (x : V) (u : Value) : Bool := match u with
  | .none => eqV .non x
  | .bool b => eqV (.bl b) x
  | .int i _ => eqV (.int i) x
  | .str z _ => eqV (.str z) x
  | _ => false
theorem eqU_of {x y : V} {u : Value} (r : RelV y u) (f : flatV y = true) : eqU x u = eqV y x := by
  cases y with
  | non => cases r; rfl
  | bl b => cases r; rfl
  | int i => obtain ⟨t, rfl⟩ := r; rfl
  | str z => obtain ⟨t, rfl⟩ := r; rfl
  | _ => exact absurd (show false = true from f) Bool.false_ne_true
theorem any_eqU {x : V} : ∀ {xs : List V} {us : List Value}, Vals xs us → xs.all flatV = true → us.any (eqU x) = xs.any fun y => eqV y x
  | _, _, .nil, _ => rfl
  | y :: xs, u :: us, .cons r t, f => by
    rw [List.all_cons, Bool.and_eq_true] at f
    rw [List.any_cons, List.any_cons, eqU_of r f.1, any_eqU t f.2]
theorem mem_eqAt {A : Around} {s : Shared} {x : V} {v : Value} (rx : RelV x v) (fx : flatV x = true) : ∀ {xs : List V} {us : List Value}, Vals xs us → xs.all flatV = true → ∀ u ∈ us, SeqAt.EqAt A s u v (eqU x u)
  | _, _, .nil, _ => fun u hu => by cases hu
  | y :: xs, u :: us, .cons r t, f => fun u' hu => by
    rw [List.all_cons, Bool.and_eq_true] at f
    rcases List.mem_cons.mp hu with rfl | hu
    · rw [eqU_of r f.1]; exact eqAt_V r rx f.1 fx
    · exact mem_eqAt rx fx t f.2 u' hu
def inV (x : V) (xs : List V) : Bool := xs.any fun y => eqV y x
/-- x in a list or tuple of flat items -/
def rIn (K : PySem.W.Frag) (neg : Bool) : R2 := fun x y H Q => ∃ p xs, y = .ref p ∧ (SqL K H p xs ∨ SqT K H p xs) ∧ flatV x = true ∧ xs.all flatV = true ∧ Q (.bl (if neg then !inV x xs else inV x xs)) H
theorem op_in_seq : OpR X (compareOp .In) (rIn X.K false) := by
  intro pins s σ H x y v u Q I rx ry h
  obtain ⟨p, xs, rfl, hq, fx, fs, q⟩ := h
  cases ry
  rcases hq with hq | hq
  · obtain ⟨its, r, pl, hz⟩ := I.list hq
    refine SeqAt.in_listAt (eqU x) pl.isList (fun w hw => mem_eqAt rx fx r fs w (by simpa using hw)) ⟨.bl _, H, I, rfl, ?_⟩
    rw [show its.toArray.any (eqU x) = its.any (eqU x) by simp, any_eqU r fs]
    exact q
  · obtain ⟨its, r, pl, hz⟩ := I.tuple hq
    refine SeqAt.in_tupleAt (eqU x) pl (fun w hw => mem_eqAt rx fx r fs w (by simpa using hw)) ⟨.bl _, H, I, rfl, ?_⟩
    rw [show its.toArray.any (eqU x) = its.any (eqU x) by simp, any_eqU r fs]
    exact q
theorem op_notIn_seq : OpR X (compareOp .NotIn) (rIn X.K true) := by
  intro pins s σ H x y v u Q I rx ry h
  obtain ⟨p, xs, rfl, hq, fx, fs, q⟩ := h
  cases ry
  rcases hq with hq | hq
  · obtain ⟨its, r, pl, hz⟩ := I.list hq
    refine SeqAt.notIn_listAt (eqU x) pl.isList (fun w hw => mem_eqAt rx fx r fs w (by simpa using hw)) ⟨.bl _, H, I, rfl, ?_⟩
    rw [show its.toArray.any (eqU x) = its.any (eqU x) by simp, any_eqU r fs]
    exact q
  · obtain ⟨its, r, pl, hz⟩ := I.tuple hq
    refine SeqAt.notIn_tupleAt (eqU x) pl (fun w hw => mem_eqAt rx fx r fs w (by simpa using hw)) ⟨.bl _, H, I, rfl, ?_⟩
    rw [show its.toArray.any (eqU x) = its.any (eqU x) by simp, any_eqU r fs]
    exact q
/-! ### len, list(x), tuple(x) of any list or tuple that is read -/
theorem call_len_seq : CallR X (.builtin "len") (fun xs H Q => ∃ p ys, xs = [.ref p] ∧ (SqL X.K H p ys ∨ SqT X.K H p ys) ∧ Q (.int ys.length) H) := by
  intro pins s σ H xs us Q I r h
  obtain ⟨p, ys, rfl, hq, q⟩ := h
  obtain ⟨u, rfl, rx⟩ := vals1 r
  cases rx
  have hn := line63
  rcases hq with hq | hq
  · obtain ⟨its, r', pl, hz⟩ := I.list hq
    have hlen := r'.length
    exact Calls.call_len_list pl.isList (by simp only [List.size_toArray] <;> omega) ⟨.int ys.length, H, I.tok _, ⟨s.toks + 1, by rw [List.size_toArray, hlen]⟩, q⟩
  · obtain ⟨its, r', pl, hz⟩ := I.tuple hq
    have hlen := r'.length
    exact len_tuple pl (by simp only [List.size_toArray] <;> omega) ⟨.int ys.length, H, I.tok _, ⟨s.toks + 1, by rw [List.size_toArray, hlen]⟩, q⟩
theorem call_list_of : CallR X (.type "list") (fun xs H Q => ∃ p ys, xs = [.ref p] ∧ (SqL X.K H p ys ∨ SqT X.K H p ys) ∧ ∀ l, H l = none → Q (.ref l) (upd H l (.lst ys))) := by
  intro pins s σ H xs us Q I r h
  obtain ⟨p, ys, rfl, hq, q⟩ := h
  obtain ⟨u, rfl, rx⟩ := vals1 r
  cases rx
  have fin : ∀ (its : List Value), Vals ys its → ys.length ≤ sizeLine → ∀ (h' : Heap) (c' : Nat), (∀ b o', s.heap.get? b = some o' → h'.get? b = some o') →
      h'.get? s.heap.objs.size = some { cls := .type "list", dict := none, data := .seq its.toArray c', slots := #[] } → EP X pins σ Q (.ref s.heap.objs.size) { s with heap := h' } := fun its r' hz h' c' kp e =>
    ⟨.ref s.heap.objs.size, _, I.laid (t' := s.toks) kp (Nat.le_refl _) (show ObjOk X.prog X.w _ h' _ (.lst ys) from ⟨hz, its, c', r', e⟩), rfl, q _ (I.hok.fresh (Nat.le_refl _))⟩
  rcases hq with hq | hq
  · obtain ⟨its, r', pl, hz⟩ := I.list hq
    have hlen := r'.length
    obtain ⟨o, ho, hc, n, hd⟩ := pl.isList
    exact call_list_seq p (.inl rfl) ho hc hd (fun h' c' kp e => fin its r' hz h' c' kp e) (by simp only [List.size_toArray] <;> omega)
  · obtain ⟨its, r', pl, hz⟩ := I.tuple hq
    have hlen := r'.length
    obtain ⟨o, ho, hc, n, hd⟩ := pl
    exact call_list_seq p (.inr rfl) ho hc hd (fun h' c' kp e => fin its r' hz h' c' kp e) (by simp only [List.size_toArray] <;> omega)
theorem call_tuple_of : CallR X (.type "tuple") (fun xs H Q => ∃ p ys, xs = [.ref p] ∧ ((SqL X.K H p ys ∧ ∀ l, H l = none → Q (.ref l) (upd H l (.tup ys))) ∨ (SqT X.K H p ys ∧ Q (.ref p) H))) := by
  intro pins s σ H xs us Q I r h
  obtain ⟨p, ys, rfl, h⟩ := h
  obtain ⟨u, rfl, rx⟩ := vals1 r
  cases rx
  rcases h with ⟨hq, q⟩ | ⟨hq, q⟩
  · obtain ⟨its, r', pl, hz⟩ := I.list hq
    have hlen := r'.length
    refine call_tuple_list pl.isList (fun h' kp => ?_) (by simp only [List.size_toArray] <;> omega)
    have I1 : Inv X pins σ H { s with heap := h' } := I.kept (t' := s.toks) kp
    have I2 : Inv X pins σ (upd H h'.objs.size (.tup ys)) { s with heap := h'.push { cls := .type "tuple", data := .seq its.toArray } } :=
      I1.laid (t' := s.toks) (fun b o e => Heap.get?_push_of_some _ e) (Nat.le_refl _) (show ObjOk X.prog X.w _ _ _ (.tup ys) from ⟨hz, its, r', IsTup.new _ _⟩)
    exact ⟨.ref h'.objs.size, _, I2, rfl, q _ (I1.hok.fresh (Nat.le_refl _))⟩
  · obtain ⟨its, r', pl, hz⟩ := I.tuple hq
    exact call_tuple_same pl ⟨.ref p, H, I, rfl, q⟩

/-! ### the call of a builtin's method: o.m(..) -/
/-- the value is of that builtin type -/
def tyV (K : PySem.W.Frag) (T : String) (x : V) (H : Hp) : Prop := match x with
  | .str _ => T = "str"
  | .int _ => T = "int"
  | .ref p => (T = "list" ∧ ∃ xs, SqL K H p xs) ∨ (T = "tuple" ∧ ∃ o, K.lookup p = some o ∧ o.cls = .type "tuple" ∧ o.dict = none) ∨
      (T = "dict" ∧ ((∃ kvs, H p = some (.dK kvs)) ∨ ∃ kvs, H p = some (.dT kvs))) ∨ (T = "set" ∧ ∃ S n, H p = some (.set S n))
  | _ => False
theorem tyV_is {pins : List (Addr × Obj)} {σ : St} {H : Hp} {s : Shared} {T : String} {x : V} {v : Value} (I : Inv X pins σ H s) (r : RelV x v) (ty : tyV X.K T x H) :
    s.TypeIs v T ∧ ∀ a, v = .ref a → ∃ ob, s.heap.get? a = some ob ∧ ob.dict = none := by
  cases x with
  | str z =>
    obtain ⟨t, rfl⟩ := r
    cases (show T = "str" from ty)
    exact ⟨typeIs_str s z t, fun _ e => nomatch e⟩
  | int i =>
    obtain ⟨t, rfl⟩ := r
    cases (show T = "int" from ty)
    exact ⟨typeIs_int s i t, fun _ e => nomatch e⟩
  | ref p =>
    cases r
    rcases ty with ⟨rfl, xs, hq⟩ | ⟨rfl, o, hk, hc, hd⟩ | ⟨rfl, hk⟩ | ⟨rfl, S, n, hk⟩
    · obtain ⟨its, _, pl, _⟩ := I.list hq
      refine ⟨pl.isList.typeIs, fun a e => ?_⟩
      cases e
      obtain ⟨o, n, e, c, hd, _⟩ := pl
      exact ⟨o, e, hd⟩
    · refine ⟨⟨o, I.kIn p o hk, hc⟩, fun a e => ?_⟩
      cases e
      exact ⟨o, I.kIn _ o hk, hd⟩
    · have z : ∃ o, s.heap.get? p = some o ∧ o.ExactDict := by
        rcases hk with ⟨kvs, hk⟩ | ⟨kvs, hk⟩
        · obtain ⟨_, _, _, _, o, _, _, e, ex, _⟩ := I.hok p _ hk
          exact ⟨o, e, ex⟩
        · obtain ⟨_, _, _, _, o, _, _, e, ex, _⟩ := I.hok p _ hk
          exact ⟨o, e, ex⟩
      obtain ⟨o, e, ex⟩ := z
      refine ⟨⟨o, e, ex.1⟩, fun a e2 => ?_⟩
      cases e2
      exact ⟨o, e, ex.2.1⟩
    · obtain ⟨o, _, _, _, e, ex, _⟩ := I.hok p _ hk
      refine ⟨⟨o, e, ex.1⟩, fun a e2 => ?_⟩
      cases e2
      exact ⟨o, e, ex.2.1⟩
  | _ => exact False.elim ty
def tBM0 (K : PySem.W.Frag) (T : String) (r : V → List V → Hp → VK → Prop) (to : TE) : TE := fun σ H Q => to σ H fun x H1 => tyV K T x H1 ∧ r x [] H1 Q
def tBM (K : PySem.W.Frag) (T : String) (r : V → List V → Hp → VK → Prop) (to : TE) (t : TA) : TE := fun σ H Q => to σ H fun x H1 => tyV K T x H1 ∧ t σ H1 fun xs H2 => r x xs H2 Q
variable {o e : Expr} {es : List Expr} {to : TE} {t : TA} {name : Str} {apos cpos : Pos} {T id : String} {r : V → List V → Hp → VK → Prop}
theorem pe_bm0 (pa : PlainAttrs T) (slot : Slot T name id) (hty : typeOf (.builtin id) = pure (.type "method_descriptor")) (hm : MtR X id r) (ho : PE X o to)
    (hbase : attributeBase o name X.env (eval o X.env) = eval o X.env := by rfl) (hline : (apos.endLine == cpos.line) = true := by rfl) : PE X (.Call (.Attribute o name apos) [] [] cpos) (tBM0 X.K T r to) := by
  intro pins s σ H Q I h
  refine wpAny_Call_method0_late hbase hline (thn (ho pins s σ H _ I h) fun v s1 ⟨x, H1, I1, r1, ty, q1⟩ => ?_)
  obtain ⟨h1, h2⟩ := tyV_is I1 r1 ty
  exact ⟨T, id, pa, slot, hty, h1, h2, Calls.callWith_builtin rfl (PySem.evalArgs_none (hm pins s1 σ H1 x [] v [] Q I1 r1 .nil q1))⟩
theorem pe_bm (pa : PlainAttrs T) (slot : Slot T name id) (hty : typeOf (.builtin id) = pure (.type "method_descriptor")) (hm : MtR X id r) (ho : PE X o to) (ha : PA X (e :: es) t)
    (hbase : attributeBase o name X.env (eval o X.env) = eval o X.env := by rfl)
    (hfew : ((backTo cpos (starEach (e :: es) X.env)).all (fun x => !x.1) && (backToKw cpos (keywordEach [] X.env)).all (fun x => x.1.isSome)
      && decide ((e :: es).length + ([] : List Keyword).length + (if ([] : List Keyword).isEmpty then 0 else 1) < 30)) = true := by rfl)
    (hline : (apos.endLine == cpos.line) = true := by rfl) (hs : starEach (e :: es) X.env = (false, eval e X.env) :: starEach es X.env := by rfl) (hplain : (backTo cpos (starEach es X.env)).any (·.1) = false := by rfl) :
    PE X (.Call (.Attribute o name apos) (e :: es) [] cpos) (tBM X.K T r to t) := by
  intro pins s σ H Q I h
  refine wpAny_Call_method_late hbase hfew hline rfl (thn (ho pins s σ H _ I h) fun v s1 ⟨x, H1, I1, r1, ty, q1⟩ => ?_)
  obtain ⟨h1, h2⟩ := tyV_is I1 r1 ty
  refine ⟨T, id, pa, slot, hty, h1, h2, ?_⟩
  have hA := ha cpos pins s1 σ H1 _ I1 q1
  rw [hs] at hA ⊢
  refine Calls.callWith_builtin (by show (false || (backTo cpos (starEach es X.env)).any (·.1)) = false; rw [hplain] <;> rfl) (Calls.evalArgs_plain ?_)
  exact thn hA fun us s2 ⟨vs, H2, I2, r2, q2⟩ => hm pins s2 σ H2 x vs v us Q I2 r1 r2 q2
/- xs.append(e), list.index on a module's tuple .. are MtR facts of 06m -/
end
end L2

namespace L2
open PySem PySem.Spec PyProof.Rows

def MtM (X : Cx) (id : String) (r : V → List V → Hp → VK → Prop) : Prop :=
  ∀ (pins : List (Addr × Obj)) (s : Shared) (σ : St) (H : Hp) (x : V) (xs : List V) (v : Value) (us : List Value) (Q : VK), Inv X pins σ H s → RelV x v → Vals xs us → r x xs H Q →
    wpAny (model X.prog X.w) X.A (call (.builtin id) (v :: us)) (EP X pins σ Q) X.xe s

/-! ### lists of values -/
theorem Vals.one : ∀ {x : V} {us : List Value}, Vals [x] us → ∃ u, us = [u] ∧ RelV x u
  | _, _, .cons r .nil => ⟨_, rfl, r⟩
theorem Vals.two : ∀ {x y : V} {us : List Value}, Vals [x, y] us → ∃ u v, us = [u, v] ∧ RelV x u ∧ RelV y v
  | _, _, _, .cons r (.cons q .nil) => ⟨_, _, rfl, r, q⟩
theorem Vals.zero : ∀ {us : List Value}, Vals [] us → us = []
  | _, .nil => rfl
theorem Vals.dropLast {xs : List V} {us : List Value} (h : Vals xs us) : Vals xs.dropLast us.dropLast := by
  induction h with
  | nil => exact .nil
  | cons r t ih =>
    cases t with
    | nil => exact .nil
    | cons q t' => exact .cons r ih
theorem Vals.eraseIdx : ∀ {xs : List V} {us : List Value} (i : Nat), Vals xs us → Vals (xs.eraseIdx i) (us.eraseIdx i)
  | _, _, _, .nil => .nil
  | _, _, 0, .cons _ t => t
  | _, _, i + 1, .cons r t => .cons r (Vals.eraseIdx i t)
theorem Vals.rep {xs : List V} {us : List Value} (h : Vals xs us) : ∀ k : Nat, Vals (List.replicate k xs).flatten (List.replicate k us).flatten
  | 0 => .nil
  | k + 1 => by
    rw [List.replicate_succ, List.replicate_succ, List.flatten_cons, List.flatten_cons]
    exact Vals.append h (Vals.rep h k)
theorem erase_last {α : Type} (l : List α) : l.eraseIdx (l.length - 1) = l.dropLast := by
  induction l with
  | nil => rfl
  | cons a r ih =>
    cases r with
    | nil => rfl
    | cons b r =>
      have e : (a :: b :: r).length - 1 = ((b :: r).length - 1) + 1 := by
        have h1 : (a :: b :: r).length = r.length + 2 := rfl
        have h2 : (b :: r).length = r.length + 1 := rfl
        omega
      rw [e, List.eraseIdx_cons_succ, ih]
      all_goals rfl
theorem len_erase {α : Type} : ∀ (l : List α) (i : Nat), (l.eraseIdx i).length ≤ l.length
  | [], _ => Nat.le_refl _
  | _ :: _, 0 => Nat.le_succ _
  | _ :: r, i + 1 => Nat.succ_le_succ (len_erase r i)
theorem foldl_rep (its : List Value) : ∀ (k : Nat) (acc : List Value),
    List.foldl (fun x1 x2 => x1 ++ x2) acc.toArray (List.replicate k its.toArray) = (acc ++ (List.replicate k its).flatten).toArray
  | 0, acc => by simp
  | k + 1, acc => by
    have e : acc.toArray ++ its.toArray = (acc ++ its).toArray := by simp
    have e2 : (acc ++ its) ++ (List.replicate k its).flatten = acc ++ (List.replicate (k + 1) its).flatten := by
      rw [List.replicate_succ, List.flatten_cons, List.append_assoc]
    rw [← e2, ← foldl_rep its k (acc ++ its), ← e, List.replicate_succ, List.foldl_cons]

section
variable {X : Cx} {pins : List (Addr × Obj)} {σ : St} {H : Hp} {s : Shared} {l b : Addr} {xs ys zs : List V}

/-! ### the two steps: a tracked list is rewritten, a new list is laid -/
theorem Inv.lset {its its' : List Value} {n : Nat} {f : Array Value → Array Value} {t' : Nat} (I : Inv X pins σ H s) (hH : H l = some (.lst xs))
    (e : s.heap.get? l = some { cls := .type "list", data := .seq its.toArray n }) (hf : f its.toArray = its'.toArray) (hv : Vals ys its') (hz : ys.length ≤ sizeLine) :
    Inv X pins σ (upd H l (.lst ys)) { s with heap := s.heap.update l (Obj.mapSeq f), toks := t' } := by
  have q := PySem.IsL.update e f
  rw [hf] at q
  refine I.write (x := l) (e := l) (by rw [hH]; exact trivial) (.inl rfl) (fun b' u hb hu => (Heap.get?_update_other s.heap (Obj.mapSeq f) (Ne.symm hb)).trans hu) ⟨_, q⟩ ?_
  exact ⟨hz, its', _, hv, q⟩
theorem Inv.lnew {its : List Value} {t' : Nat} (I : Inv X pins σ H s) (hv : Vals ys its) (hz : ys.length ≤ sizeLine) :
    Inv X pins σ (upd H s.heap.objs.size (.lst ys)) { s with heap := s.heap.push { cls := .type "list", data := .seq its.toArray }, toks := t' } :=
  I.laid (fun _ _ q => Heap.get?_push_of_some _ q) (Nat.le_refl _) ⟨hz, its, 0, hv, Heap.get?_push_size _ rfl⟩
theorem Inv.fresh (I : Inv X pins σ H s) : H s.heap.objs.size = none := I.hok.fresh (Nat.le_refl _)
theorem Inv.lstM (I : Inv X pins σ H s) (hH : H l = some (.lst xs)) : xs.length ≤ sizeLine ∧ ∃ (its : List Value) (n : Nat), Vals xs its ∧ xs.length = its.length ∧ s.heap.get? l = some { cls := .type "list", data := .seq its.toArray n } := by
  obtain ⟨z, its, n, r, e⟩ := I.hok l _ hH
  exact ⟨z, its, n, r, r.length, e⟩

theorem notLongL {n : Nat} (h : n ≤ sizeLine) : Builtin.List.listTooLong n = false := by
  unfold Builtin.List.listTooLong
  exact decide_eq_false (by omega)
end

section
variable {X : Cx}

/-! ### methods -/
def rAppend : V → List V → Hp → VK → Prop := fun x vs H Q => ∃ l xs y, x = .ref l ∧ vs = [y] ∧ H l = some (.lst xs) ∧ xs.length < sizeLine ∧ Q .non (upd H l (.lst (xs ++ [y])))
theorem mt_append : MtM X "list.append" rAppend := by
  intro pins s σ H x vs v us Q I rx rv h
  obtain ⟨l, xs, y, rfl, rfl, hH, hz, q⟩ := h
  cases rx
  obtain ⟨u, rfl, ru⟩ := rv.one
  obtain ⟨z, its, n, r, hl, e⟩ := I.lstM hH
  refine call_meets F.slot_list_append ⟨_, e, rfl⟩ F.entry_list_append (F.args_list_append_2 _ _) (PySem.list_append l its.toArray n u (by rw [List.size_toArray]; omega)) ⟨e, ?_⟩
  refine ⟨.non, _, I.lset (its' := its ++ [u]) hH e (by simp) (r.append (.cons ru .nil)) ?_, rfl, q⟩
  rw [List.length_append, List.length_singleton]
  omega

def rPop : V → List V → Hp → VK → Prop := fun x vs H Q => ∃ l xs y, x = .ref l ∧ vs = [] ∧ H l = some (.lst xs) ∧ xs[xs.length - 1]? = some y ∧ Q y (upd H l (.lst xs.dropLast))
theorem mt_pop : MtM X "list.pop" rPop := by
  intro pins s σ H x vs v us Q I rx rv h
  obtain ⟨l, xs, y, rfl, rfl, hH, hy, q⟩ := h
  cases rx
  have hus := rv.zero
  subst hus
  obtain ⟨z, its, n, r, hl, e⟩ := I.lstM hH
  obtain ⟨u, hu, ru⟩ := r.get hy
  have hy' : its.toArray[its.toArray.size - 1]? = some u := by
    show its.toArray[its.length - 1]? = some u
    rw [← Array.getElem?_toList, ← hl]
    exact hu
  refine call_meets F.slot_list_pop ⟨_, e, rfl⟩ F.entry_list_pop (F.args_list_pop_1 _) (MeetsSeq.list_pop_last l its.toArray n u hy' (by rw [List.size_toArray]; omega)) ⟨e, ?_⟩
  refine ⟨y, _, I.lset (its' := its.dropLast) hH e ?_ r.dropLast ?_, ru, q⟩
  · show its.toArray.eraseIdxIfInBounds (its.toArray.size - 1) = its.dropLast.toArray
    rw [List.size_toArray, List.eraseIdxIfInBounds_toArray, erase_last]
  · rw [List.length_dropLast]
    omega

def rPopAt : V → List V → Hp → VK → Prop := fun x vs H Q => ∃ l xs i k y, x = .ref l ∧ vs = [.int i] ∧ H l = some (.lst xs) ∧ -(2 ^ 63) ≤ i ∧ i < 2 ^ 63 ∧ seqIndex? i xs.length = some k ∧ xs[k]? = some y ∧ Q y (upd H l (.lst (xs.eraseIdx k)))
theorem mt_popAt : MtM X "list.pop" rPopAt := by
  intro pins s σ H x vs v us Q I rx rv h
  obtain ⟨l, xs, i, k, y, rfl, rfl, hH, h1, h2, hk, hy, q⟩ := h
  cases rx
  obtain ⟨u, rfl, ru⟩ := rv.one
  obtain ⟨t, rfl⟩ := ru
  obtain ⟨z, its, n, r, hl, e⟩ := I.lstM hH
  obtain ⟨w, hw, rw'⟩ := r.get hy
  refine call_meets F.slot_list_pop ⟨_, e, rfl⟩ F.entry_list_pop (F.args_list_pop_2 _ _)
    (MeetsSeq.list_pop_at l its.toArray n i t k w (fitsIndex_both h1 h2) (by rw [List.size_toArray, ← hl]; exact hk) (by rw [← Array.getElem?_toList]; exact hw) (by rw [List.size_toArray]; omega)) ⟨e, ?_⟩
  refine ⟨y, _, I.lset (its' := its.eraseIdx k) hH e ?_ (r.eraseIdx k) ?_, rw', q⟩
  · show its.toArray.eraseIdxIfInBounds k = (its.eraseIdx k).toArray
    rw [List.eraseIdxIfInBounds_toArray]
  · have := len_erase xs k
    omega

/-! ### list + list, list += list, list * int -/
def rCat : R2 := fun x y H Q => ∃ l b xs zs, x = .ref l ∧ y = .ref b ∧ H l = some (.lst xs) ∧ H b = some (.lst zs) ∧ xs.length + zs.length ≤ sizeLine ∧ ∀ p, H p = none → Q (.ref p) (upd H p (.lst (xs ++ zs)))
theorem op_cat : OpR X (binaryOp .Add) rCat := by
  intro pins s σ H x y v u Q I rx ry h
  obtain ⟨l, b, xs, zs, rfl, rfl, hH, hB, hz, q⟩ := h
  cases rx
  cases ry
  obtain ⟨z, its, n, r, hl, e⟩ := I.lstM hH
  obtain ⟨z2, its2, n2, r2, hl2, e2⟩ := I.lstM hB
  refine PySem.P.add_list e e2 ?_ (by rw [List.size_toArray, List.size_toArray]; omega)
  have ea : its.toArray ++ its2.toArray = (its ++ its2).toArray := by simp
  rw [ea]
  exact ⟨.ref _, _, I.lnew (t' := s.toks) (r.append r2) (by rw [List.length_append]; omega), rfl, q _ I.fresh⟩
/-- a list times an int (a negative one is nothing) -/
def rRep : R2 := fun x y H Q => ∃ l k xs, x = .ref l ∧ y = .int k ∧ H l = some (.lst xs) ∧ -(2 ^ 63) ≤ k ∧ k < 2 ^ 63 ∧ xs.length * k.toNat ≤ sizeLine ∧
  ∀ p, H p = none → Q (.ref p) (upd H p (.lst (List.replicate k.toNat xs).flatten))
theorem len_rep {α : Type} (xs : List α) (k : Nat) : (List.replicate k xs).flatten.length = k * xs.length := by
  induction k with
  | zero => simp
  | succ k ih => rw [List.replicate_succ, List.flatten_cons, List.length_append, ih, Nat.succ_mul, Nat.add_comm]
theorem op_rep : OpR X (binaryOp .Mult) rRep := by
  intro pins s σ H x y v u Q I rx ry h
  obtain ⟨l, k, xs, rfl, rfl, hH, h1, h2, hz, q⟩ := h
  cases rx
  obtain ⟨t, rfl⟩ := ry
  obtain ⟨z, its, n, r, hl, e⟩ := I.lstM hH
  have hlen : its.toArray.size * k.toNat ≤ sizeLine := by rw [List.size_toArray, ← hl]; exact hz
  have hcap : ¬ its.toArray.size * k.toNat > (2 ^ 63 - 1) / 8 := by
    have : (sizeLine : Nat) ≤ (2 ^ 63 - 1) / 8 := by decide
    omega
  have hfit : ¬ (!Builtin.List.listFitsIndex k) = true := by
    rw [fitsIndex_both h1 h2]
    exact Bool.false_ne_true
  have hlong : ¬ Builtin.List.listTooLong (its.toArray.size * k.toNat) = true := by
    rw [notLongL hlen]
    exact Bool.false_ne_true
  have hnew : List.foldl (fun x1 x2 => x1 ++ x2) #[] (List.replicate (if its.toArray.isEmpty = true then 0 else k.toNat) its.toArray) = (List.replicate k.toNat its).flatten.toArray := by
    have f0 : ∀ m : Nat, List.foldl (fun x1 x2 => x1 ++ x2) #[] (List.replicate m its.toArray) = (List.replicate m its).flatten.toArray := fun m => by
      have := foldl_rep its m []
      rw [List.nil_append] at this
      exact this
    rw [f0]
    cases its with
    | nil => simp
    | cons a r' => rw [if_neg (by simp)]
  refine wpAny_binaryOp_repeat_ref (T := "list") (U := "int") (by decide) ⟨_, e, rfl⟩ (fun s' => typeIs_int s' k t) noFill_list_mul F.fills_int_mul F.slot_int_rmul repeat_list F.slot_int_index.lookup
    (call_meets F.slot_int_rmul (typeIs_int s k t) F.entry_int_rmul (F.args_int_rmul_2 _ _) (int___rmul___int_list k t l its.toArray n)
      ⟨e, rfl, ⟨_, e, rfl⟩, call_meets F.slot_list_mul ⟨_, e, rfl⟩ F.entry_list_mul (F.args_list_mul_2 _ _) (AutoListH.list___mul___list_int_3 l its.toArray n k t hfit hcap hlong) ⟨e, ?_⟩⟩)
  rw [hnew]
  exact ⟨.ref _, _, I.lnew (t' := s.toks) (r.rep k.toNat) (by rw [len_rep, Nat.mul_comm]; exact hz), rfl, q _ I.fresh⟩

/-! ### del xs[i] -/
end

/-! ### xs[a:b] = ys -/
section
variable {prog : Program} {w : World} {A : Around} {E : Value → Shared → Prop} {s : Shared}
end

section
variable {X : Cx}
end
end L2

namespace Att
open PySem PySem.W PySem.Calls PyProof.Rows

/-! ### the script -/
theorem ints_of_wellAll {P : Params} {h : Heap} : ∀ (ns : List Int) (vs : List Value), WellAll P h vs (ns.map WData.int) → IntsAre vs ns := by
  intro ns
  induction ns with
  | nil =>
    intro vs w
    rw [List.map_nil] at w
    cases w
    exact .nil
  | cons n ns ih =>
    intro vs w
    rw [List.map_cons] at w
    cases w with
    | cons a b =>
      cases a
      exact .cons _ _ (ih _ b)

theorem script_of {l : OpenLaw} {n : Nat} (hn : l.most = some n) {P : Params} {h : Heap} {args : List WData} {vals : List Value}
    (hpre : l.row.toRowW.claim.pre args = true) (hwl : WellAll P h vals args) :
    ∃ a vs ns, vals = [Value.ref a] ∧ args = [WData.list (ns.map WData.int)] ∧ h.get? a = some { cls := .type "list", data := .seq vs.toArray } ∧ IntsAre vs ns ∧ ns.length ≤ n := by
  have hsh : WShape.hasAll [] args [.list .int] = true := (pre_splitW hpre).1
  have hc : l.pre.holds [] { args := args } = true := (pre_splitW hpre).2
  obtain ⟨d, r, rfl, h1, h2⟩ := hasAllW_cons hsh
  obtain rfl := hasAllW_nil h2
  obtain ⟨xs, rfl, h3⟩ := hasW_list h1
  obtain ⟨ns, rfl⟩ := items_int h3
  have hlen : ns.length ≤ n := by
    unfold OpenLaw.pre at hc
    have h4 : (WTm.not (.lt (.lit (.int (n : Int))) (.len (.arg 0)))).holds [] { args := [.list (ns.map .int)] } = true := by
      have h4 := (holds_andW hc).1
      rw [hn] at h4
      exact h4
    have h5 := condW_of h4 (w_not (w_lt w_lit (w_len_list (w_arg rfl))))
    rw [List.length_map] at h5
    refine Nat.le_of_not_lt fun q => ?_
    have q' : (n : Int) < ((ns.length : Nat) : Int) := by omega
    first
      | (rw [decide_eq_true q'] at h5; exact absurd h5 (by decide))
      | (simp at h5; omega)
  cases hwl with
  | cons w1 w2 =>
    cases w2
    cases w1 with
    | list ho hall => exact ⟨_, _, ns, rfl, rfl, ho, ints_of_wellAll ns _ hall, hlen⟩

theorem post_true (l : OpenLaw) (args : List WData) : l.row.toRowW.claim.post args (.bool true) args = true :=
  postW_of (r := l.row.toRowW) (X := (true == true))
    (show WShape.has [] (.bool true) .bool = true by first | rfl | decide | simp [WShape.has, WShape.arms, WShape.armsAll])
    (show (WTm.eq .res (.lit (.bool true))).value [] { args := args, res := some (.bool true), after := args } = some (.bool (true == true)) from w_eq_bool (w_res rfl) w_lit) rfl

/-! ### the attachment: holds_open's last premise (the goal 'hc' behind k_head) from a wpAny of the law's body -/
/-- the same from a codeAny of the CALL (for a layer whose function contracts speak of calls) -/
theorem attach_call {l : OpenLaw} {n : Nat} {q : Program} {loose : List Str} {XP : (Str → Option Value) → Heap → Prop} {YP : World → Heap → Prop} {d : DefRec}
    (hn : l.most = some n) (hdf : d.params.defaults = [])
    (call : ∀ (w : World) (s₀ s₁ : Shared) (mg mb : Str → Option Value) (fa : Addr) (o : Obj) (pm cd doc : Value) (a : Addr) (vs : List Value) (ns : List Int),
      Ground q loose [] XP w s₀ mg mb s₁.heap → YP w s₁.heap →
      s₁.heap.get? fa = some o → o.data = .func (docDef d.name d.params d.body d.scope pm cd doc) → s₁.heap.CodeRec cd d.name → mg d.name = some (.ref fa) →
      s₁.heap.get? a = some { cls := .type "list", data := .seq vs.toArray } → IntsAre vs ns → ns.length ≤ n → s₁.gens = #[] →
      codeAny (model l.prog w) callerA (.call (.ref fa) ⟨[.ref a], []⟩) (fun r s' => r = .ok (.ret (.bool true)) ∧ OldK s₁.heap s'.heap ∧ s'.os = s₁.os ∧ AllBare s'.gens) s₁) :
    WalkO q loose XP YP l.row.toRowW d [] (fun f vs => PySem.call f vs) := by
  intro w s₀ s₁ mg mb G Y fa o pm cd doc dV kV ho hd hcd hD hmg hg args vals as hpre hlay hrd hwl hlo
  obtain rfl : dV = .none := Dflts.none hD hdf
  obtain rfl : kV = .none := Dflts.noKw hD
  obtain ⟨a, vs, ns, rfl, rfl, hobj, hints, hlen⟩ := script_of hn hpre hwl
  refine enter_call (codeAny_mono (call w s₀ s₁ mg mb fa o pm cd doc a vs ns G Y ho (fd_plain hd) hcd hmg hobj hints hlen hg) fun r s' hq => ?_)
  obtain ⟨rfl, h2, h3, h4⟩ := hq
  exact ⟨.inl ⟨.bool true, .bool true, [], rfl, fun _ => rfl, .bool true, post_true l _, fun _ => ⟨List.Pairwise.nil, fun _ hm => (nomatch hm)⟩⟩, h2, h3, h4⟩

/-! ### rules over ANY heap (no ledger) from facts about the written part K: the library's own take a ledger (News) for what they write -/
section
variable {prog : Program} {w : World} {A : Around} {E : Value → Shared → Prop} {s : Shared} {K : Frag}

/-! the whole heap as the ledger: makes every rule that writes through a ledger a rule over any heap -/
def ledger (h : Heap) (L d : Addr) : List (Addr × Obj) := (List.range h.objs.size).filterMap fun a => if a = L ∨ a = d then none else (h.get? a).map fun o => (a, o)
end
end Att

namespace L2
open PySem PySem.Spec PyProof.Rows

theorem vals_ints : ∀ {vs : List Value} {ns : List Int}, IntsAre vs ns → Vals (ns.map V.int) vs
  | _, _, .nil => .nil
  | _, _, .cons n t h => .cons ⟨t, rfl⟩ (vals_ints h)

/-- nothing is tracked but the script, known to the object (or it is an object of the module) -/
def Only (H : Hp) : Prop := ∀ b, H b = none ∨ ∃ o xs, H b = some (.frz o (.lst xs))

/-- THE HEAD: the law's promise, at the heap behind the top. F, the promise of the law's def, may use that base is part of the heap (so K.In base, base.Ns mainGlobals mg stand in Mod) -/
theorem law_call {P : Program} {w : World} {K : PySem.W.Frag} {mg mb : Str → Option Value} {CX : CXT} {k : Nat} {fa a : Addr} {fd : FuncData} {x : Str} {sp : Sp} {s₁ : Shared} {vs : List Value} {ns : List Int}
    (KX : K.In s₁.heap) (hns : s₁.heap.Ns mainGlobals mg) (hb : s₁.heap.Ns builtinsNs mb) (hbb : ∀ x : Str, x ≠ "__name__" → mb x = bootBuiltins x) (hlim : s₁.heap.NoLimit) (hg : s₁.gens = #[])
    (ha : s₁.heap.get? a = some { cls := .type "list", data := .seq vs.toArray }) (hi : IntsAre vs ns) (hl : ns.length ≤ sizeLine) (hr : Room k callerA)
    (F : ∀ base : Heap, K.In base → base.Ns mainGlobals mg → FnOk P w K mg base CX k fa fd [x] sp) (hbind : ∀ (s : Shared) (u : Value), BindsTo s fd ⟨[u], []⟩ [(x, u)])
    (hsp : ∀ H : Hp, Only H → SqL K H a (ns.map V.int) → sp [.ref a] H (fun v _ => v = .bl true) fun _ _ _ => False)
    (hCX : ∀ H e s', CX [] H s₁ (fun _ _ _ => False) e s' → False) :
    codeAny (model P w) callerA (.call (.ref fa) ⟨[.ref a], []⟩) (fun r s' => r = .ok (.ret (.bool true)) ∧ OldK s₁.heap s'.heap ∧ s'.os = s₁.os ∧ AllBare s'.gens) s₁ := by
  have rv := vals_ints hi
  have lenV := hi.length
  -- from an abstract heap in which nothing but the script may be tracked
  have core : ∀ H : Hp, Only H → SqL K H a (ns.map V.int) → HOk P w H s₁.heap → (∀ b, H b ≠ none → b = a) → (H a ≠ none → K.lookup a = none) →
      codeAny (model P w) callerA (.call (.ref fa) ⟨[.ref a], []⟩) (fun r s' => r = .ok (.ret (.bool true)) ∧ OldK s₁.heap s'.heap ∧ s'.os = s₁.os ∧ AllBare s'.gens) s₁ := by
    intro H hO hS hok hA hK
    have base_of : ∀ {b : Addr} {o : Obj}, s₁.heap.get? b = some o → H b = none → (hidT s₁.heap H).get? b = some o := fun e n => hidT_get e n
    have noA : ∀ {b : Addr} {o : Obj} {es : Array DictEntry} {ep : Nat}, s₁.heap.get? b = some o → o.data = .dict es ep → H b = none := fun {b o es ep} e d => by
      cases q : H b with
      | none => rfl
      | some u =>
        have e' : b = a := hA b (by rw [q]; simp)
        subst e'
        rw [ha] at e; cases e
        have d' : Data.seq vs.toArray _ = Data.dict es ep := d
        cases d'
    have nsK : ∀ {b : Addr} {m : Str → Option Value}, s₁.heap.Ns b m → (hidT s₁.heap H).Ns b m := fun {b m} ⟨o, es, ep, e, d, r⟩ => ⟨o, es, ep, base_of e (noA e d), d, r⟩
    have hKb : K.In (hidT s₁.heap H) := fun b o e => base_of (KX b o e) (by
      cases q : H b with
      | none => rfl
      | some u =>
        have e' : b = a := hA b (by rw [q]; simp)
        subst e'
        rw [hK (by rw [q]; simp)] at e; cases e)
    have hM : Mod K mg (hidT s₁.heap H) := ⟨hKb, nsK hns, ⟨mb, nsK hb, hbb⟩, let ⟨mc, h1, h2⟩ := hlim; ⟨mc, nsK h1, h2⟩⟩
    have e0 : Env0 P w K mg (hidT s₁.heap H) callerA [] s₁ H := ⟨rfl, hM, fun b o e => of_hidT e, Nat.le_of_eq (hidT_size _ _), trivial, fun b hb => absurd (show b ∈ ([] : List Addr) from hb) (by simp), hok, .of_eq hg⟩
    refine codeAny_mono ((F _ hKb (nsK hns)).run callerA [] s₁ H ⟨[.ref a], []⟩ [.ref a] [.ref a] _ _ hr e0 (hbind s₁ (.ref a)) (.cons rfl .nil) (hsp H hO hS)) fun r s' h => ?_
    cases r with
    | error e => exact (hCX H e s' h).elim
    | ok fl =>
      cases fl with
      | next => exact False.elim h
      | brk => exact False.elim h
      | cont => exact False.elim h
      | ret u =>
        obtain ⟨v, H', os, bare, un, hok', r', q⟩ := h
        have q' : v = .bl true := q
        subst q'
        obtain rfl : u = Value.bool true := r'
        refine ⟨rfl, OldK.of_keep fun b o e => ?_, os, bare⟩
        cases q : H b with
        | none => exact un.keep b o e q (by intro z; exact absurd (show b ∈ ([] : List Addr) from z) (by simp)) (by simp)
        | some u =>
          rcases hO b with z | ⟨ob, xs, z⟩
          · rw [q] at z; cases z
          · have z2 := un.frzs b ob _ z
            obtain ⟨e1, _⟩ := hok b _ z
            obtain ⟨e2, _⟩ := hok' b _ z2
            rw [e] at e1; cases e1
            exact e2
  cases hk : K.lookup a with
  | some o =>
    -- the script is one of the module's own objects
    have e := KX a o hk
    rw [ha] at e
    cases e
    refine core (fun _ => none) (fun _ => .inl rfl) (.inr ⟨_, vs.toArray, _, hk, rfl, rfl, rfl, by rw [List.size_toArray, lenV]; exact hl, by simpa using rv⟩) (fun b u z => by have z' : (none : Option HO) = some u := z; cases z') (fun b z => absurd rfl z) fun z => absurd rfl z
  | none =>
    refine core (fun b => if b = a then some (.frz { cls := .type "list", data := .seq vs.toArray } (.lst (ns.map V.int))) else none) (fun b => ?_) (.inl (.inr ⟨{ cls := .type "list", data := .seq vs.toArray }, if_pos rfl⟩)) (fun b u z => ?_) (fun b z => ?_) fun _ => hk
    · by_cases hb : b = a
      · exact .inr ⟨_, _, if_pos hb⟩
      · exact .inl (if_neg hb)
    · by_cases hb : b = a
      · have z' := (if_pos hb).symm.trans z
        cases z'
        subst hb
        exact ⟨ha, by rw [List.length_map]; exact hl, vs, _, rv, ha⟩
      · have z' := (if_neg hb).symm.trans z
        cases z'
    · by_cases hb : b = a
      · exact hb
      · exact absurd (if_neg hb) z
end L2

namespace L2
open PySem PySem.Spec PyProof.Rows

abbrev KOf {K : PySem.W.Frag} {h : Heap} (_ : K.In h) : PySem.W.Frag := K

/-- the goal that k_head leaves (case hc), from the law's promise. F gives the function object fd (K's own) once, then the promise over every base -/
theorem walk_of {l : PySem.W.OpenLaw} {n k : Nat} {q : Program} {loose : List Str} {XP : (Str → Option Value) → Heap → Prop} {YP : World → Heap → Prop} {d : DefRec} {K : Params → PySem.W.Frag} {CX : World → CXT} {sp : World → Sp} {x : Str}
    (hn : l.most = some n) (hn2 : n ≤ sizeLine) (hdf : d.params.defaults = []) (hr : Room k callerA)
    (hY : ∀ (w : World) (h : Heap), YP w h → (K w.params).In h)
    (F : ∀ (w : World) (mg : Str → Option Value) (fa : Addr) (h : Heap), (K w.params).In h → h.Ns mainGlobals mg → mg d.name = some (.ref fa) →
      ∃ fd : FuncData, (∀ (s : Shared) (u : Value), BindsTo s fd ⟨[u], []⟩ [(x, u)]) ∧
        ∀ base : Heap, (K w.params).In base → base.Ns mainGlobals mg → FnOk l.prog w (K w.params) mg base (CX w) k fa fd [x] (sp w))
    (hsp : ∀ (w : World) (H : Hp) (a : Addr) (ns : List Int), ns.length ≤ n → Only H → SqL (K w.params) H a (ns.map V.int) → sp w [.ref a] H (fun v _ => v = .bl true) fun _ _ _ => False)
    (hCX : ∀ (w : World) (H : Hp) (s : Shared) (e : Value) (s' : Shared), CX w [] H s (fun _ _ _ => False) e s' → False) :
    PySem.W.WalkO q loose XP YP l.row.toRowW d [] (fun f vs => PySem.call f vs) := by
  refine Att.attach_call hn hdf fun w s₀ s₁ mg mb fa o pm cd doc a vs ns G Y ho hd hcd hmg hobj hints hlen hg => ?_
  have KX := hY w _ Y
  obtain ⟨fd, hb, hF⟩ := F w mg fa _ KX G.T.g hmg
  exact law_call KX G.T.g G.T.b G.T.builtins G.T.nolimit hg hobj hints (Nat.le_trans hlen hn2) hr hF hb (fun H hO hS => hsp w H a ns hlen hO hS) fun H e s' => hCX w H s₁ e s'
end L2

/- THE LAST THEOREM (shape; LID, My.* are yours):
   My.Adr: a structure of the addresses that your layer names (classes, functions); My.Txt K t: a structure (Prop) of the equations over K;
   My.txt_mk : {K} {implicit addresses ..} (e1 : nsIn K mainGlobals "law" = some (some (.ref f))) (e2 : K.lookup f = some ⟨oc, od, .func (fnOf "law" "law" params body scope dV kV doc pm an cdv ct), sl⟩) (e3 : codeIn K cdv "law" = true) .. : ∃ t, My.Txt K t

set_option maxRecDepth 100000 in
set_option maxHeartbeats 0 in
theorem PySem.Challenge.cw_LID_holds : PySem.Challenge.rw_LID.Holds := by
  w_on; o_law; k_head; (case hw => w_witness2)
  k_fill
  refine L2.walk_of (l := PySem.Challenge.rw_LID) (n := 63) (k := 40) (x := "script") (CX := fun w => ..) (sp := fun _ => My.sp_law) rfl (by decide) rfl ⟨rfl, by decide, by decide⟩ (fun w h Y => PySem.W.kIn_of Y) ?F ?S ?C
  case F =>
    intro w mg fa h KX G hmg
    have T : ∃ t, My.Txt (L2.KOf KX) t := by
      dsimp only [L2.KOf]                          -- K must stand as «<heap const> w.params» for k_is
      refine' My.txt_mk ?e1 ?e2 ?e3 ..
      (case e1 => PySem.W.k_is)                    -- in the order: a name -> its address -> its object -> its parts
      (case e2 => PySem.W.k_is)
      ..
    obtain ⟨t, T⟩ := T
    have e0 := hmg.symm.trans (PySem.W.mg_of KX G T.law)
    cases e0                                       -- fa is the law's own address
    exact ⟨_, fun s u => .of_eq rfl, fun base kb nb => My.law_fn T kb nb⟩     -- if «.of_eq rfl» comes too early: refine' ⟨_, ?b, fun base kb nb => My.law_fn T kb nb⟩; exact fun s u => .of_eq rfl
  case S => exact fun w H a ns hl hO hS => ..
  case C => exact ..
(the tactic k_is has no namespace: write k_is) -/

/-! SHORT WORDS over the layer: a def of the text, its body, what a loop and a test want. -/
namespace L2
open PySem PySem.Spec PyProof.Rows

/-! ### the text by places -/
def defArgs (s : Stmt) : Arguments := match s with
  | .FunctionDef _ a _ _ _ _ _ _ _ _ => a
  | _ => { posonlyargs := [], args := [], vararg := none, kwonlyargs := [], kw_defaults := [], kwarg := none, defaults := [] }
def defBody (s : Stmt) : List Stmt := match s with
  | .FunctionDef _ _ b _ _ _ _ _ _ _ => b
  | _ => []
def defScope (s : Stmt) : Scope := match s with
  | .FunctionDef _ _ _ _ _ _ sc _ _ _ => sc
  | _ => { kind := .function, names := [], isGenerator := false, isCoroutine := false }

/-! ### no exception leaves a def -/
abbrev CX0 : CXT := fun _ _ _ _ _ _ => False
abbrev E0 : XK := fun _ _ _ => False
theorem pass0 {X : Cx} : Passes CX0 X E0 := fun _ _ _ _ _ _ _ h => h.elim

/-! ### a def (or method) of the text as it stands behind the top -/
structure Fun (K : PySem.W.Frag) (x qual : Str) (st : Stmt) (f : Addr) (fd : FuncData) : Prop where
  ex : ∃ (oc : Value) (od : Option Addr) (kV doc pm : Value) (an : Option Addr) (cdv ct : Value) (osl : Array (Option Value)),
    fd = PySem.W.fnOf x qual (defArgs st) (defBody st) (defScope st) .none kV doc pm an cdv ct ∧ K.lookup f = some ⟨oc, od, .func fd, osl⟩ ∧ PySem.W.codeIn K cdv qual = true
  kp : PySem.W.keepIn K (.ref f) = true
section
variable {P : Program} {w : World} {K : PySem.W.Frag} {mg : Str → Option Value} {base : Heap}
/-- THE RULE for a def: its body as a term of rules, and the reading of that term -/
theorem Fun.ok {x qual : Str} {st : Stmt} {f : Addr} {fd : FuncData} {N ps : List Str} {k : Nat} {sp : Sp} (F : Fun K x qual st f fd) (S : FnScope N ps (defScope st)) (len : ∀ vs H Q E, sp vs H Q E → vs.length = ps.length)
    (hbody : ∀ (cdv : Value) (A : Around) (outer : List Env) (s : Shared) (H : Hp) (vs : List V) (Q : VK) (E : XK), Room k (A.deeper (envOfC qual (defScope st) s.heap.objs.size f cdv)) → sp vs H Q E →
      ∃ t, PSs (cxOf CX0 P w K mg base N qual (defScope st) f cdv A outer s H E).nox (defBody st) t ∧ t { nx := fun _ H' => Q .non H', rt := Q } (start N vs) H) : FnOk P w K mg base CX0 (k + 1) f fd ps sp := by
  obtain ⟨oc, od, kV, doc, pm, an, cdv, ct, osl, rfl, lk, hcd⟩ := F.ex
  refine fn_of lk hcd S len fun A outer s H vs Q E hr hsp => ?_
  obtain ⟨t, h, q⟩ := hbody cdv A outer s H vs Q E hr hsp
  exact ⟨t, h.nox, q⟩
/-- how its arguments bind (no defaults): h is «fun _ _ _ _ _ _ us hl => match us, hl with | [_, _], _ => rfl», one _ a parameter -/
theorem Fun.binds {x qual : Str} {st : Stmt} {f : Addr} {fd : FuncData} {ps : List Str} (F : Fun K x qual st f fd)
    (h : ∀ (kV doc pm : Value) (an : Option Addr) (cdv ct : Value) (us : List Value), us.length = ps.length → bindArgs (PySem.W.fnOf x qual (defArgs st) (defBody st) (defScope st) .none kV doc pm an cdv ct) ⟨us, []⟩ = pure (ps.zip us)) : Binds K fd ps [] := by
  obtain ⟨oc, od, kV, doc, pm, an, cdv, ct, osl, rfl, lk, hcd⟩ := F.ex
  exact .all (h kV doc pm an cdv ct)
theorem fun_mk {x qual : Str} {st : Stmt} {f : Addr} {oc : Value} {od an : Option Addr} {osl : Array (Option Value)} {kV doc pm cdv ct : Value} (l : K.lookup f = some ⟨oc, od, .func (PySem.W.fnOf x qual (defArgs st) (defBody st) (defScope st) .none kV doc pm an cdv ct), osl⟩)
    (c : PySem.W.codeIn K cdv qual = true) (k : PySem.W.keepIn K (.ref f) = true) : Fun K x qual st f (PySem.W.fnOf x qual (defArgs st) (defBody st) (defScope st) .none kV doc pm an cdv ct) := ⟨⟨oc, od, kV, doc, pm, an, cdv, ct, osl, rfl, l, c⟩, k⟩
end
/-! ### expressions in short: the name that stands in the i-th slot -/
section
variable {X : Cx}
theorem pv (i : Nat) {x : Str} {pos : Pos} (hN : X.N[i]? = some x := by rfl) (hv : Vis X.env.scope x := by first | exact Or.inl rfl | exact Or.inr (Or.inl rfl) | exact Or.inr (Or.inr rfl)) (hd : (x == ("__debug__" : Str)) = false := by decide)
    (hcd : (x == ("__classdict__" : Str)) = false := by decide) : PE X (.Name x pos) (tVar i) := pe_var hN hv hd hcd
end

/-! ### tests -/
theorem iteF {A B : Prop} (h : B) : if false = true then A else B := by
  rw [if_neg Bool.false_ne_true]
  exact h
theorem iteT {A B : Prop} (h : A) : if true = true then A else B := by
  rw [if_pos rfl]
  exact h
theorem ite2 {c A B : Prop} [Decidable c] (h1 : c → A) (h2 : ¬ c → B) : if c then A else B := by
  by_cases h : c
  · rw [if_pos h]
    exact h1 h
  · rw [if_neg h]
    exact h2 h
theorem iteNS {c A B : Prop} [Decidable c] (hc : c) (h : B) : if (!decide c) = true then A else B := by
  rw [decide_eq_true hc]
  exact iteF h

/-! ### heaps -/
/-- all that was tracked is as it was -/
def Same (H H' : Hp) : Prop := ∀ b o, H b = some o → H' b = some o
theorem Same.refl (H : Hp) : Same H H := fun _ _ h => h
theorem Same.trans {H H1 H2 : Hp} (a : Same H H1) (b : Same H1 H2) : Same H H2 := fun c o h => b c o (a c o h)
theorem Same.free {H H' : Hp} (e : Same H H') {l : Addr} (h : H' l = Option.none) : H l = Option.none := by
  cases q : H l with
  | none => rfl
  | some o =>
    rw [e l o q] at h
    cases h
theorem Same.seq {K : PySem.W.Frag} {H H' : Hp} {a : Addr} {xs : List V} (e : Same H H') (h : SqL K H a xs) : SqL K H' a xs := by
  rcases h with (h | ⟨o, h⟩) | h
  · exact .inl (.inl (e _ _ h))
  · exact .inl (.inr ⟨o, e _ _ h⟩)
  · exact .inr h

end L2

set_option maxHeartbeats 4000000
/-! Comprehensions over the hand layer: a list by one clause, its tests, its block's own context. -/
namespace L2
open PySem PySem.Spec PyProof.Rows

section
variable {prog : Program} {w : World} {A : Around} {R : Result → Shared → Prop} {s : Shared}
theorem comp_loop {elt target iter : Expr} {ifs : List Expr} {scope : Scope} {pos : Pos} {it acc : Value} {env : Env} (I : Nat → Shared → Prop)
    (turn : ∀ n s, I n s → wpAny (model prog w) A (pyNext it) (fun r s₁ => match r with
      | none => R (.ok .next) s₁
      | some v => wpAny (model prog w) A (letOwnedTupleGo target it v) (fun _ s₁' => wpAny (model prog w) A (assign target env v) (fun _ s₂ =>
          wpAny (model prog w) A (forIn ifs true fun c r => if r = true then do let ok ← isTrue c env (eval c env); pure (ForInStep.yield ok) else pure (ForInStep.yield r)) (fun ok s₃ =>
            if ok = true then wpAny (model prog w) A (eval elt env) (fun x s₄ =>
              wpAny (model prog w) A (call (.builtin "list.append") [acc, x]) (fun _ s₅ => ∃ m, m < n ∧ I m s₅) (fun _ _ => False) s₄) (fun _ _ => False) s₃
            else ∃ m, m < n ∧ I m s₃) (fun _ _ => False) s₂) (fun _ _ => False) s₁') (fun _ _ => False) s₁) (fun _ _ => False) s)
    (n : Nat) (h : I n s) : codeAny (model prog w) A (.compLoop (.ListComp elt [⟨target, iter, ifs, 0⟩] scope pos) 0 it acc env) R s := by
  refine codeAny_loop rfl I (fun n s hI => ?_) n h
  show wpAny _ A ((compTurn (.ListComp elt [⟨target, iter, ifs, 0⟩] scope pos) 0 it acc env).onRaise (fun x => do noteFrame x env; theTreesLotGoes x)) _ _ s
  refine wpAny_noted ?_
  rw [compTurn_list]
  refine wpAny_bind (wpAny_standAt (wpAny_bind (wpAny_mono (turn n s hI) (fun r s₁ h₁ => ?_) fun _ _ h' => h'.elim)))
  cases r with
  | none => exact wpAny_pure h₁
  | some v =>
    refine wpAny_bind (wpAny_mono h₁ (fun _ s₁' h₁' => ?_) fun _ _ h' => h'.elim)
    refine wpAny_bind (wpAny_mono h₁' (fun _ s₂ h₂ => wpAny_bind (wpAny_mono h₂ (fun ok s₃ h₃ => ?_) fun _ _ h' => h'.elim)) fun _ _ h' => h'.elim)
    cases ok with
    | false => exact wpAny_pure ⟨rfl, h₃⟩
    | true =>
      exact wpAny_bind (wpAny_bind (wpAny_mono h₃ (fun x s₄ h₄ => wpAny_bind (wpAny_mono h₄ (fun _ s₅ h₅ => wpAny_pure (wpAny_pure ⟨rfl, h₅⟩)) fun _ _ h' => h'.elim)) fun _ _ h' => h'.elim))
end

/-! ### the cells that a block reads -/
theorem clos_go (env : Env) (f : Str × NameKind → List (Str × Addr) → Sem (ForInStep (List (Str × Addr))))
    (hf : ∀ n k r, f (n, k) r = if (k == NameKind.free) = true then (do let a ← cellOf env n; pure (ForInStep.yield ((n, a) :: r))) else pure (ForInStep.yield r)) :
    ∀ (ns : List (Str × NameKind)) (acc : List (Str × Addr)), (∀ y ∈ ns, y.2 = .free → ∃ c, env.cells.lookup y.1 = some c) → (∀ x c, acc.lookup x = some c → env.cells.lookup x = some c) →
      ∃ cl, forIn ns acc f = pure cl ∧ (∀ x c, cl.lookup x = some c → env.cells.lookup x = some c) ∧ (∀ y ∈ ns, y.2 = .free → ∃ c, cl.lookup y.1 = some c) ∧ (∀ x c, acc.lookup x = some c → ∃ c', cl.lookup x = some c')
  | [], acc, _, ha => ⟨acc, by rw [List.forIn_nil], ha, fun _ h => (nomatch h), fun x c h => ⟨c, h⟩⟩
  | (n, k) :: r, acc, hn, ha => by
    rw [List.forIn_cons, hf]
    by_cases hk : k = .free
    · subst hk
      obtain ⟨c, hc⟩ := hn (n, .free) List.mem_cons_self rfl
      have hc' : env.cells.lookup n = some c := hc
      have e1 : cellOf env n = pure c := by unfold cellOf; rw [hc']
      obtain ⟨cl, h1, h2, h3, h4⟩ := clos_go env f hf r ((n, c) :: acc) (fun y hy => hn y (List.mem_cons_of_mem _ hy)) (fun x c' hx => by
        rw [List.lookup_cons] at hx
        cases e : x == n with
        | true =>
          rw [e] at hx
          have : x = n := by simpa using e
          subst this
          rw [← Option.some.inj hx]; exact hc'
        | false => rw [e] at hx; exact ha x c' hx)
      refine ⟨cl, ?_, h2, fun y hy hyf => ?_, fun x c' hx => ?_⟩
      · rw [if_pos (by rfl), e1]
        exact h1
      · rcases List.mem_cons.mp hy with e | hy
        · subst e
          exact h4 n c (by simp)
        · exact h3 y hy hyf
      · cases e : x == n with
        | true => exact h4 x c (by rw [List.lookup_cons, e])
        | false => exact h4 x c' (by rw [List.lookup_cons, e]; exact hx)
    · have hk' : (k == NameKind.free) = false := by simpa using hk
      obtain ⟨cl, h1, h2, h3, h4⟩ := clos_go env f hf r acc (fun y hy => hn y (List.mem_cons_of_mem _ hy)) ha
      refine ⟨cl, ?_, h2, fun y hy hyf => ?_, h4⟩
      · rw [hk', if_neg Bool.false_ne_true]
        exact h1
      · rcases List.mem_cons.mp hy with e | hy
        · subst e
          exact absurd hyf hk
        · exact h3 y hy hyf
theorem clos_ok {scope : Scope} {env : Env} (h : ∀ y ∈ scope.names, y.2 = .free → ∃ c, env.cells.lookup y.1 = some c) :
    ∃ cl, closureFor scope env = pure cl ∧ (∀ x c, cl.lookup x = some c → env.cells.lookup x = some c) ∧ (∀ y ∈ scope.names, y.2 = .free → ∃ c, cl.lookup y.1 = some c) := by
  obtain ⟨cl, h1, h2, h3, _⟩ := clos_go env (fun x r => match x with
    | (n, k) => if (k == NameKind.free) = true then (do let a ← cellOf env n; pure (ForInStep.yield ((n, a) :: r))) else pure (ForInStep.yield r)) (fun _ _ _ => rfl) scope.names [] h (fun x c q => by simp at q)
  refine ⟨cl, ?_, h2, h3⟩
  unfold closureFor
  refine Eq.trans ?_ h1
  have e : ∀ (m : Sem (List (Str × Addr))), (m >>= fun r => (pure r >>= fun r => pure r)) = m := fun m => by simp only [pure_bind, bind_pure]
  exact e _

/-! ### the block's names and tests -/
def capt (n : Nat) (fi : List Nat) (σ : St) : St := List.replicate n none ++ fi.map fun i => σ.getD i none
def tTrue : TT := fun _ H Q => Q true H
def PTs (X : Cx) (ifs : List Expr) (t : TT) : Prop :=
  ∀ (pins : List (Addr × Obj)) (s : Shared) (σ : St) (H : Hp) (Q : Bool → Hp → Prop), Inv X pins σ H s → t σ H Q →
    wpAny (model X.prog X.w) X.A (forIn ifs true fun c r => if r = true then do let ok ← isTrue c X.env (eval c X.env); pure (ForInStep.yield ok) else pure (ForInStep.yield r)) (TP X pins σ Q) X.xe s
theorem pts_nil {X : Cx} : PTs X [] tTrue := fun pins s σ H Q I h => wpAny_tests_nil ⟨H, I, h⟩
/-- the block: Ls its own names, Fs the names that it reads of the def's, fi their places there -/
structure LcScope (N : List Str) (osc scope : Scope) (Ls Fs : List Str) (fi : List Nat) : Prop where
  kind : scope.kind = .function
  cells : ∀ y ∈ scope.names, y.2 ≠ .cell
  names : ∀ y ∈ scope.names, y.2 = .local → scope.names.lookup y.1 = some .local
  fre : ∀ x ∈ Fs, scope.names.lookup x = some .free
  all : ∀ y ∈ scope.names, y.2 = .free → osc.names.lookup y.1 = some .cell ∨ osc.names.lookup y.1 = some .free
  ix : fi.map (fun i => N[i]?) = Fs.map some
def blk (X : Cx) (scope : Scope) (N : List Str) (cl : List (Str × Addr)) (C : Addr) (s3 : Shared) (H3 : Hp) (ex : List Addr) : Cx :=
  { X with N := N, s₀ := s3, H₀ := H3, env := compEnvC scope cl C X.env, outer := X.stack, stack := X.stack, ex := ex, fn := fun _ => false, pn := [], xe := fun _ _ => False }

theorem relabel_free {env : Env} : ∀ {names : List (Str × NameKind)} {x : Str}, (∀ y ∈ names, y.2 ≠ .cell) →
    ((names.map fun (n, k) => if (k == NameKind.free && env.scope.kind == .function && env.kindOf n == some .cell) then (n, NameKind.cell) else (n, k)).lookup x = some .cell ∨
     (names.map fun (n, k) => if (k == NameKind.free && env.scope.kind == .function && env.kindOf n == some .cell) then (n, NameKind.cell) else (n, k)).lookup x = some .free) → ∃ y ∈ names, y.1 = x ∧ y.2 = .free
  | [], _, _, h => by simp at h
  | (n, k) :: r, x, hc, h => by
    have ih := @relabel_free env r x (fun y hy => hc y (List.mem_cons_of_mem _ hy))
    cases hx : x == n with
    | true =>
      have e : x = n := by simpa using hx
      subst e
      by_cases hb : (k == NameKind.free && env.scope.kind == .function && env.kindOf x == some .cell) = true
      · have : k = .free := by
          simp only [Bool.and_eq_true, beq_iff_eq] at hb
          exact hb.1.1
        exact ⟨(x, k), List.mem_cons_self, rfl, this⟩
      · simp only [List.map_cons, if_neg hb, List.lookup_cons, hx] at h
        rcases h with h | h
        · exact absurd (Option.some.inj h) (hc (x, k) List.mem_cons_self)
        · exact ⟨(x, k), List.mem_cons_self, rfl, Option.some.inj h⟩
    | false =>
      have h' : ((r.map fun (n, k) => if (k == NameKind.free && env.scope.kind == .function && env.kindOf n == some .cell) then (n, NameKind.cell) else (n, k)).lookup x = some .cell ∨
        (r.map fun (n, k) => if (k == NameKind.free && env.scope.kind == .function && env.kindOf n == some .cell) then (n, NameKind.cell) else (n, k)).lookup x = some .free) := by
        by_cases hb : (k == NameKind.free && env.scope.kind == .function && env.kindOf n == some .cell) = true
        · simpa only [List.map_cons, if_pos hb, List.lookup_cons, hx] using h
        · simpa only [List.map_cons, if_neg hb, List.lookup_cons, hx] using h
      obtain ⟨y, hy, z⟩ := ih h'
      exact ⟨y, List.mem_cons_of_mem _ hy, z⟩
theorem relabel_look {env : Env} {x : Str} : ∀ {names : List (Str × NameKind)}, names.lookup x = some .free →
    ((names.map fun (n, k) => if (k == NameKind.free && env.scope.kind == .function && env.kindOf n == some .cell) then (n, NameKind.cell) else (n, k)).lookup x = some .cell ∨
     (names.map fun (n, k) => if (k == NameKind.free && env.scope.kind == .function && env.kindOf n == some .cell) then (n, NameKind.cell) else (n, k)).lookup x = some .free)
  | [], h => by simp at h
  | (n, k) :: r, h => by
    cases hx : x == n with
    | true =>
      have e : x = n := by simpa using hx
      subst e
      rw [List.lookup_cons, hx] at h
      have hk : k = .free := Option.some.inj h
      subst hk
      by_cases hb : (NameKind.free == NameKind.free && env.scope.kind == .function && env.kindOf x == some .cell) = true
      · left; simp only [List.map_cons, if_pos hb, List.lookup_cons, hx]
      · right; simp only [List.map_cons, if_neg hb, List.lookup_cons, hx]
    | false =>
      rw [List.lookup_cons, hx] at h
      have ih := @relabel_look env x r h
      by_cases hb : (k == NameKind.free && env.scope.kind == .function && env.kindOf n == some .cell) = true
      · simpa only [List.map_cons, if_pos hb, List.lookup_cons, hx] using ih
      · simpa only [List.map_cons, if_neg hb, List.lookup_cons, hx] using ih

theorem aLt {h : Heap} {b : Addr} {o : Obj} (e : h.get? b = some o) : @LT.lt Nat _ b h.objs.size := Heap.lt_size e
/-! ### the rule -/
/-- W: by the turn, a measure, the items so far, the heap; N: what a turn is to reach -/
def LcW (J : It) (σ : St) (g : TG) (tc : TT) (te : TE) (H : Hp) (Q : VK) : Prop :=
  ∃ W : Nat → Nat → List V → Hp → Prop, (∃ m, W 0 m [] H) ∧ ∀ i m ys H, W i m ys H →
    (J.stop i H ∧ ys.length ≤ sizeLine ∧ ∀ D, H D = none → Q (.ref D) (upd H D (.lst ys))) ∨
    (J.go i H ∧ ys.length ≤ sizeLine ∧ ∃ N : List V → Hp → Prop, (∀ ys' H', N ys' H' → ∃ m', m' < m ∧ W (i + 1) m' ys' H') ∧ ∀ x H', J.yld i H x H' → g x σ H' fun σ2 H2 =>
      tc σ2 H2 fun b H3 => if b = true then te σ2 H3 fun y H4 => N (ys ++ [y]) H4 else N ys H3)
def tLc (n : Nat) (fi : List Nat) (wi : TI) (g : TG) (tc : TT) (te : TE) : TE := fun σ H Q => wi σ H fun J H1 => LcW J (capt n fi σ) g tc te H1 Q

section
variable {X : Cx} {pins : List (Addr × Obj)} {σ : St} {tg elt iter : Expr} {ifs : List Expr} {scope : Scope} {pos : Pos} {Ls Fs : List Str} {fi : List Nat} {g : TG} {tc : TT} {te : TE}

/-- an iterator's turns in this context -/
structure TurnX (X : Cx) (tg : Expr) (J : It) (fp : List Addr) (it : Addr) (tn : Nat → Heap → Prop) : Prop where
  obj : ∀ i h, tn i h → ∀ b ∈ fp, ∃ o, h.get? b = some o ∧ ∀ v, o.data ≠ .cell v
  keep : ∀ i h h', tn i h → (∀ b ∈ fp, ∀ o, h.get? b = some o → h'.get? b = some o) → tn i h'
  item : ∀ (i : Nat) (pins : List (Addr × Obj)) (s : Shared) (σ : St) (H : Hp) (E : Value → Shared → Prop), Inv X pins σ H s → (∀ b ∈ fp, FpOk X pins H b) → tn i s.heap → J.go i H →
    wpAny (model X.prog X.w) X.A (pyNext (.ref it)) (fun r s1 => ∃ u, r = some u ∧
      wpAny (model X.prog X.w) X.A (letOwnedTupleGo tg (.ref it) u) (fun _ s2 => ∃ x H', Inv X pins σ H' s2 ∧ RelV x u ∧ J.yld i H x H' ∧ tn (i + 1) s2.heap ∧ ∀ b ∈ fp, H' b = none) E s1) E s
  done : ∀ (i : Nat) (pins : List (Addr × Obj)) (s : Shared) (σ : St) (H : Hp) (E : Value → Shared → Prop), Inv X pins σ H s → (∀ b ∈ fp, FpOk X pins H b) → tn i s.heap → J.stop i H →
    wpAny (model X.prog X.w) X.A (pyNext (.ref it)) (fun r s1 => r = none ∧ Inv X pins σ H s1) E s
  self : ∀ (A : Around) (i : Nat) (s : Shared) (Q : Value → Shared → Prop) (E : Value → Shared → Prop), tn i s.heap → Q (.ref it) s → wpAny (model X.prog X.w) A (pyIter (.ref it)) Q E s
theorem Turn.at {X : Cx} {tg : Expr} {J : It} {fp : List Addr} {it : Addr} {tn : Nat → Heap → Prop} (T : Turn X.prog X.w X.K tg J fp it tn) (hc : X.calm = true) : TurnX X tg J fp it tn := ⟨T.obj, T.keep, T.item X rfl rfl rfl hc, T.done X rfl rfl rfl hc, T.self⟩
theorem lc_block {H2 : Hp} {s2 : Shared} {it : Addr} {fp : List Addr} {tn : Nat → Heap → Prop} {J : It} {cl : List (Str × Addr)} {Q : VK} {E : Value → Shared → Prop} {RR : Value → Addr → Result → Shared → Prop}
    (S : LcScope X.N X.env.scope scope Ls Fs fi)
    (hb : ∀ C s3 H3 ex, PG (blk X scope (Ls ++ Fs) cl C s3 H3 ex) tg g ∧ PTs (blk X scope (Ls ++ Fs) cl C s3 H3 ex) ifs tc ∧ PE (blk X scope (Ls ++ Fs) cl C s3 H3 ex) elt te)
    (hcl1 : ∀ x c, cl.lookup x = some c → X.env.cells.lookup x = some c) (hcl2 : ∀ y ∈ scope.names, y.2 = .free → ∃ c, cl.lookup y.1 = some c)
    (I2 : Inv X pins σ H2 s2) (TX : ∀ C s3 H3 ex, TurnX (blk X scope (Ls ++ Fs) cl C s3 H3 ex) tg J fp it tn) (st2 : tn 0 s2.heap) (f2 : ∀ b ∈ fp, FpOk X pins H2 b)
    (hW : ∃ W : Nat → Nat → List V → Hp → Prop, (∃ m, W 0 m [] H2) ∧ ∀ i m ys H, W i m ys H →
      (J.stop i H ∧ ys.length ≤ sizeLine ∧ ∀ D, H D = none → Q (.ref D) (upd H D (.lst ys))) ∨
      (J.go i H ∧ ys.length ≤ sizeLine ∧ ∃ N : List V → Hp → Prop, (∀ ys' H', N ys' H' → ∃ m', m' < m ∧ W (i + 1) m' ys' H') ∧ ∀ x H', J.yld i H x H' → g x (capt Ls.length fi σ) H' fun σ2 H2 =>
        tc σ2 H2 fun b H3 => if b = true then te σ2 H3 fun y H4 => N (ys ++ [y]) H4 else N ys H3))
    (fin : ∀ D C H' s' m, Inv X pins σ H' s' → Q (.ref D) H' → s'.heap.Ns C m → FpOk X pins H' C → RR (.ref D) C (.ok .next) s') :
    wpAny (model X.prog X.w) X.A (newList []) (fun acc s₃ => wpAny (model X.prog X.w) X.A (newFunctionEnv scope X.env.globals cl [] X.env.qual none .none (some X.env)) (fun cenv s₄ =>
      codeAny (model X.prog X.w) X.A (.compStart (.ListComp elt [⟨tg, iter, ifs, 0⟩] scope pos) 0 (.ref it) acc { cenv with scope := relabel scope X.env }) (RR acc cenv.locals) s₄) E s₃) E s2 := by
  refine wpAny_newObj_type (wpAny_newFunctionEnv S.cells (by intro y hy; simp at hy) (fun h₁ hns₁ hsb₁ => ?_) S.kind)
  dsimp only at hns₁ hsb₁ ⊢
  generalize hH3 : s2.heap.push { cls := .type "list", dict := none, data := .seq ([] : List Value).toArray } = h3 at hns₁ hsb₁ ⊢
  generalize hC : h3.objs.size = C at hns₁ hsb₁ ⊢
  generalize hD : s2.heap.objs.size = D
  have hCD : C = D + 1 := by rw [← hC, ← hH3, Heap.size_push, hD]
  have k23 : ∀ b o, s2.heap.get? b = some o → h3.get? b = some o := fun b o e => by rw [← hH3]; exact Heap.get?_push_of_some _ e
  have k34 : ∀ b o, h3.get? b = some o → h₁.get? b = some o := fun b o e => hsb₁.extBut b o (Nat.ne_of_lt (by have := aLt e; omega)) (Heap.get?_push_of_some _ e)
  have hDo : h3.get? D = some { cls := .type "list", data := .seq ([] : List Value).toArray } := by rw [← hH3, ← hD]; exact Heap.get?_push_size _ rfl
  obtain ⟨W, ⟨m0, w0⟩, turn⟩ := hW
  have T := TX C { s2 with heap := h3 } H2 (D :: fp)
  -- the state where the block begins
  have I3 : Inv X pins σ H2 { s2 with heap := h3 } := I2.kept (t' := s2.toks) k23
  have frD : H2 D = none := by rw [← hD]; exact I2.fresh
  have frC : H2 C = none := I2.hok.fresh (by omega)
  have DL : D ≠ X.env.locals := Nat.ne_of_gt (by have : @LT.lt Nat _ X.env.locals s2.heap.objs.size := I2.lt; omega)
  have CL : C ≠ X.env.locals := Nat.ne_of_gt (by have : @LT.lt Nat _ X.env.locals s2.heap.objs.size := I2.lt; omega)
  have cellLt : ∀ x c, X.env.cells.lookup x = some c → @LT.lt Nat _ c D := fun x c e => by
    obtain ⟨v, q⟩ := I2.cell x c e
    have : @LT.lt Nat _ c s2.heap.objs.size := q.lt
    omega
  have fpLt : ∀ b ∈ fp, @LT.lt Nat _ b D := fun b hb => by
    obtain ⟨o, e, _⟩ := T.obj _ _ st2 b hb
    have := aLt e
    omega
  have exLoc : ∀ b ∈ D :: fp, b ≠ C ∧ (∀ x c, X.env.cells.lookup x = some c → c ≠ b) := fun b hb => by
    rcases List.mem_cons.mp hb with e | hb
    · subst e
      exact ⟨Nat.ne_of_lt (by omega), fun x c e => Nat.ne_of_lt (cellLt x c e)⟩
    · exact ⟨Nat.ne_of_lt (by have := fpLt b hb; omega), (f2 b hb).2.2.2.2.1⟩
  have ok' : (blk X scope (Ls ++ Fs) cl C { s2 with heap := h3 } H2 (D :: fp)).Ok := by
    refine ⟨I2.ok.mod, S.kind, I2.ok.glob, I2.ok.blt, ?_, fun x y c e1 e2 => I2.ok.inj x y c (hcl1 x c e1) (hcl1 y c e2), fun x hx => ?_, fun x c hx => absurd hx Bool.false_ne_true, I2.ok.hd, I2.ok.frames, .inl rfl,
      fun b hb => ⟨(exLoc b hb).1, fun x c e => (exLoc b hb).2 x c (hcl1 x c e)⟩, I3.bs, Nat.le_trans I2.ok.bsz I3.sz, fun b o e hb => ?_, fun b hb => ?_, I3.stack, I3.stkFree⟩
    · show h3.objs.size ≤ C
      omega
    · obtain ⟨y, hy, e1, e2⟩ := relabel_free S.cells hx
      obtain ⟨c, q⟩ := hcl2 y hy e2
      exact ⟨c, e1 ▸ q⟩
    · rcases List.mem_cons.mp hb with z | hb
      · exact absurd z (Nat.ne_of_lt (by have := aLt (I2.bk b o e); omega))
      · rcases (f2 b hb).2.2.2.1 with z | z
        · exact I2.ok.noex b o e z
        · have h1 : @LT.lt Nat _ b X.base.objs.size := aLt e
          have h2 : @LE.le Nat _ X.base.objs.size X.s₀.heap.objs.size := I2.ok.bsz
          have h3 : @LE.le Nat _ X.s₀.heap.objs.size b := z
          omega
    · intro hz
      have hz' := I2.stkSub b hz
      rcases List.mem_cons.mp hb with e | hb
      · subst e
        rcases List.mem_cons.mp hz' with z | z
        · exact DL z
        · exact I2.nofs (by omega) z
      · rcases List.mem_cons.mp hz' with z | z
        · exact (f2 b hb).2.1 z
        · exact (f2 b hb).2.2.1 z
  obtain ⟨m2, hn2, hl2⟩ := id I2.loc
  -- the captured values lie in cells that no one changes
  have cap : ∀ (i : Nat) (x : Str) (v : V), (Ls ++ Fs)[i]? = some x → (capt Ls.length fi σ)[i]? = some (some v) → ∃ u c, RelV v u ∧ ((relabel scope X.env).names.lookup x = some .cell ∨ (relabel scope X.env).names.lookup x = some .free) ∧
      cl.lookup x = some c ∧ X.env.cells.lookup x = some c ∧ s2.heap.IsCell c (some u) := by
    intro i x v e1 e2
    unfold capt at e2
    by_cases hi : i < Ls.length
    · rw [List.getElem?_append_left (by simpa using hi), List.getElem?_replicate, if_pos hi] at e2
      cases e2
    · have hi' : Ls.length ≤ i := Nat.le_of_not_lt hi
      rw [List.getElem?_append_right hi'] at e1
      rw [List.getElem?_append_right (by simpa using hi'), List.length_replicate, List.getElem?_map] at e2
      cases e3 : fi[i - Ls.length]? with
      | none => rw [e3] at e2; cases e2
      | some j =>
        rw [e3] at e2
        have e4 : σ.getD j none = some v := Option.some.inj e2
        have e5 : X.N[j]? = some x := by
          have q := congrArg (fun l => l[i - Ls.length]?) S.ix
          simp only [List.getElem?_map, e3, e1, Option.map_some] at q
          exact Option.some.inj q
        have e6 : σ[j]? = some (some v) := by
          rw [List.getD_eq_getElem?_getD] at e4
          cases e7 : σ[j]? with
          | none => rw [e7] at e4; cases e4
          | some z => rw [e7] at e4; exact congrArg some e4
        have fx := S.fre x (List.mem_of_getElem? e1)
        have al := S.all (x, .free) (PySem.mem_of_lookup fx) rfl
        have vis : Vis X.env.scope x := by
          rcases al with z | z
          · exact .inr (.inl z)
          · exact .inr (.inr z)
        obtain ⟨u, ru, lk⟩ := hl2 j x v e5 e6 vis
        rcases lk with ⟨k, _⟩ | ⟨k, c, ec, hcell⟩
        · have k' : X.env.scope.names.lookup x = some .local := k
          rcases al with z | z
          · rw [show X.env.scope.names.lookup x = some .cell from z] at k'; cases k'
          · rw [show X.env.scope.names.lookup x = some .free from z] at k'; cases k'
        · obtain ⟨c', ec'⟩ := hcl2 (x, .free) (PySem.mem_of_lookup fx) rfl
          have : c' = c := Option.some.inj ((hcl1 x c' ec').symm.trans ec)
          subst this
          exact ⟨u, c', ru, relabel_look fx, ec', ec, hcell⟩
  have capLen : (capt Ls.length fi σ).length = (Ls ++ Fs).length := by
    unfold capt
    have q := congrArg List.length S.ix
    simp only [List.length_map] at q
    rw [List.length_append, List.length_replicate, List.length_map, List.length_append, q]
  -- whatever the block's names hold, the captured ones hold what they held
  have re : ∀ {ps : List (Addr × Obj)} {σ' : St} {H' : Hp} {s' : Shared}, Inv (blk X scope (Ls ++ Fs) cl C { s2 with heap := h3 } H2 (D :: fp)) ps σ' H' s' → Inv (blk X scope (Ls ++ Fs) cl C { s2 with heap := h3 } H2 (D :: fp)) ps (capt Ls.length fi σ) H' s' := by
    intro ps σ' H' s' J'
    refine ⟨J'.ok, J'.os, J'.bare, J'.base, ?_, J'.cell, J'.free, J'.freeC, J'.pin, J'.hok, capLen⟩
    obtain ⟨m, hn, _⟩ := J'.loc
    refine ⟨m, hn, fun i x v e1 e2 _ => ?_⟩
    obtain ⟨u, c, ru, kk, ec, ec2, o, ho, hd⟩ := cap i x v e1 e2
    obtain ⟨sl, q⟩ := J'.base.any (k23 c o ho) (I2.freeC x c ec2) fun z => (exLoc c z).2 x c ec2 rfl
    exact ⟨u, ru, .inr ⟨kk, c, ec, _, q, hd⟩⟩
  have I4 : Inv (blk X scope (Ls ++ Fs) cl C { s2 with heap := h3 } H2 (D :: fp)) [(D, { cls := .type "list", data := .seq ([] : List Value).toArray })] (capt Ls.length fi σ) H2 { s2 with heap := h₁, toks := s2.toks + ([] : List (Str × Value)).length } := by
    refine ⟨ok', rfl, I2.bare, Un.kept k34, ⟨_, hns₁, fun i x v e1 e2 _ => ?_⟩, fun x c e => ?_, frC, fun x c e => I2.freeC x c (hcl1 x c e), fun p hp => ?_, I2.hok.kept fun b o e => k34 b o (k23 b o e), capLen⟩
    · obtain ⟨u, c, ru, kk, ec, ec2, o, ho, hd⟩ := cap i x v e1 e2
      exact ⟨u, ru, .inr ⟨kk, c, ec, o, k34 c o (k23 c o ho), hd⟩⟩
    · obtain ⟨v, o, ho, hd⟩ := I2.cell x c (hcl1 x c e)
      exact ⟨v, o, k34 c o (k23 c o ho), hd⟩
    · have hp' : p = (D, { cls := .type "list", data := .seq ([] : List Value).toArray }) := by
        have : p ∈ ([] : List (Addr × Obj)) ++ [(D, { cls := .type "list", data := .seq ([] : List Value).toArray })] := hp
        simpa using this
      subst hp'
      refine ⟨k34 D _ hDo, frD, Nat.ne_of_lt (show @LT.lt Nat _ D C by omega), fun z => ?_, fun v z => by cases z⟩
      rcases List.mem_cons.mp (I2.stkSub D z) with z | z
      · exact DL z
      · exact I2.nofs (by omega) z
  obtain ⟨hg, ht, he⟩ := hb C { s2 with heap := h3 } H2 (D :: fp)
  -- behind the block: what the def's own context knows
  have back : ∀ {ps : List (Addr × Obj)} {σ' : St} {H' : Hp} {s' : Shared} {ys : List V} {its : List Value} {n : Nat}, Inv (blk X scope (Ls ++ Fs) cl C { s2 with heap := h3 } H2 (D :: fp)) ps σ' H' s' → s'.heap.get? D = some { cls := .type "list", data := .seq its.toArray n } →
      H' D = none → Vals ys its → ys.length ≤ sizeLine → Inv X pins σ (upd H' D (.lst ys)) s' ∧ FpOk X pins (upd H' D (.lst ys)) C := by
    intro ps σ' H' s' ys its n J' hDs hDn rv hz
    have neD : ∀ b o, s2.heap.get? b = some o → b ≠ D := fun b o e => Nat.ne_of_lt (by have := aLt e; omega)
    have nex : ∀ b, b ∉ fp → b ≠ D → b ∉ D :: fp := fun b h1 h2 z => (List.mem_cons.mp z).elim h2 h1
    have U : Un (frs X.stack) fp H2 (upd H' D (.lst ys)) s2.heap s'.heap := by
      refine ⟨fun b o e n hb hx => J'.base.keep b o (k23 b o e) n hb (nex b hx (neD b o e)), fun b o e n hb hx => J'.base.slot b o (k23 b o e) n hb (nex b hx (neD b o e)), fun b o e n hx => ?_, fun b o e hx => J'.base.there b o (k23 b o e) (nex b hx (neD b o e)), fun b xs e => ?_, fun b o u e => ?_, fun b ps e => ?_⟩
      · rw [upd_ne (neD b o e)]
        exact J'.base.free b o (k23 b o e) n (nex b hx (neD b o e))
      · rw [upd_ne (ne_of_none e frD)]
        exact J'.base.tups b xs e
      · rw [upd_ne (ne_of_none e frD)]
        exact J'.base.frzs b o u e
      · obtain ⟨more, q⟩ := J'.base.tbls b ps e
        exact ⟨more, by rw [upd_ne (ne_of_none e frD)]; exact q⟩
    have hok' : HOk X.prog X.w (upd H' D (.lst ys)) s'.heap := fun b u q => by
      by_cases hbD : b = D
      · subst hbD
        rw [upd_same] at q
        cases q
        exact ⟨hz, its, n, rv, hDs⟩
      · rw [upd_ne hbD] at q
        exact (J'.hok b u q).stay (fun c v _ r => r) (fun c r => by rw [upd_ne (ne_of_none r hDn)]; exact r) fun c xs r => by rw [upd_ne (ne_of_none r hDn)]; exact r
    refine ⟨I2.call' J'.os U hok' J'.bare fun b hb => ⟨(f2 b hb).2.2.2.1, (f2 b hb).2.1, (f2 b hb).2.2.2.2.1, (f2 b hb).2.2.2.2.2⟩, ?_⟩
    refine ⟨by rw [upd_ne (Nat.ne_of_gt (by omega))]; exact J'.free, CL, I2.nofs (by omega), .inr (by have := I2.sz; omega), fun x c e => Nat.ne_of_lt (by have := cellLt x c e; omega), fun p hp => ?_⟩
    have := aLt (I2.pin p hp).1
    exact Nat.ne_of_lt (by omega)
  have loop : codeAny (model X.prog X.w) X.A (.compLoop (.ListComp elt [⟨tg, iter, ifs, 0⟩] scope pos) 0 (.ref it) (.ref D) (compEnvC scope cl C X.env)) (RR (.ref D) C) { s2 with heap := h₁, toks := s2.toks + ([] : List (Str × Value)).length } := by
    refine comp_loop (fun n s' => ∃ (i : Nat) (ys : List V) (H' : Hp) (its : List Value) (k : Nat), Inv (blk X scope (Ls ++ Fs) cl C { s2 with heap := h3 } H2 (D :: fp)) [(D, { cls := .type "list", data := .seq its.toArray k })] (capt Ls.length fi σ) H' s' ∧
      Vals ys its ∧ tn i s'.heap ∧ (∀ b ∈ fp, H' b = none) ∧ W i n ys H') ?_ m0 ⟨0, [], H2, [], 0, I4, .nil, T.keep _ _ _ st2 fun b _ o e => k34 b o (k23 b o e), fun b hb => (f2 b hb).1, w0⟩
    rintro n s5 ⟨i, ys, H5, its, k, I5, rv, st5, fr5, w5⟩
    have stat : ∀ {H' : Hp} {its' : List Value} {k' : Nat}, (∀ b ∈ fp, H' b = none) → ∀ b ∈ fp, FpOk (blk X scope (Ls ++ Fs) cl C { s2 with heap := h3 } H2 (D :: fp)) [(D, { cls := .type "list", data := .seq its'.toArray k' })] H' b := fun hn b hb => by
      refine ⟨hn b hb, (exLoc b (List.mem_cons_of_mem _ hb)).1, fun z => ok'.exfs b (List.mem_cons_of_mem _ hb) z, .inl (List.mem_cons_of_mem _ hb), fun x c e => (exLoc b (List.mem_cons_of_mem _ hb)).2 x c (hcl1 x c e), fun p hp => ?_⟩
      have hp' : p = _ := List.mem_singleton.mp hp
      rw [hp']
      have := fpLt b hb
      show D ≠ b
      exact Nat.ne_of_gt this
    have pinD := I5.pin (D, { cls := .type "list", data := .seq its.toArray k }) (List.mem_singleton.mpr rfl)
    rcases turn i n ys H5 w5 with ⟨stop, hz, qn⟩ | ⟨go, hz, N, hN, step⟩
    · refine wpAny_mono (T.done i _ s5 _ H5 _ I5 (stat fr5) st5 stop) (fun r s6 ⟨hr, I6⟩ => ?_) fun _ _ h => h
      subst hr
      have pin6 := I6.pin (D, { cls := .type "list", data := .seq its.toArray k }) (List.mem_singleton.mpr rfl)
      obtain ⟨b1, b2⟩ := back I6 pin6.1 pin6.2.1 rv hz
      obtain ⟨m, hn, _⟩ := I6.loc
      exact fin D C _ s6 m b1 (qn D pin6.2.1) hn b2
    · refine wpAny_mono (T.item i _ s5 _ H5 _ I5 (stat fr5) st5 go) (fun r s6 ⟨u, hr, h6⟩ => ?_) fun _ _ h => h
      subst hr
      refine wpAny_mono h6 (fun _ s7 ⟨x, H7, I7, r7, y7, st7, fr7⟩ => ?_) fun _ _ h => h
      have I7' := I7.pinned (stat fr7) (T.obj _ _ st7)
      refine wpAny_mono (hg _ s7 _ H7 x u _ I7' r7 (step x H7 y7)) (fun _ s8 ⟨σ8, H8, I8, q8⟩ => ?_) fun _ _ h => h
      refine wpAny_mono (ht _ s8 σ8 H8 _ I8 q8) (fun ok s9 ⟨H9, I9, q9⟩ => ?_) fun _ _ h => h
      have keepT : ∀ {σ' : St} {H' : Hp} {s' : Shared}, Inv (blk X scope (Ls ++ Fs) cl C { s2 with heap := h3 } H2 (D :: fp)) ([(D, { cls := .type "list", data := .seq its.toArray k })] ++ pinsAt fp s7.heap) σ' H' s' → tn (i + 1) s'.heap ∧ ∀ b ∈ fp, H' b = none := by
        intro σ' H' s' J'
        refine ⟨T.keep _ _ _ st7 fun b hb o e => (J'.pin (b, o) (List.mem_append_right _ (List.mem_append_right _ (mem_pinsAt hb e)))).1, fun b hb => ?_⟩
        obtain ⟨o, e, d⟩ := T.obj _ _ st7 b hb
        exact (J'.pin (b, o) (List.mem_append_right _ (List.mem_append_right _ (mem_pinsAt hb e)))).2.1
      cases ok with
      | false =>
        rw [if_neg Bool.false_ne_true] at q9 ⊢
        obtain ⟨m', hm, w'⟩ := hN _ _ q9
        exact ⟨m', hm, i + 1, ys, H9, its, k, re I9.unpinned, rv, (keepT I9).1, (keepT I9).2, w'⟩
      | true =>
        rw [if_pos rfl] at q9 ⊢
        refine wpAny_mono (he _ s9 σ8 H9 _ I9 q9) (fun v s10 ⟨y, H10, I10, r10, q10⟩ => ?_) fun _ _ h => h
        obtain ⟨m', hm, w'⟩ := hN _ _ q10
        obtain ⟨k10, f10⟩ := keepT I10
        have I11 : Inv (blk X scope (Ls ++ Fs) cl C { s2 with heap := h3 } H2 (D :: fp)) [(D, { cls := .type "list", data := .seq its.toArray k })] (capt Ls.length fi σ) H10 s10 := re I10.unpinned
        have pin11 := I11.pin (D, { cls := .type "list", data := .seq its.toArray k }) (List.mem_singleton.mpr rfl)
        refine wpAny_list_append_plain ⟨k, pin11.1⟩ (fun h' hp' sb => ?_) (by rw [List.size_toArray, ← rv.length]; exact hz)
        obtain ⟨k', hk'⟩ := hp'
        have e1 : its.toArray.push v = (its ++ [v]).toArray := by simp
        rw [e1] at hk'
        have I12 : Inv (blk X scope (Ls ++ Fs) cl C { s2 with heap := h3 } H2 (D :: fp)) [] (capt Ls.length fi σ) H10 { s10 with heap := h', toks := s10.toks } :=
          (I11.pins_of (pins' := []) fun p hp => (nomatch hp)).turned (it := D) (fun b o hb e => (sb.2 b hb).trans e) pin11.2.1 pin11.2.2.1 (.inl List.mem_cons_self) (fun x c e => (exLoc D List.mem_cons_self).2 x c (hcl1 x c e)) fun p hp => (nomatch hp)
        have I13 : Inv (blk X scope (Ls ++ Fs) cl C { s2 with heap := h3 } H2 (D :: fp)) [(D, { cls := .type "list", data := .seq (its ++ [v]).toArray k' })] (capt Ls.length fi σ) H10 { s10 with heap := h', toks := s10.toks } := I12.pins_of fun p hp => by
          have hp' : p = _ := List.mem_singleton.mp hp
          subst hp'
          exact ⟨hk', pin11.2.1, pin11.2.2.1, pin11.2.2.2.1, fun v z => by cases z⟩
        refine ⟨m', hm, i + 1, ys ++ [y], H10, its ++ [v], k', I13, rv.append (.cons r10 .nil), ?_, f10, w'⟩
        exact T.keep _ _ _ k10 fun b hb o e => (sb.2 b (Nat.ne_of_lt (fpLt b hb))).trans e
  exact codeAny_compStart_list loop (T.self _ 0 _ _ _ (T.keep _ _ _ st2 fun b _ o e => k34 b o (k23 b o e)) loop)

/-- [elt for tg in iter if ..], as a value -/
theorem pe_lc {wi : TI} (S : LcScope X.N X.env.scope scope Ls Fs fi) (hc : X.calm = true) (hi : PI X tg iter wi)
    (hb : ∀ cl C s3 H3 ex, PG (blk X scope (Ls ++ Fs) cl C s3 H3 ex) tg g ∧ PTs (blk X scope (Ls ++ Fs) cl C s3 H3 ex) ifs tc ∧ PE (blk X scope (Ls ++ Fs) cl C s3 H3 ex) elt te)
    (hs : ∀ x, foldedSetIterable iter X.env x = pure x := by intro _; rfl) : PE X (.ListComp elt [⟨tg, iter, ifs, 0⟩] scope pos) (tLc Ls.length fi wi g tc te) := by
  intro pins s σ H Q I h
  rw [eval_ListComp]
  obtain ⟨cl, hcl, hcl1, hcl2⟩ := clos_ok (scope := scope) (env := X.env) fun y hy hf => I.ok.has y.1 (S.all y hy hf)
  refine wpAny_comprehension_free (use := none) rfl hs hcl S.kind S.names (wpAny_mono (hi pins s σ H _ I h) (fun v s1 h1 => wpAny_mono h1 (fun itv s2 h2 => ?_) fun _ _ e => e) fun _ _ e => e)
  obtain ⟨it, fp, tn, J, H2, e, I2, T, st2, f2, hW⟩ := h2
  subst e
  refine lc_block (RR := fun acc C => compPost (model X.prog X.w) X.A X.xe none (EP X pins σ Q) acc C) S (hb cl) hcl1 hcl2 I2 (fun C s3 H3 ex => Turn.at (X := blk X scope (Ls ++ Fs) cl C s3 H3 ex) T hc) st2 f2 hW fun D C H' s' m I' q hn f => ?_
  obtain ⟨f0, f1, f2, f3, f4, f5⟩ := f
  exact ⟨m, hn, fun h' hs' => ⟨.ref D, H', I'.turned (it := C) (t' := s'.toks) (fun b o hb e => (hs'.2 b hb).trans e) f0 f1 f3 f4 f5, rfl, q⟩⟩

/-- x = [elt for tg in iter if ..] on one row: the name is stored ahead of the block's own names going -/
theorem ps_lc {wi : TI} {i : Nat} {x : Str} {pos' spos : Pos} (hN : X.N.Nodup) (hi' : X.N[i]? = some x) (hx : Loc X.env.scope x) (S : LcScope X.N X.env.scope scope Ls Fs fi) (hc : X.calm = true) (hi : PI X tg iter wi)
    (hb : ∀ cl C s3 H3 ex, PG (blk X scope (Ls ++ Fs) cl C s3 H3 ex) tg g ∧ PTs (blk X scope (Ls ++ Fs) cl C s3 H3 ex) ifs tc ∧ PE (blk X scope (Ls ++ Fs) cl C s3 H3 ex) elt te)
    (hsw : swapsWith (.ListComp elt [⟨tg, iter, ifs, 0⟩] scope pos) (some (.Name x pos')) spos.line X.env = pure true := by rfl)
    (hs : ∀ x, foldedSetIterable iter X.env x = pure x := by intro _; rfl) (hf : X.fn x = true ∨ X.env.scope.names.lookup x = some .local := by first | exact .inl rfl | exact .inr rfl | assumption) :
    PS X (.Assign [.Name x pos'] (.ListComp elt [⟨tg, iter, ifs, 0⟩] scope pos) spos) (tAsg (tLc Ls.length fi wi g tc te) (gName i)) := by
  intro pins s σ H D' I h
  rw [exec_Assign_Name_used _ _ _ _ hsw]
  obtain ⟨cl, hcl, hcl1, hcl2⟩ := clos_ok (scope := scope) (env := X.env) fun y hy hf => I.ok.has y.1 (S.all y hy hf)
  refine wpAny_bind (wpAny_standAt (wpAny_bind ?_))
  show wpAny _ X.A (do let _ ← comprehension (.ListComp elt [⟨tg, iter, ifs, 0⟩] scope pos) scope X.env _ (newList []) false (eval iter X.env) (some (assign (.Name x pos') X.env))) _ _ s
  refine wpAny_bind (wpAny_mono (wpAny_comprehension_free (use := some (assign (.Name x pos') X.env)) (Q := fun _ s' => SP X pins D' .next s') rfl hs hcl S.kind S.names
    (wpAny_mono (hi pins s σ H _ I h) (fun v s1 h1 => wpAny_mono h1 (fun itv s2 h2 => ?_) fun _ _ e => e) fun _ _ e => e)) (fun _ s' hq => wpAny_pure (wpAny_pure hq)) fun _ _ e => e)
  obtain ⟨it, fp, tn, J, H2, e, I2, T, st2, f2, hW⟩ := h2
  subst e
  refine lc_block (RR := fun acc C => compPost (model X.prog X.w) X.A X.xe (some (assign (.Name x pos') X.env)) (fun _ s' => SP X pins D' .next s') acc C) (Q := fun x H1 => gName i x σ H1 D'.nx) S (hb cl) hcl1 hcl2 I2 (fun C s3 H3 ex => Turn.at (X := blk X scope (Ls ++ Fs) cl C s3 H3 ex) T hc) st2 f2 hW fun D C H' s' m I' q hn f => ?_
  obtain ⟨f0, f1, f2, f3, f4, f5⟩ := f
  show wpAny _ X.A (assign (.Name x pos') X.env (.ref D)) _ _ _
  refine wpAny_assign_Name (store_ok2 I' hN hi' hx (v := .ref D) rfl (fun s'' I'' hch => ?_) hf)
  obtain ⟨a, sb, ha⟩ := hch
  have hCa : C ≠ a := by
    rcases ha with z | z
    · rw [z]; exact f1
    · exact (f4 x a z).symm
  exact ⟨m, hn.sameBut sb hCa, fun h' hs' => ⟨_, H', I''.turned (it := C) (t' := s''.toks) (fun b o hb e => (hs'.2 b hb).trans e) f0 f1 f3 f4 f5, q⟩⟩
end
end L2

/-! More of the language over the hand layer: enumerate, isinstance, all, sorted, deep == and !=, count, a dict of the module's. -/
namespace L2
open PySem PySem.Spec PyProof.Rows PyProof.V

/-! ### enumerate -/
def Ite (K : PySem.W.Frag) (a : Addr) : It :=
  ⟨fun i H => ∃ xs x, SqL K H a xs ∧ xs[i]? = some x, fun i H v H' => ∃ p x, v = .ref p ∧ H p = none ∧ H' = upd H p (.tup [.int i, x]) ∧ ∀ xs, SqL K H a xs → xs[i]? = some x, fun i H => ∃ xs, SqL K H a xs ∧ xs.length ≤ i⟩
theorem turn_enum {P : Program} {w : World} {K : PySem.W.Frag} {es : List Expr} {k : Nat} {pos : Pos} (a e it : Addr) (hei : e ≠ it) :
    Turn P w K (.Tuple es k pos) (Ite K a) [e, it] e (fun i h => (∃ old, IsEnum h e it i old) ∧ h.IsListIter it a i) where
  mem := by simp
  obj := fun i h st b hb => by
    obtain ⟨⟨old, he⟩, o, ho, c, d⟩ := st
    rcases List.mem_cons.mp hb with z | z
    · subst z
      exact ⟨_, he, fun v z => by
        have z' : Data.fields _ = Data.cell v := z
        cases z'⟩
    · have z' : b = it := by simpa using z
      subst z'
      exact ⟨o, ho, fun v z => by rw [d] at z; cases z⟩
  keep := fun i h h' st k => by
    obtain ⟨⟨old, he⟩, hi⟩ := st
    exact ⟨⟨old, k e (by simp) _ he⟩, hi.at fun o x => k it (by simp) o x⟩
  item := by
    intro X hP hw hK hc i pins s σ H E I hf st hg
    subst hP hw hK
    obtain ⟨xs, x, hq, hx⟩ := hg
    obtain ⟨its, rv, p, hz⟩ := I.list hq
    obtain ⟨u, hu, ru⟩ := rv.get hx
    obtain ⟨⟨old, he⟩, hi⟩ := st
    obtain ⟨e0, e1, e2, e3, e4, e5⟩ := hf e (by simp)
    obtain ⟨f0, f1, f2, f3, f4, f5⟩ := hf it (by simp)
    refine wpAny_pyNext_enum_item he hi p.isList (x := u) (by simpa using hu) hei fun h' ho hit ht hsz kk => ⟨_, rfl, ?_⟩
    refine wpAny_letOwnedTupleGo_enum (s := { s with heap := h', toks := s.toks + 1 }) ho fun h'' he'' hs'' => ?_
    have Tn : @LT.lt Nat _ e s.heap.objs.size := aLt he
    have kk2 : ∀ b o, b ≠ e → b ≠ it → s.heap.get? b = some o → h''.get? b = some o := fun b o h1 h2 q => (hs''.2 b h1).trans (kk b o h1 h2 q)
    have nne : ∀ b u, H b = some u → b ≠ e ∧ b ≠ it := fun b u q => ⟨fun z => by (rw [z, e0] at q; cases q), fun z => by (rw [z, f0] at q; cases q)⟩
    have fr : H s.heap.objs.size = none := I.hok.fresh (Nat.le_refl _)
    have hT : h''.get? s.heap.objs.size = some { cls := .type "tuple", data := .seq #[.int i s.toks, u] } := (hs''.2 _ (Nat.ne_of_gt Tn)).trans ht
    have nT : ∀ b o, s.heap.get? b = some o → b ≠ s.heap.objs.size := fun b o q => Nat.ne_of_lt (aLt q)
    have ok' : HOk X.prog X.w (upd H s.heap.objs.size (.tup [.int i, x])) h'' := fun b o q => by
      by_cases hb : b = s.heap.objs.size
      · subst hb
        rw [upd_same] at q
        cases q
        exact ⟨show 2 ≤ sizeLine by decide, [.int i s.toks, u], .cons ⟨_, rfl⟩ (.cons ru .nil), ⟨_, hT, rfl, _, rfl⟩⟩
      · rw [upd_ne hb] at q
        refine (I.hok b o q).stay (fun c v hc r => ?_) (fun c r => by rw [upd_ne (ne_of_none r fr)]; exact r) fun c xs r => by rw [upd_ne (ne_of_none r fr)]; exact r
        rcases hc with z | z
        · subst z
          exact kk2 c v (nne c o q).1 (nne c o q).2 r
        · exact kk2 c v (nne c _ z).1 (nne c _ z).2 r
    have I1 : Inv X pins σ (upd H s.heap.objs.size (.tup [.int i, x])) { s with heap := h'', gens := s.gens, drawn := s.drawn, toks := s.toks + 1 } := by
      refine I.step (ch := [e, it]) (fun b hb => ?_) (fun b o _ _ hc q _ => kk2 b o (fun z => hc (by simp [z])) (fun z => hc (by simp [z])) q) (fun b o _ _ hc q _ => ⟨o.slots, kk2 b o (fun z => hc (by simp [z])) (fun z => hc (by simp [z])) q⟩)
        (fun b o _ q n => by rw [upd_ne (nT b o q)]; exact n) (fun b o hc q => ⟨o, kk2 b o (fun z => hc (by simp [z])) (fun z => hc (by simp [z])) q⟩) (fun b xs q => by rw [upd_ne (ne_of_none q fr)]; exact q) (fun b o u q => by rw [upd_ne (ne_of_none q fr)]; exact q)
        (fun b ps q => ⟨#[], by rw [upd_ne (ne_of_none q fr), q]; simp⟩) (fun m hm => ?_) ok' I.bare
      · rcases List.mem_cons.mp hb with z | z
        · subst z; exact ⟨e3, e1, e4, e5⟩
        · have z' : b = it := by simpa using z
          subst z'; exact ⟨f3, f1, f4, f5⟩
      · obtain ⟨o, es, ep, ho, r⟩ := hm
        exact ⟨o, es, ep, kk2 _ o (Ne.symm e1) (Ne.symm f1) ho, r⟩
    refine ⟨.ref s.heap.objs.size, _, I1, rfl, ⟨s.heap.objs.size, x, rfl, fr, rfl, fun ys hy => by rw [I.list_inj hy hq]; exact hx⟩, ⟨⟨_, by simpa using he''⟩, hit.at fun o q => (hs''.2 it (Ne.symm hei)).trans q⟩, fun b hb => ?_⟩
    have hbo : ∃ o, s.heap.get? b = some o := by
      rcases List.mem_cons.mp hb with z | z
      · subst z; exact ⟨_, he⟩
      · have z' : b = it := by simpa using z
        subst z'
        obtain ⟨o, ho, _⟩ := hi
        exact ⟨o, ho⟩
    obtain ⟨o, hbo⟩ := hbo
    rw [upd_ne (nT b o hbo)]
    exact (hf b hb).1
  done := by
    intro X hP hw hK hc i pins s σ H E I hf st hg
    subst hP hw hK
    obtain ⟨xs, hq, hx⟩ := hg
    obtain ⟨its, rv, p, hz⟩ := I.list hq
    obtain ⟨⟨old, he⟩, hi⟩ := st
    obtain ⟨f0, f1, f2, f3, f4, f5⟩ := hf it (by simp)
    have hl := rv.length
    exact wpAny_pyNext_enum_end (I.ok.hd hc) he hi p.isList (by simp; omega) fun h' eb => ⟨rfl, I.turned (t' := s.toks) (fun b o hb e => eb b o hb e) f0 f1 f3 f4 f5⟩
  self := fun _ _ _ _ _ st h => by
    obtain ⟨⟨old, he⟩, _⟩ := st
    exact wpAny_pyIter_enum he h
section
variable {X : Cx}
def iEnum (K : PySem.W.Frag) (ta : TA) : TI := fun σ H R => ta σ H fun vs H1 => ∃ a, vs = [.ref a] ∧ (∃ xs, SqL K H1 a xs) ∧ R (Ite K a) H1
theorem pi_enum {a : Expr} {ta : TA} {p pos tpos : Pos} {es : List Expr} {k : Nat} (hg : Gl X "enumerate") (hm : X.mg "enumerate" = none) (ha : PA X [a] ta) (hs : starEach [a] X.env = [(false, eval a X.env)] := by rfl) :
    PI X (.Tuple es k tpos) (.Call (.Name "enumerate" p) [a] [] pos) (iEnum X.K ta) := by
  intro pins s σ H R I h
  refine Call_ (ld_blt I hg hm boot_enumerate (PyProof.Rows.callWith_type1 (thn (ha pos pins s σ H _ I h) fun us s1 ⟨vs, H1, I1, r1, q1⟩ => ?_) hs rfl))
  obtain ⟨l, e, ⟨xs, hq⟩, q⟩ := q1
  subst e
  cases r1 with
  | cons r rr =>
    cases rr
    cases r
    obtain ⟨its, rv, pl, hz⟩ := I1.list hq
    refine call_enumerate_list pl.isList fun h' he hi hsz kk => ?_
    have I2 : Inv X pins σ H1 { s1 with heap := h' } := I1.kept (t' := s1.toks) kk
    refine wpAny_pyIter_enum (s := { s1 with heap := h' }) he ?_
    refine ⟨_, [s1.heap.objs.size + 1, s1.heap.objs.size], _, _, H1, rfl, I2, turn_enum l _ _ (Nat.succ_ne_self _), ⟨⟨_, he⟩, hi⟩, fun b hb => ?_, q⟩
    have hb' : s1.heap.objs.size ≤ b := by
      rcases List.mem_cons.mp hb with z | z
      · subst z; exact Nat.le_succ _
      · have z' : b = s1.heap.objs.size := by simpa using z
        subst z'; exact Nat.le_refl _
    exact I1.fpOk hb' (I1.hok.fresh hb')
end

/-! ### isinstance, all, sorted, count -/
section
variable {X : Cx}
theorem call_isinst : CallR X (.builtin "isinstance") (fun xs H Q => ∃ x T t b, xs = [x, .ty T] ∧ TyOf X.K H x t ∧ PySem.W.kitOne X.K t (.type T) = some b ∧ Q (.bl b) H) := by
  intro pins s σ H xs us Q I r h
  obtain ⟨x, T, t, b, rfl, ty, e, q⟩ := h
  obtain ⟨u, v, rfl, ru, rv⟩ := r.two
  cases rv
  exact isinst_ok I ru ty e fun tk => ⟨.bl b, H, I.tok _, rfl, q⟩
theorem range_all (bs : List Bool) : (List.range bs.length).all (fun i => bs.getD i false) = bs.all id := by
  rw [Bool.eq_iff_iff, List.all_eq_true, List.all_eq_true]
  constructor
  · intro h b hb
    obtain ⟨i, hi, rfl⟩ := List.mem_iff_getElem.mp hb
    have := h i (List.mem_range.mpr hi)
    simpa [hi] using this
  · intro h i hi
    have hi' : i < bs.length := List.mem_range.mp hi
    have := h bs[i] (List.getElem_mem hi')
    simpa [hi'] using this
theorem call_all (hc : X.calm = true) : CallR X (.builtin "all") (fun xs H Q => ∃ (p : Addr) (bs : List Bool), xs = [.ref p] ∧ SqL X.K H p (bs.map V.bl) ∧ Q (.bl (bs.all id)) H) := by
  intro pins s σ H xs us Q I r h
  obtain ⟨p, bs, rfl, hq, q⟩ := h
  obtain ⟨u, rfl, ru⟩ := r.one
  cases ru
  obtain ⟨its, rv, pl, hz⟩ := I.list hq
  have hlen : bs.length = its.length := by simpa using rv.length
  have hh : X.A.in1.handled = none := I.ok.hd hc
  have hp : p < s.heap.objs.size := by
    obtain ⟨o, ho, _⟩ := pl.isList
    exact Heap.lt_size ho
  refine call_all_walk (wpAny_pyIter_list pl.isList ?_)
  refine ⟨s.heap.objs.size, _, _, _, _, _, fun i => bs.getD i false, rfl, Walks.list hh s.heap.objs.size p (Nat.ne_of_lt hp) its.toArray, ⟨⟨_, Heap.get?_push_size _ rfl, rfl, rfl⟩, ?_⟩, fun i v s2 Q2 E2 hv hq2 => ?_, fun h' tk kk => ?_⟩
  · obtain ⟨o, ho, r⟩ := pl.isList
    exact ⟨o, Heap.get?_push_of_some _ ho, r⟩
  · have hv' : its[i]? = some v := by simpa using hv
    have hi : i < bs.length := by rw [hlen]; exact (List.getElem?_eq_some_iff.mp hv').1
    obtain ⟨w, hw, rw'⟩ := rv.get (i := i) (x := .bl bs[i]) (by simp [hi])
    rw [hv'] at hw
    cases hw
    cases rw'
    refine wpAny_truthy_bool ?_
    have e : bs.getD i false = bs[i] := by simp [hi]
    rw [← e]
    exact hq2
  · have hk : ∀ b o, s.heap.get? b = some o → h'.get? b = some o := fun b o e => kk b o (fun z => by
      have z' : b = s.heap.objs.size := by simpa using z
      exact Nat.lt_irrefl _ (z' ▸ Heap.lt_size e)) (Heap.get?_push_of_some _ e)
    refine ⟨.bl (bs.all id), H, I.kept (t' := tk) hk, ?_, q⟩
    have e : its.toArray.size = bs.length := by rw [List.size_toArray, hlen]
    rw [e, range_all]
    rfl
theorem ints_of_vals : ∀ {ns : List Int} {vs : List Value}, Vals (ns.map V.int) vs → IntsAre vs ns
  | [], _, r => by cases r; exact .nil
  | n :: ns, _, r => by
    cases r with
    | cons r rr =>
      obtain ⟨t, rfl⟩ := r
      exact .cons n t (ints_of_vals rr)
end

/-! ### == and != of what is built of lists, tuples and plain values -/
inductive Eqv (K : PySem.W.Frag) (H : Hp) : Nat → V → V → Prop
  | flat {n : Nat} {x : V} : flatV x = true → Eqv K H n x x
  | same {n : Nat} {a : Addr} : Eqv K H n (.ref a) (.ref a)
  | lst {n : Nat} {a b : Addr} {xs ys : List V} : SqL K H a xs → SqL K H b ys → xs.length = ys.length → (∀ (i : Nat) (x y : V), xs[i]? = some x → ys[i]? = some y → Eqv K H n x y) → Eqv K H (n + 1) (.ref a) (.ref b)
  | tup {n : Nat} {a b : Addr} {xs ys : List V} : SqT K H a xs → SqT K H b ys → xs.length = ys.length → (∀ (i : Nat) (x y : V), xs[i]? = some x → ys[i]? = some y → Eqv K H n x y) → Eqv K H (n + 1) (.ref a) (.ref b)
theorem all_true (n : Nat) : ((List.range n).all fun _ => true) = true := by rw [List.all_eq_true]; intro _ _; rfl
theorem eqV_self {x : V} (h : flatV x = true) : eqV x x = true := by
  cases x <;> simp_all [eqV, flatV]
theorem Eqv.at {X : Cx} {pins : List (Addr × Obj)} {σ : St} {H : Hp} {s : Shared} (I : Inv X pins σ H s) : ∀ {n : Nat} {x y : V} {u v : Value} {A : Around}, Eqv X.K H n x y → RelV x u → RelV y v → A.units + n < cLine → SeqAt.EqAt A s u v true := by
  intro n x y u v A h
  induction h generalizing u v A with
  | flat f =>
    intro ru rv _
    have := eqAt_V (A := A) (s := s) ru rv f f
    rw [eqV_self f] at this
    exact this
  | same =>
    intro ru rv _
    cases ru
    cases rv
    exact SeqAt.EqAt.same _
  | @lst n a b xs ys ha hb hl _ ih =>
    intro ru rv hu
    cases ru
    cases rv
    by_cases e : a = b
    · subst e; exact SeqAt.EqAt.same _
    · obtain ⟨its, r1, p1, _⟩ := I.list ha
      obtain ⟨its2, r2, p2, _⟩ := I.list hb
      have l1 := r1.length
      have l2 := r2.length
      refine SeqAt.EqAt.of_refs e ?_
      have q := SeqAt.RcAt.lists (A := A) (e := fun _ => true) p1.isList p2.isList (by simp only [List.size_toArray]; omega) (by omega) fun j h1 h2 => by
        simp only [List.size_toArray] at h1 h2
        obtain ⟨u1, e1, s1⟩ := r1.get (i := j) (x := xs[j]'(by omega)) (by simp)
        obtain ⟨u2, e2, s2⟩ := r2.get (i := j) (x := ys[j]'(by omega)) (by simp)
        have z1 : its.toArray[j] = u1 := by
          have : its[j]? = some its[j] := by simp [h1]
          rw [this] at e1
          simpa using Option.some.inj e1
        have z2 : its2.toArray[j] = u2 := by
          have : its2[j]? = some its2[j] := by simp [h2]
          rw [this] at e2
          simpa using Option.some.inj e2
        rw [z1, z2]
        exact ih j _ _ (by simp) (by simp) s1 s2 (by show A.units + 1 + n < cLine; omega)
      rw [all_true] at q
      exact q
  | @tup n a b xs ys ha hb hl _ ih =>
    intro ru rv hu
    cases ru
    cases rv
    by_cases e : a = b
    · subst e; exact SeqAt.EqAt.same _
    · obtain ⟨its, r1, p1, _⟩ := I.tuple ha
      obtain ⟨its2, r2, p2, _⟩ := I.tuple hb
      have l1 := r1.length
      have l2 := r2.length
      refine SeqAt.EqAt.of_refs e ?_
      have q := SeqAt.RcAt.tuples (A := A) (s := s) (l := a) (b := b) (items := its.toArray) (items2 := its2.toArray) (e := fun _ => true) p1 p2 (by omega) fun j h1 h2 => by
        simp only [List.size_toArray] at h1 h2
        obtain ⟨u1, e1, s1⟩ := r1.get (i := j) (x := xs[j]'(by omega)) (by simp)
        obtain ⟨u2, e2, s2⟩ := r2.get (i := j) (x := ys[j]'(by omega)) (by simp)
        have z1 : its.toArray[j] = u1 := by
          have : its[j]? = some its[j] := by simp [h1]
          rw [this] at e1
          simpa using Option.some.inj e1
        have z2 : its2.toArray[j] = u2 := by
          have : its2[j]? = some its2[j] := by simp [h2]
          rw [this] at e2
          simpa using Option.some.inj e2
        rw [z1, z2]
        exact ih j _ _ (by simp) (by simp) s1 s2 (by show A.units + 1 + n < cLine; omega)
      have e3 : (its.toArray.size == its2.toArray.size) = true := by
        rw [beq_iff_eq]; simp only [List.size_toArray]; omega
      rw [e3, all_true] at q
      exact q
section
variable {X : Cx}
/-- two lists whose items are alike: == tells True, != tells False -/
def rEqv (K : PySem.W.Frag) (b : Bool) : R2 := fun x y H Q => ∃ (p q : Addr) (xs ys : List V), x = .ref p ∧ y = .ref q ∧ SqL K H p xs ∧ SqL K H q ys ∧ xs.length = ys.length ∧ (∀ (i : Nat) (x y : V), xs[i]? = some x → ys[i]? = some y → Eqv K H 60 x y) ∧ Q (.bl b) H
theorem eqv_items {pins : List (Addr × Obj)} {σ : St} {H : Hp} {s : Shared} {xs ys : List V} {its its2 : List Value} {A : Around} (I : Inv X pins σ H s) (r1 : Vals xs its) (r2 : Vals ys its2) (hl : xs.length = ys.length) (h : ∀ (i : Nat) (x y : V), xs[i]? = some x → ys[i]? = some y → Eqv X.K H 60 x y) (hu : A.units + 62 < cLine) :
    ∀ j (h1 : j < its.toArray.size) (h2 : j < its2.toArray.size), SeqAt.EqAt A.in1 s its.toArray[j] its2.toArray[j] ((fun _ => true) j) := fun j h1 h2 => by
  have l1 := r1.length
  have l2 := r2.length
  simp only [List.size_toArray] at h1 h2
  obtain ⟨u1, e1, s1⟩ := r1.get (i := j) (x := xs[j]'(by omega)) (by simp)
  obtain ⟨u2, e2, s2⟩ := r2.get (i := j) (x := ys[j]'(by omega)) (by simp)
  have z1 : its.toArray[j] = u1 := by
    have : its[j]? = some its[j] := by simp [h1]
    rw [this] at e1
    simpa using Option.some.inj e1
  have z2 : its2.toArray[j] = u2 := by
    have : its2[j]? = some its2[j] := by simp [h2]
    rw [this] at e2
    simpa using Option.some.inj e2
  rw [z1, z2]
  exact Eqv.at I (h j _ _ (by simp) (by simp)) s1 s2 (by show A.units + 1 + 60 < cLine; omega)
theorem op_eqv (hu : X.A.units + 64 < cLine) : OpR X (compareOp .Eq) (rEqv X.K true) := by
  intro pins s σ H x y v u Q I rx ry h
  obtain ⟨p, q, xs, ys, rfl, rfl, hp, hq, hl, he, hQ⟩ := h
  cases rx
  cases ry
  obtain ⟨its, r1, p1, _⟩ := I.list hp
  obtain ⟨its2, r2, p2, _⟩ := I.list hq
  have l1 := r1.length
  have l2 := r2.length
  refine SeqAt.eq_listAt (e := fun _ => true) p1.isList p2.isList (by simp only [List.size_toArray]; omega) (by omega) (eqv_items I r1 r2 hl he (by omega)) ⟨.bl true, H, I, ?_, hQ⟩
  show Value.bool _ = Value.bool true
  simp
/-! ### a dict of the module's: texts to ints -/
theorem ix_listK {K : PySem.W.Frag} (h : X.K = K) : IxR X (rIxL K) := h ▸ ix_list
theorem sl_listK {K : PySem.W.Frag} (h : X.K = K) : SlR X (rSlL K) := h ▸ sl_list
theorem op_eqvK {K : PySem.W.Frag} (h : X.K = K) (hu : X.A.units + 64 < cLine) : OpR X (compareOp .Eq) (rEqv K true) := h ▸ op_eqv hu
theorem call_lenK {K : PySem.W.Frag} (h : X.K = K) : CallR X (.builtin "len") (fun xs H Q => ∃ p ys, xs = [.ref p] ∧ (SqL K H p ys ∨ SqT K H p ys) ∧ Q (.int ys.length) H) := h ▸ call_len_seq
theorem call_isinstK {K : PySem.W.Frag} (h : X.K = K) : CallR X (.builtin "isinstance") (fun xs H Q => ∃ x T t b, xs = [x, .ty T] ∧ TyOf K H x t ∧ PySem.W.kitOne K t (.type T) = some b ∧ Q (.bl b) H) := h ▸ call_isinst
theorem call_allK {K : PySem.W.Frag} (h : X.K = K) (hc : X.calm = true) : CallR X (.builtin "all") (fun xs H Q => ∃ (p : Addr) (bs : List Bool), xs = [.ref p] ∧ SqL K H p (bs.map V.bl) ∧ Q (.bl (bs.all id)) H) := h ▸ call_all hc
theorem call_listK {K : PySem.W.Frag} (h : X.K = K) : CallR X (.type "list") (fun xs H Q => ∃ p ys, xs = [.ref p] ∧ (SqL K H p ys ∨ SqT K H p ys) ∧ ∀ l, H l = none → Q (.ref l) (upd H l (.lst ys))) := h ▸ call_list_of
theorem pg_tupK {K : PySem.W.Frag} {es : List Expr} {k : Nat} {t : TGs} {n : Nat} {pos : Pos} (hk : X.K = K) (hc : X.calm = true) (h : PGs X es t) (hn : (assignEach es X.env).length = n := by rfl) (hst : (assignEach es X.env).findIdx? (·.1) = none := by rfl) : PG X (.Tuple es k pos) (gTup K n t) := hk ▸ pg_tup hc h hn hst
theorem pe_bmK {K : PySem.W.Frag} {T : String} {name : Str} {r : V → List V → Hp → VK → Prop} {o e : Expr} {es : List Expr} {to : TE} {t : TA} {apos pos : Pos} (hk : X.K = K) (h : PE X (.Call (.Attribute o name apos) (e :: es) [] pos) (tBM X.K T r to t)) : PE X (.Call (.Attribute o name apos) (e :: es) [] pos) (tBM K T r to t) := hk ▸ h
theorem pe_bm0K {K : PySem.W.Frag} {T : String} {name : Str} {r : V → List V → Hp → VK → Prop} {o : Expr} {to : TE} {apos pos : Pos} (hk : X.K = K) (h : PE X (.Call (.Attribute o name apos) [] [] pos) (tBM0 X.K T r to)) : PE X (.Call (.Attribute o name apos) [] [] pos) (tBM0 K T r to) := hk ▸ h
theorem pi_listK {K : PySem.W.Frag} {l tg : Expr} {tl : TE} (hk : X.K = K) (hl : PE X l tl) : PI X tg l (iList K tl) := hk ▸ pi_list hl
theorem pi_enumK {K : PySem.W.Frag} {a : Expr} {ta : TA} {p pos tpos : Pos} {es : List Expr} {k : Nat} (hk : X.K = K) (hg : Gl X "enumerate") (hm : X.mg "enumerate" = none) (ha : PA X [a] ta) (hs : starEach [a] X.env = [(false, eval a X.env)] := by rfl) :
    PI X (.Tuple es k tpos) (.Call (.Name "enumerate" p) [a] [] pos) (iEnum K ta) := hk ▸ pi_enum hg hm ha hs
end
end L2

/-! Forms for comprehensions, callees by name, drawings as data. -/
namespace L2
open PySem PySem.Spec PyProof.Rows

/-! ### comprehensions by an invariant -/
section
variable {g : TG} {tc : TT} {te : TE} {σ : St} {H : Hp} {Q : VK} {K : PySem.W.Frag} {a : Addr} {xs : List V}
theorem lc_gen {J : It} {n : Nat} (hn : n ≤ sizeLine) (Pv : Nat → List V → Hp → Prop) (h0 : Pv 0 [] H) (hlen : ∀ i ys H, Pv i ys H → ys.length ≤ i) (go : ∀ i ys H, i < n → Pv i ys H → J.go i H) (stop : ∀ ys H, Pv n ys H → J.stop n H)
    (hs : ∀ i ys H, i < n → Pv i ys H → ∀ x H', J.yld i H x H' → g x σ H' fun σ2 H2 => tc σ2 H2 fun b H3 => if b = true then te σ2 H3 fun y H4 => Pv (i + 1) (ys ++ [y]) H4 else Pv (i + 1) ys H3)
    (hd : ∀ ys H, Pv n ys H → ∀ D, H D = none → Q (.ref D) (upd H D (.lst ys))) : LcW J σ g tc te H Q := by
  unfold LcW
  refine ⟨fun i m ys H => m = n - i ∧ i ≤ n ∧ Pv i ys H, ⟨n, by simp, Nat.zero_le _, h0⟩, ?_⟩
  rintro i m ys H ⟨rfl, hi, p⟩
  have hy := hlen i ys H p
  by_cases hlt : i < n
  · exact .inr ⟨go i ys H hlt p, by omega, Pv (i + 1), fun ys' H' h2 => ⟨n - (i + 1), by omega, rfl, hlt, h2⟩, fun x H' y => hs i ys H hlt p x H' y⟩
  · have e : i = n := by omega
    subst e
    exact .inl ⟨stop ys H p, by omega, hd ys H p⟩
theorem lc_list (hn : xs.length ≤ sizeLine) (Pv : Nat → List V → Hp → Prop) (h0 : Pv 0 [] H) (hlen : ∀ i ys H, Pv i ys H → ys.length ≤ i) (hS : ∀ i ys H, Pv i ys H → SqL K H a xs)
    (hs : ∀ i x ys H, xs[i]? = some x → Pv i ys H → g x σ H fun σ2 H2 => tc σ2 H2 fun b H3 => if b = true then te σ2 H3 fun y H4 => Pv (i + 1) (ys ++ [y]) H4 else Pv (i + 1) ys H3)
    (hd : ∀ ys H, Pv xs.length ys H → ∀ D, H D = none → Q (.ref D) (upd H D (.lst ys))) : LcW (Itl K a) σ g tc te H Q :=
  lc_gen hn Pv h0 hlen (fun i ys H hi p => ⟨xs, xs[i], hS i ys H p, by simp [hi]⟩) (fun ys H p => ⟨xs, hS _ ys H p, Nat.le_refl _⟩) (fun i ys H hi p x H' y => by
    obtain ⟨e, y⟩ := y
    subst e
    exact hs i x ys _ (y xs (hS i ys _ p)) p) hd
theorem lc_rng {lo : Int} {n : Nat} (hn : n ≤ sizeLine) (Pv : Nat → List V → Hp → Prop) (h0 : Pv 0 [] H) (hlen : ∀ i ys H, Pv i ys H → ys.length ≤ i)
    (hs : ∀ i ys H, i < n → Pv i ys H → g (.int (lo + i)) σ H fun σ2 H2 => tc σ2 H2 fun b H3 => if b = true then te σ2 H3 fun y H4 => Pv (i + 1) (ys ++ [y]) H4 else Pv (i + 1) ys H3)
    (hd : ∀ ys H, Pv n ys H → ∀ D, H D = none → Q (.ref D) (upd H D (.lst ys))) : LcW (Itr lo n) σ g tc te H Q :=
  lc_gen hn Pv h0 hlen (fun i ys H hi p => hi) (fun ys H p => Nat.le_refl _) (fun i ys H hi p x H' y => by
    obtain ⟨e, y⟩ := y
    subst e y
    exact hs i ys _ hi p) hd
theorem lc_enm (hn : xs.length ≤ sizeLine) (Pv : Nat → List V → Hp → Prop) (h0 : Pv 0 [] H) (hlen : ∀ i ys H, Pv i ys H → ys.length ≤ i) (hS : ∀ i ys H, Pv i ys H → SqL K H a xs)
    (hs : ∀ i x p ys H, xs[i]? = some x → Pv i ys H → H p = none → g (.ref p) σ (upd H p (.tup [.int i, x])) fun σ2 H2 => tc σ2 H2 fun b H3 => if b = true then te σ2 H3 fun y H4 => Pv (i + 1) (ys ++ [y]) H4 else Pv (i + 1) ys H3)
    (hd : ∀ ys H, Pv xs.length ys H → ∀ D, H D = none → Q (.ref D) (upd H D (.lst ys))) : LcW (Ite K a) σ g tc te H Q :=
  lc_gen hn Pv h0 hlen (fun i ys H hi p => ⟨xs, xs[i], hS i ys H p, by simp [hi]⟩) (fun ys H p => ⟨xs, hS _ ys H p, Nat.le_refl _⟩) (fun i ys H hi p x H' y => by
    obtain ⟨q, z, e1, e2, e3, y⟩ := y
    subst e1 e3
    exact hs i z q ys _ (y xs (hS i ys _ p)) p e2) hd
end
/-! ### the block's scope, by one look -/
def lcLook (N : List Str) (osc scope : Scope) (Fs : List Str) (fi : List Nat) : Bool :=
  (scope.kind == .function) && scope.names.all (fun y => y.2 != .cell) && scope.names.all (fun y => y.2 != .local || scope.names.lookup y.1 == some .local) && Fs.all (fun x => scope.names.lookup x == some .free) &&
    scope.names.all (fun y => y.2 != .free || osc.names.lookup y.1 == some .cell || osc.names.lookup y.1 == some .free) && (fi.map (fun i => N[i]?) == Fs.map some)
theorem LcScope.of {N : List Str} {osc scope : Scope} {Ls Fs : List Str} {fi : List Nat} (h : lcLook N osc scope Fs fi = true) : LcScope N osc scope Ls Fs fi := by
  simp only [lcLook, Bool.and_eq_true, List.all_eq_true, Bool.or_eq_true, bne_iff_ne, beq_iff_eq] at h
  obtain ⟨⟨⟨⟨⟨h1, h2⟩, h3⟩, h4⟩, h5⟩, h6⟩ := h
  refine ⟨h1, h2, fun y hy hl => (h3 y hy).elim (fun z => absurd hl z) id, h4, fun y hy hf => ?_, h6⟩
  rcases h5 y hy with (z | z) | z
  · exact absurd hf z
  · exact .inl z
  · exact .inr z

/-! ### callees by name -/
def Has (P : Program) (w : World) (K : PySem.W.Frag) (mg : Str → Option Value) (base : Heap) (k : Nat) (x : Str) (ps : List Str) (sp : Sp) : Prop :=
  ∃ (f : Addr) (fd : FuncData), FnOk P w K mg base CX0 k f fd ps sp ∧ mg x = some (.ref f) ∧ PySem.W.keepIn K (.ref f) = true ∧ Binds K fd ps []
theorem pe_has {X : Cx} {k : Nat} {x : Str} {ps : List Str} {sp : Sp} {p pos : Pos} {e : Expr} {es : List Expr} {t : TA} (h : Has X.prog X.w X.K X.mg X.base k x ps sp) (hr : Room k X.A) (ha : PA X (e :: es) t) (hg : Gl X x := by rfl) (hdb : (x == ("__debug__" : Str)) = false := by decide)
    (he : starEach (e :: es) X.env = (false, eval e X.env) :: starEach es X.env := by rfl) (hpl : (backTo pos (starEach es X.env)).any (·.1) = false := by rfl) : PE X (.Call (.Name x p) (e :: es) [] pos) (tCall sp [] E0 t) := by
  obtain ⟨f, fd, G, hm, hk, hb⟩ := h
  exact pe_call G hr hg hm hk hb .nil pass0 ha hdb he hpl
/-- one frame: all that was tracked but b is as it was -/
def Frm (b : Addr) (H H' : Hp) : Prop := ∀ c o, H c = some o → c ≠ b → H' c = some o
theorem Frm.trans {b : Addr} {H H1 H2 : Hp} (x : Frm b H H1) (y : Frm b H1 H2) : Frm b H H2 := fun c o h n => y c o (x c o h n) n
theorem Same.frm {b : Addr} {H H' : Hp} (x : Same H H') : Frm b H H' := fun c o h _ => x c o h
theorem Same.laid {H : Hp} {p : Addr} {o : HO} (h : H p = none) : Same H (upd H p o) := fun c u e => by rw [upd_ne (ne_of_none e h)]; exact e
theorem Same.step {H H' : Hp} {p : Addr} {o : HO} (s : Same H H') (h : H' p = none) : Same H (upd H' p o) := s.trans (.laid h)
theorem Frm.upd {b : Addr} {H : Hp} {o : HO} : Frm b H (upd H b o) := fun c u e n => by rw [upd_ne n]; exact e
def Bag (H : Hp) (b : Addr) : Prop := ∃ g r : Int, 0 ≤ g ∧ H b = some (.lst [.int g, .int r])
theorem Frm.free {b : Addr} {H H' : Hp} (f : Frm b H H') (hb : Bag H' b) {p : Addr} (h : H' p = none) : H p = none := by
  cases q : H p with
  | none => rfl
  | some o =>
    by_cases e : p = b
    · subst e
      obtain ⟨g, r, _, z⟩ := hb
      rw [h] at z; cases z
    · rw [f p o q e] at h; cases h

/-! ### letters as data -/
/-- the letters lead from no strand to n strands -/
inductive Wk : List (Str × Int) → Int → Prop
  | nil : Wk [] 0
  | born {ls : List (Str × Int)} {n k : Int} : Wk ls n → 0 ≤ k → k ≤ n → Wk (ls ++ [((("born" : Str), k) : Str × Int)]) (n + 2)
  | cross {ls : List (Str × Int)} {n k : Int} : Wk ls n → 0 ≤ k → k + 1 < n → Wk (ls ++ [((("cross" : Str), k) : Str × Int)]) n
  | fin {ls : List (Str × Int)} {n k : Int} : Wk ls n → 0 ≤ k → k + 1 < n → Wk (ls ++ [((("end" : Str), k) : Str × Int)]) (n - 2)
end L2

/-! Tests by their truth; a letter put to a list. -/
namespace L2
open PySem PySem.Spec PyProof.Rows
theorem lcT {σ : St} {H : Hp} {A B : Hp → Prop} (h : A H) : tTrue σ H fun b H3 => if b = true then A H3 else B H3 := by
  show if true = true then A H else B H
  exact iteT h
end L2

/-! Numbers of letters by their kind; strands counted. -/
namespace L2
open PySem PySem.Spec PyProof.Rows
theorem lcG {i : Nat} {v : V} {σ : St} {H : Hp} {A B : St → Hp → Prop} (h : A (σ.set i (some v)) H) : gName i v σ H fun σ2 H2 => tTrue σ2 H2 fun b H3 => if b = true then A σ2 H3 else B σ2 H3 := by
  show if true = true then A (σ.set i (some v)) H else B (σ.set i (some v)) H
  exact iteT h
theorem cut_to {xs : List V} {t : Nat} (h : t ≤ xs.length) : cutV xs none (some (t : Int)) = xs.take t := by
  have e1 : HT.sIx xs.length 0 none = 0 := by unfold HT.sIx; rfl
  have e2 : HT.sIx xs.length xs.length (some (t : Int)) = t := by
    have h0 : ¬ ((t : Int) < 0) := by omega
    unfold HT.sIx
    simp [h0]
    omega
  unfold cutV
  rw [e1, e2]
  simp
end L2

/-! xs[a:c] = ys, del xs[a:c], xs.insert(i, y), for over enumerate. -/
namespace L2
open PySem PySem.Spec PyProof.Rows
section
variable {X : Cx}
/-! insert -/
end
/-! the list without its items from a to c -/
section
variable {prog : Program} {w : World} {A : Around} {E : Value → Shared → Prop} {s : Shared}
end
section
variable {X : Cx}
end
/-! for over enumerate, the list left as it is by the body -/
theorem for_enm {K : PySem.W.Frag} {a : Addr} {xs : List V} {g : TG} {tb : TS} {D : Ends} {σ : St} {H : Hp} (Pv : Nat → St → Hp → Prop) (h0 : Pv 0 σ H) (hl : ∀ i σ H, i ≤ xs.length → Pv i σ H → SqL K H a xs)
    (hs : ∀ i x p σ H, xs[i]? = some x → Pv i σ H → H p = none → g (.ref p) σ (upd H p (.tup [.int i, x])) fun σ2 H2 => tb { D with nx := Pv (i + 1), ct := Pv (i + 1), bk := D.nx } σ2 H2) (hd : ∀ σ H, Pv xs.length σ H → D.nx σ H) :
    ∃ W : Nat → Nat → St → Hp → Prop, (∃ m, W 0 m σ H) ∧ ∀ i m σ H, W i m σ H →
      ((Ite K a).stop i H ∧ D.nx σ H) ∨ ((Ite K a).go i H ∧ ∃ N : St → Hp → Prop, (∀ σ' H', N σ' H' → ∃ m', m' < m ∧ W (i + 1) m' σ' H') ∧ ∀ x H', (Ite K a).yld i H x H' → g x σ H' fun σ2 H2 => tb { D with nx := N, ct := N, bk := D.nx } σ2 H2) := by
  refine ⟨fun i m σ H => m = xs.length - i ∧ i ≤ xs.length ∧ Pv i σ H, ⟨xs.length, by simp, Nat.zero_le _, h0⟩, ?_⟩
  rintro i m σ H ⟨rfl, hi, p⟩
  have q := hl i σ H hi p
  by_cases hlt : i < xs.length
  · refine .inr ⟨⟨xs, xs[i], q, by simp [hlt]⟩, Pv (i + 1), fun σ' H' p' => ⟨xs.length - (i + 1), by omega, rfl, hlt, p'⟩, fun x H' y => ?_⟩
    obtain ⟨r, z, e1, e2, e3, y⟩ := y
    subst e1 e3
    exact hs i z r σ _ (y xs q) p e2
  · have e : i = xs.length := by omega
    subst e
    exact .inl ⟨⟨xs, q, Nat.le_refl _⟩, hd σ H p⟩
end L2

/-! Threads at each place, as lists of ints. -/
namespace L2
open PySem PySem.Spec PyProof.Rows
def swp (r : List Int) (k : Nat) : List Int := (r.set k (r.getD (k + 1) 0)).set (k + 1) (r.getD k 0)
def stp (s : List Int × Int) (p : Str × Int) : List Int × Int :=
  if p.1 = "born" then (s.1.take p.2.toNat ++ [s.2, s.2 + 1] ++ s.1.drop p.2.toNat, s.2 + 2) else if p.1 = "cross" then (swp s.1 p.2.toNat, s.2) else (s.1.take p.2.toNat ++ s.1.drop (p.2.toNat + 2), s.2)
def rb (ls : List (Str × Int)) : List Int × Int := ls.foldl stp ([], 0)
end L2

namespace L2
open PySem PySem.Spec PyProof.Rows
theorem ixN_nat {n j : Nat} (h : j < n) : ixN n (j : Int) = some j := by
  unfold ixN
  rw [if_pos (by omega), if_pos (by omega)]
  simp
end L2

namespace L2
open PySem PySem.Spec PyProof.Rows
end L2

namespace L2
open PySem PySem.Spec PyProof.Rows

/-! ### lists of pairs as tables -/
section
variable {κ : Type} [DecidableEq κ]
end


/-! ### a tracked dict, its keys ints and texts or tuples of these -/
section
variable {P : Program} {w : World} {H : Hp} {h : Heap} {a : Addr}
end

section
variable {X : Cx} {pins : List (Addr × Obj)} {σ : St} {H : Hp} {s : Shared} {a : Addr} {y v : V} {u r : Value} {o : Option V} {A : Around} {E : Value → Shared → Prop}

end

section
variable {X : Cx} {pins : List (Addr × Obj)} {σ : St} {H : Hp} {s : Shared} {a : Addr} {kvs : List (Key × V)} {k : Key} {u : Value} {A : Around} {E : Value → Shared → Prop}
end


/-! ### readings and rules -/
section
variable {X : Cx} {o i e value : Expr} {pos pos' tpos : Pos} {td ty tv : TE}
end


/-! ### displays -/
section
variable {X : Cx} {pos : Pos}
end
end L2

/-! sorted(a dict), d[k] as a target and as a value, a, b = a list, xs[::2], xs != []. -/
namespace L2
open PySem PySem.Spec PyProof.Rows
theorem ObjOk.there {P : Program} {w : World} {H : Hp} {h : Heap} {a : Addr} {o : HO} (x : ObjOk P w H h a o) : ∃ ob, h.get? a = some ob := by
  cases o with
  | lst xs => obtain ⟨_, _, _, _, e⟩ := x; exact ⟨_, e⟩
  | tup xs => obtain ⟨_, _, _, _, e, _⟩ := x; exact ⟨_, e⟩
  | dK kvs => obtain ⟨_, _, _, _, o, _, _, e, _⟩ := x; exact ⟨_, e⟩
  | dT kvs => obtain ⟨_, _, _, _, o, _, _, e, _⟩ := x; exact ⟨_, e⟩
  | set S n => obtain ⟨o, _, _, _, e, _⟩ := x; exact ⟨_, e⟩
  | ins C dx fs => obtain ⟨_, _, _, e, _⟩ := x; exact ⟨_, e⟩
  | own y => obtain ⟨_, e⟩ := x; exact ⟨_, e⟩
  | xd fs => obtain ⟨_, ⟨_, _, _, e, _⟩, _⟩ := x; exact ⟨_, e⟩
  | rng lo hi => obtain ⟨_, _, _, e⟩ := x; exact ⟨_, e⟩
  | frz ob u => obtain ⟨e, _⟩ := x; exact ⟨_, e⟩
  | tbl ps => exact ⟨_, x⟩
  | met f y => exact ⟨_, x⟩
  | ext φ => obtain ⟨_, ⟨_, e⟩, _⟩ := x; exact ⟨_, e⟩
theorem ns_inj {h : Heap} {a : Addr} {m m' : Str → Option Value} (x : h.Ns a m) (y : h.Ns a m') : m = m' := by
  obtain ⟨o, es, ep, ho, hd, _, hm⟩ := x
  obtain ⟨o', es', ep', ho', hd', _, hm'⟩ := y
  rw [ho] at ho'
  cases ho'
  rw [hd] at hd'
  cases hd'
  exact funext fun n => (hm n).symm.trans (hm' n)
section
variable {X : Cx} {pins : List (Addr × Obj)} {σ : St} {H : Hp} {s : Shared}
end
section
variable {X : Cx}
end
/-! xs[::2] -/
section
variable {X : Cx}
end
end L2

/-! Going along a piece: partners at ends and at births, orbits, tours. -/
namespace L2
open PySem PySem.Spec PyProof.Rows
def bw (x : Int) : Int := if x % 2 = 0 then x + 1 else x - 1
structure Mates (m : Int → Int) (N : Int) : Prop where
  lo : ∀ x, 0 ≤ x → x < N → 0 ≤ m x
  hi : ∀ x, 0 ≤ x → x < N → m x < N
  inv : ∀ x, 0 ≤ x → x < N → m (m x) = x
  ne : ∀ x, 0 ≤ x → x < N → m x ≠ x
  ev : N % 2 = 0
def gt (m : Int → Int) (f : Int) : Nat → Int
  | 0 => f
  | i + 1 => bw (m (gt m f i))
def orb (m : Int → Int) (f : Int) : Nat → List Int
  | 0 => []
  | i + 1 => orb m f i ++ [gt m f i, m (gt m f i)]
section
variable {m : Int → Int} {N f : Int}
end
/-- the tour from f: till one comes back -/
def IsTour (m : Int → Int) (f : Int) (T : List Int) : Prop := ∃ L, 1 ≤ L ∧ gt m f L = f ∧ (∀ j, 1 ≤ j → j < L → gt m f j ≠ f) ∧ T = orb m f L
inductive Trs (m : Int → Int) : Nat → List (List Int) → Prop
  | nil : Trs m 0 []
  | add {i : Nat} {ts : List (List Int)} {T : List Int} : Trs m i ts → (i : Int) ∉ ts.flatten → IsTour m (i : Int) T → Trs m (i + 1) (ts ++ [T])
  | skip {i : Nat} {ts : List (List Int)} : Trs m i ts → (i : Int) ∈ ts.flatten → Trs m (i + 1) ts
end L2

/-! The threads at letters; who ends with whom. -/
namespace L2
open PySem PySem.Spec PyProof.Rows
end L2

/-! xs != [], in and not in within blocks, pairs as data. -/
namespace L2
open PySem PySem.Spec PyProof.Rows
section
variable {X : Cx}
def rNeNil (K : PySem.W.Frag) : R2 := fun x y H Q => ∃ (p q : Addr) (xs : List V), x = .ref p ∧ y = .ref q ∧ SqL K H p xs ∧ SqL K H q [] ∧ Q (.bl (!xs.isEmpty)) H
theorem op_neNil (hu : X.A.units + 64 < cLine) : OpR X (compareOp .NotEq) (rNeNil X.K) := by
  intro pins s σ H x y v u Q I rx ry h
  obtain ⟨p, q, xs, rfl, rfl, hp, hq, hQ⟩ := h
  cases rx
  cases ry
  obtain ⟨its, r1, p1, _⟩ := I.list hp
  obtain ⟨its2, r2, p2, _⟩ := I.list hq
  have l1 := r1.length
  have l2 := r2.length
  cases xs with
  | nil =>
    refine SeqAt.RcNeAt.lists (e := fun _ => true) p1.isList p2.isList (by simp only [List.size_toArray]; omega) (by omega) (fun j h1 h2 => ?_) X.prog X.w _ _ ⟨.bl false, H, I, ?_, hQ⟩
    · rw [List.size_toArray] at h1
      have : its.length = 0 := by simpa using l1.symm
      omega
    · show Value.bool _ = Value.bool false
      simp
  | cons z zs =>
    refine SeqAt.RcNeAt.lists_lengths p1.isList p2.isList (by simp only [List.size_toArray]; rw [bne_iff_ne]; simp at l1 l2; omega) (by omega) X.prog X.w _ _ ⟨.bl true, H, I, rfl, hQ⟩
theorem op_neNilK {K : PySem.W.Frag} (h : X.K = K) (hu : X.A.units + 64 < cLine) : OpR X (compareOp .NotEq) (rNeNil K) := h ▸ op_neNil hu
theorem op_in_seqK {K : PySem.W.Frag} (h : X.K = K) : OpR X (compareOp .In) (rIn K false) := h ▸ op_in_seq
theorem op_notIn_seqK {K : PySem.W.Frag} (h : X.K = K) : OpR X (compareOp .NotIn) (rIn K true) := h ▸ op_notIn_seq
end
/-! pairs of ints in tuples -/
/-! rows by their numbers -/
end L2

/-! sum of a list of ints. -/
namespace L2
open PySem PySem.Spec PyProof.Rows
section
variable {X : Cx} {pins : List (Addr × Obj)} {σ : St} {H : Hp} {s : Shared}
/-- all kept but the frame's own object, whose map is kept -/
theorem Inv.keptN {h' : Heap} {t' : Nat} {m : Str → Option Value} (I : Inv X pins σ H s) (F : Fr X.base X.env.locals s.heap m) (F' : Fr X.base X.env.locals h' m)
    (N' : News X.base X.env.locals h' (allNews X.base s.heap X.env.locals)) : Inv X pins σ H { s with heap := h', toks := t' } := by
  have kp : ∀ b u, b ≠ X.env.locals → s.heap.get? b = some u → h'.get? b = some u := fun b u hb e => by
    cases q : X.base.get? b with
    | some v =>
      have e1 := F'.keep b v q
      have e2 := F.keep b v q
      rw [e] at e2
      cases e2
      exact e1
    | none => exact (N' (b, u) (mem_allNews hb q e)).1
  have neL : ∀ b u, H b = some u → b ≠ X.env.locals := fun b u e z => by rw [z, I.free] at e; cases e
  refine I.step (g' := s.gens) (d' := s.drawn) (ch := []) (fun _ z => nomatch z) (fun b ob hb _ _ e _ => kp b ob hb e) (fun b ob hb _ _ e _ => ⟨ob.slots, kp b ob hb e⟩) (fun b ob _ e n => n) (fun b ob _ e => ?_) (fun b xs e => e) (fun b ob u e => e) (fun b ps e => ⟨#[], by rw [e]; simp⟩) (fun m' hm => ?_) (fun b u e => ?_) I.bare
  · by_cases hb : b = X.env.locals
    · subst hb
      obtain ⟨ob', _, _, z, _⟩ := F'.ns
      exact ⟨ob', z⟩
    · exact ⟨ob, kp b ob hb e⟩
  · rw [ns_inj hm F.ns]; exact F'.ns
  · refine (I.hok b u e).stay (fun c v hc q => kp c v ?_ q) (fun c q => q) fun c xs q => q
    rcases hc with z | z
    · subst z; exact neL _ u e
    · exact neL c _ z
end
section
variable {X : Cx}
theorem call_sum (hc : X.calm = true) : CallR X (.builtin "sum") (fun xs H Q => ∃ (p : Addr) (ns : List Int), xs = [.ref p] ∧ SqL X.K H p (ns.map V.int) ∧ Q (.int ns.sum) H) := by
  intro pins s σ H xs us Q I r h
  obtain ⟨p, ns, rfl, hq, q⟩ := h
  obtain ⟨u, rfl, ru⟩ := r.one
  cases ru
  obtain ⟨its, rv, pl, hz⟩ := I.list hq
  obtain ⟨m, fr⟩ := I.fr
  refine LSm.sum_ints fr (news := allNews X.base s.heap X.env.locals) news_all (I.ok.hd hc) pl.isList (ints_of_vals rv) fun h' tk t' fr' nw' => ?_
  exact ⟨.int ns.sum, H, I.keptN fr fr' nw', ⟨t', rfl⟩, q⟩
theorem call_sumK {K : PySem.W.Frag} (h : X.K = K) (hc : X.calm = true) : CallR X (.builtin "sum") (fun xs H Q => ∃ (p : Addr) (ns : List Int), xs = [.ref p] ∧ SqL K H p (ns.map V.int) ∧ Q (.int ns.sum) H) := h ▸ call_sum hc
end
end L2

/-! zip of two lists; max of a list; list.index; x is True. -/
namespace L2
open PySem PySem.Spec PyProof.Rows PyProof.V
def Itz (K : PySem.W.Frag) (a b : Addr) : It :=
  ⟨fun i H => ∃ xs ys x y, SqL K H a xs ∧ SqL K H b ys ∧ xs[i]? = some x ∧ ys[i]? = some y,
   fun i H v H' => ∃ p x y, v = .ref p ∧ H p = none ∧ H' = upd H p (.tup [x, y]) ∧ (∀ xs, SqL K H a xs → xs[i]? = some x) ∧ (∀ ys, SqL K H b ys → ys[i]? = some y),
   fun i H => ∃ xs ys, SqL K H a xs ∧ SqL K H b ys ∧ (xs.length ≤ i ∨ ys.length ≤ i)⟩
theorem turn_zip {P : Program} {w : World} {K : PySem.W.Frag} {es : List Expr} {k : Nat} {pos : Pos} (a b z TI TO i1 i2 : Addr) (ap : ZipApart z TI TO i1 i2 a b) :
    Turn P w K (.Tuple es k pos) (Itz K a b) [z, TI, TO, i1, i2] z (fun i h => IsZip h z TI TO .none ∧ IsPair h TI (.ref i1) (.ref i2) ∧ (∃ u v, IsPair h TO u v) ∧ h.IsListIter i1 a i ∧ h.IsListIter i2 b i) where
  mem := by simp
  obj := fun i h st c hc => by
    obtain ⟨h1, h2, ⟨u, v, h3⟩, ⟨o1, ho1, c1, d1⟩, ⟨o2, ho2, c2, d2⟩⟩ := st
    simp only [List.mem_cons, List.not_mem_nil, or_false] at hc
    rcases hc with e | e | e | e | e
    · subst e; exact ⟨_, h1, fun v z => by have z' : Data.fields _ = Data.cell v := z; cases z'⟩
    · subst e; exact ⟨_, h2, fun v z => by have z' : Data.seq _ _ = Data.cell v := z; cases z'⟩
    · subst e; exact ⟨_, h3, fun v z => by have z' : Data.seq _ _ = Data.cell v := z; cases z'⟩
    · subst e; exact ⟨o1, ho1, fun v z => by rw [d1] at z; cases z⟩
    · subst e; exact ⟨o2, ho2, fun v z => by rw [d2] at z; cases z⟩
  keep := fun i h h' st k => by
    obtain ⟨h1, h2, ⟨u, v, h3⟩, h4, h5⟩ := st
    exact ⟨k z (by simp) _ h1, k TI (by simp) _ h2, ⟨u, v, k TO (by simp) _ h3⟩, h4.at fun o x => k i1 (by simp) o x, h5.at fun o x => k i2 (by simp) o x⟩
  item := by
    intro X hP hw hK hc i pins s σ H E I hf st hg
    subst hP hw hK
    obtain ⟨xs, ys, x, y, hq1, hq2, hx, hy⟩ := hg
    obtain ⟨its1, rv1, p1, hz1⟩ := I.list hq1
    obtain ⟨its2, rv2, p2, hz2⟩ := I.list hq2
    obtain ⟨u, hu, ru⟩ := rv1.get hx
    obtain ⟨v, hv, rv⟩ := rv2.get hy
    obtain ⟨h1, h2, ⟨oa, ob, h3⟩, h4, h5⟩ := st
    refine wpAny_pyNext_zip_item ap h1 h2 h3 h4 h5 p1.isList p2.isList (x := u) (y := v) (by simpa using hu) (by simpa using hv) fun h' g1 g2 g3 g4 g5 hsz kk => ⟨_, rfl, ?_⟩
    refine wpAny_letOwnedTupleGo_zip (s := { s with heap := h' }) g1 fun h'' e1 hs'' => ?_
    have lt : ∀ c ∈ [z, TI, TO, i1, i2], @LT.lt Nat _ c s.heap.objs.size := fun c hc => by
      simp only [List.mem_cons, List.not_mem_nil, or_false] at hc
      rcases hc with e | e | e | e | e
      · subst e; exact aLt h1
      · subst e; exact aLt h2
      · subst e; exact aLt h3
      · subst e; obtain ⟨o, ho, _⟩ := h4; exact aLt ho
      · subst e; obtain ⟨o, ho, _⟩ := h5; exact aLt ho
    have kk2 : ∀ c o, c ≠ z → c ≠ TO → c ≠ i1 → c ≠ i2 → s.heap.get? c = some o → h''.get? c = some o := fun c o n1 n2 n3 n4 q => (hs''.2 c n1).trans (kk c o n1 n2 n3 n4 q)
    have nne : ∀ c o, H c = some o → c ≠ z ∧ c ≠ TO ∧ c ≠ i1 ∧ c ≠ i2 := fun c o q => by
      refine ⟨fun e => ?_, fun e => ?_, fun e => ?_, fun e => ?_⟩
      · rw [e, (hf z (by simp)).1] at q; cases q
      · rw [e, (hf TO (by simp)).1] at q; cases q
      · rw [e, (hf i1 (by simp)).1] at q; cases q
      · rw [e, (hf i2 (by simp)).1] at q; cases q
    have fr : H s.heap.objs.size = none := I.hok.fresh (Nat.le_refl _)
    have hT : h''.get? s.heap.objs.size = some { cls := .type "tuple", data := .seq #[u, v] } := (hs''.2 _ (Nat.ne_of_gt (lt z (by simp)))).trans g5
    have nT : ∀ c o, s.heap.get? c = some o → c ≠ s.heap.objs.size := fun c o q => Nat.ne_of_lt (aLt q)
    have ok' : HOk X.prog X.w (upd H s.heap.objs.size (.tup [x, y])) h'' := fun c o q => by
      by_cases hb : c = s.heap.objs.size
      · subst hb
        rw [upd_same] at q
        cases q
        exact ⟨show 2 ≤ sizeLine by decide, [u, v], .cons ru (.cons rv .nil), ⟨_, hT, rfl, _, rfl⟩⟩
      · rw [upd_ne hb] at q
        refine (I.hok c o q).stay (fun d v hd r => ?_) (fun d r => by rw [upd_ne (ne_of_none r fr)]; exact r) fun d xs r => by rw [upd_ne (ne_of_none r fr)]; exact r
        rcases hd with e | e
        · subst e
          obtain ⟨n1, n2, n3, n4⟩ := nne d o q
          exact kk2 d v n1 n2 n3 n4 r
        · obtain ⟨n1, n2, n3, n4⟩ := nne d _ e
          exact kk2 d v n1 n2 n3 n4 r
    have notin : ∀ c, c ∉ [z, TI, TO, i1, i2] → c ≠ z ∧ c ≠ TO ∧ c ≠ i1 ∧ c ≠ i2 := fun c hc => by
      simp only [List.mem_cons, List.not_mem_nil, or_false, not_or] at hc
      exact ⟨hc.1, hc.2.2.1, hc.2.2.2.1, hc.2.2.2.2⟩
    have I1 : Inv X pins σ (upd H s.heap.objs.size (.tup [x, y])) { s with heap := h'', gens := s.gens, drawn := s.drawn, toks := s.toks } := by
      refine I.step (ch := [z, TI, TO, i1, i2]) (fun c hc => ?_) (fun c o _ _ hc q _ => ?_) (fun c o _ _ hc q _ => ⟨o.slots, ?_⟩)
        (fun c o _ q n => by rw [upd_ne (nT c o q)]; exact n) (fun c o hc q => ⟨o, ?_⟩) (fun c xs q => by rw [upd_ne (ne_of_none q fr)]; exact q) (fun c o u q => by rw [upd_ne (ne_of_none q fr)]; exact q)
        (fun c ps q => ⟨#[], by rw [upd_ne (ne_of_none q fr), q]; simp⟩) (fun m hm => ?_) ok' I.bare
      · obtain ⟨f0, f1, f2, f3, f4, f5⟩ := hf c hc
        exact ⟨f3, f1, f4, f5⟩
      · obtain ⟨n1, n2, n3, n4⟩ := notin c hc; exact kk2 c o n1 n2 n3 n4 q
      · obtain ⟨n1, n2, n3, n4⟩ := notin c hc; exact kk2 c o n1 n2 n3 n4 q
      · obtain ⟨n1, n2, n3, n4⟩ := notin c hc; exact kk2 c o n1 n2 n3 n4 q
      · obtain ⟨o, es, ep, ho, r⟩ := hm
        exact ⟨o, es, ep, kk2 _ o (Ne.symm (hf z (by simp)).2.1) (Ne.symm (hf TO (by simp)).2.1) (Ne.symm (hf i1 (by simp)).2.1) (Ne.symm (hf i2 (by simp)).2.1) ho, r⟩
    refine ⟨.ref s.heap.objs.size, _, I1, rfl, ⟨s.heap.objs.size, x, y, rfl, fr, rfl, fun zs hz => by rw [I.list_inj hz hq1]; exact hx, fun zs hz => by rw [I.list_inj hz hq2]; exact hy⟩,
      ⟨e1, kk2 TI _ ap.TIz ap.TITO ap.TIi1 ap.TIi2 h2, ⟨u, v, (hs''.2 TO ap.TOz).trans g2⟩, g3.at fun o q => (hs''.2 i1 ap.i1z).trans q, g4.at fun o q => (hs''.2 i2 ap.i2z).trans q⟩, fun c hc => ?_⟩
    rw [upd_ne (Nat.ne_of_lt (lt c hc))]
    exact (hf c hc).1
  done := by
    intro X hP hw hK hc i pins s σ H E I hf st hg
    subst hP hw hK
    obtain ⟨xs, ys, hq1, hq2, hx⟩ := hg
    obtain ⟨its1, rv1, p1, hz1⟩ := I.list hq1
    obtain ⟨its2, rv2, p2, hz2⟩ := I.list hq2
    obtain ⟨h1, h2, ⟨oa, ob, h3⟩, h4, h5⟩ := st
    have l1 := rv1.length
    have l2 := rv2.length
    refine wpAny_pyNext_zip_end (I.ok.hd hc) ap h1 h2 h3 h4 h5 p1.isList p2.isList (by rcases hx with e | e; exact .inl (by simp; omega); exact .inr (by simp; omega)) fun h' kk => ⟨rfl, ?_⟩
    have nne : ∀ c o, H c = some o → c ≠ z ∧ c ≠ TO ∧ c ≠ i1 ∧ c ≠ i2 := fun c o q => by
      refine ⟨fun e => ?_, fun e => ?_, fun e => ?_, fun e => ?_⟩
      · rw [e, (hf z (by simp)).1] at q; cases q
      · rw [e, (hf TO (by simp)).1] at q; cases q
      · rw [e, (hf i1 (by simp)).1] at q; cases q
      · rw [e, (hf i2 (by simp)).1] at q; cases q
    have notin : ∀ c, c ∉ [z, TI, TO, i1, i2] → c ≠ z ∧ c ≠ TO ∧ c ≠ i1 ∧ c ≠ i2 := fun c hc => by
      simp only [List.mem_cons, List.not_mem_nil, or_false, not_or] at hc
      exact ⟨hc.1, hc.2.2.1, hc.2.2.2.1, hc.2.2.2.2⟩
    have ok' : HOk X.prog X.w H h' := fun c o q => by
      refine (I.hok c o q).stay (fun d v hd r => ?_) (fun d r => r) fun d xs r => r
      rcases hd with e | e
      · subst e
        obtain ⟨n1, n2, n3, n4⟩ := nne d o q
        exact kk d v n1 n2 n3 n4 r
      · obtain ⟨n1, n2, n3, n4⟩ := nne d _ e
        exact kk d v n1 n2 n3 n4 r
    refine I.step (g' := s.gens) (d' := s.drawn) (t' := s.toks) (ch := [z, TI, TO, i1, i2]) (fun c hc => ?_) (fun c o _ _ hc q _ => ?_) (fun c o _ _ hc q _ => ⟨o.slots, ?_⟩)
        (fun c o _ q n => n) (fun c o hc q => ⟨o, ?_⟩) (fun c xs q => q) (fun c o u q => q) (fun c ps q => ⟨#[], by rw [q]; simp⟩) (fun m hm => ?_) ok' I.bare
    · obtain ⟨f0, f1, f2, f3, f4, f5⟩ := hf c hc
      exact ⟨f3, f1, f4, f5⟩
    · obtain ⟨n1, n2, n3, n4⟩ := notin c hc; exact kk c o n1 n2 n3 n4 q
    · obtain ⟨n1, n2, n3, n4⟩ := notin c hc; exact kk c o n1 n2 n3 n4 q
    · obtain ⟨n1, n2, n3, n4⟩ := notin c hc; exact kk c o n1 n2 n3 n4 q
    · obtain ⟨o, es, ep, ho, r⟩ := hm
      exact ⟨o, es, ep, kk _ o (Ne.symm (hf z (by simp)).2.1) (Ne.symm (hf TO (by simp)).2.1) (Ne.symm (hf i1 (by simp)).2.1) (Ne.symm (hf i2 (by simp)).2.1) ho, r⟩
  self := fun _ _ _ _ _ st h => wpAny_pyIter_zip st.1 h
section
variable {X : Cx}
def iZip (K : PySem.W.Frag) (ta : TA) : TI := fun σ H R => ta σ H fun vs H1 => ∃ a b, vs = [.ref a, .ref b] ∧ (∃ xs, SqL K H1 a xs) ∧ (∃ ys, SqL K H1 b ys) ∧ R (Itz K a b) H1
theorem pi_zip {a b : Expr} {ta : TA} {p pos tpos : Pos} {es : List Expr} {k : Nat} (hg : Gl X "zip") (hm : X.mg "zip" = none) (ha : PA X [a, b] ta) (hs : starEach [a, b] X.env = [(false, eval a X.env), (false, eval b X.env)] := by rfl) (hs2 : starEach [b] X.env = [(false, eval b X.env)] := by rfl) :
    PI X (.Tuple es k tpos) (.Call (.Name "zip" p) [a, b] [] pos) (iZip X.K ta) := by
  intro pins s σ H R I h
  refine Call_ (ld_blt I hg hm boot_zip (PyProof.Rows.callWith_type1 (thn (ha pos pins s σ H _ I h) fun us s1 ⟨vs, H1, I1, r1, q1⟩ => ?_) (by rw [hs, hs2]) (by rw [hs2]; rfl)))
  obtain ⟨l1, l2, e, ⟨xs, hq1⟩, ⟨ys, hq2⟩, q⟩ := q1
  subst e
  obtain ⟨u, v, rfl, ru, rv⟩ := r1.two
  cases ru
  cases rv
  obtain ⟨its1, rv1, p1, hz1⟩ := I1.list hq1
  obtain ⟨its2, rv2, p2, hz2⟩ := I1.list hq2
  have L1 : @LT.lt Nat _ l1 s1.heap.objs.size := by obtain ⟨o, ho, _⟩ := p1.isList; exact aLt ho
  have L2 : @LT.lt Nat _ l2 s1.heap.objs.size := by obtain ⟨o, ho, _⟩ := p2.isList; exact aLt ho
  refine call_zip_2 p1.isList p2.isList fun h' g1 g2 g3 g4 g5 hsz kk => ?_
  have I2 : Inv X pins σ H1 { s1 with heap := h' } := I1.kept (t' := s1.toks) kk
  refine wpAny_pyIter_zip (s := { s1 with heap := h' }) g1 ?_
  have ap : ZipApart (s1.heap.objs.size + 4) (s1.heap.objs.size + 2) (s1.heap.objs.size + 3) s1.heap.objs.size (s1.heap.objs.size + 1) l1 l2 := by
    constructor <;> (intro e; have e' : @Eq Nat _ _ := e; omega)
  refine ⟨_, [s1.heap.objs.size + 4, s1.heap.objs.size + 2, s1.heap.objs.size + 3, s1.heap.objs.size, s1.heap.objs.size + 1], _, _, H1, rfl, I2, turn_zip l1 l2 _ _ _ _ _ ap, ⟨g1, g2, ⟨_, _, g3⟩, g4, g5⟩, fun c hc => ?_, q⟩
  have hb' : @LE.le Nat _ s1.heap.objs.size c := by
    simp only [List.mem_cons, List.not_mem_nil, or_false] at hc
    rcases hc with e | e | e | e | e <;> (subst e; first | exact Nat.le_refl _ | exact Nat.le_add_right _ _)
  exact I1.fpOk hb' (I1.hok.fresh hb')
theorem pi_zipK {K : PySem.W.Frag} {a b : Expr} {ta : TA} {p pos tpos : Pos} {es : List Expr} {k : Nat} (hk : X.K = K) (hg : Gl X "zip") (hm : X.mg "zip" = none) (ha : PA X [a, b] ta) (hs : starEach [a, b] X.env = [(false, eval a X.env), (false, eval b X.env)] := by rfl) (hs2 : starEach [b] X.env = [(false, eval b X.env)] := by rfl) :
    PI X (.Tuple es k tpos) (.Call (.Name "zip" p) [a, b] [] pos) (iZip K ta) := hk ▸ pi_zip hg hm ha hs hs2
/-! max of a list of ints -/
end
end L2

/-! x is not True; a text in a dict of the module's. -/
namespace L2
open PySem PySem.Spec PyProof.Rows PyProof.V
section
variable {X : Cx}
end
end L2

/-! what is never come to -/
namespace L2
open PySem PySem.Spec PyProof.Rows
section
variable {X : Cx}
end
end L2

/-! xs[a:c] = ys where c may lie past the end; tuple + tuple within a def; things of all kinds. -/
namespace L2
open PySem PySem.Spec PyProof.Rows PyProof.V
section
variable {prog : Program} {w : World} {A : Around} {E : Value → Shared → Prop} {s : Shared}
end
section
variable {X : Cx}
end
/-! things -/
inductive Sim (H : Hp) : V → Prop
  | non : Sim H .non
  | bl (b : Bool) : Sim H (.bl b)
  | int (i : Int) : Sim H (.int i)
  | str (x : Str) : Sim H (.str x)
  | lst {a : Addr} {xs : List V} (e : H a = some (.lst xs)) : Sim H (.ref a)
  | tup {a : Addr} {xs : List V} (e : H a = some (.tup xs)) : Sim H (.ref a)
def isStr : V → Bool
  | .str _ => true
  | _ => false
def isIn : V → Bool
  | .int _ => true
  | _ => false
/-- a letter's place: a letter's tuple, or another thing -/
inductive LetR (H : Hp) : V → Option (Str × Int) → Prop
  | yes {a : Addr} {x : Str} {k : Int} (e : H a = some (.tup [.str x, .int k])) : LetR H (.ref a) (some (x, k))
  | non : LetR H .non none
  | bl (b : Bool) : LetR H (.bl b) none
  | int (i : Int) : LetR H (.int i) none
  | str (x : Str) : LetR H (.str x) none
  | lst {a : Addr} {xs : List V} (e : H a = some (.lst xs)) : LetR H (.ref a) none
  | len {a : Addr} {xs : List V} (e : H a = some (.tup xs)) (n : xs.length ≠ 2) : LetR H (.ref a) none
  | fst {a : Addr} {u w : V} (e : H a = some (.tup [u, w])) (s : Sim H u) (n : isStr u = false) : LetR H (.ref a) none
  | snd {a : Addr} {x : Str} {w : V} (e : H a = some (.tup [.str x, w])) (s : Sim H w) (n : isIn w = false) : LetR H (.ref a) none
end L2

/-! the arguments of a display, one by one: no star -/
namespace L2
open PySem PySem.Spec PyProof.Rows
section
variable {env : Env} {r : List Expr}
theorem se_Constant {a : Const} {b : Nat} {p : Pos} : starEach (.Constant a b p :: r) env = (false, eval (.Constant a b p) env) :: starEach r env := by rfl
theorem se_Name {a : Str} {p : Pos} : starEach (.Name a p :: r) env = (false, eval (.Name a p) env) :: starEach r env := by rfl
theorem se_Tuple {a : List Expr} {b : Nat} {p : Pos} : starEach (.Tuple a b p :: r) env = (false, eval (.Tuple a b p) env) :: starEach r env := by rfl
theorem se_List {a : List Expr} {p : Pos} : starEach (.List a p :: r) env = (false, eval (.List a p) env) :: starEach r env := by rfl
theorem se_UnaryOp {a : UnaryOp} {b : Expr} {p : Pos} : starEach (.UnaryOp a b p :: r) env = (false, eval (.UnaryOp a b p) env) :: starEach r env := by rfl
theorem se_BinOp {a : Expr} {o : Operator} {b : Expr} {p : Pos} : starEach (.BinOp a o b p :: r) env = (false, eval (.BinOp a o b p) env) :: starEach r env := by rfl
end
end L2

/-! the rules of displays, closed: what stands within is not looked into -/
namespace L2
open PySem PySem.Spec PyProof.Rows
section
variable {X : Cx} {e a b : Expr} {es : List Expr} {te ta tb : TE} {t : TA} {pos : Pos} {st : Stmt} {rest : List Stmt} {ts us : TS}
structure PEc (X : Cx) (e : Expr) (t : TE) : Prop where
  out : PE X e t
structure PAc (X : Cx) (es : List Expr) (t : TA) : Prop where
  out : PA X es t
structure PSc (X : Cx) (st : Stmt) (t : TS) : Prop where
  out : PS X st t
structure PSsc (X : Cx) (st : List Stmt) (t : TS) : Prop where
  out : PSs X st t
theorem psc_of (h : PS X st ts) : PSc X st ts := ⟨h⟩
theorem pssc_cons (h1 : PSc X st ts) (h2 : PSsc X rest us) : PSsc X (st :: rest) (tSeq ts us) := ⟨pss_cons h1.out h2.out⟩
theorem pssc_of (h : PSs X rest us) : PSsc X rest us := ⟨h⟩
theorem use_c {sts : List Stmt} {p : TS → Prop} : (∃ t, PSsc X sts t ∧ p t) → ∃ t, PSs X sts t ∧ p t := fun ⟨t, h, q⟩ => ⟨t, h.out, q⟩
end
end L2

/-! displays of constants, as trees: one rule for a whole display -/
namespace L2
open PySem PySem.Spec PyProof.Rows
inductive Lit
  | non | bl (b : Bool) | int (i : Int) | str (x : Str) | tup (l : List Lit) | lst (l : List Lit)
mutual
inductive RepL (H : Hp) : V → Lit → Prop
  | non : RepL H .non .non
  | bl (b : Bool) : RepL H (.bl b) (.bl b)
  | int (i : Int) : RepL H (.int i) (.int i)
  | str (x : Str) : RepL H (.str x) (.str x)
  | tup {a : Addr} {xs : List V} {l : List Lit} (e : H a = some (.tup xs)) (r : RepLs H xs l) : RepL H (.ref a) (.tup l)
  | lst {a : Addr} {xs : List V} {l : List Lit} (e : H a = some (.lst xs)) (r : RepLs H xs l) : RepL H (.ref a) (.lst l)
inductive RepLs (H : Hp) : List V → List Lit → Prop
  | nil : RepLs H [] []
  | cons {v : V} {vs : List V} {l : Lit} {ls : List Lit} (a : RepL H v l) (r : RepLs H vs ls) : RepLs H (v :: vs) (l :: ls)
end
mutual
theorem RepL.same {H H' : Hp} (s : Same H H') : ∀ {v : V} {l : Lit}, RepL H v l → RepL H' v l
  | _, _, .non => .non
  | _, _, .bl b => .bl b
  | _, _, .int i => .int i
  | _, _, .str x => .str x
  | _, _, .tup e r => .tup (s _ _ e) (r.same s)
  | _, _, .lst e r => .lst (s _ _ e) (r.same s)
theorem RepLs.same {H H' : Hp} (s : Same H H') : ∀ {vs : List V} {ls : List Lit}, RepLs H vs ls → RepLs H' vs ls
  | _, _, .nil => .nil
  | _, _, .cons a r => .cons (a.same s) (r.same s)
end
theorem RepLs.len {H : Hp} : ∀ {vs : List V} {ls : List Lit}, RepLs H vs ls → vs.length = ls.length
  | _, _, .nil => rfl
  | _, _, .cons _ r => by rw [List.length_cons, List.length_cons, r.len]
theorem RepLs.get {H : Hp} : ∀ {vs : List V} {ls : List Lit} {i : Nat} {x : V}, RepLs H vs ls → vs[i]? = some x → ∃ l, ls[i]? = some l ∧ RepL H x l
  | _, _, _, _, .nil, e => by simp at e
  | _, _, 0, _, .cons a _, e => by simp at e; subst e; exact ⟨_, rfl, a⟩
  | _, _, i + 1, x, .cons _ r, e => by
    obtain ⟨o, h1, h2⟩ := RepLs.get (i := i) (x := x) r (by simpa using e)
    exact ⟨o, by simpa using h1, h2⟩
theorem small100 {n : Nat} (h : n ≤ 100) : n ≤ sizeLine := Nat.le_trans h (by decide)
section
variable {X : Cx} {G : St → Hp → Prop} {e a b : Expr} {es : List Expr} {pos : Pos} {l : Lit} {ls la lb : List Lit}
def tL (G : St → Hp → Prop) (l : Lit) : TE := fun σ H Q => G σ H ∧ ∀ v H', Same H H' → RepL H' v l → Q v H'
def tLs (G : St → Hp → Prop) (l : List Lit) : TA := fun σ H Q => G σ H ∧ ∀ v H', Same H H' → RepLs H' v l → Q v H'
def Keeps (G : St → Hp → Prop) : Prop := ∀ σ H H', Same H H' → G σ H → G σ H'
structure PL (X : Cx) (G : St → Hp → Prop) (e : Expr) (l : Lit) : Prop where
  out : PE X e (tL G l)
structure PLs (X : Cx) (G : St → Hp → Prop) (es : List Expr) (l : List Lit) : Prop where
  out : PA X es (tLs G l)
theorem PE.mono {t t' : TE} (h : PE X e t) (m : ∀ σ H Q, t' σ H Q → t σ H Q) : PE X e t' := fun pins s σ H Q I q => h pins s σ H Q I (m _ _ _ q)
theorem PA.mono {t t' : TA} (h : PA X es t) (m : ∀ σ H Q, t' σ H Q → t σ H Q) : PA X es t' := fun pos pins s σ H Q I q => h pos pins s σ H Q I (m _ _ _ q)
theorem pl_non {j : Nat} : PL X G (.Constant .none j pos) .non := ⟨PE.mono pe_non fun σ H Q h => h.2 _ _ (Same.refl _) .non⟩
theorem pl_bl {b : Bool} {j : Nat} : PL X G (.Constant (.bool b) j pos) (.bl b) := ⟨PE.mono pe_bl fun σ H Q h => h.2 _ _ (Same.refl _) (.bl b)⟩
theorem pl_int {i : Int} {j : Nat} : PL X G (.Constant (.int i) j pos) (.int i) := ⟨PE.mono pe_int fun σ H Q h => h.2 _ _ (Same.refl _) (.int i)⟩
theorem pl_str {x : Str} {j : Nat} : PL X G (.Constant (.str x) j pos) (.str x) := ⟨PE.mono pe_str fun σ H Q h => h.2 _ _ (Same.refl _) (.str x)⟩
theorem pl_neg {i : Int} {j : Nat} {p : Pos} : PL X G (.UnaryOp .USub (.Constant (.int i) j p) pos) (.int (-i)) := ⟨PE.mono (pe_un un_neg pe_int) fun σ H Q h => ⟨i, rfl, h.2 _ _ (Same.refl _) (.int (-i))⟩⟩
theorem pl_pow {i k : Int} {j j2 : Nat} {p p2 : Pos} (hc : CPow i k) : PL X G (.BinOp (.Constant (.int i) j p) .Pow (.Constant (.int k) j2 p2) pos) (.int (i ^ k.toNat)) := ⟨PE.mono (pe_op op_pow pe_int pe_int) fun σ H Q h => ⟨i, k, rfl, rfl, hc, h.2 _ _ (Same.refl _) (.int _)⟩⟩
theorem pls_nil : PLs X G [] [] := ⟨PA.mono pa_nil fun σ H Q h => h.2 _ _ (Same.refl _) .nil⟩
theorem pls_cons (g : Keeps G) (ha : PL X G e l) (hr : PLs X G es ls) (hs : starEach (e :: es) X.env = (false, eval e X.env) :: starEach es X.env) : PLs X G (e :: es) (l :: ls) :=
  ⟨PA.mono (pa_cons ha.out hr.out hs) fun σ H Q h => ⟨h.1, fun v H1 s1 r1 => ⟨g _ _ _ s1 h.1, fun vs H2 s2 r2 => h.2 _ _ (s1.trans s2) (.cons (r1.same s2) r2)⟩⟩⟩
theorem pl_tup {k : Nat} (h : PLs X G es ls) (hn : ls.length ≤ 100 := by decide) : PL X G (.Tuple es k pos) (.tup ls) :=
  ⟨PE.mono (pe_tup h.out) fun σ H Q h => ⟨h.1, fun v H1 s1 r1 => ⟨by rw [r1.len]; exact small100 hn, fun p hp => h.2 _ _ (s1.step hp) (.tup upd_same (r1.same (Same.laid hp)))⟩⟩⟩
theorem pl_lst (h : PLs X G es ls) (hn : ls.length ≤ 100 := by decide) : PL X G (.List es pos) (.lst ls) :=
  ⟨PE.mono (pe_lst h.out) fun σ H Q h => ⟨h.1, fun v H1 s1 r1 => ⟨by rw [r1.len]; exact small100 hn, fun p hp => h.2 _ _ (s1.step hp) (.lst upd_same (r1.same (Same.laid hp)))⟩⟩⟩
theorem pl_var {i : Nat} {x : Str} (hv : ∀ σ H, G σ H → ∃ v, σ[i]? = some (some v) ∧ RepL H v l) (h : PE X (.Name x pos) (tVar i)) : PL X G (.Name x pos) l :=
  ⟨PE.mono h fun σ H Q h => by
    obtain ⟨v, e, r⟩ := hv σ H h.1
    exact ⟨v, e, h.2 _ _ (Same.refl _) r⟩⟩
end
end L2
namespace L2
open PySem PySem.Spec PyProof.Rows
theorem keepsT : Keeps (fun _ _ => True) := fun _ _ _ _ _ => trivial
end L2
namespace L2
open PySem PySem.Spec PyProof.Rows
section
variable {X : Cx} {G : St → Hp → Prop} {es : List Expr} {pos : Pos} {ls : List Lit}
end
end L2

/-! a statement with a word of one's own between it and the rest -/
namespace L2
open PySem PySem.Spec PyProof.Rows
section
variable {X : Cx} {st : Stmt} {rest : List Stmt} {t u : TS}
end
end L2

/-! exceptions over the layer: how one lies behind a call, how it leaves a frame -/
namespace L2
open PySem PySem.Spec PyProof.Rows
/-- an exception's object at a, of the class C, its last entry at T, out of flight, raised while none was handled -/
def Exc (h : Heap) (a T : Addr) (C : Value) : Prop :=
  ∃ oe vs oT ts, h.get? a = some oe ∧ oe.cls = C ∧ oe.data = .fields vs ∧ vs[1]? = some (.ref T) ∧ h.get? T = some oT ∧ oT.data = .fields ts ∧ ts[3]? = some .none ∧ T ≠ a ∧ vs[2]? = some .none
theorem Exc.ne_dict {h : Heap} {a T b : Addr} {C : Value} {o : Obj} (x : Exc h a T C) (e : h.get? b = some o) (d : ∀ vs, o.data ≠ .fields vs) : b ≠ a ∧ b ≠ T := by
  obtain ⟨oe, vs, oT, ts, p1, _, p3, _, p5, p6, _⟩ := x
  refine ⟨fun z => ?_, fun z => ?_⟩
  · rw [z, p1] at e; cases e; exact d _ p3
  · rw [z, p5] at e; cases e; exact d _ p6
section
variable {M : Model} {A : Around} {E : Value → Shared → Prop} {s : Shared} {env : Env} {outer : List Env} {L a T : Addr} {C : Value} {base h : Heap} {Q : Unit → Shared → Prop}
theorem setF {o : Obj} {vs : Array Value} {k : Nat} {x : Value} (ho : s.heap.get? a = some o) (hd : o.data = .fields vs) (hk : k < vs.size)
    (h : ∀ h', (∃ o', h'.get? a = some o' ∧ o'.cls = o.cls ∧ o'.data = .fields (vs.setIfInBounds k x)) → Heap.SameBut a s.heap h' → Q () { s with heap := h' }) : wpAny M A (setField (.ref a) k x) Q E s :=
  wpAny_setField ho hd hk (h _ ⟨_, Heap.get?_update_self _ ho (Obj.isFreed_of_fields (Obj.data_mapFields hd _)), Obj.cls_mapFields .., Obj.data_mapFields hd _⟩ (Heap.SameBut.update ..))
/-- the frame is written into the exception at a, whose entries so far are none or begin at T, and the flight is ended -/
theorem noteEnd {oe : Obj} {vs : Array Value} {T : Option Addr} (hfr : A.frames = some (env :: outer)) (hf : env.frame = some L) (hl : s.heap.FunFrames base (env :: outer)) (ha : s.heap.get? a = some oe) (hv : oe.data = .fields vs) (h1 : vs[1]? = some (T.elim .none .ref)) (h2 : vs[2]? = some .none)
    (hT : ∀ t, T = some t → t ≠ a ∧ ∃ oT ts, s.heap.get? t = some oT ∧ oT.data = .fields ts ∧ ts[3]? = some .none)
    (hQ : ∀ h' T', (∀ b o, s.heap.get? b = some o → b ∉ frs (env :: outer) → b ≠ a → T ≠ some b → h'.get? b = some o) → (∀ b o, s.heap.get? b = some o → b ∈ frs (env :: outer) → ∃ sl, h'.get? b = some { o with slots := sl }) →
      Exc h' a T' oe.cls → s.heap.get? T' = none → Q () { s with heap := h' }) : wpAny M A (noteFrame (.ref a) env) (fun _ s₂ => wpAny M A (setFlight (.ref a) none) Q E s₂) E s := by
  have nf : ∀ b o, s.heap.get? b = some o → (∃ ws, o.data = .fields ws) → b ∉ frs (env :: outer) := fun b o e ⟨ws, d⟩ hb => by
    obtain ⟨_, o', e', n⟩ := hl.mem hb
    rw [e] at e'; cases e'
    exact n ws d
  have sz : 2 < vs.size := (Array.getElem?_eq_some_iff.mp h2).1
  -- the new entry, once the old one is out of flight
  have entry : ∀ (head : Value) (nx : Bool) (h0 : Heap), (∀ b o, s.heap.get? b = some o → T ≠ some b → h0.get? b = some o) → (∀ b o, s.heap.get? b = some o → ∃ o', h0.get? b = some o') → h0.FunFrames base (env :: outer) →
      wpAny M A (do let f ← frameOf env; let pl ← entryPlaceOf L nx; let b ← EntryCells.newEntry head f .none (rawInt L) .none pl; setField (.ref a) 1 b) (fun _ s₂ => wpAny M A (setFlight (.ref a) none) Q E s₂) E { s with heap := h0 } := by
    intro head nx h0 k0 n0 hl0
    have a0 : h0.get? a = some oe := k0 a oe ha fun z => (hT a z).1 rfl
    refine wpAny_bind (wpAny_frameOf_fun hfr hl0 hf fun h₁ so => wpAny_bind (wpAny_entryPlaceOf fun pl hpl => ?_))
    unfold EntryCells.newEntry newFields
    refine wpAny_bind (wpAny_newObj_type ?_ (hpl.sizeOk5 _ _ _ _ _))
    generalize hob : ([head, Value.ref L, .none, rawInt L, .none] ++ (if pl.isEmpty then List.replicate 6 Value.none else pl)).toArray = ts
    have t3 : 3 < ts.size := by rw [← hob]; simp only [List.size_toArray, List.length_append, List.length_cons, List.length_nil]; omega
    have a1 : h₁.get? a = some oe := (so.2.1 a (nf a oe ha ⟨vs, hv⟩)).trans a0
    have ne : h₁.objs.size ≠ a := Nat.ne_of_gt (Heap.lt_size a1)
    refine setF (Heap.get?_push_of_some _ a1) hv (by omega) fun g2 ⟨o2, e2, c2, d2⟩ sb2 => ?_
    have eT : g2.get? h₁.objs.size = some _ := (sb2.2 _ ne).trans (Heap.get?_push_size h₁ rfl)
    unfold setFlight
    refine wpAny_bind (wpAny_field (x := .ref h₁.objs.size) e2 d2 (by simp [show 1 < vs.size by omega]) ?_)
    rw [if_pos (by simp)]
    refine setF eT rfl t3 fun h3 ⟨o3, e3, c3, d3⟩ sb3 => ?_
    have old : ∀ b o, h₁.get? b = some o → b ≠ a → h3.get? b = some o := fun b o e z => (sb3.2 b (Nat.ne_of_lt (Heap.lt_size e))).trans ((sb2.2 b z).trans (Heap.get?_push_of_some _ e))
    have fresh : s.heap.get? h₁.objs.size = none := by
      cases q : s.heap.get? h₁.objs.size with
      | none => rfl
      | some o =>
        exfalso
        obtain ⟨o', z⟩ := n0 _ o q
        obtain ⟨sl, y⟩ := so.2.2 _ _ z
        exact Nat.lt_irrefl _ (Heap.lt_size y)
    refine hQ h3 h₁.objs.size (fun b o e n na nt => old b o ((so.2.1 b n).trans (k0 b o e nt)) na) (fun b o e hb => ?_) ⟨o2, _, o3, _, (sb3.2 a (Ne.symm ne)).trans e2, c2, d2, by simp [show 1 < vs.size by omega], e3, d3, by simp [t3], ne, by rw [Array.getElem?_setIfInBounds_ne (by decide)]; exact h2⟩ fresh
    obtain ⟨_, o', e', n⟩ := hl.mem hb
    rw [e] at e'; cases e'
    obtain ⟨sl, y⟩ := so.2.2 b o (k0 b o e fun z => by obtain ⟨_, oT, ts, q, d, _⟩ := hT b z; rw [e] at q; cases q; exact n _ d)
    exact ⟨sl, old b _ y fun z => by rw [z, ha] at e; cases e; exact n _ hv⟩
  unfold noteFrame
  simp only [hf]
  refine wpAny_bind (wpAny_field ha hv h1 ?_)
  cases T with
  | none =>
    rw [if_neg (by decide)]
    exact entry _ _ s.heap (fun b o e _ => e) (fun b o e => ⟨o, e⟩) hl
  | some t =>
    obtain ⟨nt, oT, ts, eT, dT, f3⟩ := hT t rfl
    show wpAny M A (if (Value.ref t != Value.none) = true then _ else _) _ _ s
    rw [if_pos (by simp)]
    refine wpAny_bind (wpAny_field eT dT f3 ?_)
    rw [if_neg (by simp [rawInt])]
    refine wpAny_bind (setF eT dT (Array.getElem?_eq_some_iff.mp f3).1 fun h' ⟨o1, g1, _⟩ sb => ?_)
    refine entry _ _ h' (fun b o e n => (sb.2 b fun z => n (by rw [z])).trans e) (fun b o e => by
      by_cases z : b = t
      · exact ⟨o1, by rw [z]; exact g1⟩
      · exact ⟨o, (sb.2 b z).trans e⟩) (hl.of_keeps fun b o e n => ⟨o, (sb.2 b fun z => ?_).trans e, rfl⟩)
    rw [z, eT] at e; cases e
    exact n _ dT
/-- a new exception leaves the frame in which it was made -/
theorem leave_made {args : List Value} (hfr : A.frames = some (env :: outer)) (hf : env.frame = some L) (hl : h.FunFrames base (env :: outer)) (hx : Heap.MadeExcOf h s.heap a C args)
    (hQ : ∀ h' T, (∀ b o, h.get? b = some o → b ∉ frs (env :: outer) → h'.get? b = some o) → (∀ b o, h.get? b = some o → b ∈ frs (env :: outer) → ∃ sl, h'.get? b = some { o with slots := sl }) →
      Exc h' a T C → h.get? a = none → h.get? T = none → Q () { s with heap := h' }) : wpAny M A (leaving env (.ref a)) Q E s := by
  obtain ⟨t, ha, _⟩ := hx.there
  have was : ∀ b, s.heap.get? b = none → h.get? b = none := fun b e => by
    cases q : h.get? b with
    | none => rfl
    | some o => rw [hx.keeps b o q] at e; cases e
  exact wpAny_bind (noteEnd (T := none) hfr hf (hl.of_keeps fun b o e _ => ⟨o, hx.keeps b o e, rfl⟩) ha rfl rfl rfl (fun _ z => nomatch z) fun h' T' k1 k2 ex nT =>
    hQ h' T' (fun b o e n => k1 b o (hx.keeps b o e) n (fun z => by rw [z, hx.new] at e; cases e) (fun z => nomatch z)) (fun b o e hb => k2 b o (hx.keeps b o e) hb) ex hx.new (was _ nT))
/-- the exception is looked at by its handler: entered once more, its flight ended -/
theorem looked (hfr : A.frames = some (env :: outer)) (hf : env.frame = some L) (hl : s.heap.FunFrames base (env :: outer)) (hx : Exc s.heap a T C)
    (hQ : ∀ h' T', (∀ b o, s.heap.get? b = some o → b ∉ frs (env :: outer) → b ≠ a → b ≠ T → h'.get? b = some o) → (∀ b o, s.heap.get? b = some o → b ∈ frs (env :: outer) → ∃ sl, h'.get? b = some { o with slots := sl }) →
      Exc h' a T' C → (T' = T ∨ s.heap.get? T' = none) → Q () { s with heap := h' }) : wpAny M A (noteFrame (.ref a) env) (fun _ s₂ => wpAny M A (setFlight (.ref a) none) Q E s₂) E s := by
  obtain ⟨oe, vs, oT, ts, p1, rfl, p3, p4, p5, p6, p7, p8, p9⟩ := hx
  exact noteEnd (T := some T) hfr hf hl p1 p3 p4 p9 (fun t z => by cases z; exact ⟨p8, oT, ts, p5, p6, p7⟩) fun h' T' k1 k2 ex nT => hQ h' T' (fun b o e n na nt => k1 b o e n na fun z => nt (Option.some.inj z).symm) k2 ex (.inr nT)
/-- an exception leaves a frame that it only passes -/
theorem leave_on (hfr : A.frames = some (env :: outer)) (hf : env.frame = some L) (hl : s.heap.FunFrames base (env :: outer)) (hx : Exc s.heap a T C)
    (hQ : ∀ h' T', (∀ b o, s.heap.get? b = some o → b ∉ frs (env :: outer) → b ≠ a → b ≠ T → h'.get? b = some o) → (∀ b o, s.heap.get? b = some o → b ∈ frs (env :: outer) → ∃ sl, h'.get? b = some { o with slots := sl }) →
      Exc h' a T' C → (T' = T ∨ s.heap.get? T' = none) → Q () { s with heap := h' }) : wpAny M A (leaving env (.ref a)) Q E s := wpAny_bind (looked hfr hf hl hx hQ)
/-- the flight ended once more -/
theorem landed (hx : Exc s.heap a T C) (hQ : ∀ h', (∀ b o, s.heap.get? b = some o → b ≠ a → b ≠ T → h'.get? b = some o) → Exc h' a T C → Q () { s with heap := h' }) : wpAny M A (setFlight (.ref a) none) Q E s := by
  obtain ⟨oe, vs, oT, ts, p1, p2, p3, p4, p5, p6, p7, p8, p9⟩ := hx
  unfold setFlight
  refine wpAny_bind (wpAny_field p1 p3 p4 ?_)
  rw [if_pos (by simp)]
  have t3 := (Array.getElem?_eq_some_iff.mp p7).1
  refine setF p5 p6 t3 fun h' ⟨o', e', c', d'⟩ sb => hQ h' (fun b o e _ nt => (sb.2 b nt).trans e) ⟨oe, vs, o', _, (sb.2 a (Ne.symm p8)).trans p1, p2, p3, p4, e', d', by simp [t3], p8, p9⟩
end
end L2

/-! an exception behind a call, within the layer's promise of a def -/
namespace L2
open PySem PySem.Spec PyProof.Rows
def CX1 (P : Program) (w : World) : CXT := fun outer H s E e s' => ∃ (a T C : Addr) (H' : Hp), e = .ref a ∧ s'.os = s.os ∧ AllBare s'.gens ∧ Un (frs outer) [] H H' s.heap s'.heap ∧ HOk P w H' s'.heap ∧
  Exc s'.heap a T (.ref C) ∧ s.heap.get? a = none ∧ s.heap.get? T = none ∧ H' a = none ∧ H' T = none ∧ E (.ref C) none H'
section
variable {P : Program} {w : World} {K : PySem.W.Frag} {mg : Str → Option Value} {base : Heap} {N : List Str} {qual : Str} {scope : Scope} {f : Addr} {cd : Value} {A : Around} {outer : List Env} {s₀ s : Shared} {H₀ H : Hp} {E : XK} {CX : CXT} {pins : List (Addr × Obj)} {σ : L2.St}
theorem tracked_there {h : Heap} {b : Addr} {o : HO} (ok : HOk P w H h) (e : H b = some o) : ∃ ob, h.get? b = some ob := (ok b o e).there
theorem none_of_heap {h : Heap} {b : Addr} (ok : HOk P w H h) (e : h.get? b = none) : H b = none := by
  cases q : H b with
  | none => rfl
  | some o =>
    obtain ⟨ob, z⟩ := tracked_there ok q
    rw [e] at z
    cases z
/-- a frame left: all is kept but the frames' slots and what is the exception's -/
theorem step_left {a T : Addr} {h' : Heap} (I : Inv (cxOf CX P w K mg base N qual scope f cd A outer s₀ H₀ E) pins σ H s)
    (na : H a = none ∧ s₀.heap.get? a = none) (nT : H T = none ∧ s₀.heap.get? T = none)
    (keep : ∀ b o, s.heap.get? b = some o → b ∉ frs (cxOf CX P w K mg base N qual scope f cd A outer s₀ H₀ E).stack → b ≠ a → b ≠ T → h'.get? b = some o)
    (slot : ∀ b o, s.heap.get? b = some o → b ∈ frs (cxOf CX P w K mg base N qual scope f cd A outer s₀ H₀ E).stack → ∃ sl, h'.get? b = some { o with slots := sl }) :
    Un (frs outer) [] H₀ H s₀.heap h' ∧ HOk P w H h' := by
  have B : Un (frs outer) [] H₀ H s₀.heap s.heap := I.base
  have neL : ∀ b o, s₀.heap.get? b = some o → b ∉ frs outer → b ∉ frs (cxOf CX P w K mg base N qual scope f cd A outer s₀ H₀ E).stack := fun b o e nb hb => by
    rcases List.mem_cons.mp (I.stkSub b hb) with z | z
    · exact absurd (Nat.lt_of_lt_of_le (Heap.lt_size e) I.ok.above) (by rw [z]; exact Nat.lt_irrefl _)
    · exact nb z
  have nea : ∀ b o, s₀.heap.get? b = some o → b ≠ a ∧ b ≠ T := fun b o e => ⟨(fun z => by rw [z, na.2] at e; cases e), (fun z => by rw [z, nT.2] at e; cases e)⟩
  have any : ∀ b o, s.heap.get? b = some o → b ≠ a → b ≠ T → ∃ o', h'.get? b = some o' := fun b o e z1 z2 => by
    by_cases hb : b ∈ frs (cxOf CX P w K mg base N qual scope f cd A outer s₀ H₀ E).stack
    · obtain ⟨sl, q⟩ := slot b o e hb
      exact ⟨_, q⟩
    · exact ⟨o, keep b o e hb z1 z2⟩
  refine ⟨⟨fun b o e n hb hx => keep b o (B.keep b o e n hb hx) (neL b o e hb) (nea b o e).1 (nea b o e).2, fun b o e n hb hx => ?_, B.free, fun b o e hx => ?_, B.tups, B.frzs, B.tbls⟩, fun b u e => ?_⟩
  · obtain ⟨sl, q⟩ := B.slot b o e n hb hx
    obtain ⟨sl', q'⟩ := slot b _ q (by
      show b ∈ frs (envOfC qual scope s₀.heap.objs.size f cd :: outer)
      unfold frs
      rw [List.filterMap_cons]
      exact List.mem_cons_of_mem _ hb)
    exact ⟨sl', q'⟩
  · obtain ⟨o', q⟩ := B.there b o e hx
    exact any b o' q (nea b o e).1 (nea b o e).2
  · refine (I.hok b u e).stay (fun c v hc q => ?_) (fun _ q => q) fun _ _ q => q
    have hH : H c ≠ none := by
      rcases hc with rfl | z
      · rw [e]; exact fun z => nomatch z
      · rw [z]; exact fun z => nomatch z
    exact keep c v q (fun z => hH (I.stkFree c z)) (fun z => hH (by rw [z]; exact na.1)) (fun z => hH (by rw [z]; exact nT.1))
theorem old_none {b : Addr} (I : Inv (cxOf CX P w K mg base N qual scope f cd A outer s₀ H₀ E) pins σ H s) (e : s.heap.get? b = none) : s₀.heap.get? b = none := by
  cases q : s₀.heap.get? b with
  | none => rfl
  | some o =>
    obtain ⟨o', z⟩ := I.base.there b o q (fun y => nomatch y)
    rw [e] at z
    cases z
/-- what is made and raised here -/
theorem xe_made {a C : Addr} {args : List Value} {h' : Heap} {tk : Nat} (I : Inv (cxOf (CX1 P w) P w K mg base N qual scope f cd A outer s₀ H₀ E) pins σ H s) (hx : Heap.MadeExcOf s.heap h' a (.ref C) args) (hE : E (.ref C) none H) :
    (cxOf (CX1 P w) P w K mg base N qual scope f cd A outer s₀ H₀ E).xe (.ref a) { s with heap := h', toks := tk } := by
  refine leave_made (L := s₀.heap.objs.size) I.ok.frames rfl I.stack (s := { s with heap := h', toks := tk }) hx fun h2 T keep slot ex na nT => ?_
  obtain ⟨u, ok⟩ := step_left I ⟨none_of_heap I.hok na, old_none I na⟩ ⟨none_of_heap I.hok nT, old_none I nT⟩ (fun b o e n _ _ => keep b o e n) slot
  exact ⟨a, T, C, H, rfl, I.os, I.bare, u, ok, ex, old_none I na, old_none I nT, none_of_heap I.hok na, none_of_heap I.hok nT, hE⟩
/-- what a callee raised passes on -/
theorem pass1 : Passes (CX1 P w) (cxOf (CX1 P w) P w K mg base N qual scope f cd A outer s₀ H₀ E) E := by
  intro pins σ H s e s' I c
  obtain ⟨a, T, C, H', rfl, os, bare, un, ok, ex, na, nT, ha, hT, hE⟩ := c
  have I' : Inv (cxOf (CX1 P w) P w K mg base N qual scope f cd A outer s₀ H₀ E) pins σ H' s' := I.call' os un ok bare (fun b z => nomatch z)
  refine leave_on (L := s₀.heap.objs.size) I'.ok.frames rfl I'.stack ex fun h2 T' keep slot ex' oT => ?_
  obtain ⟨u, ok'⟩ := step_left I' ⟨ha, old_none I na⟩ ⟨hT, old_none I nT⟩ keep slot
  refine ⟨a, T', C, H', rfl, I'.os, I'.bare, u, ok', ex', old_none I na, ?_, ha, ?_, hE⟩
  · rcases oT with z | z
    · rw [z]; exact old_none I nT
    · exact old_none I' z
  · rcases oT with z | z
    · rw [z]; exact hT
    · exact none_of_heap I'.hok z
end
end L2

/-! raise C(..) of an own class -/
namespace L2
open PySem PySem.Spec PyProof.Rows
theorem exc_of {K : PySem.W.Frag} {C : Addr} {bmB : List Value} {newId : String} {h : Heap} (KI : K.In h) (hq : PySem.W.excIn K C bmB newId = true) :
    ∃ bm N nm qn bs hd sn sub ab col dd k0 k1 k2 k3 k5 mN, h.get? C = some (excClassObj nm qn C N bs bm hd sn sub ab col dd k0 k1 k2 k3 k5 newId) ∧ h.Ns N mN ∧ mN "__init__" = none ∧ OwnTail h bmB bm := by
  unfold PySem.W.excIn at hq
  split at hq
  · rename_i dd dat slots hob
    split at hq
    · rename_i C2 tail k0 k1 k2 k3 nid k5 hmro hsl
      simp only [Bool.and_eq_true, Bool.not_eq_true', beq_iff_eq] at hq
      obtain ⟨⟨⟨⟨⟨e1, e2⟩, e3⟩, e4⟩, e5⟩, e6⟩ := hq
      subst e1
      subst e2
      obtain ⟨nm, bs, mro, ns, qn, hd, sn, sub, ab, col, del⟩ := dat
      simp only at hmro e3 e5 e6
      subst hmro
      subst e3
      obtain ⟨sl⟩ := slots
      simp only at hsl
      subst hsl
      exact ⟨tail, ns, nm, qn, bs, hd, sn, sub, ab, col, dd, k0, k1, k2, k3, k5, _, KI _ _ hob, .of_isNs (PySem.W.isNs_of_in KI e5), PySem.W.nsMap_none_of_in KI e5 e6, PySem.W.tail_of_in KI e4⟩
    · exact nomatch hq
  · exact nomatch hq
def bmV : List Value := [.type "ValueError", .type "Exception", .type "BaseException", .type "object"]
def tRaise (C : Addr) (E : XK) (ta : TA) : TS := fun _ σ H => ta σ H fun vs H1 => vs.length ≤ sizeLine ∧ E (.ref C) none H1
section
variable {P : Program} {w : World} {K : PySem.W.Frag} {mg : Str → Option Value} {base : Heap} {N : List Str} {qual : Str} {scope : Scope} {f : Addr} {cd : Value} {A : Around} {outer : List Env} {s₀ : Shared} {H₀ : Hp} {E : XK}
theorem ps_raise {x : Str} {C : Addr} {e : Expr} {es : List Expr} {ta : TA} {np cpos pos : Pos} (hg : Gl (cxOf (CX1 P w) P w K mg base N qual scope f cd A outer s₀ H₀ E) x) (hm : mg x = some (.ref C)) (hc : PySem.W.excIn K C bmV "ValueError.__new__" = true)
    (ha : PA (cxOf (CX1 P w) P w K mg base N qual scope f cd A outer s₀ H₀ E) (e :: es) ta)
    (he : starEach (e :: es) (cxOf (CX1 P w) P w K mg base N qual scope f cd A outer s₀ H₀ E).env = (false, eval e (cxOf (CX1 P w) P w K mg base N qual scope f cd A outer s₀ H₀ E).env) :: starEach es (cxOf (CX1 P w) P w K mg base N qual scope f cd A outer s₀ H₀ E).env := by rfl)
    (hp : (backTo cpos (starEach es (cxOf (CX1 P w) P w K mg base N qual scope f cd A outer s₀ H₀ E).env)).any (·.1) = false := by rfl) (hd : (x == ("__debug__" : Str)) = false := by decide) :
    PS (cxOf (CX1 P w) P w K mg base N qual scope f cd A outer s₀ H₀ E) (.Raise (some (.Call (.Name x np) (e :: es) [] cpos)) none pos) (tRaise C E ta) := by
  intro pins s σ H D I h
  obtain ⟨bm, NN, nm, qn, bs, hdc, sn, sub, ab, col, dd, k0, k1, k2, k3, k5, mN, hC, hN, hni, T⟩ := exc_of I.mod.kin hc
  have hb : bmV.contains (.type "BaseException") = true := PySem.F.excBase_ValueError.hasBase
  refine wpAny_Raise_call_subT (C := C) (nm := nm) (q := qn) (N := NN) (bs := bs) (bm := bm) (bmB := bmV) (hdct := hdc) (sn := sn) (sub := sub) (ab := ab) (col := col) (dd := dd) (k0 := k0) (k1 := k1) (k2 := k2) (k3 := k3) (k5 := k5)
    (newId := "ValueError.__new__") PySem.F.excBase_ValueError (mN := mN) (T.hasType hb) (I.ok.hd rfl) (by rw [he]; show (false || (backTo cpos (starEach es _)).any (·.1)) = false; rw [hp]; rfl) hni (ld_glob I hg hm ⟨rfl, ?_⟩ hd)
  have hz := ha cpos pins s σ H _ I h
  rw [he] at hz ⊢
  refine Calls.evalArgs_plain (wpAny_mono hz (fun us s2 ⟨vs, H2, I2, rv, hl, hE⟩ => ?_) fun _ _ y => y)
  refine ⟨rfl, by rw [← rv.length]; exact hl, I2.bk _ _ hC, hN.keeps I2.bk, T.keeps I2.bk, fun h' a mk => ?_⟩
  exact xe_made (tk := s2.toks) I2 mk hE
end
end L2

/-! isinstance of an exception of an own class -/
namespace L2
open PySem PySem.Spec PyProof.Rows
structure XLook (M : Model) (h : Heap) (C : Addr) : Prop where
  ga : PySem.W.Looks M h (typeLookup (.ref C) "__getattribute__") (some (.builtin "BaseException.__getattribute__"))
  ca : PySem.W.Looks M h (typeLookup (.ref C) "__class__") (some (.builtin "object.__class__"))
  ob : PySem.W.Looks M h (isSubtype (.ref C) (.type "object")) true
  be : PySem.W.Looks M h (isSubtype (.ref C) (.type "BaseException")) true
  gn : PySem.W.Looks M h (typeLookup (.ref C) "__getattr__") none
section
variable {prog : Program} {w : World} {A : Around} {E : Value → Shared → Prop} {h : Heap} {g : Array GenState} {d : Drawn} {t : Nat} {os : OsState} {a C : Addr} {o : Obj}
theorem xc_get {R : Result → Shared → Prop} (L : XLook (model prog w) h C) (hx : h.get? a = some o) (hc : o.cls = .ref C) (hq : R (.ok (.ret (.ref C))) ⟨h, g, d, t, os⟩) :
    codeAny (model prog w) A (.call (.builtin "getset_descriptor.__get__") ⟨[.builtin "object.__class__", .ref a, .ref C], []⟩) R ⟨h, g, d, t, os⟩ := by
  have hT5 : (⟨h, g, d, t, os⟩ : Shared).TypeIs (.builtin "object.__class__") "getset_descriptor" := PySem.F.typeOf_object_class
  have Lo : PySem.W.Looks (model prog w) h (isSubtype (.ref C) (.type (".".intercalate ("object.__class__".cutAt '.').dropLast))) true := by
    rw [PySem.F.owner_object_class]; exact L.ob
  refine codeAny_call_builtin PySem.F.slot_gs_get.plain PySem.F.entry_gs_get (PySem.F.slot_gs_get.check _ _ _ _ _ _ _ _ hT5 (PySem.F.args_gs_get _ _ _) ?_)
  repeat (any_goals (first | assumption | (with_reducible refine wpAny_loadPart_at hx ?_; rw [hc]) | with_reducible refine Lo.at ?_ | wp_step))
  refine ⟨Code.quiet_builtin _ (by decide +kernel), codeAny_builtin PySem.F.entry_object_class ?_⟩
  repeat (any_goals (first | assumption | (with_reducible refine wpAny_loadPart_at hx ?_; rw [hc]) | wp_step))
theorem xc_entry {tk : Tok} {Q : Fin → Shared → Prop} (L : XLook (model prog w) h C) (hx : h.get? a = some o) (hc : o.cls = .ref C) (hq : Q (.done (.ret (.ref C))) ⟨h, g, d, t, os⟩) :
    wpAny (model prog w) A (Builtin.«object.__getattribute__» ⟨[.ref a, .str "__class__" tk], []⟩) Q E ⟨h, g, d, t, os⟩ := by
  have hT5 : (⟨h, g, d, t, os⟩ : Shared).TypeIs (.builtin "object.__class__") "getset_descriptor" := PySem.F.typeOf_object_class
  have f5 := PySem.F.typeOf_object_class
  have f6 := PySem.F.slot_gs_get.lookup
  have f7 := PySem.F.slot_gs_set.lookup
  have Lc := L.ca
  repeat (any_goals (first | assumption | (with_reducible refine wpAny_loadPart_at hx ?_; rw [hc]) | with_reducible refine Lc.at ?_ | wp_step))
  refine xc_get L hx hc ?_
  repeat (any_goals (first | assumption | wp_step))
theorem xc_check {M : Model} {nameV : Value} {Q : Unit → Shared → Prop} (L : XLook M h C) (hx : h.get? a = some o) (hc : o.cls = .ref C) (hq : Q () ⟨h, g, d, t, os⟩) :
    wpAny M A (checkBuiltinCall "BaseException.__getattribute__" ⟨[.ref a, nameV], []⟩) Q E ⟨h, g, d, t, os⟩ := by
  have kd : builtinKind "BaseException.__getattribute__" = some .slot := by decide +kernel
  have sp : splitId "BaseException.__getattribute__" = some ("BaseException", "__getattribute__") := by decide +kernel
  have ag := PySem.F.args_bexc_ga (.ref a) nameV
  have Lb := L.be
  simp only [checkBuiltinCall, kd, sp]
  refine wpAny_bind ?_
  unfold isInstance
  repeat (first | (with_reducible refine wpAny_loadPart_at hx ?_; rw [hc]) | with_reducible refine Lb.at ?_ | wp_step)
  exact hq
theorem xc_by {tk : Tok} {Q : Value → Shared → Prop} (L : XLook (model prog w) h C) (hx : h.get? a = some o) (hc : o.cls = .ref C) (hq : Q (.ref C) ⟨h, g, d, t, os⟩) :
    wpAny (model prog w) A (getAttrBy (.ref a) (.str "__class__" tk) false) Q E ⟨h, g, d, t, os⟩ := by
  have f3 := PySem.F.excAttr_ValueError.ga.bind (.ref a)
  have e2 : (Value.builtin "BaseException.__getattribute__" == Value.builtin "object.__getattribute__") = false := by decide +kernel
  have e1 : (onTheHeap (Value.ref C) && Value.builtin "BaseException.__getattribute__" == Value.builtin "object.__getattribute__") = false := by rw [e2]; rfl
  have Lg := L.ga
  have Ln := L.gn
  repeat (any_goals (first | assumption | (with_reducible refine wpAny_loadPart_at hx ?_; rw [hc]) | with_reducible refine Lg.at ?_ | with_reducible refine Ln.at ?_ | wp_step))
  refine codeAny_call_builtin PySem.F.excAttr_ValueError.ga.plain PySem.F.entry_bexc_ga (xc_check L hx hc (xc_entry L hx hc ?_))
  repeat (any_goals (first | assumption | wp_step))
theorem xc_attr {Q : Option Value → Shared → Prop} (L : XLook (model prog w) h C) (hx : h.get? a = some o) (hc : o.cls = .ref C) (hq : Q (some (.ref C)) ⟨h, g, d, t + 1, os⟩) :
    wpAny (model prog w) A (getAttr? (.ref a) "__class__") Q E ⟨h, g, d, t, os⟩ := by
  unfold getAttr? getAttrBy?
  repeat (any_goals (first | assumption | with_reducible apply xc_by L hx hc | wp_step))
theorem kitx_exc {K : PySem.W.Frag} {a C : Addr} (h1 : PySem.W.findIn K (.ref C) "__getattribute__" = some (some (.builtin "BaseException.__getattribute__"))) (h2 : PySem.W.findIn K (.ref C) "__getattr__" = some none)
    (h3 : PySem.W.findIn K (.ref C) "__class__" = some (some (.builtin "object.__class__"))) (h4 : PySem.W.mroIn K C (.type "object") = some true) (h5 : PySem.W.mroIn K C (.type "BaseException") = some true) (h6 : (PySem.W.clsIn K C).isSome = true) :
    PySem.W.KitX K (.ref a) (.ref C) (fun h => ∃ o, h.get? a = some o ∧ o.cls = .ref C) where
  ty := fun _ _ _ ⟨o, e, c⟩ => c ▸ (PySem.W.Looks.ld e).andThen .now
  it := fun _ _ KI _ => by
    obtain ⟨cd, z⟩ := Option.isSome_iff_exists.mp h6
    unfold PySem.W.clsIn at z
    split at z
    · rename_i ho
      intro A' Q' E' s' k q
      unfold isType loadHead
      refine wpAny_bind (wpAny_loadPart (k _ _ (KI _ _ ho)) (wpAny_pure ?_))
      exact q
    · exact nomatch z
  ne := fun h tp dd its n sl KI htp => by
    obtain ⟨cd, z⟩ := Option.isSome_iff_exists.mp h6
    refine Bool.eq_false_iff.mpr fun q => ?_
    have eq : C = tp := Value.ref.inj (beq_iff_eq.mp q)
    rw [← eq] at htp
    unfold PySem.W.clsIn at z
    split at z
    · rename_i ho
      have := (KI _ _ ho).symm.trans htp
      cases this
    · exact nomatch z
  ca := fun {prog w A E Q s} KI ⟨o, e, c⟩ k => by
    obtain ⟨hh, g, d, t, os⟩ := s
    exact xc_attr ⟨PySem.W.looks_findIn KI h1, PySem.W.looks_findIn KI h3, PySem.W.looks_mroIn KI h4, PySem.W.looks_mroIn KI h5, PySem.W.looks_findIn KI h2⟩ e c k
end
end L2

/-! try: body; except C as n: suite -/
namespace L2
open PySem PySem.Spec PyProof.Rows
section
variable {M : Model} {A : Around} {E : Value → Shared → Prop} {h : Heap} {g : Array GenState} {d : Drawn} {t : Nat} {os : OsState}
variable {nm q nmD qD : Str} {C N D ND : Addr} {bs bm bsD bmD : List Value} {hdct hdD : Bool} {sn snD : List Str} {sub subD : List Value} {ab abD : Bool} {col colD : Option Bool} {dd ddD : Option Addr} {k0 k1 k2 k3 k5 j0 j1 j2 j3 j5 : Option Value} {newId newD : String}
theorem match_own {e : Addr} {oe : Obj} {Q : Bool → Shared → Prop} (hD : h.get? D = some (excClassObj nmD qD D ND bsD bmD hdD snD subD abD colD ddD j0 j1 j2 j3 j5 newD)) (he : h.get? e = some oe) (hcls : oe.cls = .ref C)
    (hbD : bmD.contains (.type "BaseException") = true) (hsub : PySem.W.Looks M h (isSubtype (.ref C) (.ref D)) true) (hq : Q true ⟨h, g, d, t, os⟩) : wpAny M A (excMatches (.ref e) (.ref D)) Q E ⟨h, g, d, t, os⟩ := by
  have hcB : (Value.ref D :: bmD).contains (.type "BaseException") = true := by rw [List.contains_cons, hbD, Bool.or_true]
  have f := tc_notTuple
  unfold excMatches
  repeat (first | (with_reducible refine wpAny_loadPart_at he ?_; rw [hcls]) | with_reducible refine wpAny_loadPart_at hD ?_ | (with_reducible refine wpAny_isSubtype_exc hD ?_; rw [hcB]) | with_reducible refine hsub.at ?_ | wp_step)
  exact hq
end
abbrev Cx.nailed (X : Cx) (pins : List (Addr × Obj)) : Cx := { X with pn := X.pn ++ pins }
theorem Cx.Ok.nailed {X : Cx} (ok : X.Ok) (pins : List (Addr × Obj)) : (X.nailed pins).Ok :=
  ⟨ok.mod, ok.kind, ok.glob, ok.blt, ok.above, ok.inj, ok.has, ok.cab, ok.hd, ok.frames, ok.stk, ok.exf, ok.bs, ok.bsz, ok.noex, ok.exfs, ok.funs, ok.frf⟩
theorem Cx.Ok.unnailed {X : Cx} {pins : List (Addr × Obj)} (ok : (X.nailed pins).Ok) : X.Ok :=
  ⟨ok.mod, ok.kind, ok.glob, ok.blt, ok.above, ok.inj, ok.has, ok.cab, ok.hd, ok.frames, ok.stk, ok.exf, ok.bs, ok.bsz, ok.noex, ok.exfs, ok.funs, ok.frf⟩
section
variable {X : Cx} {pins ps : List (Addr × Obj)} {σ : L2.St} {H : Hp} {s : Shared}
theorem Inv.nail (I : Inv X pins σ H s) : Inv (X.nailed pins) [] σ H s := ⟨I.ok.nailed pins, I.os, I.bare, I.base, I.loc, I.cell, I.free, I.freeC, fun p hp => I.pin p (by simpa using hp), I.hok, I.len⟩
theorem Inv.unnail (I : Inv (X.nailed pins) ps σ H s) : Inv X pins σ H s := ⟨I.ok.unnailed, I.os, I.bare, I.base, I.loc, I.cell, I.free, I.freeC, fun p hp => I.pin p (List.mem_append_left _ hp), I.hok, I.len⟩
/-- all is kept but the running frames' slots and what is the exception's -/
theorem Inv.left {a T : Addr} {h' : Heap} (I : Inv X pins σ H s) (hex : X.ex = []) (na : H a = none ∧ X.s₀.heap.get? a = none) (nT : H T = none ∧ X.s₀.heap.get? T = none)
    (np : ∀ p ∈ X.pn ++ pins, p.1 ≠ a ∧ p.1 ≠ T) (xc : ∃ C, Exc s.heap a T C)
    (keep : ∀ b o, s.heap.get? b = some o → b ∉ frs X.stack → b ≠ a → b ≠ T → h'.get? b = some o) (slot : ∀ b o, s.heap.get? b = some o → b ∈ frs X.stack → ∃ sl, h'.get? b = some { o with slots := sl }) :
    Inv X pins σ H { s with heap := h' } := by
  obtain ⟨C0, xc⟩ := xc
  have up : ∀ b o, s.heap.get? b = some o → b ≠ a → b ≠ T → ∃ sl, h'.get? b = some { o with slots := sl } := fun b o e z1 z2 => by
    by_cases hb : b ∈ frs X.stack
    · exact slot b o e hb
    · exact ⟨o.slots, keep b o e hb z1 z2⟩
  have neL : ∀ b o, X.s₀.heap.get? b = some o → b ∉ X.fs → b ∉ frs X.stack := fun b o e nb hb => by
    rcases List.mem_cons.mp (I.stkSub b hb) with z | z
    · exact absurd (Nat.lt_of_lt_of_le (Heap.lt_size e) I.ok.above) (by rw [z]; exact Nat.lt_irrefl _)
    · exact nb z
  have nea : ∀ b o, X.s₀.heap.get? b = some o → b ≠ a ∧ b ≠ T := fun b o e => ⟨(fun z => by rw [z, na.2] at e; cases e), (fun z => by rw [z, nT.2] at e; cases e)⟩
  have cellK : ∀ c v, s.heap.IsCell c v → h'.IsCell c v := fun c v ⟨o, e, dt⟩ => by
    have n := xc.ne_dict e (fun vs z => by rw [dt] at z; cases z)
    obtain ⟨sl, e'⟩ := up c o e n.1 n.2
    exact ⟨_, e', dt⟩
  refine ⟨I.ok, I.os, I.bare, ⟨fun b o e n hb hx => ?_, fun b o e n hb hx => ?_, I.base.free, fun b o e hx => ?_, I.base.tups, I.base.frzs, I.base.tbls⟩, ?_, fun x c e => ?_, I.free, I.freeC, fun p hp => ?_, fun b u e => ?_, I.len⟩
  · exact keep b o (I.base.keep b o e n hb hx) (neL b o e hb) (nea b o e).1 (nea b o e).2
  · obtain ⟨sl, e1⟩ := I.base.slot b o e n hb hx
    obtain ⟨sl', e2⟩ := up b _ e1 (nea b o e).1 (nea b o e).2
    exact ⟨sl', e2⟩
  · obtain ⟨o', e1⟩ := I.base.there b o e hx
    obtain ⟨sl, e2⟩ := up b o' e1 (nea b o e).1 (nea b o e).2
    exact ⟨_, e2⟩
  · obtain ⟨m, ⟨o, es, ep, ho, hd, r⟩, hl⟩ := I.loc
    have n := xc.ne_dict ho (fun vs z => by rw [hd] at z; cases z)
    obtain ⟨sl, e'⟩ := up _ o ho n.1 n.2
    refine ⟨m, ⟨_, es, ep, e', hd, r⟩, fun i x v e1 e2 e3 => ?_⟩
    obtain ⟨u, rv, l⟩ := hl i x v e1 e2 e3
    refine ⟨u, rv, ?_⟩
    rcases l with l | ⟨k, c, e, z⟩
    · exact .inl l
    · exact .inr ⟨k, c, e, cellK c _ z⟩
  · obtain ⟨v, z⟩ := I.cell x c e
    exact ⟨v, cellK c v z⟩
  · obtain ⟨e, n, ne, nf, dd⟩ := I.pin p hp
    have nst : p.1 ∉ frs X.stack := fun hb => by
      rcases List.mem_cons.mp (I.stkSub _ hb) with z | z
      · exact ne z
      · exact nf z
    exact ⟨keep p.1 p.2 e nst (np p hp).1 (np p hp).2, n, ne, nf, dd⟩
  · refine (I.hok b u e).stay (fun c v hc q => ?_) (fun _ q => q) fun _ _ q => q
    have hH : H c ≠ none := by
      rcases hc with rfl | z
      · rw [e]; exact fun z => nomatch z
      · rw [z]; exact fun z => nomatch z
    exact keep c v q (fun z => hH (I.stkFree c z)) (fun z => hH (by rw [z]; exact na.1)) (fun z => hH (by rw [z]; exact nT.1))
end
end L2

/-! the rule for try -/
namespace L2
open PySem PySem.Spec PyProof.Rows
/-- what is wanted of an exception within a try's body -/
def xeT (X : Cx) (R : Addr → Hp → Prop) : Value → Shared → Prop := fun e s' => ∃ (a T C : Addr) (σ' : L2.St) (H' : Hp), e = .ref a ∧ Inv X [] σ' H' s' ∧ Exc s'.heap a T (.ref C) ∧ X.s₀.heap.get? a = none ∧ X.s₀.heap.get? T = none ∧
  H' a = none ∧ H' T = none ∧ (∀ p ∈ X.pn, p.1 ≠ a ∧ p.1 ≠ T) ∧ R C H'
abbrev ET (R : Addr → Hp → Prop) : XK := fun c _ H' => ∃ C, c = .ref C ∧ R C H'
section
variable {X : Cx} {pins : List (Addr × Obj)} {σ : L2.St} {H : Hp} {s : Shared} {R : Addr → Hp → Prop}
theorem passT (hex : X.ex = []) : Passes (CX1 X.prog X.w) (X.wish (xeT X R)) (ET R) := by
  intro pins σ H s e s' I c
  obtain ⟨a, T, C, H', rfl, os, bare, un, ok, ex, na, nT, ha, hT, C', hC, hR⟩ := c
  cases hC
  have I0 := I.unwish
  have I' : Inv X pins σ H' s' := I0.call' os un ok bare (fun b z => nomatch z)
  have old : ∀ b, s.heap.get? b = none → X.s₀.heap.get? b = none := fun b e => by
    cases q : X.s₀.heap.get? b with
    | none => rfl
    | some o =>
      obtain ⟨o', z⟩ := I0.base.there b o q (by rw [hex]; exact fun y => nomatch y)
      rw [e] at z
      cases z
  have pin : ∀ b, s.heap.get? b = none → ∀ p ∈ X.pn, p.1 ≠ b := fun b e p hp z => by
    have := (I0.pin p (List.mem_append_left _ hp)).1
    rw [z, e] at this
    cases this
  exact ⟨a, T, C, σ, H', rfl, I'.pins_of (fun p hp => nomatch hp), ex, old a na, old T nT, ha, hT, fun p hp => ⟨pin a na p hp, pin T nT p hp⟩, hR⟩
/-- within an except suite -/
abbrev Cx.suite (X : Cx) (pins : List (Addr × Obj)) (a : Addr) : Cx := { X with pn := X.pn ++ pins, A := X.A.mark (some (.ref a)), calm := false, xe := fun _ _ => False }
theorem Cx.Ok.suite {X : Cx} (ok : X.Ok) (pins : List (Addr × Obj)) (a : Addr) : (X.suite pins a).Ok :=
  ⟨ok.mod, ok.kind, ok.glob, ok.blt, ok.above, ok.inj, ok.has, ok.cab, (fun z => nomatch z), ok.frames, ok.stk, ok.exf, ok.bs, ok.bsz, ok.noex, ok.exfs, ok.funs, ok.frf⟩
theorem Inv.suite (I : Inv (X.nailed pins) [] σ H s) (ok : X.Ok) (a : Addr) : Inv (X.suite pins a) [] σ H s := ⟨ok.suite pins a, I.os, I.bare, I.base, I.loc, I.cell, I.free, I.freeC, I.pin, I.hok, I.len⟩
theorem Inv.unsuite {a : Addr} {ps : List (Addr × Obj)} (I : Inv (X.suite pins a) ps σ H s) (ok : X.Ok) : Inv X pins σ H s := ⟨ok, I.os, I.bare, I.base, I.loc, I.cell, I.free, I.freeC, fun p hp => I.pin p (List.mem_append_left _ hp), I.hok, I.len⟩
/-- what is tracked of a caught exception -/
def isX (a C : Addr) : Heap → Prop := fun h => ∃ o, h.get? a = some o ∧ o.cls = .ref C ∧ ∃ vs, o.data = .fields vs ∧ vs[2]? = some .none
/-- an untracked new object is tracked from now on -/
theorem Inv.track {a C : Addr} (I : Inv X pins σ H s) (ha : H a = none) (h0 : X.s₀.heap.get? a = none) (hL : a ≠ X.env.locals) (hc : ∀ x c, X.env.cells.lookup x = some c → c ≠ a) (hp : ∀ p ∈ X.pn ++ pins, p.1 ≠ a) (hx : isX a C s.heap) :
    Inv X pins σ (upd H a (.ext (isX a C))) s := by
  have new : ∀ b o, H b = some o → upd H a (.ext (isX a C)) b = some o := fun b o e => by rw [upd_ne (ne_of_none e ha)]; exact e
  refine ⟨I.ok, I.os, I.bare, ⟨I.base.keep, I.base.slot, fun b o e n hx => ?_, I.base.there, fun b xs e => new _ _ (I.base.tups b xs e), fun b o u e => new _ _ (I.base.frzs b o u e), fun b ps e => ?_⟩, I.loc, I.cell, ?_, fun x c e => ?_, fun p q => ?_, fun b u e => ?_, I.len⟩
  · have : b ≠ a := fun z => by rw [z, h0] at e; cases e
    rw [upd_ne this]
    exact I.base.free b o e n hx
  · obtain ⟨m, z⟩ := I.base.tbls b ps e
    exact ⟨m, new _ _ z⟩
  · rw [upd_ne hL.symm]; exact I.free
  · rw [upd_ne (hc x c e)]; exact I.freeC x c e
  · obtain ⟨e, n, r⟩ := I.pin p q
    exact ⟨e, by rw [upd_ne (hp p q)]; exact n, r⟩
  · by_cases z : b = a
    · subst z
      rw [upd_same] at e
      cases e
      obtain ⟨o, ho, hcl⟩ := hx
      exact ⟨⟨o, ho, hcl⟩, ⟨o, ho⟩, fun h1 h2 ⟨o1, q1, c1⟩ k => ⟨o1, k o1 q1, c1⟩⟩
    · rw [upd_ne z] at e
      exact (I.hok b u e).stay (fun _ _ _ q => q) (fun b' q => new _ _ q) fun b' xs q => new _ _ q
/-- the frame's map is another one, no name is known -/
theorem Inv.goes {h' : Heap} {m' : Str → Option Value} {tk : Nat} (I : Inv X pins σ H s) (ns : h'.Ns X.env.locals m') (hs : Heap.SameBut X.env.locals s.heap h') : Inv X pins (List.replicate X.N.length none) H { s with heap := h', toks := tk } := by
  have old : ∀ b o, X.s₀.heap.get? b = some o → b ≠ X.env.locals := fun b o e => Nat.ne_of_lt (Nat.lt_of_lt_of_le (Heap.lt_size e) I.ok.above)
  refine ⟨I.ok, I.os, I.bare, ⟨fun b o e n hb hx => (hs.2 b (old b o e)).trans (I.base.keep b o e n hb hx), fun b o e n hb hx => ?_, I.base.free, fun b o e hx => ?_, I.base.tups, I.base.frzs, I.base.tbls⟩, ⟨m', ns, fun i x v e1 e2 _ => ?_⟩, fun x c e => ?_, I.free, I.freeC, fun p hp => ?_, fun b u e => ?_, List.length_replicate⟩
  · obtain ⟨sl, q⟩ := I.base.slot b o e n hb hx
    exact ⟨sl, (hs.2 b (old b o e)).trans q⟩
  · obtain ⟨o', q⟩ := I.base.there b o e hx
    exact ⟨o', (hs.2 b (old b o e)).trans q⟩
  · rw [List.getElem?_replicate] at e2
    split at e2 <;> cases e2
  · obtain ⟨v, o, ho, hd⟩ := I.cell x c e
    exact ⟨v, o, (hs.2 c (I.cne x c e)).trans ho, hd⟩
  · obtain ⟨e, n, ne, r⟩ := I.pin p hp
    exact ⟨(hs.2 p.1 ne).trans e, n, ne, r⟩
  · refine (I.hok b u e).stay (fun c v hc q => (hs.2 c fun z => ?_).trans q) (fun _ q => q) fun _ _ q => q
    have : H c ≠ none := by
      rcases hc with rfl | y
      · rw [e]; exact fun z => nomatch z
      · rw [y]; exact fun z => nomatch z
    exact this (by rw [z]; exact I.free)
def tTry (n i : Nat) (R : Addr → Hp → Prop) (tb : TS) (th : Addr → TS) : TS := fun D σ H => tb D σ H ∧ ∀ (a C : Addr) (H' : Hp), R C H' → H' a = none →
  th a { nx := fun _ H2 => D.nx (List.replicate n none) H2, bk := fun _ H2 => D.bk (List.replicate n none) H2, ct := fun _ H2 => D.ct (List.replicate n none) H2, rt := D.rt } ((List.replicate n none).set i (some (.ref a))) (upd H' a (.ext (isX a C)))
theorem ps_try {body suite : List Stmt} {b₀ : Stmt} {i : Nat} {n cx : Str} {Dc : Addr} {tb : TS} {th : Addr → TS} {np hpos pos : Pos} {newId : String} (R : Addr → Hp → Prop) (hb : ∀ pins, PSs ((X.nailed pins).wish (xeT (X.nailed pins) R)) body tb) (hs : ∀ pins a, PSs (X.suite pins a) (b₀ :: suite) (th a))
    (hg : Gl X cx) (hm : X.mg cx = some (.ref Dc)) (hcD : PySem.W.excIn X.K Dc bmV newId = true) (hR : ∀ C H', R C H' → PySem.W.mroIn X.K C (.ref Dc) = some true) (hN : X.N.Nodup) (hi : X.N[i]? = some n) (hl : X.env.scope.names.lookup n = some .local)
    (hex : X.ex = [] := by rfl) (hst : X.stack = X.env :: X.outer := by rfl) (hfr : X.env.frame = some X.env.locals := by rfl) (hd : (cx == ("__debug__" : Str)) = false := by decide) :
    PS X (.Try body [.ExceptHandler (some (.Name cx np)) (some n) (b₀ :: suite) hpos] [] [] pos) (tTry X.N.length i R tb th) := by
  intro pins s σ H D I hw
  obtain ⟨hw1, hw2⟩ := hw
  refine wpAny_Try_except ?_
  refine wpAny_mono (hb pins [] s σ H D (I.nail.wish _) hw1) (fun f s1 q => ?_) (fun e s1 xe => ?_)
  · cases f with
    | next => obtain ⟨σ', H', I', d⟩ := q; exact wpAny_execs_nil ⟨σ', H', I'.unwish.unnail, d⟩
    | brk => obtain ⟨σ', H', I', d⟩ := q; exact ⟨σ', H', I'.unwish.unnail, d⟩
    | cont => obtain ⟨σ', H', I', d⟩ := q; exact ⟨σ', H', I'.unwish.unnail, d⟩
    | ret u => obtain ⟨v, σ', H', I', r, d⟩ := q; exact ⟨v, σ', H', I'.unwish.unnail, r, d⟩
  · obtain ⟨a, T, C, σ', H', rfl, I', ex, a0, T0, ha, hT, np', hR'⟩ := xe
    have ok : X.Ok := I.ok
    have np1 : ∀ p ∈ (X.nailed pins).pn ++ [], p.1 ≠ a ∧ p.1 ≠ T := fun p hp => np' p (by simpa using hp)
    refine looked (L := X.env.locals) (outer := X.outer) (base := X.base) (by rw [← hst]; exact ok.frames) hfr (by rw [← hst]; exact I'.stack) ex fun h2 T2 keep slot ex2 oT => ?_
    have I2 : Inv (X.nailed pins) [] σ' H' { s1 with heap := h2 } := I'.left hex ⟨ha, a0⟩ ⟨hT, T0⟩ np1 ⟨_, ex⟩ (by show ∀ b o, _ → b ∉ frs X.stack → _; rw [hst]; exact keep) (by show ∀ b o, _ → b ∈ frs X.stack → _; rw [hst]; exact slot)
    have old : ∀ {h : Heap} {σ'' : L2.St} {s2 : Shared}, Inv (X.nailed pins) [] σ'' H' s2 → ∀ b, s2.heap.get? b = none → H' b = none ∧ X.s₀.heap.get? b = none ∧ ∀ p ∈ (X.nailed pins).pn, p.1 ≠ b := fun J b e => by
      refine ⟨none_of_heap J.hok e, ?_, fun p hp z => ?_⟩
      · cases q : X.s₀.heap.get? b with
        | none => rfl
        | some o =>
          obtain ⟨o', z⟩ := J.base.there b o q (by show b ∉ X.ex; rw [hex]; exact fun y => nomatch y)
          rw [e] at z
          cases z
      · have := (J.pin p (List.mem_append_left _ hp)).1
        rw [z, e] at this
        cases this
    have T2f : H' T2 = none ∧ X.s₀.heap.get? T2 = none ∧ ∀ p ∈ (X.nailed pins).pn, p.1 ≠ T2 := by
      rcases oT with z | z
      · rw [z]; exact ⟨hT, T0, fun p hp => (np' p hp).2⟩
      · exact old (h := s1.heap) I' T2 z
    obtain ⟨bmD, ND, nmD, qnD, bsD, hdD, snD, subD, abD, colD, ddD, j0, j1, j2, j3, j5, mD, hD, hND, hniD, TD⟩ := exc_of I2.kIn hcD
    have hbD : bmD.contains (.type "BaseException") = true := TD.hasType PySem.F.excBase_ValueError.hasBase
    refine wpAny_handleBy_cons (codeAny_handlers_test ?_) (fun z => nomatch z)
    refine ld_glob (X := X.suite pins a) (I2.suite ok a) hg hm ?_ hd
    obtain ⟨oe, vs, oT', ts, x1, x2, x3⟩ := id ex2
    refine match_own hD x1 x2 hbD (PySem.W.looks_mroIn I2.kIn (hR C H' hR')) ?_
    refine codeAny_handlers_suite_as ?_
    refine landed (s := { s1 with heap := h2 }) ex2 fun h3 keep3 ex3 => ?_
    have np2 : ∀ p ∈ (X.nailed pins).pn ++ [], p.1 ≠ a ∧ p.1 ≠ T2 := fun p hp => ⟨(np1 p hp).1, T2f.2.2 p (by simpa using hp)⟩
    have I3 : Inv (X.nailed pins) [] σ' H' { s1 with heap := h3 } := I2.left hex ⟨ha, a0⟩ ⟨T2f.1, T2f.2.1⟩ np2 ⟨_, ex2⟩ (fun b o e _ z1 z2 => keep3 b o e z1 z2) (fun b o e hb => by
      obtain ⟨_, o', e', dd⟩ := I2.stack.mem hb
      rw [e] at e'
      cases e'
      have n := ex2.ne_dict e dd
      exact ⟨o.slots, keep3 b o e n.1 n.2⟩)
    have hx3 : isX a C h3 := by obtain ⟨oe, vs, oT, ts, y1, y2, y3, _, _, _, _, _, y9⟩ := ex3; exact ⟨oe, y1, y2, vs, y3, y9⟩
    have hL : a ≠ X.env.locals := by
      obtain ⟨m, ⟨o, es, ep, ho, hdt, _⟩, _⟩ := I3.loc
      exact fun z => (ex3.ne_dict ho (fun vs y => by rw [hdt] at y; cases y)).1 z.symm
    have hcl : ∀ x c, X.env.cells.lookup x = some c → c ≠ a := fun x c e => by
      obtain ⟨v, o, ho, hdt⟩ := I3.cell x c e
      exact (ex3.ne_dict ho (fun vs y => by rw [hdt] at y; cases y)).1
    have I4 : Inv (X.nailed pins) [] σ' (upd H' a (.ext (isX a C))) { s1 with heap := h3 } := I3.track ha a0 hL hcl (fun p hp => (np1 p hp).1) hx3
    have I5 : Inv (X.nailed pins) [] (List.replicate X.N.length none) (upd H' a (.ext (isX a C))) { s1 with heap := h3 } := I4.weak (by rw [List.length_replicate]; exact I4.len.symm) (fun k v z => by
      rw [List.getElem?_replicate] at z
      split at z <;> cases z)
    refine store_ok (X := X.suite pins a) (I5.suite ok a) hN hi (.inl hl) (show RelV (.ref a) (.ref a) from rfl) (fun s6 I6 => ?_) (.inr hl)
    refine wpAny_mono (hs pins a [] s6 _ _ _ I6 (hw2 a C H' hR' ha)) (fun f s7 q => ?_) (fun _ _ z => z.elim)
    have hcls : (X.env.scope.kind == .class || (X.env.scope.kind == .module && X.env.locals != X.env.globals)) = false := by rw [ok.kind]; rfl
    have fin : ∀ {σ7 : L2.St} {H7 : Hp}, Inv (X.suite pins a) [] σ7 H7 s7 → ∀ {Q : Shared → Prop}, (∀ s', Inv X pins (List.replicate X.N.length none) H7 s' → Q s') →
        wpAny (model X.prog X.w) X.A (do bindName X.env n .none; unbindBehindTheSuite X.env n hpos) (fun _ s' => Q s') X.xe s7 := fun {σ7 H7} J {Q} k => by
      obtain ⟨m, hn, _⟩ := (J.unsuite ok).loc
      exact wpAny_nameGoes hl hn hcls fun h5 m' ns sb => k _ ((J.unsuite ok).goes ns sb)
    cases f with
    | next => obtain ⟨σ7, H7, I7, dq⟩ := q; exact fin I7 fun s' J => ⟨_, H7, J, dq⟩
    | brk => obtain ⟨σ7, H7, I7, dq⟩ := q; exact fin I7 fun s' J => ⟨_, H7, J, dq⟩
    | cont => obtain ⟨σ7, H7, I7, dq⟩ := q; exact fin I7 fun s' J => ⟨_, H7, J, dq⟩
    | ret u => obtain ⟨v, σ7, H7, I7, r, dq⟩ := q; exact fin I7 fun s' J => ⟨v, _, H7, J, r, dq⟩
end
end L2

/-! defs that raise; calls of them; calls of other defs within an except suite; isinstance there -/
namespace L2
open PySem PySem.Spec PyProof.Rows
section
variable {P : Program} {w : World} {K : PySem.W.Frag} {mg : Str → Option Value} {base : Heap}
theorem Fun.okX {x qual : Str} {st : Stmt} {f : Addr} {fd : FuncData} {N ps : List Str} {k : Nat} {sp : Sp} (F : Fun K x qual st f fd) (S : FnScope N ps (defScope st)) (len : ∀ vs H Q E, sp vs H Q E → vs.length = ps.length)
    (hbody : ∀ (cdv : Value) (A : Around) (outer : List Env) (s : Shared) (H : Hp) (vs : List V) (Q : VK) (E : XK), Room k (A.deeper (envOfC qual (defScope st) s.heap.objs.size f cdv)) → sp vs H Q E →
      ∃ t, PSs (cxOf (CX1 P w) P w K mg base N qual (defScope st) f cdv A outer s H E) (defBody st) t ∧ t { nx := fun _ H' => Q .non H', rt := Q } (start N vs) H) : FnOk P w K mg base (CX1 P w) (k + 1) f fd ps sp := by
  obtain ⟨oc, od, kV, doc, pm, an, cdv, ct, osl, rfl, lk, hcd⟩ := F.ex
  exact fn_of lk hcd S len fun A outer s H vs Q E hr hsp => hbody cdv A outer s H vs Q E hr hsp
def HasX (P : Program) (w : World) (K : PySem.W.Frag) (mg : Str → Option Value) (base : Heap) (k : Nat) (x : Str) (ps : List Str) (sp : Sp) : Prop :=
  ∃ (f : Addr) (fd : FuncData), FnOk P w K mg base (CX1 P w) k f fd ps sp ∧ mg x = some (.ref f) ∧ PySem.W.keepIn K (.ref f) = true ∧ Binds K fd ps []
theorem pe_hasX {X : Cx} {k : Nat} {x : Str} {ps : List Str} {sp : Sp} {p pos : Pos} {e : Expr} {es : List Expr} {t : TA} {E : XK} (h : HasX X.prog X.w X.K X.mg X.base k x ps sp) (hr : Room k X.A) (hx : Passes (CX1 X.prog X.w) X E) (ha : PA X (e :: es) t) (hg : Gl X x := by rfl) (hdb : (x == ("__debug__" : Str)) = false := by decide)
    (he : starEach (e :: es) X.env = (false, eval e X.env) :: starEach es X.env := by rfl) (hpl : (backTo pos (starEach es X.env)).any (·.1) = false := by rfl) : PE X (.Call (.Name x p) (e :: es) [] pos) (tCall sp [] E t) := by
  obtain ⟨f, fd, G, hm, hk, hb⟩ := h
  exact pe_call G hr hg hm hk hb .nil hx ha hdb he hpl
structure RoomS (k : Nat) (A : Around) : Prop where
  dp : A.depth + 3 * k + 5 < recursionLimit
  un : A.units + 16 * k + 200 < cLine
theorem Room.suite {k : Nat} {A : Around} (r : Room k A) (v : Option Value) : RoomS k (A.mark v) := ⟨r.dp, r.un⟩
/-- a def that may be called within an except suite, too -/
structure FnOkS (P : Program) (w : World) (K : PySem.W.Frag) (mg : Str → Option Value) (base : Heap) (k : Nat) (f : Addr) (fd : FuncData) (ps : List Str) (sp : Sp) : Prop where
  len : ∀ vs H Q E, sp vs H Q E → vs.length = ps.length
  run : ∀ (A : Around) (outer : List Env) (s : Shared) (H : Hp) (args : Args) (us : List Value) (vs : List V) (Q : VK), RoomS k A → Env0 P w K mg base A outer s H → BindsTo s fd args (ps.zip us) → Vals vs us → sp vs H Q E0 →
    codeAny (model P w) A (.call (.ref f) args) (CR CX0 outer P w H s Q E0) s
abbrev cxS (P : Program) (w : World) (K : PySem.W.Frag) (mg : Str → Option Value) (base : Heap) (N : List Str) (qual : Str) (scope : Scope) (f : Addr) (cd : Value) (A : Around) (outer : List Env) (s : Shared) (H : Hp) : Cx :=
  { cxOf CX0 P w K mg base N qual scope f cd A outer s H E0 with calm := false, xe := fun _ _ => False }
end
end L2

/-! isinstance(an exception, a class) -/
namespace L2
open PySem PySem.Spec PyProof.Rows
structure XCls (K : PySem.W.Frag) (C : Addr) : Prop where
  ga : PySem.W.findIn K (.ref C) "__getattribute__" = some (some (.builtin "BaseException.__getattribute__"))
  gn : PySem.W.findIn K (.ref C) "__getattr__" = some none
  ca : PySem.W.findIn K (.ref C) "__class__" = some (some (.builtin "object.__class__"))
  ob : PySem.W.mroIn K C (.type "object") = some true
  be : PySem.W.mroIn K C (.type "BaseException") = some true
  cl : (PySem.W.clsIn K C).isSome = true
def rIsX (K : PySem.W.Frag) : List V → Hp → VK → Prop := fun xs H Q => ∃ (a C : Addr) (y : V) (b : Bool), xs = [.ref a, y] ∧ H a = some (.ext (isX a C)) ∧ XCls K C ∧
  ((∃ D, y = .ref D ∧ PySem.W.kitOne K (.ref C) (.ref D) = some b) ∨ (∃ T, y = .ty T ∧ PySem.W.kitOne K (.ref C) (.type T) = some b)) ∧ Q (.bl b) H
theorem call_isX {X : Cx} {K : PySem.W.Frag} (h : X.K = K) : CallR X (.builtin "isinstance") (rIsX K) := by
  subst h
  intro pins s σ H vs us Q I rv hq
  obtain ⟨a, C, y, b, rfl, ha, xc, hy, q⟩ := hq
  cases rv with
  | cons r1 rv =>
    cases rv with
    | cons r2 rv =>
      cases rv
      cases r1
      have hx : ∃ o, s.heap.get? a = some o ∧ o.cls = .ref C := let ⟨o, e, c, _⟩ := (show isX a C s.heap from (I.hok a _ ha).1); ⟨o, e, c⟩
      rcases hy with ⟨D, rfl, hk⟩ | ⟨T, rfl, hk⟩
      · cases r2
        exact PySem.W.kia_one (kitx_exc xc.ga xc.gn xc.ca xc.ob xc.be xc.cl) I.kIn hx hk (fun z => nomatch z) fun tk => ⟨.bl b, H, I.tok _, rfl, q⟩
      · cases r2
        exact PySem.W.kia_one (kitx_exc xc.ga xc.gn xc.ca xc.ob xc.be xc.cl) I.kIn hx hk (fun z => nomatch z) fun tk => ⟨.bl b, H, I.tok _, rfl, q⟩
end L2

namespace L2
open PySem PySem.Spec PyProof.Rows

end L2

/-! range(a, b, 2) and zip walked by for -/
namespace L2
open PySem PySem.Spec PyProof.Rows
section
variable {X : Cx} {tg : Expr}
theorem fits_small {i : Int} (h0 : -1 ≤ i) (h1 : i < 1000000) : Builtin.Range.rangeFitsLong i = true := by
  unfold Builtin.Range.rangeFitsLong
  rw [Bool.and_eq_true]
  exact ⟨decide_eq_true (by omega), decide_eq_true (by omega)⟩
end
theorem for_zip {K : PySem.W.Frag} {a b : Addr} {xs ys : List V} {g : TG} {tb : TS} {D : Ends} {σ : L2.St} {H : Hp} (hl : xs.length = ys.length) (Pv : Nat → L2.St → Hp → Prop) (h0 : Pv 0 σ H) (hS : ∀ i σ H, Pv i σ H → SqL K H a xs ∧ SqL K H b ys)
    (hs : ∀ i x y p σ H, xs[i]? = some x → ys[i]? = some y → Pv i σ H → H p = none → g (.ref p) σ (upd H p (.tup [x, y])) fun σ2 H2 => tb { D with nx := Pv (i + 1), ct := Pv (i + 1), bk := D.nx } σ2 H2) (hd : ∀ σ H, Pv xs.length σ H → D.nx σ H) :
    ∃ W : Nat → Nat → L2.St → Hp → Prop, (∃ m, W 0 m σ H) ∧ ∀ i m σ H, W i m σ H →
      ((Itz K a b).stop i H ∧ D.nx σ H) ∨ ((Itz K a b).go i H ∧ ∃ N : L2.St → Hp → Prop, (∀ σ' H', N σ' H' → ∃ m', m' < m ∧ W (i + 1) m' σ' H') ∧ ∀ x H', (Itz K a b).yld i H x H' → g x σ H' fun σ2 H2 => tb { D with nx := N, ct := N, bk := D.nx } σ2 H2) := by
  refine ⟨fun i m σ H => m = xs.length - i ∧ i ≤ xs.length ∧ Pv i σ H, ⟨xs.length, by simp, Nat.zero_le _, h0⟩, ?_⟩
  rintro i m σ H ⟨rfl, hi, p⟩
  obtain ⟨s1, s2⟩ := hS i σ H p
  by_cases hlt : i < xs.length
  · refine .inr ⟨⟨xs, ys, xs[i], ys[i]'(by omega), s1, s2, by simp [hlt], by simp [show i < ys.length by omega]⟩, Pv (i + 1), fun σ' H' p' => ⟨xs.length - (i + 1), by omega, rfl, hlt, p'⟩, fun x H' y => ?_⟩
    obtain ⟨q, u, v, e1, e2, e3, y1, y2⟩ := y
    subst e1 e3
    exact hs i u v q σ _ (y1 xs s1) (y2 ys s2) p e2
  · exact .inl ⟨⟨xs, ys, s1, s2, .inl (by omega)⟩, hd σ H ((show i = xs.length by omega) ▸ p)⟩
end L2

/-! == of two lists of ints, alike or not; != of what is plain or alike; list.index -/
namespace L2
open PySem PySem.Spec PyProof.Rows PyProof.V
section
variable {X : Cx}
def rIndex (K : PySem.W.Frag) : V → List V → Hp → VK → Prop := fun x vs H Q => ∃ (l : Addr) (xs : List V) (y : V) (j : Nat), x = .ref l ∧ vs = [y] ∧ SqL K H l xs ∧ flatV y = true ∧ xs.all flatV = true ∧ j < 1000 ∧ (∃ z, xs[j]? = some z ∧ eqV z y = true) ∧ (∀ i z, i < j → xs[i]? = some z → eqV z y = false) ∧ Q (.int j) H
theorem mt_index : MtM X "list.index" (rIndex X.K) := by
  intro pins s σ H x vs v us Q I rx rv h
  obtain ⟨l, xs, y, j, rfl, rfl, hq, fy, fx, j1, ⟨z, hz, ez⟩, no, q⟩ := h
  cases rx
  obtain ⟨u, rfl, ru⟩ := rv.one
  obtain ⟨its, r, pl, hsz⟩ := I.list hq
  obtain ⟨⟨c, dd, dt, sl⟩, ho, hc, n, hd⟩ := pl.isList
  simp only at hc hd
  subst hc hd
  have lr := r.length
  have val : ∀ i w (hi : i < its.toArray.size), xs[i]? = some w → eqU y its.toArray[i] = eqV w y := fun i w hi e => by
    obtain ⟨u', e', rw'⟩ := r.get e
    have hi' : i < its.length := by simpa using hi
    have e2 : its[i]? = some its[i] := by simp [hi']
    rw [e2] at e'
    have e3 : its.toArray[i] = u' := by simpa using Option.some.inj e'
    rw [e3]
    exact eqU_of rw' (List.all_eq_true.mp fx w (List.mem_of_getElem? e))
  have hj : j < its.toArray.size := by
    have := (List.getElem?_eq_some_iff.mp hz).1
    simp only [List.size_toArray]
    omega
  refine call_meets F.slot_list_index ⟨_, ho, rfl⟩ F.entry_list_index (F.args_list_index_2 _ _) (SeqAt.list_indexAt l its.toArray n dd sl u (eqU y) j hj (by omega) ?_ ?_) ⟨ho, fun w hw => mem_eqAt ru fy r fx w (by simpa using hw), ?_⟩
  · rw [val j z hj hz]; exact ez
  · intro m hm hmj
    have hx : xs[m]? = some (xs[m]'(by simp only [List.size_toArray] at hm; omega)) := by simp
    rw [val m _ hm hx]
    exact no m _ hmj hx
  · exact ⟨.int j, H, I.tok _, ⟨_, rfl⟩, q⟩
theorem mt_indexK {K : PySem.W.Frag} (h : X.K = K) : MtM X "list.index" (rIndex K) := h ▸ mt_index
end
end L2

/-! Sets of some of 0, 1, 2, 3: set(a list of such), sorted(such a set). -/
namespace L2
open PySem PySem.Spec PyProof.Rows
def sub4 (b : Nat → Bool) : List Nat := (bif b 0 then [0] else []) ++ ((bif b 1 then [1] else []) ++ ((bif b 2 then [2] else []) ++ (bif b 3 then [3] else [])))
def tab4 (b : Nat → Bool) (led : Bool) (f m : Nat) : SetTable := { mask := 7, place := (sub4 b).toArray, dummies := #[], finger := f, led := led, moves := m, plain := true }
end L2

namespace L2
open PySem PySem.Spec PyProof.Rows
def EK : Int × Value → Nat → Prop := fun e k => e.1 = hashInt (k : Int) ∧ ∃ t, e.2 = .int (k : Int) t
/-- at a stands the set of those of 0, 1, 2, 3 that b tells, which only grew -/
def SO (w : World) (a : Addr) (b : Nat → Bool) (ep : Nat) (es : Array (Int × Value)) (h : Heap) : Prop :=
  ∃ o led f m, h.get? a = some o ∧ o.ExactSet ∧ o.data = .set es ep (tab4 b led f m) ∧ (w.params.followText "set-order" = true ∨ led = true) ∧ Paired EK es.toList (sub4 b)
section
variable {prog : Program} {w : World} {A : Around} {E : Value → Shared → Prop} {s : Shared} {a : Addr} {b : Nat → Bool} {ep : Nat} {es : Array (Int × Value)}
section
variable {R : Result → Shared → Prop} {I : Addr} {fp wr : List Addr} {G : Array GenState → Array GenState → Prop} {n : Nat} {P : Nat → Value → Prop} {St : Nat → Shared → Prop}
end
end
end L2

namespace L2
open PySem PySem.Spec PyProof.Rows
section
variable {prog : Program} {w : World} {A : Around} {E : Value → Shared → Prop} {s : Shared} {a it : Addr} {b : Nat → Bool} {ep i : Nat} {es : Array (Int × Value)}
end
end L2

namespace L2
open PySem PySem.Spec PyProof.Rows
section
variable {prog : Program} {w : World} {A : Around} {E : Value → Shared → Prop} {s : Shared} {a it : Addr} {b : Nat → Bool} {ep i : Nat} {es : Array (Int × Value)}
end
end L2

namespace L2
open PySem PySem.Spec PyProof.Rows
/-- a set of those of 0, 1, 2, 3 -/
def SetO (w : World) (a : Addr) (ks : List Nat) : HO := .ext fun h => ∃ b ep es, sub4 b = ks ∧ SO w a b ep es h
section
variable {X : Cx}
end
end L2

namespace L2
open PySem PySem.Spec PyProof.Rows
end L2

/-! list.sort of any length: galloping -/
namespace L2
open PySem PySem.Spec PyProof.Rows
/-- a weak order -/
structure Wo (lt : Keyed → Keyed → Bool) : Prop where
  irr : ∀ p, lt p p = false
  asym : ∀ p q, lt p q = true → lt q p = false
  neg : ∀ p q r, lt p r = true → lt p q = true ∨ lt q r = true
/-- a comparison that answers by lt for the things of D, and changes nothing -/
structure Cmp (prog : Program) (w : World) (A : Around) (E : Value → Shared → Prop) (s : Shared) (kd : SortKind) (D : Keyed → Prop) (lt : Keyed → Keyed → Bool) : Prop where
  cmp : ∀ (p q : Keyed) (st : SortSt) (Q : Option Bool → SortSt → Prop), D p → D q → kindOf st = kd → Q (some (lt p q)) st → wpS (model prog w) A E s (lt' p q) Q st
  wo : Wo lt
section
variable {prog : Program} {w : World} {A : Around} {E : Value → Shared → Prop} {s : Shared} {kd : SortKind} {D : Keyed → Prop} {lt : Keyed → Keyed → Bool}
end
end L2

/-! list.sort of any length: merging -/
namespace L2
open PySem PySem.Spec PyProof.Rows
section
variable {prog : Program} {w : World} {A : Around} {E : Value → Shared → Prop} {s : Shared} {kd : SortKind} {D : Keyed → Prop} {lt : Keyed → Keyed → Bool}
def Srt (lt : Keyed → Keyed → Bool) (l : List Keyed) : Prop := l.Pairwise fun p q => lt q p = false
/-- merged so far: out; a from ia on and b from ib on are left -/
structure Mg (lt : Keyed → Keyed → Bool) (a b out : List Keyed) (ia ib : Nat) : Prop where
  srt : Srt lt out
  pm : (out ++ (a.drop ia ++ b.drop ib)).Perm (a ++ b)
  le : ∀ p ∈ out, ∀ q ∈ a.drop ia ++ b.drop ib, lt q p = false
end
end L2

namespace L2
open PySem PySem.Spec PyProof.Rows
section
variable {prog : Program} {w : World} {A : Around} {E : Value → Shared → Prop} {s : Shared} {kd : SortKind} {D : Keyed → Prop} {lt : Keyed → Keyed → Bool}
section
variable {β : Type} {st : SortSt} {Q : β → SortSt → Prop} {M : Model}
end
end
end L2

namespace L2
open PySem PySem.Spec PyProof.Rows
section
variable {prog : Program} {w : World} {A : Around} {E : Value → Shared → Prop} {s : Shared} {kd : SortKind} {D : Keyed → Prop} {lt : Keyed → Keyed → Bool}
end
end L2

namespace L2
open PySem PySem.Spec PyProof.Rows
section
variable {prog : Program} {w : World} {A : Around} {E : Value → Shared → Prop} {s : Shared} {kd : SortKind} {D : Keyed → Prop} {lt : Keyed → Keyed → Bool}
end
end L2

/-! list.sort of any length: runs counted, things put in -/
namespace L2
open PySem PySem.Spec PyProof.Rows
section
variable {prog : Program} {w : World} {A : Around} {E : Value → Shared → Prop} {s : Shared} {kd : SortKind} {D : Keyed → Prop} {lt : Keyed → Keyed → Bool}
/-- a state alike but for the order of what stands from lo on, n things -/
structure Kp (lo n : Nat) (st st' : SortSt) : Prop where
  kind : kindOf st' = kindOf st
  pend : pendingOf st' = pendingOf st
  fail : failedOf st' = failedOf st
  perm : (arrOf st').toList.Perm (arrOf st).toList
  out : ∀ i, i < lo ∨ lo + n ≤ i → (arrOf st')[i]? = (arrOf st)[i]?
end
end L2

namespace L2
open PySem PySem.Spec PyProof.Rows
section
variable {prog : Program} {w : World} {A : Around} {E : Value → Shared → Prop} {s : Shared} {kd : SortKind} {D : Keyed → Prop} {lt : Keyed → Keyed → Bool}
/-- the runs that are waiting to be merged -/
def PendOk (p : List (Nat × Nat × Nat)) (rs : List (List Keyed)) : Prop := p.length = rs.length ∧ ∀ i r, rs[i]? = some r → ∃ pw, p[i]? = some ((rs.take i).flatten.length, r.length, pw)
end
end L2

namespace L2
open PySem PySem.Spec PyProof.Rows
section
variable {prog : Program} {w : World} {A : Around} {E : Value → Shared → Prop} {s : Shared} {kd : SortKind} {D : Keyed → Prop} {lt : Keyed → Keyed → Bool}
/-- runs waiting, behind which S stands -/
structure Rn (lt : Keyed → Keyed → Bool) (kd : SortKind) (l₀ : List Keyed) (rs : List (List Keyed)) (S : List Keyed) (st : SortSt) : Prop where
  arr : (arrOf st).toList = rs.flatten ++ S
  srt : ∀ r ∈ rs, Srt lt r ∧ 0 < r.length
  pend : PendOk (pendingOf st).toList rs
  perm : (arrOf st).toList.Perm l₀
  kind : kindOf st = kd
  fail : failedOf st = none
end
end L2

/-! tuples of ints, one less than another -/
namespace L2
open PySem PySem.Spec PyProof.Rows
def lexLt : List Int → List Int → Bool
  | [], [] => false
  | [], _ :: _ => true
  | _ :: _, [] => false
  | a :: as, b :: bs => if a = b then lexLt as bs else decide (a < b)
open PySem.SeqAt AutoSeq1 in
section
variable {prog : Program} {w : World} {A : Around} {E : Value → Shared → Prop} {s : Shared} {a b : Addr} {xs ys : List Int}
end
end L2

/-! list.sort and sorted of tuples of ints, however many -/
namespace L2
open PySem PySem.Spec PyProof.Rows
section
variable {prog : Program} {w : World} {A : Around} {E : Value → Shared → Prop} {s : Shared} {a b : Addr} {xs ys : List Int}
end
end L2

namespace L2
open PySem PySem.Spec PyProof.Rows
section
variable {prog : Program} {w : World} {K : Type} [DecidableEq K] {knd : HeapKind prog w K} {A : Around} {E : Value → Shared → Prop} {s : Shared}
end
section
variable {X : Cx} {pins : List (Addr × Obj)} {σ : St} {H : Hp} {s : Shared} {a b : Addr} {kvs : List (List Key × V)} {k : List Key} {A : Around} {E : Value → Shared → Prop}
end
end L2

namespace L2
open PySem PySem.Spec PyProof.Rows
/-! a dict's keys, walked, whatever they are -/
section
variable {prog : Program} {w : World} {A : Around} {E : Value → Shared → Prop} {s : Shared} {d it : Addr} {es : Array DictEntry} {ep i : Nat}
theorem raise_stop {α : Type} {Q : α → Shared → Prop} (hh : A.handled = none) (h : ∀ h' a, (∀ b o, s.heap.get? b = some o → h'.get? b = some o) → Shared.TypeIs { s with heap := h' } (.ref a) "StopIteration" → E (.ref a) { s with heap := h' }) :
    wpAny (model prog w) A ((newExc (.type "StopIteration") [] >>= raiseNew : Sem α)) Q E s := by
  wp_walk using wpAny_newObj_type, wpAny_raiseNew_none hh
  · exact h _ _ (fun b o e => Heap.get?_push_of_some _ (Heap.get?_push_of_some _ e)) ⟨_, Heap.get?_push_size _ rfl, rfl⟩
  all_goals size_fits
end
/-! words -/
section
variable {X : Cx} {pins : List (Addr × Obj)} {σ : St} {H : Hp} {s : Shared}
end
section
variable {prog : Program} {w : World} {A : Around} {E : Value → Shared → Prop} {s : Shared}
end
section
variable {X : Cx}
end
end L2

namespace L2
open PySem PySem.Spec PyProof.Rows
section
variable {prog : Program} {w : World} {A : Around} {E : Value → Shared → Prop} {s : Shared} {h₀ : Heap} {L D : Addr} {m : Str → Option Value} {news : List (Addr × Obj)} {n : Nat} {vs : List Value} {Q : Value → Shared → Prop}
end
section
variable {X : Cx}
end
end L2

namespace L2
open PySem PySem.Spec PyProof.Rows PyProof.V
section
variable {X : Cx}
theorem call_range1 : CallR X (.type "range") (fun xs H Q => ∃ j : Int, xs = [.int j] ∧ ∀ p, H p = none → Q (.ref p) (upd H p (.rng 0 j))) := by
  intro pins s σ H xs us Q I r h
  obtain ⟨j, rfl, q⟩ := h
  obtain ⟨u, rfl, ru⟩ := r.one
  obtain ⟨t, rfl⟩ := ru
  refine call_range_1 ⟨.ref s.heap.objs.size, _, I.laid (a := s.heap.objs.size) (o := .rng 0 j) (t' := s.toks + 1 + 1) (fun _ _ q => Heap.get?_push_of_some _ q) (Nat.le_refl _) ⟨s.toks, t, s.toks + 1, Heap.get?_push_size _ rfl⟩, rfl, q _ (I.hok.fresh (Nat.le_refl _))⟩
def upI (n : Nat) : List Int := (List.range n).map fun (k : Nat) => (k : Int)
theorem call_listR (hc : X.calm = true) : CallR X (.type "list") (fun xs H Q => ∃ (p : Addr) (n : Nat), xs = [.ref p] ∧ H p = some (.rng 0 n) ∧ n ≤ 1000 ∧ ∀ l, H l = none → Q (.ref l) (upd H l (.lst ((upI n).map V.int)))) := by
  intro pins s σ H xs us Q I r h
  obtain ⟨p, n, rfl, hp, hn, q⟩ := h
  obtain ⟨u, rfl, ru⟩ := r.one
  cases ru
  obtain ⟨t, u, v, hr⟩ := (show ObjOk X.prog X.w H s.heap p (.rng 0 n) from I.hok p _ hp)
  refine call_list_range (n := n) (I.ok.hd hc) hr (small_one (by omega) (by omega) (by omega) (by omega)) (by rw [rangeSize_one]; split <;> omega) (by omega) fun h' tk acc' c' kp e hacc => ?_
  refine ⟨.ref s.heap.objs.size, _, I.laid (a := s.heap.objs.size) (o := .lst ((upI n).map V.int)) (t' := tk) kp (Nat.le_refl _) ⟨?_, acc'.toList, c', ?_, ?_⟩, rfl, q _ (I.hok.fresh (Nat.le_refl _))⟩
  · rw [List.length_map, upI, List.length_map, List.length_range, sizeLine_eq]; omega
  · have key : ∀ (xs : List V) (us : List Value), xs.length = us.length → (∀ (j : Nat) (x : V) (u : Value), xs[j]? = some x → us[j]? = some u → RelV x u) → Vals xs us := by
      intro xs
      induction xs with
      | nil => intro us hl _; cases us with
        | nil => exact .nil
        | cons _ _ => cases hl
      | cons x xs ih =>
        intro us hl h
        cases us with
        | nil => cases hl
        | cons u us => exact .cons (h 0 x u rfl rfl) (ih us (by simpa using hl) fun j x u e1 e2 => h (j + 1) x u (by simpa using e1) (by simpa using e2))
    refine key _ _ (by rw [List.length_map, upI, List.length_map, List.length_range, Array.length_toList, hacc.1]) fun j x u e1 e2 => ?_
    obtain ⟨t, e3⟩ := hacc.2 j u (by rw [← Array.getElem?_toList]; exact e2)
    rw [List.getElem?_map, upI, List.getElem?_map] at e1
    cases e4 : (List.range n)[j]? with
    | none => rw [e4] at e1; cases e1
    | some k =>
      rw [e4] at e1
      cases e1
      rw [List.getElem?_eq_some_iff] at e4
      obtain ⟨_, e5⟩ := e4
      rw [List.getElem_range] at e5
      subst e5
      exact ⟨t, by rw [e3]; congr 1; show (0 : Int) + (j : Int) * 1 = (j : Int); omega⟩
  · rw [Array.toArray_toList]; exact e
end
section
variable {g : TG} {tc : TT} {te : TE} {σ : St} {H : Hp} {Q : VK} {K : PySem.W.Frag} {a b : Addr} {xs ys : List V}
/-- zip, the second one the shorter -/
theorem lc_zipS (hn : ys.length ≤ sizeLine) (hl : ys.length ≤ xs.length) (Pv : Nat → List V → Hp → Prop) (h0 : Pv 0 [] H) (hlen : ∀ i zs H, Pv i zs H → zs.length ≤ i) (hS : ∀ i zs H, Pv i zs H → SqL K H a xs ∧ SqL K H b ys)
    (hs : ∀ i x y p zs H, xs[i]? = some x → ys[i]? = some y → Pv i zs H → H p = none → g (.ref p) σ (upd H p (.tup [x, y])) fun σ2 H2 => tc σ2 H2 fun b H3 => if b = true then te σ2 H3 fun y H4 => Pv (i + 1) (zs ++ [y]) H4 else Pv (i + 1) zs H3)
    (hd : ∀ zs H, Pv ys.length zs H → ∀ D, H D = none → Q (.ref D) (upd H D (.lst zs))) : LcW (Itz K a b) σ g tc te H Q :=
  lc_gen hn Pv h0 hlen (fun i zs H hi p => ⟨xs, ys, xs[i]'(by omega), ys[i], (hS i zs H p).1, (hS i zs H p).2, by simp [show i < xs.length by omega], by simp [hi]⟩) (fun zs H p => ⟨xs, ys, (hS _ zs H p).1, (hS _ zs H p).2, .inr (Nat.le_refl _)⟩) (fun i zs H hi p x H' y => by
    obtain ⟨q, u, v, e1, e2, e3, y1, y2⟩ := y
    subst e1 e3
    exact hs i u v q zs _ (y1 xs (hS i zs _ p).1) (y2 ys (hS i zs _ p).2) p e2) hd
end
end L2

/-! sums of words by what two leaves -/
namespace L2
open PySem PySem.Spec PyProof.Rows
abbrev WS := List (List Int)
def SR (r : WS) : Prop := r.Pairwise fun u v => lexLt u v = true
structure IsOdd (L r : WS) : Prop where
  rise : SR r
  mem : ∀ w, w ∈ r ↔ L.count w % 2 = 1
/-- the keys that came an odd number of times -/
structure OddK (L ks : WS) : Prop where
  nd : ks.Nodup
  mem : ∀ w, w ∈ ks ↔ L.count w % 2 = 1
/-! products -/
/-! how many, how long -/
/-! lists of words in the heap -/
end L2

namespace L2
open PySem PySem.Spec PyProof.Rows
section
variable {X : Cx}
theorem call_tupleL : CallR X (.type "tuple") (fun xs H Q => ∃ p ys, xs = [.ref p] ∧ H p = some (.lst ys) ∧ ∀ l, H l = none → Q (.ref l) (upd H l (.tup ys))) := by
  intro pins s σ H xs us Q I r ⟨p, ys, e, hp, q⟩
  exact call_tuple_of pins s σ H xs us Q I r ⟨p, ys, e, .inl ⟨SqL.of hp, q⟩⟩
end
end L2

/-! instances without an __init__, methods by name, a text with a number in it, != of words -/
namespace L2
open PySem PySem.Spec PyProof.Rows PyProof.V
section
variable {X : Cx} {C : Addr} {x m : Str} {p pos apos : Pos} {e o : Expr} {es : List Expr} {ta : TE} {t : TA}
structure MkO (K : PySem.W.Frag) (C : Addr) : Prop where
  makes : PySem.W.makesIn K C = true
  init : PySem.W.findIn K (.ref C) "__init__" = some (some (.builtin "object.__init__"))
  kp : PySem.W.keepIn K (.ref C) = true
/-- a method by its name -/
def HasM (P : Program) (w : World) (K : PySem.W.Frag) (mg : Str → Option Value) (base : Heap) (k : Nat) (C : Addr) (m : Str) (ps : List Str) (sp : Sp) : Prop :=
  ∃ (f : Addr) (fd : FuncData), FnOk P w K mg base CX0 k f fd ps sp ∧ Meth K C m f ∧ Binds K fd ps []
theorem pe_hasM {k : Nat} {ps : List Str} {sp : Sp} {pl : Sem Bool} (h : HasM X.prog X.w X.K X.mg X.base k C m ps sp) (c : Cls X.K C) (hr : Room k X.A) (he : PE X o ta) (ha : PA X (e :: es) t)
    (hst : starEach (e :: es) X.env = (false, eval e X.env) :: starEach es X.env := by rfl) (hpl : (backTo pos (starEach es X.env)).any (·.1) = false := by rfl)
    (ht : eval (.Call (.Attribute o m apos) (e :: es) [] pos) X.env = (do
      let ov ← eval o X.env
      standAt apos.atName
      let (f, first) ← holding [ov] (getMethod ov m pl)
      callWith pos f first (backTo pos (starEach (e :: es) X.env)) (backToKw pos (keywordEach [] X.env))) := by rfl) :
    PE X (.Call (.Attribute o m apos) (e :: es) [] pos) (tMeth C m sp [] E0 ta t) := by
  obtain ⟨f, fd, G, hm, hb⟩ := h
  exact pe_meth he c hm G hr hb .nil pass0 ha hst hpl ht
end
end L2

/-! the one sum that a list of words comes to; tables of sums -/
namespace L2
open PySem PySem.Spec PyProof.Rows
/-! rows and tables in the heap -/
/-! what stands behind each letter -/
end L2

namespace L2
open PySem PySem.Spec PyProof.Rows
section
variable {X : Cx}
theorem range_any (bs : List Bool) : (List.range bs.length).any (fun i => bs.getD i false) = bs.any id := by
  rw [Bool.eq_iff_iff, List.any_eq_true, List.any_eq_true]
  constructor
  · rintro ⟨i, hi, h⟩
    have hi' : i < bs.length := List.mem_range.mp hi
    exact ⟨bs[i], List.getElem_mem hi', by simpa [hi'] using h⟩
  · rintro ⟨b, hb, h⟩
    obtain ⟨i, hi, rfl⟩ := List.mem_iff_getElem.mp hb
    exact ⟨i, List.mem_range.mpr hi, by simpa [hi] using h⟩
theorem call_anyL (hc : X.calm = true) : CallR X (.builtin "any") (fun xs H Q => ∃ (p : Addr) (bs : List Bool), xs = [.ref p] ∧ SqL X.K H p (bs.map V.bl) ∧ Q (.bl (bs.any id)) H) := by
  intro pins s σ H xs us Q I r h
  obtain ⟨p, bs, rfl, hq, q⟩ := h
  obtain ⟨u, rfl, ru⟩ := r.one
  cases ru
  obtain ⟨its, rv, pl, hz⟩ := I.list hq
  have hlen : bs.length = its.length := by simpa using rv.length
  have hh : X.A.in1.handled = none := I.ok.hd hc
  have hp : p < s.heap.objs.size := by
    obtain ⟨o, ho, _⟩ := pl.isList
    exact Heap.lt_size ho
  refine call_any_walk (wpAny_pyIter_list pl.isList ?_)
  refine ⟨s.heap.objs.size, _, _, _, _, _, fun i => bs.getD i false, rfl, Walks.list hh s.heap.objs.size p (Nat.ne_of_lt hp) its.toArray, ⟨⟨_, Heap.get?_push_size _ rfl, rfl, rfl⟩, ?_⟩, fun i v s2 Q2 E2 hv hq2 => ?_, fun h' tk kk => ?_⟩
  · obtain ⟨o, ho, r⟩ := pl.isList
    exact ⟨o, Heap.get?_push_of_some _ ho, r⟩
  · have hv' : its[i]? = some v := by simpa using hv
    have hi : i < bs.length := by rw [hlen]; exact (List.getElem?_eq_some_iff.mp hv').1
    obtain ⟨w, hw, rw'⟩ := rv.get (i := i) (x := .bl bs[i]) (by simp [hi])
    rw [hv'] at hw
    cases hw
    cases rw'
    refine wpAny_truthy_bool ?_
    have e : bs.getD i false = bs[i] := by simp [hi]
    rw [← e]
    exact hq2
  · have hk : ∀ b o, s.heap.get? b = some o → h'.get? b = some o := fun b o e => kk b o (fun z => by
      have z' : b = s.heap.objs.size := by simpa using z
      exact Nat.lt_irrefl _ (z' ▸ Heap.lt_size e)) (Heap.get?_push_of_some _ e)
    refine ⟨.bl (bs.any id), H, I.kept (t' := tk) hk, ?_, q⟩
    have e : its.toArray.size = bs.length := by rw [List.size_toArray, hlen]
    rw [e, range_any]
    rfl
theorem call_anyK {K : PySem.W.Frag} (h : X.K = K) (hc : X.calm = true) : CallR X (.builtin "any") (fun xs H Q => ∃ (p : Addr) (bs : List Bool), xs = [.ref p] ∧ SqL K H p (bs.map V.bl) ∧ Q (.bl (bs.any id)) H) := h ▸ call_anyL hc
end
end L2

/-! try with an except that names nothing: what is known of the names stays -/
namespace L2
open PySem PySem.Spec PyProof.Rows
section
variable {X : Cx} {pins : List (Addr × Obj)} {σ : L2.St} {H : Hp} {s : Shared} {R : L2.St → Addr → Hp → Prop}
end
end L2

/-! range(n - 1, -1, -1) walked by for -/
namespace L2
open PySem PySem.Spec PyProof.Rows
def ItrD (lo : Int) (n : Nat) : It := ⟨fun i _ => i < n, fun i H x H' => H' = H ∧ x = .int (lo + i * (-1)), fun i _ => n ≤ i⟩
theorem turn_rangeD {P : Program} {w : World} {K : PySem.W.Frag} {tg : Expr} (it : Addr) (lo : Int) (n : Nat) : Turn P w K tg (ItrD lo n) [it] it (fun i h => IsRangeIter h it (lo + (i : Nat) * (-1)) ((n : Int) - (i : Nat)) (-1)) where
  mem := by simp
  obj := fun i h st b hb => by
    have e : b = it := by simpa using hb
    subst e
    exact ⟨_, st, fun v z => by
      have z' : Data.fields _ = Data.cell v := z
      cases z'⟩
  keep := fun i h h' st k => k it (by simp) _ st
  item := by
    intro X hP hw hK hc i pins s σ H E I hf st hg
    subst hP hw hK
    obtain ⟨f0, f1, f2, f3, f4, f5⟩ := hf it (by simp)
    have W := Walks.range (prog := X.prog) (w := X.w) (I.ok.hd hc) it lo (-1) n
    refine W.item i s _ _ hg st fun v h' tk hv st' kk => ?_
    obtain ⟨t, rfl⟩ := hv
    have I1 : Inv X pins σ H { s with heap := h', toks := tk } := I.turned (fun b o hb e => kk b o (by simpa using hb) e) f0 f1 f3 f4 f5
    exact ⟨_, rfl, go_of (s := { s with heap := h', toks := tk }) (n := "range_iterator") st' rfl rfl (by decide) ⟨.int (lo + i * (-1)), H, I1, ⟨t, rfl⟩, ⟨rfl, rfl⟩, st', fun b hb => (hf b hb).1⟩⟩
  done := by
    intro X hP hw hK hc i pins s σ H E I hf st hg
    subst hP hw hK
    obtain ⟨f0, f1, f2, f3, f4, f5⟩ := hf it (by simp)
    exact wpAny_pyNext_range_end (I.ok.hd hc) st (by have : n ≤ i := hg; omega) fun h' eb => ⟨rfl, I.turned (t' := s.toks) (fun b o hb e => eb b o hb e) f0 f1 f3 f4 f5⟩
  self := fun _ _ _ _ _ st h => wpAny_pyIter_rangeiter st h
section
variable {X : Cx} {tg : Expr}
end
theorem for_rangeD {lo : Int} {n : Nat} {g : TG} {tb : TS} {D : Ends} {σ : L2.St} {H : Hp} (Pv : Nat → L2.St → Hp → Prop) (h0 : Pv 0 σ H)
    (hs : ∀ i σ H, i < n → Pv i σ H → g (.int (lo + i * (-1))) σ H fun σ2 H2 => tb { D with nx := Pv (i + 1), ct := Pv (i + 1), bk := D.nx } σ2 H2) (hd : ∀ σ H, Pv n σ H → D.nx σ H) :
    ∃ W : Nat → Nat → L2.St → Hp → Prop, (∃ m, W 0 m σ H) ∧ ∀ i m σ H, W i m σ H →
      ((ItrD lo n).stop i H ∧ D.nx σ H) ∨ ((ItrD lo n).go i H ∧ ∃ N : L2.St → Hp → Prop, (∀ σ' H', N σ' H' → ∃ m', m' < m ∧ W (i + 1) m' σ' H') ∧ ∀ x H', (ItrD lo n).yld i H x H' → g x σ H' fun σ2 H2 => tb { D with nx := N, ct := N, bk := D.nx } σ2 H2) := by
  refine ⟨fun i m σ H => m = n - i ∧ i ≤ n ∧ Pv i σ H, ⟨n, by simp, Nat.zero_le _, h0⟩, ?_⟩
  rintro i m σ H ⟨rfl, hi, p⟩
  by_cases hlt : i < n
  · refine .inr ⟨hlt, Pv (i + 1), fun σ' H' p' => ⟨n - (i + 1), by omega, rfl, hlt, p'⟩, fun x H' y => ?_⟩
    obtain ⟨rfl, rfl⟩ := y
    exact hs i σ _ hlt p
  · exact .inl ⟨by show n ≤ i; omega, hd σ H ((show i = n by omega) ▸ p)⟩
end L2

/-! a zip walked without a for: its tuple stays handed out from the first item on; it has no keys -/
namespace L2
open PySem PySem.Spec PyProof.Rows
section
variable {prog : Program} {w : World} {A : Around} {E : Value → Shared → Prop} {s : Shared}
/-- a zip whose tuple has been handed out -/
abbrev IsZipT (h : Heap) (z TI TO T : Addr) (b : Bool) : Prop :=
  h.get? z = some { cls := .type "zip", dict := none, data := .fields #[rawInt T, .bool b, .bool false, .ref TI, .ref TO], slots := #[] }
structure ZS (h : Heap) (z TI TO i1 i2 l1 l2 : Addr) (k : Nat) : Prop where
  zp : (IsZip h z TI TO .none ∧ ∃ a b, IsPair h TO a b) ∨ ∃ T b o, IsZipT h z TI TO T b ∧ h.get? T = some o ∧ o.cls = .type "tuple" ∧ T ≠ z ∧ T ≠ TO ∧ T ≠ i1 ∧ T ≠ i2
  ti : IsPair h TI (.ref i1) (.ref i2)
  j1 : h.IsListIter i1 l1 k
  j2 : h.IsListIter i2 l2 k
end
end L2

/-! dict(zip(list, list)): the walk -/
namespace L2
open PySem PySem.Spec PyProof.Rows
section
variable {prog : Program} {w : World} {A : Around} {R : Result → Shared → Prop}
end
end L2

/-! dict(zip(list of ints, list)): the rule -/
namespace L2
open PySem PySem.Spec PyProof.Rows
section
variable {X : Cx}
end
end L2

/-! enumerate(tuple) -/
namespace L2
open PySem PySem.Spec PyProof.Rows
section
variable {prog : Program} {w : World} {A : Around} {E : Value → Shared → Prop} {s : Shared}
end
open AutoSeq1 (wpAny_loadPart') in
section
variable {prog : Program} {w : World} {A : Around} {E : Value → Shared → Prop} {s : Shared}
end
end L2

/-! for over enumerate(tuple) -/
namespace L2
open PySem PySem.Spec PyProof.Rows
section
variable {X : Cx}
end
end L2

/-! words cut -/
namespace L2
open PySem PySem.Spec PyProof.Rows
end L2

/-! t[::-1], t a tuple -/
namespace L2
open PySem PySem.Spec PyProof.Rows HT
section
variable {prog : Program} {w : World} {A : Around} {E : Value → Shared → Prop} {s : Shared}
end
theorem Vals.rev {xs : List V} {us : List Value} (h : Vals xs us) : Vals xs.reverse us.reverse := by
  induction h with
  | nil => exact .nil
  | cons r _ ih => rw [List.reverse_cons, List.reverse_cons]; exact Paired.snoc ih r
section
variable {X : Cx}
end
end L2

/-! try: what may be raised is told anew at each entry; == of plain things or alike lists -/
namespace L2
open PySem PySem.Spec PyProof.Rows
section
variable {X : Cx}
end
end L2

/-! Tables of sets that only grew: where a hash is looked for, where it is put. -/
namespace L2
open PySem PySem.Spec PyProof.Rows
def adv (mask : Nat) (p : SetTable.Probe) : SetTable.Probe :=
  if p.more > 0 then { p with j := p.j + 1, more := p.more - 1 } else
  { p with j := (SetTable.leap mask p.i p.perturb).1, more := SetTable.runEnd mask (SetTable.leap mask p.i p.perturb).1 - (SetTable.leap mask p.i p.perturb).1, i := (SetTable.leap mask p.i p.perturb).1, perturb := (SetTable.leap mask p.i p.perturb).2 }
/-- the n-th look for a hash -/
def stH (mask : Nat) (h : Int) : Nat → SetTable.Probe
  | 0 => { j := SetTable.bits h % (mask + 1), more := SetTable.runEnd mask (SetTable.bits h % (mask + 1)) - SetTable.bits h % (mask + 1), i := SetTable.bits h % (mask + 1), perturb := SetTable.bits h, dummy := none }
  | n + 1 => adv mask (stH mask h n)
def pj (mask : Nat) (h : Int) (n : Nat) : Nat := (stH mask h n).j
/-! where a number stands among rising ones -/
end L2

namespace L2
open PySem PySem.Spec PyProof.Rows
/-- a hash is found at j: ahead of it all places that are looked at are taken -/
def Rch (mask : Nat) (P : Nat → Prop) (h : Int) (j : Nat) : Prop := ∃ s, s < 10 * SetTable.turns mask ∧ pj mask h s = j ∧ ∀ m, m < s → P (pj mask h m)
structure TbG (t : SetTable) (hs : List Int) : Prop where
  dum : t.dummies = #[]
  rise : t.place.toList.Pairwise (· < ·)
  dom : ∀ j ∈ t.place.toList, j ≤ t.mask
  len : t.place.size = hs.length
  msk : t.mask = 7 ∨ t.mask = 31
  few : hs.length * 5 < t.mask * 3
  rch : ∀ (i j : Nat) (h : Int), t.place.toList[i]? = some j → hs[i]? = some h → Rch t.mask (· ∈ t.place.toList) h j
end L2

/-! A table laid anew. -/
namespace L2
open PySem PySem.Spec PyProof.Rows
def occ (owner : Array (Option Nat)) (j : Nat) : Prop := ∃ k, owner[j]? = some (some k)
structure OC (mask : Nat) (owner : Array (Option Nat)) (hs : List Int) : Prop where
  sz : owner.size = mask + 1
  sur : ∀ i : Nat, i < hs.length → ∃ j : Nat, owner[j]? = some (some i)
  lt : ∀ j i : Nat, owner[j]? = some (some i) → i < hs.length
  one : ∀ j j' i : Nat, owner[j]? = some (some i) → owner[j']? = some (some i) → j = j'
  rch : ∀ (j i : Nat) (h : Int), owner[j]? = some (some i) → hs[i]? = some h → Rch mask (occ owner) h j
end L2

namespace L2
open PySem PySem.Spec PyProof.Rows
end L2

/-! Sets of tuples of ints: looked for, put. -/
namespace L2
open PySem PySem.Spec PyProof.Rows
section
variable {prog : Program} {w : World} {A : Around} {E : Value → Shared → Prop} {s : Shared}
end
end L2

namespace L2
open PySem PySem.Spec PyProof.Rows
section
variable {prog : Program} {w : World} {A : Around} {E : Value → Shared → Prop} {s : Shared}
end
end L2

/-! set(a list of tuples of ints) -/
namespace L2
open PySem PySem.Spec PyProof.Rows
section
variable {prog : Program} {w : World} {A : Around} {E : Value → Shared → Prop} {s : Shared}
section
variable {R : Result → Shared → Prop} {I : Addr} {fp wr : List Addr} {G : Array GenState → Array GenState → Prop} {n : Nat} {P : Nat → Value → Prop} {St : Nat → Shared → Prop}
end
end
end L2

/-! A set of tuples of ints is walked; sorted(such a set). -/
namespace L2
open PySem PySem.Spec PyProof.Rows
section
variable {prog : Program} {w : World} {A : Around} {E : Value → Shared → Prop} {s : Shared} {a it : Addr} {ks : List (List Int)} {ep i : Nat} {es : Array (Int × Value)} {t : SetTable}
end
end L2

namespace L2
open PySem PySem.Spec PyProof.Rows
section
variable {X : Cx}
end
end L2

namespace L2
open PySem PySem.Spec PyProof.Rows PyProof.V
section
variable {X : Cx}
end
end L2

namespace L2
open PySem PySem.Spec PyProof.Rows PyProof.V
section
variable {X : Cx}
end
end L2

/-! rows as masks, reckoned by what two leaves: least bits, the image under a table, pairs -/
namespace L2
def mulT (T : Nat → Nat) : Nat → Nat → Nat
  | 0, _ => 0
  | n + 1, v => (if v.testBit n = true then T n else 0) ^^^ mulT T n v
theorem mulT_xor (T : Nat → Nat) : ∀ (n a b : Nat), mulT T n (a ^^^ b) = mulT T n a ^^^ mulT T n b
  | 0, _, _ => by simp [mulT]
  | n + 1, a, b => by
    show (if (a ^^^ b).testBit n = true then T n else 0) ^^^ mulT T n (a ^^^ b) = ((if a.testBit n = true then T n else 0) ^^^ mulT T n a) ^^^ ((if b.testBit n = true then T n else 0) ^^^ mulT T n b)
    rw [mulT_xor T n a b, Nat.testBit_xor]
    apply Nat.eq_of_testBit_eq
    intro k
    cases a.testBit n <;> cases b.testBit n <;> simp [Nat.testBit_xor] <;> cases (T n).testBit k <;> cases (mulT T n a).testBit k <;> cases (mulT T n b).testBit k <;> rfl
theorem mulT_zero (T : Nat → Nat) : ∀ n, mulT T n 0 = 0
  | 0 => rfl
  | n + 1 => by
    show (if (0 : Nat).testBit n = true then T n else 0) ^^^ mulT T n 0 = 0
    rw [mulT_zero T n]; simp
theorem mulT_ge (T : Nat → Nat) : ∀ (n r : Nat), n ≤ r → mulT T n (2 ^ r) = 0
  | 0, _, _ => rfl
  | n + 1, r, h => by
    show (if (2 ^ r).testBit n = true then T n else 0) ^^^ mulT T n (2 ^ r) = 0
    rw [mulT_ge T n r (by omega), Nat.testBit_two_pow, if_neg (by simp; omega)]
    rfl
theorem mulT_pow (T : Nat → Nat) : ∀ (n r : Nat), r < n → mulT T n (2 ^ r) = T r
  | n + 1, r, h => by
    show (if (2 ^ r).testBit n = true then T n else 0) ^^^ mulT T n (2 ^ r) = T r
    rw [Nat.testBit_two_pow]
    by_cases e : r = n
    · subst e
      rw [mulT_ge T r r (Nat.le_refl _)]
      simp
    · rw [mulT_pow T n r (by omega), if_neg (by simpa using e), Nat.zero_xor]
/-- the least bit of a mask -/
def LB (v j : Nat) : Prop := v.testBit j = true ∧ ∀ k, k < j → v.testBit k = false
theorem LB.one {v i j : Nat} (a : LB v i) (b : LB v j) : i = j := by
  rcases Nat.lt_trichotomy i j with h | h | h
  · have := b.2 i h; rw [a.1] at this; cases this
  · exact h
  · have := a.2 j h; rw [b.1] at this; cases this
theorem LB.nz {v i : Nat} (a : LB v i) : v ≠ 0 := fun z => by
  have := a.1
  rw [z, Nat.zero_testBit] at this
  cases this
theorem LB.ex {v : Nat} (h : v ≠ 0) : ∃ j, LB v j := by
  obtain ⟨i, hi⟩ := Nat.exists_testBit_of_ne_zero h
  have key : ∀ m i, i ≤ m → v.testBit i = true → ∃ j, LB v j := by
    intro m
    induction m with
    | zero => intro i hm hi; exact ⟨i, hi, fun k hk => by omega⟩
    | succ m ih =>
      intro i hm hi
      by_cases c : ∃ k, k < i ∧ v.testBit k = true
      · obtain ⟨k, hk, hb⟩ := c
        exact ih k (by omega) hb
      · refine ⟨i, hi, fun k hk => ?_⟩
        cases hb : v.testBit k with
        | false => rfl
        | true => exact absurd ⟨k, hk, hb⟩ c
  exact key i i (Nat.le_refl _) hi
theorem LB.xor_lt {a b i j : Nat} (x : LB a i) (y : LB b j) (h : i < j) : LB (a ^^^ b) i := by
  refine ⟨?_, fun k hk => ?_⟩
  · rw [Nat.testBit_xor, x.1, y.2 i h]; rfl
  · rw [Nat.testBit_xor, x.2 k hk, y.2 k (by omega)]; rfl
theorem LB.clear {a b j : Nat} (x : LB a j) (y : LB b j) : ∀ k, k ≤ j → (a ^^^ b).testBit k = false := fun k hk => by
  rw [Nat.testBit_xor]
  by_cases e : k = j
  · rw [e, x.1, y.1]; rfl
  · rw [x.2 k (by omega), y.2 k (by omega)]; rfl
theorem LB.lt {v j n : Nat} (x : LB v j) (h : v < 2 ^ n) : j < n := by
  rcases Nat.lt_or_ge j n with c | c
  · exact c
  · have := Nat.testBit_lt_two_pow (Nat.lt_of_lt_of_le h (Nat.pow_le_pow_right (by decide) c))
    rw [x.1] at this
    cases this
theorem LB.pow (r : Nat) : LB (2 ^ r) r := ⟨by rw [Nat.testBit_two_pow]; simp, fun k hk => by rw [Nat.testBit_two_pow]; simp; omega⟩
theorem LB.from {v j m : Nat} (x : LB v j) (h : ∀ k, k ≤ m → v.testBit k = false) : m < j := by
  rcases Nat.lt_or_ge m j with c | c
  · exact c
  · have := h j c
    rw [x.1] at this
    cases this
/-- the rows from i on, paired off: S their slid rows, p their partners -/
structure Up (T : Nat → Nat) (n i : Nat) (S : Nat → Nat) (p : Nat → Option Nat) : Prop where
  lb : ∀ r, i ≤ r → r < n → LB (S r) r
  bd : ∀ r, i ≤ r → r < n → S r < 2 ^ n
  inv : ∀ r q, i ≤ r → r < n → p r = some q → i ≤ q ∧ q < n ∧ q ≠ r ∧ p q = some r
  img : ∀ r q, i ≤ r → r < n → p r = some q → r < q → mulT T n (S r) = S q
  ker : ∀ r, i ≤ r → r < n → (∀ q, p r = some q → q < r) → mulT T n (S r) = 0
theorem Up.inj {T : Nat → Nat} {n i : Nat} {S : Nat → Nat} {p : Nat → Option Nat} (U : Up T n i S p) {a b q : Nat} (ha : i ≤ a) (ha' : a < n) (hb : i ≤ b) (hb' : b < n) (pa : p a = some q) (pb : p b = some q) : a = b := by
  have h1 := (U.inv a q ha ha' pa).2.2.2
  have h2 := (U.inv b q hb hb' pb).2.2.2
  rw [h1] at h2
  exact Option.some.inj h2
/-- what a mask comes to under the table begins at a lower partner -/
theorem Up.low {T : Nat → Nat} {n i : Nat} {S : Nat → Nat} {p : Nat → Option Nat} (U : Up T n i S p) : ∀ (m v j : Nat), n - j ≤ m → LB v j → i ≤ j → v < 2 ^ n →
    (∀ q, p j = some q → j < q → ∃ q' k, LB (mulT T n v) q' ∧ q' ≤ q ∧ j ≤ k ∧ k < n ∧ p k = some q' ∧ k < q') ∧
    ((∀ q, p j = some q → q < j) → mulT T n v = 0 ∨ ∃ q' k, LB (mulT T n v) q' ∧ j < k ∧ k < n ∧ p k = some q' ∧ k < q') := by
  intro m
  induction m with
  | zero =>
    intro v j hm x _ hv
    have := x.lt hv
    omega
  | succ m ih =>
    intro v j hm x hj hv
    have jn := x.lt hv
    have ls := U.lb j hj jn
    have hs := U.bd j hj jn
    have ev : v = S j ^^^ (v ^^^ S j) := by rw [Nat.xor_comm v, ← Nat.xor_assoc, Nat.xor_self, Nat.zero_xor]
    have em : mulT T n v = mulT T n (S j) ^^^ mulT T n (v ^^^ S j) := by rw [← mulT_xor, ← ev]
    have hv' : v ^^^ S j < 2 ^ n := Nat.xor_lt_two_pow hv hs
    have cl := x.clear ls
    have tail : mulT T n (v ^^^ S j) = 0 ∨ ∃ q' k, LB (mulT T n (v ^^^ S j)) q' ∧ j < k ∧ k < n ∧ p k = some q' ∧ k < q' := by
      by_cases z : v ^^^ S j = 0
      · rw [z]; exact .inl (mulT_zero T n)
      · obtain ⟨l, xl⟩ := LB.ex z
        have lj := xl.from cl
        have I := ih _ l (by omega) xl (by omega) hv'
        by_cases c : ∃ q, p l = some q ∧ l < q
        · obtain ⟨q, e, lt⟩ := c
          obtain ⟨q', k, a, _, b, d, e', f⟩ := I.1 q e lt
          exact .inr ⟨q', k, a, by omega, d, e', f⟩
        · have c' : ∀ q, p l = some q → q < l := fun q e => by
            have ne := (U.inv l q (by omega) (xl.lt hv') e).2.2.1
            rcases Nat.lt_trichotomy q l with h | h | h
            · exact h
            · exact absurd h ne
            · exact absurd ⟨q, e, h⟩ c
          rcases I.2 c' with h | ⟨q', k, a, b, d, e', f⟩
          · exact .inl h
          · exact .inr ⟨q', k, a, by omega, d, e', f⟩
    refine ⟨fun q e lt => ?_, fun c => ?_⟩
    · have im := U.img j q hj jn e lt
      obtain ⟨iq, qn, _, _⟩ := U.inv j q hj jn e
      have lq := U.lb q iq qn
      rw [em, im]
      rcases tail with h | ⟨q', k, a, b, d, e', f⟩
      · rw [h, Nat.xor_zero]
        exact ⟨q, j, lq, Nat.le_refl _, Nat.le_refl _, jn, e, lt⟩
      · rcases Nat.lt_trichotomy q q' with h | h | h
        · exact ⟨q, j, lq.xor_lt a h, Nat.le_refl _, Nat.le_refl _, jn, e, lt⟩
        · subst h
          have := U.inj hj jn (by omega) d e e'
          omega
        · rw [Nat.xor_comm]
          exact ⟨q', k, a.xor_lt lq h, by omega, by omega, d, e', f⟩
    · rw [em, U.ker j hj jn c, Nat.zero_xor]
      exact tail
theorem Up.lower {T : Nat → Nat} {n i : Nat} {S : Nat → Nat} {p : Nat → Option Nat} (U : Up T n i S p) {v j q : Nat} (x : LB v j) (hj : i ≤ j) (hv : v < 2 ^ n) (z : mulT T n v = 0) (e : p j = some q) : q < j := by
  have ne := (U.inv j q hj (x.lt hv) e).2.2.1
  rcases Nat.lt_trichotomy q j with h | h | h
  · exact h
  · exact absurd h ne
  · obtain ⟨q', k, a, _⟩ := (U.low (n - j) v j (Nat.le_refl _) x hj hv).1 q e h
    exact absurd z a.nz
theorem Up.le {T : Nat → Nat} {n : Nat} {S S' : Nat → Nat} {p p' : Nat → Option Nat} (U : Up T n 0 S p) (V : Up T n 0 S' p') {r q : Nat} (hr : r < n) (e : p r = some q) (lt : r < q) : ∃ q', p' r = some q' ∧ r < q' ∧ q' ≤ q := by
  obtain ⟨q', k, a, b, _⟩ := (U.low (n - r) (S' r) r (Nat.le_refl _) (V.lb r (Nat.zero_le _) hr) (Nat.zero_le _) (V.bd r (Nat.zero_le _) hr)).1 q e lt
  by_cases c : ∃ q2, p' r = some q2 ∧ r < q2
  · obtain ⟨q2, e2, lt2⟩ := c
    have im := V.img r q2 (Nat.zero_le _) hr e2 lt2
    obtain ⟨_, q2n, _⟩ := V.inv r q2 (Nat.zero_le _) hr e2
    rw [im] at a
    have := a.one (V.lb q2 (Nat.zero_le _) q2n)
    exact ⟨q2, e2, lt2, by omega⟩
  · have c' : ∀ q2, p' r = some q2 → q2 < r := fun q2 e2 => by
      have ne := (V.inv r q2 (Nat.zero_le _) hr e2).2.2.1
      rcases Nat.lt_trichotomy q2 r with h | h | h
      · exact h
      · exact absurd h ne
      · exact absurd ⟨q2, e2, h⟩ c
    exact absurd (V.ker r (Nat.zero_le _) hr c') a.nz
/-- the partners are one -/
theorem Up.one {T : Nat → Nat} {n : Nat} {S S' : Nat → Nat} {p p' : Nat → Option Nat} (U : Up T n 0 S p) (V : Up T n 0 S' p') {r : Nat} (hr : r < n) : p r = p' r := by
  have up : ∀ {S S' : Nat → Nat} {p p' : Nat → Option Nat}, Up T n 0 S p → Up T n 0 S' p' → ∀ {r q : Nat}, r < n → p r = some q → p' r = some q := by
    intro S S' p p' U V
    have hi : ∀ {r q : Nat}, r < n → p r = some q → r < q → p' r = some q := by
      intro r q hr e lt
      obtain ⟨q', e', lt', le⟩ := U.le V hr e lt
      obtain ⟨q2, e2, _, le2⟩ := V.le U hr e' lt'
      rw [e] at e2
      cases e2
      rw [e', Nat.le_antisymm le le2]
    intro r q hr e
    obtain ⟨_, qn, ne, e2⟩ := U.inv r q (Nat.zero_le _) hr e
    rcases Nat.lt_trichotomy r q with h | h | h
    · exact hi hr e h
    · exact absurd h.symm ne
    · have := hi qn e2 h
      exact (V.inv q r (Nat.zero_le _) qn this).2.2.2
  cases e : p r with
  | some q => rw [up U V hr e]
  | none =>
    cases e' : p' r with
    | none => rfl
    | some q => rw [up V U hr e'] at e; cases e
/-! ### one more row taken -/
def xorL : List Nat → Nat
  | [] => 0
  | a :: l => a ^^^ xorL l
theorem xorL_app : ∀ (a b : List Nat), xorL (a ++ b) = xorL a ^^^ xorL b
  | [], b => by simp [xorL]
  | x :: a, b => by
    show x ^^^ xorL (a ++ b) = (x ^^^ xorL a) ^^^ xorL b
    rw [xorL_app a b, Nat.xor_assoc]
theorem xorL_lt {n : Nat} : ∀ {l : List Nat}, (∀ x ∈ l, x < 2 ^ n) → xorL l < 2 ^ n
  | [], _ => Nat.two_pow_pos n
  | x :: l, h => Nat.xor_lt_two_pow (h x List.mem_cons_self) (xorL_lt fun y hy => h y (List.mem_cons_of_mem _ hy))
theorem xorL_mul (T : Nat → Nat) (n : Nat) : ∀ {l : List Nat}, (∀ x ∈ l, mulT T n x = 0) → mulT T n (xorL l) = 0
  | [], _ => mulT_zero T n
  | x :: l, h => by
    show mulT T n (x ^^^ xorL l) = 0
    rw [mulT_xor, h x List.mem_cons_self, xorL_mul T n fun y hy => h y (List.mem_cons_of_mem _ hy)]
    rfl
/-- within the taking of row i: rest is left, a is its slid row as yet, lone the rows without a partner met so far -/
structure Tk (T : Nat → Nat) (n i : Nat) (S : Nat → Nat) (p : Nat → Option Nat) (rest a : Nat) (lone : List Nat) : Prop where
  up : Up T n (i + 1) S p
  eq : mulT T n a = rest ^^^ xorL (lone.map S)
  la : LB a i
  ba : a < 2 ^ n
  br : rest < 2 ^ n
  lo : ∀ k, k ≤ i → rest.testBit k = false
  ln : ∀ l ∈ lone, i < l ∧ l < n ∧ p l = none
  as : lone.Pairwise (· < ·)
  ab : ∀ l ∈ lone, ∀ k, k ≤ l → rest.testBit k = false
theorem Tk.start {T : Nat → Nat} {n i : Nat} {S : Nat → Nat} {p : Nat → Option Nat} (U : Up T n (i + 1) S p) (hi : i < n) (hT : T i < 2 ^ n) (hh : ∀ k, k ≤ i → (T i).testBit k = false) : Tk T n i S p (T i) (2 ^ i) [] where
  up := U
  eq := by rw [mulT_pow T n i hi]; simp [xorL]
  la := LB.pow i
  ba := Nat.pow_lt_pow_right (by decide) hi
  br := hT
  lo := hh
  ln := fun _ h => nomatch h
  as := .nil
  ab := fun _ h => nomatch h
theorem Tk.bits {T : Nat → Nat} {n i : Nat} {S : Nat → Nat} {p : Nat → Option Nat} {rest a j : Nat} {lone : List Nat} (t : Tk T n i S p rest a lone) (x : LB rest j) : i < j ∧ j < n := ⟨x.from t.lo, x.lt t.br⟩
theorem Tk.rest0 {T : Nat → Nat} {n i : Nat} {S : Nat → Nat} {p : Nat → Option Nat} {rest a : Nat} {lone : List Nat} (t : Tk T n i S p rest a lone) (sq : ∀ v, mulT T n (mulT T n v) = 0) : mulT T n rest = 0 := by
  have h := sq a
  rw [t.eq, mulT_xor, xorL_mul T n (fun x hx => ?_), Nat.xor_zero] at h
  · exact h
  · obtain ⟨l, hl, rfl⟩ := List.mem_map.mp hx
    obtain ⟨h1, h2, h3⟩ := t.ln l hl
    exact t.up.ker l h1 h2 fun q e => by rw [h3] at e; cases e
theorem Tk.below {T : Nat → Nat} {n i : Nat} {S : Nat → Nat} {p : Nat → Option Nat} {rest a j q : Nat} {lone : List Nat} (t : Tk T n i S p rest a lone) (sq : ∀ v, mulT T n (mulT T n v) = 0) (x : LB rest j) (e : p j = some q) : i < q ∧ q < j := by
  obtain ⟨h1, h2⟩ := t.bits x
  exact ⟨(t.up.inv j q h1 h2 e).1, t.up.lower x h1 t.br (t.rest0 sq) e⟩
theorem Tk.clear {T : Nat → Nat} {n i : Nat} {S : Nat → Nat} {p : Nat → Option Nat} {rest a j : Nat} {lone : List Nat} (t : Tk T n i S p rest a lone) (x : LB rest j) : ∀ k, k ≤ j → (rest ^^^ S j).testBit k = false := x.clear (t.up.lb j (t.bits x).1 (t.bits x).2)
theorem Tk.after {T : Nat → Nat} {n i : Nat} {S : Nat → Nat} {p : Nat → Option Nat} {rest a j : Nat} {lone : List Nat} (t : Tk T n i S p rest a lone) (x : LB rest j) : ∀ l ∈ lone, l < j := fun l hl => x.from (t.ab l hl)
theorem Tk.lone {T : Nat → Nat} {n i : Nat} {S : Nat → Nat} {p : Nat → Option Nat} {rest a j : Nat} {lone : List Nat} (t : Tk T n i S p rest a lone) (x : LB rest j) (e : p j = none) : Tk T n i S p (rest ^^^ S j) a (lone ++ [j]) where
  up := t.up
  eq := by
    rw [t.eq, List.map_append, xorL_app]
    show _ = _ ^^^ (_ ^^^ (S j ^^^ 0))
    rw [Nat.xor_zero, Nat.xor_comm (xorL _) (S j), Nat.xor_assoc, ← Nat.xor_assoc (S j), Nat.xor_self, Nat.zero_xor]
  la := t.la
  ba := t.ba
  br := Nat.xor_lt_two_pow t.br (t.up.bd j (t.bits x).1 (t.bits x).2)
  lo := fun k hk => t.clear x k (by have := (t.bits x).1; omega)
  ln := fun l hl => by
    rcases List.mem_append.mp hl with h | h
    · exact t.ln l h
    · rw [List.mem_singleton.mp h]; exact ⟨(t.bits x).1, (t.bits x).2, e⟩
  as := List.pairwise_append.mpr ⟨t.as, List.pairwise_singleton _ _, fun l hl m hm => by rw [List.mem_singleton.mp hm]; exact t.after x l hl⟩
  ab := fun l hl k hk => by
    rcases List.mem_append.mp hl with h | h
    · exact t.clear x k (by have := t.after x l h; omega)
    · rw [List.mem_singleton.mp h] at hk; exact t.clear x k hk
theorem Tk.upper {T : Nat → Nat} {n i : Nat} {S : Nat → Nat} {p : Nat → Option Nat} {rest a j q : Nat} {lone : List Nat} (t : Tk T n i S p rest a lone) (sq : ∀ v, mulT T n (mulT T n v) = 0) (x : LB rest j) (e : p j = some q) : Tk T n i S p (rest ^^^ S j) (a ^^^ S q) lone where
  up := t.up
  eq := by
    obtain ⟨h1, h2⟩ := t.bits x
    obtain ⟨h3, h4⟩ := t.below sq x e
    have e2 := (t.up.inv j q h1 h2 e).2.2.2
    rw [mulT_xor, t.eq, t.up.img q j h3 (by omega) e2 h4, Nat.xor_assoc, Nat.xor_comm (xorL _), ← Nat.xor_assoc]
  la := by
    obtain ⟨h3, h4⟩ := t.below sq x e
    exact t.la.xor_lt (t.up.lb q h3 (by have := (t.bits x).2; omega)) h3
  ba := by
    obtain ⟨h3, h4⟩ := t.below sq x e
    exact Nat.xor_lt_two_pow t.ba (t.up.bd q h3 (by have := (t.bits x).2; omega))
  br := Nat.xor_lt_two_pow t.br (t.up.bd j (t.bits x).1 (t.bits x).2)
  lo := fun k hk => t.clear x k (by have := (t.bits x).1; omega)
  ln := t.ln
  as := t.as
  ab := fun l hl k hk => t.clear x k (by have := t.after x l hl; omega)
def put1 {α : Type} (f : Nat → α) (i : Nat) (a : α) : Nat → α := fun r => if r = i then a else f r
theorem put1_at {α : Type} (f : Nat → α) (i : Nat) (a : α) : put1 f i a i = a := if_pos rfl
theorem put1_ne {α : Type} (f : Nat → α) {i r : Nat} (a : α) (h : r ≠ i) : put1 f i a r = f r := if_neg h
/-- nothing is left, and nothing is lone -/
theorem Tk.done {T : Nat → Nat} {n i : Nat} {S : Nat → Nat} {p : Nat → Option Nat} {a : Nat} (t : Tk T n i S p 0 a []) (hp : p i = none) : Up T n i (put1 S i a) p where
  lb := fun r h1 h2 => by
    by_cases e : r = i
    · rw [e, put1_at]; exact t.la
    · rw [put1_ne _ _ e]; exact t.up.lb r (by omega) h2
  bd := fun r h1 h2 => by
    by_cases e : r = i
    · rw [e, put1_at]; exact t.ba
    · rw [put1_ne _ _ e]; exact t.up.bd r (by omega) h2
  inv := fun r q h1 h2 e => by
    by_cases z : r = i
    · rw [z, hp] at e; cases e
    · obtain ⟨a1, a2, a3, a4⟩ := t.up.inv r q (by omega) h2 e
      exact ⟨by omega, a2, a3, a4⟩
  img := fun r q h1 h2 e lt => by
    by_cases z : r = i
    · rw [z, hp] at e; cases e
    · obtain ⟨a1, a2, a3, a4⟩ := t.up.inv r q (by omega) h2 e
      rw [put1_ne _ _ z, put1_ne _ _ (by omega)]
      exact t.up.img r q (by omega) h2 e lt
  ker := fun r h1 h2 c => by
    by_cases z : r = i
    · rw [z, put1_at, t.eq]; simp [xorL]
    · rw [put1_ne _ _ z]; exact t.up.ker r (by omega) h2 c
/-- nothing is left: the row is paired with the first lone one, to which the others are put -/
theorem Tk.pair {T : Nat → Nat} {n i : Nat} {S : Nat → Nat} {p : Nat → Option Nat} {a f : Nat} {ls : List Nat} (t : Tk T n i S p 0 a (f :: ls)) (hi : i < n) : Up T n i (put1 (put1 S f (S f ^^^ xorL (ls.map S))) i a) (put1 (put1 p i (some f)) f (some i)) := by
  obtain ⟨f1, f2, f3⟩ := t.ln f List.mem_cons_self
  have fi : f ≠ i := by omega
  have ltl : ∀ l ∈ ls, f < l ∧ l < n ∧ p l = none := fun l hl => ⟨(List.pairwise_cons.mp t.as).1 l hl, (t.ln l (List.mem_cons_of_mem _ hl)).2⟩
  have zf : mulT T n (S f) = 0 := t.up.ker f f1 f2 fun q e => by rw [f3] at e; cases e
  have zl : mulT T n (xorL (ls.map S)) = 0 := xorL_mul T n fun x hx => by
    obtain ⟨l, hl, rfl⟩ := List.mem_map.mp hx
    obtain ⟨h1, h2, h3⟩ := ltl l hl
    exact t.up.ker l (by omega) h2 fun q e => by rw [h3] at e; cases e
  have lbx : ∀ (v : Nat) (ms : List Nat), LB v f → (∀ l ∈ ms, f < l ∧ l < n) → LB (v ^^^ xorL (ms.map S)) f := by
    intro v ms
    induction ms generalizing v with
    | nil => intro h _; simpa [xorL] using h
    | cons m ms ih =>
      intro h hm
      show LB (v ^^^ (S m ^^^ xorL (ms.map S))) f
      rw [← Nat.xor_assoc]
      obtain ⟨m1, m2⟩ := hm m List.mem_cons_self
      exact ih _ (h.xor_lt (t.up.lb m (by omega) m2) m1) fun l hl => hm l (List.mem_cons_of_mem _ hl)
  have lbf : LB (S f ^^^ xorL (ls.map S)) f := lbx _ ls (t.up.lb f f1 f2) fun l hl => ⟨(ltl l hl).1, (ltl l hl).2.1⟩
  have bdf : S f ^^^ xorL (ls.map S) < 2 ^ n := Nat.xor_lt_two_pow (t.up.bd f f1 f2) (xorL_lt fun x hx => by
    obtain ⟨l, hl, rfl⟩ := List.mem_map.mp hx
    obtain ⟨h1, h2, h3⟩ := ltl l hl
    exact t.up.bd l (by omega) h2)
  have ea : mulT T n a = S f ^^^ xorL (ls.map S) := by rw [t.eq, Nat.zero_xor]; rfl
  generalize S f ^^^ xorL (ls.map S) = sf at *
  have pf : put1 (put1 p i (some f)) f (some i) f = some i := put1_at _ _ _
  have pi : put1 (put1 p i (some f)) f (some i) i = some f := by rw [put1_ne _ _ (Ne.symm fi), put1_at]
  have pr : ∀ r, r ≠ f → r ≠ i → put1 (put1 p i (some f)) f (some i) r = p r := fun r h1 h2 => by rw [put1_ne _ _ h1, put1_ne _ _ h2]
  have sfv : put1 (put1 S f sf) i a f = sf := by rw [put1_ne _ _ fi, put1_at]
  have si : put1 (put1 S f sf) i a i = a := put1_at _ _ _
  have sr : ∀ r, r ≠ f → r ≠ i → put1 (put1 S f sf) i a r = S r := fun r h1 h2 => by rw [put1_ne _ _ h2, put1_ne _ _ h1]
  have nof : ∀ r q, i + 1 ≤ r → r < n → p r = some q → q ≠ f := fun r q h1 h2 e z => by
    have := (t.up.inv r q h1 h2 e).2.2.2
    rw [z, f3] at this
    cases this
  generalize put1 (put1 p i (some f)) f (some i) = p' at *
  generalize put1 (put1 S f sf) i a = S' at *
  refine ⟨fun r h1 h2 => ?_, fun r h1 h2 => ?_, fun r q h1 h2 e => ?_, fun r q h1 h2 e lt => ?_, fun r h1 h2 c => ?_⟩
  · by_cases z : r = i
    · rw [z, si]; exact t.la
    · by_cases y : r = f
      · rw [y, sfv]; exact lbf
      · rw [sr r y z]; exact t.up.lb r (by omega) h2
  · by_cases z : r = i
    · rw [z, si]; exact t.ba
    · by_cases y : r = f
      · rw [y, sfv]; exact bdf
      · rw [sr r y z]; exact t.up.bd r (by omega) h2
  · by_cases z : r = i
    · rw [z, pi] at e
      cases e
      exact ⟨by omega, f2, by omega, by rw [z]; exact pf⟩
    · by_cases y : r = f
      · rw [y, pf] at e
        cases e
        exact ⟨Nat.le_refl _, hi, by omega, by rw [y]; exact pi⟩
      · rw [pr r y z] at e
        obtain ⟨a1, a2, a3, a4⟩ := t.up.inv r q (by omega) h2 e
        exact ⟨by omega, a2, a3, by rw [pr q (nof r q (by omega) h2 e) (by omega)]; exact a4⟩
  · by_cases z : r = i
    · rw [z, pi] at e
      cases e
      rw [z, si, sfv, ea]
    · by_cases y : r = f
      · rw [y, pf] at e
        cases e
        omega
      · rw [pr r y z] at e
        obtain ⟨a1, a2, a3, a4⟩ := t.up.inv r q (by omega) h2 e
        rw [sr r y z, sr q (nof r q (by omega) h2 e) (by omega)]
        exact t.up.img r q (by omega) h2 e lt
  · by_cases z : r = i
    · have := c f (by rw [z]; exact pi)
      omega
    · by_cases y : r = f
      · rw [y, sfv, ← ea]
        have h3 : mulT T n (mulT T n a) = mulT T n sf := by rw [ea]
        rw [ea]
        have h4 : mulT T n (xorL ((f :: ls).map S)) = 0 := by
          show mulT T n (S f ^^^ xorL (ls.map S)) = 0
          rw [mulT_xor, zf, zl]
          rfl
        have h5 : xorL ((f :: ls).map S) = sf := by rw [← ea, t.eq, Nat.zero_xor]
        rwa [h5] at h4
      · rw [sr r y z]
        exact t.up.ker r (by omega) h2 fun q e => c q (by rw [pr r y z]; exact e)
end L2

/-! a table that is paired off is high and square; slides keep that -/
namespace L2
theorem mulT_mod (T : Nat → Nat) (N v : Nat) : ∀ n, n ≤ N → mulT T n (v % 2 ^ N) = mulT T n v
  | 0, _ => rfl
  | n + 1, h => by
    show (if (v % 2 ^ N).testBit n = true then T n else 0) ^^^ mulT T n (v % 2 ^ N) = (if v.testBit n = true then T n else 0) ^^^ mulT T n v
    rw [mulT_mod T N v n (by omega), Nat.testBit_mod_two_pow, decide_eq_true (show n < N by omega), Bool.true_and]
theorem Up.cases {T : Nat → Nat} {n i : Nat} {S : Nat → Nat} {p : Nat → Option Nat} (U : Up T n i S p) {r : Nat} (h1 : i ≤ r) (h2 : r < n) : (∃ q, p r = some q ∧ r < q) ∨ (∀ q, p r = some q → q < r) := by
  by_cases c : ∃ q, p r = some q ∧ r < q
  · exact .inl c
  · refine .inr fun q e => ?_
    have ne := (U.inv r q h1 h2 e).2.2.1
    rcases Nat.lt_trichotomy q r with h | h | h
    · exact h
    · exact absurd h ne
    · exact absurd ⟨q, e, h⟩ c
theorem Up.high {T : Nat → Nat} {n : Nat} {S : Nat → Nat} {p : Nat → Option Nat} (U : Up T n 0 S p) {r : Nat} (h : r < n) : ∀ k, k ≤ r → (T r).testBit k = false := by
  have e := mulT_pow T n r h
  have L := U.low (n - r) (2 ^ r) r (Nat.le_refl _) (LB.pow r) (Nat.zero_le _) (Nat.pow_lt_pow_right (by decide) h)
  rw [e] at L
  intro k hk
  rcases U.cases (Nat.zero_le _) h with ⟨q, eq, lt⟩ | c
  · obtain ⟨q', m, a, _, b, _, _, d⟩ := L.1 q eq lt
    exact a.2 k (by omega)
  · rcases L.2 c with z | ⟨q', m, a, b, _, _, d⟩
    · rw [z]; exact Nat.zero_testBit k
    · exact a.2 k (by omega)
theorem Up.sqr1 {T : Nat → Nat} {n : Nat} {S : Nat → Nat} {p : Nat → Option Nat} (U : Up T n 0 S p) : ∀ (m v j : Nat), n - j ≤ m → LB v j → v < 2 ^ n → mulT T n (mulT T n v) = 0 := by
  intro m
  induction m with
  | zero =>
    intro v j hm x hv
    have := x.lt hv
    omega
  | succ m ih =>
    intro v j hm x hv
    have jn := x.lt hv
    have ls := U.lb j (Nat.zero_le _) jn
    have hs := U.bd j (Nat.zero_le _) jn
    have ev : v = S j ^^^ (v ^^^ S j) := by rw [Nat.xor_comm v, ← Nat.xor_assoc, Nat.xor_self, Nat.zero_xor]
    have z1 : mulT T n (mulT T n (S j)) = 0 := by
      rcases U.cases (Nat.zero_le _) jn with ⟨q, e, lt⟩ | c
      · obtain ⟨_, qn, _, e2⟩ := U.inv j q (Nat.zero_le _) jn e
        rw [U.img j q (Nat.zero_le _) jn e lt]
        exact U.ker q (Nat.zero_le _) qn fun q' e' => by rw [e2] at e'; cases e'; exact lt
      · rw [U.ker j (Nat.zero_le _) jn c, mulT_zero]
    have z2 : mulT T n (mulT T n (v ^^^ S j)) = 0 := by
      by_cases z : v ^^^ S j = 0
      · rw [z, mulT_zero, mulT_zero]
      · obtain ⟨l, xl⟩ := LB.ex z
        have := xl.from (x.clear ls)
        exact ih _ l (by omega) xl (Nat.xor_lt_two_pow hv hs)
    rw [ev, mulT_xor, mulT_xor, z1, z2]
    rfl
theorem Up.sqr {T : Nat → Nat} {n : Nat} {S : Nat → Nat} {p : Nat → Option Nat} (U : Up T n 0 S p) (v : Nat) : mulT T n (mulT T n v) = 0 := by
  rw [← mulT_mod T n v n (Nat.le_refl _)]
  by_cases z : v % 2 ^ n = 0
  · rw [z, mulT_zero, mulT_zero]
  · obtain ⟨j, x⟩ := LB.ex z
    exact U.sqr1 (n - j) _ j (Nat.le_refl _) x (Nat.mod_lt _ (Nat.two_pow_pos n))
/-- a slide's step: bit j turned where bit i is 1 -/
def cE (i j v : Nat) : Nat := v ^^^ (if v.testBit i = true then 2 ^ j else 0)
theorem cE_zero (i j : Nat) : cE i j 0 = 0 := by simp [cE]
theorem cE_bit {i j : Nat} (v k : Nat) : (cE i j v).testBit k = (if k = j then (v.testBit k != v.testBit i) else v.testBit k) := by
  unfold cE
  rw [Nat.testBit_xor]
  by_cases e : k = j
  · subst e
    rw [if_pos rfl]
    cases v.testBit i <;> simp [Nat.testBit_two_pow]
  · rw [if_neg e]
    cases v.testBit i <;> simp [Nat.testBit_two_pow, Ne.symm e]
theorem cE_xor (i j a b : Nat) : cE i j (a ^^^ b) = cE i j a ^^^ cE i j b := by
  apply Nat.eq_of_testBit_eq
  intro k
  rw [Nat.testBit_xor, cE_bit, cE_bit, cE_bit, Nat.testBit_xor, Nat.testBit_xor]
  by_cases e : k = j
  · rw [if_pos e, if_pos e, if_pos e]
    cases a.testBit k <;> cases b.testBit k <;> cases a.testBit i <;> cases b.testBit i <;> rfl
  · rw [if_neg e, if_neg e, if_neg e]
theorem cE_two {i j : Nat} (h : i ≠ j) (v : Nat) : cE i j (cE i j v) = v := by
  apply Nat.eq_of_testBit_eq
  intro k
  rw [cE_bit, cE_bit, cE_bit, if_neg h]
  by_cases e : k = j
  · rw [if_pos e, if_pos e]; cases v.testBit k <;> cases v.testBit i <;> rfl
  · rw [if_neg e, if_neg e]
theorem cE_lb {i j v r : Nat} (h : i < j) (x : LB v r) : LB (cE i j v) r := by
  refine ⟨?_, fun k hk => ?_⟩
  · rw [cE_bit]
    by_cases e : r = j
    · rw [if_pos e, x.1, x.2 i (by omega)]; rfl
    · rw [if_neg e]; exact x.1
  · rw [cE_bit]
    by_cases e : k = j
    · rw [if_pos e, x.2 k hk, x.2 i (by omega)]; rfl
    · rw [if_neg e]; exact x.2 k hk
theorem cE_lt {i j v n : Nat} (hj : j < n) (h : v < 2 ^ n) : cE i j v < 2 ^ n := by
  unfold cE
  refine Nat.xor_lt_two_pow h ?_
  split
  · exact Nat.pow_lt_pow_right (by decide) hj
  · exact Nat.two_pow_pos n
def sT (T : Nat → Nat) (i j : Nat) : Nat → Nat := fun r => cE i j (if r = i then T i ^^^ T j else T r)
theorem mulT_cE (T : Nat → Nat) (i j : Nat) : ∀ (n v : Nat), mulT (fun r => cE i j (T r)) n v = cE i j (mulT T n v)
  | 0, v => (cE_zero i j).symm
  | n + 1, v => by
    show (if v.testBit n = true then cE i j (T n) else 0) ^^^ mulT (fun r => cE i j (T r)) n v = cE i j ((if v.testBit n = true then T n else 0) ^^^ mulT T n v)
    rw [mulT_cE T i j n v, cE_xor]
    cases v.testBit n
    · rw [if_neg Bool.false_ne_true, if_neg Bool.false_ne_true, cE_zero]
    · rw [if_pos rfl, if_pos rfl]
theorem mulT_add (T : Nat → Nat) (i w : Nat) : ∀ (n v : Nat), mulT (fun r => if r = i then T i ^^^ w else T r) n v = mulT T n v ^^^ (if i < n ∧ v.testBit i = true then w else 0)
  | 0, v => by simp [mulT]
  | n + 1, v => by
    show (if v.testBit n = true then (if n = i then T i ^^^ w else T n) else 0) ^^^ mulT (fun r => if r = i then T i ^^^ w else T r) n v = ((if v.testBit n = true then T n else 0) ^^^ mulT T n v) ^^^ _
    rw [mulT_add T i w n v]
    by_cases e : n = i
    · subst e
      rw [if_pos rfl, if_neg (show ¬ (n < n ∧ v.testBit n = true) from fun z => absurd z.1 (Nat.lt_irrefl _))]
      cases hb : v.testBit n
      · simp
      · simp
        rw [Nat.xor_assoc, Nat.xor_assoc, Nat.xor_comm w]
    · rw [if_neg e]
      by_cases c : i < n ∧ v.testBit i = true
      · rw [if_pos c, if_pos (show i < n + 1 ∧ v.testBit i = true from ⟨by omega, c.2⟩), Nat.xor_assoc]
      · rw [if_neg c, if_neg (show ¬ (i < n + 1 ∧ v.testBit i = true) from fun z => c ⟨by omega, z.2⟩), Nat.xor_zero, Nat.xor_zero]
theorem mulT_slide {T : Nat → Nat} {i j n : Nat} (h : i < j) (hj : j < n) (v : Nat) : mulT (sT T i j) n (cE i j v) = cE i j (mulT T n v) := by
  have e1 : ∀ u, mulT (fun r => if r = i then T i ^^^ T j else T r) n u = mulT T n (cE i j u) := fun u => by
    rw [mulT_add, cE, mulT_xor]
    by_cases c : u.testBit i = true
    · rw [if_pos ⟨by omega, c⟩, if_pos c, mulT_pow T n j hj]
    · rw [if_neg (fun z => c z.2), if_neg c, mulT_zero]
  have e2 := mulT_cE (fun r => if r = i then T i ^^^ T j else T r) i j n (cE i j v)
  show mulT (fun r => cE i j (if r = i then T i ^^^ T j else T r)) n (cE i j v) = _
  rw [e2, e1, cE_two (by omega)]
theorem Up.slide {T : Nat → Nat} {n i j : Nat} {S : Nat → Nat} {p : Nat → Option Nat} (U : Up T n 0 S p) (h : i < j) (hj : j < n) : Up (sT T i j) n 0 (fun r => cE i j (S r)) p where
  lb := fun r h1 h2 => cE_lb h (U.lb r h1 h2)
  bd := fun r h1 h2 => cE_lt hj (U.bd r h1 h2)
  inv := U.inv
  img := fun r q h1 h2 e lt => by rw [mulT_slide h hj, U.img r q h1 h2 e lt]
  ker := fun r h1 h2 c => by rw [mulT_slide h hj, U.ker r h1 h2 c, cE_zero]
/-- the table of pairs -/
def pT (p : Nat → Option Nat) : Nat → Nat := fun r => match p r with
  | some q => if r < q then 2 ^ q else 0
  | none => 0
theorem Up.pairs {n : Nat} {p : Nat → Option Nat} (inv : ∀ r q, r < n → p r = some q → q < n ∧ q ≠ r ∧ p q = some r) : Up (pT p) n 0 (fun r => 2 ^ r) p where
  lb := fun r _ _ => LB.pow r
  bd := fun r _ h => Nat.pow_lt_pow_right (by decide) h
  inv := fun r q _ h e => ⟨Nat.zero_le _, inv r q h e⟩
  img := fun r q _ h e lt => by rw [mulT_pow _ n r h]; show (match p r with | some q => if r < q then 2 ^ q else 0 | none => 0) = _; rw [e]; exact if_pos lt
  ker := fun r _ h c => by
    rw [mulT_pow _ n r h]
    show (match p r with | some q => if r < q then 2 ^ q else 0 | none => 0) = _
    cases e : p r with
    | none => rfl
    | some q => exact if_neg (by have := c q e; omega)
end L2

/-! |= and ^= of ints, bit_length, reversed(range(n)) walked by for, an instance by its class's name -/
namespace L2
open PySem PySem.Spec PyProof.Rows
section
variable {X : Cx} {tg : Expr}
theorem ip_or : PIp X .BitOr (ipI fun i j => Builtin.bitOr i j) := by
  intro pins s σ H x y v u Q I r1 r2 ⟨i, j, e1, e2, q⟩
  subst e1 e2
  obtain ⟨t, rfl⟩ := r1
  obtain ⟨t', rfl⟩ := r2
  exact ior_int ⟨.int _, H, I.tok _, ⟨_, rfl⟩, q⟩
theorem ip_xor : PIp X .BitXor (ipI fun i j => Builtin.bitXor i j) := by
  intro pins s σ H x y v u Q I r1 r2 ⟨i, j, e1, e2, q⟩
  subst e1 e2
  obtain ⟨t, rfl⟩ := r1
  obtain ⟨t', rfl⟩ := r2
  exact ixor_int ⟨.int _, H, I.tok _, ⟨_, rfl⟩, q⟩
def rBits : V → List V → Hp → VK → Prop := fun x vs H Q => ∃ i : Int, x = .int i ∧ vs = [] ∧ Q (.int (Builtin.Int.intBits i : Nat)) H
theorem mt_bits : MtR X "int.bit_length" rBits := by
  intro pins s σ H x vs v us Q I rx rv h
  obtain ⟨i, rfl, rfl, q⟩ := h
  obtain ⟨t, rfl⟩ := rx
  have hus := rv.zero
  subst hus
  exact call_int_bit_length ⟨.int _, H, I.tok _, ⟨_, rfl⟩, q⟩
end
section
variable {prog : Program} {w : World} {A : Around} {E : Value → Shared → Prop} {s : Shared}
def rgIt (n : Nat) : Obj := { cls := .type "range_iterator", data := .fields #[rawInt ((n : Int) - 1), rawInt n, rawInt (-1)] }
theorem size_up (n : Nat) : Builtin.Range.rangeSize 0 n 1 = n := by
  unfold Builtin.Range.rangeSize
  rw [if_pos (by decide)]
  split
  · simp
  · omega
theorem meets_revR (r : Addr) (a b c : Int) (t u v : Tok) (hc0 : ¬(!(Builtin.Range.rangeFitsLong a && Builtin.Range.rangeFitsLong b && Builtin.Range.rangeFitsLong c && Builtin.Range.rangeFitsLong (-c) && Builtin.Range.rangeFitsLong (a - c) && Builtin.Range.rangeFitsLong (Builtin.Range.rangeSize a b c))) = true) :
    Meets (Builtin.«range.__reversed__» ⟨[.ref r], []⟩) (fun _ R s => IsRange s.heap r a b c t u v ∧ R (.ok (.ret (Value.ref s.heap.objs.size))) { s with heap := s.heap.push { cls := .type (if (Builtin.Range.rangeFitsLong a && Builtin.Range.rangeFitsLong b && Builtin.Range.rangeFitsLong c && Builtin.Range.rangeFitsLong (-c) && Builtin.Range.rangeFitsLong (a - c) && Builtin.Range.rangeFitsLong (Builtin.Range.rangeSize a b c)) = true then "range_iterator" else "longrange_iterator"), data := .fields #[rawInt (a + (Builtin.Range.rangeSize a b c - 1) * c), rawInt (Builtin.Range.rangeSize a b c), rawInt (-c)] } }) :=
  .of_wp fun prog w A R s h => by obtain ⟨hp, g, d, tk, os⟩ := s; obtain ⟨hl, h⟩ := h; wp_walk; exact ⟨_, rfl, h⟩
theorem run_revR {r : Addr} {n : Nat} {t u v : Tok} {Q : Value → Shared → Prop} (hn : n < 100000) (hr : IsRange s.heap r 0 n 1 t u v) (h : Q (.ref s.heap.objs.size) { s with heap := s.heap.push (rgIt n) }) :
    wpAny (model prog w) A (call (.builtin "range.__reversed__") [.ref r]) Q E s := by
  have sm : (Builtin.Range.rangeFitsLong 0 && Builtin.Range.rangeFitsLong n && Builtin.Range.rangeFitsLong 1 && Builtin.Range.rangeFitsLong (-1) && Builtin.Range.rangeFitsLong (0 - 1) && Builtin.Range.rangeFitsLong (Builtin.Range.rangeSize 0 n 1)) = true := by
    rw [size_up, fits_small (i := 0) (by decide) (by decide), fits_small (i := (n : Int)) (by omega) (by omega), fits_small (i := 1) (by decide) (by decide), fits_small (i := -1) (by decide) (by decide), fits_small (i := 0 - 1) (by decide) (by decide)]
    rfl
  refine call_meets F.slot_range_reversed ⟨_, hr, rfl⟩ F.entry_range_reversed (F.args_range_reversed_1 _) (meets_revR r 0 n 1 t u v (by rw [sm]; decide)) ⟨hr, ?_⟩
  rw [if_pos sm, size_up, show (0 : Int) + ((n : Int) - 1) * 1 = (n : Int) - 1 by omega]
  exact h
theorem new_revR {r : Addr} {n : Nat} {t u v : Tok} {Q₁ : Value → Shared → Prop} (hn : n < 100000) (hr : IsRange s.heap r 0 n 1 t u v) (h : Q₁ (.ref s.heap.objs.size) { s with heap := s.heap.push (rgIt n) }) :
    codeAny (model prog w) A (.call (.builtin "reversed.__new__") ⟨[.type "reversed", .ref r], []⟩) (wants Q₁ E) s := by
  have ty : s.TypeIs (.ref r) "range" := ⟨_, hr, rfl⟩
  refine codeAny_of_tree (show wpAny _ A.in1 (do checkBuiltinCall "reversed.__new__" ⟨[.type "reversed", .ref r], []⟩; again (.builtin "reversed.__new__" ⟨[.type "reversed", .ref r], []⟩)) _ _ s from ?_)
  refine wpAny_bind (wpAny_of_eq (F.newCall_reversed_1 (.ref r)) (wpAny_pure ⟨plainId_quiet F.plain_reversed_new _, codeAny_builtin F.entry_reversed_new ?_⟩)); rw [Around.under_plainId F.plain_reversed_new _]; unfold Builtin.«reversed.__new__»
  refine wpAny_bind (wpAny_of_eq (newClass_reversed (.ref r)) ?_); try dsimp only
  refine wpAny_bind (wpAny_of_eq (a := ()) (by first | rfl | kernel_rfl) (wpAny_bind (wpAny_of_eq (a := ()) (by first | rfl | kernel_rfl) ?_))); try dsimp only
  refine wpAny_bind (wpAny_specialOf ty F.slot_range_reversed.lookup ?_); try dsimp only
  refine wpAny_bind (wpAny_of_eq (F.slot_range_reversed.bind _) ?_); try dsimp only
  have nn : ¬ ((Value.builtin "range.__reversed__" == Value.none) = true) := Bool.false_ne_true
  rw [if_neg nn]
  refine wpAny_bind (wpAny_rule (wpAny_bind (m := runValue (.call (.builtin "range.__reversed__") ⟨[.ref r], []⟩)) (show wpAny _ _ (call (.builtin "range.__reversed__") [.ref r]) _ _ _ from run_revR hn hr ?_)))
  first
    | exact wpAny_pure h
    | exact wpAny_bind (wpAny_pure (wpAny_pure h))
theorem sub_rgi_rev : isSubtype (.type "range_iterator") (.type "reversed") = pure false := by rw [isSubtype_type]; kernel_rfl
theorem call_revR {r : Addr} {n : Nat} {t u v : Tok} {Q : Value → Shared → Prop} (hn : n < 100000) (hr : IsRange s.heap r 0 n 1 t u v) (h : Q (.ref s.heap.objs.size) { s with heap := s.heap.push (rgIt n) }) :
    wpAny (model prog w) A (call (.type "reversed") [.ref r]) Q E s := by
  refine callType_other (U := "range_iterator") (Q₁ := fun obj s₁ => obj = .ref s.heap.objs.size ∧ s₁ = { s with heap := s.heap.push (rgIt n) }) (by decide +kernel) F.create_reversed ⟨_, _, F.mro_reversed⟩ F.made_reversed sub_rgi_rev (F.typeCall_reversed_1 (.ref r)) (new_revR hn hr ⟨rfl, rfl⟩) ?_
  rintro obj s₁ ⟨rfl, rfl⟩
  exact ⟨⟨_, Heap.get?_push_size _ rfl, rfl⟩, h⟩
end
section
variable {X : Cx} {tg : Expr}
def iRev (ta : TA) : TI := fun σ H R => ta σ H fun vs H1 => ∃ (r : Addr) (n : Nat), vs = [.ref r] ∧ H1 r = some (.rng 0 n) ∧ n < 100000 ∧ R (ItrD ((n : Int) - 1) n) H1
theorem pi_revR {a : Expr} {ta : TA} {p pos : Pos} (hg : Gl X "reversed") (hm : X.mg "reversed" = none) (ha : PA X [a] ta) (hs : starEach [a] X.env = [(false, eval a X.env)] := by rfl) : PI X tg (.Call (.Name "reversed" p) [a] [] pos) (iRev ta) := by
  intro pins s σ H R I h
  refine Call_ (ld_blt I hg hm boot_reversed (PyProof.Rows.callWith_type1 (thn (ha pos pins s σ H _ I h) fun us s1 ⟨vs, H1, I1, r1, q1⟩ => ?_) hs rfl))
  obtain ⟨r, n, rfl, hH, hn, q⟩ := q1
  obtain ⟨u, rfl, ru⟩ := r1.one
  cases ru
  obtain ⟨t, u, v, e⟩ := (show ObjOk X.prog X.w H1 s1.heap r (.rng 0 n) from I1.hok r _ hH)
  have I2 : Inv X pins σ H1 { s1 with heap := s1.heap.push (rgIt n) } := I1.kept (t' := s1.toks) fun b o e => Heap.get?_push_of_some _ e
  have at' : (s1.heap.push (rgIt n)).get? s1.heap.objs.size = some (rgIt n) := Heap.get?_push_size _ rfl
  refine call_revR hn e (wpAny_pyIter_rangeiter (x := (n : Int) - 1) (left := n) (step := -1) at' ?_)
  refine ⟨s1.heap.objs.size, [s1.heap.objs.size], _, _, H1, rfl, I2, turn_rangeD _ ((n : Int) - 1) n, ?_, fun b hb => ?_, q⟩
  · show IsRangeIter _ _ (((n : Int) - 1) + ((0 : Nat) : Int) * (-1)) (((n : Nat) : Int) - ((0 : Nat) : Int)) (-1)
    rw [show ((n : Int) - 1) + ((0 : Nat) : Int) * (-1) = (n : Int) - 1 by simp, show ((n : Nat) : Int) - ((0 : Nat) : Int) = n by simp]
    exact at'
  · have e : b = s1.heap.objs.size := by simpa using hb
    subst e
    exact I1.fpOk (Nat.le_refl _) (I1.hok.fresh (Nat.le_refl _))
/-- C(..), __init__ by its class -/
def HasI (P : Program) (w : World) (K : PySem.W.Frag) (mg : Str → Option Value) (base : Heap) (k : Nat) (C : Addr) (ps : List Str) (sp : Sp) : Prop :=
  ∃ (f : Addr) (fd : FuncData), FnOk P w K mg base CX0 k f fd ps sp ∧ Mk K C f ∧ Binds K fd ps []
theorem pe_hasI {k : Nat} {C : Addr} {x : Str} {ps : List Str} {sp : Sp} {e : Expr} {es : List Expr} {t : TA} {p pos : Pos} (h : HasI X.prog X.w X.K X.mg X.base k C ps sp) (hr : Room (k + 1) X.A) (hg : Gl X x) (hm : X.mg x = some (.ref C))
    (ha : PA X (e :: es) t) (hdb : (x == ("__debug__" : Str)) = false := by decide) (he : starEach (e :: es) X.env = (false, eval e X.env) :: starEach es X.env := by rfl) (hpl : (backTo pos (starEach es X.env)).any (·.1) = false := by rfl) :
    PE X (.Call (.Name x p) (e :: es) [] pos) (tMake C sp [] E0 t) := by
  obtain ⟨f, fd, G, M, hb⟩ := h
  exact pe_make M G hr hg hm hb .nil pass0 ha hdb he hpl
end
end L2

/-! masks below 256 as the program's ints -/
namespace L2
open PySem PyProof.Rows
theorem xor_add : ∀ (n a b : Nat), a ≤ n → (a ^^^ b) + 2 * (a &&& b) = a + b := by
  intro n
  induction n with
  | zero =>
    intro a b h
    rw [show a = 0 by omega]
    simp
  | succ n ih =>
    intro a b h
    by_cases z : a = 0
    · rw [z]; simp
    · have i := ih (a / 2) (b / 2) (by omega)
      have d1 : (a ^^^ b) / 2 = a / 2 ^^^ b / 2 := Nat.xor_div_two
      have d2 : (a &&& b) / 2 = a / 2 &&& b / 2 := Nat.and_div_two
      have m1 : (a ^^^ b) % 2 = (a % 2) ^^^ (b % 2) := Nat.xor_mod_two_pow (n := 1)
      have m2 : (a &&& b) % 2 = (a % 2) &&& (b % 2) := Nat.and_mod_two_pow (n := 1)
      have key : ((a % 2) ^^^ (b % 2)) + 2 * ((a % 2) &&& (b % 2)) = a % 2 + b % 2 := by
        have ha : a % 2 = 0 ∨ a % 2 = 1 := by omega
        have hb : b % 2 = 0 ∨ b % 2 = 1 := by omega
        rcases ha with ha | ha <;> rcases hb with hb | hb <;> rw [ha, hb] <;> rfl
      rw [← d1, ← d2] at i
      rw [← m1, ← m2] at key
      omega
theorem xorI (a b : Nat) : Builtin.bitXor ((a : Nat) : Int) ((b : Nat) : Int) = ((a ^^^ b : Nat) : Int) := by
  rw [bitXor_and, bitAnd_pp (by omega) (by omega)]
  have := xor_add a a b (Nat.le_refl _)
  show (a : Int) + b - 2 * ((a &&& b : Nat) : Int) = _
  omega
theorem or8 : ∀ j, j < 8 → ∀ m, m < 2 ^ j → ∀ b, b < 2 → Builtin.bitOr ((m : Nat) : Int) (((b : Nat) : Int) * 2 ^ j) = ((m + b * 2 ^ j : Nat) : Int) := by decide +kernel
def lbit (m : Nat) : Nat := Nat.log2 (m &&& ((256 - m) % 256))
theorem lb8 : ∀ m, m < 256 → m ≠ 0 → (m.testBit (lbit m) = true ∧ (∀ k, k < lbit m → m.testBit k = false)) := by decide +kernel
theorem least8 : ∀ m, m < 256 → m ≠ 0 → ((Builtin.Int.intBits (Builtin.bitAnd ((m : Nat) : Int) (-((m : Nat) : Int))) : Nat) : Int) - 1 = ((lbit m : Nat) : Int) := by decide +kernel
theorem shr8 : ∀ m, m < 256 → ∀ j, j < 8 → Builtin.bitAnd (((m : Nat) : Int) / 2 ^ j) 1 = (((m.testBit j).toNat : Nat) : Int) := by decide +kernel
theorem lb_of {m : Nat} (h : m < 256) (z : m ≠ 0) : LB m (lbit m) := lb8 m h z
/-- the bits of a mask -/
def brow (n v : Nat) : List Int := (List.range n).map fun j => (((v.testBit j).toNat : Nat) : Int)
theorem brow_len (n v : Nat) : (brow n v).length = n := by simp [brow]
theorem brow_at {n v j : Nat} (h : j < n) : (brow n v)[j]? = some (((v.testBit j).toNat : Nat) : Int) := by simp [brow, h]
/-- the mask of the first bits -/
def mBits (v : Nat) : Nat → Nat
  | 0 => 0
  | j + 1 => mBits v j + (v.testBit j).toNat * 2 ^ j
theorem mBits_mod (v : Nat) : ∀ j, mBits v j = v % 2 ^ j
  | 0 => by show 0 = v % 1; omega
  | j + 1 => by
    show mBits v j + (v.testBit j).toNat * 2 ^ j = v % 2 ^ (j + 1)
    rw [mBits_mod v j, Nat.mod_pow_succ, Nat.toNat_testBit, Nat.mul_comm]
theorem mBits_all {v n : Nat} (h : v < 2 ^ n) : mBits v n = v := by rw [mBits_mod, Nat.mod_eq_of_lt h]
theorem mBits_lt (v j : Nat) : mBits v j < 2 ^ j := by rw [mBits_mod]; exact Nat.mod_lt _ (Nat.two_pow_pos j)
section
variable {X : Cx}
theorem pe_fldK {K : PySem.W.Frag} {e : Expr} {f : Str} {ta : TE} {pos : Pos} (hk : X.K = K) (h : PE X (.Attribute e f pos) (tFld X.K ta f)) : PE X (.Attribute e f pos) (tFld K ta f) := hk ▸ h
theorem ps_fldK {K : PySem.W.Frag} {o value : Expr} {f : Str} {ta tv : TE} {pos pos' : Pos} (hk : X.K = K) (h : PS X (.Assign [.Attribute o f pos'] value pos) (sFld X.K ta tv f)) : PS X (.Assign [.Attribute o f pos'] value pos) (sFld K ta tv f) := hk ▸ h
theorem pt_truthK {K : PySem.W.Frag} {a : Expr} {ta : TE} (hk : X.K = K) (h : PT X a (fun σ H Q => ta σ H fun x H' => ∃ k, TruV X.K x H' k ∧ Q k H')) : PT X a (fun σ H Q => ta σ H fun x H' => ∃ k, TruV K x H' k ∧ Q k H') := hk ▸ h
def rGetN (K : PySem.W.Frag) : V → V → Hp → VK → Prop := fun x y H Q => ∃ (p : Addr) (xs : List V) (j : Nat) (v : V), x = .ref p ∧ y = .int j ∧ SqL K H p xs ∧ xs[j]? = some v ∧ Q v H
theorem get_list : PGet X (rGetN X.K) := by
  intro pins s σ H o i ov iv Q I ro ri h
  obtain ⟨p, xs, j, v, rfl, rfl, hq, hx, q⟩ := h
  cases ro
  obtain ⟨t, rfl⟩ := ri
  obtain ⟨its, r, pl, hz⟩ := I.list hq
  obtain ⟨w, ew, rw'⟩ := r.get hx
  have hj : j < its.length := (List.getElem?_eq_some_iff.mp ew).1
  have hl := r.length
  have hn := line63
  refine wpAny_getItem_list pl.isList (by omega) (by rw [sizeLine_eq] at *; omega) (by simpa using ew) ⟨v, H, I, rw', q⟩
theorem get_listK {K : PySem.W.Frag} (hk : X.K = K) : PGet X (rGetN K) := hk ▸ get_list
end
end L2

namespace L2
open PySem PySem.Spec PyProof.Rows
section
variable {X : Cx}
theorem call_anyI (hc : X.calm = true) : CallR X (.builtin "any") (fun xs H Q => ∃ (p : Addr) (ns : List Int), xs = [.ref p] ∧ SqL X.K H p (ns.map V.int) ∧ Q (.bl ((ns.map (· != 0)).any id)) H) := by
  intro pins s σ H xs us Q I r h
  obtain ⟨p, ns, rfl, hq, q⟩ := h
  obtain ⟨bs, hbs⟩ : ∃ bs, bs = ns.map (· != 0) := ⟨_, rfl⟩
  rw [← hbs] at q
  have lb : bs.length = ns.length := by rw [hbs, List.length_map]
  obtain ⟨u, rfl, ru⟩ := r.one
  cases ru
  obtain ⟨its, rv, pl, hz⟩ := I.list hq
  have hlen : bs.length = its.length := by rw [lb]; simpa using rv.length
  have hh : X.A.in1.handled = none := I.ok.hd hc
  have hp : p < s.heap.objs.size := by
    obtain ⟨o, ho, _⟩ := pl.isList
    exact Heap.lt_size ho
  refine call_any_walk (wpAny_pyIter_list pl.isList ?_)
  refine ⟨s.heap.objs.size, _, _, _, _, _, fun i => bs.getD i false, rfl, Walks.list hh s.heap.objs.size p (Nat.ne_of_lt hp) its.toArray, ⟨⟨_, Heap.get?_push_size _ rfl, rfl, rfl⟩, ?_⟩, fun i v s2 Q2 E2 hv hq2 => ?_, fun h' tk kk => ?_⟩
  · obtain ⟨o, ho, r⟩ := pl.isList
    exact ⟨o, Heap.get?_push_of_some _ ho, r⟩
  · have hv' : its[i]? = some v := by simpa using hv
    have hi : i < bs.length := by rw [hlen]; exact (List.getElem?_eq_some_iff.mp hv').1
    obtain ⟨w, hw, rw'⟩ := rv.get (i := i) (x := .int (ns.getD i 0)) (by simp [show i < ns.length by omega])
    rw [hv'] at hw
    cases hw
    obtain ⟨t, rfl⟩ := rw'
    refine PyProof.Rows.truthy_int ?_
    have e : bs.getD i false = (ns.getD i 0 != 0) := by
      have hi2 : i < ns.length := by omega
      rw [hbs]; simp [hi2]
    rw [← e]
    exact hq2
  · have hk : ∀ b o, s.heap.get? b = some o → h'.get? b = some o := fun b o e => kk b o (fun z => by
      have z' : b = s.heap.objs.size := by simpa using z
      exact Nat.lt_irrefl _ (z' ▸ Heap.lt_size e)) (Heap.get?_push_of_some _ e)
    refine ⟨.bl (bs.any id), H, I.kept (t' := tk) hk, ?_, q⟩
    have e : its.toArray.size = bs.length := by rw [List.size_toArray, hlen]
    rw [e, range_any]
    rfl
theorem call_anyIK {K : PySem.W.Frag} (h : X.K = K) (hc : X.calm = true) : CallR X (.builtin "any") (fun xs H Q => ∃ (p : Addr) (ns : List Int), xs = [.ref p] ∧ SqL K H p (ns.map V.int) ∧ Q (.bl ((ns.map (· != 0)).any id)) H) := h ▸ call_anyI hc
end
/-- the sum of the products, by what two leaves -/
def dotP (B : Nat → Nat) (v j : Nat) : Nat → Nat
  | 0 => 0
  | m + 1 => dotP B v j m + (v.testBit m).toNat * ((B m).testBit j).toNat
theorem dotP_bit (B : Nat → Nat) (v j : Nat) : ∀ m, dotP B v j m % 2 = ((mulT B m v).testBit j).toNat
  | 0 => by simp [dotP, mulT]
  | m + 1 => by
    have ih := dotP_bit B v j m
    show (dotP B v j m + (v.testBit m).toNat * ((B m).testBit j).toNat) % 2 = (((if v.testBit m = true then B m else 0) ^^^ mulT B m v).testBit j).toNat
    rw [Nat.testBit_xor, Nat.add_mod, ih]
    cases v.testBit m <;> simp
    · cases (mulT B m v).testBit j <;> decide
    · cases (B m).testBit j <;> cases (mulT B m v).testBit j <;> decide
end L2

/-! Comprehensions whose own names are cells: another comprehension within reads them. -/
namespace L2
open PySem PySem.Spec PyProof.Rows
structure LcScopeC (N : List Str) (osc scope : Scope) (Ls Fs : List Str) (fi : List Nat) : Prop where
  kind : scope.kind = .function
  cells : ∀ y ∈ scope.names, y.2 = .cell → scope.names.lookup y.1 = some .cell
  names : ∀ y ∈ scope.names, y.2 = .local → scope.names.lookup y.1 = some .local
  fre : ∀ x ∈ Fs, scope.names.lookup x = some .free
  all : ∀ y ∈ scope.names, y.2 = .free → osc.names.lookup y.1 = some .cell ∨ osc.names.lookup y.1 = some .free
  ix : fi.map (fun i => N[i]?) = Fs.map some
def lcLookC (N : List Str) (osc scope : Scope) (Fs : List Str) (fi : List Nat) : Bool :=
  (scope.kind == .function) && scope.names.all (fun y => y.2 != .cell || scope.names.lookup y.1 == some .cell) && scope.names.all (fun y => y.2 != .local || scope.names.lookup y.1 == some .local) && Fs.all (fun x => scope.names.lookup x == some .free) &&
    scope.names.all (fun y => y.2 != .free || osc.names.lookup y.1 == some .cell || osc.names.lookup y.1 == some .free) && (fi.map (fun i => N[i]?) == Fs.map some)
theorem LcScopeC.of {N : List Str} {osc scope : Scope} {Ls Fs : List Str} {fi : List Nat} (h : lcLookC N osc scope Fs fi = true) : LcScopeC N osc scope Ls Fs fi := by
  simp only [lcLookC, Bool.and_eq_true, List.all_eq_true, Bool.or_eq_true, bne_iff_ne, beq_iff_eq] at h
  obtain ⟨⟨⟨⟨⟨h1, h2⟩, h3⟩, h4⟩, h5⟩, h6⟩ := h
  refine ⟨h1, fun y hy hl => (h2 y hy).elim (fun z => absurd hl z) id, fun y hy hl => (h3 y hy).elim (fun z => absurd hl z) id, h4, fun y hy hf => ?_, h6⟩
  rcases h5 y hy with (z | z) | z
  · exact absurd hf z
  · exact .inl z
  · exact .inr z
def blkC (X : Cx) (scope : Scope) (N : List Str) (cs : List (Str × Addr)) (C : Addr) (s3 : Shared) (H3 : Hp) (ex : List Addr) : Cx :=
  { X with N := N, s₀ := s3, H₀ := H3, env := compEnvC scope cs C X.env, outer := X.stack, stack := X.stack, ex := ex, fn := fun x => scope.names.lookup x == some .cell, pn := [], xe := fun _ _ => False }
/-! ### cells laid behind a closure -/
theorem cf_cell : ∀ (names : List (Str × NameKind)) (h : Heap) (acc : List (Str × Addr)) (x : Str) (c : Addr), (cellsFrom h.objs.size names acc).lookup x = some c → acc.lookup x = some c ∨ (h.objs.size ≤ c ∧ (pushCells h names).IsCell c none)
  | [], h, acc, x, c, e => .inl e
  | (n, k) :: r, h, acc, x, c, e => by
    unfold cellsFrom at e
    unfold pushCells
    split at e
    · rename_i hk
      rw [if_pos hk]
      have ih := cf_cell r (h.push { cls := .type "cell", data := .cell none }) ((n, h.objs.size) :: acc) x c (by rw [Heap.size_push]; exact e)
      rw [Heap.size_push] at ih
      rcases ih with ih | ⟨ih, q⟩
      · rw [List.lookup_cons] at ih
        cases hx : x == n with
        | true =>
          rw [hx] at ih
          have : h.objs.size = c := Option.some.inj ih
          subst this
          exact .inr ⟨Nat.le_refl _, pushCells_keeps _ _ _ _ (Heap.get?_push_size _ rfl) |> fun z => ⟨_, z, rfl⟩⟩
        | false => rw [hx] at ih; exact .inl ih
      · exact .inr ⟨Nat.le_of_succ_le ih, q⟩
    · rename_i hk
      rw [if_neg hk]
      exact cf_cell r h acc x c e
theorem cf_keep : ∀ (names : List (Str × NameKind)) (n : Nat) (acc : List (Str × Addr)) (x : Str), (∀ y ∈ names, y.2 = .cell → y.1 ≠ x) → (cellsFrom n names acc).lookup x = acc.lookup x
  | [], _, _, _, _ => rfl
  | (m, k) :: r, n, acc, x, h => by
    unfold cellsFrom
    split
    · rename_i hk
      have hk' : k = .cell := by simpa using hk
      rw [cf_keep r _ _ x fun y hy => h y (List.mem_cons_of_mem _ hy), List.lookup_cons]
      have : (x == m) = false := beq_eq_false_iff_ne.mpr (Ne.symm (h (m, k) List.mem_cons_self hk'))
      rw [this]
    · exact cf_keep r _ _ x fun y hy => h y (List.mem_cons_of_mem _ hy)
theorem cf_has : ∀ (names : List (Str × NameKind)) (n : Nat) (acc : List (Str × Addr)) (x : Str), ((∃ c, acc.lookup x = some c) ∨ (x, NameKind.cell) ∈ names) → ∃ c, (cellsFrom n names acc).lookup x = some c
  | [], _, _, _, h => h.elim id fun h => (nomatch h)
  | (m, k) :: r, n, acc, x, h => by
    unfold cellsFrom
    split
    · refine cf_has r _ _ x ?_
      rcases h with ⟨c, h⟩ | h
      · rw [List.lookup_cons]
        cases hx : x == m with
        | true => exact .inl ⟨_, rfl⟩
        | false => exact .inl ⟨c, h⟩
      · rcases List.mem_cons.mp h with e | h
        · cases e; exact .inl ⟨n, by rw [List.lookup_cons, beq_self_eq_true]⟩
        · exact .inr h
    · rename_i hk
      refine cf_has r _ _ x ?_
      rcases h with h | h
      · exact .inl h
      · rcases List.mem_cons.mp h with e | h
        · cases e; exact absurd rfl hk
        · exact .inr h
theorem cf_own : ∀ (names : List (Str × NameKind)) (n : Nat) (acc : List (Str × Addr)) (x : Str), (x, NameKind.cell) ∈ names → ∀ c, (cellsFrom n names acc).lookup x = some c → n ≤ c
  | (m, k) :: r, n, acc, x, h, c, e => by
    by_cases hr : (x, NameKind.cell) ∈ r
    · unfold cellsFrom at e
      split at e
      · exact Nat.le_of_succ_le (cf_own r _ _ x hr c e)
      · exact cf_own r _ _ x hr c e
    · rcases List.mem_cons.mp h with q | q
      · cases q
        unfold cellsFrom at e
        rw [if_pos (by rfl), cf_keep r _ _ m (fun y hy hk z => hr (by rw [← z, ← hk]; exact hy)), List.lookup_cons, beq_self_eq_true] at e
        exact Nat.le_of_eq (Option.some.inj e)
      · exact absurd q hr
theorem cf_inj : ∀ (names : List (Str × NameKind)) (n : Nat) (acc : List (Str × Addr)), (∀ x c, acc.lookup x = some c → @LT.lt Nat _ c n) → (∀ x y c, acc.lookup x = some c → acc.lookup y = some c → x = y) →
    ∀ x y c, (cellsFrom n names acc).lookup x = some c → (cellsFrom n names acc).lookup y = some c → x = y
  | [], _, _, _, h => h
  | (m, k) :: r, n, acc, hb, h => by
    unfold cellsFrom
    split
    · refine cf_inj r _ _ (fun x c e => ?_) fun x y c e1 e2 => ?_
      · rw [List.lookup_cons] at e
        cases hx : x == m with
        | true => rw [hx] at e; cases e; exact Nat.lt_succ_self _
        | false => rw [hx] at e; exact Nat.lt_succ_of_lt (hb x c e)
      · rw [List.lookup_cons] at e1 e2
        cases hx : x == m with
        | true =>
          rw [hx] at e1
          have e1' : n = c := Option.some.inj e1
          cases hy : y == m with
          | true => rw [beq_iff_eq.mp hx, beq_iff_eq.mp hy]
          | false => rw [hy] at e2; exact absurd (hb y c e2) (by rw [e1']; exact Nat.lt_irrefl _)
        | false =>
          rw [hx] at e1
          cases hy : y == m with
          | true =>
            rw [hy] at e2
            have e2' : n = c := Option.some.inj e2
            exact absurd (hb x c e1) (by rw [e2']; exact Nat.lt_irrefl _)
          | false => rw [hy] at e2; exact h x y c e1 e2
    · exact cf_inj r _ _ hb h
theorem relabel_any {env : Env} : ∀ {names : List (Str × NameKind)} {x : Str},
    ((names.map fun (n, k) => if (k == NameKind.free && env.scope.kind == .function && env.kindOf n == some .cell) then (n, NameKind.cell) else (n, k)).lookup x = some .cell ∨
     (names.map fun (n, k) => if (k == NameKind.free && env.scope.kind == .function && env.kindOf n == some .cell) then (n, NameKind.cell) else (n, k)).lookup x = some .free) → (∃ y ∈ names, y.1 = x ∧ y.2 = .free) ∨ (x, NameKind.cell) ∈ names
  | [], _, h => by simp at h
  | (n, k) :: r, x, h => by
    have ih := @relabel_any env r x
    cases hx : x == n with
    | true =>
      have e : x = n := by simpa using hx
      subst e
      by_cases hb : (k == NameKind.free && env.scope.kind == .function && env.kindOf x == some .cell) = true
      · have : k = .free := by
          simp only [Bool.and_eq_true, beq_iff_eq] at hb
          exact hb.1.1
        exact .inl ⟨(x, k), List.mem_cons_self, rfl, this⟩
      · simp only [List.map_cons, if_neg hb, List.lookup_cons, hx] at h
        rcases h with h | h
        · have : k = .cell := Option.some.inj h
          subst this
          exact .inr List.mem_cons_self
        · exact .inl ⟨(x, k), List.mem_cons_self, rfl, Option.some.inj h⟩
    | false =>
      have h' : ((r.map fun (n, k) => if (k == NameKind.free && env.scope.kind == .function && env.kindOf n == some .cell) then (n, NameKind.cell) else (n, k)).lookup x = some .cell ∨
        (r.map fun (n, k) => if (k == NameKind.free && env.scope.kind == .function && env.kindOf n == some .cell) then (n, NameKind.cell) else (n, k)).lookup x = some .free) := by
        by_cases hb : (k == NameKind.free && env.scope.kind == .function && env.kindOf n == some .cell) = true
        · simpa only [List.map_cons, if_pos hb, List.lookup_cons, hx] using h
        · simpa only [List.map_cons, if_neg hb, List.lookup_cons, hx] using h
      rcases ih h' with ⟨y, hy, z⟩ | hy
      · exact .inl ⟨y, List.mem_cons_of_mem _ hy, z⟩
      · exact .inr (List.mem_cons_of_mem _ hy)
theorem wpAny_newEnvC {M : Model} {A : Around} {E : Value → Shared → Prop} {s : Shared} {scope : Scope} {globals : Addr} {closure : List (Str × Addr)} {qual : Str} {func : Option Addr} {code : Value} {outer : Env} {builtins : Addr} {Q : Env → Shared → Prop}
    (hQ : ∀ h', h' = pushCells (s.heap.push { cls := .type "dict", data := .dict #[] }) scope.names → h'.Ns s.heap.objs.size (fun _ => none) → (∀ b o, s.heap.get? b = some o → h'.get? b = some o) →
      Q (newEnv scope s.heap.objs.size globals (cellsFrom (s.heap.objs.size + 1) scope.names closure) qual func code (some outer) builtins) { s with heap := h' }) :
    wpAny M A (newFunctionEnv scope globals closure [] qual func code (some outer) builtins) Q E s := by
  simp only [newFunctionEnv, Option.isSome_some, if_true]
  refine wpAny_bind (wpAny_alloc ?_)
  refine wpAny_bind (wpAny_layCells _ (fun name kind cells => by cases hkc : kind == NameKind.cell <;> simp [hkc]) _ _ _ _ ?_)
  rw [show ({ s with heap := s.heap.push { cls := .type "dict", data := .dict #[] } } : Shared).heap.objs.size = s.heap.objs.size + 1 from Heap.size_push ..]
  refine wpAny_bind ?_
  rw [List.forIn_nil]
  exact wpAny_pure (wpAny_pure (hQ _ rfl ((Heap.Ns.new s.heap (.type "dict")).keeps (pushCells_keeps _ _)) fun b o e => pushCells_keeps _ _ b o (Heap.get?_push_of_some _ e)))

section
variable {X : Cx} {pins : List (Addr × Obj)} {σ : St} {tg elt iter : Expr} {ifs : List Expr} {scope : Scope} {pos : Pos} {Ls Fs : List Str} {fi : List Nat} {g : TG} {tc : TT} {te : TE}
theorem lc_blockC {H2 : Hp} {s2 : Shared} {it : Addr} {fp : List Addr} {tn : Nat → Heap → Prop} {J : It} {cl : List (Str × Addr)} {Q : VK} {E : Value → Shared → Prop} {RR : Value → Addr → Result → Shared → Prop}
    (S : LcScopeC X.N X.env.scope scope Ls Fs fi) (hc : X.calm = true)
    (hb : ∀ cs C s3 H3 ex, PG (blkC X scope (Ls ++ Fs) cs C s3 H3 ex) tg g ∧ PTs (blkC X scope (Ls ++ Fs) cs C s3 H3 ex) ifs tc ∧ PE (blkC X scope (Ls ++ Fs) cs C s3 H3 ex) elt te)
    (hcl1 : ∀ x c, cl.lookup x = some c → X.env.cells.lookup x = some c) (hcl2 : ∀ y ∈ scope.names, y.2 = .free → ∃ c, cl.lookup y.1 = some c)
    (I2 : Inv X pins σ H2 s2) (T : Turn X.prog X.w X.K tg J fp it tn) (st2 : tn 0 s2.heap) (f2 : ∀ b ∈ fp, FpOk X pins H2 b)
    (hW : ∃ W : Nat → Nat → List V → Hp → Prop, (∃ m, W 0 m [] H2) ∧ ∀ i m ys H, W i m ys H →
      (J.stop i H ∧ ys.length ≤ sizeLine ∧ ∀ D, H D = none → Q (.ref D) (upd H D (.lst ys))) ∨
      (J.go i H ∧ ys.length ≤ sizeLine ∧ ∃ N : List V → Hp → Prop, (∀ ys' H', N ys' H' → ∃ m', m' < m ∧ W (i + 1) m' ys' H') ∧ ∀ x H', J.yld i H x H' → g x (capt Ls.length fi σ) H' fun σ2 H2 =>
        tc σ2 H2 fun b H3 => if b = true then te σ2 H3 fun y H4 => N (ys ++ [y]) H4 else N ys H3))
    (fin : ∀ D C H' s' m, Inv X pins σ H' s' → Q (.ref D) H' → s'.heap.Ns C m → FpOk X pins H' C → RR (.ref D) C (.ok .next) s') :
    wpAny (model X.prog X.w) X.A (newList []) (fun acc s₃ => wpAny (model X.prog X.w) X.A (newFunctionEnv scope X.env.globals cl [] X.env.qual none .none (some X.env)) (fun cenv s₄ =>
      codeAny (model X.prog X.w) X.A (.compStart (.ListComp elt [⟨tg, iter, ifs, 0⟩] scope pos) 0 (.ref it) acc { cenv with scope := relabel scope X.env }) (RR acc cenv.locals) s₄) E s₃) E s2 := by
  refine wpAny_newObj_type (wpAny_newEnvC (fun h₁ eh₁ hns₁ k34 => ?_))
  dsimp only at eh₁ hns₁ k34 ⊢
  generalize hH3 : s2.heap.push { cls := .type "list", dict := none, data := .seq ([] : List Value).toArray } = h3 at eh₁ hns₁ k34 ⊢
  generalize hC : h3.objs.size = C at hns₁ ⊢
  generalize hcs : cellsFrom (C + 1) scope.names cl = cs
  generalize hD : s2.heap.objs.size = D
  have hCD : C = D + 1 := by rw [← hC, ← hH3, Heap.size_push, hD]
  have k23 : ∀ b o, s2.heap.get? b = some o → h3.get? b = some o := fun b o e => by rw [← hH3]; exact Heap.get?_push_of_some _ e
  have hDo : h3.get? D = some { cls := .type "list", data := .seq ([] : List Value).toArray } := by rw [← hH3, ← hD]; exact Heap.get?_push_size _ rfl
  obtain ⟨W, ⟨m0, w0⟩, turn⟩ := hW
  -- the state where the block begins
  have I3 : Inv X pins σ H2 { s2 with heap := h3 } := I2.kept (t' := s2.toks) k23
  have frD : H2 D = none := by rw [← hD]; exact I2.fresh
  have frC : H2 C = none := I2.hok.fresh (by omega)
  have DL : D ≠ X.env.locals := Nat.ne_of_gt (by have : @LT.lt Nat _ X.env.locals s2.heap.objs.size := I2.lt; omega)
  have CL : C ≠ X.env.locals := Nat.ne_of_gt (by have : @LT.lt Nat _ X.env.locals s2.heap.objs.size := I2.lt; omega)
  have cellLt : ∀ x c, X.env.cells.lookup x = some c → @LT.lt Nat _ c D := fun x c e => by
    obtain ⟨v, q⟩ := I2.cell x c e
    have : @LT.lt Nat _ c s2.heap.objs.size := q.lt
    omega
  have fpLt : ∀ b ∈ fp, @LT.lt Nat _ b D := fun b hb => by
    obtain ⟨o, e, _⟩ := T.obj _ _ st2 b hb
    have := aLt e
    omega
  have exLoc : ∀ b ∈ D :: fp, b ≠ C ∧ (∀ x c, X.env.cells.lookup x = some c → c ≠ b) := fun b hb => by
    rcases List.mem_cons.mp hb with e | hb
    · subst e
      exact ⟨Nat.ne_of_lt (by omega), fun x c e => Nat.ne_of_lt (cellLt x c e)⟩
    · exact ⟨Nat.ne_of_lt (by have := fpLt b hb; omega), (f2 b hb).2.2.2.2.1⟩
  have cs1 : ∀ x c, cs.lookup x = some c → cl.lookup x = some c ∨ (@LT.lt Nat _ C c ∧ h₁.IsCell c none) := fun x c e => by
    rw [← hcs] at e
    have hz : (h3.push { cls := .type "dict", data := .dict #[] } : Heap).objs.size = C + 1 := by rw [Heap.size_push, hC]
    have q := cf_cell scope.names (h3.push { cls := .type "dict", data := .dict #[] }) cl x c (by rw [hz]; exact e)
    rw [hz, ← eh₁] at q
    rcases q with q | ⟨q1, q2⟩
    · exact .inl q
    · exact .inr ⟨q1, q2⟩
  have clLt : ∀ x c, cl.lookup x = some c → @LT.lt Nat _ c D := fun x c e => cellLt x c (hcl1 x c e)
  have csNe : ∀ b ∈ D :: fp, ∀ x c, cs.lookup x = some c → c ≠ b := fun b hb x c e => by
    rcases cs1 x c e with q | ⟨q, _⟩
    · exact (exLoc b hb).2 x c (hcl1 x c q)
    · refine Nat.ne_of_gt ?_
      rcases List.mem_cons.mp hb with z | z
      · subst z; omega
      · have := fpLt b z; omega
  have csKeep : ∀ x, scope.names.lookup x = some .free → cs.lookup x = cl.lookup x := fun x hx => by
    rw [← hcs]
    exact cf_keep _ _ _ _ fun y hy hk e => by
      have := S.cells y hy hk
      rw [e, hx] at this; cases this
  have ok' : (blkC X scope (Ls ++ Fs) cs C { s2 with heap := h3 } H2 (D :: fp)).Ok := by
    refine ⟨I2.ok.mod, S.kind, I2.ok.glob, I2.ok.blt, ?_, fun x y c e1 e2 => ?_, fun x hx => ?_, fun x c hx e => ?_, I2.ok.hd, I2.ok.frames, .inl rfl,
      fun b hb => ⟨(exLoc b hb).1, csNe b hb⟩, I3.bs, Nat.le_trans I2.ok.bsz I3.sz, fun b o e hb => ?_, fun b hb => ?_, I3.stack, I3.stkFree⟩
    · show h3.objs.size ≤ C
      omega
    · refine cf_inj scope.names (C + 1) cl (fun x c e => ?_) (fun x y c e1 e2 => I2.ok.inj x y c (hcl1 x c e1) (hcl1 y c e2)) x y c (by rw [hcs]; exact e1) (by rw [hcs]; exact e2)
      have := clLt x c e; omega
    · rcases relabel_any hx with ⟨y, hy, e1, e2⟩ | hy
      · obtain ⟨c, q⟩ := hcl2 y hy e2
        show ∃ c, cs.lookup x = some c
        rw [← hcs]
        exact cf_has _ _ _ _ (.inl ⟨c, e1 ▸ q⟩)
      · show ∃ c, cs.lookup x = some c
        rw [← hcs]
        exact cf_has _ _ _ _ (.inr hy)
    · show h3.objs.size ≤ c
      have hx' : scope.names.lookup x = some .cell := by simpa [blkC] using hx
      have e' : (cellsFrom (C + 1) scope.names cl).lookup x = some c := by rw [hcs]; exact e
      have := cf_own _ _ _ _ (PySem.mem_of_lookup hx') c e'
      omega
    · rcases List.mem_cons.mp hb with z | hb
      · exact absurd z (Nat.ne_of_lt (by have := aLt (I2.bk b o e); omega))
      · rcases (f2 b hb).2.2.2.1 with z | z
        · exact I2.ok.noex b o e z
        · have h1 : @LT.lt Nat _ b X.base.objs.size := aLt e
          have h2 : @LE.le Nat _ X.base.objs.size X.s₀.heap.objs.size := I2.ok.bsz
          have h3 : @LE.le Nat _ X.s₀.heap.objs.size b := z
          omega
    · intro hz
      have hz' := I2.stkSub b hz
      rcases List.mem_cons.mp hb with e | hb
      · subst e
        rcases List.mem_cons.mp hz' with z | z
        · exact DL z
        · exact I2.nofs (by omega) z
      · rcases List.mem_cons.mp hz' with z | z
        · exact (f2 b hb).2.1 z
        · exact (f2 b hb).2.2.1 z
  obtain ⟨m2, hn2, hl2⟩ := id I2.loc
  -- the captured values lie in cells that no one changes
  have cap : ∀ (i : Nat) (x : Str) (v : V), (Ls ++ Fs)[i]? = some x → (capt Ls.length fi σ)[i]? = some (some v) → ∃ u c, RelV v u ∧ ((relabel scope X.env).names.lookup x = some .cell ∨ (relabel scope X.env).names.lookup x = some .free) ∧
      cs.lookup x = some c ∧ X.env.cells.lookup x = some c ∧ s2.heap.IsCell c (some u) := by
    intro i x v e1 e2
    unfold capt at e2
    by_cases hi : i < Ls.length
    · rw [List.getElem?_append_left (by simpa using hi), List.getElem?_replicate, if_pos hi] at e2
      cases e2
    · have hi' : Ls.length ≤ i := Nat.le_of_not_lt hi
      rw [List.getElem?_append_right hi'] at e1
      rw [List.getElem?_append_right (by simpa using hi'), List.length_replicate, List.getElem?_map] at e2
      cases e3 : fi[i - Ls.length]? with
      | none => rw [e3] at e2; cases e2
      | some j =>
        rw [e3] at e2
        have e4 : σ.getD j none = some v := Option.some.inj e2
        have e5 : X.N[j]? = some x := by
          have q := congrArg (fun l => l[i - Ls.length]?) S.ix
          simp only [List.getElem?_map, e3, e1, Option.map_some] at q
          exact Option.some.inj q
        have e6 : σ[j]? = some (some v) := by
          rw [List.getD_eq_getElem?_getD] at e4
          cases e7 : σ[j]? with
          | none => rw [e7] at e4; cases e4
          | some z => rw [e7] at e4; exact congrArg some e4
        have fx := S.fre x (List.mem_of_getElem? e1)
        have al := S.all (x, .free) (PySem.mem_of_lookup fx) rfl
        have vis : Vis X.env.scope x := by
          rcases al with z | z
          · exact .inr (.inl z)
          · exact .inr (.inr z)
        obtain ⟨u, ru, lk⟩ := hl2 j x v e5 e6 vis
        rcases lk with ⟨k, _⟩ | ⟨k, c, ec, hcell⟩
        · have k' : X.env.scope.names.lookup x = some .local := k
          rcases al with z | z
          · rw [show X.env.scope.names.lookup x = some .cell from z] at k'; cases k'
          · rw [show X.env.scope.names.lookup x = some .free from z] at k'; cases k'
        · obtain ⟨c', ec'⟩ := hcl2 (x, .free) (PySem.mem_of_lookup fx) rfl
          have : c' = c := Option.some.inj ((hcl1 x c' ec').symm.trans ec)
          subst this
          exact ⟨u, c', ru, relabel_look fx, (csKeep x fx).trans ec', ec, hcell⟩
  have capLen : (capt Ls.length fi σ).length = (Ls ++ Fs).length := by
    unfold capt
    have q := congrArg List.length S.ix
    simp only [List.length_map] at q
    rw [List.length_append, List.length_replicate, List.length_map, List.length_append, q]
  -- whatever the block's names hold, the captured ones hold what they held
  have re : ∀ {ps : List (Addr × Obj)} {σ' : St} {H' : Hp} {s' : Shared}, Inv (blkC X scope (Ls ++ Fs) cs C { s2 with heap := h3 } H2 (D :: fp)) ps σ' H' s' → Inv (blkC X scope (Ls ++ Fs) cs C { s2 with heap := h3 } H2 (D :: fp)) ps (capt Ls.length fi σ) H' s' := by
    intro ps σ' H' s' J'
    refine ⟨J'.ok, J'.os, J'.bare, J'.base, ?_, J'.cell, J'.free, J'.freeC, J'.pin, J'.hok, capLen⟩
    obtain ⟨m, hn, _⟩ := J'.loc
    refine ⟨m, hn, fun i x v e1 e2 _ => ?_⟩
    obtain ⟨u, c, ru, kk, ec, ec2, o, ho, hd⟩ := cap i x v e1 e2
    obtain ⟨sl, q⟩ := J'.base.any (k23 c o ho) (I2.freeC x c ec2) fun z => (exLoc c z).2 x c ec2 rfl
    exact ⟨u, ru, .inr ⟨kk, c, ec, _, q, hd⟩⟩
  have I4 : Inv (blkC X scope (Ls ++ Fs) cs C { s2 with heap := h3 } H2 (D :: fp)) [(D, { cls := .type "list", data := .seq ([] : List Value).toArray })] (capt Ls.length fi σ) H2 { s2 with heap := h₁ } := by
    refine ⟨ok', rfl, I2.bare, Un.kept k34, ⟨_, hns₁, fun i x v e1 e2 _ => ?_⟩, fun x c e => ?_, frC, fun x c e => ?_, fun p hp => ?_, I2.hok.kept fun b o e => k34 b o (k23 b o e), capLen⟩
    · obtain ⟨u, c, ru, kk, ec, ec2, o, ho, hd⟩ := cap i x v e1 e2
      exact ⟨u, ru, .inr ⟨kk, c, ec, o, k34 c o (k23 c o ho), hd⟩⟩
    · rcases cs1 x c e with q | ⟨_, q⟩
      · obtain ⟨v, o, ho, hd⟩ := I2.cell x c (hcl1 x c q)
        exact ⟨v, o, k34 c o (k23 c o ho), hd⟩
      · exact ⟨none, q⟩
    · rcases cs1 x c e with q | ⟨q, _⟩
      · exact I2.freeC x c (hcl1 x c q)
      · exact I2.hok.fresh (by omega)
    · have hp' : p = (D, { cls := .type "list", data := .seq ([] : List Value).toArray }) := by
        have : p ∈ ([] : List (Addr × Obj)) ++ [(D, { cls := .type "list", data := .seq ([] : List Value).toArray })] := hp
        simpa using this
      subst hp'
      refine ⟨k34 D _ hDo, frD, Nat.ne_of_lt (show @LT.lt Nat _ D C by omega), fun z => ?_, fun v z => by cases z⟩
      rcases List.mem_cons.mp (I2.stkSub D z) with z | z
      · exact DL z
      · exact I2.nofs (by omega) z
  obtain ⟨hg, ht, he⟩ := hb cs C { s2 with heap := h3 } H2 (D :: fp)
  -- behind the block: what the def's own context knows
  have back : ∀ {ps : List (Addr × Obj)} {σ' : St} {H' : Hp} {s' : Shared} {ys : List V} {its : List Value} {n : Nat}, Inv (blkC X scope (Ls ++ Fs) cs C { s2 with heap := h3 } H2 (D :: fp)) ps σ' H' s' → s'.heap.get? D = some { cls := .type "list", data := .seq its.toArray n } →
      H' D = none → Vals ys its → ys.length ≤ sizeLine → Inv X pins σ (upd H' D (.lst ys)) s' ∧ FpOk X pins (upd H' D (.lst ys)) C := by
    intro ps σ' H' s' ys its n J' hDs hDn rv hz
    have neD : ∀ b o, s2.heap.get? b = some o → b ≠ D := fun b o e => Nat.ne_of_lt (by have := aLt e; omega)
    have nex : ∀ b, b ∉ fp → b ≠ D → b ∉ D :: fp := fun b h1 h2 z => (List.mem_cons.mp z).elim h2 h1
    have U : Un (frs X.stack) fp H2 (upd H' D (.lst ys)) s2.heap s'.heap := by
      refine ⟨fun b o e n hb hx => J'.base.keep b o (k23 b o e) n hb (nex b hx (neD b o e)), fun b o e n hb hx => J'.base.slot b o (k23 b o e) n hb (nex b hx (neD b o e)), fun b o e n hx => ?_, fun b o e hx => J'.base.there b o (k23 b o e) (nex b hx (neD b o e)), fun b xs e => ?_, fun b o u e => ?_, fun b ps e => ?_⟩
      · rw [upd_ne (neD b o e)]
        exact J'.base.free b o (k23 b o e) n (nex b hx (neD b o e))
      · rw [upd_ne (ne_of_none e frD)]
        exact J'.base.tups b xs e
      · rw [upd_ne (ne_of_none e frD)]
        exact J'.base.frzs b o u e
      · obtain ⟨more, q⟩ := J'.base.tbls b ps e
        exact ⟨more, by rw [upd_ne (ne_of_none e frD)]; exact q⟩
    have hok' : HOk X.prog X.w (upd H' D (.lst ys)) s'.heap := fun b u q => by
      by_cases hbD : b = D
      · subst hbD
        rw [upd_same] at q
        cases q
        exact ⟨hz, its, n, rv, hDs⟩
      · rw [upd_ne hbD] at q
        exact (J'.hok b u q).stay (fun c v _ r => r) (fun c r => by rw [upd_ne (ne_of_none r hDn)]; exact r) fun c xs r => by rw [upd_ne (ne_of_none r hDn)]; exact r
    refine ⟨I2.call' J'.os U hok' J'.bare fun b hb => ⟨(f2 b hb).2.2.2.1, (f2 b hb).2.1, (f2 b hb).2.2.2.2.1, (f2 b hb).2.2.2.2.2⟩, ?_⟩
    refine ⟨by rw [upd_ne (Nat.ne_of_gt (by omega))]; exact J'.free, CL, I2.nofs (by omega), .inr (by have := I2.sz; omega), fun x c e => Nat.ne_of_lt (by have := cellLt x c e; omega), fun p hp => ?_⟩
    have := aLt (I2.pin p hp).1
    exact Nat.ne_of_lt (by omega)
  have loop : codeAny (model X.prog X.w) X.A (.compLoop (.ListComp elt [⟨tg, iter, ifs, 0⟩] scope pos) 0 (.ref it) (.ref D) (compEnvC scope cs C X.env)) (RR (.ref D) C) { s2 with heap := h₁ } := by
    refine comp_loop (fun n s' => ∃ (i : Nat) (ys : List V) (H' : Hp) (its : List Value) (k : Nat), Inv (blkC X scope (Ls ++ Fs) cs C { s2 with heap := h3 } H2 (D :: fp)) [(D, { cls := .type "list", data := .seq its.toArray k })] (capt Ls.length fi σ) H' s' ∧
      Vals ys its ∧ tn i s'.heap ∧ (∀ b ∈ fp, H' b = none) ∧ W i n ys H') ?_ m0 ⟨0, [], H2, [], 0, I4, .nil, T.keep _ _ _ st2 fun b _ o e => k34 b o (k23 b o e), fun b hb => (f2 b hb).1, w0⟩
    rintro n s5 ⟨i, ys, H5, its, k, I5, rv, st5, fr5, w5⟩
    have stat : ∀ {H' : Hp} {its' : List Value} {k' : Nat}, (∀ b ∈ fp, H' b = none) → ∀ b ∈ fp, FpOk (blkC X scope (Ls ++ Fs) cs C { s2 with heap := h3 } H2 (D :: fp)) [(D, { cls := .type "list", data := .seq its'.toArray k' })] H' b := fun hn b hb => by
      refine ⟨hn b hb, (exLoc b (List.mem_cons_of_mem _ hb)).1, fun z => ok'.exfs b (List.mem_cons_of_mem _ hb) z, .inl (List.mem_cons_of_mem _ hb), csNe b (List.mem_cons_of_mem _ hb), fun p hp => ?_⟩
      have hp' : p = _ := List.mem_singleton.mp hp
      rw [hp']
      have := fpLt b hb
      show D ≠ b
      exact Nat.ne_of_gt this
    have pinD := I5.pin (D, { cls := .type "list", data := .seq its.toArray k }) (List.mem_singleton.mpr rfl)
    rcases turn i n ys H5 w5 with ⟨stop, hz, qn⟩ | ⟨go, hz, N, hN, step⟩
    · refine wpAny_mono (T.done (blkC X scope (Ls ++ Fs) cs C { s2 with heap := h3 } H2 (D :: fp)) rfl rfl rfl hc i _ s5 _ H5 _ I5 (stat fr5) st5 stop) (fun r s6 ⟨hr, I6⟩ => ?_) fun _ _ h => h
      subst hr
      have pin6 := I6.pin (D, { cls := .type "list", data := .seq its.toArray k }) (List.mem_singleton.mpr rfl)
      obtain ⟨b1, b2⟩ := back I6 pin6.1 pin6.2.1 rv hz
      obtain ⟨m, hn, _⟩ := I6.loc
      exact fin D C _ s6 m b1 (qn D pin6.2.1) hn b2
    · refine wpAny_mono (T.item (blkC X scope (Ls ++ Fs) cs C { s2 with heap := h3 } H2 (D :: fp)) rfl rfl rfl hc i _ s5 _ H5 _ I5 (stat fr5) st5 go) (fun r s6 ⟨u, hr, h6⟩ => ?_) fun _ _ h => h
      subst hr
      refine wpAny_mono h6 (fun _ s7 ⟨x, H7, I7, r7, y7, st7, fr7⟩ => ?_) fun _ _ h => h
      have I7' := I7.pinned (stat fr7) (T.obj _ _ st7)
      refine wpAny_mono (hg _ s7 _ H7 x u _ I7' r7 (step x H7 y7)) (fun _ s8 ⟨σ8, H8, I8, q8⟩ => ?_) fun _ _ h => h
      refine wpAny_mono (ht _ s8 σ8 H8 _ I8 q8) (fun ok s9 ⟨H9, I9, q9⟩ => ?_) fun _ _ h => h
      have keepT : ∀ {σ' : St} {H' : Hp} {s' : Shared}, Inv (blkC X scope (Ls ++ Fs) cs C { s2 with heap := h3 } H2 (D :: fp)) ([(D, { cls := .type "list", data := .seq its.toArray k })] ++ pinsAt fp s7.heap) σ' H' s' → tn (i + 1) s'.heap ∧ ∀ b ∈ fp, H' b = none := by
        intro σ' H' s' J'
        refine ⟨T.keep _ _ _ st7 fun b hb o e => (J'.pin (b, o) (List.mem_append_right _ (List.mem_append_right _ (mem_pinsAt hb e)))).1, fun b hb => ?_⟩
        obtain ⟨o, e, d⟩ := T.obj _ _ st7 b hb
        exact (J'.pin (b, o) (List.mem_append_right _ (List.mem_append_right _ (mem_pinsAt hb e)))).2.1
      cases ok with
      | false =>
        rw [if_neg Bool.false_ne_true] at q9 ⊢
        obtain ⟨m', hm, w'⟩ := hN _ _ q9
        exact ⟨m', hm, i + 1, ys, H9, its, k, re I9.unpinned, rv, (keepT I9).1, (keepT I9).2, w'⟩
      | true =>
        rw [if_pos rfl] at q9 ⊢
        refine wpAny_mono (he _ s9 σ8 H9 _ I9 q9) (fun v s10 ⟨y, H10, I10, r10, q10⟩ => ?_) fun _ _ h => h
        obtain ⟨m', hm, w'⟩ := hN _ _ q10
        obtain ⟨k10, f10⟩ := keepT I10
        have I11 : Inv (blkC X scope (Ls ++ Fs) cs C { s2 with heap := h3 } H2 (D :: fp)) [(D, { cls := .type "list", data := .seq its.toArray k })] (capt Ls.length fi σ) H10 s10 := re I10.unpinned
        have pin11 := I11.pin (D, { cls := .type "list", data := .seq its.toArray k }) (List.mem_singleton.mpr rfl)
        refine wpAny_list_append_plain ⟨k, pin11.1⟩ (fun h' hp' sb => ?_) (by rw [List.size_toArray, ← rv.length]; exact hz)
        obtain ⟨k', hk'⟩ := hp'
        have e1 : its.toArray.push v = (its ++ [v]).toArray := by simp
        rw [e1] at hk'
        have I12 : Inv (blkC X scope (Ls ++ Fs) cs C { s2 with heap := h3 } H2 (D :: fp)) [] (capt Ls.length fi σ) H10 { s10 with heap := h', toks := s10.toks } :=
          (I11.pins_of (pins' := []) fun p hp => (nomatch hp)).turned (it := D) (fun b o hb e => (sb.2 b hb).trans e) pin11.2.1 pin11.2.2.1 (.inl List.mem_cons_self) (csNe D List.mem_cons_self) fun p hp => (nomatch hp)
        have I13 : Inv (blkC X scope (Ls ++ Fs) cs C { s2 with heap := h3 } H2 (D :: fp)) [(D, { cls := .type "list", data := .seq (its ++ [v]).toArray k' })] (capt Ls.length fi σ) H10 { s10 with heap := h', toks := s10.toks } := I12.pins_of fun p hp => by
          have hp' : p = _ := List.mem_singleton.mp hp
          subst hp'
          exact ⟨hk', pin11.2.1, pin11.2.2.1, pin11.2.2.2.1, fun v z => by cases z⟩
        refine ⟨m', hm, i + 1, ys ++ [y], H10, its ++ [v], k', I13, rv.append (.cons r10 .nil), ?_, f10, w'⟩
        exact T.keep _ _ _ k10 fun b hb o e => (sb.2 b (Nat.ne_of_lt (fpLt b hb))).trans e
  exact codeAny_compStart_list loop (T.self _ 0 _ _ _ (T.keep _ _ _ st2 fun b _ o e => k34 b o (k23 b o e)) loop)

/-- [elt for tg in iter if ..], as a value -/
theorem pe_lcC {wi : TI} (S : LcScopeC X.N X.env.scope scope Ls Fs fi) (hc : X.calm = true) (hi : PI X tg iter wi)
    (hb : ∀ cl C s3 H3 ex, PG (blkC X scope (Ls ++ Fs) cl C s3 H3 ex) tg g ∧ PTs (blkC X scope (Ls ++ Fs) cl C s3 H3 ex) ifs tc ∧ PE (blkC X scope (Ls ++ Fs) cl C s3 H3 ex) elt te)
    (hs : ∀ x, foldedSetIterable iter X.env x = pure x := by intro _; rfl) : PE X (.ListComp elt [⟨tg, iter, ifs, 0⟩] scope pos) (tLc Ls.length fi wi g tc te) := by
  intro pins s σ H Q I h
  rw [eval_ListComp]
  obtain ⟨cl, hcl, hcl1, hcl2⟩ := clos_ok (scope := scope) (env := X.env) fun y hy hf => I.ok.has y.1 (S.all y hy hf)
  refine wpAny_comprehension_free (use := none) rfl hs hcl S.kind S.names (wpAny_mono (hi pins s σ H _ I h) (fun v s1 h1 => wpAny_mono h1 (fun itv s2 h2 => ?_) fun _ _ e => e) fun _ _ e => e)
  obtain ⟨it, fp, tn, J, H2, e, I2, T, st2, f2, hW⟩ := h2
  subst e
  refine lc_blockC (RR := fun acc C => compPost (model X.prog X.w) X.A X.xe none (EP X pins σ Q) acc C) S hc hb hcl1 hcl2 I2 T st2 f2 hW fun D C H' s' m I' q hn f => ?_
  obtain ⟨f0, f1, f2, f3, f4, f5⟩ := f
  exact ⟨m, hn, fun h' hs' => ⟨.ref D, H', I'.turned (it := C) (t' := s'.toks) (fun b o hb e => (hs'.2 b hb).trans e) f0 f1 f3 f4 f5, rfl, q⟩⟩

/-- x = [elt for tg in iter if ..] on one row: the name is stored ahead of the block's own names going -/
theorem ps_lcC {wi : TI} {i : Nat} {x : Str} {pos' spos : Pos} (hN : X.N.Nodup) (hi' : X.N[i]? = some x) (hx : Loc X.env.scope x) (S : LcScopeC X.N X.env.scope scope Ls Fs fi) (hc : X.calm = true) (hi : PI X tg iter wi)
    (hb : ∀ cl C s3 H3 ex, PG (blkC X scope (Ls ++ Fs) cl C s3 H3 ex) tg g ∧ PTs (blkC X scope (Ls ++ Fs) cl C s3 H3 ex) ifs tc ∧ PE (blkC X scope (Ls ++ Fs) cl C s3 H3 ex) elt te)
    (hsw : swapsWith (.ListComp elt [⟨tg, iter, ifs, 0⟩] scope pos) (some (.Name x pos')) spos.line X.env = pure true := by rfl)
    (hs : ∀ x, foldedSetIterable iter X.env x = pure x := by intro _; rfl) (hf : X.fn x = true ∨ X.env.scope.names.lookup x = some .local := by first | exact .inl rfl | exact .inr rfl | assumption) :
    PS X (.Assign [.Name x pos'] (.ListComp elt [⟨tg, iter, ifs, 0⟩] scope pos) spos) (tAsg (tLc Ls.length fi wi g tc te) (gName i)) := by
  intro pins s σ H D' I h
  rw [exec_Assign_Name_used _ _ _ _ hsw]
  obtain ⟨cl, hcl, hcl1, hcl2⟩ := clos_ok (scope := scope) (env := X.env) fun y hy hf => I.ok.has y.1 (S.all y hy hf)
  refine wpAny_bind (wpAny_standAt (wpAny_bind ?_))
  show wpAny _ X.A (do let _ ← comprehension (.ListComp elt [⟨tg, iter, ifs, 0⟩] scope pos) scope X.env _ (newList []) false (eval iter X.env) (some (assign (.Name x pos') X.env))) _ _ s
  refine wpAny_bind (wpAny_mono (wpAny_comprehension_free (use := some (assign (.Name x pos') X.env)) (Q := fun _ s' => SP X pins D' .next s') rfl hs hcl S.kind S.names
    (wpAny_mono (hi pins s σ H _ I h) (fun v s1 h1 => wpAny_mono h1 (fun itv s2 h2 => ?_) fun _ _ e => e) fun _ _ e => e)) (fun _ s' hq => wpAny_pure (wpAny_pure hq)) fun _ _ e => e)
  obtain ⟨it, fp, tn, J, H2, e, I2, T, st2, f2, hW⟩ := h2
  subst e
  refine lc_blockC (RR := fun acc C => compPost (model X.prog X.w) X.A X.xe (some (assign (.Name x pos') X.env)) (fun _ s' => SP X pins D' .next s') acc C) (Q := fun x H1 => gName i x σ H1 D'.nx) S hc hb hcl1 hcl2 I2 T st2 f2 hW fun D C H' s' m I' q hn f => ?_
  obtain ⟨f0, f1, f2, f3, f4, f5⟩ := f
  show wpAny _ X.A (assign (.Name x pos') X.env (.ref D)) _ _ _
  refine wpAny_assign_Name (store_ok2 I' hN hi' hx (v := .ref D) rfl (fun s'' I'' hch => ?_) hf)
  obtain ⟨a, sb, ha⟩ := hch
  have hCa : C ≠ a := by
    rcases ha with z | z
    · rw [z]; exact f1
    · exact (f4 x a z).symm
  exact ⟨m, hn.sameBut sb hCa, fun h' hs' => ⟨_, H', I''.turned (it := C) (t' := s''.toks) (fun b o hb e => (hs'.2 b hb).trans e) f0 f1 f3 f4 f5, q⟩⟩
end
end L2

/-! a list of new lists, row by row -/
namespace L2
open PySem PySem.Spec PyProof.Rows
def NR (H G : Hp) (F : Nat → List V) (i : Nat) (zs : List V) : Prop := Same H G ∧ ∃ ts : List Addr, zs = ts.map V.ref ∧ ts.length = i ∧ ts.Nodup ∧ (∀ r ∈ ts, H r = none) ∧ ∀ r q, ts[r]? = some q → G q = some (.lst (F r))
theorem NR.nil (H : Hp) (F : Nat → List V) : NR H H F 0 [] := ⟨Same.refl _, [], rfl, rfl, .nil, (fun _ h => nomatch h), (fun r q h => by simp at h)⟩
theorem NR.len {H G : Hp} {F : Nat → List V} {i : Nat} {zs : List V} (x : NR H G F i zs) : zs.length ≤ i := by
  obtain ⟨_, ts, rfl, l, _⟩ := x
  rw [List.length_map, l]; exact Nat.le_refl _
theorem NR.step {H G G' : Hp} {F : Nat → List V} {i : Nat} {zs : List V} {q : Addr} (x : NR H G F i zs) (s : Same G G') (hq : G q = none) (e : G' q = some (.lst (F i))) : NR H G' F (i + 1) (zs ++ [.ref q]) := by
  obtain ⟨sG, ts, rfl, lt, nd, fr, at'⟩ := x
  refine ⟨sG.trans s, ts ++ [q], by simp, by rw [List.length_append, lt]; rfl, ?_, fun r hr => ?_, fun r u hu => ?_⟩
  · refine List.nodup_append.mpr ⟨nd, by simp, fun y hy z hz => ?_⟩
    rw [List.mem_singleton.mp hz]
    obtain ⟨r, hr, rfl⟩ := List.getElem_of_mem hy
    exact ne_of_none (at' r _ (List.getElem?_eq_getElem hr)) hq
  · rcases List.mem_append.mp hr with h | h
    · exact fr r h
    · rw [List.mem_singleton.mp h]; exact sG.free hq
  · by_cases c : r < ts.length
    · rw [List.getElem?_append_left c] at hu
      exact s _ _ (at' r u hu)
    · rw [List.getElem?_append_right (by omega)] at hu
      have e0 : r - ts.length = 0 := by
        have := (List.getElem?_eq_some_iff.mp hu).1
        simp at this
        omega
      rw [e0] at hu
      cases hu
      rw [show r = i by omega]
      exact e
theorem NR.done {H G : Hp} {F : Nat → List V} {n : Nat} {zs : List V} {D : Addr} (x : NR H G F n zs) (hD : G D = none) : Same H (upd G D (.lst zs)) ∧ H D = none ∧ ∃ ts : List Addr, zs = ts.map V.ref ∧ ts.length = n ∧ ts.Nodup ∧ D ∉ ts ∧ (∀ r ∈ ts, H r = none) ∧ upd G D (.lst zs) D = some (.lst (ts.map V.ref)) ∧ ∀ r q, ts[r]? = some q → upd G D (.lst zs) q = some (.lst (F r)) := by
  obtain ⟨sG, ts, rfl, lt, nd, fr, at'⟩ := x
  refine ⟨sG.step hD, sG.free hD, ts, rfl, lt, nd, fun h => ?_, fr, upd_same, fun r q e => (Same.laid hD) _ _ (at' r q e)⟩
  obtain ⟨r, hr, e⟩ := List.getElem_of_mem h
  have := at' r _ (List.getElem?_eq_getElem hr)
  rw [e, hD] at this
  cases this
/-- the numbers of a list, by their place -/
def tabV (n : Nat) (f : Nat → Int) : List V := ((List.range n).map f).map V.int
theorem tabV_len (n : Nat) (f : Nat → Int) : (tabV n f).length = n := by simp [tabV]
theorem tabV_at {n i : Nat} (f : Nat → Int) (h : i < n) : (tabV n f)[i]? = some (V.int (f i)) := by simp [tabV, h]
theorem tabV_get {n i : Nat} {f : Nat → Int} {x : V} (h : (tabV n f)[i]? = some x) : i < n ∧ x = V.int (f i) := by
  have hi : i < n := by have := (List.getElem?_eq_some_iff.mp h).1; rwa [tabV_len] at this
  rw [tabV_at f hi] at h
  exact ⟨hi, (Option.some.inj h).symm⟩
theorem tabV_snoc {n i : Nat} (f : Nat → Int) (h : i < n) : (tabV n f).take i ++ [V.int (f i)] = (tabV n f).take (i + 1) := by
  rw [List.take_add_one, tabV_at f h]; rfl
theorem tabV_all (n : Nat) (f : Nat → Int) : (tabV n f).take n = tabV n f := List.take_of_length_le (by rw [tabV_len]; exact Nat.le_refl _)
theorem dotP_sum (B : Nat → Nat) (v j : Nat) : ∀ m, ((List.range m).map fun r => (((v.testBit r).toNat : Nat) : Int) * ((((B r).testBit j).toNat : Nat) : Int)).sum = (dotP B v j m : Nat)
  | 0 => rfl
  | m + 1 => by
    rw [List.range_succ, List.map_append, List.sum_append, dotP_sum B v j m]
    simp [dotP]
end L2

/-! ranks over two: the least bits of what rows come to -/
namespace L2
def Spn (L : List Nat) (v : Nat) : Prop := ∀ P : Nat → Prop, P 0 → (∀ a b, P a → P b → P (a ^^^ b)) → (∀ x ∈ L, P x) → P v
theorem Spn.zero (L : List Nat) : Spn L 0 := fun _ h _ _ => h
theorem Spn.xor {L : List Nat} {a b : Nat} (x : Spn L a) (y : Spn L b) : Spn L (a ^^^ b) := fun P h0 h1 h2 => h1 _ _ (x P h0 h1 h2) (y P h0 h1 h2)
theorem Spn.mem {L : List Nat} {a : Nat} (h : a ∈ L) : Spn L a := fun _ _ _ h2 => h2 a h
theorem Spn.le {L M : List Nat} (h : ∀ x ∈ L, Spn M x) {v : Nat} (x : Spn L v) : Spn M v := x (Spn M) (Spn.zero _) (fun _ _ => Spn.xor) h
def Ld (L : List Nat) (j : Nat) : Prop := ∃ v, Spn L v ∧ LB v j
theorem Ld.nil {j : Nat} (h : Ld [] j) : False := by
  obtain ⟨v, s, l⟩ := h
  exact l.nz (s (· = 0) rfl (fun a b ha hb => by rw [ha, hb]; rfl) (fun _ h => nomatch h))
theorem Ld.le {L M : List Nat} (h : ∀ x ∈ L, Spn M x) {j : Nat} (x : Ld L j) : Ld M j := let ⟨v, s, l⟩ := x; ⟨v, s.le h, l⟩
theorem Ld.skip {L : List Nat} {j : Nat} : Ld (L ++ [0]) j ↔ Ld L j :=
  ⟨Ld.le fun x hx => by
    rcases List.mem_append.mp hx with h | h
    · exact Spn.mem h
    · rw [List.mem_singleton.mp h]; exact Spn.zero _, Ld.le fun x hx => Spn.mem (List.mem_append_left _ hx)⟩
def clr (x at' y : Nat) : Nat := if y.testBit at' = true then y ^^^ x else y
theorem xor_can (a b : Nat) : a ^^^ b ^^^ b = a := by rw [Nat.xor_assoc, Nat.xor_self, Nat.xor_zero]
theorem spn_bit {L : List Nat} {x a u : Nat} (hx : LB x a) (s : Spn (L.map (clr x a)) u) : u.testBit a = false := by
  refine s (fun u => u.testBit a = false) (Nat.zero_testBit _) (fun p q hp hq => by rw [Nat.testBit_xor, hp, hq]; rfl) fun y hy => ?_
  obtain ⟨z, _, rfl⟩ := List.mem_map.mp hy
  unfold clr
  split
  · rename_i h
    rw [Nat.testBit_xor, h, hx.1]; rfl
  · rename_i h
    simpa using h
theorem clr_in {L : List Nat} {x a y : Nat} (hy : y ∈ L.map (clr x a)) : Spn (L ++ [x]) y := by
  obtain ⟨z, hz, rfl⟩ := List.mem_map.mp hy
  unfold clr
  split
  · exact (Spn.mem (List.mem_append_left _ hz)).xor (Spn.mem (by simp))
  · exact Spn.mem (List.mem_append_left _ hz)
theorem spn_elim {L : List Nat} {x a v : Nat} (s : Spn (L ++ [x]) v) : ∃ u, Spn (L.map (clr x a)) u ∧ (v = u ∨ v = u ^^^ x) := by
  refine s (fun v => ∃ u, Spn (L.map (clr x a)) u ∧ (v = u ∨ v = u ^^^ x)) ⟨0, Spn.zero _, .inl rfl⟩ ?_ fun y hy => ?_
  · rintro p q ⟨u, su, hu⟩ ⟨w, sw, hw⟩
    refine ⟨u ^^^ w, su.xor sw, ?_⟩
    rcases hu with rfl | rfl <;> rcases hw with rfl | rfl
    · exact .inl rfl
    · exact .inr (by rw [Nat.xor_assoc])
    · exact .inr (by rw [Nat.xor_assoc, Nat.xor_assoc, Nat.xor_comm x])
    · exact .inl (by rw [Nat.xor_assoc u x, ← Nat.xor_assoc x w x, Nat.xor_comm x w, xor_can])
  · rcases List.mem_append.mp hy with h | h
    · have m : clr x a y ∈ L.map (clr x a) := List.mem_map.mpr ⟨y, h, rfl⟩
      refine ⟨_, Spn.mem m, ?_⟩
      unfold clr
      split
      · exact .inr (by rw [xor_can])
      · exact .inl rfl
    · rw [List.mem_singleton.mp h]
      exact ⟨0, Spn.zero _, .inr (by rw [Nat.zero_xor])⟩
theorem Ld.not {L : List Nat} {x a : Nat} (hx : LB x a) (h : Ld (L.map (clr x a)) a) : False := by
  obtain ⟨v, s, l⟩ := h
  have := spn_bit hx s
  rw [l.1] at this
  cases this
theorem Ld.elim {L : List Nat} {x a j : Nat} (hx : LB x a) : Ld (L ++ [x]) j ↔ j = a ∨ Ld (L.map (clr x a)) j := by
  constructor
  · rintro ⟨v, s, l⟩
    obtain ⟨u, su, hu⟩ := spn_elim (a := a) s
    rcases hu with rfl | rfl
    · exact .inr ⟨_, su, l⟩
    · by_cases u0 : u = 0
      · rw [u0, Nat.zero_xor] at l
        exact .inl (l.one hx)
      · obtain ⟨k, hk⟩ := LB.ex u0
        have b := spn_bit hx su
        rcases Nat.lt_trichotomy k a with h | h | h
        · have := l.one (hk.xor_lt hx h)
          exact .inr ⟨u, su, this ▸ hk⟩
        · rw [← h, hk.1] at b; cases b
        · rw [Nat.xor_comm] at l
          exact .inl (l.one (hx.xor_lt hk h))
  · rintro (rfl | h)
    · exact ⟨x, Spn.mem (by simp), hx⟩
    · exact h.le fun y hy => clr_in hy
/-- so many were found, and what is left of the rows -/
def RkI (L0 : List Nat) (f : Nat) (L : List Nat) : Prop := ∃ js : List Nat, js.Nodup ∧ js.length = f ∧ (∀ j, Ld L0 j ↔ j ∈ js ∨ Ld L j) ∧ ∀ j ∈ js, ¬ Ld L j
theorem RkI.start (L : List Nat) : RkI L 0 L := ⟨[], .nil, rfl, fun j => by simp, fun _ h => nomatch h⟩
theorem RkI.skip {L0 L : List Nat} {f : Nat} (h : RkI L0 f (L ++ [0])) : RkI L0 f L := by
  obtain ⟨js, nd, l, m, n⟩ := h
  exact ⟨js, nd, l, fun j => (m j).trans (or_congr Iff.rfl Ld.skip), fun j hj z => n j hj (Ld.skip.mpr z)⟩
theorem RkI.step {L0 L : List Nat} {f x a : Nat} (h : RkI L0 f (L ++ [x])) (hx : LB x a) : RkI L0 (f + 1) (L.map (clr x a)) := by
  obtain ⟨js, nd, l, m, n⟩ := h
  have na : a ∉ js := fun z => n a z ((Ld.elim hx).mpr (.inl rfl))
  refine ⟨a :: js, List.nodup_cons.mpr ⟨na, nd⟩, by rw [List.length_cons, l], fun j => ?_, fun j hj z => ?_⟩
  · rw [m j, Ld.elim hx, List.mem_cons]
    constructor
    · rintro (h | h | h)
      · exact .inl (.inr h)
      · exact .inl (.inl h)
      · exact .inr h
    · rintro ((h | h) | h)
      · exact .inr (.inl h)
      · exact .inl h
      · exact .inr (.inr h)
  · rcases List.mem_cons.mp hj with e | hj
    · subst e; exact Ld.not hx z
    · exact n j hj ((Ld.elim hx).mpr (.inr z))
/-- the rank -/
def Rk (L : List Nat) (f : Nat) : Prop := ∃ js : List Nat, js.Nodup ∧ js.length = f ∧ ∀ j, Ld L j ↔ j ∈ js
theorem RkI.done {L0 : List Nat} {f : Nat} (h : RkI L0 f []) : Rk L0 f := by
  obtain ⟨js, nd, l, m, n⟩ := h
  exact ⟨js, nd, l, fun j => (m j).trans ⟨fun h => h.elim id fun z => z.nil.elim, .inl⟩⟩
theorem Rk.one {L : List Nat} {f g : Nat} (x : Rk L f) (y : Rk L g) : f = g := by
  obtain ⟨js, nd, l, m⟩ := x
  obtain ⟨ks, nd', l', m'⟩ := y
  rw [← l, ← l']
  exact ((List.perm_ext_iff_of_nodup nd nd').mpr fun j => (m j).symm.trans (m' j)).length_eq
/-! ### the parts of a table that is paired off -/
theorem LB.mod {v q j : Nat} (h : LB v q) (hq : q ≤ j) : LB (v % 2 ^ (j + 1)) q := by
  refine ⟨?_, fun k hk => ?_⟩
  · rw [Nat.testBit_mod_two_pow, h.1, decide_eq_true (by omega)]; rfl
  · rw [Nat.testBit_mod_two_pow, h.2 k hk, Bool.and_false]
theorem LB.of_mod {v q j : Nat} (h : LB (v % 2 ^ (j + 1)) q) : LB v q ∧ q ≤ j := by
  have h1 := h.1
  rw [Nat.testBit_mod_two_pow, Bool.and_eq_true, decide_eq_true_eq] at h1
  refine ⟨⟨h1.2, fun k hk => ?_⟩, by omega⟩
  have := h.2 k hk
  rw [Nat.testBit_mod_two_pow, decide_eq_true (by omega)] at this
  simpa using this
def partR (T : Nat → Nat) (n i j : Nat) : List Nat := ((List.range n).drop i).map fun r => T r % 2 ^ (j + 1)
theorem mem_partR {T : Nat → Nat} {n i j x : Nat} : x ∈ partR T n i j ↔ ∃ r, i ≤ r ∧ r < n ∧ x = T r % 2 ^ (j + 1) := by
  unfold partR
  rw [List.mem_map]
  constructor
  · rintro ⟨r, hr, rfl⟩
    obtain ⟨k, hk, e⟩ := List.getElem_of_mem hr
    rw [List.getElem_drop, List.getElem_range] at e
    rw [List.length_drop, List.length_range] at hk
    exact ⟨r, by omega, by omega, rfl⟩
  · rintro ⟨r, h1, h2, rfl⟩
    refine ⟨r, ?_, rfl⟩
    refine List.mem_of_getElem? (i := r - i) ?_
    rw [List.getElem?_drop, List.getElem?_range (by omega)]
    congr 1; omega
theorem spn_part {T : Nat → Nat} {n i j v : Nat} (h : ∀ k, k < i → v.testBit k = false) : ∀ m, m ≤ n → Spn (partR T n i j) (mulT T m v % 2 ^ (j + 1))
  | 0, _ => by
    show Spn _ (0 % _)
    rw [Nat.zero_mod]; exact Spn.zero _
  | m + 1, hm => by
    show Spn _ (((if v.testBit m = true then T m else 0) ^^^ mulT T m v) % 2 ^ (j + 1))
    rw [Nat.xor_mod_two_pow]
    refine Spn.xor ?_ (spn_part h m (by omega))
    split
    · rename_i hb
      refine Spn.mem (mem_partR.mpr ⟨m, ?_, by omega, rfl⟩)
      rcases Nat.lt_or_ge m i with z | z
      · rw [h m z] at hb; cases hb
      · exact z
    · rw [Nat.zero_mod]; exact Spn.zero _
theorem part_spn {T : Nat → Nat} {n i j v : Nat} (s : Spn (partR T n i j) v) : ∃ w, (∀ k, k < i → w.testBit k = false) ∧ w < 2 ^ n ∧ v = mulT T n w % 2 ^ (j + 1) := by
  refine s (fun v => ∃ w, (∀ k, k < i → w.testBit k = false) ∧ w < 2 ^ n ∧ v = mulT T n w % 2 ^ (j + 1)) ⟨0, fun k _ => Nat.zero_testBit k, Nat.two_pow_pos n, by rw [mulT_zero, Nat.zero_mod]⟩ ?_ fun x hx => ?_
  · rintro a b ⟨w, h1, h2, rfl⟩ ⟨u, g1, g2, rfl⟩
    exact ⟨w ^^^ u, fun k hk => by rw [Nat.testBit_xor, h1 k hk, g1 k hk]; rfl, Nat.xor_lt_two_pow h2 g2, by rw [mulT_xor, Nat.xor_mod_two_pow]⟩
  · obtain ⟨r, h1, h2, rfl⟩ := mem_partR.mp hx
    exact ⟨2 ^ r, fun k hk => (LB.pow r).2 k (by omega), Nat.pow_lt_pow_right (by decide) h2, by rw [mulT_pow _ _ _ h2]⟩
theorem Up.lead {T : Nat → Nat} {n : Nat} {S : Nat → Nat} {p : Nat → Option Nat} (U : Up T n 0 S p) (i j q : Nat) : Ld (partR T n i j) q ↔ ∃ k, i ≤ k ∧ k < n ∧ p k = some q ∧ k < q ∧ q ≤ j := by
  constructor
  · rintro ⟨v, s, l⟩
    obtain ⟨w, h1, h2, rfl⟩ := part_spn s
    obtain ⟨l1, l2⟩ := l.of_mod
    have w0 : w ≠ 0 := fun z => l1.nz (by rw [z, mulT_zero])
    obtain ⟨a, ha⟩ := LB.ex w0
    have ia : i ≤ a := by
      rcases Nat.lt_or_ge a i with z | z
      · have := h1 a z
        rw [ha.1] at this; cases this
      · exact z
    have an := ha.lt h2
    obtain ⟨lo1, lo2⟩ := U.low (n - a) w a (Nat.le_refl _) ha (Nat.zero_le _) h2
    rcases U.cases (Nat.zero_le a) an with ⟨q1, e, lt⟩ | c
    · obtain ⟨q', k, b1, _, b3, b4, b5, b6⟩ := lo1 q1 e lt
      have : q' = q := b1.one l1
      subst this
      exact ⟨k, by omega, b4, b5, b6, l2⟩
    · rcases lo2 c with z | ⟨q', k, b1, b3, b4, b5, b6⟩
      · exact absurd z l1.nz
      · have : q' = q := b1.one l1
        subst this
        exact ⟨k, by omega, b4, b5, b6, l2⟩
  · rintro ⟨k, h1, h2, h3, h4, h5⟩
    have im := U.img k q (Nat.zero_le _) h2 h3 h4
    have lk := U.lb k (Nat.zero_le _) h2
    have lq := U.lb q (Nat.zero_le _) (U.inv k q (Nat.zero_le _) h2 h3).2.1
    refine ⟨_, spn_part (v := S k) (fun m hm => lk.2 m (by omega)) n (Nat.le_refl _), ?_⟩
    rw [im]
    exact lq.mod h5
/-- the rank of a part is the number of pairs within -/
theorem Up.rank {T : Nat → Nat} {n : Nat} {S : Nat → Nat} {p : Nat → Option Nat} (U : Up T n 0 S p) (i j : Nat) (W : List Nat) (nd : W.Nodup) (hW : ∀ k, k ∈ W ↔ i ≤ k ∧ k < n ∧ ∃ q, p k = some q ∧ k < q ∧ q ≤ j) : Rk (partR T n i j) W.length := by
  refine ⟨W.map fun k => (p k).getD 0, ?_, by rw [List.length_map], fun q => ?_⟩
  · refine (List.pairwise_map).mpr (nd.imp_of_mem fun {a b} ha hb ne e => ne ?_)
    obtain ⟨_, a2, qa, pa, _⟩ := (hW a).mp ha
    obtain ⟨_, b2, qb, pb, _⟩ := (hW b).mp hb
    rw [pa, pb] at e
    have e' : qa = qb := e
    subst e'
    exact U.inj (Nat.zero_le _) a2 (Nat.zero_le _) b2 pa pb
  · rw [U.lead i j q, List.mem_map]
    constructor
    · rintro ⟨k, h1, h2, h3, h4, h5⟩
      exact ⟨k, (hW k).mpr ⟨h1, h2, q, h3, h4, h5⟩, by rw [h3]; rfl⟩
    · rintro ⟨k, hk, rfl⟩
      obtain ⟨h1, h2, q, h3, h4, h5⟩ := (hW k).mp hk
      have e : (p k).getD 0 = q := by rw [h3]; rfl
      rw [e]
      exact ⟨k, h1, h2, h3, h4, h5⟩
end L2

/-! any things: xs[::-1], == of alike things, tables among trees, pairing off as mathematics -/
namespace L2
open PySem PySem.Spec PyProof.Rows
/-! ### xs[::-1] -/
theorem pick_revL (its : List Value) : slicePick its.toArray none none (some (-1)) = its.reverse.toArray := by
  unfold slicePick sliceBounds sliceRange
  simp only [Option.getD_some, List.size_toArray]
  rw [if_neg (show ¬ ((-1 : Int) > 0) by decide), if_neg (show ¬ ((-1 : Int) > 0) by decide), if_neg (show ¬ ((-1 : Int) > 0) by decide)]
  congr 1
  have ec : (if (its.length : Int) - 1 > -1 then ((its.length : Int) - 1 - -1 - -1 - 1) / (- -1) else 0).toNat = its.length := by
    rw [show (- -1 : Int) = 1 from rfl, Int.ediv_one]
    split <;> omega
  rw [ec, List.filterMap_map]
  have key : ∀ k, k ≤ its.length → (List.filterMap ((fun (x : Nat) => its.toArray[x]?) ∘ fun (m : Nat) => ((its.length : Int) - 1 + (-1) * (m : Int)).toNat) (List.range k)) = its.reverse.take k := by
    intro k
    induction k with
    | zero => intro _; rfl
    | succ k ih =>
      intro hk
      rw [List.range_succ, List.filterMap_append, ih (by omega), List.take_add_one]
      congr 1
      have e1 : ((its.length : Int) - 1 + (-1) * (k : Int)).toNat = its.length - 1 - k := by omega
      have e2 : its.reverse[k]? = its[its.length - 1 - k]? := List.getElem?_reverse (by omega)
      rw [e2, List.filterMap_cons, List.filterMap_nil]
      have e3 : ((fun (x : Nat) => its.toArray[x]?) ∘ fun (m : Nat) => ((its.length : Int) - 1 + (-1) * (m : Int)).toNat) k = its[its.length - 1 - k]? := by
        show its.toArray[((its.length : Int) - 1 + (-1) * (k : Int)).toNat]? = _
        rw [e1, List.getElem?_toArray]
      rw [e3]
      cases its[its.length - 1 - k]? <;> rfl
  have := key its.length (Nat.le_refl _)
  rw [this, List.take_of_length_le (by simp)]
section
variable {X : Cx}
def tRevL (K : PySem.W.Frag) (te : TE) : TE := fun σ H Q => te σ H fun x H1 => ∃ a xs, x = .ref a ∧ SqL K H1 a xs ∧ ∀ p, H1 p = none → Q (.ref p) (upd H1 p (.lst xs.reverse))
theorem pe_revL {K : PySem.W.Frag} {e : Expr} {te : TE} {p2 p3 p4 pos : Pos} {j : Nat} (hk : X.K = K) (he : PE X e te) : PE X (.Subscript e (.Slice none none (some (.UnaryOp .USub (.Constant (.int 1) j p3) p4)) p2) pos) (tRevL K te) := by
  subst hk
  intro pins s σ H Q I h
  refine Subscript_ (thn (he pins s σ H _ I h) fun v s1 ⟨x, H1, I1, r1, q1⟩ => wpAny_Slice ?_)
  rw [evalPart_none]
  refine wpAny_pure (wpAny_pure ?_)
  rw [evalPart_some]
  refine thn ((pe_un (X := X) un_neg pe_int) pins s1 σ H1 (fun v H2 => v = .int (-1) ∧ H2 = H1) I1 ⟨1, rfl, rfl, rfl⟩) fun u s2 ⟨y, H2, I2, r2, ey, eH⟩ => ?_
  subst ey eH
  obtain ⟨tk, rfl⟩ := r2
  obtain ⟨a, xs, rfl, hx, q⟩ := q1
  cases r1
  have I3 : Inv X pins σ H2 { s2 with heap := s2.heap.push { cls := .type "slice", data := .fields #[.none, .none, .int (-1) tk] } } := I2.kept (t' := s2.toks) fun b ob q => Heap.get?_push_of_some _ q
  obtain ⟨its, r, ht, hz⟩ := I3.list hx
  have hlen := r.length
  refine tail_any (ops := [.ref a, .ref s2.heap.objs.size]) ht.isList.typeIs slot_list_getitem.lookup (Q := EP X pins σ Q) ?_ (by with_unfolding_all rfl)
  refine wpAny_getItem_list_slice (st := some (-1)) ht.isList (Heap.IsSliceOf.new ..) .none .none (.int (-1) _) (by decide) ?_ (by rw [List.size_toArray] <;> omega)
  rw [pick_revL]
  refine ⟨.ref _, _, I3.laid (t' := s2.toks) (o := .lst xs.reverse) (fun b ob q => Heap.get?_push_of_some _ q) (Nat.le_refl _) ?_, rfl, q _ (I3.hok.fresh (Nat.le_refl _))⟩
  exact ⟨by rw [List.length_reverse]; omega, _, 0, r.rev, Heap.get?_push_size _ rfl⟩
/-! ### == of alike things -/
end
/-! ### pairing off, as mathematics -/
theorem Tk.ends {T : Nat → Nat} {n i : Nat} {S : Nat → Nat} {p : Nat → Option Nat} (sq : ∀ v, mulT T n (mulT T n v) = 0) : ∀ (m rest a : Nat) (lone : List Nat), (∀ j, LB rest j → n - j ≤ m) → Tk T n i S p rest a lone → ∃ a' lone', Tk T n i S p 0 a' lone' := by
  intro m
  induction m with
  | zero =>
    intro rest a lone hm t
    by_cases z : rest = 0
    · subst z; exact ⟨a, lone, t⟩
    · obtain ⟨j, hj⟩ := LB.ex z
      have := hm j hj
      have := (t.bits hj).2
      omega
  | succ m ih =>
    intro rest a lone hm t
    by_cases z : rest = 0
    · subst z; exact ⟨a, lone, t⟩
    · obtain ⟨j, hj⟩ := LB.ex z
      have h1 := hm j hj
      have up : ∀ j', LB (rest ^^^ S j) j' → n - j' ≤ m := fun j' hj' => by
        have := hj'.from (t.clear hj)
        omega
      cases e : p j with
      | none => exact ih _ _ _ up (t.lone hj e)
      | some q => exact ih _ _ _ up (t.upper sq hj e)
theorem up_step {T : Nat → Nat} {n i : Nat} (hi : i < n) (hT : T i < 2 ^ n) (hh : ∀ k, k ≤ i → (T i).testBit k = false) (sq : ∀ v, mulT T n (mulT T n v) = 0) (h : ∃ S p, Up T n (i + 1) S p ∧ ∀ r, r ≤ i → p r = none) : ∃ S p, Up T n i S p ∧ ∀ r, r < i → p r = none := by
  obtain ⟨S, p, U, np⟩ := h
  obtain ⟨a, lone, t⟩ := Tk.ends sq (n + 1) _ _ _ (fun j _ => by omega) (Tk.start U hi hT hh)
  cases lone with
  | nil => exact ⟨_, _, t.done (np i (Nat.le_refl _)), fun r hr => np r (by omega)⟩
  | cons f ls =>
    refine ⟨_, _, t.pair hi, fun r hr => ?_⟩
    have hf := t.ln f List.mem_cons_self
    rw [put1_ne _ _ (by omega), put1_ne _ _ (by omega)]
    exact np r (by omega)
/-- every high and square table can be paired off -/
theorem up_ex {T : Nat → Nat} {n : Nat} (hi : ∀ r, r < n → T r < 2 ^ n ∧ ∀ k, k ≤ r → (T r).testBit k = false) (sq : ∀ v, mulT T n (mulT T n v) = 0) : ∃ S p, Up T n 0 S p := by
  have key : ∀ d, d ≤ n → ∃ S p, Up T n (n - d) S p ∧ ∀ r, r < n - d → p r = none := by
    intro d
    induction d with
    | zero =>
      intro _
      exact ⟨fun _ => 0, fun _ => none, ⟨fun r h1 h2 => by omega, fun r h1 h2 => by omega, fun r q h1 h2 => by omega, fun r q h1 h2 => by omega, fun r h1 h2 => by omega⟩, fun _ _ => rfl⟩
    | succ d ih =>
      intro hd
      obtain ⟨S, p, U, np⟩ := ih (by omega)
      have e : n - d = n - (d + 1) + 1 := by omega
      rw [e] at U np
      exact up_step (by omega) (hi _ (by omega)).1 (hi _ (by omega)).2 sq ⟨S, p, U, fun r hr => np r (by omega)⟩
  obtain ⟨S, p, U, _⟩ := key n (Nat.le_refl _)
  rw [Nat.sub_self] at U
  exact ⟨S, p, U⟩
/-! ### a full table by its rank -/
theorem three_len (A B N : Nat → Bool) : ∀ l : List Nat, (∀ x ∈ l, (A x = true ∧ B x = false ∧ N x = false) ∨ (A x = false ∧ B x = true ∧ N x = false) ∨ (A x = false ∧ B x = false ∧ N x = true)) → (l.filter A).length + (l.filter B).length + (l.filter N).length = l.length
  | [], _ => rfl
  | x :: l, h => by
    have ih := three_len A B N l fun y hy => h y (List.mem_cons_of_mem _ hy)
    rw [List.filter_cons, List.filter_cons, List.filter_cons, List.length_cons]
    rcases h x List.mem_cons_self with ⟨a, b, c⟩ | ⟨a, b, c⟩ | ⟨a, b, c⟩ <;> rw [a, b, c] <;> simp <;> omega
def isUp (p : Nat → Option Nat) (r : Nat) : Bool := match p r with
  | some q => decide (r < q)
  | none => false
def isDn (p : Nat → Option Nat) (r : Nat) : Bool := match p r with
  | some q => decide (q < r)
  | none => false
def isNo (p : Nat → Option Nat) (r : Nat) : Bool := (p r).isNone
theorem Up.half {T : Nat → Nat} {n : Nat} {S : Nat → Nat} {p : Nat → Option Nat} (U : Up T n 0 S p) : 2 * ((List.range n).filter (isUp p)).length = n ↔ ∀ r, r < n → p r ≠ none := by
  have inv : ∀ r q, r < n → p r = some q → q < n ∧ q ≠ r ∧ p q = some r := fun r q hr e => (U.inv r q (Nat.zero_le _) hr e).2
  have s := three_len (isUp p) (isDn p) (isNo p) (List.range n) (fun r hr => by
    have hr := List.mem_range.mp hr
    unfold isUp isDn isNo
    cases e : p r with
    | none => exact .inr (.inr ⟨rfl, rfl, rfl⟩)
    | some q =>
      have ne := (inv r q hr e).2.1
      rcases Nat.lt_or_gt_of_ne ne with h | h
      · exact .inr (.inl ⟨decide_eq_false (by omega), decide_eq_true h, rfl⟩)
      · exact .inl ⟨decide_eq_true h, decide_eq_false (by omega), rfl⟩)
  have ab : ((List.range n).filter (isUp p)).length = ((List.range n).filter (isDn p)).length := by
    have hp : (((List.range n).filter (isUp p)).map fun k => (p k).getD 0).Perm ((List.range n).filter (isDn p)) := by
      refine (List.perm_ext_iff_of_nodup ?_ (List.Pairwise.filter _ List.nodup_range)).mpr fun q => ?_
      · refine (List.pairwise_map).mpr ((List.Pairwise.filter _ List.nodup_range).imp_of_mem fun {a b} ha hb ne e => ne ?_)
        have ha := List.mem_filter.mp ha
        have hb := List.mem_filter.mp hb
        have a2 := List.mem_range.mp ha.1
        have b2 := List.mem_range.mp hb.1
        have a3 := ha.2
        have b3 := hb.2
        unfold isUp at a3 b3
        cases ea : p a with
        | none => rw [ea] at a3; cases a3
        | some qa =>
          cases eb : p b with
          | none => rw [eb] at b3; cases b3
          | some qb =>
            rw [ea, eb] at e
            have e' : qa = qb := e
            subst e'
            exact U.inj (Nat.zero_le _) a2 (Nat.zero_le _) b2 ea eb
      · rw [List.mem_map, List.mem_filter, List.mem_range]
        constructor
        · rintro ⟨k, hk, rfl⟩
          obtain ⟨h1, h2⟩ := List.mem_filter.mp hk
          have h1 := List.mem_range.mp h1
          unfold isUp at h2
          cases ek : p k with
          | none => rw [ek] at h2; cases h2
          | some q =>
            rw [ek] at h2
            obtain ⟨i1, i2, i3⟩ := inv k q h1 ek
            refine ⟨i1, ?_⟩
            show (match p q with | some q => decide (q < _) | none => false) = true
            rw [i3]
            exact h2
        · rintro ⟨h1, h2⟩
          unfold isDn at h2
          cases eq : p q with
          | none => rw [eq] at h2; cases h2
          | some k =>
            rw [eq] at h2
            obtain ⟨i1, i2, i3⟩ := inv q k h1 eq
            refine ⟨k, List.mem_filter.mpr ⟨List.mem_range.mpr i1, ?_⟩, by rw [i3]; rfl⟩
            show (match p k with | some q => decide (k < q) | none => false) = true
            rw [i3]
            exact h2
    rw [← hp.length_eq, List.length_map]
  rw [List.length_range] at s
  constructor
  · intro h r hr e
    have : r ∈ (List.range n).filter (isNo p) := List.mem_filter.mpr ⟨List.mem_range.mpr hr, by unfold isNo; rw [e]; rfl⟩
    have := List.length_pos_of_mem this
    omega
  · intro h
    have : (List.range n).filter (isNo p) = [] := List.filter_eq_nil_iff.mpr fun r hr => by
      unfold isNo
      have := h r (List.mem_range.mp hr)
      cases e : p r with
      | none => exact absurd e this
      | some q => simp
    rw [this] at s
    simp at s
    omega
theorem Up.fullRank {T : Nat → Nat} {n f : Nat} {S : Nat → Nat} {p : Nat → Option Nat} (U : Up T n 0 S p) (bd : ∀ r, r < n → T r < 2 ^ n) (rk : Rk ((List.range n).map T) f) : 2 * f = n ↔ ∀ r, r < n → p r ≠ none := by
  have e : partR T n 0 n = (List.range n).map T := by
    unfold partR
    rw [List.drop_zero]
    exact List.map_congr_left fun r hr => Nat.mod_eq_of_lt (Nat.lt_of_lt_of_le (bd r (List.mem_range.mp hr)) (Nat.pow_le_pow_right (by decide) (Nat.le_succ _)))
  have r2 := U.rank 0 n ((List.range n).filter (isUp p)) (List.Pairwise.filter _ List.nodup_range) (fun k => by
    rw [List.mem_filter, List.mem_range]
    unfold isUp
    constructor
    · rintro ⟨h1, h2⟩
      cases ek : p k with
      | none => rw [ek] at h2; cases h2
      | some q =>
        rw [ek] at h2
        exact ⟨Nat.zero_le _, h1, q, rfl, of_decide_eq_true h2, Nat.le_of_lt (U.inv k q (Nat.zero_le _) h1 ek).2.1⟩
    · rintro ⟨_, h1, q, e, h2, _⟩
      rw [e]
      exact ⟨h1, decide_eq_true h2⟩)
  rw [e] at r2
  rw [rk.one r2]
  exact U.half
section
variable {X : Cx}
theorem call_anyUK {K : PySem.W.Frag} (h : X.K = K) (hc : X.calm = true) : CallR X (.builtin "any") (fun xs H Q => (∃ (p : Addr) (bs : List Bool), xs = [.ref p] ∧ SqL K H p (bs.map V.bl) ∧ Q (.bl (bs.any id)) H) ∨ (∃ (p : Addr) (ns : List Int), xs = [.ref p] ∧ SqL K H p (ns.map V.int) ∧ Q (.bl ((ns.map (· != 0)).any id)) H)) := by
  intro pins s σ H xs us Q I r q
  rcases q with q | q
  · exact call_anyK h hc pins s σ H xs us Q I r q
  · exact call_anyIK h hc pins s σ H xs us Q I r q
end
section
variable {X : Cx}
def rEqNil (K : PySem.W.Frag) : R2 := fun x y H Q => ∃ (p q : Addr) (xs : List V), x = .ref p ∧ y = .ref q ∧ SqL K H p xs ∧ SqL K H q [] ∧ Q (.bl xs.isEmpty) H
theorem op_eqNilK {K : PySem.W.Frag} (h : X.K = K) (hu : X.A.units + 64 < cLine) : OpR X (compareOp .Eq) (rEqNil K) := by
  subst h
  intro pins s σ H x y v u Q I rx ry h
  obtain ⟨p, q, xs, rfl, rfl, hp, hq, hQ⟩ := h
  cases rx
  cases ry
  obtain ⟨its, r1, p1, _⟩ := I.list hp
  obtain ⟨its2, r2, p2, _⟩ := I.list hq
  have l1 := r1.length
  have l2 : its2.length = 0 := by simpa using r2.length.symm
  cases xs with
  | nil =>
    have l3 : its.length = 0 := by simpa using l1.symm
    refine SeqAt.eq_listAt (e := fun _ => true) p1.isList p2.isList (by simp only [List.size_toArray]; omega) (by omega) (fun j h1 _ => by simp only [List.size_toArray] at h1; omega) ⟨.bl true, H, I, ?_, hQ⟩
    show Value.bool _ = Value.bool true
    simp
  | cons z zs =>
    have l3 : its.length = zs.length + 1 := by simpa using l1.symm
    exact SeqAt.eq_list_lengthsAt p1.isList p2.isList (by simp only [List.size_toArray, bne_iff_ne]; omega) (by omega) ⟨.bl false, H, I, rfl, hQ⟩
end
/-! ### things that are told by some tree -/
theorem repLs_of {H : Hp} : ∀ {vs : List V} (F : V → Lit → Prop), (∀ v ∈ vs, ∃ l, RepL H v l ∧ F v l) → ∃ ls, RepLs H vs ls ∧ vs.length = ls.length ∧ ∀ l ∈ ls, ∃ v ∈ vs, F v l
  | [], F, _ => ⟨[], .nil, rfl, fun _ h => (nomatch h)⟩
  | v :: vs, F, h => by
    obtain ⟨l, h1, h2⟩ := h v List.mem_cons_self
    obtain ⟨ls, g1, g2, g3⟩ := repLs_of (vs := vs) F fun u hu => h u (List.mem_cons_of_mem _ hu)
    refine ⟨l :: ls, .cons h1 g1, by rw [List.length_cons, List.length_cons, g2], fun m hm => ?_⟩
    rcases List.mem_cons.mp hm with e | hm
    · subst e; exact ⟨v, List.mem_cons_self, h2⟩
    · obtain ⟨u, hu, q⟩ := g3 m hm
      exact ⟨u, List.mem_cons_of_mem _ hu, q⟩
end L2

namespace L2
open PySem PySem.Spec PyProof.Rows
end L2

/-! within an except suite: a range walked in a comprehension, defs called with what is handled known -/
namespace L2
open PySem PySem.Spec PyProof.Rows
/-- what is handled is an exception that is told, raised while none was handled -/
def Trk (H : Hp) (v : Value) : Prop := ∃ a C, v = .ref a ∧ H a = some (.ext (isX a C))
def Hnd (A : Around) (H : Hp) : Prop := ∀ v, A.handled = some v → Trk H v
def Quiet (A : Around) (h : Heap) : Prop := ∀ v, A.handled = some v → ∃ a o vs, v = .ref a ∧ h.get? a = some o ∧ o.data = .fields vs ∧ vs[2]? = some .none
theorem Inv.quietH {X : Cx} {pins : List (Addr × Obj)} {σ : St} {H : Hp} {s : Shared} (I : Inv X pins σ H s) (hq : Hnd X.A H) : Quiet X.A s.heap := fun v e => by
  obtain ⟨a, C, rfl, ha⟩ := hq v e
  obtain ⟨o, e1, _, vs, d, z⟩ := (show isX a C s.heap from (I.hok a _ ha).1)
  exact ⟨a, o, vs, rfl, e1, d, z⟩
theorem Hnd.same {A : Around} {H H' : Hp} (x : Hnd A H) (s : Same H H') : Hnd A H' := fun v e => let ⟨a, C, r, h⟩ := x v e; ⟨a, C, r, s a _ h⟩
section
variable {prog : Program} {w : World} {A : Around} {E : Value → Shared → Prop} {s : Shared}
theorem unchain_entry : entryFor table "proto.unchain" = some Builtin.«proto.unchain» := entryFor_of_tree (by kernel_rfl)
theorem unchain_plain : plainId "proto.unchain" = true := by decide +kernel
theorem raise_stopQ {α : Type} {Q : α → Shared → Prop} (hq : Quiet A s.heap) (h : ∀ h' a, (∀ b o, s.heap.get? b = some o → h'.get? b = some o) → Shared.TypeIs { s with heap := h' } (.ref a) "StopIteration" → E (.ref a) { s with heap := h' }) :
    wpAny (model prog w) A ((newExc (.type "StopIteration") [] >>= raiseNew : Sem α)) Q E s := by
  cases hh : A.handled with
  | none => exact raise_stop hh h
  | some v =>
    obtain ⟨a, o, vs, rfl, ha, hd, h2⟩ := hq v hh
    wp_walk using wpAny_newObj_type
    · obtain ⟨h1, e1⟩ : ∃ h1, h1 = s.heap.push { cls := .type "tuple", data := .seq #[] } := ⟨_, rfl⟩
      obtain ⟨ws, e2⟩ : ∃ ws, ws = (#[Value.ref s.heap.objs.size, Value.none, Value.none, Value.none, Value.bool false, if ((Manifest.find? "StopIteration").elim false fun t => t.mro.contains "StopIteration" || t.mro.contains "SystemExit") = true then [].headD Value.none else Value.none] ++ ownMembersOf (Value.type "StopIteration") []) := ⟨_, rfl⟩
      have wz : 2 < ws.size := by rw [e2, Array.size_append]; simp only [List.size_toArray, List.length_cons, List.length_nil]; omega
      obtain ⟨h2', e3⟩ : ∃ h2', h2' = h1.push { cls := .type "StopIteration", data := .fields ws } := ⟨_, rfl⟩
      have up : ∀ b o, s.heap.get? b = some o → h1.get? b = some o := fun b o e => by rw [e1]; exact Heap.get?_push_of_some _ e
      have up2 : ∀ b o, s.heap.get? b = some o → h2'.get? b = some o := fun b o e => by rw [e3]; exact Heap.get?_push_of_some _ (up b o e)
      have nw : h2'.get? h1.objs.size = some { cls := .type "StopIteration", data := .fields ws } := by rw [e3]; exact Heap.get?_push_size _ rfl
      have ne : (Value.ref a != Value.ref h1.objs.size) = true := bne_iff_ne.mpr fun z => by
        have := Heap.lt_size (up a o ha)
        rw [Value.ref.inj z] at this
        exact Nat.lt_irrefl _ this
      show wpAny (model prog w) A (raiseNew (.ref (s.heap.push { cls := .type "tuple", data := .seq #[] }).objs.size)) Q E { s with heap := (s.heap.push { cls := .type "tuple", data := .seq #[] }).push { cls := .type "StopIteration", data := .fields (#[Value.ref s.heap.objs.size, Value.none, Value.none, Value.none, Value.bool false, if ((Manifest.find? "StopIteration").elim false fun t => t.mro.contains "StopIteration" || t.mro.contains "SystemExit") = true then [].headD Value.none else Value.none] ++ ownMembersOf (Value.type "StopIteration") []) } }
      rw [← e1, ← e2, ← e3]
      unfold raiseNew
      refine wpAny_bind (wpAny_handled ?_)
      rw [hh]
      refine wpAny_ite_true (decide_eq_true ne) (wpAny_bind (wpAny_holding (wpAny_runValue (codeAny_builtin unchain_entry ?_))))
      rw [Around.under_plainId unchain_plain _]
      unfold Builtin.«proto.unchain»
      refine wpAny_bind (wpAny_field (up2 a o ha) hd h2 ?_)
      wp_walk
      rw [if_pos wz]
      wp_walk
      refine h _ _ (fun b o e => (Heap.get?_update_other _ _ fun z => ?_).trans (up2 b o e)) ⟨_, Heap.get?_update_self _ nw rfl, rfl⟩
      have q := Heap.lt_size (up b o e)
      rw [← z] at q
      exact Nat.lt_irrefl _ q
    all_goals size_fits
theorem range_endQ {it : Addr} {x left step : Int} {Q : Option Value → Shared → Prop} (hq : Quiet A s.heap) (hit : IsRangeIter s.heap it x left step) (hl : left ≤ 0)
    (hQ : ∀ h', (∀ b o, b ≠ it → s.heap.get? b = some o → h'.get? b = some o) → Q none { s with heap := h' }) : wpAny (model prog w) A (pyNext (.ref it)) Q E s := by
  have ty : s.TypeIs (.ref it) "range_iterator" := ⟨_, hit, rfl⟩
  have hq' : Quiet A.in1 s.heap := hq
  unfold pyNext
  refine wpAny_bind (wpAny_attempt (wpAny_callSpecial?_slot (name := Str.ofString "__next__") ty F.slot_range_iterator_next (wpAny_call_entry F.slot_range_iterator_next ty F.entry_range_iterator_next ?_ (F.args_range_iterator_next_1 _))))
  wp_walk using raise_stopQ hq', wpAny_ite_true (decide_eq_true hl), wpAny_fieldsOf hit rfl
  intro h' a k tys
  wp_walk using wpAny_isInstance (T := "StopIteration") (b := true) tys isSubtype_stop
  exact hQ h' fun b o _ e => k b o e
end
/-- a range walked, whatever is handled -/
def ItrQ (A : Around) (lo : Int) (n : Nat) : It := ⟨(Itr lo n).go, (Itr lo n).yld, fun i H => (Itr lo n).stop i H ∧ Hnd A H⟩
def PIEQ (X : Cx) (pins : List (Addr × Obj)) (σ : St) (tg : Expr) (R : It → Hp → Prop) (itv : Value) (s2 : Shared) : Prop :=
  ∃ (it : Addr) (fp : List Addr) (tn : Nat → Heap → Prop) (J : It) (H' : Hp), itv = .ref it ∧ Inv X pins σ H' s2 ∧ (∀ X' : Cx, X'.A = X.A → TurnX X' tg J fp it tn) ∧ tn 0 s2.heap ∧ (∀ b ∈ fp, FpOk X pins H' b) ∧ R J H'
def PIQ (X : Cx) (tg iter : Expr) (wi : TI) : Prop :=
  ∀ (pins : List (Addr × Obj)) (s : Shared) (σ : St) (H : Hp) (R : It → Hp → Prop), Inv X pins σ H s → wi σ H R →
    wpAny (model X.prog X.w) X.A (eval iter X.env) (fun v s1 => wpAny (model X.prog X.w) X.A (pyIter v) (PIEQ X pins σ tg R) X.xe s1) X.xe s
theorem turn_rangeQ {X : Cx} {A : Around} (hA : X.A = A) {tg : Expr} (it : Addr) (lo : Int) (n : Nat) : TurnX X tg (ItrQ A lo n) [it] it (fun i h => IsRangeIter h it (lo + (i : Nat) * 1) ((n : Int) - (i : Nat)) 1) := by
  subst hA
  have T := turn_range (P := X.prog) (w := X.w) (K := X.K) (tg := tg) it lo n
  refine ⟨T.obj, T.keep, fun i pins s σ H E I hf st hg => ?_, fun i pins s σ H E I hf st hg => ?_, T.self⟩
  · obtain ⟨f0, f1, f2, f3, f4, f5⟩ := hf it (by simp)
    have lt : i < n := hg
    refine wpAny_pyNext_range_item st (by omega) fun h' st' sb => ?_
    have st'' : IsRangeIter h' it (lo + ((i + 1 : Nat) : Int) * 1) ((n : Int) - ((i + 1 : Nat) : Int)) 1 := by
      rw [show lo + ((i + 1 : Nat) : Int) * 1 = lo + (i : Nat) * 1 + 1 by omega, show (n : Int) - ((i + 1 : Nat) : Int) = (n : Int) - (i : Nat) - 1 by omega]
      exact st'
    have I1 : Inv X pins σ H { s with heap := h', toks := s.toks + 1 } := I.turned (fun b o hb e => (sb.2 b hb).trans e) f0 f1 f3 f4 f5
    refine ⟨_, rfl, go_of (s := { s with heap := h', toks := s.toks + 1 }) (n := "range_iterator") st'' rfl rfl (by decide) ⟨.int (lo + i), H, I1, ⟨s.toks, ?_⟩, ⟨rfl, rfl⟩, st'', fun b hb => (hf b hb).1⟩⟩
    rw [Int.mul_one]
  · obtain ⟨f0, f1, f2, f3, f4, f5⟩ := hf it (by simp)
    exact range_endQ (I.quietH hg.2) st (by have : n ≤ i := hg.1; omega) fun h' eb => ⟨rfl, I.turned (t' := s.toks) eb f0 f1 f3 f4 f5⟩
def iRngQ (A : Around) (ta : TA) : TI := fun σ H R => ta σ H fun vs H1 => ∃ j : Int, vs = [.int j] ∧ -(2 ^ 62) ≤ j ∧ j < 2 ^ 62 ∧ R (ItrQ A 0 j.toNat) H1
section
variable {X : Cx} {tg : Expr}
theorem pi_rangeQ {A : Around} {a : Expr} {ta : TA} {p pos : Pos} (hA : X.A = A) (hg : Gl X "range") (hm : X.mg "range" = none) (ha : PA X [a] ta) (hs : starEach [a] X.env = [(false, eval a X.env)] := by rfl) : PIQ X tg (.Call (.Name "range" p) [a] [] pos) (iRngQ A ta) := by
  subst hA
  intro pins s σ H R I h
  refine Call_ (ld_blt I hg hm boot_range (PyProof.Rows.callWith_type1 (thn (ha pos pins s σ H _ I h) fun us s1 ⟨vs, H1, I1, r1, q1⟩ => ?_) hs rfl))
  obtain ⟨j, e, q1, q2, q⟩ := q1
  subst e
  cases r1 with
  | cons r rr =>
    cases rr
    obtain ⟨t, rfl⟩ := r
    refine call_range_1 (wpAny_pyIter_range (IsRange.new ..) (small_one (by omega) (by omega) q1 q2) ?_)
    have I2 : Inv X pins σ H1 { s1 with heap := s1.heap.push { cls := .type "range", data := .fields #[.int 0 s1.toks, .int j t, .int 1 (s1.toks + 1)] }, toks := s1.toks + 1 + 1 } := I1.kept fun b o e => Heap.get?_push_of_some _ e
    refine ⟨_, [(s1.heap.push { cls := .type "range", data := .fields #[.int 0 s1.toks, .int j t, .int 1 (s1.toks + 1)] }).objs.size], _, _, H1, rfl, I2.kept (t' := s1.toks + 1 + 1) fun b o e => Heap.get?_push_of_some _ e, fun X' hX => turn_rangeQ hX _ 0 j.toNat, ?_, fun b hb => ?_, q⟩
    · have e2 : ((j.toNat : Nat) : Int) - ((0 : Nat) : Int) = Builtin.Range.rangeSize 0 j 1 := by rw [rangeSize_one]; split <;> omega
      show IsRangeIter _ _ (0 + ((0 : Nat) : Int) * 1) (((j.toNat : Nat) : Int) - ((0 : Nat) : Int)) 1
      rw [e2]
      exact Heap.get?_push_size _ rfl
    · obtain rfl : b = _ := by simpa using hb
      have e : (s1.heap.push { cls := .type "range", data := .fields #[.int 0 s1.toks, .int j t, .int 1 (s1.toks + 1)] }).objs.size = s1.heap.objs.size + 1 := Heap.size_push ..
      exact I2.fpOk (Nat.le_of_eq e) (I2.hok.fresh (Nat.le_of_eq e))
/-- [elt for tg in iter if ..] within an except suite -/
theorem pe_lcQ {elt iter : Expr} {ifs : List Expr} {scope : Scope} {pos : Pos} {Ls Fs : List Str} {fi : List Nat} {g : TG} {tc : TT} {te : TE} {wi : TI} (S : LcScope X.N X.env.scope scope Ls Fs fi) (hi : PIQ X tg iter wi)
    (hb : ∀ cl C s3 H3 ex, PG (blk X scope (Ls ++ Fs) cl C s3 H3 ex) tg g ∧ PTs (blk X scope (Ls ++ Fs) cl C s3 H3 ex) ifs tc ∧ PE (blk X scope (Ls ++ Fs) cl C s3 H3 ex) elt te)
    (hs : ∀ x, foldedSetIterable iter X.env x = pure x := by intro _; rfl) : PE X (.ListComp elt [⟨tg, iter, ifs, 0⟩] scope pos) (tLc Ls.length fi wi g tc te) := by
  intro pins s σ H Q I h
  rw [eval_ListComp]
  obtain ⟨cl, hcl, hcl1, hcl2⟩ := clos_ok (scope := scope) (env := X.env) fun y hy hf => I.ok.has y.1 (S.all y hy hf)
  refine wpAny_comprehension_free (use := none) rfl hs hcl S.kind S.names (wpAny_mono (hi pins s σ H _ I h) (fun v s1 h1 => wpAny_mono h1 (fun itv s2 h2 => ?_) fun _ _ e => e) fun _ _ e => e)
  obtain ⟨it, fp, tn, J, H2, e, I2, T, st2, f2, hW⟩ := h2
  subst e
  refine lc_block (RR := fun acc C => compPost (model X.prog X.w) X.A X.xe none (EP X pins σ Q) acc C) S (hb cl) hcl1 hcl2 I2 (fun C s3 H3 ex => T _ rfl) st2 f2 hW fun D C H' s' m I' q hn f => ?_
  obtain ⟨f0, f1, f2, f3, f4, f5⟩ := f
  exact ⟨m, hn, fun h' hs' => ⟨.ref D, H', I'.turned (it := C) (t' := s'.toks) (fun b o hb e => (hs'.2 b hb).trans e) f0 f1 f3 f4 f5, rfl, q⟩⟩
end
/-- isinstance(an exception, a class or a tuple of classes) -/
def rIsXT (K : PySem.W.Frag) : List V → Hp → VK → Prop := fun xs H Q => ∃ (a C : Addr) (y : V) (b : Bool), xs = [.ref a, y] ∧ H a = some (.ext (isX a C)) ∧ XCls K C ∧
  ((∃ D, y = .ref D ∧ PySem.W.kitOne K (.ref C) (.ref D) = some b) ∨ (∃ T, y = .ty T ∧ PySem.W.kitOne K (.ref C) (.type T) = some b) ∨ (∃ (p : Addr) (ds : List Addr), y = .ref p ∧ H p = some (.tup (ds.map V.ref)) ∧ PySem.W.kitAny K (.ref C) (ds.map Value.ref) = some b)) ∧ Q (.bl b) H
theorem refs_vals : ∀ {ds : List Addr} {us : List Value}, Vals (ds.map V.ref) us → us = ds.map Value.ref
  | [], _, .nil => rfl
  | _ :: _, _, .cons r t => by rw [refs_vals t]; cases r; rfl
theorem call_isXT {X : Cx} {K : PySem.W.Frag} (h : X.K = K) : CallR X (.builtin "isinstance") (rIsXT K) := by
  intro pins s σ H vs us Q I rv hq
  obtain ⟨a, C, y, b, rfl, ha, xc, hy, q⟩ := hq
  rcases hy with hy | hy | ⟨p, ds, rfl, hp, hk⟩
  · exact call_isX h pins s σ H _ us Q I rv ⟨a, C, y, b, rfl, ha, xc, .inl hy, q⟩
  · exact call_isX h pins s σ H _ us Q I rv ⟨a, C, y, b, rfl, ha, xc, .inr hy, q⟩
  · subst h
    cases rv with
    | cons r1 rv =>
      cases rv with
      | cons r2 rv =>
        cases rv
        cases r1
        cases r2
        obtain ⟨_, its, r, o, h1, h2, n, h3⟩ := (show ObjOk X.prog X.w H s.heap p (.tup (ds.map V.ref)) from I.hok p _ hp)
        obtain ⟨cls, dd, data, sl⟩ := o
        dsimp only at h2 h3
        subst h2 h3
        obtain rfl := refs_vals r
        have hx : ∃ o, s.heap.get? a = some o ∧ o.cls = .ref C := let ⟨o, e, c, _⟩ := (show isX a C s.heap from (I.hok a _ ha).1); ⟨o, e, c⟩
        exact PySem.W.kia_tup (kitx_exc xc.ga xc.gn xc.ca xc.ob xc.be xc.cl) I.kIn hx h1 hk (fun z => nomatch z) fun tk => ⟨.bl b, H, I.tok _, rfl, q⟩
/-! defs called within an except suite, with what is handled known -/
section
variable {P : Program} {w : World} {K : PySem.W.Frag} {mg : Str → Option Value} {base : Heap}
structure FnOkQ (P : Program) (w : World) (K : PySem.W.Frag) (mg : Str → Option Value) (base : Heap) (k : Nat) (f : Addr) (fd : FuncData) (ps : List Str) (sp : Sp) : Prop where
  len : ∀ vs H Q E, sp vs H Q E → vs.length = ps.length
  run : ∀ (A : Around) (outer : List Env) (s : Shared) (H : Hp) (args : Args) (us : List Value) (vs : List V) (Q : VK), RoomS k A → Hnd A H → Env0 P w K mg base A outer s H → BindsTo s fd args (ps.zip us) → Vals vs us → sp vs H Q E0 →
    codeAny (model P w) A (.call (.ref f) args) (CR CX0 outer P w H s Q E0) s
theorem Fun.okQ {x qual : Str} {st : Stmt} {f : Addr} {fd : FuncData} {N ps : List Str} {k : Nat} {sp : Sp} (F : Fun K x qual st f fd) (S : FnScope N ps (defScope st)) (len : ∀ vs H Q E, sp vs H Q E → vs.length = ps.length)
    (hbody : ∀ (cdv : Value) (A : Around) (outer : List Env) (s : Shared) (H : Hp) (vs : List V) (Q : VK), RoomS k (A.deeper (envOfC qual (defScope st) s.heap.objs.size f cdv)) → Hnd (A.deeper (envOfC qual (defScope st) s.heap.objs.size f cdv)) H → sp vs H Q E0 →
      ∃ t, PSs (cxS P w K mg base N qual (defScope st) f cdv A outer s H) (defBody st) t ∧ t { nx := fun _ H' => Q .non H', rt := Q } (start N vs) H) : FnOkQ P w K mg base (k + 1) f fd ps sp := by
  obtain ⟨oc, od, kV, doc, pm, an, cdv, ct, osl, rfl, lk, hcd⟩ := F.ex
  refine ⟨len, fun A outer s H args us vs Q hr hq e0 hb r hsp => ?_⟩
  have hl := len _ _ _ _ hsp
  have KX : K.In s.heap := e0.mod.kin.keeps fun b o e => (e0.bs b o e).1
  have lim : s.heap.NoLimit := e0.mod.nolimit.keeps fun b o e => (e0.bs b o e).1
  have hkind : ∀ y ∈ ps.zip us, (defScope st).names.lookup y.1 = some .local ∨ ((defScope st).names.lookup y.1 = some .cell ∧ ((cellsFrom (s.heap.objs.size + 1) (defScope st).names []).lookup y.1).isSome = true) := fun ⟨n, v⟩ hy => by
    rcases S.par n (List.of_mem_zip hy).1 with q | q
    · exact .inl q
    · exact .inr ⟨q, PySem.W.cellsFrom_some _ _ _ (.inl q)⟩
  have dep : A.depth < recursionLimit := by have := hr.dp; omega
  refine codeAny_call_function dep (KX _ _ lk) rfl S.co S.gen rfl (PySem.W.codeRec_of KX hcd) (hb _ _ _ _ ?_)
  refine wpAny_newFunctionEnv_cells S.kind hkind fun env he s1 x => ?_
  subst he
  refine ⟨lim.keeps x.toInCall.keep, codeAny_func ?_⟩
  obtain ⟨t, ht, hq⟩ := hbody cdv A outer s H vs Q ⟨by have := hr.dp; show A.depth + 1 + 3 * k + 5 < _; omega, by have := hr.un; show A.units + 3 + 16 * k + 200 < _; omega⟩ hq hsp
  have e1 : Env0 P w K mg base ({ A with handled := none }) outer s H := ⟨e0.frames, e0.mod, e0.bs, e0.bsz, e0.funs, e0.frf, e0.hok, e0.bare⟩
  have I0 : Inv (cxOf CX0 P w K mg base N qual (defScope st) f cdv ({ A with handled := none }) outer s H E0) [] (start N vs) H s1 := inv_start S rfl e1 hl r x
  have ok := I0.ok
  have I : Inv (cxS P w K mg base N qual (defScope st) f cdv A outer s H) [] (start N vs) H s1 :=
    ⟨⟨ok.mod, ok.kind, ok.glob, ok.blt, ok.above, ok.inj, ok.has, ok.cab, (fun z => nomatch z), Around.frames_deeper e0.frames, ok.stk, ok.exf, ok.bs, ok.bsz, ok.noex, ok.exfs, ok.funs, ok.frf⟩, I0.os, I0.bare, I0.base, I0.loc, I0.cell, I0.free, I0.freeC, I0.pin, I0.hok, I0.len⟩
  refine wpAny_mono (ht [] s1 (start N vs) H _ I hq) (fun fl s' hs => ?_) fun e s' hs => hs.elim
  have fin : ∀ {σ' : L2.St} {H' : Hp} {v : V} {u : Value}, Inv (cxS P w K mg base N qual (defScope st) f cdv A outer s H) [] σ' H' s' → RelV v u → Q v H' → CE outer P w H s Q u s' :=
    fun {σ' H' v u} J rv q => ⟨v, H', J.os, J.bare, J.base, J.hok, rv, q⟩
  cases fl with
  | ret u => obtain ⟨v, σ', H', J, rv, q⟩ := hs; exact fin J rv q
  | next => obtain ⟨σ', H', J, q⟩ := hs; exact fin (v := V.non) (u := Value.none) J rfl q
  | brk => obtain ⟨_, _, _, q⟩ := hs; exact False.elim q
  | cont => obtain ⟨_, _, _, q⟩ := hs; exact False.elim q
def tCallQ (A : Around) (sp : Sp) (ta : TA) : TE := fun σ H Q => ta σ H fun vs H1 => Hnd A H1 ∧ sp vs H1 Q E0
def HasQ (P : Program) (w : World) (K : PySem.W.Frag) (mg : Str → Option Value) (base : Heap) (k : Nat) (x : Str) (ps : List Str) (sp : Sp) : Prop :=
  ∃ (f : Addr) (fd : FuncData), FnOkQ P w K mg base k f fd ps sp ∧ mg x = some (.ref f) ∧ PySem.W.keepIn K (.ref f) = true ∧ Binds K fd ps []
theorem pe_hasQ {X : Cx} {k : Nat} {x : Str} {ps : List Str} {sp : Sp} {p pos : Pos} {e : Expr} {es : List Expr} {t : TA} {A : Around} (h : HasQ X.prog X.w X.K X.mg X.base k x ps sp) (hr : RoomS k X.A) (hA : X.A = A) (ha : PA X (e :: es) t) (hg : Gl X x := by rfl) (hdb : (x == ("__debug__" : Str)) = false := by decide)
    (he : starEach (e :: es) X.env = (false, eval e X.env) :: starEach es X.env := by rfl) (hpl : (backTo pos (starEach es X.env)).any (·.1) = false := by rfl) : PE X (.Call (.Name x p) (e :: es) [] pos) (tCallQ A sp t) := by
  subst hA
  obtain ⟨f, fd, G, hm, hk, hb⟩ := h
  intro pins s σ H Q I hw
  refine wpAny_Call_Name_kw (ld_glob I hg hm ?_ hdb)
  refine PySem.W.callWith_K (h₀ := X.base) I.ok.mod.kin hk (thn (ha pos pins s σ H _ I hw) fun us s1 ⟨vs, H1, I1, r, q⟩ => ⟨I1.kIn, ?_⟩) he hpl
  obtain ⟨hq, q⟩ := q
  have hl := G.len _ _ _ _ q
  refine wpAny_call (codeAny_mono (G.run X.A X.stack s1 H1 ⟨us, []⟩ us vs Q hr hq I1.env0 ?_ r q) fun res s2 c => ?_)
  · have := hb s1 us I1.kIn (by rw [List.append_nil, ← r.length, hl])
    rwa [List.append_nil] at this
  · cases res with
    | error e => exact c.elim
    | ok fl =>
      cases fl with
      | ret u => exact I1.after c
      | next => exact c.elim
      | brk => exact c.elim
      | cont => exact c.elim
end
theorem RoomS.units {k : Nat} {A : Around} (r : RoomS k A) : A.units + 64 < cLine := by have := r.un; omega
theorem lc_rngQ {A : Around} {σ : St} {g : TG} {tc : TT} {te : TE} {H : Hp} {Q : VK} {lo : Int} {n : Nat} (hn : n ≤ sizeLine) (Pv : Nat → List V → Hp → Prop) (h0 : Pv 0 [] H) (hlen : ∀ i ys H, Pv i ys H → ys.length ≤ i) (hq : ∀ ys H, Pv n ys H → Hnd A H)
    (hs : ∀ i ys H, i < n → Pv i ys H → g (.int (lo + i)) σ H fun σ2 H2 => tc σ2 H2 fun b H3 => if b = true then te σ2 H3 fun y H4 => Pv (i + 1) (ys ++ [y]) H4 else Pv (i + 1) ys H3)
    (hd : ∀ ys H, Pv n ys H → ∀ D, H D = none → Q (.ref D) (upd H D (.lst ys))) : LcW (ItrQ A lo n) σ g tc te H Q :=
  lc_gen hn Pv h0 hlen (fun i ys H hi p => hi) (fun ys H p => ⟨Nat.le_refl _, hq ys H p⟩) (fun i ys H hi p x H' y => by
    obtain ⟨e, y⟩ := y
    subst e y
    exact hs i ys _ hi p) hd
/-- an item of a display by its own rule -/
theorem pl_pe {X : Cx} {G : St → Hp → Prop} {e : Expr} {l : Lit} {te : TE} (h : PE X e te) (m : ∀ σ H Q, G σ H → (∀ v H', Same H H' → RepL H' v l → Q v H') → te σ H Q) : PL X G e l := ⟨PE.mono h fun σ H Q z => m σ H Q z.1 z.2⟩
/-- for over a display of constants and of names that are told -/
theorem psc_forG {X : Cx} {K : PySem.W.Frag} {G : St → Hp → Prop} {tg iter : Expr} {l : Lit} {body : List Stmt} {g : TG} {tb : TS} {pos : Pos} (hp : PassesOwn (model X.prog X.w) X.A X.env X.xe) (hc : X.calm = true) (hk : X.K = K) (h : PL X G iter l) (hg : PG X tg g) (hb : PSs X body tb)
    (hs : ∀ x, foldedSetIterable iter X.env x = pure x := by intro _; rfl) : PSc X (.For tg iter body [] pos) (tFor (iList K (tL G l)) g tb) := psc_of (ps_for hp hc (pi_listK hk h.out) hg hb hs)
end L2

namespace Qk27
open PySem L2 PyProof.Rows
def top (i : Nat) : Stmt := PySem.Challenge.pw_bendfronts_k27_no_tables.main.body.getD i (.Pass ⟨0, 0, 0, 0⟩)
section
variable {P : Program} {w : World} {K : PySem.W.Frag} {mg : Str → Option Value} {base : Heap}
/-! ### bag and take -/
def spTake : Sp := fun vs H Q _ => ∃ (b : Addr) (m : Int), vs = [.ref b, .int m] ∧ Bag H b ∧ 1 ≤ m ∧ m < 1073741824 ∧ ∀ (d : Int) (H' : Hp), 0 ≤ d → d < m → Bag H' b → Frm b H H' → Q (.int d) H'
abbrev s__law_take : Stmt := top 30
theorem sc__law_take : FnScope ["_law_bag_here", "_law_many", "_law_digit"] ["_law_bag_here", "_law_many"] (defScope s__law_take) := ⟨rfl, rfl, rfl, by decide +kernel, rfl, by decide +kernel, by decide +kernel⟩
theorem ok_take {f : Addr} {fd : FuncData} (F : Fun K "_law_take" "_law_take" s__law_take f fd) : FnOk P w K mg base CX0 1 f fd ["_law_bag_here", "_law_many"] spTake := by
  refine F.ok sc__law_take (fun vs H Q E h => ?_) (fun cdv A outer s H vs Q E hr h => ?_)
  · obtain ⟨b, m, rfl, _⟩ := h
    rfl
  · obtain ⟨b, m, rfl, ⟨g, r, hg, hb⟩, h1, h2, k⟩ := h
    refine ⟨_, (pss_cons (ps_if (pt_cmpR op_gt (pe_ix (ix_listK (K := K) rfl) (pv 0) pe_int (fun _ _ => rfl)) pe_int (nomark _)) (pss_cons (ps_set (i := 2) sc__law_take.nd rfl (Or.inl rfl) (pe_op op_mod (pe_ix (ix_listK (K := K) rfl) (pv 0) pe_int (fun _ _ => rfl)) (pv 1)))
      (pss_cons (ps_asg (pe_op op_fdiv (pe_ix (ix_listK (K := K) rfl) (pv 0) pe_int (fun _ _ => rfl)) (pv 1)) (pg_sub (pv 0) pe_int set_list))
      (pss_one (ps_ret (pv 2))))) pss_nil)
      (pss_cons (ps_asg (pe_op op_mod (pe_op op_add (pe_op op_mul (pe_ix (ix_listK (K := K) rfl) (pv 0) pe_int (fun _ _ => rfl)) pe_int) pe_int) pe_int) (pg_sub (pv 0) pe_int set_list))
      (pss_one (ps_ret (pe_op op_mod (pe_op op_mod (pe_op op_pow (pe_op op_fdiv (pe_ix (ix_listK (K := K) rfl) (pv 0) pe_int (fun _ _ => rfl)) pe_int) pe_int) pe_int) (pv 1)))))), ?_⟩
    refine ⟨_, rfl, b, _, _, _, rfl, rfl, SqL.of hb, atI_nat (j := 0) rfl, _, _, rfl, rfl, _, rfl, ?_⟩
    refine ite2 (fun hp => ?_) (fun hp => ?_)
    · have hp' : 0 < g := of_decide_eq_true hp
      refine ⟨_, rfl, b, _, _, _, rfl, rfl, SqL.of hb, atI_nat (j := 0) rfl, _, rfl, _, _, rfl, rfl, (by omega : 0 < m), ?_⟩
      refine ⟨_, rfl, b, _, _, _, rfl, rfl, SqL.of hb, atI_nat (j := 0) rfl, _, rfl, _, _, rfl, rfl, ⟨by omega, by omega⟩, _, rfl, b, _, _, 0, rfl, rfl, hb, rfl, ?_⟩
      refine ⟨_, rfl, k _ _ (Int.emod_nonneg _ (by omega)) (Int.emod_lt_of_pos _ (by omega)) ⟨g / m, r, Int.ediv_nonneg (by omega) (by omega), upd_same⟩ Frm.upd⟩
    · refine ⟨_, rfl, b, _, _, _, rfl, rfl, SqL.of hb, atI_nat (j := 1) rfl, _, _, rfl, rfl, .inr ⟨by decide, by decide⟩, _, _, rfl, rfl, _, _, rfl, rfl, (show (0 : Int) < 2147483647 by decide), _, rfl, b, _, _, 1, rfl, rfl, hb, rfl, ?_⟩
      have e1 : 0 ≤ (r * 48271 + 11) % 2147483647 := Int.emod_nonneg _ (by decide)
      have e2 : (r * 48271 + 11) % 2147483647 < 2147483647 := Int.emod_lt_of_pos _ (by decide)
      refine ⟨_, rfl, b, _, _, _, rfl, rfl, SqL.of upd_same, atI_nat (j := 1) rfl, _, _, rfl, rfl, ⟨by decide, by decide⟩, _, _, rfl, rfl, ⟨by decide, by decide, by omega⟩, _, _, rfl, rfl, (show (0 : Int) < 2147483629 by decide), _, rfl, _, _, rfl, rfl, (by omega : 0 < m), ?_⟩
      exact k _ _ (Int.emod_nonneg _ (by omega)) (Int.emod_lt_of_pos _ (by omega)) ⟨g, _, hg, upd_same⟩ Frm.upd
def spBag (K : PySem.W.Frag) : Sp := fun vs H Q _ => ∃ (a : Addr) (i : Int) (ns : List Int), vs = [.ref a, .int i] ∧ SqL K H a (ns.map V.int) ∧ 0 ≤ i ∧ i < 1000 ∧ ∀ (l : Addr) (H' : Hp), H l = none → Same H H' → Bag H' l → Q (.ref l) H'
abbrev s__law_bag : Stmt := top 29
theorem sc__law_bag : FnScope ["_law_script", "_law_at", "_law_cell", "_law_great", "_law_primes"] ["_law_script", "_law_at"] (defScope s__law_bag) := ⟨rfl, rfl, rfl, by decide +kernel, rfl, by decide +kernel, by decide +kernel⟩
theorem ok_bag {f : Addr} {fd : FuncData} (F : Fun K "_law_bag" "_law_bag" s__law_bag f fd) (b_len : mg "len" = none) (b_abs : mg "abs" = none) : FnOk P w K mg base CX0 1 f fd ["_law_script", "_law_at"] (spBag K) := by
  refine F.ok sc__law_bag (fun vs H Q E h => ?_) (fun cdv A outer s H vs Q E hr h => ?_)
  · obtain ⟨a, i, ns, rfl, _⟩ := h
    rfl
  · obtain ⟨a, i, ns, rfl, hS, h0, h1, k⟩ := h
    refine ⟨_, (pss_cons (ps_set (i := 2) sc__law_bag.nd rfl (Or.inl rfl) pe_int)
      (pss_cons (ps_if (pt_cmpR op_lt (pv 1) (pe_callB (call_lenK (K := K) rfl) (by rfl) b_len PySem.boot_len (pa_cons (pv 0) pa_nil)) (nomark _)) (pss_one (ps_set (i := 2) sc__law_bag.nd rfl (Or.inl rfl) (pe_ix (ix_listK (K := K) rfl) (pv 0) (pv 1) (fun _ _ => rfl)))) pss_nil)
      (pss_cons (ps_set (i := 3) sc__law_bag.nd rfl (Or.inl rfl) pe_int)
      (pss_cons (ps_if (pt_cmpR op_ge (pe_callB call_abs (by rfl) b_abs boot_abs (pa_cons (pv 2) pa_nil)) (pe_op op_pow pe_int pe_int) (nomark _)) (pss_one (ps_set (i := 3) sc__law_bag.nd rfl (Or.inl rfl) (pe_callB call_abs (by rfl) b_abs boot_abs (pa_cons (pv 2) pa_nil)))) pss_nil)
      (pss_cons (ps_set (i := 4) sc__law_bag.nd rfl (Or.inl rfl) (pe_lst (pa_cons pe_int (pa_cons pe_int (pa_cons pe_int (pa_cons pe_int (pa_cons pe_int (pa_cons pe_int (pa_cons pe_int (pa_cons pe_int pa_nil))))))))))
      (pss_one (ps_ret (pe_lst (pa_cons (pv 3) (pa_cons (pe_op op_mod (pe_op op_pow (pe_op op_add (pe_op op_add (pe_op op_mod (pv 2) pe_int) (pe_op op_mul pe_int (pv 1))) pe_int) pe_int) (pe_ix (ix_listK (K := K) rfl) (pv 4) (pe_op op_mod (pv 1) pe_int) (fun _ _ => rfl))) pa_nil)))))))))), ?_⟩
    refine ⟨_, rfl, _, rfl, a, _, rfl, .inl hS, _, _, rfl, rfl, _, rfl, ?_⟩
    have last : ∀ (c : Int), 0 ≤ c % 2147483647 ∧ c % 2147483647 < 2147483647 := fun c => ⟨Int.emod_nonneg _ (by decide), Int.emod_lt_of_pos _ (by decide)⟩
    have e3 : 0 ≤ i % 8 := Int.emod_nonneg _ (by decide)
    have e4 : i % 8 < 8 := Int.emod_lt_of_pos _ (by decide)
    obtain ⟨j, hj⟩ : ∃ j : Nat, i % 8 = (j : Int) := ⟨(i % 8).toNat, by omega⟩
    have hj8 : j < 8 := by omega
    obtain ⟨q, hq, hq0⟩ : ∃ q : Int, ([V.int 2147483629, .int 2147483587, .int 2147483579, .int 2147483563, .int 2147483549, .int 2147483543, .int 2147483497, .int 2147483489] : List V)[j]? = some (.int q) ∧ 0 < q := by
      match j, hj8 with
      | 0, _ => exact ⟨_, rfl, by decide⟩
      | 1, _ => exact ⟨_, rfl, by decide⟩
      | 2, _ => exact ⟨_, rfl, by decide⟩
      | 3, _ => exact ⟨_, rfl, by decide⟩
      | 4, _ => exact ⟨_, rfl, by decide⟩
      | 5, _ => exact ⟨_, rfl, by decide⟩
      | 6, _ => exact ⟨_, rfl, by decide⟩
      | 7, _ => exact ⟨_, rfl, by decide⟩
    have two : ∀ (c : Int) (B : Prop), B → (c = 0 ∨ ∃ j : Nat, i = (j : Int) ∧ ns[j]? = some c) → B := fun _ _ b _ => b
    refine ite2 (fun hp => ?_) (fun hp => ?_)
    · have hp' : i < ((ns.map V.int).length : Int) := of_decide_eq_true hp
      rw [List.length_map] at hp'
      obtain ⟨n, hn⟩ : ∃ n : Nat, i = (n : Int) := ⟨i.toNat, by omega⟩
      have hnl : n < ns.length := by omega
      refine ⟨_, rfl, _, rfl, a, _, _, _, rfl, rfl, hS, (by rw [hn]; exact atI_nat (v := V.int ns[n]) (by simp [hnl])), ?_⟩
      refine ⟨_, rfl, _, rfl, _, _, rfl, rfl, ⟨by decide, by decide, by decide⟩, _, _, rfl, rfl, _, rfl, ?_⟩
      refine ite2 (fun hp => ?_) (fun hp => ?_)
      · refine ⟨_, rfl, _, rfl, ?_⟩
        have l0 := last ns[n]
        refine ⟨(by show 8 ≤ sizeLine; decide), fun pl hpl => ?_⟩
        refine ⟨_, rfl, _, rfl, _, _, rfl, rfl, (show (0 : Int) < 2147483647 by decide), _, rfl, _, _, rfl, rfl, .inl ⟨by decide, by decide⟩, _, _, rfl, rfl, _, _, rfl, rfl, _, _, rfl, rfl, ⟨by decide, by decide, by omega⟩, _, rfl, _, rfl, _, _, rfl, rfl, (show (0 : Int) < 8 by decide), pl, _, _, _, rfl, rfl, SqL.of upd_same, (by rw [hj]; exact atI_nat hq), _, _, rfl, rfl, hq0, (by show 2 ≤ sizeLine; decide), fun l hl => ?_⟩
        have hl0 : H l = none := (Same.laid hpl).free hl
        exact k l _ hl0 ((Same.laid hpl).step hl) ⟨_, _, (by split <;> omega), upd_same⟩
      · have l0 := last ns[n]
        refine ⟨(by show 8 ≤ sizeLine; decide), fun pl hpl => ?_⟩
        refine ⟨_, rfl, _, rfl, _, _, rfl, rfl, (show (0 : Int) < 2147483647 by decide), _, rfl, _, _, rfl, rfl, .inl ⟨by decide, by decide⟩, _, _, rfl, rfl, _, _, rfl, rfl, _, _, rfl, rfl, ⟨by decide, by decide, by omega⟩, _, rfl, _, rfl, _, _, rfl, rfl, (show (0 : Int) < 8 by decide), pl, _, _, _, rfl, rfl, SqL.of upd_same, (by rw [hj]; exact atI_nat hq), _, _, rfl, rfl, hq0, (by show 2 ≤ sizeLine; decide), fun l hl => ?_⟩
        have hl0 : H l = none := (Same.laid hpl).free hl
        exact k l _ hl0 ((Same.laid hpl).step hl) ⟨0, _, Int.le_refl _, upd_same⟩
    · refine ⟨_, rfl, _, rfl, _, _, rfl, rfl, ⟨by decide, by decide, by decide⟩, _, _, rfl, rfl, _, rfl, ?_⟩
      refine ite2 (fun hp => ?_) (fun hp => ?_)
      · exact absurd hp (by decide)
      · have l0 := last 0
        refine ⟨(by show 8 ≤ sizeLine; decide), fun pl hpl => ?_⟩
        refine ⟨_, rfl, _, rfl, _, _, rfl, rfl, (show (0 : Int) < 2147483647 by decide), _, rfl, _, _, rfl, rfl, .inl ⟨by decide, by decide⟩, _, _, rfl, rfl, _, _, rfl, rfl, _, _, rfl, rfl, ⟨by decide, by decide, by omega⟩, _, rfl, _, rfl, _, _, rfl, rfl, (show (0 : Int) < 8 by decide), pl, _, _, _, rfl, rfl, SqL.of upd_same, (by rw [hj]; exact atI_nat hq), _, _, rfl, rfl, hq0, (by show 2 ≤ sizeLine; decide), fun l hl => ?_⟩
        have hl0 : H l = none := (Same.laid hpl).free hl
        exact k l _ hl0 ((Same.laid hpl).step hl) ⟨0, _, Int.le_refl _, upd_same⟩

end
end Qk27

namespace Qk27
open PySem L2 PyProof.Rows
section
variable {P : Program} {w : World} {K : PySem.W.Frag} {mg : Str → Option Value} {base : Heap}
/-! ### tables as masks -/
def rowV (n v : Nat) : List V := (brow n v).map V.int
theorem rowV_len (n v : Nat) : (rowV n v).length = n := by rw [rowV, List.length_map, brow_len]
theorem rowV_at {n v j : Nat} (h : j < n) : (rowV n v)[j]? = some (V.int (((v.testBit j).toNat : Nat) : Int)) := by rw [rowV, List.getElem?_map, brow_at h]; rfl
theorem rowV_get {n v j : Nat} {x : V} (h : (rowV n v)[j]? = some x) : j < n ∧ x = V.int (((v.testBit j).toNat : Nat) : Int) := by
  have hj : j < n := by
    have := (List.getElem?_eq_some_iff.mp h).1
    rwa [rowV_len] at this
  rw [rowV_at hj] at h
  exact ⟨hj, (Option.some.inj h).symm⟩
/-- a table at a: n rows at rs, told by their masks -/
def TabM (H : Hp) (a : Addr) (n : Nat) (T : Nat → Nat) (rs : List Addr) : Prop := H a = some (.lst (rs.map V.ref)) ∧ rs.length = n ∧ ∀ r p, rs[r]? = some p → H p = some (.lst (rowV n (T r)))
theorem TabM.same {H H' : Hp} {a : Addr} {n : Nat} {T : Nat → Nat} {rs : List Addr} (s : Same H H') (x : TabM H a n T rs) : TabM H' a n T rs := ⟨s _ _ x.1, x.2.1, fun r p e => s _ _ (x.2.2 r p e)⟩
theorem refs_get {rs : List Addr} {i : Nat} {x : V} (h : (rs.map V.ref)[i]? = some x) : ∃ p, rs[i]? = some p ∧ x = .ref p := by
  rw [List.getElem?_map] at h
  obtain ⟨p, e, rfl⟩ := Option.map_eq_some_iff.mp h
  exact ⟨p, e, rfl⟩
theorem cut_hd (xs : List V) (k : Nat) : cutV xs none (some (k : Int)) = xs.take k := by
  unfold cutV
  rw [HT.sIx_none, HT.sIx_nat, List.drop_zero, Nat.sub_zero, List.take_eq_take_iff]
  omega


end
end Qk27

namespace Qk27
open PySem L2 PyProof.Rows
section
variable {P : Program} {w : World} {K : PySem.W.Frag} {mg : Str → Option Value} {base : Heap}
/-! ### any things -/
def wholeL : Lit → Bool
  | .int _ => true
  | _ => false
def bitL : Lit → Bool
  | .int i => i == 0 || i == 1
  | _ => false
def bitsL (m : Nat) : Lit → Bool
  | .lst l => l.length == m && l.all bitL
  | _ => false
def shapeL : Lit → Bool
  | .lst l => decide (l.length ≤ 8) && l.all (bitsL l.length)
  | _ => false
/-- lists of at most twenty, so deep -/
def okL : Nat → Lit → Bool
  | 0, .lst _ => false
  | d + 1, .lst l => decide (l.length ≤ 20) && l.all (okL d)
  | _, _ => true
theorem okL_mono : ∀ {d e : Nat} {l : Lit}, d ≤ e → okL d l = true → okL e l = true
  | 0, e, .lst l, _, h => by cases h
  | d + 1, 0, .lst l, h, _ => by omega
  | d + 1, e + 1, .lst l, h, q => by
    simp only [okL, Bool.and_eq_true, List.all_eq_true] at q ⊢
    exact ⟨q.1, fun x hx => okL_mono (Nat.le_of_succ_le_succ h) (q.2 x hx)⟩
  | _, 0, .non, _, _ => rfl
  | _, 0, .bl _, _, _ => rfl
  | _, 0, .int _, _, _ => rfl
  | _, 0, .str _, _, _ => rfl
  | _, 0, .tup _, _, _ => rfl
  | _, _ + 1, .non, _, _ => rfl
  | _, _ + 1, .bl _, _, _ => rfl
  | _, _ + 1, .int _, _, _ => rfl
  | _, _ + 1, .str _, _, _ => rfl
  | _, _ + 1, .tup _, _, _ => rfl
theorem okL_lst {d : Nat} {l : List Lit} (h : okL (d + 1) (.lst l) = true) : l.length ≤ 20 ∧ ∀ x ∈ l, okL d x = true := by
  simp only [okL, Bool.and_eq_true, List.all_eq_true, decide_eq_true_eq] at h
  exact h
/-- a list or not -/
theorem rep_cases {H : Hp} {v : V} {l : Lit} (h : RepL H v l) : (∃ (a : Addr) (xs : List V) (ls : List Lit), v = .ref a ∧ l = .lst ls ∧ H a = some (.lst xs) ∧ RepLs H xs ls) ∨ (∃ t, TyOf K H v t ∧ PySem.W.kitOne K t (.type "list") = some false ∧ (∀ ls, l ≠ .lst ls)) := by
  cases h with
  | non => exact .inr ⟨_, .non, by rfl, fun _ z => nomatch z⟩
  | bl b => exact .inr ⟨_, .bl b, by rfl, fun _ z => nomatch z⟩
  | int i => exact .inr ⟨_, .int i, by rfl, fun _ z => nomatch z⟩
  | str x => exact .inr ⟨_, .str x, by rfl, fun _ z => nomatch z⟩
  | tup e r => exact .inr ⟨_, .tup e, by rfl, fun _ z => nomatch z⟩
  | lst e r => exact .inl ⟨_, _, _, rfl, rfl, e, r⟩
def spWholeG : Sp := fun vs H Q _ => ∃ (v : V) (l : Lit), vs = [v] ∧ RepL H v l ∧ Q (.bl (wholeL l)) H
abbrev s_is_whole : Stmt := top 1
theorem sc_is_whole : FnScope ["thing"] ["thing"] (defScope s_is_whole) := ⟨rfl, rfl, rfl, by decide +kernel, rfl, by decide +kernel, by decide +kernel⟩
theorem ok_isWhole {f : Addr} {fd : FuncData} (F : Fun K "is_whole" "is_whole" s_is_whole f fd) (b_isinstance : mg "isinstance" = none) (b_int : mg "int" = none) (b_bool : mg "bool" = none) : FnOk P w K mg base CX0 1 f fd ["thing"] spWholeG := by
  refine F.ok sc_is_whole (fun vs H Q E h => ?_) (fun cdv A outer s H vs Q E hr h => ?_)
  · obtain ⟨v, l, rfl, _⟩ := h
    rfl
  · obtain ⟨v, l, rfl, r, k⟩ := h
    refine ⟨_, (pss_one (ps_ret (pe_and (pe_callB (call_isinstK (K := K) rfl) (by rfl) b_isinstance boot_isinstance (pa_cons (pv 0) (pa_cons (pe_bltn (v := .ty "int") (by rfl) b_int boot_int rfl) pa_nil))) (pe_one (pe_not (pe_callB (call_isinstK (K := K) rfl) (by rfl) b_isinstance boot_isinstance (pa_cons (pv 0) (pa_cons (pe_bltn (v := .ty "bool") (by rfl) b_bool boot_bool rfl) pa_nil)))))))), ?_⟩
    cases r with
    | non => exact ⟨_, rfl, _, "int", _, false, rfl, .non, by rfl, false, rfl, iteF k⟩
    | str x => exact ⟨_, rfl, _, "int", _, false, rfl, .str x, by rfl, false, rfl, iteF k⟩
    | tup e r => exact ⟨_, rfl, _, "int", _, false, rfl, .tup e, by rfl, false, rfl, iteF k⟩
    | lst e r => exact ⟨_, rfl, _, "int", _, false, rfl, .lst e, by rfl, false, rfl, iteF k⟩
    | bl b => exact ⟨_, rfl, _, "int", _, true, rfl, .bl b, by rfl, true, rfl, iteT ⟨_, rfl, _, "bool", _, true, rfl, .bl b, by rfl, true, rfl, k⟩⟩
    | int i => exact ⟨_, rfl, _, "int", _, true, rfl, .int i, by rfl, true, rfl, iteT ⟨_, rfl, _, "bool", _, false, rfl, .int i, by rfl, false, rfl, k⟩⟩
theorem all_take {α : Type} (f : α → Bool) (ls : List α) (i : Nat) {x : α} (h : ls[i]? = some x) : ((ls.take (i + 1)).map fun l => V.bl (f l)) = ((ls.take i).map fun l => V.bl (f l)) ++ [V.bl (f x)] := by
  rw [List.take_add_one, h, List.map_append]; rfl
def spBitsG : Sp := fun vs H Q _ => ∃ (v : V) (l : Lit) (m : Nat), vs = [v, .int (m : Nat)] ∧ RepL H v l ∧ okL 3 l = true ∧ ∀ H', Same H H' → Q (.bl (bitsL m l)) H'
abbrev s_is_bits : Stmt := top 16
theorem sc_is_bits : FnScope ["thing", "many"] ["thing", "many"] (defScope s_is_bits) := ⟨rfl, rfl, rfl, by decide +kernel, rfl, by decide +kernel, by decide +kernel⟩
theorem ok_isBits {f : Addr} {fd : FuncData} (F : Fun K "is_bits" "is_bits" s_is_bits f fd) (h_is_whole : Has P w K mg base 1 "is_whole" ["thing"] spWholeG) (b_isinstance : mg "isinstance" = none) (b_list : mg "list" = none) (b_len : mg "len" = none) (b_all : mg "all" = none) : FnOk P w K mg base CX0 2 f fd ["thing", "many"] spBitsG := by
  refine F.ok sc_is_bits (fun vs H Q E h => ?_) (fun cdv A outer s H vs Q E hr h => ?_)
  · obtain ⟨v, l, m, rfl, _⟩ := h
    rfl
  · obtain ⟨v, l, m, rfl, r, ok, k⟩ := h
    refine ⟨_, (pss_cons (ps_if (PW.pt (pw_or (pt_not (pt_val (pe_callB (call_isinstK (K := K) rfl) (by rfl) b_isinstance boot_isinstance (pa_cons (pv 0) (pa_cons (pe_bltn (v := .ty "list") (by rfl) b_list boot_list rfl) pa_nil))))) (pw_or1 (pt_cmpR op_ne (pe_callB (call_lenK (K := K) rfl) (by rfl) b_len PySem.boot_len (pa_cons (pv 0) pa_nil)) (pv 1) (nomark _))))) (pss_one (ps_ret pe_bl)) pss_nil)
      (pss_one (ps_ret (pe_callB (call_allK (K := K) rfl rfl) (by rfl) b_all boot_all (pa_cons (pe_lc (Ls := ["bit"]) (Fs := []) (fi := []) (LcScope.of (show lcLook ["thing", "many"] (defScope s_is_bits) _ [] [] = true by decide +kernel)) rfl (pi_listK (K := K) rfl (pv 0)) (fun cl C s3 H3 ex => ⟨(pg_name (i := 0) (show ((["bit"] : List Str) ++ ([] : List Str)).Nodup by decide +kernel) rfl (Or.inl rfl)), pts_nil, (pe_and (pe_has h_is_whole (hr.mono (by decide)) (pa_cons (pv 0) pa_nil)) (pe_one (pe_cmpR (op_in_seqK (K := K) rfl) (pv 0) (pe_tup (pa_cons pe_int (pa_cons pe_int pa_nil))) rfl)))⟩)) pa_nil))))), ?_⟩
    rcases rep_cases (K := K) r with ⟨a, xs, ls, rfl, rfl, ea, rs⟩ | ⟨t, ty, kt, nl⟩
    · obtain ⟨l20, _⟩ := okL_lst ok
      have lx := rs.len
      refine ⟨_, rfl, _, "list", _, true, rfl, .lst ea, by rfl, true, rfl, iteF ?_⟩
      refine ⟨_, rfl, a, _, rfl, .inl (SqL.of ea), _, rfl, rfl, _, rfl, ?_⟩
      by_cases e : ls.length = m
      · rw [show (!decide (V.int (xs.length : Int) = V.int (m : Int))) = false by rw [lx, e]; simp]
        refine iteF ?_
        refine ⟨_, rfl, a, rfl, ⟨_, SqL.of ea⟩, lc_list (K := K) (xs := xs) (by rw [lx, sizeLine_eq]; omega) (fun i zs G => Same H G ∧ zs = (ls.take i).map fun l => V.bl (bitL l)) ⟨Same.refl _, rfl⟩
          (fun i zs G ⟨_, z⟩ => by rw [z, List.length_map, List.length_take]; omega) (fun i zs G ⟨s', _⟩ => SqL.of (s' a _ ea)) ?_ ?_⟩
        · rintro i x zs G hx ⟨s', rfl⟩
          obtain ⟨l', hl, rl⟩ := rs.get hx
          have rl := rl.same s'
          rw [all_take bitL ls i hl]
          dsimp only [gName, tTrue]
          refine iteT ⟨_, rfl, x, l', rfl, rl, _, rfl, ?_⟩
          cases rl with
          | int j =>
            refine iteT ⟨_, rfl, (by show 2 ≤ sizeLine; decide), fun c hc => ?_⟩
            refine ⟨c, _, rfl, .inr (SqT.of upd_same), rfl, rfl, s'.step hc, ?_⟩
            have : inV (.int j) [V.int 0, V.int 1] = bitL (.int j) := by
              simp only [inV, List.any_cons, List.any_nil, Bool.or_false, eqV, bitL]
              rw [Bool.eq_iff_iff]
              simp
              omega
            rw [this]
            rfl
          | non => exact iteF ⟨s', rfl⟩
          | bl b => exact iteF ⟨s', rfl⟩
          | str y => exact iteF ⟨s', rfl⟩
          | tup e r => exact iteF ⟨s', rfl⟩
          | lst e r => exact iteF ⟨s', rfl⟩
        · rintro zs G ⟨s', rfl⟩ D hD
          refine ⟨D, ls.map bitL, rfl, SqL.of ?_, ?_⟩
          · rw [upd_same, List.map_map, List.take_of_length_le (by omega)]
            rfl
          · have : (ls.map bitL).all id = bitsL m (.lst ls) := by
              simp [bitsL, e]
            rw [this]
            exact k _ (s'.step hD)
      · rw [show (!decide (V.int (xs.length : Int) = V.int (m : Int))) = true by rw [lx]; simp; omega]
        refine iteT ?_
        have : bitsL m (.lst ls) = false := by simp [bitsL, e]
        have := k H (Same.refl _)
        rwa [‹bitsL m (.lst ls) = false›] at this
    · refine ⟨_, rfl, _, "list", _, false, rfl, ty, kt, false, rfl, iteT ?_⟩
      have : bitsL m l = false := by
        cases l with
        | lst ls => exact absurd rfl (nl ls)
        | _ => rfl
      have q := k H (Same.refl _)
      rwa [this] at q
def spShapeG : Sp := fun vs H Q _ => ∃ (v : V) (l : Lit), vs = [v] ∧ RepL H v l ∧ okL 3 l = true ∧ ∀ H', Same H H' → Q (.bl (shapeL l)) H'
abbrev s_has_shape : Stmt := top 17
theorem sc_has_shape : FnScope ["thing"] ["thing"] (defScope s_has_shape) := ⟨rfl, rfl, rfl, by decide +kernel, rfl, by decide +kernel, by decide +kernel⟩
theorem ok_hasShape {t1 : Tok} {f : Addr} {fd : FuncData} (F : Fun K "has_shape" "has_shape" s_has_shape f fd) (g_MOST_ROWS : mg "MOST_ROWS" = some (.int 8 t1)) (h_is_bits : Has P w K mg base 2 "is_bits" ["thing", "many"] spBitsG) (b_isinstance : mg "isinstance" = none) (b_list : mg "list" = none) (b_len : mg "len" = none) (b_all : mg "all" = none) : FnOk P w K mg base CX0 3 f fd ["thing"] spShapeG := by
  refine F.ok sc_has_shape (fun vs H Q E h => ?_) (fun cdv A outer s H vs Q E hr h => ?_)
  · obtain ⟨v, l, rfl, _⟩ := h
    rfl
  · obtain ⟨v, l, rfl, r, ok, k⟩ := h
    refine ⟨_, (pss_cons (ps_if (PW.pt (pw_or (pt_not (pt_val (pe_callB (call_isinstK (K := K) rfl) (by rfl) b_isinstance boot_isinstance (pa_cons (pv 0) (pa_cons (pe_bltn (v := .ty "list") (by rfl) b_list boot_list rfl) pa_nil))))) (pw_or1 (pt_cmpR op_gt (pe_callB (call_lenK (K := K) rfl) (by rfl) b_len PySem.boot_len (pa_cons (pv 0) pa_nil)) (pe_glob (v := .int 8) (by rfl) g_MOST_ROWS ⟨_, rfl⟩) (nomark _))))) (pss_one (ps_ret pe_bl)) pss_nil)
      (pss_one (ps_ret (pe_callB (call_allK (K := K) rfl rfl) (by rfl) b_all boot_all (pa_cons (pe_lc (Ls := ["row"]) (Fs := ["thing"]) (fi := [0]) (LcScope.of (show lcLook ["thing"] (defScope s_has_shape) _ ["thing"] [0] = true by decide +kernel)) rfl (pi_listK (K := K) rfl (pv 0)) (fun cl C s3 H3 ex => ⟨(pg_name (i := 0) (show ((["row"] : List Str) ++ (["thing"] : List Str)).Nodup by decide +kernel) rfl (Or.inl rfl)), pts_nil, (pe_has h_is_bits (hr.mono (by decide)) (pa_cons (pv 0) (pa_cons (pe_callB (call_lenK (K := K) rfl) (by rfl) b_len PySem.boot_len (pa_cons (pv 1) pa_nil)) pa_nil)))⟩)) pa_nil))))), ?_⟩
    rcases rep_cases (K := K) r with ⟨a, xs, ls, rfl, rfl, ea, rs⟩ | ⟨t, ty, kt, nl⟩
    · obtain ⟨l20, okr⟩ := okL_lst ok
      have lx := rs.len
      refine ⟨_, rfl, _, "list", _, true, rfl, .lst ea, by rfl, true, rfl, iteF ?_⟩
      refine ⟨_, rfl, a, _, rfl, .inl (SqL.of ea), _, _, rfl, rfl, _, rfl, ?_⟩
      by_cases e : ls.length ≤ 8
      · rw [lx, decide_eq_false (show ¬ ((8 : Int) < (ls.length : Int)) by omega)]
        refine iteF ?_
        refine ⟨_, rfl, a, rfl, ⟨_, SqL.of ea⟩, lc_list (K := K) (xs := xs) (by rw [lx, sizeLine_eq]; omega) (fun i zs G => Same H G ∧ zs = (ls.take i).map fun l => V.bl (bitsL ls.length l)) ⟨Same.refl _, rfl⟩
          (fun i zs G ⟨_, z⟩ => by rw [z, List.length_map, List.length_take]; omega) (fun i zs G ⟨s', _⟩ => SqL.of (s' a _ ea)) ?_ ?_⟩
        · rintro i x zs G hx ⟨s', rfl⟩
          obtain ⟨l', hl, rl⟩ := rs.get hx
          rw [all_take (bitsL ls.length) ls i hl]
          dsimp only [gName, tTrue]
          refine iteT ⟨_, rfl, _, rfl, a, _, rfl, .inl (SqL.of (s' a _ ea)), x, l', ls.length, (by rw [lx]; rfl), rl.same s', okL_mono (by decide) (okr _ (List.mem_of_getElem? hl)), fun G' s2 => ⟨s'.trans s2, rfl⟩⟩
        · rintro zs G ⟨s', rfl⟩ D hD
          refine ⟨D, ls.map (bitsL ls.length), rfl, SqL.of ?_, ?_⟩
          · rw [upd_same, List.map_map, List.take_of_length_le (by omega)]
            rfl
          · have : (ls.map (bitsL ls.length)).all id = shapeL (.lst ls) := by
              simp [shapeL, e]
            rw [this]
            exact k _ (s'.step hD)
      · rw [lx, decide_eq_true (show ((8 : Int) < (ls.length : Int)) by omega)]
        refine iteT ?_
        have z : shapeL (.lst ls) = false := by simp only [shapeL, decide_eq_false e, Bool.false_and]
        have q := k H (Same.refl _)
        rwa [z] at q
    · refine ⟨_, rfl, _, "list", _, false, rfl, ty, kt, false, rfl, iteT ?_⟩
      have : shapeL l = false := by
        cases l with
        | lst ls => exact absurd rfl (nl ls)
        | _ => rfl
      have q := k H (Same.refl _)
      rwa [this] at q

end
end Qk27

namespace Qk27
open PySem L2 PyProof.Rows
section
variable {P : Program} {w : World} {K : PySem.W.Frag} {mg : Str → Option Value} {base : Heap}
def spMask : Sp := fun vs H Q _ => ∃ (a : Addr) (n v : Nat), vs = [.ref a] ∧ H a = some (.lst (rowV n v)) ∧ n ≤ 8 ∧ v < 2 ^ n ∧ ∀ H', Same H H' → Q (.int v) H'
abbrev s_mask_of : Stmt := top 18
theorem sc_mask_of : FnScope ["row", "mask", "j", "bit"] ["row"] (defScope s_mask_of) := ⟨rfl, rfl, rfl, by decide +kernel, rfl, by decide +kernel, by decide +kernel⟩
theorem ok_maskOf {f : Addr} {fd : FuncData} (F : Fun K "mask_of" "mask_of" s_mask_of f fd) (b_enumerate : mg "enumerate" = none) : FnOk P w K mg base CX0 1 f fd ["row"] spMask := by
  refine F.ok sc_mask_of (fun vs H Q E h => ?_) (fun cdv A outer s H vs Q E hr h => ?_)
  · obtain ⟨a, n, v, rfl, _⟩ := h
    rfl
  · obtain ⟨a, n, v, rfl, ea, hn, hv, k⟩ := h
    refine ⟨_, (pss_cons (ps_set (i := 1) sc_mask_of.nd rfl (Or.inl rfl) pe_int)
      (pss_cons (ps_for PassesOwn.never rfl (pi_enumK (K := K) rfl (by rfl) b_enumerate (pa_cons (pv 0) pa_nil)) (pg_tupK (K := K) (n := 2) rfl rfl (pgs_cons (pg_name (i := 2) sc_mask_of.nd rfl (Or.inl rfl)) (pgs_cons (pg_name (i := 3) sc_mask_of.nd rfl (Or.inl rfl)) pgs_nil))) (pss_one (ps_aug (i := 1) sc_mask_of.nd rfl (Or.inl rfl) (pe_op op_shl (pv 3) (pv 2)) ip_or)))
      (pss_one (ps_ret (pv 1))))), ?_⟩
    have lr := rowV_len n v
    refine ⟨_, rfl, a, rfl, ⟨_, SqL.of ea⟩, for_enm (K := K) (a := a) (xs := rowV n v) (fun i σ G => ∃ v2 v3 : Option V, σ = [some (.ref a), some (.int (mBits v i : Nat)), v2, v3] ∧ Same H G) ⟨none, none, rfl, Same.refl _⟩ (fun i σ G _ ⟨_, _, _, s'⟩ => SqL.of (s' a _ ea)) ?_ ?_⟩
    · rintro i x p σ G hx ⟨v2, v3, rfl, s'⟩ hp
      obtain ⟨hi, rfl⟩ := rowV_get hx
      refine ⟨p, _, rfl, SqT.of upd_same, rfl, _, _, rfl, _, _, rfl, rfl, ?_⟩
      have cp : CPow (((v.testBit i).toNat : Nat) : Int) (i : Int) := ⟨by omega, by omega, by cases v.testBit i <;> decide⟩
      refine ⟨_, rfl, _, rfl, _, rfl, _, _, rfl, rfl, cp, _, _, rfl, rfl, some (.int i), some (.int (((v.testBit i).toNat : Nat) : Int)), ?_, s'.step hp⟩
      have := or8 i (by omega) (mBits v i) (mBits_lt v i) (v.testBit i).toNat (by cases v.testBit i <;> decide)
      show [some (V.ref a), some (V.int (Builtin.bitOr _ _)), _, _] = _
      rw [Int.toNat_natCast, this]
      rfl
    · rintro σ G ⟨v2, v3, rfl, s'⟩
      rw [lr, mBits_all hv]
      exact ⟨_, rfl, k G s'⟩
def spBitsOf : Sp := fun vs H Q _ => ∃ (n v : Nat), vs = [.int v, .int n] ∧ n ≤ 8 ∧ v < 2 ^ n ∧ ∀ (p : Addr) (H' : Hp), H p = none → Same H H' → H' p = some (.lst (rowV n v)) → Q (.ref p) H'
def spLeast : Sp := fun vs H Q _ => ∃ v : Nat, vs = [.int v] ∧ v < 256 ∧ v ≠ 0 ∧ Q (.int (lbit v : Nat)) H
abbrev s_least_bit : Stmt := top 20
theorem sc_least_bit : FnScope ["mask"] ["mask"] (defScope s_least_bit) := ⟨rfl, rfl, rfl, by decide +kernel, rfl, by decide +kernel, by decide +kernel⟩
theorem ok_least {f : Addr} {fd : FuncData} (F : Fun K "least_bit" "least_bit" s_least_bit f fd) : FnOk P w K mg base CX0 1 f fd ["mask"] spLeast := by
  refine F.ok sc_least_bit (fun vs H Q E h => ?_) (fun cdv A outer s H vs Q E hr h => ?_)
  · obtain ⟨v, rfl, _⟩ := h
    rfl
  · obtain ⟨v, rfl, hv, hz, k⟩ := h
    refine ⟨_, (pss_one (ps_ret (pe_op op_sub (pe_bm0K (K := K) rfl (pe_bm0 PySem.F.plainAttrs_int PySem.F.slot_int_bit_length PySem.F.type_int_bit_length mt_bits (pe_op op_and (pv 0) (pe_un un_neg (pv 0))))) pe_int))), ?_⟩
    refine ⟨_, rfl, _, rfl, _, rfl, _, _, rfl, rfl, rfl, _, rfl, rfl, _, _, rfl, rfl, ?_⟩
    show Q (.int ((Builtin.Int.intBits (Builtin.bitAnd (v : Int) (-(v : Int))) : Nat) - 1 : Int)) H
    rw [least8 v hv hz]
    exact k
/-! ### high, square -/
def High (n : Nat) (T : Nat → Nat) : Prop := ∀ r, r < n → T r < 2 ^ n ∧ ∀ k, k ≤ r → (T r).testBit k = false
def Sqr (n : Nat) (T : Nat → Nat) : Prop := ∀ v, mulT T n (mulT T n v) = 0
theorem take_no1 {n v i : Nat} (h : ∀ k, k ≤ i → v.testBit k = false) : inV (.int 1) ((rowV n v).take (i + 1)) = false := by
  unfold inV
  rw [List.any_eq_false]
  intro x hx
  obtain ⟨j, hj, rfl⟩ := List.getElem_of_mem hx
  rw [List.length_take, rowV_len] at hj
  have e : ((rowV n v).take (i + 1))[j]? = some (V.int (((v.testBit j).toNat : Nat) : Int)) := by rw [List.getElem?_take_of_lt (by omega), rowV_at (by omega)]
  have := List.getElem?_eq_some_iff.mp e
  rw [this.2, h j (by omega)]
  decide
end
end Qk27

namespace Qk27
open PySem L2 PyProof.Rows
section
variable {P : Program} {w : World} {K : PySem.W.Frag} {mg : Str → Option Value} {base : Heap}
def bit1 : Lit → Bool
  | .int i => i == 1
  | _ => false
def maskL : List Lit → Nat
  | [] => 0
  | x :: r => (bit1 x).toNat + 2 * maskL r
theorem maskL_bit : ∀ (l : List Lit) (j : Nat), (maskL l).testBit j = ((l[j]?).map bit1).getD false
  | [], j => by simp [maskL]
  | x :: r, 0 => by
    show ((bit1 x).toNat + 2 * maskL r).testBit 0 = _
    rw [Nat.testBit_zero]
    cases h : bit1 x <;> simp [h] <;> omega
  | x :: r, j + 1 => by
    show ((bit1 x).toNat + 2 * maskL r).testBit (j + 1) = _
    rw [Nat.testBit_succ, show ((bit1 x).toNat + 2 * maskL r) / 2 = maskL r by cases bit1 x <;> simp <;> omega, maskL_bit r j]
    simp
theorem maskL_lt : ∀ (l : List Lit), maskL l < 2 ^ l.length
  | [] => by simp [maskL]
  | x :: r => by
    have := maskL_lt r
    show (bit1 x).toNat + 2 * maskL r < 2 ^ (r.length + 1)
    rw [Nat.pow_succ]
    cases bit1 x <;> simp <;> omega
def maskR : Lit → Nat
  | .lst l => maskL l
  | _ => 0
def maskT (ls : List Lit) (r : Nat) : Nat := ((ls[r]?).map maskR).getD 0
theorem rep_row {H : Hp} {v : V} {l : Lit} {n : Nat} (h : RepL H v l) (b : bitsL n l = true) : ∃ p, v = .ref p ∧ H p = some (.lst (rowV n (maskR l))) ∧ maskR l < 2 ^ n := by
  cases h with
  | @lst a xs ls e r =>
    simp only [bitsL, Bool.and_eq_true, beq_iff_eq, List.all_eq_true] at b
    obtain ⟨hl, hb⟩ := b
    refine ⟨a, rfl, ?_, by rw [← hl]; exact maskL_lt ls⟩
    rw [e]
    congr 2
    refine List.ext_getElem? fun j => ?_
    by_cases hj : j < n
    · rw [rowV_at hj]
      have hx : j < xs.length := by rw [r.len, hl]; exact hj
      obtain ⟨l', h1, h2⟩ := r.get (List.getElem?_eq_getElem hx)
      rw [List.getElem?_eq_getElem hx]
      have hb' := hb _ (List.mem_of_getElem? h1)
      have e2 : (maskR (.lst ls)).testBit j = bit1 l' := by
        show (maskL ls).testBit j = _
        rw [maskL_bit, h1]; rfl
      rw [e2]
      generalize xs[j] = y at h2
      cases h2 with
      | int i =>
        simp only [bitL, Bool.or_eq_true, beq_iff_eq] at hb'
        rcases hb' with rfl | rfl <;> rfl
      | _ => cases hb'
    · rw [List.getElem?_eq_none (by rw [r.len, hl]; omega), List.getElem?_eq_none (by rw [rowV_len]; omega)]
  | _ => cases b
def adr : V → Addr
  | .ref p => p
  | _ => 0
theorem rep_tab {H : Hp} {a : Addr} {xs : List V} {ls : List Lit} (e : H a = some (.lst xs)) (r : RepLs H xs ls) (b : shapeL (.lst ls) = true) : ∃ rs, TabM H a ls.length (maskT ls) rs ∧ ls.length ≤ 8 ∧ ∀ i, i < ls.length → maskT ls i < 2 ^ ls.length := by
  simp only [shapeL, Bool.and_eq_true, decide_eq_true_eq, List.all_eq_true] at b
  have key : ∀ i x, xs[i]? = some x → ∃ p, x = .ref p ∧ H p = some (.lst (rowV ls.length (maskT ls i))) ∧ maskT ls i < 2 ^ ls.length := fun i x hx => by
    obtain ⟨l, h1, h2⟩ := r.get hx
    obtain ⟨p, q1, q2, q3⟩ := rep_row h2 (b.2 l (List.mem_of_getElem? h1))
    have : maskT ls i = maskR l := by unfold maskT; rw [h1]; rfl
    rw [this]
    exact ⟨p, q1, q2, q3⟩
  refine ⟨xs.map adr, ⟨?_, by rw [List.length_map, r.len], fun i p hp => ?_⟩, b.1, fun i hi => ?_⟩
  · rw [e, List.map_map]
    congr 2
    refine List.ext_getElem? fun i => ?_
    rw [List.getElem?_map]
    cases hx : xs[i]? with
    | none => rfl
    | some x =>
      obtain ⟨p, rfl, _⟩ := key i x hx
      rfl
  · rw [List.getElem?_map] at hp
    obtain ⟨x, hx, rfl⟩ := Option.map_eq_some_iff.mp hp
    obtain ⟨p, rfl, h, _⟩ := key i x hx
    exact h
  · have hx : i < xs.length := by rw [r.len]; exact hi
    exact (key i _ (List.getElem?_eq_getElem hx)).choose_spec.2.2
def hiB (n v i : Nat) : Bool := !(inV (V.int 1) ((rowV n v).take (i + 1)))
theorem hiB_iff {n v i : Nat} (h : i < n) : hiB n v i = true ↔ ∀ k, k ≤ i → v.testBit k = false := by
  unfold hiB
  constructor
  · intro z k hk
    cases b : v.testBit k with
    | false => rfl
    | true =>
      have : inV (V.int 1) ((rowV n v).take (i + 1)) = true := by
        unfold inV
        rw [List.any_eq_true]
        refine ⟨V.int 1, List.mem_of_getElem? (i := k) ?_, by decide⟩
        rw [List.getElem?_take_of_lt (by omega), rowV_at (by omega), b]
        rfl
      rw [this] at z
      cases z
  · intro z
    rw [take_no1 z]
    rfl
theorem high_iff {n : Nat} {T : Nat → Nat} (bd : ∀ r, r < n → T r < 2 ^ n) : (((List.range n).map fun r => hiB n (T r) r).all id) = true ↔ High n T := by
  rw [List.all_map, List.all_eq_true]
  constructor
  · intro h r hr
    exact ⟨bd r hr, (hiB_iff hr).mp (h r (List.mem_range.mpr hr))⟩
  · intro h r hr
    have hr := List.mem_range.mp hr
    exact (hiB_iff hr).mpr (h r hr).2
theorem sqr_iff {n : Nat} {T : Nat → Nat} : (∀ r, r < n → mulT T n (T r) = 0) ↔ Sqr n T := by
  constructor
  · intro h v
    have key : ∀ m, m ≤ n → mulT T n (mulT T m v) = 0 := by
      intro m
      induction m with
      | zero => intro _; exact mulT_zero T n
      | succ m ih =>
        intro hm
        show mulT T n ((if v.testBit m = true then T m else 0) ^^^ mulT T m v) = 0
        rw [mulT_xor, ih (by omega), Nat.xor_zero]
        split
        · exact h m (by omega)
        · exact mulT_zero T n
    exact key n (Nat.le_refl _)
  · intro h r hr
    have := h (2 ^ r)
    rwa [mulT_pow T n r hr] at this
def spHighG : Sp := fun vs H Q _ => ∃ (a : Addr) (n : Nat) (T : Nat → Nat) (rs : List Addr), vs = [.ref a] ∧ TabM H a n T rs ∧ n ≤ 8 ∧ ∀ H', Same H H' → Q (.bl (((List.range n).map fun r => hiB n (T r) r).all id)) H'
abbrev s_is_high : Stmt := top 21
theorem sc_is_high : FnScope ["table"] ["table"] (defScope s_is_high) := ⟨rfl, rfl, rfl, by decide +kernel, rfl, by decide +kernel, by decide +kernel⟩
theorem ok_highG {f : Addr} {fd : FuncData} (F : Fun K "is_high" "is_high" s_is_high f fd) (b_all : mg "all" = none) (b_enumerate : mg "enumerate" = none) : FnOk P w K mg base CX0 1 f fd ["table"] spHighG := by
  refine F.ok sc_is_high (fun vs H Q E h => ?_) (fun cdv A outer s H vs Q E hr h => ?_)
  · obtain ⟨a, n, T, rs, rfl, _⟩ := h
    rfl
  · obtain ⟨a, n, T, rs, rfl, tb, hn, k⟩ := h
    refine ⟨_, (pss_one (ps_ret (pe_callB (call_allK (K := K) rfl rfl) (by rfl) b_all boot_all (pa_cons (pe_lc (Ls := ["i", "row"]) (Fs := []) (fi := []) (LcScope.of (show lcLook ["table"] (defScope s_is_high) _ [] [] = true by decide +kernel)) rfl (pi_enumK (K := K) rfl (by rfl) b_enumerate (pa_cons (pv 0) pa_nil)) (fun cl C s3 H3 ex => ⟨(pg_tupK (K := K) (n := 2) rfl rfl (pgs_cons (pg_name (i := 0) (show ((["i", "row"] : List Str) ++ ([] : List Str)).Nodup by decide +kernel) rfl (Or.inl rfl)) (pgs_cons (pg_name (i := 1) (show ((["i", "row"] : List Str) ++ ([] : List Str)).Nodup by decide +kernel) rfl (Or.inl rfl)) pgs_nil))), pts_nil, (pe_cmpR (op_notIn_seqK (K := K) rfl) pe_int (pe_slice (sl_listK (K := K) rfl) (pv 1) po_none (po_some (pe_op op_add (pv 0) pe_int))) rfl)⟩)) pa_nil)))), ?_⟩
    obtain ⟨ea, ln, er⟩ := id tb
    have lr : (rs.map V.ref).length = n := by rw [List.length_map, ln]
    refine ⟨_, rfl, a, rfl, ⟨_, SqL.of ea⟩, lc_enm (K := K) (xs := rs.map V.ref) (by rw [lr, sizeLine_eq]; omega) (fun i zs G => Same H G ∧ zs = ((List.range i).map fun r => hiB n (T r) r).map V.bl) ⟨Same.refl _, rfl⟩ (fun i zs G ⟨_, z⟩ => by rw [z]; simp) (fun i zs G ⟨s', _⟩ => SqL.of (s' _ _ ea)) ?_ ?_⟩
    · rintro i x p zs G hx ⟨s', rfl⟩ hp
      obtain ⟨q, hq, rfl⟩ := refs_get hx
      have hin : i < n := by rw [← ln]; exact (List.getElem?_eq_some_iff.mp hq).1
      have s1 := s'.step (o := .tup [.int i, .ref q]) hp
      refine ⟨p, _, rfl, SqT.of upd_same, rfl, _, _, rfl, _, _, rfl, rfl, ?_⟩
      refine lcT ⟨_, rfl, _, rfl, _, _, rfl, rfl, _, rfl, q, _, rfl, SqL.of (s1 _ _ (er i q hq)), fun c hc => ?_⟩
      have e1 : cutV (rowV n (T i)) none (some ((i : Int) + 1)) = (rowV n (T i)).take (i + 1) := by
        rw [show (i : Int) + 1 = ((i + 1 : Nat) : Int) by omega, cut_hd]
      rw [e1]
      refine ⟨c, _, rfl, .inl (SqL.of upd_same), rfl, ?_, s1.step hc, ?_⟩
      · rw [List.all_eq_true]
        intro x hx
        have := List.mem_of_mem_take hx
        obtain ⟨z, _, rfl⟩ := List.mem_map.mp this
        rfl
      · rw [List.range_succ, List.map_append, List.map_append]
        rfl
    · rintro zs G ⟨s', rfl⟩ D hD
      refine ⟨D, _, rfl, SqL.of upd_same, ?_⟩
      rw [lr]
      exact k _ (s'.step hD)
def spSquareG : Sp := fun vs H Q _ => ∃ (a : Addr) (n : Nat) (T : Nat → Nat) (rs : List Addr), vs = [.ref a] ∧ TabM H a n T rs ∧ n ≤ 8 ∧ (∀ r, r < n → T r < 2 ^ n) ∧ ∀ b H', Same H H' → (b = true ↔ ∀ r, r < n → mulT T n (T r) = 0) → Q (.bl b) H'
abbrev s_is_square : Stmt := top 22
theorem sc_is_square : FnScope ["table", "masks", "row", "product", "bit", "mask"] ["table"] (defScope s_is_square) := ⟨rfl, rfl, rfl, by decide +kernel, rfl, by decide +kernel, by decide +kernel⟩
theorem ok_squareG {f : Addr} {fd : FuncData} (F : Fun K "is_square" "is_square" s_is_square f fd) (h_mask_of : Has P w K mg base 1 "mask_of" ["row"] spMask) (b_zip : mg "zip" = none) : FnOk P w K mg base CX0 2 f fd ["table"] spSquareG := by
  refine F.ok sc_is_square (fun vs H Q E h => ?_) (fun cdv A outer s H vs Q E hr h => ?_)
  · obtain ⟨a, n, T, rs, rfl, _⟩ := h
    rfl
  · obtain ⟨a, n, T, rs, rfl, tb, hn, bd, k⟩ := h
    refine ⟨_, (pss_cons (ps_lc (i := 1) sc_is_square.nd rfl (Or.inl rfl) (Ls := ["row"]) (Fs := []) (fi := []) (LcScope.of (show lcLook ["table", "masks", "row", "product", "bit", "mask"] (defScope s_is_square) _ [] [] = true by decide +kernel)) rfl (pi_listK (K := K) rfl (pv 0)) (fun cl C s3 H3 ex => ⟨(pg_name (i := 0) (show ((["row"] : List Str) ++ ([] : List Str)).Nodup by decide +kernel) rfl (Or.inl rfl)), pts_nil, (pe_has h_mask_of (hr.mono (by decide)) (pa_cons (pv 0) pa_nil))⟩))
      (pss_cons (ps_for PassesOwn.never rfl (pi_listK (K := K) rfl (pv 0)) (pg_name (i := 2) sc_is_square.nd rfl (Or.inl rfl)) (pss_cons (ps_set (i := 3) sc_is_square.nd rfl (Or.inl rfl) pe_int)
      (pss_cons (ps_for PassesOwn.never rfl (pi_zipK (K := K) rfl (by rfl) b_zip (pa_cons (pv 2) (pa_cons (pv 1) pa_nil))) (pg_tupK (K := K) (n := 2) rfl rfl (pgs_cons (pg_name (i := 4) sc_is_square.nd rfl (Or.inl rfl)) (pgs_cons (pg_name (i := 5) sc_is_square.nd rfl (Or.inl rfl)) pgs_nil))) (pss_one (ps_aug (i := 3) sc_is_square.nd rfl (Or.inl rfl) (pe_ifExp (pt_truthK (K := K) rfl (pt_truth (pv 4) (fun _ => rfl))) (pv 5) pe_int) ip_xor)))
      (pss_one (ps_if (pt_cmpR op_ne (pv 3) pe_int (nomark _)) (pss_one (ps_ret pe_bl)) pss_nil)))))
      (pss_one (ps_ret pe_bl)))), ?_⟩
    obtain ⟨ea, ln, er⟩ := id tb
    have lr : (rs.map V.ref).length = n := by rw [List.length_map, ln]
    obtain ⟨ms, hms⟩ : ∃ ms : Nat → List V, ms = fun i => (List.range i).map fun r => V.int (T r) := ⟨_, rfl⟩
    refine ⟨_, rfl, a, rfl, ⟨_, SqL.of ea⟩, lc_list (K := K) (xs := rs.map V.ref) (by rw [lr, sizeLine_eq]; omega) (fun i zs G => Same H G ∧ zs = ms i) ⟨Same.refl _, by rw [hms]; rfl⟩ (fun i zs G ⟨_, z⟩ => by rw [z, hms]; simp) (fun i zs G ⟨s', _⟩ => SqL.of (s' _ _ ea)) ?_ ?_⟩
    · rintro i x zs G hx ⟨s', rfl⟩
      obtain ⟨q, hq, rfl⟩ := refs_get hx
      have hin : i < n := by rw [← ln]; exact (List.getElem?_eq_some_iff.mp hq).1
      refine lcG ⟨_, rfl, q, n, T i, rfl, s' _ _ (er i q hq), hn, bd i hin, fun G' s2 => ⟨s'.trans s2, ?_⟩⟩
      rw [hms]
      simp [List.range_succ]
    rintro zs G ⟨s', rfl⟩ D hD
    rw [lr]
    have eD : upd G D (.lst (ms n)) D = some (.lst (ms n)) := upd_same
    have sG : Same H (upd G D (.lst (ms n))) := s'.step hD
    generalize upd G D (.lst (ms n)) = G1 at *
    have lm : (ms n).length = n := by rw [hms]; simp
    have ma : ∀ {j : Nat} {y : V}, (ms n)[j]? = some y → j < n ∧ y = V.int (T j) := fun {j y} h => by
      have hj : j < n := by
        have := (List.getElem?_eq_some_iff.mp h).1
        rwa [lm] at this
      rw [hms] at h
      simp [hj] at h
      exact ⟨hj, h.symm⟩
    refine ⟨_, rfl, a, rfl, ⟨_, SqL.of (sG _ _ ea)⟩, for_list (K := K) (a := a) (xs := rs.map V.ref) (fun i σ G' => ∃ v2 v3 v4 v5 : Option V, σ = [some (.ref a), some (.ref D), v2, v3, v4, v5] ∧ Same G1 G' ∧ ∀ r, r < i → mulT T n (T r) = 0) ⟨none, none, none, none, rfl, Same.refl _, fun r hr => absurd hr (Nat.not_lt_zero _)⟩ (fun i σ G' _ ⟨_, _, _, _, _, s2, _⟩ => SqL.of (s2 _ _ (sG _ _ ea))) ?_ ?_⟩
    · rintro i x σ G2 hx ⟨v2, v3, v4, v5, rfl, s2, zr⟩
      obtain ⟨q, hq, rfl⟩ := refs_get hx
      have hin : i < n := by rw [← ln]; exact (List.getElem?_eq_some_iff.mp hq).1
      have eq2 := s2 _ _ (sG _ _ (er i q hq))
      have eD2 := s2 _ _ eD
      refine ⟨_, rfl, _, rfl, q, D, rfl, ⟨_, SqL.of eq2⟩, ⟨_, SqL.of eD2⟩, for_zip (K := K) (a := q) (b := D) (xs := rowV n (T i)) (ys := ms n) (by rw [rowV_len, lm]) (fun j σ G' => ∃ v4 v5 : Option V, σ = [some (.ref a), some (.ref D), some (.ref q), some (.int (mulT T j (T i) : Nat)), v4, v5] ∧ Same G2 G') ⟨_, _, rfl, Same.refl _⟩ (fun j σ G' ⟨_, _, _, s3⟩ => ⟨SqL.of (s3 _ _ eq2), SqL.of (s3 _ _ eD2)⟩) ?_ ?_⟩
      · rintro j x y p σ G3 hx hy ⟨v4, v5, rfl, s3⟩ hp
        obtain ⟨hj, rfl⟩ := rowV_get hx
        obtain ⟨_, rfl⟩ := ma hy
        refine ⟨p, _, rfl, SqT.of upd_same, rfl, _, _, rfl, _, _, rfl, rfl, ?_⟩
        have e1 : mulT T (j + 1) (T i) = mulT T j (T i) ^^^ (if (T i).testBit j = true then T j else 0) := Nat.xor_comm _ _
        refine ⟨_, rfl, _, rfl, _, rfl, ?_⟩
        cases hb : (T i).testBit j with
        | true =>
          rw [hb, if_pos rfl] at e1
          refine iteT ⟨_, rfl, _, _, rfl, rfl, some (.int ((true.toNat : Nat) : Int)), some (.int (T j)), ?_, s3.step hp⟩
          show [_, _, _, some (V.int (Builtin.bitXor _ _)), _, _] = _
          rw [xorI, ← e1]
        | false =>
          rw [hb, if_neg Bool.false_ne_true] at e1
          refine iteF ⟨_, _, rfl, rfl, some (.int ((false.toNat : Nat) : Int)), some (.int (T j)), ?_, s3.step hp⟩
          show [_, _, _, some (V.int (Builtin.bitXor _ ((0 : Nat) : Int))), _, _] = _
          rw [xorI, ← e1]
      · rintro σ G3 ⟨v4, v5, rfl, s3⟩
        rw [rowV_len]
        by_cases z : mulT T n (T i) = 0
        · rw [z]
          refine ⟨_, rfl, rfl, _, rfl, iteNS rfl ?_⟩
          refine ⟨_, _, _, _, rfl, s2.trans s3, fun r hr => ?_⟩
          rcases Nat.lt_succ_iff_lt_or_eq.mp hr with h | h
          · exact zr r h
          · rw [h]; exact z
        · refine ⟨_, rfl, rfl, _, rfl, ?_⟩
          rw [show (!decide (V.int ((mulT T n (T i) : Nat) : Int) = V.int 0)) = true by simp; omega]
          refine iteT (k false _ ((sG.trans s2).trans s3) ⟨fun h => (nomatch h), fun h => absurd (h i hin) z⟩)
    · rintro σ G2 ⟨v2, v3, v4, v5, rfl, s2, zr⟩
      rw [lr] at zr
      exact k true _ (sG.trans s2) ⟨fun _ => zr, fun _ => rfl⟩

end
end Qk27

namespace Qk27
open PySem L2 PyProof.Rows
section
variable {P : Program} {w : World} {K : PySem.W.Frag} {mg : Str → Option Value} {base : Heap}
theorem cut_tl (xs : List V) : cutV xs (some 1) none = xs.drop 1 := by
  unfold cutV
  rw [HT.sIx_none, show (1 : Int) = ((1 : Nat) : Int) from rfl, HT.sIx_nat]
  cases xs with
  | nil => rfl
  | cons x xs => simp
def clsBody : Stmt → List Stmt
  | .ClassDef _ _ _ body .. => body
  | _ => []
/-! ### the pairing -/
def oV : Option Nat → V
  | none => .non
  | some q => .int (q : Int)
def sL (n : Nat) (S : Nat → Nat) : List V := (List.range n).map fun r => V.int (S r : Nat)
def pL (n : Nat) (p : Nat → Option Nat) : List V := (List.range n).map fun r => oV (p r)
theorem sL_len (n : Nat) (S : Nat → Nat) : (sL n S).length = n := by simp [sL]
theorem pL_len (n : Nat) (p : Nat → Option Nat) : (pL n p).length = n := by simp [pL]
theorem sL_at {n r : Nat} (S : Nat → Nat) (h : r < n) : (sL n S)[r]? = some (V.int (S r : Nat)) := by simp [sL, h]
theorem pL_at {n r : Nat} (p : Nat → Option Nat) (h : r < n) : (pL n p)[r]? = some (oV (p r)) := by simp [pL, h]
theorem sL_set {n i : Nat} (S : Nat → Nat) (v : Nat) : (sL n S).set i (V.int (v : Nat)) = sL n (put1 S i v) := by
  refine List.ext_getElem? fun r => ?_
  by_cases hr : r < n
  · rw [sL_at _ hr]
    by_cases e : r = i
    · subst e
      rw [List.getElem?_set_self (by rw [sL_len]; exact hr), put1_at]
    · rw [List.getElem?_set_ne (Ne.symm e), sL_at _ hr, put1_ne _ _ e]
  · rw [List.getElem?_eq_none (by rw [List.length_set, sL_len]; omega), List.getElem?_eq_none (by rw [sL_len]; omega)]
theorem pL_set {n i : Nat} (p : Nat → Option Nat) (v : Option Nat) : (pL n p).set i (oV v) = pL n (put1 p i v) := by
  refine List.ext_getElem? fun r => ?_
  by_cases hr : r < n
  · rw [pL_at _ hr]
    by_cases e : r = i
    · subst e
      rw [List.getElem?_set_self (by rw [pL_len]; exact hr), put1_at]
    · rw [List.getElem?_set_ne (Ne.symm e), pL_at _ hr, put1_ne _ _ e]
  · rw [List.getElem?_eq_none (by rw [List.length_set, pL_len]; omega), List.getElem?_eq_none (by rw [pL_len]; omega)]
theorem sL_congr {n : Nat} {S S' : Nat → Nat} (h : ∀ r, r < n → S r = S' r) : sL n S = sL n S' := List.map_congr_left fun r hr => by rw [h r (List.mem_range.mp hr)]
/-- what else there was stays, two lists apart -/
def Frm2 (a b : Addr) (H H' : Hp) : Prop := ∀ c o, H c = some o → c ≠ a → c ≠ b → H' c = some o
theorem Frm2.refl {a b : Addr} {H : Hp} : Frm2 a b H H := fun _ _ e _ _ => e
theorem Frm2.trans {a b : Addr} {H H1 H2 : Hp} (x : Frm2 a b H H1) (y : Frm2 a b H1 H2) : Frm2 a b H H2 := fun c o e h1 h2 => y c o (x c o e h1 h2) h1 h2
theorem Frm2.of {a b : Addr} {H H' : Hp} (s : Same H H') : Frm2 a b H H' := fun c o e _ _ => s c o e
theorem Frm2.a {a b : Addr} {H : Hp} {o : HO} : Frm2 a b H (upd H a o) := fun c u e h1 _ => by rw [upd_ne h1]; exact e
theorem Frm2.b {a b : Addr} {H : Hp} {o : HO} : Frm2 a b H (upd H b o) := fun c u e _ h2 => by rw [upd_ne h2]; exact e
structure PO (H : Hp) (C x dx pa sa : Addr) (n : Nat) (S : Nat → Nat) (p : Nat → Option Nat) : Prop where
  self : H x = some (.ins C dx [("partner", .ref pa), ("slid", .ref sa)])
  pp : H pa = some (.lst (pL n p))
  ss : H sa = some (.lst (sL n S))
  ne : pa ≠ sa
theorem PO.xp {H : Hp} {C x dx pa sa : Addr} {n : Nat} {S : Nat → Nat} {p : Nat → Option Nat} (o : PO H C x dx pa sa n S p) : x ≠ pa ∧ x ≠ sa := ⟨(fun z => by have := o.self; rw [z, o.pp] at this; cases this), (fun z => by have := o.self; rw [z, o.ss] at this; cases this)⟩
theorem PO.same {H H' : Hp} {C x dx pa sa : Addr} {n : Nat} {S : Nat → Nat} {p : Nat → Option Nat} (s : Same H H') (o : PO H C x dx pa sa n S p) : PO H' C x dx pa sa n S p := ⟨s _ _ o.self, s _ _ o.pp, s _ _ o.ss, o.ne⟩
theorem PO.putS {H : Hp} {C x dx pa sa : Addr} {n : Nat} {S : Nat → Nat} {p : Nat → Option Nat} (o : PO H C x dx pa sa n S p) (i v : Nat) : PO (upd H sa (.lst ((sL n S).set i (V.int (v : Nat))))) C x dx pa sa n (put1 S i v) p :=
  ⟨by rw [upd_ne o.xp.2]; exact o.self, by rw [upd_ne o.ne]; exact o.pp, by rw [sL_set]; exact upd_same, o.ne⟩
theorem PO.putP {H : Hp} {C x dx pa sa : Addr} {n : Nat} {S : Nat → Nat} {p : Nat → Option Nat} (o : PO H C x dx pa sa n S p) (i : Nat) (v : Option Nat) : PO (upd H pa (.lst ((pL n p).set i (oV v)))) C x dx pa sa n S (put1 p i v) :=
  ⟨by rw [upd_ne o.xp.1]; exact o.self, by rw [pL_set]; exact upd_same, by rw [upd_ne (Ne.symm o.ne)]; exact o.ss, o.ne⟩
theorem PO.congr {H : Hp} {C x dx pa sa : Addr} {n : Nat} {S S' : Nat → Nat} {p : Nat → Option Nat} (o : PO H C x dx pa sa n S p) (h : ∀ r, r < n → S r = S' r) : PO H C x dx pa sa n S' p := ⟨o.self, o.pp, by rw [← sL_congr h]; exact o.ss, o.ne⟩
def nL (l : List Nat) : List V := l.map fun j => V.int (j : Nat)
def spPairM (C : Addr) : Sp := fun vs H Q _ => ∃ (x dx pa sa la : Addr) (n i f : Nat) (ls : List Nat) (S : Nat → Nat) (p : Nat → Option Nat), vs = [.ref x, .int (i : Nat), .ref la] ∧ PO H C x dx pa sa n S p ∧ H la = some (.lst (nL (f :: ls))) ∧ n ≤ 8 ∧ ls.length ≤ 8 ∧ i < n ∧ f < n ∧ (∀ l ∈ ls, f < l ∧ l < n) ∧ la ≠ pa ∧ la ≠ sa ∧
  ∀ H', Frm2 pa sa H H' → PO H' C x dx pa sa n (put1 S f (S f ^^^ xorL (ls.map S))) (put1 (put1 p i (some f)) f (some i)) → Q .non H'
abbrev s_Pairing_pair : Stmt := (clsBody (top 23)).getD 2 (.Pass ⟨0, 0, 0, 0⟩)
theorem sc_Pairing_pair : FnScope ["self", "i", "lone", "first", "j"] ["self", "i", "lone"] (defScope s_Pairing_pair) := ⟨rfl, rfl, rfl, by decide +kernel, rfl, by decide +kernel, by decide +kernel⟩
theorem ok_pairM {C : Addr} {f : Addr} {fd : FuncData} (F : Fun K "pair" "Pairing.pair" s_Pairing_pair f fd) (cl : Cls K C) (n1 : NoAttr K C "partner") (n2 : NoAttr K C "slid") : FnOk P w K mg base CX0 1 f fd ["self", "i", "lone"] (spPairM C) := by
  refine F.ok sc_Pairing_pair (fun vs H Q E h => ?_) (fun cdv A outer s H vs Q E hr h => ?_)
  · obtain ⟨x, dx, pa, sa, la, n, i, f, ls, S, p, rfl, _⟩ := h
    rfl
  · obtain ⟨x, dx, pa, sa, la, n, i, f, ls, S, p, rfl, po, el, hn, l8, hi, hf, hl, nlp, nls, k⟩ := h
    refine ⟨_, (pss_cons (ps_set (i := 3) sc_Pairing_pair.nd rfl (Or.inl rfl) (pe_ix (ix_listK (K := K) rfl) (pv 2) pe_int (fun _ _ => rfl)))
      (pss_cons (ps_for PassesOwn.never rfl (pi_listK (K := K) rfl (pe_slice (sl_listK (K := K) rfl) (pv 2) (po_some pe_int) po_none)) (pg_name (i := 4) sc_Pairing_pair.nd rfl (Or.inl rfl)) (pss_one (ps_augS (pe_fldK (K := K) rfl (pe_fld (pv 0) rfl)) (pv 3) (get_listK (K := K) rfl) (pe_ix (ix_listK (K := K) rfl) (pe_fldK (K := K) rfl (pe_fld (pv 0) rfl)) (pv 4) (fun _ _ => rfl)) ip_xor set_list)))
      (pss_cons (ps_asg (pv 3) (pg_sub (pe_fldK (K := K) rfl (pe_fld (pv 0) rfl)) (pv 1) set_list))
      (pss_one (ps_asg (pv 1) (pg_sub (pe_fldK (K := K) rfl (pe_fld (pv 0) rfl)) (pv 3) set_list)))))), ?_⟩
    refine ⟨_, rfl, la, _, _, _, rfl, rfl, SqL.of el, atI_nat (j := 0) rfl, ?_⟩
    refine ⟨_, rfl, _, rfl, la, _, rfl, SqL.of el, fun c hc => ?_⟩
    have ecut : cutV (nL (f :: ls)) (some 1) none = nL ls := by rw [cut_tl]; rfl
    rw [ecut]
    have s1 : Same H (upd H c (.lst (nL ls))) := Same.laid hc
    have ec : upd H c (.lst (nL ls)) c = some (.lst (nL ls)) := upd_same
    have ncp : c ≠ pa := fun z => by rw [z, po.pp] at hc; cases hc
    have ncs : c ≠ sa := fun z => by rw [z, po.ss] at hc; cases hc
    have po1 := po.same s1
    generalize upd H c (.lst (nL ls)) = H1 at *
    refine ⟨c, rfl, ⟨_, SqL.of ec⟩, for_list (K := K) (a := c) (xs := nL ls) (fun j σ G => ∃ v4 : Option V, σ = [some (.ref x), some (.int (i : Nat)), some (.ref la), some (.int (f : Nat)), v4] ∧ Frm2 pa sa H1 G ∧ PO G C x dx pa sa n (put1 S f (S f ^^^ xorL ((ls.take j).map S))) p) ⟨none, rfl, Frm2.refl, po1.congr fun r _ => ?_⟩ (fun j σ G _ ⟨_, _, fr, _⟩ => SqL.of (fr c _ ec ncp ncs)) ?_ ?_⟩
    · by_cases e : r = f
      · rw [e, put1_at]; simp [xorL]
      · rw [put1_ne _ _ e]
    · rintro j y σ G hy ⟨v4, rfl, fr, pg⟩
      obtain ⟨l, hj, rfl⟩ : ∃ l : Nat, ls[j]? = some l ∧ y = V.int (l : Nat) := by
        unfold nL at hy
        rw [List.getElem?_map] at hy
        obtain ⟨l, e, rfl⟩ := Option.map_eq_some_iff.mp hy
        exact ⟨l, e, rfl⟩
      obtain ⟨h1, h2⟩ := hl l (List.mem_of_getElem? hj)
      refine ⟨_, rfl, x, C, dx, _, _, rfl, pg.self, cl, n2, rfl, _, rfl, sa, _, f, _, rfl, rfl, SqL.of pg.ss, sL_at _ hf, ?_⟩
      refine ⟨_, rfl, x, C, dx, _, _, rfl, pg.self, cl, n2, rfl, _, rfl, sa, _, _, _, rfl, rfl, SqL.of pg.ss, atI_nat (sL_at _ h2), _, _, rfl, rfl, ?_⟩
      refine ⟨sa, _, _, f, rfl, rfl, pg.ss, ixN_nat (by rw [sL_len]; exact hf), _, rfl, fr.trans Frm2.b, ?_⟩
      have e1 : Builtin.bitXor ((put1 S f (S f ^^^ xorL ((ls.take j).map S)) f : Nat) : Int) ((put1 S f (S f ^^^ xorL ((ls.take j).map S)) l : Nat) : Int) = ((S f ^^^ xorL ((ls.take (j + 1)).map S) : Nat) : Int) := by
        rw [xorI, put1_at, put1_ne _ _ (by omega), List.take_add_one, hj, List.map_append, xorL_app, ← Nat.xor_assoc]
        simp [xorL]
      show PO (upd G sa (.lst ((sL n _).set f (V.int (Builtin.bitXor _ _))))) C x dx pa sa n _ p
      rw [e1]
      refine (pg.putS f _).congr fun r _ => ?_
      by_cases e : r = f
      · rw [e, put1_at, put1_at]
      · rw [put1_ne _ _ e, put1_ne _ _ e, put1_ne _ _ e]
    · rintro σ G ⟨v4, rfl, fr, pg⟩
      have elen : (nL ls).length = ls.length := by simp [nL]
      rw [elen, List.take_length] at pg
      refine ⟨_, rfl, _, rfl, x, C, dx, _, _, rfl, pg.self, cl, n1, rfl, _, rfl, pa, _, _, i, rfl, rfl, pg.pp, ixN_nat (by rw [pL_len]; exact hi), ?_⟩
      have p2 := pg.putP i (some f)
      refine ⟨_, rfl, _, rfl, x, C, dx, _, _, rfl, p2.self, cl, n1, rfl, _, rfl, pa, _, _, f, rfl, rfl, p2.pp, ixN_nat (by rw [pL_len]; exact hf), ?_⟩
      exact k _ ((((Frm2.of s1).trans fr).trans Frm2.a).trans Frm2.a) (p2.putP f (some i))

end
end Qk27

namespace Qk27
open PySem L2 PyProof.Rows
section
variable {P : Program} {w : World} {K : PySem.W.Frag} {mg : Str → Option Value} {base : Heap}
theorem asc_len (n : Nat) : ∀ (l : List Nat) (i : Nat), l.Pairwise (· < ·) → (∀ x ∈ l, i ≤ x ∧ x < n) → i ≤ n → l.length + i ≤ n
  | [], i, _, _, h => by simpa using h
  | a :: l, i, p, h, _ => by
    obtain ⟨h1, h2⟩ := h a List.mem_cons_self
    have := asc_len n l (a + 1) (List.pairwise_cons.mp p).2 (fun x hx => ⟨(List.pairwise_cons.mp p).1 x hx, (h x (List.mem_cons_of_mem _ hx)).2⟩) h2
    rw [List.length_cons]
    omega
def spTakeM (C : Addr) : Sp := fun vs H Q _ => ∃ (x dx pa sa : Addr) (n i : Nat) (T S : Nat → Nat) (p : Nat → Option Nat), vs = [.ref x, .int (i : Nat), .int (T i : Nat)] ∧ PO H C x dx pa sa n S p ∧ n ≤ 8 ∧ i < n ∧ High n T ∧ Sqr n T ∧ Up T n (i + 1) S p ∧ S i = 2 ^ i ∧ p i = none ∧
  ∀ (H' : Hp) (S' : Nat → Nat) (p' : Nat → Option Nat), Frm2 pa sa H H' → PO H' C x dx pa sa n S' p' → Up T n i S' p' → (∀ r, r < i → S' r = S r ∧ p' r = p r) → Q .non H'
def muR : List (Option V) → Hp → Nat := fun σ _ => match σ[2]? with
  | some (some (V.int r)) => if r.toNat = 0 then 0 else 9 - lbit r.toNat
  | _ => 0
theorem muR_lt {n : Nat} {rest rest' j : Nat} {x x' i i' l l' v v' : Option V} {H H' : Hp} (hb : rest < 256) (hb' : rest' < 256) (z : rest ≠ 0) (hj : lbit rest = j) (jn : j < 8) (cl : ∀ k, k ≤ j → rest'.testBit k = false) : muR [x', i', some (.int (rest' : Nat)), l', v'] H' < muR [x, i, some (.int (rest : Nat)), l, v] H := by
  show (if ((rest' : Nat) : Int).toNat = 0 then 0 else 9 - lbit ((rest' : Nat) : Int).toNat) < (if ((rest : Nat) : Int).toNat = 0 then 0 else 9 - lbit ((rest : Nat) : Int).toNat)
  rw [Int.toNat_natCast, Int.toNat_natCast, if_neg z, hj]
  split
  · omega
  · rename_i z'
    have := (lb_of hb' z').from cl
    omega
abbrev s_Pairing_take : Stmt := (clsBody (top 23)).getD 1 (.Pass ⟨0, 0, 0, 0⟩)
theorem sc_Pairing_take : FnScope ["self", "i", "rest", "lone", "j"] ["self", "i", "rest"] (defScope s_Pairing_take) := ⟨rfl, rfl, rfl, by decide +kernel, rfl, by decide +kernel, by decide +kernel⟩
theorem ok_takeM {C : Addr} {f : Addr} {fd : FuncData} (F : Fun K "take" "Pairing.take" s_Pairing_take f fd) (c_way : Cls K C) (n1 : NoAttr K C "partner") (n2 : NoAttr K C "slid") (h_least_bit : Has P w K mg base 1 "least_bit" ["mask"] spLeast) (m_pair : HasM P w K mg base 1 C "pair" ["self", "i", "lone"] (spPairM C)) : FnOk P w K mg base CX0 2 f fd ["self", "i", "rest"] (spTakeM C) := by
  refine F.ok sc_Pairing_take (fun vs H Q E h => ?_) (fun cdv A outer s H vs Q E hr h => ?_)
  · obtain ⟨x, dx, pa, sa, n, i, T, S, p, rfl, _⟩ := h
    rfl
  · obtain ⟨x, dx, pa, sa, n, i, T, S, p, rfl, po, hn, hi, hh, sq, up, hS, hp0, k⟩ := h
    refine ⟨_, (pss_cons (ps_set (i := 3) sc_Pairing_take.nd rfl (Or.inl rfl) (pe_lst pa_nil))
      (pss_cons (ps_while PassesOwn.never (pt_truthK (K := K) rfl (pt_truth (pv 2) (fun _ => rfl))) (pss_cons (ps_set (i := 4) sc_Pairing_take.nd rfl (Or.inl rfl) (pe_has h_least_bit (hr.mono (by decide)) (pa_cons (pv 2) pa_nil)))
      (pss_cons (ps_aug (i := 2) sc_Pairing_take.nd rfl (Or.inl rfl) (pe_ix (ix_listK (K := K) rfl) (pe_fldK (K := K) rfl (pe_fld (pv 0) rfl)) (pv 4) (fun _ _ => rfl)) ip_xor)
      (pss_one (ps_if (pt_cmpR op_isN (pe_ix (ix_listK (K := K) rfl) (pe_fldK (K := K) rfl (pe_fld (pv 0) rfl)) (pv 4) (fun _ _ => rfl)) pe_non (nomark _)) (pss_one (ps_expr (pe_bmK (K := K) rfl (pe_bm PySem.F.plainAttrs_list PySem.F.slot_list_append PySem.F.type_list_append mt_append (pv 3) (pa_cons (pv 4) pa_nil))))) (pss_one (ps_augS (pe_fldK (K := K) rfl (pe_fld (pv 0) rfl)) (pv 1) (get_listK (K := K) rfl) (pe_ix (ix_listK (K := K) rfl) (pe_fldK (K := K) rfl (pe_fld (pv 0) rfl)) (pe_ix (ix_listK (K := K) rfl) (pe_fldK (K := K) rfl (pe_fld (pv 0) rfl)) (pv 4) (fun _ _ => rfl)) (fun _ _ => rfl)) ip_xor set_list)))))))
      (pss_one (ps_if (pt_truthK (K := K) rfl (pt_truth (pv 3) (fun _ => rfl))) (pss_one (ps_expr (pe_hasM m_pair c_way (hr.mono (by decide)) (pv 0) (pa_cons (pv 1) (pa_cons (pv 3) pa_nil))))) pss_nil)))), ?_⟩
    have p8 : 2 ^ n ≤ 256 := (Nat.pow_le_pow_right (by decide) hn : 2 ^ n ≤ 2 ^ 8)
    refine ⟨(by show 0 ≤ sizeLine; decide), fun la hla => ?_⟩
    have nlp : la ≠ pa := fun z => by rw [z, po.pp] at hla; cases hla
    have nls : la ≠ sa := fun z => by rw [z, po.ss] at hla; cases hla
    have nlx : x ≠ la := fun z => by rw [← z, po.self] at hla; cases hla
    have st0 := Tk.start up hi (hh i hi).1 (hh i hi).2
    dsimp only [gName, tSeq]
    refine while_by (fun σ G => ∃ (rest a : Nat) (lone : List Nat) (v4 : Option V), σ = [some (.ref x), some (.int (i : Nat)), some (.int (rest : Nat)), some (.ref la), v4] ∧ Frm2 pa sa H G ∧ PO G C x dx pa sa n (put1 S i a) p ∧ Tk T n i S p rest a lone ∧ G la = some (.lst (nL lone))) muR ?_ ?_ ?_
    · refine ⟨T i, 2 ^ i, [], none, rfl, Frm2.of (Same.laid hla), (po.same (Same.laid hla)).congr (fun r _ => ?_), st0, upd_same⟩
      by_cases e : r = i
      · rw [e, put1_at, hS]
      · rw [put1_ne _ _ e]
    · rintro σ G ⟨rest, a, lone, v4, rfl, fr, pg, tk, el⟩
      have b256 : rest < 256 := Nat.lt_of_lt_of_le tk.br p8
      refine ⟨_, rfl, _, rfl, ?_⟩
      by_cases z : rest = 0
      · subst z
        refine iteF ?_
        refine ⟨_, rfl, _, .inl ⟨_, SqL.of el, rfl⟩, ?_⟩
        cases lone with
        | nil =>
          refine iteF ?_
          exact k G _ p fr pg (tk.done hp0) fun r hr => ⟨put1_ne _ _ (by omega), rfl⟩
        | cons g ls =>
          refine iteT ?_
          have as := List.pairwise_cons.mp tk.as
          have ll : ls.length ≤ 8 := by
            have := asc_len n _ 0 tk.as (fun y hy => ⟨Nat.zero_le _, (tk.ln y hy).2.1⟩) (Nat.zero_le _)
            rw [List.length_cons] at this
            omega
          obtain ⟨g1, g2, g3⟩ := tk.ln g List.mem_cons_self
          have lsx : ∀ l ∈ ls, g < l ∧ l < n := fun l hl => ⟨as.1 l hl, (tk.ln l (List.mem_cons_of_mem _ hl)).2.1⟩
          refine ⟨_, rfl, x, dx, _, rfl, pg.self, rfl, _, rfl, _, rfl, x, dx, pa, sa, la, n, i, g, ls, put1 S i a, p, rfl, pg, el, hn, ll, hi, g2, lsx, nlp, nls, fun H' f2 p2 => ?_⟩
          refine k H' (put1 (put1 S g (S g ^^^ xorL (ls.map S))) i a) _ (fr.trans f2) (p2.congr fun r _ => ?_) (tk.pair hi) fun r hr => ⟨?_, ?_⟩
          · have em : ls.map (put1 S i a) = ls.map S := List.map_congr_left fun l hl => put1_ne _ _ (by have := lsx l hl; omega)
            rw [em, put1_ne S _ (show g ≠ i by omega)]
            by_cases e : r = i
            · rw [e, put1_ne _ _ (show i ≠ g by omega), put1_at, put1_at]
            · rw [put1_ne _ _ e]
              by_cases e2 : r = g
              · rw [e2, put1_at, put1_at]
              · rw [put1_ne _ _ e2, put1_ne _ _ e2, put1_ne _ _ e]
          · rw [put1_ne _ _ (by omega), put1_ne _ _ (by omega)]
          · rw [put1_ne _ _ (by omega), put1_ne _ _ (by omega)]
      · have xb := lb_of b256 z
        obtain ⟨hij, hjn⟩ := tk.bits xb
        generalize hj : lbit rest = j at *
        have nz : (((rest : Nat) : Int) != 0) = true := by simp [z]
        rw [nz]
        refine iteT ?_
        refine ⟨_, rfl, rest, rfl, b256, z, ?_⟩
        rw [hj]
        have e1 : Builtin.bitXor ((rest : Nat) : Int) ((put1 S i a j : Nat) : Int) = ((rest ^^^ S j : Nat) : Int) := by rw [xorI, put1_ne _ _ (by omega)]
        refine ⟨_, rfl, _, rfl, x, C, dx, _, _, rfl, pg.self, c_way, n2, rfl, _, rfl, sa, _, _, _, rfl, rfl, SqL.of pg.ss, atI_nat (sL_at _ hjn), _, _, rfl, rfl, ?_⟩
        have b' : rest ^^^ S j < 256 := Nat.lt_of_lt_of_le (Nat.xor_lt_two_pow tk.br (tk.up.bd j hij hjn)) p8
        have lone8 : lone.length ≤ 8 := by
          have := asc_len n _ 0 tk.as (fun y hy => ⟨Nat.zero_le _, (tk.ln y hy).2.1⟩) (Nat.zero_le _)
          omega
        refine ⟨_, rfl, x, C, dx, _, _, rfl, pg.self, c_way, n1, rfl, _, rfl, pa, _, _, _, rfl, rfl, SqL.of pg.pp, atI_nat (pL_at _ hjn), rfl, _, rfl, ?_⟩
        cases hp : p j with
        | none =>
          refine iteT ?_
          refine ⟨_, rfl, .inl ⟨rfl, _, SqL.of el⟩, _, rfl, la, _, _, rfl, rfl, el, by rw [nL, List.length_map, sizeLine_eq]; omega, ?_⟩
          refine ⟨⟨rest ^^^ S j, a, lone ++ [j], some (.int (j : Nat)), ?_, ?_, ?_, tk.lone xb hp, ?_⟩, ?_⟩
          · show [_, _, some (V.int (Builtin.bitXor _ _)), _, _] = _
            rw [e1]
          · exact fun c o e h1 h2 => by rw [upd_ne (ne_of_none e hla)]; exact fr c o e h1 h2
          · exact ⟨by rw [upd_ne nlx]; exact pg.self, by rw [upd_ne (Ne.symm nlp)]; exact pg.pp, by rw [upd_ne (Ne.symm nls)]; exact pg.ss, pg.ne⟩
          · rw [upd_same]
            simp [nL]
          · show muR [_, _, some (V.int (Builtin.bitXor _ _)), _, _] _ < _
            rw [e1]
            exact muR_lt (n := n) b256 b' z hj (by omega) (tk.clear xb)
        | some q =>
          refine iteF ?_
          obtain ⟨q1, q2⟩ := tk.below sq xb hp
          have pj := pL_at p hjn
          rw [hp] at pj
          refine ⟨_, rfl, x, C, dx, _, _, rfl, pg.self, c_way, n2, rfl, _, rfl, sa, _, i, _, rfl, rfl, SqL.of pg.ss, sL_at _ hi, ?_⟩
          refine ⟨_, rfl, x, C, dx, _, _, rfl, pg.self, c_way, n2, rfl, _, rfl, x, C, dx, _, _, rfl, pg.self, c_way, n1, rfl, _, rfl, pa, _, _, _, rfl, rfl, SqL.of pg.pp, atI_nat pj, sa, _, _, _, rfl, rfl, SqL.of pg.ss, atI_nat (sL_at _ (show q < n by omega)), _, _, rfl, rfl, ?_⟩
          refine ⟨sa, _, _, i, rfl, rfl, pg.ss, ixN_nat (by rw [sL_len]; exact hi), ?_⟩
          have e2 : Builtin.bitXor ((put1 S i a i : Nat) : Int) ((put1 S i a q : Nat) : Int) = ((a ^^^ S q : Nat) : Int) := by rw [xorI, put1_at, put1_ne _ _ (by omega)]
          refine ⟨⟨rest ^^^ S j, a ^^^ S q, lone, some (.int (j : Nat)), ?_, fr.trans Frm2.b, ?_, tk.upper sq xb hp, ?_⟩, ?_⟩
          · show [_, _, some (V.int (Builtin.bitXor _ _)), _, _] = _
            rw [e1]
          · show PO (upd G sa (.lst ((sL n _).set i (V.int (Builtin.bitXor _ _))))) C x dx pa sa n _ p
            rw [e2]
            refine (pg.putS i _).congr fun r _ => ?_
            by_cases e : r = i
            · rw [e, put1_at, put1_at]
            · rw [put1_ne _ _ e, put1_ne _ _ e, put1_ne _ _ e]
          · rw [upd_ne nls]; exact el
          · show muR [_, _, some (V.int (Builtin.bitXor _ _)), _, _] _ < _
            rw [e1]
            exact muR_lt (n := n) b256 b' z hj (by omega) (tk.clear xb)
    · rintro σ G Q1 Q2 m ⟨v, e, kk, t, q⟩
      exact ⟨v, e, kk, t, m _ _ q⟩

end
end Qk27

namespace Qk27
open PySem L2 PyProof.Rows
section
variable {P : Program} {w : World} {K : PySem.W.Frag} {mg : Str → Option Value} {base : Heap}
def spInit (C : Addr) : Sp := fun vs H Q _ => ∃ (x dx a : Addr) (n : Nat) (T : Nat → Nat) (rs : List Addr), vs = [.ref x, .ref a] ∧ H x = some (.ins C dx []) ∧ TabM H a n T rs ∧ n ≤ 8 ∧ High n T ∧ Sqr n T ∧
  ∀ (H' : Hp) (pa sa : Addr) (S : Nat → Nat) (p : Nat → Option Nat), H pa = none → H sa = none → (∀ c o, H c = some o → c ≠ x → H' c = some o) → PO H' C x dx pa sa n S p → Up T n 0 S p → Q .non H'
abbrev s_Pairing___init__ : Stmt := (clsBody (top 23)).getD 0 (.Pass ⟨0, 0, 0, 0⟩)
theorem sc_Pairing___init__ : FnScope ["self", "table", "i"] ["self", "table"] (defScope s_Pairing___init__) := ⟨rfl, rfl, rfl, by decide +kernel, rfl, by decide +kernel, by decide +kernel⟩
theorem ok_init {C : Addr} {f : Addr} {fd : FuncData} (F : Fun K "__init__" "Pairing.__init__" s_Pairing___init__ f fd) (c_way : Cls K C) (n1 : NoAttr K C "partner") (n2 : NoAttr K C "slid") (h_mask_of : Has P w K mg base 1 "mask_of" ["row"] spMask) (m_take : HasM P w K mg base 2 C "take" ["self", "i", "rest"] (spTakeM C)) (b_len : mg "len" = none) (b_range : mg "range" = none) (b_reversed : mg "reversed" = none) : FnOk P w K mg base CX0 3 f fd ["self", "table"] (spInit C) := by
  refine F.ok sc_Pairing___init__ (fun vs H Q E h => ?_) (fun cdv A outer s H vs Q E hr h => ?_)
  · obtain ⟨x, dx, a, n, T, rs, rfl, _⟩ := h
    rfl
  · obtain ⟨x, dx, a, n, T, rs, rfl, hx, tb, hn, hi, sq, k⟩ := h
    refine ⟨_, (pss_cons (ps_fldK (K := K) rfl (ps_fld (pv 0) (pe_op op_rep (pe_lst (pa_cons pe_non pa_nil)) (pe_callB (call_lenK (K := K) rfl) (by rfl) b_len PySem.boot_len (pa_cons (pv 1) pa_nil))) rfl))
      (pss_cons (ps_fldK (K := K) rfl (ps_fld (pv 0) (pe_lc (Ls := ["i"]) (Fs := []) (fi := []) (LcScope.of (show lcLook ["self", "table", "i"] (defScope s_Pairing___init__) _ [] [] = true by decide +kernel)) rfl (pi_range1 (by rfl) b_range (pa_cons (pe_callB (call_lenK (K := K) rfl) (by rfl) b_len PySem.boot_len (pa_cons (pv 1) pa_nil)) pa_nil)) (fun cl C s3 H3 ex => ⟨(pg_name (i := 0) (show ((["i"] : List Str) ++ ([] : List Str)).Nodup by decide +kernel) rfl (Or.inl rfl)), pts_nil, (pe_op op_shl pe_int (pv 0))⟩)) rfl))
      (pss_one (ps_for PassesOwn.never rfl (pi_revR (by rfl) b_reversed (pa_cons (pe_callTy call_range1 (by rfl) b_range boot_range (pa_cons (pe_callB (call_lenK (K := K) rfl) (by rfl) b_len PySem.boot_len (pa_cons (pv 1) pa_nil)) pa_nil)) pa_nil)) (pg_name (i := 2) sc_Pairing___init__.nd rfl (Or.inl rfl)) (pss_one (ps_expr (pe_hasM m_take c_way (hr.mono (by decide)) (pv 0) (pa_cons (pv 2) (pa_cons (pe_has h_mask_of (hr.mono (by decide)) (pa_cons (pe_ix (ix_listK (K := K) rfl) (pv 1) (pv 2) (fun _ _ => rfl)) pa_nil)) pa_nil))))))))), ?_⟩
    obtain ⟨ea, ln, er⟩ := id tb
    have lr : (rs.map V.ref).length = n := by rw [List.length_map, ln]
    refine ⟨(by show 1 ≤ sizeLine; decide), fun l0 hl0 => ?_⟩
    have s0 := Same.laid (o := .lst [.non]) hl0
    refine ⟨_, rfl, a, _, rfl, .inl (SqL.of (s0 _ _ ea)), l0, _, _, rfl, rfl, upd_same, by omega, by omega, ?_, fun pa hpa => ?_⟩
    · rw [lr]; rw [sizeLine_eq]; simp; omega
    have erep : (List.replicate ((rs.map V.ref).length : Int).toNat [V.non]).flatten = pL n fun _ => none := by
      rw [lr, Int.toNat_natCast, pL]
      rw [List.flatten_replicate_singleton]
      refine (List.eq_replicate_iff.mpr ⟨by simp, fun b hb => ?_⟩).symm
      obtain ⟨_, _, rfl⟩ := List.mem_map.mp hb
      rfl
    rw [erep]
    have hpa0 : H pa = none := s0.free hpa
    have s1 := s0.step (o := .lst (pL n fun _ => none)) hpa
    have ep1 : (upd (upd H l0 (.lst [.non])) pa (.lst (pL n fun _ => none))) pa = some (.lst (pL n fun _ => none)) := upd_same
    generalize upd (upd H l0 (.lst [.non])) pa (.lst (pL n fun _ => none)) = G1 at *
    refine ⟨_, rfl, x, C, dx, _, rfl, s1 _ _ hx, c_way, n1, by decide, ?_⟩
    have xpa : pa ≠ x := fun z => by rw [z, hx] at hpa0; cases hpa0
    have hx2 : (upd G1 x (.ins C dx (putF "partner" (.ref pa) []))) x = some (.ins C dx [("partner", .ref pa)]) := upd_same
    have f2 : ∀ c o, G1 c = some o → c ≠ x → (upd G1 x (.ins C dx (putF "partner" (.ref pa) []))) c = some o := fun c o e h => by rw [upd_ne h]; exact e
    generalize upd G1 x (.ins C dx (putF "partner" (.ref pa) [])) = G2 at *
    have xa : ∀ {c : Addr} {ys : List V}, H c = some (.lst ys) → c ≠ x := fun e z => by rw [z, hx] at e; cases e
    have ea2 : G2 a = some (.lst (rs.map V.ref)) := f2 _ _ (s1 _ _ ea) (xa ea)
    have ep2 : G2 pa = some (.lst (pL n fun _ => none)) := f2 _ _ ep1 xpa
    have hback : ∀ {c : Addr}, G2 c = none → H c = none := fun {c} h => by
      cases e : H c with
      | none => rfl
      | some o =>
        by_cases z : c = x
        · rw [z, hx2] at h; cases h
        · rw [f2 _ _ (s1 _ _ e) z] at h; cases h
    refine ⟨_, rfl, a, _, rfl, .inl (SqL.of ea2), ?_⟩
    rw [lr]
    refine ⟨n, rfl, by omega, by omega, lc_rng (n := n) (by rw [sizeLine_eq]; omega) (fun i zs G => Same G2 G ∧ zs = sL i fun r => 2 ^ r) ⟨Same.refl _, rfl⟩ (fun i zs G p => by rw [p.2, sL_len]; exact Nat.le_refl _) (fun i zs G hi p => ?_) (fun zs G p D hD => ?_)⟩
    · obtain ⟨s', rfl⟩ := p
      have cp : CPow 1 (0 + (i : Int)) := ⟨by omega, by omega, by decide⟩
      refine lcG ⟨_, rfl, _, _, rfl, rfl, cp, s', ?_⟩
      show _ ++ [V.int (1 * 2 ^ (0 + (i : Int)).toNat)] = _
      rw [show (0 + (i : Int)).toNat = i by omega, Int.one_mul]
      unfold sL
      rw [List.range_succ, List.map_append]
      simp
    obtain ⟨s', rfl⟩ := p
    have hD2 : G2 D = none := s'.free hD
    have hDH : H D = none := hback hD2
    have s3 := s'.step (o := .lst (sL n fun r => 2 ^ r)) hD
    have eD3 : (upd G D (.lst (sL n fun r => 2 ^ r))) D = some (.lst (sL n fun r => 2 ^ r)) := upd_same
    generalize upd G D (.lst (sL n fun r => 2 ^ r)) = G3 at *
    refine ⟨_, rfl, x, C, dx, _, rfl, s3 _ _ hx2, c_way, n2, (by show (1 : Nat) < 1000; decide), ?_⟩
    have Dx : D ≠ x := fun z => by rw [z, hx2] at hD2; cases hD2
    have pD : pa ≠ D := fun z => by rw [← z, ep2] at hD2; cases hD2
    have hx4 : (upd G3 x (.ins C dx (putF "slid" (.ref D) [("partner", .ref pa)]))) x = some (.ins C dx [("partner", .ref pa), ("slid", .ref D)]) := upd_same
    have f4 : ∀ c o, G3 c = some o → c ≠ x → (upd G3 x (.ins C dx (putF "slid" (.ref D) [("partner", .ref pa)]))) c = some o := fun c o e h => by rw [upd_ne h]; exact e
    generalize upd G3 x (.ins C dx (putF "slid" (.ref D) [("partner", .ref pa)])) = G4 at *
    have fr4 : ∀ c o, H c = some o → c ≠ x → G4 c = some o := fun c o e h => f4 c o (s3 c o (f2 c o (s1 c o e) h)) h
    have po4 : PO G4 C x dx pa D n (fun r => 2 ^ r) (fun _ => none) := ⟨hx4, f4 _ _ (s3 _ _ ep2) xpa, f4 _ _ eD3 Dx, pD⟩
    refine ⟨_, rfl, a, _, rfl, .inl (SqL.of (fr4 _ _ ea (xa ea))), ?_⟩
    rw [lr]
    refine ⟨n, rfl, fun rg hrg => ⟨rg, n, rfl, upd_same, by omega, for_rangeD (fun t σ G' => ∃ (v2 : Option V) (S : Nat → Nat) (p : Nat → Option Nat), σ = [some (.ref x), some (.ref a), v2] ∧ Frm2 pa D G4 G' ∧ PO G' C x dx pa D n S p ∧ Up T n (n - t) S p ∧ ∀ r, r < n - t → S r = 2 ^ r ∧ p r = none) ⟨none, _, _, rfl, Frm2.of (Same.laid hrg), po4.same (Same.laid hrg), ⟨fun r h1 h2 => by omega, fun r h1 h2 => by omega, fun r q h1 h2 => by omega, fun r q h1 h2 => by omega, fun r h1 h2 => by omega⟩, fun r _ => ⟨rfl, rfl⟩⟩ ?_ ?_⟩⟩
    · rintro t σ G' ht ⟨v2, S, p, rfl, fr, pg, up, ag⟩
      obtain ⟨i, hi'⟩ : ∃ i, i = n - 1 - t := ⟨_, rfl⟩
      have hin : i < n := by omega
      have ei : (n : Int) - 1 + (t : Int) * (-1) = ((i : Nat) : Int) := by omega
      rw [ei]
      have en : n - t = i + 1 := by omega
      rw [en] at up ag
      obtain ⟨q, hq⟩ : ∃ q, rs[i]? = some q := ⟨_, List.getElem?_eq_getElem (by omega)⟩
      have ap : ∀ {c : Addr} {ys : List V}, H c = some (.lst ys) → c ≠ pa ∧ c ≠ D := fun e => ⟨ne_of_none e hpa0, ne_of_none e hDH⟩
      have ea5 := fr _ _ (fr4 _ _ ea (xa ea)) (ap ea).1 (ap ea).2
      have erq := er i q hq
      have eq5 := fr _ _ (fr4 _ _ erq (xa erq)) (ap erq).1 (ap erq).2
      have atq : (rs.map V.ref)[i]? = some (V.ref q) := by rw [List.getElem?_map, hq]; rfl
      refine ⟨_, rfl, x, dx, _, rfl, pg.self, rfl, _, rfl, _, rfl, _, rfl, a, _, _, _, rfl, rfl, SqL.of ea5, atI_nat atq, q, n, T i, rfl, eq5, hn, (hi i hin).1, fun G6 s6 => ?_⟩
      refine ⟨x, dx, pa, D, n, i, T, S, p, rfl, pg.same s6, hn, hin, hi, sq, up, (ag i (by omega)).1, (ag i (by omega)).2, fun H' S' p' f6 po6 up6 ag6 => ?_⟩
      refine ⟨_, S', p', rfl, (fr.trans (Frm2.of s6)).trans f6, po6, by rw [show n - (t + 1) = i by omega]; exact up6, fun r hr => ?_⟩
      have hr' : r < i := by omega
      rw [(ag6 r hr').1, (ag6 r hr').2]
      exact ag r (by omega)
    · rintro σ G' ⟨v2, S, p, rfl, fr, pg, up, ag⟩
      rw [Nat.sub_self] at up
      exact k G' pa D S p hpa0 hDH (fun c o e h => fr c o (fr4 c o e h) (ne_of_none e hpa0) (ne_of_none e hDH)) pg up

end
end Qk27

namespace Qk27
open PySem L2 PyProof.Rows
section
variable {P : Program} {w : World} {K : PySem.W.Frag} {mg : Str → Option Value} {base : Heap}
/-- a high, square and full table, its pairs p0 -/
structure Good (n : Nat) (T : Nat → Nat) (p0 : Nat → Option Nat) : Prop where
  n8 : n ≤ 8
  hi : High n T
  sq : Sqr n T
  up : ∃ S0, Up T n 0 S0 p0
  full : ∀ r, r < n → p0 r ≠ none
theorem made_same {H H' : Hp} {x dx : Addr} {o : HO} (hx : H x = none) (hd : H dx = none) (f : ∀ c u, (upd (upd H dx (.own x)) x o) c = some u → c ≠ x → H' c = some u) : Same H H' := fun c u e => f c u (by rw [upd_ne (ne_of_none e hx), upd_ne (ne_of_none e hd)]; exact e) (ne_of_none e hx)
theorem made_in {H : Hp} {x dx : Addr} {o : HO} (hx : H x = none) (hd : H dx = none) : Same H (upd (upd H dx (.own x)) x o) := fun c u e => by rw [upd_ne (ne_of_none e hx), upd_ne (ne_of_none e hd)]; exact e
theorem full_in {n : Nat} {p : Nat → Option Nat} (h : ∀ r, r < n → p r ≠ none) : inV .non (pL n p) = false := by
  unfold inV
  rw [List.any_eq_false]
  intro x hx
  obtain ⟨r, hr, rfl⟩ := List.mem_map.mp hx
  have := h r (List.mem_range.mp hr)
  cases e : p r with
  | none => exact absurd e this
  | some q => simp [oV, eqV]
theorem flat_pL (n : Nat) (p : Nat → Option Nat) : (pL n p).all flatV = true := by
  rw [List.all_eq_true]
  intro x hx
  obtain ⟨r, _, rfl⟩ := List.mem_map.mp hx
  cases p r <;> rfl
end
end Qk27

namespace Qk27
open PySem L2 PyProof.Rows
section
variable {P : Program} {w : World} {K : PySem.W.Frag} {mg : Str → Option Value} {base : Heap}
/-- what is a high, square and full table -/
def GoodLs (ls : List Lit) : Prop := High ls.length (maskT ls) ∧ Sqr ls.length (maskT ls) ∧ ∀ S p, Up (maskT ls) ls.length 0 S p → ∀ r, r < ls.length → p r ≠ none
def GoodL : Lit → Prop
  | .lst ls => shapeL (.lst ls) = true ∧ GoodLs ls
  | _ => False
theorem goodL_shape {l : Lit} (h : GoodL l) : shapeL l = true := by
  cases l with
  | lst ls => exact h.1
  | _ => exact h.elim
theorem full_not {n : Nat} {p : Nat → Option Nat} {r : Nat} (hr : r < n) (e : p r = none) : inV .non (pL n p) = true := by
  unfold inV
  rw [List.any_eq_true]
  exact ⟨.non, List.mem_map.mpr ⟨r, List.mem_range.mpr hr, by rw [e]; rfl⟩, by decide⟩
def spIsTabG : Sp := fun vs H Q _ => ∃ (v : V) (l : Lit), vs = [v] ∧ RepL H v l ∧ okL 3 l = true ∧ ∀ b H', Same H H' → (b = true ↔ GoodL l) → Q (.bl b) H'
abbrev s_is_table : Stmt := top 24
theorem sc_is_table : FnScope ["thing"] ["thing"] (defScope s_is_table) := ⟨rfl, rfl, rfl, by decide +kernel, rfl, by decide +kernel, by decide +kernel⟩
theorem ok_isTabG {C : Addr} {f : Addr} {fd : FuncData} (F : Fun K "is_table" "is_table" s_is_table f fd) (c_way : Cls K C) (n1 : NoAttr K C "partner") (g_Pairing : mg "Pairing" = some (.ref C)) (i_Pairing : HasI P w K mg base 3 C ["self", "table"] (spInit C)) (h_has_shape : Has P w K mg base 3 "has_shape" ["thing"] spShapeG) (h_is_high : Has P w K mg base 1 "is_high" ["table"] spHighG) (h_is_square : Has P w K mg base 2 "is_square" ["table"] spSquareG) : FnOk P w K mg base CX0 5 f fd ["thing"] spIsTabG := by
  refine F.ok sc_is_table (fun vs H Q E h => ?_) (fun cdv A outer s H vs Q E hr h => ?_)
  · obtain ⟨v, l, rfl, _⟩ := h
    rfl
  · obtain ⟨v, l, rfl, r, ok, k⟩ := h
    refine ⟨_, (pss_cons (ps_if (PW.pt (pw_or (pt_not (pt_val (pe_has h_has_shape (hr.mono (by decide)) (pa_cons (pv 0) pa_nil)))) (pw_or (pt_not (pt_val (pe_has h_is_high (hr.mono (by decide)) (pa_cons (pv 0) pa_nil)))) (pw_or1 (pt_not (pt_val (pe_has h_is_square (hr.mono (by decide)) (pa_cons (pv 0) pa_nil)))))))) (pss_one (ps_ret pe_bl)) pss_nil)
      (pss_one (ps_ret (pe_cmpR (op_notIn_seqK (K := K) rfl) pe_non (pe_fldK (K := K) rfl (pe_fld (pe_hasI i_Pairing (hr.mono (by decide)) (by rfl) g_Pairing (pa_cons (pv 0) pa_nil)) rfl)) rfl)))), ?_⟩
    refine ⟨_, rfl, v, l, rfl, r, ok, fun H1 s1 => ⟨_, rfl, ?_⟩⟩
    cases sh : shapeL l with
    | false => exact iteT (k false H1 s1 ⟨fun h => (nomatch h), fun h => by rw [goodL_shape h] at sh; cases sh⟩)
    | true =>
      refine iteF ?_
      cases l with
      | lst ls =>
        have r1 := r.same s1
        cases r1 with
        | @lst a xs _ e rs =>
          obtain ⟨rr, tb, n8, bd⟩ := rep_tab e rs sh
          refine ⟨_, rfl, a, _, _, rr, rfl, tb, n8, fun H2 s2 => ⟨_, rfl, ?_⟩⟩
          have s12 := s1.trans s2
          by_cases hi : High ls.length (maskT ls)
          · rw [(high_iff bd).mpr hi]
            refine iteF ?_
            refine ⟨_, rfl, a, _, _, rr, rfl, tb.same s2, n8, bd, fun b H3 s3 hb => ⟨_, rfl, ?_⟩⟩
            have s13 := s12.trans s3
            cases b with
            | false =>
              refine iteT (k false H3 s13 ⟨fun h => (nomatch h), fun h => ?_⟩)
              exact absurd (hb.mpr (sqr_iff.mpr h.2.2.1)) Bool.false_ne_true
            | true =>
              have sq := sqr_iff.mp (hb.mp rfl)
              refine iteF ?_
              refine ⟨_, rfl, fun x dx hx hd ne => ⟨x, dx, a, _, _, rr, rfl, upd_same, ((tb.same s2).same s3).same (made_in hx hd), n8, hi, sq, fun H' pa sa S p hpa hsa fr po up => ⟨rfl, ?_⟩⟩⟩
              have s4 := made_same hx hd fr
              refine ⟨x, C, dx, _, _, rfl, po.self, c_way, n1, rfl, pa, _, rfl, .inl (SqL.of po.pp), rfl, flat_pL _ p, ?_⟩
              by_cases fu : ∀ r, r < ls.length → p r ≠ none
              · rw [full_in fu]
                refine k _ H' (s13.trans s4) ⟨fun _ => ⟨sh, hi, sq, fun S' p' up' r hr => ?_⟩, fun _ => rfl⟩
                rw [up'.one up hr]
                exact fu r hr
              · have : ∃ r, r < ls.length ∧ p r = none := Classical.byContradiction fun h => fu fun r hr e => h ⟨r, hr, e⟩
                obtain ⟨r, hr', er⟩ := this
                rw [full_not hr' er]
                exact k _ H' (s13.trans s4) ⟨fun h => (nomatch h), fun h => absurd er (h.2.2.2 S p up r hr')⟩
          · have : (((List.range ls.length).map fun r => hiB ls.length (maskT ls r) r).all id) = false := by
              cases z : (((List.range ls.length).map fun r => hiB ls.length (maskT ls r) r).all id) with
              | false => rfl
              | true => exact absurd ((high_iff bd).mp z) hi
            rw [this]
            exact iteT (k false H2 s12 ⟨fun h => (nomatch h), fun h => absurd h.2.1 hi⟩)
      | _ => cases sh

end
end Qk27

namespace Qk27
open PySem L2 PyProof.Rows
section
variable {P : Program} {w : World} {K : PySem.W.Frag} {mg : Str → Option Value} {base : Heap}
abbrev s__law_whole : Stmt := top 31
theorem sc__law_whole : FnScope ["_law_thing"] ["_law_thing"] (defScope s__law_whole) := ⟨rfl, rfl, rfl, by decide +kernel, rfl, by decide +kernel, by decide +kernel⟩
theorem ok_lWhole {f : Addr} {fd : FuncData} (F : Fun K "_law_whole" "_law_whole" s__law_whole f fd) (b_isinstance : mg "isinstance" = none) (b_int : mg "int" = none) (b_bool : mg "bool" = none) : FnOk P w K mg base CX0 1 f fd ["_law_thing"] spWholeG := by
  refine F.ok sc__law_whole (fun vs H Q E h => ?_) (fun cdv A outer s H vs Q E hr h => ?_)
  · obtain ⟨v, l, rfl, _⟩ := h
    rfl
  · obtain ⟨v, l, rfl, r, k⟩ := h
    refine ⟨_, (pss_one (ps_ret (pe_and (pe_callB (call_isinstK (K := K) rfl) (by rfl) b_isinstance boot_isinstance (pa_cons (pv 0) (pa_cons (pe_bltn (v := .ty "int") (by rfl) b_int boot_int rfl) pa_nil))) (pe_one (pe_not (pe_callB (call_isinstK (K := K) rfl) (by rfl) b_isinstance boot_isinstance (pa_cons (pv 0) (pa_cons (pe_bltn (v := .ty "bool") (by rfl) b_bool boot_bool rfl) pa_nil)))))))), ?_⟩
    cases r with
    | non => exact ⟨_, rfl, _, "int", _, false, rfl, .non, by rfl, false, rfl, iteF k⟩
    | str x => exact ⟨_, rfl, _, "int", _, false, rfl, .str x, by rfl, false, rfl, iteF k⟩
    | tup e r => exact ⟨_, rfl, _, "int", _, false, rfl, .tup e, by rfl, false, rfl, iteF k⟩
    | lst e r => exact ⟨_, rfl, _, "int", _, false, rfl, .lst e, by rfl, false, rfl, iteF k⟩
    | bl b => exact ⟨_, rfl, _, "int", _, true, rfl, .bl b, by rfl, true, rfl, iteT ⟨_, rfl, _, "bool", _, true, rfl, .bl b, by rfl, true, rfl, k⟩⟩
    | int i => exact ⟨_, rfl, _, "int", _, true, rfl, .int i, by rfl, true, rfl, iteT ⟨_, rfl, _, "bool", _, false, rfl, .int i, by rfl, false, rfl, k⟩⟩
def numsL : Lit → Bool
  | .lst l => l.all wholeL
  | _ => false
def spNumsG : Sp := fun vs H Q _ => ∃ (v : V) (l : Lit), vs = [v] ∧ RepL H v l ∧ okL 3 l = true ∧ ∀ H', Same H H' → Q (.bl (numsL l)) H'
abbrev s__law_numbers : Stmt := top 32
theorem sc__law_numbers : FnScope ["_law_thing"] ["_law_thing"] (defScope s__law_numbers) := ⟨rfl, rfl, rfl, by decide +kernel, rfl, by decide +kernel, by decide +kernel⟩
theorem ok_lNums {f : Addr} {fd : FuncData} (F : Fun K "_law_numbers" "_law_numbers" s__law_numbers f fd) (h__law_whole : Has P w K mg base 1 "_law_whole" ["_law_thing"] spWholeG) (b_isinstance : mg "isinstance" = none) (b_list : mg "list" = none) (b_all : mg "all" = none) : FnOk P w K mg base CX0 2 f fd ["_law_thing"] spNumsG := by
  refine F.ok sc__law_numbers (fun vs H Q E h => ?_) (fun cdv A outer s H vs Q E hr h => ?_)
  · obtain ⟨v, l, rfl, _⟩ := h
    rfl
  · obtain ⟨v, l, rfl, r, ok, k⟩ := h
    refine ⟨_, (pss_one (ps_ret (pe_and (pe_callB (call_isinstK (K := K) rfl) (by rfl) b_isinstance boot_isinstance (pa_cons (pv 0) (pa_cons (pe_bltn (v := .ty "list") (by rfl) b_list boot_list rfl) pa_nil))) (pe_one (pe_callB (call_allK (K := K) rfl rfl) (by rfl) b_all boot_all (pa_cons (pe_lc (Ls := ["_law_one"]) (Fs := []) (fi := []) (LcScope.of (show lcLook ["_law_thing"] (defScope s__law_numbers) _ [] [] = true by decide +kernel)) rfl (pi_listK (K := K) rfl (pv 0)) (fun cl C s3 H3 ex => ⟨(pg_name (i := 0) (show ((["_law_one"] : List Str) ++ ([] : List Str)).Nodup by decide +kernel) rfl (Or.inl rfl)), pts_nil, (pe_has h__law_whole (hr.mono (by decide)) (pa_cons (pv 0) pa_nil))⟩)) pa_nil)))))), ?_⟩
    rcases rep_cases (K := K) r with ⟨a, xs, ls, rfl, rfl, ea, rs⟩ | ⟨t, ty, kt, nl⟩
    · obtain ⟨l20, _⟩ := okL_lst ok
      have lx := rs.len
      refine ⟨_, rfl, _, "list", _, true, rfl, .lst ea, by rfl, true, rfl, iteT ?_⟩
      refine ⟨_, rfl, a, rfl, ⟨_, SqL.of ea⟩, lc_list (K := K) (xs := xs) (by rw [lx, sizeLine_eq]; omega) (fun i zs G => Same H G ∧ zs = (ls.take i).map fun l => V.bl (wholeL l)) ⟨Same.refl _, rfl⟩
        (fun i zs G ⟨_, z⟩ => by rw [z, List.length_map, List.length_take]; omega) (fun i zs G ⟨s', _⟩ => SqL.of (s' a _ ea)) ?_ ?_⟩
      · rintro i x zs G hx ⟨s', rfl⟩
        obtain ⟨l', hl, rl⟩ := rs.get hx
        rw [all_take wholeL ls i hl]
        exact lcG ⟨_, rfl, x, l', rfl, rl.same s', s', rfl⟩
      · rintro zs G ⟨s', rfl⟩ D hD
        refine ⟨D, ls.map wholeL, rfl, SqL.of ?_, ?_⟩
        · rw [upd_same, List.map_map, List.take_of_length_le (by omega)]
          rfl
        · have : (ls.map wholeL).all id = numsL (.lst ls) := by simp [numsL]
          rw [this]
          exact k _ (s'.step hD)
    · refine ⟨_, rfl, _, "list", _, false, rfl, ty, kt, false, rfl, iteF ?_⟩
      have : numsL l = false := by
        cases l with
        | lst ls => exact absurd rfl (nl ls)
        | _ => rfl
      have q := k H (Same.refl _)
      rwa [this] at q

end
end Qk27

namespace Qk27
open PySem L2 PyProof.Rows
section
variable {P : Program} {w : World} {K : PySem.W.Frag} {mg : Str → Option Value} {base : Heap}
end
end Qk27

namespace Qk27
open PySem L2 PyProof.Rows
section
variable {P : Program} {w : World} {K : PySem.W.Frag} {mg : Str → Option Value} {base : Heap}
theorem bag_same {H H' : Hp} {b : Addr} (s : Same H H') (x : Bag H b) : Bag H' b := let ⟨g, r, h, e⟩ := x; ⟨g, r, h, s _ _ e⟩
theorem bag_put {b f : Addr} {H : Hp} {o : HO} (h : Bag H b) (n : f ≠ b) : Bag (upd H f o) b := by
  obtain ⟨g, r, h0, e⟩ := h
  exact ⟨g, r, h0, by rw [upd_ne (Ne.symm n)]; exact e⟩
theorem nodup_set {l : List Addr} {r : Nat} {q : Addr} (h : l.Nodup) (n : q ∉ l) : (l.set r q).Nodup := by
  refine List.pairwise_iff_getElem.mpr fun i j hi hj lt => ?_
  rw [List.length_set] at hi hj
  rw [List.getElem_set, List.getElem_set]
  have := List.pairwise_iff_getElem.mp h i j hi hj lt
  split
  · rw [if_neg (by omega)]
    exact fun z => n (z ▸ List.getElem_mem hj)
  · split
    · exact fun z => n (z ▸ List.getElem_mem hi)
    · exact this
theorem Good.slide {n i j : Nat} {T : Nat → Nat} {p0 : Nat → Option Nat} (g : Good n T p0) (h : i < j) (hj : j < n) : Good n (sT T i j) p0 := by
  obtain ⟨S, u⟩ := g.up
  have u' := u.slide h hj
  refine ⟨g.n8, fun r hr => ⟨cE_lt hj ?_, u'.high hr⟩, u'.sqr, ⟨_, u'⟩, g.full⟩
  split
  · exact Nat.xor_lt_two_pow (g.hi i (by omega)).1 (g.hi j hj).1
  · exact (g.hi r hr).1
theorem row_set {n i j v : Nat} (hj : j < n) : (rowV n v).set j (V.int (((((v.testBit j).toNat : Nat) : Int) + (((v.testBit i).toNat : Nat) : Int)) % 2)) = rowV n (cE i j v) := by
  refine List.ext_getElem? fun r => ?_
  by_cases hr : r < n
  · rw [rowV_at hr, cE_bit]
    by_cases e : r = j
    · subst e
      rw [List.getElem?_set_self (by rw [rowV_len]; exact hr), if_pos rfl]
      cases v.testBit r <;> cases v.testBit i <;> rfl
    · rw [List.getElem?_set_ne (Ne.symm e), rowV_at hr, if_neg e]
  · rw [List.getElem?_eq_none (by rw [List.length_set, rowV_len]; omega), List.getElem?_eq_none (by rw [rowV_len]; omega)]
/-- a table of new rows -/
structure TF (H0 : Hp) (b : Addr) (G : Hp) (t : Addr) (n : Nat) (T : Nat → Nat) (ts : List Addr) : Prop where
  bg : Bag G b
  fr : Frm b H0 G
  tb : TabM G t n T ts
  nd : ts.Nodup
  nt : t ∉ ts
  ft : H0 t = none
  fs : ∀ r ∈ ts, H0 r = none
theorem TF.bt {H0 G : Hp} {b t : Addr} {n : Nat} {T : Nat → Nat} {ts : List Addr} (x : TF H0 b G t n T ts) (h0 : Bag H0 b) : b ≠ t ∧ b ∉ ts := by
  obtain ⟨_, _, _, e⟩ := h0
  refine ⟨ne_of_none e x.ft, fun h => ?_⟩
  have := x.fs b h
  rw [e] at this
  cases this
theorem TF.take {H0 G G' : Hp} {b t : Addr} {n : Nat} {T : Nat → Nat} {ts : List Addr} (x : TF H0 b G t n T ts) (h0 : Bag H0 b) (f : Frm b G G') (bg : Bag G' b) : TF H0 b G' t n T ts := by
  obtain ⟨h1, h2⟩ := x.bt h0
  exact ⟨bg, x.fr.trans f, ⟨f _ _ x.tb.1 (Ne.symm h1), x.tb.2.1, fun r p e => f _ _ (x.tb.2.2 r p e) (fun z => h2 (by rw [← z]; exact List.mem_of_getElem? e))⟩, x.nd, x.nt, x.ft, x.fs⟩
theorem TF.same {H0 G G' : Hp} {b t : Addr} {n : Nat} {T : Nat → Nat} {ts : List Addr} (x : TF H0 b G t n T ts) (s : Same G G') : TF H0 b G' t n T ts := ⟨bag_same s x.bg, x.fr.trans s.frm, x.tb.same s, x.nd, x.nt, x.ft, x.fs⟩
/-- one row mutated -/
theorem TF.put {H0 G : Hp} {b t q : Addr} {n r v : Nat} {T : Nat → Nat} {ts : List Addr} (x : TF H0 b G t n T ts) (h0 : Bag H0 b) (hq : ts[r]? = some q) : TF H0 b (upd G q (.lst (rowV n v))) t n (put1 T r v) ts := by
  obtain ⟨h1, h2⟩ := x.bt h0
  have mq := List.mem_of_getElem? hq
  refine ⟨bag_put x.bg (fun z => h2 (z ▸ mq)), fun c o e h => ?_, ⟨?_, x.tb.2.1, fun m p e => ?_⟩, x.nd, x.nt, x.ft, x.fs⟩
  · rw [upd_ne (ne_of_none e (x.fs q mq))]
    exact x.fr c o e h
  · rw [upd_ne (fun z => x.nt (by rw [z]; exact mq))]
    exact x.tb.1
  · by_cases c : m = r
    · subst c
      rw [hq] at e
      cases e
      rw [upd_same, put1_at]
    · have ne : p ≠ q := fun z => by
        obtain ⟨h3, e3⟩ := List.getElem?_eq_some_iff.mp e
        obtain ⟨h4, e4⟩ := List.getElem?_eq_some_iff.mp hq
        exact c ((List.getElem_inj x.nd).mp (e3.trans (z.trans e4.symm)))
      rw [upd_ne ne, put1_ne _ _ c]
      exact x.tb.2.2 m p e
/-- one row put in anew -/
theorem TF.row {H0 G : Hp} {b t q : Addr} {n r v : Nat} {T : Nat → Nat} {ts : List Addr} (x : TF H0 b G t n T ts) (h0 : Bag H0 b) (hr : r < n) (hq : G q = some (.lst (rowV n v))) (fq : H0 q = none) (nq : q ∉ ts) (qt : q ≠ t) : TF H0 b (upd G t (.lst ((ts.map V.ref).set r (.ref q)))) t n (put1 T r v) (ts.set r q) := by
  obtain ⟨h1, h2⟩ := x.bt h0
  refine ⟨bag_put x.bg (Ne.symm h1), fun c o e h => ?_, ⟨?_, ?_, fun m p e => ?_⟩, ?_, fun h => ?_, x.ft, fun m hm => ?_⟩
  · rw [upd_ne (ne_of_none e x.ft)]
    exact x.fr c o e h
  · rw [upd_same, List.map_set]
  · rw [List.length_set]; exact x.tb.2.1
  · have np : p ≠ t := fun z => by
      have mp := List.mem_of_getElem? e
      rcases List.mem_or_eq_of_mem_set mp with h | h
      · exact x.nt (z ▸ h)
      · exact qt (h.symm.trans z)
    rw [upd_ne np]
    by_cases c : m = r
    · subst c
      rw [List.getElem?_set_self (by rw [x.tb.2.1]; exact hr)] at e
      cases e
      rw [put1_at]
      exact hq
    · rw [List.getElem?_set_ne (Ne.symm c)] at e
      rw [put1_ne _ _ c]
      exact x.tb.2.2 m p e
  · exact nodup_set x.nd nq
  · rcases List.mem_or_eq_of_mem_set h with h | h
    · exact x.nt h
    · exact qt h.symm
  · rcases List.mem_or_eq_of_mem_set hm with h | h
    · exact x.fs m h
    · rw [h]; exact fq

end
end Qk27

namespace Qk27
open PySem L2 PyProof.Rows
section
variable {P : Program} {w : World} {K : PySem.W.Frag} {mg : Str → Option Value} {base : Heap}
theorem TF.congr {H0 G : Hp} {b t : Addr} {n : Nat} {T T' : Nat → Nat} {ts : List Addr} (x : TF H0 b G t n T ts) (h : ∀ r, r < n → T r = T' r) : TF H0 b G t n T' ts :=
  ⟨x.bg, x.fr, ⟨x.tb.1, x.tb.2.1, fun r p e => by rw [← h r (by rw [← x.tb.2.1]; exact (List.getElem?_eq_some_iff.mp e).1)]; exact x.tb.2.2 r p e⟩, x.nd, x.nt, x.ft, x.fs⟩
def spSlid : Sp := fun vs H Q _ => ∃ (b a : Addr) (n : Nat) (m : Int) (T : Nat → Nat) (p0 : Nat → Option Nat) (rs : List Addr), vs = [.ref b, .ref a, .int m] ∧ Bag H b ∧ TabM H a n T rs ∧ Good n T p0 ∧ 0 ≤ m ∧ m ≤ 100 ∧ a ≠ b ∧
  ∀ (t : Addr) (H' : Hp) (ts : List Addr) (T' : Nat → Nat), TF H b H' t n T' ts → Good n T' p0 → Q (.ref t) H'
theorem xor_bit (a b : Nat) (j : Nat) : ((((a.testBit j).toNat : Nat) : Int) + (((b.testBit j).toNat : Nat) : Int)) % 2 = ((((a ^^^ b).testBit j).toNat : Nat) : Int) := by
  rw [Nat.testBit_xor]
  cases a.testBit j <;> cases b.testBit j <;> rfl
abbrev s__law_slid : Stmt := top 36
theorem sc__law_slid : FnScope ["_law_bag_here", "_law_table", "_law_most", "_law_found", "_law_many", "_law_turn", "_law_i", "_law_j", "_law_row"] ["_law_bag_here", "_law_table", "_law_most"] (defScope s__law_slid) := ⟨rfl, rfl, rfl, by decide +kernel, rfl, by decide +kernel, by decide +kernel⟩
theorem ok_slid {f : Addr} {fd : FuncData} (F : Fun K "_law_slid" "_law_slid" s__law_slid f fd) (h__law_take : Has P w K mg base 1 "_law_take" ["_law_bag_here", "_law_many"] spTake) (b_list : mg "list" = none) (b_len : mg "len" = none) (b_range : mg "range" = none) (b_max : mg "max" = none) (b_zip : mg "zip" = none) : FnOk P w K mg base CX0 2 f fd ["_law_bag_here", "_law_table", "_law_most"] spSlid := by
  refine F.ok sc__law_slid (fun vs H Q E h => ?_) (fun cdv A outer s H vs Q E hr h => ?_)
  · obtain ⟨b, a, n, m, T, p0, rs, rfl, _⟩ := h
    rfl
  · obtain ⟨b, a, n, m, T, p0, rs, rfl, bg, tb, g, m0, m1, ab, k⟩ := h
    refine ⟨_, (pss_cons (ps_lc (i := 3) sc__law_slid.nd rfl (Or.inl rfl) (Ls := ["_law_row"]) (Fs := []) (fi := []) (LcScope.of (show lcLook ["_law_bag_here", "_law_table", "_law_most", "_law_found", "_law_many", "_law_turn", "_law_i", "_law_j", "_law_row"] (defScope s__law_slid) _ [] [] = true by decide +kernel)) rfl (pi_listK (K := K) rfl (pv 1)) (fun cl C s3 H3 ex => ⟨(pg_name (i := 0) (show ((["_law_row"] : List Str) ++ ([] : List Str)).Nodup by decide +kernel) rfl (Or.inl rfl)), pts_nil, (pe_callTy (call_listK (K := K) rfl) (by rfl) b_list boot_list (pa_cons (pv 0) pa_nil))⟩))
      (pss_cons (ps_set (i := 4) sc__law_slid.nd rfl (Or.inl rfl) (pe_callB (call_lenK (K := K) rfl) (by rfl) b_len PySem.boot_len (pa_cons (pv 1) pa_nil)))
      (pss_cons (ps_for PassesOwn.never rfl (pi_range1 (by rfl) b_range (pa_cons (pe_has h__law_take (hr.mono (by decide)) (pa_cons (pv 0) (pa_cons (pe_op op_add (pv 2) pe_int) pa_nil))) pa_nil)) (pg_name (i := 5) sc__law_slid.nd rfl (Or.inl rfl)) (pss_cons (ps_set (i := 6) sc__law_slid.nd rfl (Or.inl rfl) (pe_has h__law_take (hr.mono (by decide)) (pa_cons (pv 0) (pa_cons (pe_callB (call_max2 rfl) (by rfl) b_max boot_max (pa_cons pe_int (pa_cons (pe_op op_sub (pv 4) pe_int) pa_nil))) pa_nil))))
      (pss_cons (ps_set (i := 7) sc__law_slid.nd rfl (Or.inl rfl) (pe_op op_add (pe_op op_add (pv 6) pe_int) (pe_has h__law_take (hr.mono (by decide)) (pa_cons (pv 0) (pa_cons (pe_callB (call_max2 rfl) (by rfl) b_max boot_max (pa_cons pe_int (pa_cons (pe_op op_sub (pe_op op_sub (pv 4) pe_int) (pv 6)) pa_nil))) pa_nil)))))
      (pss_one (ps_if (pt_cmpR op_lt (pv 7) (pv 4) (nomark _)) (pss_cons (ps_asg (pe_lc (Ls := ["_law_one", "_law_other"]) (Fs := []) (fi := []) (LcScope.of (show lcLook ["_law_bag_here", "_law_table", "_law_most", "_law_found", "_law_many", "_law_turn", "_law_i", "_law_j", "_law_row"] (defScope s__law_slid) _ [] [] = true by decide +kernel)) rfl (pi_zipK (K := K) rfl (by rfl) b_zip (pa_cons (pe_ix (ix_listK (K := K) rfl) (pv 3) (pv 6) (fun _ _ => rfl)) (pa_cons (pe_ix (ix_listK (K := K) rfl) (pv 3) (pv 7) (fun _ _ => rfl)) pa_nil))) (fun cl C s3 H3 ex => ⟨(pg_tupK (K := K) (n := 2) rfl rfl (pgs_cons (pg_name (i := 0) (show ((["_law_one", "_law_other"] : List Str) ++ ([] : List Str)).Nodup by decide +kernel) rfl (Or.inl rfl)) (pgs_cons (pg_name (i := 1) (show ((["_law_one", "_law_other"] : List Str) ++ ([] : List Str)).Nodup by decide +kernel) rfl (Or.inl rfl)) pgs_nil))), pts_nil, (pe_op op_mod (pe_op op_add (pv 0) (pv 1)) pe_int)⟩)) (pg_sub (pv 3) (pv 6) set_list))
      (pss_one (ps_for PassesOwn.never rfl (pi_listK (K := K) rfl (pv 3)) (pg_name (i := 8) sc__law_slid.nd rfl (Or.inl rfl)) (pss_one (ps_asg (pe_op op_mod (pe_op op_add (pe_ix (ix_listK (K := K) rfl) (pv 8) (pv 7) (fun _ _ => rfl)) (pe_ix (ix_listK (K := K) rfl) (pv 8) (pv 6) (fun _ _ => rfl))) pe_int) (pg_sub (pv 8) (pv 7) set_list)))))) pss_nil)))))
      (pss_one (ps_ret (pv 3)))))), ?_⟩
    obtain ⟨ea, ln, er⟩ := id tb
    have lr : (rs.map V.ref).length = n := by rw [List.length_map, ln]
    have n8 := g.n8
    refine ⟨_, rfl, a, rfl, ⟨_, SqL.of ea⟩, lc_list (K := K) (a := a) (xs := rs.map V.ref) (by rw [lr, sizeLine_eq]; omega) (fun i zs G => Same H G ∧ ∃ ts : List Addr, zs = ts.map V.ref ∧ ts.length = i ∧ ts.Nodup ∧ (∀ r ∈ ts, H r = none) ∧ ∀ r q, ts[r]? = some q → G q = some (.lst (rowV n (T r)))) ⟨Same.refl _, [], rfl, rfl, .nil, (fun _ h => nomatch h), (fun r q h => by simp at h)⟩ (fun i zs G ⟨_, ts, e, l, _⟩ => by rw [e, List.length_map, l]; exact Nat.le_refl _) (fun i zs G p => SqL.of (p.1 _ _ ea)) (fun i y zs G hy q => ?_) (fun zs G q D hD => ?_)⟩
    · obtain ⟨sG, ts, rfl, lt, nd, fr, at'⟩ := q
      obtain ⟨p, hp, rfl⟩ := refs_get hy
      refine lcG ⟨_, rfl, p, _, rfl, .inl (SqL.of (sG _ _ (er i p hp))), fun q hq => ?_⟩
      refine ⟨sG.step hq, ts ++ [q], by simp, by rw [List.length_append, lt]; rfl, ?_, fun r hr => ?_, fun r u hu => ?_⟩
      · refine List.nodup_append.mpr ⟨nd, by simp, fun y hy z hz => ?_⟩
        rw [List.mem_singleton.mp hz]
        obtain ⟨r, hr, rfl⟩ := List.getElem_of_mem hy
        exact ne_of_none (at' r _ (List.getElem?_eq_getElem hr)) hq
      · rcases List.mem_append.mp hr with h | h
        · exact fr r h
        · rw [List.mem_singleton.mp h]; exact sG.free hq
      · by_cases c : r < ts.length
        · rw [List.getElem?_append_left c] at hu
          exact (Same.laid hq) _ _ (at' r u hu)
        · rw [List.getElem?_append_right (by omega)] at hu
          have e0 : r - ts.length = 0 := by
            have := (List.getElem?_eq_some_iff.mp hu).1
            simp at this
            omega
          rw [e0] at hu
          cases hu
          rw [show r = i by omega]
          exact upd_same
    obtain ⟨sG, ts, rfl, lt, nd, fs, at'⟩ := q
    rw [lr] at lt
    have sD := sG.step (o := .lst (ts.map V.ref)) hD
    have tf0 : TF H b (upd G D (.lst (ts.map V.ref))) D n T ts := ⟨bag_same sD bg, sD.frm, ⟨upd_same, lt, fun r q e => (Same.laid hD) _ _ (at' r q e)⟩, nd, (fun h => by
      obtain ⟨r, hr, e⟩ := List.getElem_of_mem h
      have := at' r _ (List.getElem?_eq_getElem hr)
      rw [e, hD] at this
      cases this), sG.free hD, fs⟩
    generalize upd G D (.lst (ts.map V.ref)) = G1 at *
    refine ⟨_, rfl, a, _, rfl, .inl (SqL.of (sD _ _ ea)), ?_⟩
    rw [lr]
    refine ⟨_, rfl, _, rfl, _, _, rfl, rfl, b, _, rfl, tf0.bg, by omega, by omega, fun d G2 d0 d1 bg2 f2 => ⟨d, rfl, by omega, by omega, for_range (n := d.toNat) (fun c σ G' => ∃ (v5 v6 v7 v8 : Option V) (T' : Nat → Nat) (ts' : List Addr), σ = [some (.ref b), some (.ref a), some (.int m), some (.ref D), some (.int (n : Nat)), v5, v6, v7, v8] ∧ TF H b G' D n T' ts' ∧ Good n T' p0) ⟨none, none, none, none, T, ts, rfl, tf0.take bg f2 bg2, g⟩ ?_ ?_⟩⟩
    · rintro c σ G' hc ⟨v5, v6, v7, v8, T', ts', rfl, tf, g'⟩
      refine ⟨_, rfl, _, rfl, _, _, rfl, rfl, _, _, rfl, b, _, rfl, tf.bg, (by split <;> omega), (by split <;> omega), fun i' G3 i0 i1 bg3 f3 => ?_⟩
      obtain ⟨i, rfl⟩ := Int.eq_ofNat_of_zero_le i0
      have tf3 := tf.take bg f3 bg3
      refine ⟨_, rfl, _, _, rfl, rfl, _, rfl, _, rfl, _, _, rfl, rfl, _, rfl, _, _, rfl, rfl, _, _, rfl, b, _, rfl, bg3, (by split <;> omega), (by split <;> omega), fun j' G4 j0 j1 bg4 f4 => ?_⟩
      have tf4 := tf3.take bg f4 bg4
      obtain ⟨jj, rfl⟩ := Int.eq_ofNat_of_zero_le j0
      refine ⟨_, _, rfl, rfl, _, rfl, _, rfl, _, _, rfl, rfl, _, rfl, ite2 (fun hp => ?_) (fun hp => ?_)⟩
      · have hlt : (i : Int) + 1 + (jj : Int) < (n : Int) := of_decide_eq_true hp
        obtain ⟨j, hj⟩ : ∃ j : Nat, j = i + 1 + jj := ⟨_, rfl⟩
        have ej : (i : Int) + 1 + (jj : Int) = ((j : Nat) : Int) := by omega
        have hjn : j < n := by omega
        have hin : i < n := by omega
        have hij : i < j := by omega
        show tSeq _ _ _ [some (V.ref b), some (V.ref a), some (V.int m), some (V.ref D), some (V.int (n : Nat)), some (V.int (0 + (c : Int))), some (V.int (i : Nat)), some (V.int ((i : Int) + 1 + (jj : Int))), v8] G4
        rw [ej]
        obtain ⟨eD, lD, rD⟩ := id tf4.tb
        obtain ⟨qi, hqi⟩ : ∃ q, ts'[i]? = some q := ⟨_, List.getElem?_eq_getElem (by omega)⟩
        obtain ⟨qj, hqj⟩ : ∃ q, ts'[j]? = some q := ⟨_, List.getElem?_eq_getElem (by omega)⟩
        have ai : (ts'.map V.ref)[i]? = some (V.ref qi) := by rw [List.getElem?_map, hqi]; rfl
        have aj : (ts'.map V.ref)[j]? = some (V.ref qj) := by rw [List.getElem?_map, hqj]; rfl
        have ei := rD i qi hqi
        have ej' := rD j qj hqj
        refine ⟨_, rfl, _, rfl, D, _, _, _, rfl, rfl, SqL.of eD, atI_nat ai, _, rfl, _, rfl, D, _, _, _, rfl, rfl, SqL.of eD, atI_nat aj, qi, qj, rfl, ⟨_, SqL.of ei⟩, ⟨_, SqL.of ej'⟩, lc_zipS (K := K) (xs := rowV n (T' i)) (ys := rowV n (T' j)) (by rw [rowV_len, sizeLine_eq]; omega) (by rw [rowV_len, rowV_len]; omega) (fun e zs G => Same G4 G ∧ zs = (rowV n (T' i ^^^ T' j)).take e) ⟨Same.refl _, rfl⟩ (fun e zs G ⟨_, z⟩ => by rw [z, List.length_take]; omega) (fun e zs G ⟨s5, _⟩ => ⟨SqL.of (s5 _ _ ei), SqL.of (s5 _ _ ej')⟩) ?_ ?_⟩
        · rintro e x y p zs G5 hx hy ⟨s5, rfl⟩ hp
          obtain ⟨he, rfl⟩ := rowV_get hx
          obtain ⟨_, rfl⟩ := rowV_get hy
          refine ⟨p, _, rfl, SqT.of upd_same, rfl, _, _, rfl, _, _, rfl, rfl, ?_⟩
          refine lcT ⟨_, rfl, _, rfl, _, _, rfl, rfl, _, _, rfl, rfl, (by show (0 : Int) < 2; decide), s5.step hp, ?_⟩
          rw [List.take_add_one, rowV_at he]
          show _ ++ [V.int ((_ + _) % 2)] = _
          rw [xor_bit]
          rfl
        rintro zs G5 ⟨s5, rfl⟩ q hq
        rw [rowV_len, List.take_of_length_le (by rw [rowV_len]; exact Nat.le_refl _)]
        have q4 : G4 q = none := s5.free hq
        have fq : H q = none := tf4.fr.free tf4.bg q4
        have nq : q ∉ ts' := fun h => by
          obtain ⟨r, hr, e⟩ := List.getElem_of_mem h
          have := rD r _ (List.getElem?_eq_getElem hr)
          rw [e, q4] at this
          cases this
        have qD : q ≠ D := fun z => by rw [z, eD] at q4; cases q4
        have tf5 := tf4.same (s5.step (o := .lst (rowV n (T' i ^^^ T' j))) hq)
        have eq5 : upd G5 q (.lst (rowV n (T' i ^^^ T' j))) q = some (.lst (rowV n (T' i ^^^ T' j))) := upd_same
        generalize upd G5 q (.lst (rowV n (T' i ^^^ T' j))) = G6 at *
        refine ⟨_, rfl, _, rfl, D, _, _, i, rfl, rfl, tf5.tb.1, ixN_nat (by rw [List.length_map, lD]; exact hin), ?_⟩
        have tf6 := tf5.row bg hin eq5 fq nq qD
        generalize upd G6 D (.lst ((ts'.map V.ref).set i (.ref q))) = G7 at *
        generalize ts'.set i q = ts1 at *
        obtain ⟨T1, hT1⟩ : ∃ T1, T1 = put1 T' i (T' i ^^^ T' j) := ⟨_, rfl⟩
        rw [← hT1] at tf6
        refine ⟨_, rfl, D, rfl, ⟨_, SqL.of tf6.tb.1⟩, for_list (K := K) (a := D) (xs := ts1.map V.ref) (fun e σ G => ∃ v8 : Option V, σ = [some (V.ref b), some (V.ref a), some (V.int m), some (V.ref D), some (V.int (n : Nat)), some (V.int (0 + (c : Int))), some (V.int (i : Nat)), some (V.int (j : Nat)), v8] ∧ TF H b G D n (fun r => if r < e then cE i j (T1 r) else T1 r) ts1) ⟨_, rfl, tf6.congr fun r _ => by rw [if_neg (Nat.not_lt_zero _)]⟩ (fun e σ G _ ⟨_, _, t⟩ => SqL.of t.tb.1) ?_ ?_⟩
        · rintro e x σ G8 hx ⟨v8', rfl, t8⟩
          obtain ⟨q2, hq2, rfl⟩ := refs_get hx
          have eq := t8.tb.2.2 e q2 hq2
          have eq : G8 q2 = some (.lst (rowV n (if e < e then cE i j (T1 e) else T1 e))) := eq
          rw [if_neg (Nat.lt_irrefl e)] at eq
          refine ⟨_, rfl, _, rfl, q2, _, _, _, rfl, rfl, SqL.of eq, atI_nat (rowV_at hjn), _, rfl, _, rfl, q2, _, _, _, rfl, rfl, SqL.of eq, atI_nat (rowV_at hin), _, _, rfl, rfl, _, _, rfl, rfl, (by show (0 : Int) < 2; decide), ?_⟩
          refine ⟨_, rfl, _, rfl, q2, _, _, j, rfl, rfl, eq, ixN_nat (by rw [rowV_len]; exact hjn), _, rfl, ?_⟩
          show TF H b (upd G8 q2 (.lst ((rowV n (T1 e)).set j (V.int ((_ + _) % 2))))) D n _ ts1
          rw [row_set hjn]
          refine (t8.put bg hq2).congr fun r hr => ?_
          by_cases z : r = e
          · rw [z, put1_at, if_pos (Nat.lt_succ_self _)]
          · rw [put1_ne _ _ z]
            by_cases y : r < e
            · rw [if_pos y, if_pos (by omega)]
            · rw [if_neg y, if_neg (by omega)]
        · rintro σ G8 ⟨v8', rfl, t8⟩
          refine ⟨_, _, _, _, sT T' i j, ts1, rfl, t8.congr fun r hr => ?_, g'.slide hij hjn⟩
          rw [List.length_map, t8.tb.2.1, if_pos hr, hT1]
          show cE i j (put1 T' i (T' i ^^^ T' j) r) = cE i j (if r = i then T' i ^^^ T' j else T' r)
          rfl
      · exact ⟨_, _, _, _, T', ts', rfl, tf4, g'⟩
    · rintro σ G' ⟨v5, v6, v7, v8, T', ts', rfl, tf, g'⟩
      exact ⟨_, rfl, k D G' ts' T' tf g'⟩

end
end Qk27

namespace Qk27
open PySem L2 PyProof.Rows
section
variable {P : Program} {w : World} {K : PySem.W.Frag} {mg : Str → Option Value} {base : Heap}
def spPT : Sp := fun vs H Q _ => ∃ b : Addr, vs = [.ref b, .int 8] ∧ Bag H b ∧ ∀ (H' : Hp) (t pl tp : Addr) (n : Nat) (ts : List Addr) (p0 : Nat → Option Nat), TF H b H' t n (pT p0) ts → Good n (pT p0) p0 → H' pl = some (.lst (pL n p0)) → H' tp = some (.tup [.ref t, .ref pl]) → H tp = none → H pl = none → Q (.ref tp) H'
/-- the pairs so far: those of L are left -/
structure Pr (n : Nat) (L : List Nat) (p : Nat → Option Nat) : Prop where
  as : L.Pairwise (· < ·)
  lt : ∀ r ∈ L, r < n
  ev : L.length % 2 = 0
  left : ∀ r, r < n → (p r = none ↔ r ∈ L)
  inv : ∀ r q, r < n → p r = some q → q < n ∧ q ≠ r ∧ p q = some r
theorem Pr.good {n : Nat} {p : Nat → Option Nat} (h : Pr n [] p) (hn : n ≤ 8) : Good n (pT p) p := by
  have u := Up.pairs h.inv
  refine ⟨hn, fun r hr => ⟨?_, u.high hr⟩, u.sqr, ⟨_, u⟩, fun r hr e => nomatch (h.left r hr).mp e⟩
  show (match p r with | some q => if r < q then 2 ^ q else 0 | none => 0) < 2 ^ n
  cases e : p r with
  | none => exact Nat.two_pow_pos n
  | some q =>
    show (if r < q then 2 ^ q else 0) < 2 ^ n
    split
    · exact Nat.pow_lt_pow_right (by decide) (h.inv r q hr e).1
    · exact Nat.two_pow_pos n
theorem Pr.step {n lo hi k : Nat} {L : List Nat} {p : Nat → Option Nat} (h : Pr n (lo :: L) p) (hk : L[k]? = some hi) : lo < hi ∧ hi < n ∧ Pr n (L.eraseIdx k) (put1 (put1 p lo (some hi)) hi (some lo)) := by
  obtain ⟨a1, a2⟩ := List.pairwise_cons.mp h.as
  have mh := List.mem_of_getElem? hk
  have lt := a1 hi mh
  have hn := h.lt hi (List.mem_cons_of_mem _ mh)
  have ln := h.lt lo List.mem_cons_self
  obtain ⟨kl, ek⟩ := List.getElem?_eq_some_iff.mp hk
  have nd : L.Nodup := a2.imp fun x => Nat.ne_of_lt x
  have mem : ∀ r, r ∈ L.eraseIdx k ↔ r ∈ L ∧ r ≠ hi := fun r => by
    rw [List.mem_eraseIdx_iff_getElem]
    constructor
    · rintro ⟨i, hi1, ne, rfl⟩
      refine ⟨List.getElem_mem hi1, fun z => ne ?_⟩
      exact (List.getElem_inj nd).mp (z.trans ek.symm)
    · rintro ⟨hr, ne⟩
      obtain ⟨i, hi1, rfl⟩ := List.getElem_of_mem hr
      exact ⟨i, hi1, fun z => ne (by subst z; exact ek), rfl⟩
  refine ⟨lt, hn, a2.sublist (List.eraseIdx_sublist L k), fun r hr => h.lt r (List.mem_cons_of_mem _ ((mem r).mp hr).1), ?_, fun r hr => ?_, fun r q hr e => ?_⟩
  · have := h.ev
    rw [List.length_cons] at this
    rw [List.length_eraseIdx, if_pos kl]
    omega
  · rw [mem]
    by_cases e1 : r = hi
    · rw [e1, put1_at]; simp
    · rw [put1_ne _ _ e1]
      by_cases e2 : r = lo
      · rw [e2, put1_at]
        constructor
        · intro z; cases z
        · intro z; exact absurd (a1 lo z.1) (Nat.lt_irrefl _)
      · rw [put1_ne _ _ e2, h.left r hr]
        simp [e1, e2]
  · by_cases e1 : r = hi
    · rw [e1, put1_at] at e
      cases e
      exact ⟨ln, by omega, by rw [put1_ne _ _ (by omega), put1_at, e1]⟩
    · rw [put1_ne _ _ e1] at e
      by_cases e2 : r = lo
      · rw [e2, put1_at] at e
        cases e
        exact ⟨hn, by omega, by rw [put1_at, e2]⟩
      · rw [put1_ne _ _ e2] at e
        obtain ⟨h1, h2, h3⟩ := h.inv r q hr e
        have n1 : q ≠ hi := fun z => by
          have := (h.left hi hn).mpr (List.mem_cons_of_mem _ mh)
          rw [z, this] at h3
          cases h3
        have n2 : q ≠ lo := fun z => by
          have := (h.left lo ln).mpr List.mem_cons_self
          rw [z, this] at h3
          cases h3
        exact ⟨h1, h2, by rw [put1_ne _ _ n1, put1_ne _ _ n2]; exact h3⟩

end
end Qk27

namespace Qk27
open PySem L2 PyProof.Rows
section
variable {P : Program} {w : World} {K : PySem.W.Frag} {mg : Str → Option Value} {base : Heap}
theorem TF.other {H0 G : Hp} {b t q : Addr} {n : Nat} {T : Nat → Nat} {ts : List Addr} {o : HO} (x : TF H0 b G t n T ts) (h0 : Bag H0 b) (fq : H0 q = none) (qt : q ≠ t) (nq : q ∉ ts) : TF H0 b (upd G q o) t n T ts := by
  have qb : q ≠ b := fun z => by obtain ⟨_, _, _, e⟩ := h0; rw [z, e] at fq; cases fq
  exact ⟨bag_put x.bg qb, fun c u e h => by rw [upd_ne (ne_of_none e fq)]; exact x.fr c u e h, ⟨by rw [upd_ne (Ne.symm qt)]; exact x.tb.1, x.tb.2.1, fun r p e => by rw [upd_ne (fun z => nq (by rw [← z]; exact List.mem_of_getElem? e))]; exact x.tb.2.2 r p e⟩, x.nd, x.nt, x.ft, x.fs⟩
theorem row_one {n h : Nat} (hh : h < n) : (rowV n 0).set h (V.int 1) = rowV n (2 ^ h) := by
  refine List.ext_getElem? fun r => ?_
  by_cases hr : r < n
  · rw [rowV_at hr, Nat.testBit_two_pow]
    by_cases e : r = h
    · subst e
      rw [List.getElem?_set_self (by rw [rowV_len]; exact hr)]
      simp
    · rw [List.getElem?_set_ne (Ne.symm e), rowV_at hr]
      simp [Ne.symm e]
  · rw [List.getElem?_eq_none (by rw [List.length_set, rowV_len]; omega), List.getElem?_eq_none (by rw [rowV_len]; omega)]
theorem pT_step {p : Nat → Option Nat} {lo hi : Nat} (lt : lo < hi) (hh : p hi = none) (r : Nat) : put1 (pT p) lo (2 ^ hi) r = pT (put1 (put1 p lo (some hi)) hi (some lo)) r := by
  unfold pT
  by_cases e1 : r = hi
  · rw [e1, put1_ne _ _ (by omega), put1_at, hh]
    exact (if_neg (by omega)).symm
  · rw [put1_ne (put1 p lo (some hi)) _ e1]
    by_cases e2 : r = lo
    · rw [e2, put1_at, put1_at]
      exact (if_pos lt).symm
    · rw [put1_ne _ _ e2, put1_ne _ _ e2]
theorem nL_erase : ∀ (L : List Nat) (k : Nat), (nL L).eraseIdx k = nL (L.eraseIdx k)
  | [], k => by simp [nL]
  | a :: L, 0 => rfl
  | a :: L, k + 1 => by
    show V.int (a : Nat) :: (nL L).eraseIdx k = V.int (a : Nat) :: nL (L.eraseIdx k)
    rw [nL_erase L k]
theorem rows0 (n : Nat) : (List.replicate n [V.int 0]).flatten = rowV n 0 := by
  rw [List.flatten_replicate_singleton, rowV, brow, List.map_map]
  refine (List.eq_replicate_iff.mpr ⟨by simp, fun b hb => ?_⟩).symm
  obtain ⟨r, _, rfl⟩ := List.mem_map.mp hb
  simp
abbrev s__law_pair_table : Stmt := top 35
theorem sc__law_pair_table : FnScope ["_law_bag_here", "_law_most", "_law_left", "_law_many", "_law_found", "_law_partners", "_law_low", "_law_high"] ["_law_bag_here", "_law_most"] (defScope s__law_pair_table) := ⟨rfl, rfl, rfl, by decide +kernel, rfl, by decide +kernel, by decide +kernel⟩
theorem ok_pairTab {f : Addr} {fd : FuncData} (F : Fun K "_law_pair_table" "_law_pair_table" s__law_pair_table f fd) (h__law_take : Has P w K mg base 1 "_law_take" ["_law_bag_here", "_law_many"] spTake) (b_list : mg "list" = none) (b_len : mg "len" = none) (b_range : mg "range" = none) : FnOk P w K mg base CX0 2 f fd ["_law_bag_here", "_law_most"] spPT := by
  refine F.ok sc__law_pair_table (fun vs H Q E h => ?_) (fun cdv A outer s H vs Q E hr h => ?_)
  · obtain ⟨b, rfl, _⟩ := h
    rfl
  · obtain ⟨b, rfl, bg, k⟩ := h
    refine ⟨_, (pss_cons (ps_set (i := 2) sc__law_pair_table.nd rfl (Or.inl rfl) (pe_callTy (call_listR rfl) (by rfl) b_list boot_list (pa_cons (pe_callTy call_range1 (by rfl) b_range boot_range (pa_cons (pe_op op_mul pe_int (pe_has h__law_take (hr.mono (by decide)) (pa_cons (pv 0) (pa_cons (pe_op op_add (pe_op op_fdiv (pv 1) pe_int) pe_int) pa_nil)))) pa_nil)) pa_nil)))
      (pss_cons (ps_set (i := 3) sc__law_pair_table.nd rfl (Or.inr rfl) (pe_callB (call_lenK (K := K) rfl) (by rfl) b_len PySem.boot_len (pa_cons (pv 2) pa_nil)))
      (pss_cons (ps_lc (i := 4) sc__law_pair_table.nd rfl (Or.inl rfl) (Ls := ["_law_row"]) (Fs := ["_law_many"]) (fi := [3]) (LcScope.of (show lcLook ["_law_bag_here", "_law_most", "_law_left", "_law_many", "_law_found", "_law_partners", "_law_low", "_law_high"] (defScope s__law_pair_table) _ ["_law_many"] [3] = true by decide +kernel)) rfl (pi_range1 (by rfl) b_range (pa_cons (pv 3) pa_nil)) (fun cl C s3 H3 ex => ⟨(pg_name (i := 0) (show ((["_law_row"] : List Str) ++ (["_law_many"] : List Str)).Nodup by decide +kernel) rfl (Or.inl rfl)), pts_nil, (pe_op op_rep (pe_lst (pa_cons pe_int pa_nil)) (pv 1))⟩))
      (pss_cons (ps_set (i := 5) sc__law_pair_table.nd rfl (Or.inl rfl) (pe_op op_rep (pe_lst (pa_cons pe_non pa_nil)) (pv 3)))
      (pss_cons (ps_while PassesOwn.never (pt_cmpR (op_neNilK (K := K) rfl hr.units) (pv 2) (pe_lst pa_nil) (nomark _)) (pss_cons (ps_set (i := 6) sc__law_pair_table.nd rfl (Or.inl rfl) (pe_bmK (K := K) rfl (pe_bm PySem.F.plainAttrs_list PySem.F.slot_list_pop PySem.F.type_list_pop mt_popAt (pv 2) (pa_cons pe_int pa_nil))))
      (pss_cons (ps_set (i := 7) sc__law_pair_table.nd rfl (Or.inl rfl) (pe_bmK (K := K) rfl (pe_bm PySem.F.plainAttrs_list PySem.F.slot_list_pop PySem.F.type_list_pop mt_popAt (pv 2) (pa_cons (pe_has h__law_take (hr.mono (by decide)) (pa_cons (pv 0) (pa_cons (pe_callB (call_lenK (K := K) rfl) (by rfl) b_len PySem.boot_len (pa_cons (pv 2) pa_nil)) pa_nil))) pa_nil))))
      (pss_cons (ps_asg pe_int (pg_sub (pe_ix (ix_listK (K := K) rfl) (pv 4) (pv 6) (fun _ _ => rfl)) (pv 7) set_list))
      (pss_one (ps_asg (pe_tup (pa_cons (pv 7) (pa_cons (pv 6) pa_nil))) (pg_tupK (K := K) (n := 2) rfl rfl (pgs_cons (pg_sub (pv 5) (pv 6) set_list) (pgs_cons (pg_sub (pv 5) (pv 7) set_list) pgs_nil)))))))))
      (pss_one (ps_ret (pe_tup (pa_cons (pv 4) (pa_cons (pv 5) pa_nil)))))))))), ?_⟩
    refine ⟨_, rfl, _, rfl, _, _, rfl, rfl, ⟨by decide, by decide⟩, _, _, rfl, rfl, b, _, rfl, bg, by decide, by decide, fun d H1 d0 d1 bg1 f1 => ?_⟩
    have d5 : d < 5 := d1
    obtain ⟨dn, rfl⟩ := Int.eq_ofNat_of_zero_le d0
    obtain ⟨n, hn2⟩ : ∃ n, n = 2 * dn := ⟨_, rfl⟩
    have n8 : n ≤ 8 := by omega
    refine ⟨_, _, rfl, rfl, .inl ⟨by decide, by decide⟩, _, rfl, fun rg hrg => ⟨rg, n, rfl, (by rw [upd_same, show (2 : Int) * (dn : Int) = (n : Int) by omega]), by omega, fun l hl => ?_⟩⟩
    have eup : (upI n).map V.int = nL (List.range n) := by simp [upI, nL]
    rw [eup]
    have s12 := (Same.laid (o := .rng 0 (2 * (dn : Int))) hrg).step (o := .lst (nL (List.range n))) hl
    have fr2 : Frm b H (upd (upd H1 rg (.rng 0 (2 * (dn : Int)))) l (.lst (nL (List.range n)))) := f1.trans s12.frm
    have bg2 := bag_same s12 bg1
    have el2 : (upd (upd H1 rg (.rng 0 (2 * (dn : Int)))) l (.lst (nL (List.range n)))) l = some (.lst (nL (List.range n))) := upd_same
    have fl : H l = none := f1.free bg1 ((Same.laid hrg).free hl)
    generalize upd (upd H1 rg (.rng 0 (2 * (dn : Int)))) l (.lst (nL (List.range n))) = G2 at *
    refine ⟨_, rfl, l, _, rfl, .inl (SqL.of el2), ?_⟩
    rw [show (nL (List.range n)).length = n by simp [nL]]
    refine ⟨_, rfl, n, rfl, by omega, by omega, lc_rng (n := n) (by rw [sizeLine_eq]; omega) (fun i zs G => Same G2 G ∧ ∃ ts : List Addr, zs = ts.map V.ref ∧ ts.length = i ∧ ts.Nodup ∧ (∀ r ∈ ts, G2 r = none) ∧ ∀ (r : Nat) (q : Addr), ts[r]? = some q → G q = some (.lst (rowV n 0))) ⟨Same.refl _, [], rfl, rfl, .nil, (fun _ h => nomatch h), (fun r q h => by simp at h)⟩ (fun i zs G ⟨_, ts, e, lt, _⟩ => by rw [e, List.length_map, lt]; exact Nat.le_refl _) (fun i zs G hi q => ?_) (fun zs G q D hD => ?_)⟩
    · obtain ⟨sG, ts, rfl, lt, nd, fs, at'⟩ := q
      refine lcG ⟨(by show 1 ≤ sizeLine; decide), fun c hc => ⟨_, rfl, c, _, _, rfl, rfl, upd_same, by omega, by omega, (by rw [sizeLine_eq]; simp; omega), fun q hq => ?_⟩⟩
      rw [Int.toNat_natCast, rows0]
      have sc := Same.laid (o := .lst [.int 0]) hc
      have s3 := (sG.trans sc).step (o := .lst (rowV n 0)) hq
      have hqG : G q = none := sc.free hq
      refine ⟨s3, ts ++ [q], by simp, by rw [List.length_append, lt]; rfl, ?_, fun r hr => ?_, fun r u hu => ?_⟩
      · refine List.nodup_append.mpr ⟨nd, by simp, fun y hy z hz => ?_⟩
        rw [List.mem_singleton.mp hz]
        obtain ⟨r, hr, rfl⟩ := List.getElem_of_mem hy
        exact ne_of_none (at' r _ (List.getElem?_eq_getElem hr)) hqG
      · rcases List.mem_append.mp hr with h | h
        · exact fs r h
        · rw [List.mem_singleton.mp h]; exact sG.free hqG
      · by_cases c' : r < ts.length
        · rw [List.getElem?_append_left c'] at hu
          exact (Same.laid hq) _ _ (sc _ _ (at' r u hu))
        · rw [List.getElem?_append_right (by omega)] at hu
          have e0 : r - ts.length = 0 := by
            have := (List.getElem?_eq_some_iff.mp hu).1
            simp at this
            omega
          rw [e0] at hu
          cases hu
          exact upd_same
    obtain ⟨sG, ts, rfl, lt, nd, fs, at'⟩ := q
    have s3 := sG.step (o := .lst (ts.map V.ref)) hD
    have hD2 : G2 D = none := sG.free hD
    have tf : TF H b (upd G D (.lst (ts.map V.ref))) D n (fun _ => 0) ts := ⟨bag_same s3 bg2, fr2.trans s3.frm, ⟨upd_same, lt, fun r q e => (Same.laid hD) _ _ (at' r q e)⟩, nd, (fun h => by
      obtain ⟨r, hr, e⟩ := List.getElem_of_mem h
      have := at' r _ (List.getElem?_eq_getElem hr)
      rw [e, hD] at this
      cases this), fr2.free bg2 hD2, fun r hr => fr2.free bg2 (fs r hr)⟩
    have el3 := s3 _ _ el2
    have lD : l ≠ D := ne_of_none el2 hD2
    have lts : l ∉ ts := fun h => by have := fs l h; rw [el2] at this; cases this
    generalize upd G D (.lst (ts.map V.ref)) = G3 at *
    refine ⟨(by show 1 ≤ sizeLine; decide), fun c hc => ⟨_, rfl, c, _, _, rfl, rfl, upd_same, by omega, by omega, (by rw [sizeLine_eq]; simp; omega), fun pa hpa => ?_⟩⟩
    have erep : (List.replicate (n : Int).toNat [V.non]).flatten = pL n fun _ => none := by
      rw [Int.toNat_natCast, pL, List.flatten_replicate_singleton]
      refine (List.eq_replicate_iff.mpr ⟨by simp, fun b hb => ?_⟩).symm
      obtain ⟨_, _, rfl⟩ := List.mem_map.mp hb
      rfl
    rw [erep]
    have sc := Same.laid (o := .lst [.non]) hc
    have s4 := sc.step (o := .lst (pL n fun _ => none)) hpa
    have tf4 := tf.same s4
    have hp3 : G3 pa = none := sc.free hpa
    have ep4 : (upd (upd G3 c (.lst [.non])) pa (.lst (pL n fun _ => none))) pa = some (.lst (pL n fun _ => none)) := upd_same
    have el4 := s4 _ _ el3
    have plx : pa ≠ l := (ne_of_none el3 hp3).symm
    have pD : pa ≠ D := (ne_of_none tf.tb.1 hp3).symm
    have pts : pa ∉ ts := fun h => by
      obtain ⟨r, hr, e⟩ := List.getElem_of_mem h
      have := tf.tb.2.2 r _ (List.getElem?_eq_getElem hr)
      rw [e, hp3] at this
      cases this
    have fpa : H pa = none := tf.fr.free tf.bg hp3
    generalize upd (upd G3 c (.lst [.non])) pa (.lst (pL n fun _ => none)) = G4 at *
    dsimp only [gName, tSeq]
    refine while_by (fun σ G => ∃ (L : List Nat) (p : Nat → Option Nat) (v6 v7 : Option V), σ = [some (.ref b), some (.int 8), some (.ref l), some (.int (n : Nat)), some (.ref D), some (.ref pa), v6, v7] ∧ TF H b G D n (pT p) ts ∧ Pr n L p ∧ G l = some (.lst (nL L)) ∧ G pa = some (.lst (pL n p))) (fun _ G => match G l with
      | some (.lst xs) => xs.length
      | _ => 0) ?_ ?_ ?_
    · refine ⟨List.range n, fun _ => none, none, none, rfl, tf4, ⟨List.pairwise_lt_range, fun r hr => List.mem_range.mp hr, by rw [List.length_range]; omega, fun r hr => by simp [hr], fun r q _ e => nomatch e⟩, el4, ep4⟩
    · rintro σ G5 ⟨L, p, v6, v7, rfl, t5, pr, el5, ep5⟩
      refine ⟨_, rfl, (by show 0 ≤ sizeLine; decide), fun e he => ?_⟩
      have se := Same.laid (o := .lst []) he
      have t6 := t5.same se
      have el6 := se _ _ el5
      have ep6 := se _ _ ep5
      refine ⟨l, e, _, rfl, rfl, SqL.of el6, SqL.of upd_same, _, rfl, ?_⟩
      generalize upd G5 e (.lst []) = G6 at *
      cases L with
      | nil =>
        refine iteF ?_
        refine ⟨_, rfl, _, rfl, (by show 2 ≤ sizeLine; decide), fun tp htp => ?_⟩
        have st := Same.laid (o := .tup [.ref D, .ref pa]) htp
        exact k _ D pa tp n ts p (t6.same st) (pr.good n8) (st _ _ ep6) upd_same (t6.fr.free t6.bg htp) fpa
      | cons lo L =>
        refine iteT ?_
        have lb : l ≠ b := fun z => by obtain ⟨_, _, _, e⟩ := bg; rw [z, e] at fl; cases fl
        have pab : pa ≠ b := fun z => by obtain ⟨_, _, _, e⟩ := bg; rw [z, e] at fpa; cases fpa
        have odd := pr.ev
        rw [List.length_cons] at odd
        have L8 : L.length ≤ 8 := by
          have := asc_len n _ 0 pr.as (fun y hy => ⟨Nat.zero_le _, pr.lt y hy⟩) (Nat.zero_le _)
          rw [List.length_cons] at this
          omega
        refine ⟨_, rfl, .inl ⟨rfl, _, SqL.of el6⟩, l, _, 0, 0, V.int (lo : Nat), rfl, rfl, el6, by decide, by decide, seqIndex_of (by decide) (by simp [nL]), rfl, ?_⟩
        have e0 : (nL (lo :: L)).eraseIdx 0 = nL L := rfl
        rw [e0]
        have t7 := t6.other (o := .lst (nL L)) bg fl lD lts
        have el7 : upd G6 l (.lst (nL L)) l = some (.lst (nL L)) := upd_same
        have ep7 : upd G6 l (.lst (nL L)) pa = some (.lst (pL n p)) := by rw [upd_ne plx]; exact ep6
        generalize upd G6 l (.lst (nL L)) = G7 at *
        have lL : (nL L).length = L.length := by simp [nL]
        refine ⟨_, rfl, .inl ⟨rfl, _, SqL.of el7⟩, _, rfl, _, rfl, l, _, rfl, .inl (SqL.of el7), b, _, rfl, t7.bg, by omega, by omega, fun d2 G8 z0 z1 bg8 f8 => ?_⟩
        obtain ⟨kk, rfl⟩ := Int.eq_ofNat_of_zero_le z0
        have kL : kk < L.length := by omega
        obtain ⟨hi, hk⟩ : ∃ hi, L[kk]? = some hi := ⟨_, List.getElem?_eq_getElem kL⟩
        obtain ⟨lt', hin, pr'⟩ := pr.step hk
        have lon := pr.lt lo List.mem_cons_self
        have plo : p lo = none := (pr.left lo lon).mpr List.mem_cons_self
        have phi : p hi = none := (pr.left hi hin).mpr (List.mem_cons_of_mem _ (List.mem_of_getElem? hk))
        have t8 := t7.take bg f8 bg8
        have el8 := f8 _ _ el7 lb
        have ep8 := f8 _ _ ep7 pab
        have hk' : (nL L)[kk]? = some (V.int (hi : Nat)) := by unfold nL; rw [List.getElem?_map, hk]; rfl
        refine ⟨l, _, _, kk, _, rfl, rfl, el8, by omega, by omega, seqIndex_of (by omega) (by omega), hk', ?_⟩
        rw [nL_erase]
        have t9 := t8.other (o := .lst (nL (L.eraseIdx kk))) bg fl lD lts
        have el9 : upd G8 l (.lst (nL (L.eraseIdx kk))) l = some (.lst (nL (L.eraseIdx kk))) := upd_same
        have ep9 : upd G8 l (.lst (nL (L.eraseIdx kk))) pa = some (.lst (pL n p)) := by rw [upd_ne plx]; exact ep8
        generalize upd G8 l (.lst (nL (L.eraseIdx kk))) = G9 at *
        obtain ⟨ql, hql⟩ : ∃ q, ts[lo]? = some q := ⟨_, List.getElem?_eq_getElem (by omega)⟩
        have al : (ts.map V.ref)[lo]? = some (V.ref ql) := by rw [List.getElem?_map, hql]; rfl
        have eql := t9.tb.2.2 lo ql hql
        have pz : pT p lo = 0 := by unfold pT; rw [plo]
        rw [pz] at eql
        have mql := List.mem_of_getElem? hql
        refine ⟨_, rfl, _, rfl, D, _, _, _, rfl, rfl, SqL.of t9.tb.1, atI_nat al, _, rfl, ql, _, _, hi, rfl, rfl, eql, ixN_nat (by rw [rowV_len]; exact hin), ?_⟩
        rw [row_one hin]
        have t10 := (t9.put (v := 2 ^ hi) bg hql).congr fun r _ => pT_step lt' phi r
        have el10 : upd G9 ql (.lst (rowV n (2 ^ hi))) l = some (.lst (nL (L.eraseIdx kk))) := by rw [upd_ne (fun z => lts (by rw [z]; exact mql))]; exact el9
        have ep10 : upd G9 ql (.lst (rowV n (2 ^ hi))) pa = some (.lst (pL n p)) := by rw [upd_ne (fun z => pts (by rw [z]; exact mql))]; exact ep9
        generalize upd G9 ql (.lst (rowV n (2 ^ hi))) = G10 at *
        refine ⟨_, rfl, _, rfl, (by show 2 ≤ sizeLine; decide), fun tt htt => ?_⟩
        have st := Same.laid (o := .tup [.int (hi : Nat), .int (lo : Nat)]) htt
        have t11 := t10.same st
        have el11 := st _ _ el10
        have ep11 := st _ _ ep10
        refine ⟨tt, _, rfl, SqT.of upd_same, rfl, _, _, rfl, _, rfl, _, rfl, pa, _, _, lo, rfl, rfl, ep11, ixN_nat (by rw [pL_len]; exact lon), ?_⟩
        refine ⟨_, _, rfl, _, rfl, _, rfl, pa, _, _, hi, rfl, rfl, upd_same, ixN_nat (by rw [List.length_set, pL_len]; exact hin), rfl, ?_⟩
        rw [upd_upd]
        have e2 : ((pL n p).set lo (V.int (hi : Nat))).set hi (V.int (lo : Nat)) = pL n (put1 (put1 p lo (some hi)) hi (some lo)) := by
          have h1 := pL_set (n := n) (i := lo) p (some hi)
          have h2 := pL_set (n := n) (i := hi) (put1 p lo (some hi)) (some lo)
          rw [← h2, ← h1]
          rfl
        rw [e2]
        have el12 : (upd (upd G10 tt (.tup [.int (hi : Nat), .int (lo : Nat)])) pa (.lst (pL n (put1 (put1 p lo (some hi)) hi (some lo))))) l = some (.lst (nL (L.eraseIdx kk))) := by rw [upd_ne (Ne.symm plx)]; exact el11
        refine ⟨⟨L.eraseIdx kk, _, _, _, rfl, t11.other bg fpa pD pts, pr', el12, upd_same⟩, ?_⟩
        rw [el12, el5]
        show (nL (L.eraseIdx kk)).length < (nL (lo :: L)).length
        simp [nL, List.length_eraseIdx, kL]
        omega
    · rintro σ G5 Q1 Q2 m ⟨v, e1, hz, h⟩
      refine ⟨v, e1, hz, fun c hc => ?_⟩
      obtain ⟨p, q, xs, a1, a2, a3, a4, bb, a5, a6⟩ := h c hc
      exact ⟨p, q, xs, a1, a2, a3, a4, bb, a5, m _ _ a6⟩

end
end Qk27

namespace Qk27
open PySem L2 PyProof.Rows
section
variable {P : Program} {w : World} {K : PySem.W.Frag} {mg : Str → Option Value} {base : Heap}
theorem lc_copy {σ : L2.St} {G : Hp} {a : Addr} {n : Nat} {T : Nat → Nat} {rs : List Addr} {Q : VK} (tb : TabM G a n T rs) (hn : n ≤ 8) (h : ∀ (D : Addr) (ts : List Addr) (G' : Hp), Same G G' → TabM G' D n T ts → G D = none → ts.Nodup → D ∉ ts → (∀ r ∈ ts, G r = none) → Q (.ref D) G') :
    LcW (Itl K a) (capt 1 [] σ) (gName 0) tTrue (tCB (fun xs H Q => ∃ p ys, xs = [V.ref p] ∧ (SqL K H p ys ∨ SqT K H p ys) ∧ ∀ (l : Addr), H l = none → Q (V.ref l) (upd H l (HO.lst ys))) (tCons (tVar 0) tNil)) G Q := by
  obtain ⟨ea, la, er⟩ := id tb
  have lr : (rs.map V.ref).length = n := by rw [List.length_map, la]
  refine lc_list (K := K) (a := a) (xs := rs.map V.ref) (by rw [lr, sizeLine_eq]; omega) (fun i zs G1 => NR G G1 (fun r => rowV n (T r)) i zs) (NR.nil _ _) (fun _ _ _ x => x.len) (fun i zs G1 x => SqL.of (x.1 _ _ ea)) (fun i y zs G1 hy x => ?_) (fun zs G1 x D hD => ?_)
  · obtain ⟨p, hp, rfl⟩ := refs_get hy
    exact lcG ⟨_, rfl, p, _, rfl, .inl (SqL.of (x.1 _ _ (er i p hp))), fun q hq => x.step (Same.laid hq) hq upd_same⟩
  · rw [lr] at x
    obtain ⟨sD, fD, ts, rfl, lt, nd, nt, fr, eD, ets⟩ := x.done hD
    exact h D ts _ sD ⟨eD, lt, ets⟩ fD nd nt fr
end
end Qk27

namespace Qk27
open PySem L2 PyProof.Rows
section
variable {P : Program} {w : World} {K : PySem.W.Frag} {mg : Str → Option Value} {base : Heap}
def spCleared : Sp := fun vs H Q _ => ∃ (o r : Addr) (m v x at' : Nat), vs = [.ref o, .ref r, .int (at' : Nat)] ∧ H o = some (.lst (rowV m v)) ∧ H r = some (.lst (rowV m x)) ∧ m ≤ 8 ∧ at' < m ∧ ∀ (H' : Hp) (q : Addr), Same H H' → H' q = some (.lst (rowV m (clr x at' v))) → Q (.ref q) H'
abbrev s__law_cleared : Stmt := top 33
theorem sc__law_cleared : FnScope ["_law_other", "_law_row", "_law_at"] ["_law_other", "_law_row", "_law_at"] (defScope s__law_cleared) := ⟨rfl, rfl, rfl, by decide +kernel, rfl, by decide +kernel, by decide +kernel⟩
theorem ok_cleared {f : Addr} {fd : FuncData} (F : Fun K "_law_cleared" "_law_cleared" s__law_cleared f fd) (b_zip : mg "zip" = none) : FnOk P w K mg base CX0 1 f fd ["_law_other", "_law_row", "_law_at"] spCleared := by
  refine F.ok sc__law_cleared (fun vs H Q E h => ?_) (fun cdv A outer s H vs Q E hr h => ?_)
  · obtain ⟨o, r, m, v, x, at', rfl, _⟩ := h
    rfl
  · obtain ⟨o, r, m, v, x, at', rfl, eo, er, m8, hat, k⟩ := h
    refine ⟨_, (pss_cons (ps_if (pt_cmpR op_eq (pe_ix (ix_listK (K := K) rfl) (pv 0) (pv 2) (fun _ _ => rfl)) pe_int (nomark _)) (pss_one (ps_ret (pv 0))) pss_nil)
      (pss_one (ps_ret (pe_lc (Ls := ["_law_one", "_law_two"]) (Fs := []) (fi := []) (LcScope.of (show lcLook ["_law_other", "_law_row", "_law_at"] (defScope s__law_cleared) _ [] [] = true by decide +kernel)) rfl (pi_zipK (K := K) rfl (by rfl) b_zip (pa_cons (pv 0) (pa_cons (pv 1) pa_nil))) (fun cl C s3 H3 ex => ⟨(pg_tupK (K := K) (n := 2) rfl rfl (pgs_cons (pg_name (i := 0) (show ((["_law_one", "_law_two"] : List Str) ++ ([] : List Str)).Nodup by decide +kernel) rfl (Or.inl rfl)) (pgs_cons (pg_name (i := 1) (show ((["_law_one", "_law_two"] : List Str) ++ ([] : List Str)).Nodup by decide +kernel) rfl (Or.inl rfl)) pgs_nil))), pts_nil, (pe_op op_mod (pe_op op_add (pv 0) (pv 1)) pe_int)⟩))))), ?_⟩
    refine ⟨_, rfl, _, rfl, o, _, _, _, rfl, rfl, SqL.of eo, atI_nat (rowV_at hat), ?_⟩
    cases hb : v.testBit at' with
    | false =>
      refine ⟨rfl, _, rfl, iteT ?_⟩
      refine ⟨_, rfl, k H o (Same.refl _) ?_⟩
      unfold clr
      rw [hb, if_neg Bool.false_ne_true]
      exact eo
    | true =>
      refine ⟨rfl, _, rfl, iteF ?_⟩
      refine ⟨_, rfl, _, rfl, o, r, rfl, ⟨_, SqL.of eo⟩, ⟨_, SqL.of er⟩, lc_zipS (K := K) (xs := rowV m v) (ys := rowV m x) (by rw [rowV_len, sizeLine_eq]; omega) (by rw [rowV_len, rowV_len]; omega) (fun e zs G => Same H G ∧ zs = (rowV m (v ^^^ x)).take e) ⟨Same.refl _, rfl⟩ (fun e zs G ⟨_, z⟩ => by rw [z, List.length_take]; omega) (fun e zs G ⟨s5, _⟩ => ⟨SqL.of (s5 _ _ eo), SqL.of (s5 _ _ er)⟩) ?_ ?_⟩
      · rintro e y z p zs G5 hy hz ⟨s5, rfl⟩ hp
        obtain ⟨he, rfl⟩ := rowV_get hy
        obtain ⟨_, rfl⟩ := rowV_get hz
        refine ⟨p, _, rfl, SqT.of upd_same, rfl, _, _, rfl, _, _, rfl, rfl, ?_⟩
        refine lcT ⟨_, rfl, _, rfl, _, _, rfl, rfl, _, _, rfl, rfl, (by show (0 : Int) < 2; decide), s5.step hp, ?_⟩
        rw [List.take_add_one, rowV_at he]
        show _ ++ [V.int ((_ + _) % 2)] = _
        rw [xor_bit]
        rfl
      rintro zs G5 ⟨s5, rfl⟩ q hq
      rw [rowV_len, List.take_of_length_le (by rw [rowV_len]; exact Nat.le_refl _)]
      refine k _ q (s5.step hq) ?_
      unfold clr
      rw [hb, if_pos rfl]
      exact upd_same
def RowsAt (G : Hp) (rs : List Addr) (m : Nat) (L : List Nat) : Prop := rs.length = L.length ∧ ∀ (r : Nat) (p : Addr), rs[r]? = some p → ∃ v : Nat, L[r]? = some v ∧ G p = some (.lst (rowV m v))
theorem RowsAt.same {G G' : Hp} {rs : List Addr} {m : Nat} {L : List Nat} (s : Same G G') (x : RowsAt G rs m L) : RowsAt G' rs m L := ⟨x.1, fun r p e => let ⟨v, h1, h2⟩ := x.2 r p e; ⟨v, h1, s _ _ h2⟩⟩
def spRank : Sp := fun vs H Q _ => ∃ (a : Addr) (m : Nat) (L : List Nat) (rs : List Addr), vs = [.ref a] ∧ H a = some (.lst (rs.map V.ref)) ∧ RowsAt H rs m L ∧ L.length ≤ 8 ∧ m ≤ 8 ∧ (∀ v ∈ L, v < 2 ^ m) ∧ ∀ (H' : Hp) (f : Nat), Same H H' → Rk L f → Q (.int (f : Nat)) H'
theorem NR.rowsAt {H G : Hp} {m : Nat} {L : List Nat} {ts : List Addr} (l : ts.length = L.length) (h : ∀ (r : Nat) (q : Addr), ts[r]? = some q → G q = some (.lst (rowV m (L.getD r 0)))) : RowsAt G ts m L :=
  ⟨l, fun r p e => by
    have hr : r < L.length := by rw [← l]; exact (List.getElem?_eq_some_iff.mp e).1
    exact ⟨L.getD r 0, by simp [hr], h r p e⟩⟩
theorem RowsAt.put {G : Hp} {rs : List Addr} {m : Nat} {L : List Nat} {l : Addr} {o : HO} (x : RowsAt G rs m L) (h : l ∉ rs) : RowsAt (upd G l o) rs m L :=
  ⟨x.1, fun r p e => let ⟨v, h1, h2⟩ := x.2 r p e; ⟨v, h1, by rw [upd_ne (fun z => h (by rw [← z]; exact List.mem_of_getElem? e))]; exact h2⟩⟩
def muK : List (Option V) → Hp → Nat := fun σ G => match σ[1]? with
  | some (some (V.ref l)) => (match G l with
    | some (.lst xs) => xs.length
    | _ => 0)
  | _ => 0
theorem muK_of {x0 x2 x3 x4 : Option V} {G : Hp} {l : Addr} {xs : List V} (h : G l = some (.lst xs)) : muK [x0, some (.ref l), x2, x3, x4] G = xs.length := by
  show (match G l with
    | some (.lst xs) => xs.length
    | _ => 0) = _
  rw [h]
theorem any_row {m v : Nat} (hv : v < 2 ^ m) : ((brow m v).map (· != 0)).any id = decide (v ≠ 0) := by
  by_cases z : v = 0
  · subst z
    rw [decide_eq_false (by simp), List.any_eq_false]
    intro x hx
    obtain ⟨y, hy, rfl⟩ := List.mem_map.mp hx
    obtain ⟨j, _, rfl⟩ := List.mem_map.mp hy
    simp
  · rw [decide_eq_true z, List.any_eq_true]
    obtain ⟨j, hj⟩ := LB.ex z
    refine ⟨true, List.mem_map.mpr ⟨1, List.mem_map.mpr ⟨j, List.mem_range.mpr (hj.lt hv), by rw [hj.1]; rfl⟩, rfl⟩, rfl⟩
abbrev s__law_rank : Stmt := top 34
theorem sc__law_rank : FnScope ["_law_rows", "_law_left", "_law_found", "_law_row", "_law_at"] ["_law_rows"] (defScope s__law_rank) := ⟨rfl, rfl, rfl, by decide +kernel, rfl, by decide +kernel, by decide +kernel⟩
theorem ok_rank {f : Addr} {fd : FuncData} (F : Fun K "_law_rank" "_law_rank" s__law_rank f fd) (h__law_cleared : Has P w K mg base 1 "_law_cleared" ["_law_other", "_law_row", "_law_at"] spCleared) (b_list : mg "list" = none) (b_any : mg "any" = none) : FnOk P w K mg base CX0 2 f fd ["_law_rows"] spRank := by
  refine F.ok sc__law_rank (fun vs H Q E h => ?_) (fun cdv A outer s H vs Q E hr h => ?_)
  · obtain ⟨a, m, L, rs, rfl, _⟩ := h
    rfl
  · obtain ⟨a, m, L, rs, rfl, ea, ra, l8, m8, bd, k⟩ := h
    refine ⟨_, (pss_cons (ps_lc (i := 1) sc__law_rank.nd rfl (Or.inl rfl) (Ls := ["_law_row"]) (Fs := []) (fi := []) (LcScope.of (show lcLook ["_law_rows", "_law_left", "_law_found", "_law_row", "_law_at"] (defScope s__law_rank) _ [] [] = true by decide +kernel)) rfl (pi_listK (K := K) rfl (pv 0)) (fun cl C s3 H3 ex => ⟨(pg_name (i := 0) (show ((["_law_row"] : List Str) ++ ([] : List Str)).Nodup by decide +kernel) rfl (Or.inl rfl)), pts_nil, (pe_callTy (call_listK (K := K) rfl) (by rfl) b_list boot_list (pa_cons (pv 0) pa_nil))⟩))
      (pss_cons (ps_set (i := 2) sc__law_rank.nd rfl (Or.inl rfl) pe_int)
      (pss_cons (ps_while PassesOwn.never (pt_cmpR (op_neNilK (K := K) rfl hr.units) (pv 1) (pe_lst pa_nil) (nomark _)) (pss_cons (ps_set (i := 3) sc__law_rank.nd rfl (Or.inr rfl) (pe_bm0K (K := K) rfl (pe_bm0 PySem.F.plainAttrs_list PySem.F.slot_list_pop PySem.F.type_list_pop mt_pop (pv 1))))
      (pss_one (ps_if (pt_val (pe_callB (call_anyIK (K := K) rfl rfl) (by rfl) b_any boot_any (pa_cons (pv 3) pa_nil))) (pss_cons (ps_set (i := 2) sc__law_rank.nd rfl (Or.inl rfl) (pe_op op_add (pv 2) pe_int))
      (pss_cons (ps_set (i := 4) sc__law_rank.nd rfl (Or.inr rfl) (pe_bmK (K := K) rfl (pe_bm PySem.F.plainAttrs_list PySem.F.slot_list_index PySem.F.type_list_index (mt_indexK (K := K) rfl) (pv 3) (pa_cons pe_int pa_nil))))
      (pss_one (ps_lc (i := 1) sc__law_rank.nd rfl (Or.inl rfl) (Ls := ["_law_other"]) (Fs := ["_law_row", "_law_at"]) (fi := [3, 4]) (LcScope.of (show lcLook ["_law_rows", "_law_left", "_law_found", "_law_row", "_law_at"] (defScope s__law_rank) _ ["_law_row", "_law_at"] [3, 4] = true by decide +kernel)) rfl (pi_listK (K := K) rfl (pv 1)) (fun cl C s3 H3 ex => ⟨(pg_name (i := 0) (show ((["_law_other"] : List Str) ++ (["_law_row", "_law_at"] : List Str)).Nodup by decide +kernel) rfl (Or.inl rfl)), pts_nil, (pe_has h__law_cleared (hr.mono (by decide)) (pa_cons (pv 0) (pa_cons (pv 1) (pa_cons (pv 2) pa_nil))))⟩))))) pss_nil))))
      (pss_one (ps_ret (pv 2)))))), ?_⟩
    have lr : (rs.map V.ref).length = L.length := by rw [List.length_map, ra.1]
    refine ⟨_, rfl, a, rfl, ⟨_, SqL.of ea⟩, lc_list (K := K) (a := a) (xs := rs.map V.ref) (by rw [lr, sizeLine_eq]; omega) (fun i zs G1 => NR H G1 (fun r => rowV m (L.getD r 0)) i zs) (NR.nil _ _) (fun _ _ _ x => x.len) (fun i zs G1 x => SqL.of (x.1 _ _ ea)) (fun i y zs G1 hy x => ?_) (fun zs G1 x D hD => ?_)⟩
    · obtain ⟨p, hp, rfl⟩ := refs_get hy
      obtain ⟨v, hv, ep⟩ := ra.2 i p hp
      have e : L.getD i 0 = v := by simp [hv]
      exact lcG ⟨_, rfl, p, _, rfl, .inl (SqL.of (x.1 _ _ ep)), fun q hq => x.step (Same.laid hq) hq (by rw [e]; exact upd_same)⟩
    rw [lr] at x
    obtain ⟨sD, fD, ts, rfl, lt, _, nt, _, eD, ets⟩ := x.done hD
    have rD := NR.rowsAt (H := H) lt ets
    generalize upd G1 D (.lst (ts.map V.ref)) = G2 at *
    dsimp only [gName, tSeq]
    refine while_by (fun σ G => ∃ (l : Addr) (rs : List Addr) (L' : List Nat) (f : Nat) (v3 v4 : Option V), σ = [some (.ref a), some (.ref l), some (.int (f : Nat)), v3, v4] ∧ Same H G ∧ H l = none ∧ G l = some (.lst (rs.map V.ref)) ∧ RowsAt G rs m L' ∧ l ∉ rs ∧ L'.length ≤ 8 ∧ (∀ v ∈ L', v < 2 ^ m) ∧ RkI L f L') muK ?_ ?_ ?_
    · exact ⟨D, ts, L, 0, none, none, rfl, sD, fD, eD, rD, nt, l8, bd, RkI.start L⟩
    · rintro σ G ⟨l, rs, L', f', v3, v4, rfl, sG, fl, el, rl, nl, l8', bd', rk⟩
      refine ⟨_, rfl, (by show 0 ≤ sizeLine; decide), fun e he => ?_⟩
      have se := Same.laid (o := .lst []) he
      have sG2 := sG.trans se
      have el2 := se _ _ el
      have rl2 := rl.same se
      have mu0 : muK [some (.ref a), some (.ref l), some (.int (f' : Nat)), v3, v4] G = L'.length := by rw [muK_of el, List.length_map, rl.1]
      refine ⟨l, e, _, rfl, rfl, SqL.of el2, SqL.of upd_same, _, rfl, ?_⟩
      generalize upd G e (.lst []) = G3 at *
      rcases List.eq_nil_or_concat L' with rfl | ⟨M, v, rfl⟩
      · have r0 : rs = [] := List.length_eq_zero_iff.mp rl.1
        subst r0
        refine iteF ?_
        exact ⟨_, rfl, k G3 f' sG2 rk.done⟩
      · rw [List.concat_eq_append] at *
        have lM : rs.length = M.length + 1 := by rw [rl.1, List.length_append]; rfl
        have M8 : M.length + 1 ≤ 8 := by rw [List.length_append] at l8'; exact l8'
        rcases List.eq_nil_or_concat rs with rfl | ⟨qs, q, rfl⟩
        · simp at lM
        rw [List.concat_eq_append] at *
        have lq : qs.length = M.length := by rw [List.length_append] at lM; simpa using lM
        have hq : (qs ++ [q])[M.length]? = some q := by rw [List.getElem?_append_right (by omega)]; simp [lq]
        obtain ⟨v', hv', eq3⟩ := rl2.2 _ q hq
        have ev : v' = v := by
          rw [List.getElem?_append_right (Nat.le_refl _)] at hv'
          simpa using hv'.symm
        subst ev
        have rq3 : RowsAt G3 qs m M := ⟨lq, fun r p e => by
          have hr := (List.getElem?_eq_some_iff.mp e).1
          obtain ⟨u, h1, h2⟩ := rl2.2 r p (by rw [List.getElem?_append_left hr]; exact e)
          rw [List.getElem?_append_left (by omega)] at h1
          exact ⟨u, h1, h2⟩⟩
        rw [show (!(((qs ++ [q]).map V.ref).isEmpty)) = true by simp]
        refine iteT ?_
        have nlq : l ∉ qs := fun h => nl (List.mem_append_left _ h)
        have nq : q ≠ l := fun z => nl (by rw [← z]; simp)
        refine ⟨_, rfl, .inl ⟨rfl, _, SqL.of el2⟩, l, _, V.ref q, rfl, rfl, el2, (by rw [List.length_map, List.length_append, List.getElem?_map]; show Option.map V.ref ((qs ++ [q])[qs.length + 1 - 1]?) = _; rw [show qs.length + 1 - 1 = M.length by omega, hq]; rfl), ?_⟩
        rw [show ((qs ++ [q]).map V.ref).dropLast = qs.map V.ref by simp]
        have hv : v' < 2 ^ m := bd' v' (by simp)
        have s4 : Same H (upd G3 l (.lst (qs.map V.ref))) := fun c o e => by rw [upd_ne (ne_of_none e fl)]; exact sG2 c o e
        have el4 : upd G3 l (.lst (qs.map V.ref)) l = some (.lst (qs.map V.ref)) := upd_same
        have eq4 : upd G3 l (.lst (qs.map V.ref)) q = some (.lst (rowV m v')) := by rw [upd_ne nq]; exact eq3
        have rq4 : RowsAt (upd G3 l (.lst (qs.map V.ref))) qs m M := rq3.put nlq
        generalize upd G3 l (.lst (qs.map V.ref)) = G4 at *
        refine ⟨_, rfl, q, brow m v', rfl, SqL.of eq4, _, rfl, ?_⟩
        rw [any_row hv]
        by_cases z : v' = 0
        · rw [decide_eq_false (by simp [z])]
          refine iteF ⟨⟨l, qs, M, f', _, _, rfl, s4, fl, el4, rq4, nlq, by omega, fun u hu => bd' u (List.mem_append_left _ hu), ?_⟩, ?_⟩
          · rw [z] at rk; exact rk.skip
          · refine Nat.lt_of_le_of_lt (Nat.le_of_eq (muK_of el4)) ?_
            rw [mu0, List.length_map, List.length_append, lq]; exact Nat.lt_succ_self _
        · rw [decide_eq_true z]
          refine iteT ?_
          obtain ⟨j, hj⟩ := LB.ex z
          have jm := hj.lt hv
          refine ⟨_, rfl, _, _, rfl, rfl, ?_⟩
          refine ⟨_, rfl, .inl ⟨rfl, _, SqL.of eq4⟩, q, _, _, j, rfl, rfl, SqL.of eq4, rfl, (List.all_eq_true.mpr fun x hx => by
            obtain ⟨i, hi, rfl⟩ := List.getElem_of_mem hx
            obtain ⟨_, e⟩ := rowV_get (List.getElem?_eq_getElem hi)
            rw [e]; rfl), by omega, ⟨_, rowV_at jm, by rw [hj.1]; rfl⟩, (fun i x hi hx => by
            obtain ⟨_, rfl⟩ := rowV_get hx
            rw [hj.2 i hi]; rfl), ?_⟩
          have lqr : (qs.map V.ref).length = M.length := by rw [List.length_map, lq]
          refine ⟨_, rfl, l, rfl, ⟨_, SqL.of el4⟩, lc_list (K := K) (a := l) (xs := qs.map V.ref) (by rw [lqr, sizeLine_eq]; omega) (fun i zs G => Same G4 G ∧ ∃ us : List Addr, zs = us.map V.ref ∧ us.length = i ∧ ∀ (r : Nat) (p : Addr), us[r]? = some p → G p = some (.lst (rowV m (clr v' j (M.getD r 0))))) ⟨Same.refl _, [], rfl, rfl, fun r p e => by simp at e⟩ (fun i zs G ⟨_, us, e, l, _⟩ => by rw [e, List.length_map, l]; exact Nat.le_refl _) (fun i zs G x => SqL.of (x.1 _ _ el4)) (fun i y zs G5 hy x => ?_) (fun zs G5 x E hE => ?_)⟩
          · obtain ⟨s5, us, rfl, lu, hu⟩ := x
            obtain ⟨p, hp, rfl⟩ := refs_get hy
            obtain ⟨w', hw, ep⟩ := rq4.2 i p hp
            have e : M.getD i 0 = w' := by simp [hw]
            refine lcG ⟨_, rfl, _, rfl, _, rfl, p, q, m, w', v', j, rfl, s5 _ _ ep, s5 _ _ eq4, m8, jm, fun G6 q2 s6 e6 => ⟨s5.trans s6, us ++ [q2], by simp, by rw [List.length_append, lu]; rfl, fun r u hr => ?_⟩⟩
            by_cases c : r < us.length
            · rw [List.getElem?_append_left c] at hr
              exact s6 _ _ (hu r u hr)
            · rw [List.getElem?_append_right (by omega)] at hr
              have e0 : r - us.length = 0 := by
                have := (List.getElem?_eq_some_iff.mp hr).1
                simp at this
                omega
              rw [e0] at hr
              cases hr
              rw [show r = i by omega, e]
              exact e6
          · obtain ⟨s5, us, rfl, lu, hu⟩ := x
            rw [lqr] at lu
            have E4 : G4 E = none := s5.free hE
            have nE : E ∉ us := fun h => by
              obtain ⟨r, hr, e⟩ := List.getElem_of_mem h
              have := hu r _ (List.getElem?_eq_getElem hr)
              rw [e, hE] at this
              cases this
            have rE : RowsAt (upd G5 E (.lst (us.map V.ref))) us m (M.map (clr v' j)) := ⟨by rw [List.length_map, lu], fun r p e => by
              have hr : r < M.length := by rw [← lu]; exact (List.getElem?_eq_some_iff.mp e).1
              refine ⟨clr v' j (M.getD r 0), by simp [hr], ?_⟩
              exact (Same.laid hE) _ _ (hu r p e)⟩
            have eE : upd G5 E (.lst (us.map V.ref)) E = some (.lst (us.map V.ref)) := upd_same
            refine ⟨⟨E, us, M.map (clr v' j), f' + 1, _, _, rfl, s4.trans (s5.step hE), s4.free E4, eE, rE, nE, by rw [List.length_map]; omega, fun u hu => ?_, rk.step hj⟩, ?_⟩
            · obtain ⟨y, hy, rfl⟩ := List.mem_map.mp hu
              have by' := bd' y (List.mem_append_left _ hy)
              unfold clr
              split
              · exact Nat.xor_lt_two_pow by' hv
              · exact by'
            · refine Nat.lt_of_le_of_lt (Nat.le_of_eq (muK_of eE)) ?_
              rw [mu0, List.length_map, List.length_append, lu]; exact Nat.lt_succ_self _
    · rintro σ G5 Q1 Q2 m ⟨v, e1, hz, h⟩
      refine ⟨v, e1, hz, fun c hc => ?_⟩
      obtain ⟨p, q, xs, a1, a2, a3, a4, bb, a5, a6⟩ := h c hc
      exact ⟨p, q, xs, a1, a2, a3, a4, bb, a5, m _ _ a6⟩

end
end Qk27

namespace Qk27
open PySem L2 PyProof.Rows
section
variable {P : Program} {w : World} {K : PySem.W.Frag} {mg : Str → Option Value} {base : Heap}
def spProd : Sp := fun vs H Q _ => ∃ (a b : Addr) (n : Nat) (A B : Nat → Nat) (ra rb : List Addr), vs = [.ref a, .ref b] ∧ TabM H a n A ra ∧ TabM H b n B rb ∧ n ≤ 8 ∧
  ∀ (H' : Hp) (t : Addr) (ts : List Addr), Same H H' → TabM H' t n (fun r => mulT B n (A r)) ts → Q (.ref t) H'
theorem cmul_bit (a b : Bool) : CMul ((a.toNat : Nat) : Int) ((b.toNat : Nat) : Int) := .inl (by cases a <;> decide)
abbrev s__law_product : Stmt := top 37
theorem sc__law_product : FnScope ["_law_one", "_law_other", "_law_columns"] ["_law_one", "_law_other"] (defScope s__law_product) := ⟨rfl, rfl, rfl, by decide +kernel, rfl, by decide +kernel, by decide +kernel⟩
theorem ok_product {f : Addr} {fd : FuncData} (F : Fun K "_law_product" "_law_product" s__law_product f fd) (b_len : mg "len" = none) (b_range : mg "range" = none) (b_sum : mg "sum" = none) (b_zip : mg "zip" = none) : FnOk P w K mg base CX0 1 f fd ["_law_one", "_law_other"] spProd := by
  refine F.ok sc__law_product (fun vs H Q E h => ?_) (fun cdv A outer s H vs Q E hr h => ?_)
  · obtain ⟨a, b, n, A, B, ra, rb, rfl, _⟩ := h
    rfl
  · obtain ⟨a, b, n, A, B, ra, rb, rfl, ta, tb, hn, k⟩ := h
    refine ⟨_, (pss_cons (ps_set (i := 2) sc__law_product.nd rfl (Or.inr rfl) (pe_lcC (Ls := ["_law_j"]) (Fs := ["_law_other"]) (fi := [1]) (LcScopeC.of (show lcLookC ["_law_one", "_law_other", "_law_columns"] (defScope s__law_product) _ ["_law_other"] [1] = true by decide +kernel)) rfl (pi_range1 (by rfl) b_range (pa_cons (pe_callB (call_lenK (K := K) rfl) (by rfl) b_len PySem.boot_len (pa_cons (pv 1) pa_nil)) pa_nil)) (fun cl C s3 H3 ex => ⟨(pg_name (i := 0) (show ((["_law_j"] : List Str) ++ (["_law_other"] : List Str)).Nodup by decide +kernel) rfl (Or.inr rfl)), pts_nil, (pe_lc (Ls := ["_law_row"]) (Fs := ["_law_j"]) (fi := [0]) (LcScope.of (by rfl)) rfl (pi_listK (K := K) rfl (pv 1)) (fun cl C s3 H3 ex => ⟨(pg_name (i := 0) (show ((["_law_row"] : List Str) ++ (["_law_j"] : List Str)).Nodup by decide +kernel) rfl (Or.inl rfl)), pts_nil, (pe_ix (ix_listK (K := K) rfl) (pv 0) (pv 1) (fun _ _ => rfl))⟩))⟩)))
      (pss_one (ps_ret (pe_lcC (Ls := ["_law_row"]) (Fs := ["_law_columns"]) (fi := [2]) (LcScopeC.of (show lcLookC ["_law_one", "_law_other", "_law_columns"] (defScope s__law_product) _ ["_law_columns"] [2] = true by decide +kernel)) rfl (pi_listK (K := K) rfl (pv 0)) (fun cl C s3 H3 ex => ⟨(pg_name (i := 0) (show ((["_law_row"] : List Str) ++ (["_law_columns"] : List Str)).Nodup by decide +kernel) rfl (Or.inr rfl)), pts_nil, (pe_lc (Ls := ["_law_column"]) (Fs := ["_law_row"]) (fi := [0]) (LcScope.of (by rfl)) rfl (pi_listK (K := K) rfl (pv 1)) (fun cl C s3 H3 ex => ⟨(pg_name (i := 0) (show ((["_law_column"] : List Str) ++ (["_law_row"] : List Str)).Nodup by decide +kernel) rfl (Or.inl rfl)), pts_nil, (pe_op op_mod (pe_callB (call_sumK (K := K) rfl rfl) (by rfl) b_sum boot_sum (pa_cons (pe_lc (Ls := ["_law_here", "_law_there"]) (Fs := []) (fi := []) (LcScope.of (by rfl)) rfl (pi_zipK (K := K) rfl (by rfl) b_zip (pa_cons (pv 1) (pa_cons (pv 0) pa_nil))) (fun cl C s3 H3 ex => ⟨(pg_tupK (K := K) (n := 2) rfl rfl (pgs_cons (pg_name (i := 0) (show ((["_law_here", "_law_there"] : List Str) ++ ([] : List Str)).Nodup by decide +kernel) rfl (Or.inl rfl)) (pgs_cons (pg_name (i := 1) (show ((["_law_here", "_law_there"] : List Str) ++ ([] : List Str)).Nodup by decide +kernel) rfl (Or.inl rfl)) pgs_nil))), pts_nil, (pe_op op_mul (pv 0) (pv 1))⟩)) pa_nil)) pe_int)⟩))⟩))))), ?_⟩
    obtain ⟨ea, la, era⟩ := id ta
    obtain ⟨eb, lb, erb⟩ := id tb
    have lra : (ra.map V.ref).length = n := by rw [List.length_map, la]
    have lrb : (rb.map V.ref).length = n := by rw [List.length_map, lb]
    refine ⟨_, rfl, b, _, rfl, .inl (SqL.of eb), _, rfl, ?_, ?_, lc_rng (lo := 0) ?_ (fun i zs G => NR H G (fun j => tabV n fun r => ((((B r).testBit j).toNat : Nat) : Int)) i zs) (NR.nil _ _) (fun _ _ _ x => x.len) (fun j zs G hj x => ?_) (fun zs G x D hD => ?_)⟩
    · omega
    · rw [lrb]; omega
    · rw [lrb, sizeLine_eq]; omega
    · rw [lrb] at hj
      have sG := x.1
      refine lcG ⟨_, rfl, b, rfl, ⟨_, SqL.of (sG _ _ eb)⟩, lc_list (K := K) (a := b) (xs := rb.map V.ref) (by rw [lrb, sizeLine_eq]; omega) (fun r ys G1 => Same G G1 ∧ ys = (tabV n fun r => ((((B r).testBit j).toNat : Nat) : Int)).take r) ⟨Same.refl _, rfl⟩ (fun r ys G1 p => by rw [p.2, List.length_take]; omega) (fun r ys G1 p => SqL.of (p.1 _ _ (sG _ _ eb))) (fun r y ys G1 hy p => ?_) (fun ys G1 p c hc => ?_)⟩
      · obtain ⟨s1, rfl⟩ := p
        obtain ⟨q, hq, rfl⟩ := refs_get hy
        have hr : r < n := by rw [← lb]; exact (List.getElem?_eq_some_iff.mp hq).1
        refine lcG ⟨_, rfl, _, rfl, q, _, _, _, rfl, rfl, SqL.of (s1 _ _ (sG _ _ (erb r q hq))), (by rw [show (0 : Int) + (j : Int) = ((j : Nat) : Int) by omega]; exact atI_nat (rowV_at hj)), s1, ?_⟩
        exact tabV_snoc (fun r => ((((B r).testBit j).toNat : Nat) : Int)) hr
      · obtain ⟨s1, rfl⟩ := p
        rw [lrb, tabV_all]
        exact x.step (s1.step hc) (s1.free hc) upd_same
    rw [lrb, Int.toNat_natCast] at x
    obtain ⟨sD, fD, cs, rfl, lc, _, _, _, eD, ecs⟩ := x.done hD
    generalize upd G D (.lst (cs.map V.ref)) = G1 at *
    have lrc : (cs.map V.ref).length = n := by rw [List.length_map, lc]
    refine ⟨_, rfl, a, rfl, ⟨_, SqL.of (sD _ _ ea)⟩, lc_list (K := K) (a := a) (xs := ra.map V.ref) (by rw [lra, sizeLine_eq]; omega) (fun i zs G => NR G1 G (fun i => rowV n (mulT B n (A i))) i zs) (NR.nil _ _) (fun _ _ _ x => x.len) (fun i zs G x => SqL.of (x.1 _ _ (sD _ _ ea))) (fun i y zs G2 hy x => ?_) (fun zs G2 x T hT => ?_)⟩
    · obtain ⟨q, hq, rfl⟩ := refs_get hy
      have s2 := x.1
      refine lcG ⟨_, rfl, D, rfl, ⟨_, SqL.of (s2 _ _ eD)⟩, lc_list (K := K) (a := D) (xs := cs.map V.ref) (by rw [lrc, sizeLine_eq]; omega) (fun j ys G3 => Same G2 G3 ∧ ys = (rowV n (mulT B n (A i))).take j) ⟨Same.refl _, rfl⟩ (fun r ys G1 p => by rw [p.2, List.length_take]; omega) (fun r ys G3 p => SqL.of (p.1 _ _ (s2 _ _ eD))) (fun j y ys G3 hy p => ?_) (fun ys G3 p c hc => ?_)⟩
      · obtain ⟨s3, rfl⟩ := p
        obtain ⟨u, hu, rfl⟩ := refs_get hy
        have hj : j < n := by rw [← lc]; exact (List.getElem?_eq_some_iff.mp hu).1
        have eq3 := s3 _ _ (s2 _ _ (sD _ _ (era i q hq)))
        have eu3 := s3 _ _ (s2 _ _ (ecs j u hu))
        refine lcG ⟨_, rfl, _, rfl, q, u, rfl, ⟨_, SqL.of eq3⟩, ⟨_, SqL.of eu3⟩, lc_zipS (K := K) (xs := rowV n (A i)) (ys := tabV n fun r => ((((B r).testBit j).toNat : Nat) : Int)) (by rw [tabV_len, sizeLine_eq]; omega) (by rw [rowV_len, tabV_len]; exact Nat.le_refl _) (fun e zs G => Same G3 G ∧ zs = (tabV n fun r => ((((A i).testBit r).toNat : Nat) : Int) * ((((B r).testBit j).toNat : Nat) : Int)).take e) ⟨Same.refl _, rfl⟩ (fun e zs G ⟨_, z⟩ => by rw [z, List.length_take]; omega) (fun e zs G ⟨s5, _⟩ => ⟨SqL.of (s5 _ _ eq3), SqL.of (s5 _ _ eu3)⟩) ?_ ?_⟩
        · rintro e x y p zs G5 hx hy ⟨s5, rfl⟩ hp
          obtain ⟨he, rfl⟩ := rowV_get hx
          obtain ⟨_, rfl⟩ := tabV_get hy
          refine ⟨p, _, rfl, SqT.of upd_same, rfl, _, _, rfl, _, _, rfl, rfl, ?_⟩
          refine lcT ⟨_, rfl, _, rfl, _, _, rfl, rfl, ?_, s5.step hp, ?_⟩
          · exact cmul_bit _ _
          · exact tabV_snoc (fun r => ((((A i).testBit r).toNat : Nat) : Int) * ((((B r).testBit j).toNat : Nat) : Int)) he
        rintro zs G5 ⟨s5, rfl⟩ d hd
        rw [tabV_len, tabV_all]
        refine ⟨d, _, rfl, SqL.of upd_same, _, _, rfl, rfl, (by show (0 : Int) < 2; decide), s3.trans (s5.step hd), ?_⟩
        rw [dotP_sum, List.take_add_one, rowV_at hj]
        show _ ++ [V.int ((dotP B (A i) j n : Int) % 2)] = _ ++ [V.int _]
        rw [← dotP_bit]
        rfl
      · obtain ⟨s3, rfl⟩ := p
        rw [lrc, List.take_of_length_le (by rw [rowV_len]; exact Nat.le_refl _)]
        exact x.step (s3.step hc) (s3.free hc) upd_same
    · rw [lra] at x
      obtain ⟨sT, fT, ts, rfl, lt, _, _, _, eT, ets⟩ := x.done hT
      exact k _ T ts (sD.trans sT) ⟨eT, lt, ets⟩

end
end Qk27

namespace Qk27
open PySem L2 PyProof.Rows
section
variable {P : Program} {w : World} {K : PySem.W.Frag} {mg : Str → Option Value} {base : Heap}
theorem mulT_lt {T : Nat → Nat} {n : Nat} (bd : ∀ r, r < n → T r < 2 ^ n) (v : Nat) : ∀ m, m ≤ n → mulT T m v < 2 ^ n
  | 0, _ => Nat.two_pow_pos n
  | m + 1, hm => by
    show (if v.testBit m = true then T m else 0) ^^^ mulT T m v < 2 ^ n
    refine Nat.xor_lt_two_pow ?_ (mulT_lt bd v m (by omega))
    split
    · exact bd m (by omega)
    · exact Nat.two_pow_pos n
theorem any_take {n v i : Nat} (h : i < n) : (((brow n v).take (i + 1)).map (· != 0)).any id = !(hiB n v i) := by
  cases e : hiB n v i with
  | true =>
    have := (hiB_iff h).mp e
    rw [Bool.not_true, List.any_eq_false]
    intro x hx
    obtain ⟨y, hy, rfl⟩ := List.mem_map.mp hx
    obtain ⟨j, hj, rfl⟩ := List.getElem_of_mem hy
    rw [List.length_take, brow_len] at hj
    have e2 : ((brow n v).take (i + 1))[j]? = some ((((v.testBit j).toNat : Nat) : Int)) := by rw [List.getElem?_take_of_lt (by omega), brow_at (by omega)]
    have := (List.getElem?_eq_some_iff.mp e2).2
    rw [this, ‹∀ k, k ≤ i → v.testBit k = false› j (by omega)]
    decide
  | false =>
    have : ∃ k, k ≤ i ∧ v.testBit k = true := Classical.byContradiction fun z => by
      have : hiB n v i = true := (hiB_iff h).mpr fun k hk => by
        cases b : v.testBit k with
        | false => rfl
        | true => exact absurd ⟨k, hk, b⟩ z
      rw [this] at e
      cases e
    obtain ⟨k, hk, b⟩ := this
    rw [Bool.not_false, List.any_eq_true]
    refine ⟨true, List.mem_map.mpr ⟨1, List.mem_of_getElem? (i := k) ?_, rfl⟩, rfl⟩
    rw [List.getElem?_take_of_lt (by omega), brow_at (by omega), b]
    rfl
theorem maskT_at {ls : List Lit} {i : Nat} {l : Lit} (h : ls[i]? = some l) : maskT ls i = maskR l := by unfold maskT; rw [h]; rfl
theorem shape_of {ls : List Lit} (h8 : ls.length ≤ 8) (h : ∀ (i : Nat) (l : Lit), ls[i]? = some l → bitsL ls.length l = true) : shapeL (.lst ls) = true := by
  simp only [shapeL, Bool.and_eq_true, decide_eq_true_eq, List.all_eq_true]
  refine ⟨h8, fun x hx => ?_⟩
  obtain ⟨i, hi, rfl⟩ := List.getElem_of_mem hx
  exact h i _ (List.getElem?_eq_getElem hi)
theorem good_row {ls : List Lit} {i : Nat} {l : Lit} (g : GoodL (.lst ls)) (h : ls[i]? = some l) : bitsL ls.length l = true ∧ ∀ k, k ≤ i → (maskR l).testBit k = false := by
  have hi := (List.getElem?_eq_some_iff.mp h).1
  have sh := g.1
  simp only [shapeL, Bool.and_eq_true, decide_eq_true_eq, List.all_eq_true] at sh
  refine ⟨sh.2 l (List.mem_of_getElem? h), ?_⟩
  rw [← maskT_at h]
  exact (g.2.1 i hi).2
abbrev s__law_is_table : Stmt := top 38
theorem sc__law_is_table : FnScope ["_law_thing", "_law_i", "_law_row"] ["_law_thing"] (defScope s__law_is_table) := ⟨rfl, rfl, rfl, by decide +kernel, rfl, by decide +kernel, by decide +kernel⟩
theorem ok_lIsTab {f : Addr} {fd : FuncData} (F : Fun K "_law_is_table" "_law_is_table" s__law_is_table f fd) (h__law_numbers : Has P w K mg base 2 "_law_numbers" ["_law_thing"] spNumsG) (h__law_product : Has P w K mg base 1 "_law_product" ["_law_one", "_law_other"] spProd) (h__law_rank : Has P w K mg base 2 "_law_rank" ["_law_rows"] spRank)
    (b_isinstance : mg "isinstance" = none) (b_list : mg "list" = none) (b_len : mg "len" = none) (b_all : mg "all" = none) (b_any : mg "any" = none) (b_enumerate : mg "enumerate" = none) : FnOk P w K mg base CX0 3 f fd ["_law_thing"] spIsTabG := by
  refine F.ok sc__law_is_table (fun vs H Q E h => ?_) (fun cdv A outer s H vs Q E hr h => ?_)
  · obtain ⟨v, l, rfl, _⟩ := h
    rfl
  · obtain ⟨v, l, rfl, r, ok, k⟩ := h
    refine ⟨_, (pss_cons (ps_if (PW.pt (pw_or (pt_not (pt_val (pe_callB (call_isinstK (K := K) rfl) (by rfl) b_isinstance boot_isinstance (pa_cons (pv 0) (pa_cons (pe_bltn (v := .ty "list") (by rfl) b_list boot_list rfl) pa_nil))))) (pw_or1 (pt_cmpR op_gt (pe_callB (call_lenK (K := K) rfl) (by rfl) b_len PySem.boot_len (pa_cons (pv 0) pa_nil)) pe_int (nomark _))))) (pss_one (ps_ret pe_bl)) pss_nil)
      (pss_cons (ps_for PassesOwn.never rfl (pi_enumK (K := K) rfl (by rfl) b_enumerate (pa_cons (pv 0) pa_nil)) (pg_tupK (K := K) (n := 2) rfl rfl (pgs_cons (pg_name (i := 1) sc__law_is_table.nd rfl (Or.inl rfl)) (pgs_cons (pg_name (i := 2) sc__law_is_table.nd rfl (Or.inl rfl)) pgs_nil))) (pss_cons (ps_if (PW.pt (pw_or (pt_not (pt_val (pe_has h__law_numbers (hr.mono (by decide)) (pa_cons (pv 2) pa_nil)))) (pw_or (pt_cmpR op_ne (pe_callB (call_lenK (K := K) rfl) (by rfl) b_len PySem.boot_len (pa_cons (pv 2) pa_nil)) (pe_callB (call_lenK (K := K) rfl) (by rfl) b_len PySem.boot_len (pa_cons (pv 0) pa_nil)) (nomark _)) (pw_or1 (pt_not (pt_val (pe_callB (call_allK (K := K) rfl rfl) (by rfl) b_all boot_all (pa_cons (pe_lc (Ls := ["_law_one"]) (Fs := []) (fi := []) (LcScope.of (show lcLook ["_law_thing", "_law_i", "_law_row"] (defScope s__law_is_table) _ [] [] = true by decide +kernel)) rfl (pi_listK (K := K) rfl (pv 2)) (fun cl C s3 H3 ex => ⟨(pg_name (i := 0) (show ((["_law_one"] : List Str) ++ ([] : List Str)).Nodup by decide +kernel) rfl (Or.inl rfl)), pts_nil, (pe_cmpR (op_in_seqK (K := K) rfl) (pv 0) (pe_lst (pa_cons pe_int (pa_cons pe_int pa_nil))) rfl)⟩)) pa_nil)))))))) (pss_one (ps_ret pe_bl)) pss_nil)
      (pss_one (ps_if (pt_val (pe_callB (call_anyUK (K := K) rfl rfl) (by rfl) b_any boot_any (pa_cons (pe_slice (sl_listK (K := K) rfl) (pv 2) po_none (po_some (pe_op op_add (pv 1) pe_int))) pa_nil))) (pss_one (ps_ret pe_bl)) pss_nil))))
      (pss_cons (ps_if (pt_val (pe_callB (call_anyUK (K := K) rfl rfl) (by rfl) b_any boot_any (pa_cons (pe_lc (Ls := ["_law_row"]) (Fs := []) (fi := []) (LcScope.of (show lcLook ["_law_thing", "_law_i", "_law_row"] (defScope s__law_is_table) _ [] [] = true by decide +kernel)) rfl (pi_listK (K := K) rfl (pe_has h__law_product (hr.mono (by decide)) (pa_cons (pv 0) (pa_cons (pv 0) pa_nil)))) (fun cl C s3 H3 ex => ⟨(pg_name (i := 0) (show ((["_law_row"] : List Str) ++ ([] : List Str)).Nodup by decide +kernel) rfl (Or.inl rfl)), pts_nil, (pe_callB (call_anyUK (K := K) rfl rfl) (by rfl) b_any boot_any (pa_cons (pv 0) pa_nil))⟩)) pa_nil))) (pss_one (ps_ret pe_bl)) pss_nil)
      (pss_one (ps_ret (pe_cmpR op_eq (pe_op op_mul pe_int (pe_has h__law_rank (hr.mono (by decide)) (pa_cons (pv 0) pa_nil))) (pe_callB (call_lenK (K := K) rfl) (by rfl) b_len PySem.boot_len (pa_cons (pv 0) pa_nil)) (nomark _))))))), ?_⟩
    rcases rep_cases (K := K) r with ⟨a, xs, ls, rfl, rfl, ea, rs⟩ | ⟨t, ty, kt, nl⟩
    rotate_left
    · refine ⟨_, rfl, _, "list", _, false, rfl, ty, kt, false, rfl, iteT (k false H (Same.refl _) ⟨fun h => (nomatch h), fun h => ?_⟩)⟩
      cases l with
      | lst ls => exact absurd rfl (nl ls)
      | _ => exact h.elim
    obtain ⟨l20, okr⟩ := okL_lst ok
    have lx := rs.len
    refine ⟨_, rfl, _, "list", _, true, rfl, .lst ea, by rfl, true, rfl, iteF ?_⟩
    refine ⟨_, rfl, a, _, rfl, .inl (SqL.of ea), _, _, rfl, rfl, _, rfl, ?_⟩
    by_cases l8 : ls.length ≤ 8
    rotate_left
    · rw [lx, decide_eq_true (show ((8 : Int) < (ls.length : Int)) by omega)]
      refine iteT (k false H (Same.refl _) ⟨fun h => (nomatch h), fun h => ?_⟩)
      have sh := h.1
      simp only [shapeL, Bool.and_eq_true, decide_eq_true_eq] at sh
      omega
    rw [lx, decide_eq_false (show ¬ ((8 : Int) < (ls.length : Int)) by omega)]
    refine iteF ?_
    refine ⟨_, rfl, a, rfl, ⟨_, SqL.of ea⟩, for_enm (K := K) (a := a) (xs := xs) (fun i σ G => ∃ v1 v2 : Option V, σ = [some (.ref a), v1, v2] ∧ Same H G ∧ ∀ (r : Nat) (l : Lit), r < i → ls[r]? = some l → bitsL ls.length l = true ∧ ∀ k, k ≤ r → (maskR l).testBit k = false) ⟨_, _, rfl, Same.refl _, fun r l hr => absurd hr (Nat.not_lt_zero _)⟩ (fun i σ G _ ⟨_, _, _, s, _⟩ => SqL.of (s _ _ ea)) ?_ ?_⟩
    · rintro i x p σ G hx ⟨v1, v2, rfl, sG, ih⟩ hp
      obtain ⟨l', hl, rl0⟩ := rs.get hx
      have hin : i < ls.length := (List.getElem?_eq_some_iff.mp hl).1
      have s1 := sG.step (o := .tup [.int i, x]) hp
      refine ⟨p, _, rfl, SqT.of upd_same, rfl, _, _, rfl, _, _, rfl, rfl, ?_⟩
      generalize upd G p (.tup [.int i, x]) = G1 at *
      have no : bitsL ls.length l' = false → GoodL (.lst ls) → false = true := fun z g => by
        rw [(good_row g hl).1] at z
        cases z
      refine ⟨_, rfl, x, l', rfl, rl0.same s1, okL_mono (by decide) (okr _ (List.mem_of_getElem? hl)), fun G2 s2 => ⟨_, rfl, ?_⟩⟩
      have s12 := s1.trans s2
      have rl := rl0.same s12
      cases nu : numsL l' with
      | false =>
        refine iteT (k false G2 s12 ⟨fun h => (nomatch h), no ?_⟩)
        cases l' with
        | lst bs =>
          simp only [bitsL]
          have : bs.all bitL = false := by
            rw [List.all_eq_false]
            obtain ⟨y, hy, w⟩ := List.all_eq_false.mp (show bs.all wholeL = false from nu)
            refine ⟨y, hy, fun z => w ?_⟩
            cases y with
            | int j => rfl
            | _ => cases z
          rw [this, Bool.and_false]
        | _ => rfl
      | true =>
        refine iteF ?_
        cases l' with
        | lst bs =>
          cases rl with
          | @lst q ys _ eq rq =>
            have ly := rq.len
            have b20 : bs.length ≤ 20 := (okL_lst (d := 1) (okr _ (List.mem_of_getElem? hl))).1
            refine ⟨_, rfl, q, ys, rfl, .inl (SqL.of eq), _, rfl, a, xs, rfl, .inl (SqL.of (s12 _ _ ea)), rfl, _, rfl, ?_⟩
            by_cases eln : bs.length = ls.length
            rotate_left
            · rw [show (!decide (V.int (ys.length : Int) = V.int (xs.length : Int))) = true by rw [ly, lx]; simp; omega]
              refine iteT (k false G2 s12 ⟨fun h => (nomatch h), no ?_⟩)
              simp [bitsL, eln]
            rw [show (!decide (V.int (ys.length : Int) = V.int (xs.length : Int))) = false by rw [ly, lx, eln]; simp]
            refine iteF ?_
            refine ⟨_, rfl, q, rfl, ⟨_, SqL.of eq⟩, lc_list (K := K) (a := q) (xs := ys) (by rw [ly, sizeLine_eq]; omega) (fun j zs G => Same G2 G ∧ zs = (bs.take j).map fun l => V.bl (bitL l)) ⟨Same.refl _, rfl⟩
              (fun i zs G ⟨_, z⟩ => by rw [z, List.length_map, List.length_take]; omega) (fun i zs G ⟨s', _⟩ => SqL.of (s' _ _ eq)) ?_ ?_⟩
            · rintro j y zs G3 hy ⟨s3, rfl⟩
              obtain ⟨l2, hl2, rl2⟩ := rq.get hy
              rw [all_take bitL bs j hl2]
              have wl : wholeL l2 = true := List.all_eq_true.mp (show bs.all wholeL = true from nu) l2 (List.mem_of_getElem? hl2)
              cases rl2 with
              | int z =>
                refine lcG ⟨_, rfl, (by show 2 ≤ sizeLine; decide), fun c hc => ?_⟩
                refine ⟨c, _, rfl, .inl (SqL.of upd_same), rfl, rfl, s3.step hc, ?_⟩
                have : inV (.int z) [V.int 0, V.int 1] = bitL (.int z) := by
                  simp only [inV, List.any_cons, List.any_nil, Bool.or_false, eqV, bitL]
                  rw [Bool.eq_iff_iff]
                  simp
                  omega
                rw [this]
                rfl
              | _ => cases wl
            rintro zs G3 ⟨s3, rfl⟩ D hD
            refine ⟨D, bs.map bitL, rfl, SqL.of ?_, _, rfl, ?_⟩
            · rw [upd_same, List.map_map, List.take_of_length_le (by omega)]
              rfl
            have eb : (bs.map bitL).all id = bitsL ls.length (.lst bs) := by simp [bitsL, eln]
            rw [eb]
            have s14 := s12.trans (s3.step (o := .lst ((bs.take ys.length).map fun l => V.bl (bitL l))) hD)
            generalize upd G3 D (.lst ((bs.take ys.length).map fun l => V.bl (bitL l))) = G4 at *
            cases hb : bitsL ls.length (.lst bs) with
            | false => exact iteT (k false G4 s14 ⟨fun h => (nomatch h), no hb⟩)
            | true =>
              refine iteF ?_
              obtain ⟨q', e', eq4, bd'⟩ := rep_row (rl0.same s14) hb
              cases e'
              refine ⟨_, rfl, _, rfl, _, _, rfl, rfl, _, rfl, q, _, rfl, SqL.of eq4, fun c hc => ?_⟩
              rw [show (i : Int) + 1 = ((i + 1 : Nat) : Int) by omega, cut_hd]
              refine .inr ⟨c, (brow ls.length (maskR (.lst bs))).take (i + 1), rfl, SqL.of (by rw [upd_same]; unfold rowV; rw [List.map_take]), _, rfl, ?_⟩
              rw [any_take hin]
              have s15 := s14.step (o := .lst ((rowV ls.length (maskR (.lst bs))).take (i + 1))) hc
              cases hh : hiB ls.length (maskR (.lst bs)) i with
              | false =>
                refine iteT (k false _ s15 ⟨fun h => (nomatch h), fun g => ?_⟩)
                have := (hiB_iff hin).mpr (good_row g hl).2
                rw [hh] at this
                cases this
              | true =>
                refine iteF ⟨_, _, rfl, s15, fun r l hr hl' => ?_⟩
                rcases Nat.lt_succ_iff_lt_or_eq.mp hr with h | h
                · exact ih r l h hl'
                · subst h
                  rw [hl] at hl'
                  cases hl'
                  exact ⟨hb, (hiB_iff hin).mp hh⟩
        | _ => cases nu
    · rintro σ G ⟨v1, v2, rfl, sG, ih⟩
      rw [lx] at ih
      have sh : shapeL (.lst ls) = true := shape_of l8 fun i l hl => (ih i l (List.getElem?_eq_some_iff.mp hl).1 hl).1
      obtain ⟨rr, tb, _, bd⟩ := rep_tab (sG _ _ ea) (rs.same sG) sh
      have hi : High ls.length (maskT ls) := fun r hr => ⟨bd r hr, by
        have e := List.getElem?_eq_getElem hr
        rw [maskT_at e]
        exact (ih r _ hr e).2⟩
      refine ⟨_, rfl, _, rfl, a, a, ls.length, maskT ls, maskT ls, rr, rr, rfl, tb, tb, l8, fun G3 t ts s3 tt => ?_⟩
      have lt : (ts.map V.ref).length = ls.length := by rw [List.length_map, tt.2.1]
      refine ⟨t, rfl, ⟨_, SqL.of tt.1⟩, lc_list (K := K) (a := t) (xs := ts.map V.ref) (by rw [lt, sizeLine_eq]; omega) (fun i zs G => Same G3 G ∧ zs = ((List.range i).map fun r => decide (mulT (maskT ls) ls.length (maskT ls r) ≠ 0)).map V.bl) ⟨Same.refl _, rfl⟩ (fun i zs G ⟨_, z⟩ => by rw [z]; simp) (fun i zs G ⟨s', _⟩ => SqL.of (s' _ _ tt.1)) ?_ ?_⟩
      · rintro i x zs G4 hx ⟨s4, rfl⟩
        obtain ⟨q, hq, rfl⟩ := refs_get hx
        refine lcG ⟨_, rfl, .inr ⟨q, brow ls.length (mulT (maskT ls) ls.length (maskT ls i)), rfl, SqL.of (s4 _ _ (tt.2.2 i q hq)), s4, ?_⟩⟩
        rw [any_row (mulT_lt bd _ _ (Nat.le_refl _)), List.range_succ, List.map_append, List.map_append]
        rfl
      rintro zs G4 ⟨s4, rfl⟩ D hD
      rw [lt]
      refine .inl ⟨D, _, rfl, SqL.of upd_same, _, rfl, ?_⟩
      have sG5 := s3.trans (s4.step (o := .lst (((List.range ls.length).map fun r => decide (mulT (maskT ls) ls.length (maskT ls r) ≠ 0)).map V.bl)) hD)
      have s5 := sG.trans sG5
      generalize upd G4 D (.lst (((List.range ls.length).map fun r => decide (mulT (maskT ls) ls.length (maskT ls r) ≠ 0)).map V.bl)) = G5 at *
      by_cases sq : ∀ r, r < ls.length → mulT (maskT ls) ls.length (maskT ls r) = 0
      rotate_left
      · have : (((List.range ls.length).map fun r => decide (mulT (maskT ls) ls.length (maskT ls r) ≠ 0)).any id) = true := by
          have : ∃ r, r < ls.length ∧ mulT (maskT ls) ls.length (maskT ls r) ≠ 0 := Classical.byContradiction fun z => sq fun r hr => Classical.byContradiction fun y => z ⟨r, hr, y⟩
          obtain ⟨r, hr', z⟩ := this
          rw [List.any_eq_true]
          exact ⟨true, List.mem_map.mpr ⟨r, List.mem_range.mpr hr', decide_eq_true z⟩, rfl⟩
        rw [this]
        exact iteT (k false G5 s5 ⟨fun h => (nomatch h), fun g => absurd (sqr_iff.mpr g.2.2.1) sq⟩)
      have : (((List.range ls.length).map fun r => decide (mulT (maskT ls) ls.length (maskT ls r) ≠ 0)).any id) = false := by
        rw [List.any_eq_false]
        intro x hx
        obtain ⟨r, hr', rfl⟩ := List.mem_map.mp hx
        simp [sq r (List.mem_range.mp hr')]
      rw [this]
      refine iteF ?_
      have sq' := sqr_iff.mp sq
      have tb5 : TabM G5 a ls.length (maskT ls) rr := tb.same sG5
      refine ⟨_, rfl, a, ls.length, (List.range ls.length).map (maskT ls), rr, rfl, tb5.1, ⟨by rw [tb5.2.1]; simp, fun r p e => ?_⟩, by simp; omega, l8, fun v hv => ?_, fun G6 f6 s6 rk => ?_⟩
      · have hr' : r < ls.length := by rw [← tb5.2.1]; exact (List.getElem?_eq_some_iff.mp e).1
        exact ⟨maskT ls r, by simp [hr'], tb5.2.2 r p e⟩
      · obtain ⟨r, hr', rfl⟩ := List.mem_map.mp hv
        exact bd r (List.mem_range.mp hr')
      · refine ⟨_, _, rfl, rfl, .inl ⟨by decide, by decide⟩, _, rfl, a, xs, rfl, .inl (SqL.of (s6 _ _ (s5 _ _ ea))), rfl, k _ G6 (s5.trans s6) ?_⟩
        obtain ⟨S, p, U⟩ := up_ex hi sq'
        have fr := U.fullRank bd rk
        rw [lx, decide_eq_true_iff]
        constructor
        · intro z
          have z' : (2 : Int) * (f6 : Int) = (ls.length : Int) := by injection z
          refine ⟨sh, hi, sq', fun S' p' U' r hr' => ?_⟩
          rw [U'.one U hr']
          exact fr.mp (by omega) r hr'
        · intro g
          have := fr.mpr (g.2.2.2 S p U)
          have z' : (2 : Int) * (f6 : Int) = (ls.length : Int) := by omega
          show V.int ((2 : Int) * (f6 : Int)) = V.int (ls.length : Int)
          rw [z']

end
end Qk27

namespace Qk27
open PySem L2 PyProof.Rows
section
variable {P : Program} {w : World} {K : PySem.W.Frag} {mg : Str → Option Value} {base : Heap}
def OkV (d : Nat) (G : Hp) (v : V) : Prop := ∃ l, RepL G v l ∧ okL d l = true
theorem OkV.same {d : Nat} {G G' : Hp} {v : V} (s : Same G G') (h : OkV d G v) : OkV d G' v := let ⟨l, h1, h2⟩ := h; ⟨l, h1.same s, h2⟩
theorem OkV.mono {d e : Nat} {G : Hp} {v : V} (h : OkV d G v) (z : d ≤ e) : OkV e G v := let ⟨l, h1, h2⟩ := h; ⟨l, h1, okL_mono z h2⟩
theorem okV_int {d : Nat} {G : Hp} (i : Int) : OkV d G (.int i) := ⟨.int i, .int i, by cases d <;> rfl⟩
theorem okV_lst {d : Nat} {G : Hp} {a : Addr} {vs : List V} (e : G a = some (.lst vs)) (n : vs.length ≤ 20) (h : ∀ v ∈ vs, OkV d G v) : OkV (d + 1) G (.ref a) := by
  obtain ⟨ls, r, l, f⟩ := repLs_of (fun _ l => okL d l = true) h
  refine ⟨.lst ls, .lst e r, ?_⟩
  simp only [okL, Bool.and_eq_true, List.all_eq_true, decide_eq_true_eq]
  exact ⟨by omega, fun x hx => let ⟨_, _, q⟩ := f x hx; q⟩
theorem okV_tup {d e' : Nat} {G : Hp} {a : Addr} {vs : List V} (e : G a = some (.tup vs)) (h : ∀ v ∈ vs, OkV d G v) : OkV e' G (.ref a) := by
  obtain ⟨ls, r, l, f⟩ := repLs_of (fun _ l => okL d l = true) h
  exact ⟨.tup ls, .tup e r, by cases e' <;> rfl⟩
theorem okV_row {d : Nat} {G : Hp} {a : Addr} {n v : Nat} (e : G a = some (.lst (rowV n v))) (h : n ≤ 20) : OkV (d + 1) G (.ref a) := okV_lst e (by rw [rowV_len]; exact h) fun x hx => by
  obtain ⟨z, _, rfl⟩ := List.mem_map.mp hx
  exact okV_int z
/-- no list of two within -/
def nbL : Nat → Lit → Bool
  | 0, .lst _ => false
  | 0, .tup _ => false
  | d + 1, .lst l => (l.length != 2) && l.all (nbL d)
  | d + 1, .tup l => l.all (nbL d)
  | _, _ => true
theorem repLs_map {H H' : Hp} : ∀ {vs : List V} {ls : List Lit}, (∀ v l, l ∈ ls → RepL H v l → RepL H' v l) → RepLs H vs ls → RepLs H' vs ls
  | _, _, _, .nil => .nil
  | _, _, h, .cons a r => .cons (h _ _ List.mem_cons_self a) (repLs_map (fun v l hl => h v l (List.mem_cons_of_mem _ hl)) r)
theorem rep_frm {b : Addr} {H H' : Hp} (bg : Bag H b) (f : Frm b H H') : ∀ (d : Nat) (v : V) (l : Lit), nbL d l = true → RepL H v l → RepL H' v l := by
  intro d
  induction d with
  | zero =>
    intro v l h r
    cases r with
    | non => exact .non
    | bl b => exact .bl b
    | int i => exact .int i
    | str x => exact .str x
    | tup e r => cases h
    | lst e r => cases h
  | succ d ih =>
    intro v l h r
    cases r with
    | non => exact .non
    | bl b => exact .bl b
    | int i => exact .int i
    | str x => exact .str x
    | tup e r =>
      simp only [nbL, List.all_eq_true] at h
      refine .tup (f _ _ e fun z => ?_) (repLs_map (fun v l hl q => ih v l (h l hl) q) r)
      obtain ⟨_, _, _, eb⟩ := bg
      rw [z, eb] at e
      cases e
    | lst e r =>
      simp only [nbL, Bool.and_eq_true, List.all_eq_true, bne_iff_ne] at h
      refine .lst (f _ _ e fun z => ?_) (repLs_map (fun v l hl q => ih v l (h.2 l hl) q) r)
      obtain ⟨_, _, _, eb⟩ := bg
      rw [z, eb] at e
      cases e
      exact h.1 r.len.symm
theorem lay {G : Hp} {c : Addr} {o : HO} (fc : G c = none) : ∃ G', upd G c o = G' ∧ Same G G' ∧ G' c = some o := ⟨_, rfl, Same.laid fc, upd_same⟩
theorem cut_dr (xs : List V) (k : Nat) : cutV xs (some (k : Int)) none = xs.drop k := by
  unfold cutV
  rw [HT.sIx_none, HT.sIx_nat]
  by_cases h : k ≤ xs.length
  · rw [Nat.min_eq_left h, List.take_of_length_le (by rw [List.length_drop]; omega)]
  · rw [Nat.min_eq_right (by omega), Nat.sub_self, List.take_zero, List.drop_of_length_le (by omega)]
/-- but for one place -/
def del (b x : Addr) (H : Hp) : Hp := fun c => if c = x ∨ c = b then none else H c
theorem del_ne {b x c : Addr} {H : Hp} (h : c ≠ x) (h' : c ≠ b) : del b x H c = H c := if_neg fun z => z.elim h h'
theorem del_in (b x : Addr) (H : Hp) : Same (del b x H) H := fun c o e => by
  unfold del at e
  split at e
  · cases e
  · exact e
/-- lists of at most one within -/
def n1L : Nat → Lit → Bool
  | 0, .lst _ => false
  | 0, .tup _ => false
  | d + 1, .lst l => decide (l.length ≤ 1) && l.all (n1L d)
  | d + 1, .tup l => l.all (n1L d)
  | _, _ => true
theorem rep_frm2 {b x : Addr} {H H' : Hp} {ws : List V} (bg : Bag H b) (hx : x = b ∨ (H x = some (.lst ws) ∧ 3 ≤ ws.length)) (f : ∀ c o, H c = some o → c ≠ b → c ≠ x → H' c = some o) : ∀ (d : Nat) (v : V) (l : Lit), n1L d l = true → RepL H v l → RepL H' v l := by
  intro d
  induction d with
  | zero =>
    intro v l h r
    cases r with
    | non => exact .non
    | bl b => exact .bl b
    | int i => exact .int i
    | str x => exact .str x
    | tup e r => cases h
    | lst e r => cases h
  | succ d ih =>
    intro v l h r
    cases r with
    | non => exact .non
    | bl b => exact .bl b
    | int i => exact .int i
    | str x => exact .str x
    | tup e r =>
      simp only [n1L, List.all_eq_true] at h
      refine .tup (f _ _ e (fun z => ?_) (fun z => ?_)) (repLs_map (fun v l hl q => ih v l (h l hl) q) r)
      · obtain ⟨_, _, _, eb⟩ := bg
        rw [z, eb] at e
        cases e
      · obtain ⟨_, _, _, eb⟩ := bg
        rcases hx with y | ⟨ex, _⟩
        · rw [z, y, eb] at e
          cases e
        · rw [z, ex] at e
          cases e
    | lst e r =>
      simp only [n1L, Bool.and_eq_true, List.all_eq_true, decide_eq_true_eq] at h
      have ln := r.len
      refine .lst (f _ _ e (fun z => ?_) (fun z => ?_)) (repLs_map (fun v l hl q => ih v l (h.2 l hl) q) r)
      · obtain ⟨_, _, _, eb⟩ := bg
        rw [z, eb] at e
        cases e
        simp at ln
        omega
      · obtain ⟨_, _, _, eb⟩ := bg
        rcases hx with y | ⟨ex, w3⟩
        · rw [z, y, eb] at e
          cases e
          simp at ln
          omega
        · rw [z, ex] at e
          cases e
          omega
def spOdd : Sp := fun vs H Q _ => ∃ (b a x : Addr) (n : Nat) (T : Nat → Nat) (rs : List Addr) (ws : List V), vs = [.ref b, .ref a] ∧ Bag H b ∧ TabM H a n T rs ∧ n ≤ 8 ∧ a ≠ b ∧ b ∉ rs ∧ (x = b ∨ (H x = some (.lst ws) ∧ 3 ≤ ws.length)) ∧ ∀ (H' : Hp) (v : V), Bag H' b → Frm b H H' → OkV 3 (del b x H') v → Q v H'
theorem c_pow : CPow 10 59 := ⟨by decide, by decide, by decide⟩
abbrev s__law_odd_table : Stmt := top 39
theorem sc__law_odd_table : FnScope ["_law_bag_here", "_law_table", "_law_way", "_law_odd", "_law_i", "_law_j", "_law_found"] ["_law_bag_here", "_law_table"] (defScope s__law_odd_table) := ⟨rfl, rfl, rfl, by decide +kernel, rfl, by decide +kernel, by decide +kernel⟩
theorem ok_odd {f : Addr} {fd : FuncData} (F : Fun K "_law_odd_table" "_law_odd_table" s__law_odd_table f fd) (h__law_take : Has P w K mg base 1 "_law_take" ["_law_bag_here", "_law_many"] spTake) (b_list : mg "list" = none) (b_len : mg "len" = none) (b_max : mg "max" = none) (b_tuple : mg "tuple" = none) : FnOk P w K mg base CX0 2 f fd ["_law_bag_here", "_law_table"] spOdd := by
  refine F.ok sc__law_odd_table (fun vs H Q E h => ?_) (fun cdv A outer s H vs Q E hr h => ?_)
  · obtain ⟨b, a, x, n, T, rs, ws, rfl, _⟩ := h
    rfl
  · obtain ⟨b, a, x, n, T, rs, ws, rfl, bg, tb, n8, ab, brs, hx, k⟩ := h
    refine ⟨_, (pss_cons (ps_set (i := 2) sc__law_odd_table.nd rfl (Or.inl rfl) (pe_has h__law_take (hr.mono (by decide)) (pa_cons (pv 0) (pa_cons pe_int pa_nil))))
      (pss_cons (ps_set (i := 3) sc__law_odd_table.nd rfl (Or.inl rfl) (pe_ix (ix_listK (K := K) rfl) (PL.out (G := fun _ _ => True) (pl_lst (pls_cons keepsT pl_bl (pls_cons keepsT pl_bl (pls_cons keepsT pl_non (pls_cons keepsT pl_str (pls_cons keepsT pl_int (pls_cons keepsT pl_neg (pls_cons keepsT (pl_lst (pls_cons keepsT pl_int pls_nil se_Constant)) (pls_cons keepsT (pl_tup (pls_cons keepsT pl_int (pls_cons keepsT pl_int pls_nil se_Constant) se_Constant)) (pls_cons keepsT (pl_pow c_pow) pls_nil se_BinOp) se_Tuple) se_List) se_UnaryOp) se_Constant) se_Constant) se_Constant) se_Constant) se_Constant))) (pe_has h__law_take (hr.mono (by decide)) (pa_cons (pv 0) (pa_cons pe_int pa_nil))) (fun _ _ => rfl)))
      (pss_cons (ps_set (i := 4) sc__law_odd_table.nd rfl (Or.inl rfl) (pe_has h__law_take (hr.mono (by decide)) (pa_cons (pv 0) (pa_cons (pe_callB (call_max2 rfl) (by rfl) b_max boot_max (pa_cons pe_int (pa_cons (pe_callB (call_lenK (K := K) rfl) (by rfl) b_len PySem.boot_len (pa_cons (pv 1) pa_nil)) pa_nil))) pa_nil))))
      (pss_cons (ps_set (i := 5) sc__law_odd_table.nd rfl (Or.inl rfl) (pe_has h__law_take (hr.mono (by decide)) (pa_cons (pv 0) (pa_cons (pe_callB (call_max2 rfl) (by rfl) b_max boot_max (pa_cons pe_int (pa_cons (pe_callB (call_lenK (K := K) rfl) (by rfl) b_len PySem.boot_len (pa_cons (pv 1) pa_nil)) pa_nil))) pa_nil))))
      (pss_cons (ps_lc (i := 6) sc__law_odd_table.nd rfl (Or.inl rfl) (Ls := ["_law_row"]) (Fs := []) (fi := []) (LcScope.of (show lcLook ["_law_bag_here", "_law_table", "_law_way", "_law_odd", "_law_i", "_law_j", "_law_found"] (defScope s__law_odd_table) _ [] [] = true by decide +kernel)) rfl (pi_listK (K := K) rfl (pv 1)) (fun cl C s3 H3 ex => ⟨(pg_name (i := 0) (show ((["_law_row"] : List Str) ++ ([] : List Str)).Nodup by decide +kernel) rfl (Or.inl rfl)), pts_nil, (pe_callTy (call_listK (K := K) rfl) (by rfl) b_list boot_list (pa_cons (pv 0) pa_nil))⟩))
      (pss_cons (ps_if (PW.pt (pw_or (pt_cmpR op_eq (pv 2) pe_int (nomark _)) (pw_or1 (pt_cmpR (op_eqNilK (K := K) rfl hr.units) (pv 1) (pe_lst pa_nil) (nomark _))))) (pss_one (ps_ret (pe_ix (ix_listK (K := K) rfl) (pe_lst (pa_cons (pe_callTy call_tupleL (by rfl) b_tuple boot_tuple (pa_cons (pv 6) pa_nil)) (pa_cons (pe_op op_cat (pv 6) (pe_lst (pa_cons (pe_lst pa_nil) pa_nil))) (pa_cons (pe_op op_cat (pv 6) (pe_lst (pa_cons pe_int pa_nil))) (pa_cons (pe_lst (pa_cons (pv 6) pa_nil)) (pa_cons (pv 3) pa_nil)))))) (pe_has h__law_take (hr.mono (by decide)) (pa_cons (pv 0) (pa_cons pe_int pa_nil))) (fun _ _ => rfl)))) pss_nil)
      (pss_cons (ps_if (pt_cmpR op_lt (pv 2) pe_int (nomark _)) (pss_one (ps_asg (pe_op op_sub pe_int (pe_ix (ix_listK (K := K) rfl) (pe_ix (ix_listK (K := K) rfl) (pv 6) (pv 4) (fun _ _ => rfl)) (pv 5) (fun _ _ => rfl))) (pg_sub (pe_ix (ix_listK (K := K) rfl) (pv 6) (pv 4) (fun _ _ => rfl)) (pv 5) set_list))) (pss_one (ps_if (pt_cmpR op_eq (pv 2) pe_int (nomark _)) (pss_one (ps_asg (pv 3) (pg_sub (pe_ix (ix_listK (K := K) rfl) (pv 6) (pv 4) (fun _ _ => rfl)) (pv 5) set_list))) (pss_one (ps_if (pt_cmpR op_eq (pv 2) pe_int (nomark _)) (pss_one (ps_asg (pv 3) (pg_sub (pv 6) (pv 4) set_list))) (pss_one (ps_if (pt_cmpR op_eq (pv 2) pe_int (nomark _)) (pss_one (ps_asg (pe_ix (ix_listK (K := K) rfl) (pe_lst (pa_cons (pe_op op_cat (pe_slice (sl_listK (K := K) rfl) (pe_ix (ix_listK (K := K) rfl) (pv 6) (pv 4) (fun _ _ => rfl)) po_none (po_some (pv 5))) (pe_slice (sl_listK (K := K) rfl) (pe_ix (ix_listK (K := K) rfl) (pv 6) (pv 4) (fun _ _ => rfl)) (po_some (pe_op op_add (pv 5) pe_int)) po_none)) (pa_cons (pe_op op_cat (pe_ix (ix_listK (K := K) rfl) (pv 6) (pv 4) (fun _ _ => rfl)) (pe_lst (pa_cons pe_int pa_nil))) (pa_cons (pe_callTy call_tupleL (by rfl) b_tuple boot_tuple (pa_cons (pe_ix (ix_listK (K := K) rfl) (pv 6) (pv 4) (fun _ _ => rfl)) pa_nil)) pa_nil)))) (pe_has h__law_take (hr.mono (by decide)) (pa_cons (pv 0) (pa_cons pe_int pa_nil))) (fun _ _ => rfl)) (pg_sub (pv 6) (pv 4) set_list))) (pss_one (ps_if (pt_cmpR op_eq (pv 2) pe_int (nomark _)) (pss_one (ps_set (i := 6) sc__law_odd_table.nd rfl (Or.inl rfl) (pe_op op_cat (pe_slice (sl_listK (K := K) rfl) (pv 6) po_none (po_some (pv 4))) (pe_slice (sl_listK (K := K) rfl) (pv 6) (po_some (pe_op op_add (pv 4) pe_int)) po_none)))) (pss_one (ps_asg (pe_tup (pa_cons (pe_ix (ix_listK (K := K) rfl) (pv 6) (pv 5) (fun _ _ => rfl)) (pa_cons (pe_ix (ix_listK (K := K) rfl) (pv 6) (pv 4) (fun _ _ => rfl)) pa_nil))) (pg_tupK (K := K) (n := 2) rfl rfl (pgs_cons (pg_sub (pv 6) (pv 4) set_list) (pgs_cons (pg_sub (pv 6) (pv 5) set_list) pgs_nil))))))))))))))
      (pss_one (ps_ret (pv 6)))))))))), ?_⟩
    obtain ⟨ea, ln, er⟩ := id tb
    have lr : (rs.map V.ref).length = n := by rw [List.length_map, ln]
    have rb : ∀ (r : Nat) (p : Addr), rs[r]? = some p → p ≠ b := fun r p e z => brs (by rw [← z]; exact List.mem_of_getElem? e)
    refine ⟨_, rfl, b, 9, rfl, bg, by decide, by decide, fun wy H1 w0 w1 bg1 f1 => ?_⟩
    refine ⟨trivial, fun cv Hc sc rc => ?_⟩
    have bgc := bag_same sc bg1
    refine ⟨_, rfl, b, 9, rfl, bgc, by decide, by decide, fun d2 H2 d20 d21 bg2 f2 => ?_⟩
    have rc2 := rep_frm bgc f2 3 _ _ (by decide) rc
    obtain ⟨dn, rfl⟩ := Int.eq_ofNat_of_zero_le d20
    cases rc2 with
    | @lst c1 us _ ec ru =>
    have lu : us.length = 9 := ru.len
    have hu : us[dn]? = some (us[dn]'(by omega)) := List.getElem?_eq_getElem (by omega)
    generalize us[dn]'(by omega) = ov at hu
    obtain ⟨lo, hlo, ro⟩ := ru.get hu
    have ml := List.mem_of_getElem? hlo
    have oko : okL 1 lo = true := List.all_eq_true.mp (show ([Lit.bl true, Lit.bl false, Lit.non, Lit.str "1", Lit.int 2, Lit.int (-1), Lit.lst [Lit.int 1], Lit.tup [Lit.int 0, Lit.int 1], Lit.int (10 ^ Int.toNat 59)].all (okL 1)) = true by rfl) lo ml
    have nbo : nbL 2 lo = true := List.all_eq_true.mp (show ([Lit.bl true, Lit.bl false, Lit.non, Lit.str "1", Lit.int 2, Lit.int (-1), Lit.lst [Lit.int 1], Lit.tup [Lit.int 0, Lit.int 1], Lit.int (10 ^ Int.toNat 59)].all (nbL 2)) = true by rfl) lo ml
    have n1o : n1L 2 lo = true := List.all_eq_true.mp (show ([Lit.bl true, Lit.bl false, Lit.non, Lit.str "1", Lit.int 2, Lit.int (-1), Lit.lst [Lit.int 1], Lit.tup [Lit.int 0, Lit.int 1], Lit.int (10 ^ Int.toNat 59)].all (n1L 2)) = true by rfl) lo ml
    refine ⟨c1, _, _, _, rfl, rfl, SqL.of ec, atI_nat hu, ?_⟩
    have f02 : Frm b H H2 := (f1.trans sc.frm).trans f2
    refine ⟨_, rfl, _, rfl, a, _, rfl, .inl (SqL.of (f02 _ _ ea ab)), _, _, rfl, b, _, rfl, bg2, (by rw [lr]; split <;> omega), (by rw [lr]; split <;> omega), fun i' H3 i0 i1 bg3 f3 => ?_⟩
    have f03 := f02.trans f3
    refine ⟨_, rfl, _, rfl, a, _, rfl, .inl (SqL.of (f03 _ _ ea ab)), _, _, rfl, b, _, rfl, bg3, (by rw [lr]; split <;> omega), (by rw [lr]; split <;> omega), fun j' G0 j0 j1 bg4 f4 => ?_⟩
    rw [lr] at i1 j1
    obtain ⟨i, rfl⟩ := Int.eq_ofNat_of_zero_le i0
    obtain ⟨j, rfl⟩ := Int.eq_ofNat_of_zero_le j0
    have f04 := f03.trans f4
    have ro0 := rep_frm bg2 (f3.trans f4) 2 _ _ nbo ro
    have tb0 : TabM G0 a n T rs := ⟨f04 _ _ ea ab, ln, fun r p e => f04 _ _ (er r p e) (rb r p e)⟩
    -- all that comes behind keeps what is here, but the bag
    have fin : ∀ {X : Hp} {v : V}, Bag X b → Frm b G0 X → OkV 3 (del b x X) v → Q v X := fun bX fX o => k _ _ bX (f04.trans fX) o
    have hx0 : x = b ∨ (G0 x = some (.lst ws) ∧ 3 ≤ ws.length) := hx.imp id fun ⟨ex, w3⟩ => ⟨f04 _ _ ex fun z => by
      obtain ⟨_, _, _, e⟩ := bg
      rw [z, e] at ex
      cases ex
      simp at w3, w3⟩
    have okO : ∀ {X : Hp}, Frm b G0 X → OkV 1 (del b x X) ov := fun fX => ⟨lo, rep_frm2 bg4 hx0 (fun c o e h1 h2 => (del_ne h2 h1).trans (fX c o e h1)) 2 _ _ n1o ro0, oko⟩
    have neb : ∀ {c : Addr}, G0 c = none → c ≠ b := fun {c} h z => by
      obtain ⟨_, _, _, e⟩ := bg4
      rw [z, e] at h
      cases h
    have dl : ∀ {Z : Hp} {c : Addr} {o : HO}, Z c = some o → G0 c = none → del b x Z c = some o := fun {Z c o} e h => (del_ne (fun z => by
      rcases hx0 with y | ⟨y, _⟩
      · exact neb h (z.trans y)
      · rw [z, y] at h; cases h) (neb h)).trans e
    refine ⟨_, rfl, a, rfl, ⟨_, SqL.of tb0.1⟩, lc_copy tb0 n8 fun D ts G sG tD fD nd nt fr => ?_⟩
    have lt : (ts.map V.ref).length = n := by rw [List.length_map, tD.2.1]
    have bgG := bag_same sG bg4
    refine ⟨_, rfl, rfl, _, rfl, ite2 (fun hw => ?_) (fun hw => ?_)⟩
    · have sX : Same G G := Same.refl _
      have tX := tD.same sX
      refine ⟨_, rfl, D, _, rfl, tX.1, fun p1 hp1 => ?_⟩
      obtain ⟨X1, z, t1, e1⟩ := lay (o := .tup (ts.map V.ref)) hp1
      rw [z]; clear z
      refine ⟨_, rfl, (by show 0 ≤ sizeLine; exact Nat.zero_le _), fun q1 hq1 => ?_⟩
      obtain ⟨X2, z, t2, e2⟩ := lay (o := .lst []) hq1
      rw [z]; clear z
      refine ⟨(by show 1 ≤ sizeLine; decide), fun q2 hq2 => ?_⟩
      obtain ⟨X3, z, t3, e3⟩ := lay (o := .lst [.ref q1]) hq2
      rw [z]; clear z
      have sX3 := ((sX.trans t1).trans t2).trans t3
      refine ⟨D, q2, _, _, rfl, rfl, sX3 _ _ tD.1, e3, (by rw [lt, sizeLine_eq]; show n + 1 ≤ _; omega), fun q3 hq3 => ?_⟩
      obtain ⟨X4, z, t4, e4⟩ := lay (o := .lst (ts.map V.ref ++ [.ref q1])) hq3
      rw [z]; clear z
      refine ⟨_, rfl, (by show 1 ≤ sizeLine; decide), fun q4 hq4 => ?_⟩
      obtain ⟨X5, z, t5, e5⟩ := lay (o := .lst [.int 0]) hq4
      rw [z]; clear z
      have sX5 := (sX3.trans t4).trans t5
      refine ⟨D, q4, _, _, rfl, rfl, sX5 _ _ tD.1, e5, (by rw [lt, sizeLine_eq]; show n + 1 ≤ _; omega), fun q5 hq5 => ?_⟩
      obtain ⟨X6, z, t6, e6⟩ := lay (o := .lst (ts.map V.ref ++ [.int 0])) hq5
      rw [z]; clear z
      refine ⟨_, rfl, (by show 1 ≤ sizeLine; decide), fun q6 hq6 => ?_⟩
      obtain ⟨X7, z, t7, e7⟩ := lay (o := .lst [.ref D]) hq6
      rw [z]; clear z
      refine ⟨_, rfl, (by show 5 ≤ sizeLine; decide), fun q7 hq7 => ?_⟩
      obtain ⟨X8, z, t8, e8⟩ := lay (o := .lst [.ref p1, .ref q3, .ref q5, .ref q6, ov]) hq7
      rw [z]; clear z
      have sX8 := ((sX5.trans t6).trans t7).trans t8
      have s08 := sG.trans sX8
      refine ⟨_, rfl, b, 5, rfl, bag_same s08 bg4, by decide, by decide, fun d5 Y d50 d51 bgY fY => ?_⟩
      obtain ⟨kk, rfl⟩ := Int.eq_ofNat_of_zero_le d50
      have fr0 : ∀ {c : Addr} {A : Hp}, Same G0 A → A c = none → G0 c = none := fun s h => s.free h
      have sp1 := fr0 (sG.trans sX) hp1
      have sq1 := fr0 ((sG.trans sX).trans t1) hq1
      have sq3 := fr0 (sG.trans sX3) hq3
      have sq5 := fr0 (sG.trans sX5) hq5
      have sq6 := fr0 (sG.trans (sX5.trans t6)) hq6
      have sq7 := fr0 (sG.trans ((sX5.trans t6).trans t7)) hq7
      have y7 := fY _ _ e8 (neb sq7)
      have y6 := fY _ _ (t8 _ _ e7) (neb sq6)
      have y5 := fY _ _ (t8 _ _ (t7 _ _ e6)) (neb sq5)
      have y3 := fY _ _ (t8 _ _ (t7 _ _ (t6 _ _ (t5 _ _ e4)))) (neb sq3)
      have y1 := fY _ _ (t8 _ _ (t7 _ _ (t6 _ _ (t5 _ _ (t4 _ _ (t3 _ _ e2)))))) (neb sq1)
      have yp := fY _ _ (t8 _ _ (t7 _ _ (t6 _ _ (t5 _ _ (t4 _ _ (t3 _ _ (t2 _ _ e1))))))) (neb sp1)
      have yD := fY _ _ (sX8 _ _ tD.1) (neb fD)
      have yr : ∀ v ∈ ts.map V.ref, ∀ d, OkV (d + 1) (del b x Y) v := fun v hv d => by
        obtain ⟨p, hp, rfl⟩ := List.mem_map.mp hv
        obtain ⟨r, hr, rfl⟩ := List.getElem_of_mem hp
        exact okV_row (dl (fY _ _ (sX8 _ _ (tD.2.2 r _ (List.getElem?_eq_getElem hr))) (neb (fr _ hp))) (fr _ hp)) (by omega)
      have f0Y : Frm b G0 Y := s08.frm.trans fY
      match kk, d51 with
      | 0, _ => exact ⟨q7, _, _, _, rfl, rfl, SqL.of y7, rfl, fin bgY f0Y (okV_tup (d := 1) (dl yp sp1) fun v hv => yr v hv 0)⟩
      | 1, _ =>
        refine ⟨q7, _, _, _, rfl, rfl, SqL.of y7, rfl, fin bgY f0Y (okV_lst (d := 2) (dl y3 sq3) (by rw [List.length_append, lt]; show n + 1 ≤ 20; omega) fun v hv => ?_)⟩
        rcases List.mem_append.mp hv with h | h
        · exact yr v h 1
        · rw [List.mem_singleton.mp h]; exact okV_lst (d := 1) (dl y1 sq1) (by decide) fun _ h => (nomatch h)
      | 2, _ =>
        refine ⟨q7, _, _, _, rfl, rfl, SqL.of y7, rfl, fin bgY f0Y (okV_lst (d := 2) (dl y5 sq5) (by rw [List.length_append, lt]; show n + 1 ≤ 20; omega) fun v hv => ?_)⟩
        rcases List.mem_append.mp hv with h | h
        · exact yr v h 1
        · rw [List.mem_singleton.mp h]; exact okV_int 0
      | 3, _ =>
        refine ⟨q7, _, _, _, rfl, rfl, SqL.of y7, rfl, fin bgY f0Y (okV_lst (d := 2) (dl y6 sq6) (by show 1 ≤ 20; decide) fun v hv => ?_)⟩
        rw [List.mem_singleton.mp hv]
        exact okV_lst (d := 1) (dl yD fD) (by rw [lt]; omega) fun v hv => yr v hv 0
      | 4, _ => exact ⟨q7, _, _, _, rfl, rfl, SqL.of y7, rfl, fin bgY f0Y ((okO f0Y).mono (by decide))⟩
      | kk + 5, z => exact absurd z (by omega)
    have wn : wy ≠ 0 := fun z => by rw [z] at hw; simp at hw
    refine ⟨_, rfl, (by show 0 ≤ sizeLine; exact Nat.zero_le _), fun e he => ?_⟩
    obtain ⟨X, z, sX, eX⟩ := lay (o := .lst []) he
    rw [z]; clear z
    refine ⟨a, e, _, rfl, rfl, SqL.of (sX _ _ (sG _ _ tb0.1)), SqL.of eX, _, rfl, ite2 (fun hn => ?_) (fun hn => ?_)⟩
    · skip
      have tX := tD.same sX
      refine ⟨_, rfl, D, _, rfl, tX.1, fun p1 hp1 => ?_⟩
      obtain ⟨X1, z, t1, e1⟩ := lay (o := .tup (ts.map V.ref)) hp1
      rw [z]; clear z
      refine ⟨_, rfl, (by show 0 ≤ sizeLine; exact Nat.zero_le _), fun q1 hq1 => ?_⟩
      obtain ⟨X2, z, t2, e2⟩ := lay (o := .lst []) hq1
      rw [z]; clear z
      refine ⟨(by show 1 ≤ sizeLine; decide), fun q2 hq2 => ?_⟩
      obtain ⟨X3, z, t3, e3⟩ := lay (o := .lst [.ref q1]) hq2
      rw [z]; clear z
      have sX3 := ((sX.trans t1).trans t2).trans t3
      refine ⟨D, q2, _, _, rfl, rfl, sX3 _ _ tD.1, e3, (by rw [lt, sizeLine_eq]; show n + 1 ≤ _; omega), fun q3 hq3 => ?_⟩
      obtain ⟨X4, z, t4, e4⟩ := lay (o := .lst (ts.map V.ref ++ [.ref q1])) hq3
      rw [z]; clear z
      refine ⟨_, rfl, (by show 1 ≤ sizeLine; decide), fun q4 hq4 => ?_⟩
      obtain ⟨X5, z, t5, e5⟩ := lay (o := .lst [.int 0]) hq4
      rw [z]; clear z
      have sX5 := (sX3.trans t4).trans t5
      refine ⟨D, q4, _, _, rfl, rfl, sX5 _ _ tD.1, e5, (by rw [lt, sizeLine_eq]; show n + 1 ≤ _; omega), fun q5 hq5 => ?_⟩
      obtain ⟨X6, z, t6, e6⟩ := lay (o := .lst (ts.map V.ref ++ [.int 0])) hq5
      rw [z]; clear z
      refine ⟨_, rfl, (by show 1 ≤ sizeLine; decide), fun q6 hq6 => ?_⟩
      obtain ⟨X7, z, t7, e7⟩ := lay (o := .lst [.ref D]) hq6
      rw [z]; clear z
      refine ⟨_, rfl, (by show 5 ≤ sizeLine; decide), fun q7 hq7 => ?_⟩
      obtain ⟨X8, z, t8, e8⟩ := lay (o := .lst [.ref p1, .ref q3, .ref q5, .ref q6, ov]) hq7
      rw [z]; clear z
      have sX8 := ((sX5.trans t6).trans t7).trans t8
      have s08 := sG.trans sX8
      refine ⟨_, rfl, b, 5, rfl, bag_same s08 bg4, by decide, by decide, fun d5 Y d50 d51 bgY fY => ?_⟩
      obtain ⟨kk, rfl⟩ := Int.eq_ofNat_of_zero_le d50
      have fr0 : ∀ {c : Addr} {A : Hp}, Same G0 A → A c = none → G0 c = none := fun s h => s.free h
      have sp1 := fr0 (sG.trans sX) hp1
      have sq1 := fr0 ((sG.trans sX).trans t1) hq1
      have sq3 := fr0 (sG.trans sX3) hq3
      have sq5 := fr0 (sG.trans sX5) hq5
      have sq6 := fr0 (sG.trans (sX5.trans t6)) hq6
      have sq7 := fr0 (sG.trans ((sX5.trans t6).trans t7)) hq7
      have y7 := fY _ _ e8 (neb sq7)
      have y6 := fY _ _ (t8 _ _ e7) (neb sq6)
      have y5 := fY _ _ (t8 _ _ (t7 _ _ e6)) (neb sq5)
      have y3 := fY _ _ (t8 _ _ (t7 _ _ (t6 _ _ (t5 _ _ e4)))) (neb sq3)
      have y1 := fY _ _ (t8 _ _ (t7 _ _ (t6 _ _ (t5 _ _ (t4 _ _ (t3 _ _ e2)))))) (neb sq1)
      have yp := fY _ _ (t8 _ _ (t7 _ _ (t6 _ _ (t5 _ _ (t4 _ _ (t3 _ _ (t2 _ _ e1))))))) (neb sp1)
      have yD := fY _ _ (sX8 _ _ tD.1) (neb fD)
      have yr : ∀ v ∈ ts.map V.ref, ∀ d, OkV (d + 1) (del b x Y) v := fun v hv d => by
        obtain ⟨p, hp, rfl⟩ := List.mem_map.mp hv
        obtain ⟨r, hr, rfl⟩ := List.getElem_of_mem hp
        exact okV_row (dl (fY _ _ (sX8 _ _ (tD.2.2 r _ (List.getElem?_eq_getElem hr))) (neb (fr _ hp))) (fr _ hp)) (by omega)
      have f0Y : Frm b G0 Y := s08.frm.trans fY
      match kk, d51 with
      | 0, _ => exact ⟨q7, _, _, _, rfl, rfl, SqL.of y7, rfl, fin bgY f0Y (okV_tup (d := 1) (dl yp sp1) fun v hv => yr v hv 0)⟩
      | 1, _ =>
        refine ⟨q7, _, _, _, rfl, rfl, SqL.of y7, rfl, fin bgY f0Y (okV_lst (d := 2) (dl y3 sq3) (by rw [List.length_append, lt]; show n + 1 ≤ 20; omega) fun v hv => ?_)⟩
        rcases List.mem_append.mp hv with h | h
        · exact yr v h 1
        · rw [List.mem_singleton.mp h]; exact okV_lst (d := 1) (dl y1 sq1) (by decide) fun _ h => (nomatch h)
      | 2, _ =>
        refine ⟨q7, _, _, _, rfl, rfl, SqL.of y7, rfl, fin bgY f0Y (okV_lst (d := 2) (dl y5 sq5) (by rw [List.length_append, lt]; show n + 1 ≤ 20; omega) fun v hv => ?_)⟩
        rcases List.mem_append.mp hv with h | h
        · exact yr v h 1
        · rw [List.mem_singleton.mp h]; exact okV_int 0
      | 3, _ =>
        refine ⟨q7, _, _, _, rfl, rfl, SqL.of y7, rfl, fin bgY f0Y (okV_lst (d := 2) (dl y6 sq6) (by show 1 ≤ 20; decide) fun v hv => ?_)⟩
        rw [List.mem_singleton.mp hv]
        exact okV_lst (d := 1) (dl yD fD) (by rw [lt]; omega) fun v hv => yr v hv 0
      | 4, _ => exact ⟨q7, _, _, _, rfl, rfl, SqL.of y7, rfl, fin bgY f0Y ((okO f0Y).mono (by decide))⟩
      | kk + 5, z => exact absurd z (by omega)
    have n1 : 1 ≤ n := by
      rcases Nat.eq_zero_or_pos n with z | z
      · rw [z] at ln
        rw [List.length_eq_zero_iff.mp ln] at hn
        simp at hn
      · exact z
    have hin : i < n := by revert i1; split <;> omega
    have hjn : j < n := by revert j1; split <;> omega
    have tX := tD.same sX
    have sX0 := sG.trans sX
    have fX : Frm b G0 X := sX0.frm
    have bgX := bag_same sX0 bg4
    obtain ⟨qi, hqi⟩ : ∃ q, ts[i]? = some q := ⟨_, List.getElem?_eq_getElem (by rw [tD.2.1]; exact hin)⟩
    obtain ⟨qj, hqj⟩ : ∃ q, ts[j]? = some q := ⟨_, List.getElem?_eq_getElem (by rw [tD.2.1]; exact hjn)⟩
    have ai : (ts.map V.ref)[i]? = some (V.ref qi) := by rw [List.getElem?_map, hqi]; rfl
    have aj : (ts.map V.ref)[j]? = some (V.ref qj) := by rw [List.getElem?_map, hqj]; rfl
    have mi := List.mem_of_getElem? hqi
    have ei := tX.2.2 i qi hqi
    have Di : D ≠ qi := fun z => nt (by rw [z]; exact mi)
    have frm_put : ∀ {Z : Hp} {q : Addr} {o : HO}, Frm b G0 Z → G0 q = none → Frm b G0 (upd Z q o) := fun f h c o e ne => by rw [upd_ne (ne_of_none e h)]; exact f c o e ne
    have rowX : ∀ {Z : Hp} {p : Addr} {d : Nat}, p ∈ ts → Z p = X p → OkV (d + 1) (del b x Z) (.ref p) := fun {Z p d} hp e => by
      obtain ⟨r, hr, rfl⟩ := List.getElem_of_mem hp
      exact okV_row (dl (e.trans (tX.2.2 r _ (List.getElem?_eq_getElem hr))) (fr _ hp)) (by omega)
    -- a row's place put otherwise
    have put : ∀ (v : V), (∀ {Z : Hp}, Frm b G0 Z → OkV 1 (del b x Z) v) → Q (.ref D) (upd X qi (.lst ((rowV n (T i)).set j v))) := fun v hv => by
      have fZ : Frm b G0 (upd X qi (.lst ((rowV n (T i)).set j v))) := frm_put fX (fr qi mi)
      refine fin (bag_put bgX (neb (fr qi mi))) fZ (okV_lst (d := 2) (dl (by rw [upd_ne Di]; exact tX.1) fD) (by rw [lt]; omega) fun x hx => ?_)
      obtain ⟨p, hp, rfl⟩ := List.mem_map.mp hx
      by_cases e : p = qi
      · rw [e]
        refine okV_lst (d := 1) (dl upd_same (fr qi mi)) (by rw [List.length_set, rowV_len]; omega) fun x hx => ?_
        rcases List.mem_or_eq_of_mem_set hx with h | h
        · obtain ⟨z, _, rfl⟩ := List.mem_map.mp h
          exact okV_int z
        · rw [h]; exact hv fZ
      · exact rowX hp (upd_ne e)
    -- a row put otherwise
    have row : ∀ (Z : Hp) (v : V), Bag Z b → Frm b G0 Z → (∀ p ∈ ts, Z p = X p) → OkV 2 (del b x (upd Z D (.lst ((ts.map V.ref).set i v)))) v → Q (.ref D) (upd Z D (.lst ((ts.map V.ref).set i v))) := fun Z v bZ fZ kZ hv => by
      have fZ' : Frm b G0 (upd Z D (.lst ((ts.map V.ref).set i v))) := frm_put fZ fD
      refine fin (bag_put bZ (neb fD)) fZ' (okV_lst (d := 2) (dl upd_same fD) (by rw [List.length_set, lt]; omega) fun x hx => ?_)
      rcases List.mem_or_eq_of_mem_set hx with h | h
      · obtain ⟨p, hp, rfl⟩ := List.mem_map.mp h
        exact rowX hp (by rw [upd_ne (fun z => nt (by rw [← z]; exact hp))]; exact kZ p hp)
      · rw [h]; exact hv
    refine ⟨_, rfl, _, _, rfl, rfl, _, rfl, ite2 (fun h4 => ?_) (fun h4 => ?_)⟩
    · refine ⟨_, rfl, _, rfl, D, _, _, _, rfl, rfl, SqL.of tX.1, atI_nat ai, _, rfl, qi, _, _, _, rfl, rfl, SqL.of ei, atI_nat (rowV_at hjn), _, _, rfl, rfl, ?_⟩
      refine ⟨_, rfl, _, rfl, D, _, _, _, rfl, rfl, SqL.of tX.1, atI_nat ai, _, rfl, qi, _, _, j, rfl, rfl, ei, ixN_nat (by rw [rowV_len]; exact hjn), ?_⟩
      exact ⟨_, rfl, put _ fun _ => okV_int _⟩
    refine ⟨_, rfl, rfl, _, rfl, ite2 (fun h5 => ?_) (fun h5 => ?_)⟩
    · refine ⟨_, rfl, _, rfl, _, rfl, D, _, _, _, rfl, rfl, SqL.of tX.1, atI_nat ai, _, rfl, qi, _, _, j, rfl, rfl, ei, ixN_nat (by rw [rowV_len]; exact hjn), ?_⟩
      exact ⟨_, rfl, put _ fun fZ => okO fZ⟩
    refine ⟨_, rfl, rfl, _, rfl, ite2 (fun h6 => ?_) (fun h6 => ?_)⟩
    · refine ⟨_, rfl, _, rfl, _, rfl, D, _, _, i, rfl, rfl, tX.1, ixN_nat (by rw [lt]; exact hin), ?_⟩
      exact ⟨_, rfl, row X ov bgX fX (fun _ _ => rfl) ((okO (frm_put fX fD)).mono (by decide))⟩
    refine ⟨_, rfl, rfl, _, rfl, ite2 (fun h7 => ?_) (fun h7 => ?_)⟩
    · refine ⟨_, rfl, _, rfl, D, _, _, _, rfl, rfl, SqL.of tX.1, atI_nat ai, _, rfl, _, rfl, qi, _, rfl, SqL.of ei, fun c1 hc1 => ?_⟩
      rw [cut_hd]
      obtain ⟨X1, z, t1, e1⟩ := lay (o := .lst ((rowV n (T i)).take j)) hc1
      rw [z]; clear z
      refine ⟨_, rfl, _, rfl, D, _, _, _, rfl, rfl, SqL.of (t1 _ _ tX.1), atI_nat ai, _, rfl, _, _, rfl, rfl, _, rfl, qi, _, rfl, SqL.of (t1 _ _ ei), fun c2 hc2 => ?_⟩
      rw [show (j : Int) + 1 = ((j + 1 : Nat) : Int) by omega, cut_dr]
      obtain ⟨X2, z, t2, e2⟩ := lay (o := .lst ((rowV n (T i)).drop (j + 1))) hc2
      rw [z]; clear z
      refine ⟨c1, c2, _, _, rfl, rfl, t2 _ _ e1, e2, (by rw [List.length_take, List.length_drop, rowV_len, sizeLine_eq]; omega), fun c3 hc3 => ?_⟩
      obtain ⟨X3, z, t3, e3⟩ := lay (o := .lst ((rowV n (T i)).take j ++ (rowV n (T i)).drop (j + 1))) hc3
      rw [z]; clear z
      have s2 := t1.trans t2
      have s3 := s2.trans t3
      refine ⟨_, rfl, _, rfl, D, _, _, _, rfl, rfl, SqL.of (s3 _ _ tX.1), atI_nat ai, (by show 1 ≤ sizeLine; decide), fun c4 hc4 => ?_⟩
      obtain ⟨X4, z, t4, e4⟩ := lay (o := .lst [.int 0]) hc4
      rw [z]; clear z
      have s4 := s3.trans t4
      refine ⟨qi, c4, _, _, rfl, rfl, s4 _ _ ei, e4, (by rw [rowV_len, sizeLine_eq]; show n + 1 ≤ _; omega), fun c5 hc5 => ?_⟩
      obtain ⟨X5, z, t5, e5⟩ := lay (o := .lst (rowV n (T i) ++ [.int 0])) hc5
      rw [z]; clear z
      have s5 := s4.trans t5
      refine ⟨_, rfl, _, rfl, D, _, _, _, rfl, rfl, SqL.of (s5 _ _ tX.1), atI_nat ai, qi, _, rfl, s5 _ _ ei, fun c6 hc6 => ?_⟩
      obtain ⟨X6, z, t6, e6⟩ := lay (o := .tup (rowV n (T i))) hc6
      rw [z]; clear z
      have s6 := s5.trans t6
      refine ⟨(by show 3 ≤ sizeLine; decide), fun c7 hc7 => ?_⟩
      obtain ⟨X7, z, t7, e7⟩ := lay (o := .lst [.ref c3, .ref c5, .ref c6]) hc7
      rw [z]; clear z
      have s7 := s6.trans t7
      have s07 := sX0.trans s7
      refine ⟨_, rfl, b, 3, rfl, bag_same s07 bg4, by decide, by decide, fun d5 Y d50 d51 bgY fY => ?_⟩
      obtain ⟨kk, rfl⟩ := Int.eq_ofNat_of_zero_le d50
      have f0Y : Frm b G0 Y := s07.frm.trans fY
      have g3 := (sX0.trans s2).free hc3
      have g5 := (sX0.trans s4).free hc5
      have g6 := (sX0.trans s5).free hc6
      have nb3 := neb g3
      have nb5 := neb ((sX0.trans s4).free hc5)
      have nb6 := neb ((sX0.trans s5).free hc6)
      have nb7 := neb ((sX0.trans s6).free hc7)
      have nD3 : c3 ≠ D := (ne_of_none (s2 _ _ tX.1) hc3).symm
      have nD5 : c5 ≠ D := (ne_of_none (s4 _ _ tX.1) hc5).symm
      have nD6 : c6 ≠ D := (ne_of_none (s5 _ _ tX.1) hc6).symm
      have y3 := fY _ _ (t7 _ _ (t6 _ _ (t5 _ _ (t4 _ _ e3)))) nb3
      have y5 := fY _ _ (t7 _ _ (t6 _ _ e5)) nb5
      have y6 := fY _ _ (t7 _ _ e6) nb6
      have y7 := fY _ _ e7 nb7
      have yD := fY _ _ (s7 _ _ tX.1) (neb fD)
      have kY : ∀ p ∈ ts, Y p = X p := fun p hp => by
        obtain ⟨r, hr, rfl⟩ := List.getElem_of_mem hp
        have e := tX.2.2 r _ (List.getElem?_eq_getElem hr)
        rw [e]
        exact fY _ _ (s7 _ _ e) (neb (fr _ hp))
      have allI : ∀ {Z : Hp} {x : V}, x ∈ rowV n (T i) → OkV 1 Z x := fun h => by
        obtain ⟨z, _, rfl⟩ := List.mem_map.mp h
        exact okV_int z
      match kk, d51 with
      | 0, _ =>
        refine ⟨c7, _, _, _, rfl, rfl, SqL.of y7, rfl, _, rfl, _, rfl, D, _, _, i, rfl, rfl, yD, ixN_nat (by rw [lt]; exact hin), _, rfl, row Y _ bgY f0Y kY (okV_lst (d := 1) (dl (by rw [upd_ne nD3]; exact y3) g3) (by rw [List.length_append, List.length_take, List.length_drop, rowV_len]; omega) fun x hx => ?_)⟩
        rcases List.mem_append.mp hx with h | h
        · exact allI (List.mem_of_mem_take h)
        · exact allI (List.mem_of_mem_drop h)
      | 1, _ =>
        refine ⟨c7, _, _, _, rfl, rfl, SqL.of y7, rfl, _, rfl, _, rfl, D, _, _, i, rfl, rfl, yD, ixN_nat (by rw [lt]; exact hin), _, rfl, row Y _ bgY f0Y kY (okV_lst (d := 1) (dl (by rw [upd_ne nD5]; exact y5) g5) (by rw [List.length_append, rowV_len]; show n + 1 ≤ 20; omega) fun x hx => ?_)⟩
        rcases List.mem_append.mp hx with h | h
        · exact allI h
        · rw [List.mem_singleton.mp h]; exact okV_int 0
      | 2, _ =>
        exact ⟨c7, _, _, _, rfl, rfl, SqL.of y7, rfl, _, rfl, _, rfl, D, _, _, i, rfl, rfl, yD, ixN_nat (by rw [lt]; exact hin), _, rfl, row Y _ bgY f0Y kY (okV_tup (d := 1) (dl (by rw [upd_ne nD6]; exact y6) g6) fun x hx => allI hx)⟩
      | kk + 3, z => exact absurd z (by omega)
    refine ⟨_, rfl, rfl, _, rfl, ite2 (fun h8 => ?_) (fun h8 => ?_)⟩
    · refine ⟨_, rfl, _, rfl, _, rfl, D, _, rfl, SqL.of tX.1, fun c1 hc1 => ?_⟩
      rw [cut_hd]
      obtain ⟨X1, z, t1, e1⟩ := lay (o := .lst ((ts.map V.ref).take i)) hc1
      rw [z]; clear z
      refine ⟨_, rfl, _, rfl, _, _, rfl, rfl, _, rfl, D, _, rfl, SqL.of (t1 _ _ tX.1), fun c2 hc2 => ?_⟩
      rw [show (i : Int) + 1 = ((i + 1 : Nat) : Int) by omega, cut_dr]
      obtain ⟨X2, z, t2, e2⟩ := lay (o := .lst ((ts.map V.ref).drop (i + 1))) hc2
      rw [z]; clear z
      refine ⟨c1, c2, _, _, rfl, rfl, t2 _ _ e1, e2, (by rw [List.length_take, List.length_drop, lt, sizeLine_eq]; omega), fun c3 hc3 => ?_⟩
      obtain ⟨X3, z, t3, e3⟩ := lay (o := .lst ((ts.map V.ref).take i ++ (ts.map V.ref).drop (i + 1))) hc3
      rw [z]; clear z
      have s3 := (t1.trans t2).trans t3
      refine ⟨_, rfl, fin (bag_same (sX0.trans s3) bg4) (sX0.trans s3).frm (okV_lst (d := 2) (dl e3 ((sX0.trans (t1.trans t2)).free hc3)) (by rw [List.length_append, List.length_take, List.length_drop, lt]; omega) fun x hx => ?_)⟩
      have hx' : x ∈ ts.map V.ref := by
        rcases List.mem_append.mp hx with h | h
        · exact List.mem_of_mem_take h
        · exact List.mem_of_mem_drop h
      obtain ⟨p, hp, rfl⟩ := List.mem_map.mp hx'
      obtain ⟨r, hr, rfl⟩ := List.getElem_of_mem hp
      exact okV_row (dl (s3 _ _ (tX.2.2 r _ (List.getElem?_eq_getElem hr))) (fr _ hp)) (by omega)
    · refine ⟨_, rfl, _, rfl, D, _, _, _, rfl, rfl, SqL.of tX.1, atI_nat aj, _, rfl, _, rfl, D, _, _, _, rfl, rfl, SqL.of tX.1, atI_nat ai, (by show 2 ≤ sizeLine; decide), fun tp htp => ?_⟩
      obtain ⟨X1, z, t1, e1⟩ := lay (o := .tup [.ref qj, .ref qi]) htp
      rw [z]; clear z
      refine ⟨tp, _, rfl, SqT.of e1, rfl, _, _, rfl, _, rfl, _, rfl, D, _, _, i, rfl, rfl, t1 _ _ tX.1, ixN_nat (by rw [lt]; exact hin), _, _, rfl, _, rfl, _, rfl, D, _, _, j, rfl, rfl, upd_same, ixN_nat (by rw [List.length_set, lt]; exact hjn), rfl, ?_⟩
      have f1 : Frm b G0 X1 := (sX0.trans t1).frm
      refine ⟨_, rfl, fin (bag_put (bag_put (bag_same (sX0.trans t1) bg4) (neb fD)) (neb fD)) (frm_put (frm_put f1 fD) fD) (okV_lst (d := 2) (dl upd_same fD) (by rw [List.length_set, List.length_set, lt]; omega) fun x hx => ?_)⟩
      have hx' : x ∈ ts.map V.ref := by
        rcases List.mem_or_eq_of_mem_set hx with h | h
        · rcases List.mem_or_eq_of_mem_set h with h | h
          · exact h
          · rw [h]; exact List.mem_of_getElem? aj
        · rw [h]; exact List.mem_of_getElem? ai
      obtain ⟨p, hp, rfl⟩ := List.mem_map.mp hx'
      have pD : p ≠ D := fun z => nt (by rw [← z]; exact hp)
      refine rowX hp ?_
      rw [upd_ne pD, upd_ne pD]
      obtain ⟨r, hr, rfl⟩ := List.getElem_of_mem hp
      have e := tX.2.2 r _ (List.getElem?_eq_getElem hr)
      rw [e, t1 _ _ e]

end
end Qk27

namespace Qk27
open PySem L2 PyProof.Rows
section
variable {P : Program} {w : World} {K : PySem.W.Frag} {mg : Str → Option Value} {base : Heap}
/-! ### tables as trees -/
theorem repLs_by {G : Hp} : ∀ {vs : List V} {ls : List Lit}, vs.length = ls.length → (∀ (i : Nat) (v : V) (l : Lit), vs[i]? = some v → ls[i]? = some l → RepL G v l) → RepLs G vs ls
  | [], [], _, _ => .nil
  | [], _ :: _, h, _ => by cases h
  | _ :: _, [], h, _ => by cases h
  | v :: vs, l :: ls, h, q => .cons (q 0 v l rfl rfl) (repLs_by (Nat.succ.inj h) fun i u m h1 h2 => q (i + 1) u m (by simpa using h1) (by simpa using h2))
theorem repLs_ints {G : Hp} : ∀ (l : List Int), RepLs G (l.map V.int) (l.map Lit.int)
  | [] => .nil
  | i :: l => .cons (.int i) (repLs_ints l)
end
end Qk27

namespace Qk27
open PySem L2 PyProof.Rows
section
variable {P : Program} {w : World} {K : PySem.W.Frag} {mg : Str → Option Value} {base : Heap}
abbrev s_bits_of : Stmt := top 19
theorem sc_bits_of : FnScope ["mask", "many"] ["mask", "many"] (defScope s_bits_of) := ⟨rfl, rfl, rfl, by decide +kernel, rfl, by decide +kernel, by decide +kernel⟩
theorem ok_bitsOf {f : Addr} {fd : FuncData} (F : Fun K "bits_of" "bits_of" s_bits_of f fd) (b_range : mg "range" = none) : FnOk P w K mg base CX0 1 f fd ["mask", "many"] spBitsOf := by
  refine F.ok sc_bits_of (fun vs H Q E h => ?_) (fun cdv A outer s H vs Q E hr h => ?_)
  · obtain ⟨n, v, rfl, _⟩ := h
    rfl
  · obtain ⟨n, v, rfl, hn, hv, k⟩ := h
    refine ⟨_, (pss_one (ps_ret (pe_lc (Ls := ["j"]) (Fs := ["mask"]) (fi := [0]) (LcScope.of (show lcLook ["mask", "many"] (defScope s_bits_of) _ ["mask"] [0] = true by decide +kernel)) rfl (pi_range1 (by rfl) b_range (pa_cons (pv 1) pa_nil)) (fun cl C s3 H3 ex => ⟨(pg_name (i := 0) (show ((["j"] : List Str) ++ (["mask"] : List Str)).Nodup by decide +kernel) rfl (Or.inl rfl)), pts_nil, (pe_op op_and (pe_op op_shr (pv 1) (pv 0)) pe_int)⟩)))), ?_⟩
    have h256 : v < 256 := Nat.lt_of_lt_of_le hv (Nat.pow_le_pow_right (by decide) hn : 2 ^ n ≤ 2 ^ 8)
    refine ⟨_, rfl, n, rfl, by omega, by omega, lc_rng (n := n) (by rw [sizeLine_eq]; omega) (fun i zs G => Same H G ∧ zs = (rowV n v).take i) ⟨Same.refl _, rfl⟩ (fun i zs G p => by rw [p.2, List.length_take]; omega) (fun i zs G hi p => ?_) (fun zs G p D hD => ?_)⟩
    · obtain ⟨s', rfl⟩ := p
      refine lcG ⟨_, rfl, _, rfl, _, _, rfl, rfl, (by show (0 : Int) ≤ _; omega), _, _, rfl, rfl, s', ?_⟩
      rw [List.take_add_one, rowV_at hi]
      show _ ++ [V.int (Builtin.bitAnd ((v : Int) / 2 ^ _) 1)] = _
      rw [show ((0 : Int) + (i : Int)).toNat = i by omega, shr8 v h256 i (by omega)]
      rfl
    · obtain ⟨s', rfl⟩ := p
      rw [List.take_of_length_le (by rw [rowV_len]; exact Nat.le_refl _)]
      exact k D _ (s'.free hD) (s'.step hD) upd_same
/-- a thing that is no table is refused -/
def spNoTab (C : Addr) : Sp := fun vs H Q E => ∃ (v : V) (l : Lit), vs = [v] ∧ RepL H v l ∧ okL 3 l = true ∧ ¬ GoodL l ∧ ∀ H', Same H H' → E (.ref C) none H'
abbrev s_table_pairing : Stmt := top 25
theorem sc_table_pairing : FnScope ["thing"] ["thing"] (defScope s_table_pairing) := ⟨rfl, rfl, rfl, by decide +kernel, rfl, by decide +kernel, by decide +kernel⟩
theorem ok_tabPair {C a_NoTable : Addr} {f : Addr} {fd : FuncData} (F : Fun K "table_pairing" "table_pairing" s_table_pairing f fd) (g_NoTable : mg "NoTable" = some (.ref a_NoTable)) (x_NoTable : PySem.W.excIn K a_NoTable bmV "ValueError.__new__" = true) (g_Pairing : mg "Pairing" = some (.ref C)) (i_Pairing : HasI P w K mg base 3 C ["self", "table"] (spInit C)) (h_is_table : Has P w K mg base 5 "is_table" ["thing"] spIsTabG) :
    FnOk P w K mg base (CX1 P w) 6 f fd ["thing"] (spNoTab a_NoTable) := by
  refine F.okX sc_table_pairing (fun vs H Q E h => ?_) (fun cdv A outer s H vs Q E hr h => ?_)
  · obtain ⟨v, l, rfl, _⟩ := h
    rfl
  · obtain ⟨v, l, rfl, rl, okl, ng, k⟩ := h
    refine ⟨_, (pss_cons (ps_if (pt_not (pt_val (pe_has h_is_table (hr.mono (by decide)) (pa_cons (pv 0) pa_nil)))) (pss_one (ps_raise (by rfl) g_NoTable x_NoTable (pa_cons pe_str pa_nil))) pss_nil)
      (pss_one (ps_ret (pe_hasI i_Pairing (hr.mono (by decide)) (by rfl) g_Pairing (pa_cons (pv 0) pa_nil))))), ?_⟩
    refine ⟨_, rfl, v, l, rfl, rl, okl, fun b H1 s1 hb => ?_⟩
    have eb : b = false := by
      cases b with
      | false => rfl
      | true => exact absurd (hb.mp rfl) ng
    subst eb
    exact ⟨_, rfl, iteT ⟨(by show 1 ≤ sizeLine; decide), k H1 s1⟩⟩
abbrev s_table_partners : Stmt := top 26
theorem sc_table_partners : FnScope ["table"] ["table"] (defScope s_table_partners) := ⟨rfl, rfl, rfl, by decide +kernel, rfl, by decide +kernel, by decide +kernel⟩
theorem ok_tabPart {C a_NoTable : Addr} {f : Addr} {fd : FuncData} (F : Fun K "table_partners" "table_partners" s_table_partners f fd) (h_table_pairing : HasX P w K mg base 6 "table_pairing" ["thing"] (spNoTab a_NoTable)) : FnOk P w K mg base (CX1 P w) 7 f fd ["table"] (spNoTab a_NoTable) := by
  refine F.okX sc_table_partners (fun vs H Q E h => ?_) (fun cdv A outer s H vs Q E hr h => ?_)
  · obtain ⟨v, l, rfl, _⟩ := h
    rfl
  · obtain ⟨v, l, rfl, rl, okl, ng, k⟩ := h
    refine ⟨_, (pss_one (ps_ret (pe_fldK (K := K) rfl (pe_fld (pe_hasX h_table_pairing (hr.mono (by decide)) pass1 (pa_cons (pv 0) pa_nil)) rfl)))), ?_⟩
    exact ⟨_, rfl, v, l, rfl, rl, okl, ng, k⟩
abbrev s_slide : Stmt := top 27
theorem sc_slide : FnScope ["table"] ["table"] (defScope s_slide) := ⟨rfl, rfl, rfl, by decide +kernel, rfl, by decide +kernel, by decide +kernel⟩
theorem ok_slide {C a_NoTable : Addr} {f : Addr} {fd : FuncData} (F : Fun K "slide" "slide" s_slide f fd) (h_table_pairing : HasX P w K mg base 6 "table_pairing" ["thing"] (spNoTab a_NoTable)) (h_bits_of : Has P w K mg base 1 "bits_of" ["mask", "many"] spBitsOf) (b_len : mg "len" = none) : FnOk P w K mg base (CX1 P w) 7 f fd ["table"] (spNoTab a_NoTable) := by
  refine F.okX sc_slide (fun vs H Q E h => ?_) (fun cdv A outer s H vs Q E hr h => ?_)
  · obtain ⟨v, l, rfl, _⟩ := h
    rfl
  · obtain ⟨v, l, rfl, rl, okl, ng, k⟩ := h
    refine ⟨_, (pss_one (ps_ret (pe_lc (Ls := ["mask"]) (Fs := ["table"]) (fi := [0]) (LcScope.of (show lcLook ["table"] (defScope s_slide) _ ["table"] [0] = true by decide +kernel)) rfl (pi_listK (K := K) rfl (pe_fldK (K := K) rfl (pe_fld (pe_hasX h_table_pairing (hr.mono (by decide)) pass1 (pa_cons (pv 0) pa_nil)) rfl))) (fun cl C s3 H3 ex => ⟨(pg_name (i := 0) (show ((["mask"] : List Str) ++ (["table"] : List Str)).Nodup by decide +kernel) rfl (Or.inl rfl)), pts_nil, (pe_has h_bits_of (hr.mono (by decide)) (pa_cons (pv 0) (pa_cons (pe_callB (call_lenK (K := K) rfl) (by rfl) b_len PySem.boot_len (pa_cons (pv 1) pa_nil)) pa_nil)))⟩)))), ?_⟩
    exact ⟨_, rfl, v, l, rfl, rl, okl, ng, k⟩
end
end Qk27

namespace Qk27
open PySem L2 PyProof.Rows
section
variable {P : Program} {w : World} {K : PySem.W.Frag} {mg : Str → Option Value} {base : Heap}
theorem rCat_new {l b : Addr} {xs zs : List V} {H : Hp} {Q : VK} (hl : H l = some (.lst xs)) (hb : H b = some (.lst zs)) (hz : xs.length + zs.length ≤ sizeLine) (h : ∀ p H', H p = none → Same H H' → H' p = some (.lst (xs ++ zs)) → Q (.ref p) H') : rCat (.ref l) (.ref b) H Q :=
  ⟨l, b, xs, zs, rfl, rfl, hl, hb, hz, fun p hp => h p _ hp (Same.laid hp) upd_same⟩
/-- what was caught is a NoTable, and nothing else of these -/
def spOnly (C : Addr) : Sp := fun vs H Q _ => ∃ (a : Addr), vs = [.ref a, .int 2] ∧ H a = some (.ext (isX a C)) ∧ ∀ H', Same H H' → Q (.bl true) H'
abbrev s__law_only : Stmt := top 40
theorem sc__law_only : FnScope ["_law_e", "_law_due", "_law_kinds"] ["_law_e", "_law_due"] (defScope s__law_only) := ⟨rfl, rfl, rfl, by decide +kernel, rfl, by decide +kernel, by decide +kernel⟩
theorem ok_only {f a_NoHeights a_TooMany a_NoTable a_NoSetting a_NoBanding a_NoMove a_NoName a_NoPaper a_NoRow a_NoText : Addr} {fd : FuncData} (F : Fun K "_law_only" "_law_only" s__law_only f fd) (g_NoHeights : mg "NoHeights" = some (.ref a_NoHeights)) (g_TooMany : mg "TooMany" = some (.ref a_TooMany)) (g_NoTable : mg "NoTable" = some (.ref a_NoTable)) (g_NoSetting : mg "NoSetting" = some (.ref a_NoSetting)) (g_NoBanding : mg "NoBanding" = some (.ref a_NoBanding)) (g_NoMove : mg "NoMove" = some (.ref a_NoMove)) (g_NoName : mg "NoName" = some (.ref a_NoName)) (g_NoPaper : mg "NoPaper" = some (.ref a_NoPaper)) (g_NoRow : mg "NoRow" = some (.ref a_NoRow)) (g_NoText : mg "NoText" = some (.ref a_NoText)) (xc : XCls K a_NoTable) (q0 : PySem.W.kitOne K (.ref a_NoTable) (.ref a_NoHeights) = some false) (q1 : PySem.W.kitOne K (.ref a_NoTable) (.ref a_TooMany) = some false) (q2 : PySem.W.kitOne K (.ref a_NoTable) (.ref a_NoTable) = some true) (q3 : PySem.W.kitOne K (.ref a_NoTable) (.ref a_NoSetting) = some false) (q4 : PySem.W.kitOne K (.ref a_NoTable) (.ref a_NoBanding) = some false) (q5 : PySem.W.kitOne K (.ref a_NoTable) (.ref a_NoMove) = some false) (q6 : PySem.W.kitOne K (.ref a_NoTable) (.ref a_NoName) = some false) (q7 : PySem.W.kitOne K (.ref a_NoTable) (.ref a_NoPaper) = some false) (q8 : PySem.W.kitOne K (.ref a_NoTable) (.ref a_NoRow) = some false) (q9 : PySem.W.kitOne K (.ref a_NoTable) (.ref a_NoText) = some false) (qv : PySem.W.kitOne K (.ref a_NoTable) (.type "ValueError") = some true) (b_isinstance : mg "isinstance" = none) (b_ValueError : mg "ValueError" = none) (b_range : mg "range" = none) :
    FnOkQ P w K mg base 1 f fd ["_law_e", "_law_due"] (spOnly a_NoTable) := by
  refine F.okQ sc__law_only (fun vs H Q E h => ?_) (fun cdv A outer s H vs Q hr hq h => ?_)
  · obtain ⟨a, rfl, _⟩ := h
    rfl
  · obtain ⟨a, rfl, ha, k⟩ := h
    have qa : PySem.W.kitAny K (.ref a_NoTable) [.ref a_NoMove, .ref a_NoName, .ref a_NoPaper, .ref a_NoRow, .ref a_NoText] = some false := by simp only [PySem.W.kitAny, q5, q6, q7, q8, q9]
    refine ⟨_, (pss_cons (ps_set (i := 2) sc__law_only.nd rfl (Or.inl rfl) (pe_lst (pa_cons (pe_callB (call_isXT (K := K) rfl) (by rfl) b_isinstance boot_isinstance (pa_cons (pv 0) (pa_cons (pe_glob (v := .ref a_NoHeights) (by rfl) g_NoHeights rfl) pa_nil))) (pa_cons (pe_callB (call_isXT (K := K) rfl) (by rfl) b_isinstance boot_isinstance (pa_cons (pv 0) (pa_cons (pe_glob (v := .ref a_TooMany) (by rfl) g_TooMany rfl) pa_nil))) (pa_cons (pe_callB (call_isXT (K := K) rfl) (by rfl) b_isinstance boot_isinstance (pa_cons (pv 0) (pa_cons (pe_glob (v := .ref a_NoTable) (by rfl) g_NoTable rfl) pa_nil))) (pa_cons (pe_callB (call_isXT (K := K) rfl) (by rfl) b_isinstance boot_isinstance (pa_cons (pv 0) (pa_cons (pe_glob (v := .ref a_NoSetting) (by rfl) g_NoSetting rfl) pa_nil))) pa_nil))))))
      (pss_cons (ps_set (i := 2) sc__law_only.nd rfl (Or.inl rfl) (pe_op op_cat (pv 2) (pe_lst (pa_cons (pe_callB (call_isXT (K := K) rfl) (by rfl) b_isinstance boot_isinstance (pa_cons (pv 0) (pa_cons (pe_glob (v := .ref a_NoBanding) (by rfl) g_NoBanding rfl) pa_nil))) (pa_cons (pe_callB (call_isXT (K := K) rfl) (by rfl) b_isinstance boot_isinstance (pa_cons (pv 0) (pa_cons (pe_tup (pa_cons (pe_glob (v := .ref a_NoMove) (by rfl) g_NoMove rfl) (pa_cons (pe_glob (v := .ref a_NoName) (by rfl) g_NoName rfl) (pa_cons (pe_glob (v := .ref a_NoPaper) (by rfl) g_NoPaper rfl) (pa_cons (pe_glob (v := .ref a_NoRow) (by rfl) g_NoRow rfl) (pa_cons (pe_glob (v := .ref a_NoText) (by rfl) g_NoText rfl) pa_nil)))))) pa_nil))) pa_nil)))))
      (pss_one (ps_ret (pe_and (pe_callB (call_isXT (K := K) rfl) (by rfl) b_isinstance boot_isinstance (pa_cons (pv 0) (pa_cons (pe_bltn (v := .ty "ValueError") (by rfl) b_ValueError PyProof.Rows.Boot.«ValueError» rfl) pa_nil))) (pe_one (pe_cmpR (op_eqvK (K := K) rfl hr.units) (pv 2) (pe_lcQ (Ls := ["_law_k"]) (Fs := ["_law_due"]) (fi := [1]) (LcScope.of (show lcLook ["_law_e", "_law_due", "_law_kinds"] (defScope s__law_only) _ ["_law_due"] [1] = true by decide +kernel)) (pi_rangeQ rfl (by rfl) b_range (pa_cons pe_int pa_nil)) (fun cl C s3 H3 ex => ⟨(pg_name (i := 0) (show ((["_law_k"] : List Str) ++ (["_law_due"] : List Str)).Nodup by decide +kernel) rfl (Or.inl rfl)), pts_nil, (pe_cmpR op_eq (pv 1) (pv 0) (nomark _))⟩)) (nomark _)))))))), ?_⟩
    refine ⟨_, rfl, a, _, _, false, rfl, ha, xc, .inl ⟨_, rfl, q0⟩, _, rfl, a, _, _, false, rfl, ha, xc, .inl ⟨_, rfl, q1⟩, _, rfl, a, _, _, true, rfl, ha, xc, .inl ⟨_, rfl, q2⟩, _, rfl, a, _, _, false, rfl, ha, xc, .inl ⟨_, rfl, q3⟩, (by show 4 ≤ sizeLine; decide), fun p1 hp1 => ?_⟩
    obtain ⟨H1, z, s1, e1⟩ := lay (o := .lst [.bl false, .bl false, .bl true, .bl false]) hp1
    rw [z]; clear z
    have ha1 := s1 _ _ ha
    refine ⟨_, rfl, _, rfl, a, _, _, false, rfl, ha1, xc, .inl ⟨_, rfl, q4⟩, _, rfl, (by show 5 ≤ sizeLine; decide), fun p2 hp2 => ?_⟩
    obtain ⟨H2, z, s2, e2⟩ := lay (o := .tup [.ref a_NoMove, .ref a_NoName, .ref a_NoPaper, .ref a_NoRow, .ref a_NoText]) hp2
    rw [z]; clear z
    have ha2 := s2 _ _ ha1
    refine ⟨a, _, _, false, rfl, ha2, xc, .inr (.inr ⟨p2, [a_NoMove, a_NoName, a_NoPaper, a_NoRow, a_NoText], rfl, e2, qa⟩), (by show 2 ≤ sizeLine; decide), fun p3 hp3 => ?_⟩
    obtain ⟨H3, z, s3, e3⟩ := lay (o := .lst [.bl false, .bl false]) hp3
    rw [z]; clear z
    refine rCat_new (s3 _ _ (s2 _ _ e1)) e3 (by show 6 ≤ sizeLine; decide) (fun p4 H4 hp4 s4 e4 => ?_)
    have ha4 := s4 _ _ (s3 _ _ ha2)
    have s04 : Same H H4 := ((s1.trans s2).trans s3).trans s4
    refine ⟨_, rfl, a, _, _, true, rfl, ha4, xc, .inr (.inl ⟨_, rfl, qv⟩), ?_⟩
    refine ⟨true, rfl, iteT ?_⟩
    refine ⟨_, rfl, 6, rfl, by decide, by decide, lc_rngQ (n := 6) (by rw [sizeLine_eq]; decide) (fun i zs G => Same H4 G ∧ zs = (List.range i).map fun j => V.bl (decide (j = 2))) ⟨Same.refl _, rfl⟩ (fun i zs G q => by rw [q.2, List.length_map, List.length_range]; exact Nat.le_refl _) (fun zs G q => hq.same (s04.trans q.1)) (fun i zs G hi q => ?_) (fun zs G q D hD => ?_)⟩
    · obtain ⟨sG, rfl⟩ := q
      refine lcG ⟨_, rfl, _, rfl, rfl, sG, ?_⟩
      have : decide (V.int 2 = V.int (0 + (i : Int))) = decide (i = 2) := decide_eq_decide.mpr ⟨fun z => by injection z with z; omega, fun z => by subst z; rfl⟩
      rw [this, List.range_succ, List.map_append]
      rfl
    · obtain ⟨sG, rfl⟩ := q
      refine ⟨p4, D, _, _, rfl, rfl, SqL.of ((sG.step hD) _ _ e4), SqL.of upd_same, rfl, fun i x y hx hy => ?_, k _ ((s04.trans sG).step hD)⟩
      have e : ([V.bl false, V.bl false, V.bl true, V.bl false] ++ [V.bl false, V.bl false]) = (List.range 6).map fun j => V.bl (decide (j = 2)) := rfl
      rw [e] at hx
      rw [hx] at hy
      cases hy
      obtain ⟨j, _, rfl⟩ := List.mem_map.mp (List.mem_of_getElem? hx)
      exact .flat rfl
end
end Qk27

namespace Qk27
open PySem L2 PyProof.Rows
section
variable {P : Program} {w : World} {K : PySem.W.Frag} {mg : Str → Option Value} {base : Heap}
/-- both are refused of a thing that is no table, and with a NoTable alone -/
def spRefused : Sp := fun vs H Q _ => ∃ (w' : Int) (v : V) (l : Lit), vs = [.int w', v] ∧ RepL H v l ∧ okL 3 l = true ∧ ¬ GoodL l ∧ ∀ H', Same H H' → Q (.bl true) H'
abbrev s__law_refused : Stmt := top 41
theorem sc__law_refused : FnScope ["_law_which", "_law_thing", "_law_e"] ["_law_which", "_law_thing"] (defScope s__law_refused) := ⟨rfl, rfl, rfl, by decide +kernel, rfl, by decide +kernel, by decide +kernel⟩
theorem ok_refused {f a_NoTable a_FrontError : Addr} {fd : FuncData} (F : Fun K "_law_refused" "_law_refused" s__law_refused f fd) (g_FrontError : mg "FrontError" = some (.ref a_FrontError)) (x_FrontError : PySem.W.excIn K a_FrontError bmV "ValueError.__new__" = true) (m_NoTable : PySem.W.mroIn K a_NoTable (.ref a_FrontError) = some true)
    (h_table_partners : HasX P w K mg base 7 "table_partners" ["table"] (spNoTab a_NoTable)) (h_slide : HasX P w K mg base 7 "slide" ["table"] (spNoTab a_NoTable)) (h__law_only : HasQ P w K mg base 1 "_law_only" ["_law_e", "_law_due"] (spOnly a_NoTable)) : FnOk P w K mg base CX0 8 f fd ["_law_which", "_law_thing"] spRefused := by
  refine F.ok sc__law_refused (fun vs H Q E h => ?_) (fun cdv A outer s H vs Q E hr h => ?_)
  · obtain ⟨w', v, l, rfl, _⟩ := h
    rfl
  · obtain ⟨w', v, l, rfl, rl, okl, ng, k⟩ := h
    let R_try : Addr → Hp → Prop := fun C H' => C = a_NoTable ∧ Same H H'
    have hR_try : ∀ C H', R_try C H' → PySem.W.mroIn K C (.ref a_FrontError) = some true := fun C H' z => by rw [z.1]; exact m_NoTable
    refine ⟨_, (pss_cons (ps_try R_try (fun pins => (pss_one (ps_if (pt_cmpR op_eq (pv 0) pe_int (nomark _)) (pss_one (ps_expr (pe_hasX h_table_partners (hr.mono (by decide)) (passT rfl) (pa_cons (pv 1) pa_nil)))) (pss_one (ps_expr (pe_hasX h_slide (hr.mono (by decide)) (passT rfl) (pa_cons (pv 1) pa_nil))))))) (fun pins a_x => (pss_one (ps_ret (pe_hasQ h__law_only ((hr.mono (by decide)).suite _) rfl (pa_cons (pv 2) (pa_cons pe_int pa_nil)))))) (by rfl) g_FrontError x_FrontError hR_try sc__law_refused.nd (i := 2) rfl rfl)
      (pss_one (ps_ret pe_bl))), ?_⟩
    refine ⟨?_, fun a C H1 hR ha => ?_⟩
    · refine ⟨_, rfl, rfl, _, rfl, ite2 (fun _ => ?_) (fun _ => ?_)⟩
      · exact ⟨_, rfl, v, l, rfl, rl, okl, ng, fun H' s' => ⟨a_NoTable, rfl, rfl, s'⟩⟩
      · exact ⟨_, rfl, v, l, rfl, rl, okl, ng, fun H' s' => ⟨a_NoTable, rfl, rfl, s'⟩⟩
    · obtain ⟨rfl, s1⟩ := hR
      have s2 : Same H1 (upd H1 a (.ext (isX a C))) := Same.laid ha
      have e2 : (upd H1 a (.ext (isX a C))) a = some (.ext (isX a C)) := upd_same
      generalize upd H1 a (.ext (isX a C)) = H2 at *
      exact ⟨_, rfl, fun x e => by cases e; exact ⟨a, C, rfl, e2⟩, a, rfl, e2, fun H' s3 => k H' ((s1.trans s2).trans s3)⟩
end
end Qk27

namespace Qk27
open PySem L2 PyProof.Rows
section
variable {P : Program} {w : World} {K : PySem.W.Frag} {mg : Str → Option Value} {base : Heap}
def spLaw (K : PySem.W.Frag) : Sp := fun vs H Q _ => ∃ (a : Addr) (ns : List Int), vs = [.ref a] ∧ SqL K H a (ns.map V.int) ∧ ns.length ≤ 63 ∧ ∀ H', Q (.bl true) H'
def wd (i j : Nat) : Int := if j = i + 1 ∧ i % 2 = 0 then 1 else 0
def litW (n : Nat) : List Lit := (List.range n).map fun i => .lst ((List.range 10).map fun j => .int (wd i j))
theorem repLs_take {H : Hp} : ∀ {vs : List V} {ls : List Lit} (n : Nat), RepLs H vs ls → RepLs H (vs.take n) (ls.take n)
  | _, _, 0, _ => .nil
  | _, _, _ + 1, .nil => .nil
  | _, _, n + 1, .cons a r => .cons a (repLs_take n r)
theorem odd_no {ls : List Lit} (h : ls.length = 1) : ¬ GoodL (.lst ls) := fun g => by
  obtain ⟨S, p, U⟩ := up_ex g.2.1 g.2.2.1
  have := U.half.mpr (g.2.2.2 S p U)
  omega
theorem low_no : ¬ GoodL (.lst [.lst [.int 0, .int 1], .lst [.int 1, .int 0]]) := fun g => by
  have := (g.2.1 1 (by decide)).2 0 (by decide)
  revert this
  decide
abbrev lits : List Lit := [.non, .bl true, .int 0, .str "", .tup [], .lst [.lst []], .lst [.int 0], .lst [.lst [.int 0]], .lst [.lst [.int 0, .int 1], .lst [.int 1, .int 0]], .lst [.lst [.int 0, .bl true], .lst [.int 0, .int 0]], .lst (litW 10), .lst (litW 9)]
theorem lits_ok : ∀ l ∈ lits, okL 3 l = true ∧ ¬ GoodL l := fun l hl => by
  have sh : ∀ l : Lit, shapeL l = false → ¬ GoodL l := fun l h g => by rw [goodL_shape g] at h; cases h
  simp only [lits, List.mem_cons, List.mem_nil_iff, or_false] at hl
  rcases hl with rfl | rfl | rfl | rfl | rfl | rfl | rfl | rfl | rfl | rfl | rfl | rfl
  · exact ⟨rfl, sh _ rfl⟩
  · exact ⟨rfl, sh _ rfl⟩
  · exact ⟨rfl, sh _ rfl⟩
  · exact ⟨rfl, sh _ rfl⟩
  · exact ⟨rfl, sh _ rfl⟩
  · exact ⟨by decide, sh _ (by decide)⟩
  · exact ⟨by decide, sh _ (by decide)⟩
  · exact ⟨by decide, odd_no rfl⟩
  · exact ⟨by decide, low_no⟩
  · exact ⟨by decide, sh _ (by decide)⟩
  · exact ⟨by decide +kernel, sh _ (by decide +kernel)⟩
  · exact ⟨by decide +kernel, sh _ (by decide +kernel)⟩
abbrev s_law : Stmt := top 42
theorem sc_law : FnScope ["_law_script", "_law_k", "_law_bag_here", "_law_odds", "_law_table", "_law_due", "_law_led", "_law_things", "_law_thing", "_law_wide"] ["_law_script"] (defScope s_law) := ⟨rfl, rfl, rfl, by decide +kernel, rfl, by decide +kernel, by decide +kernel⟩
theorem ok_law {f : Addr} {fd : FuncData} (F : Fun K "law" "law" s_law f fd) (h__law_bag : Has P w K mg base 1 "_law_bag" ["_law_script", "_law_at"] (spBag K)) (h__law_pair_table : Has P w K mg base 2 "_law_pair_table" ["_law_bag_here", "_law_most"] spPT)
    (h__law_slid : Has P w K mg base 2 "_law_slid" ["_law_bag_here", "_law_table", "_law_most"] spSlid) (h__law_is_table : Has P w K mg base 3 "_law_is_table" ["_law_thing"] spIsTabG) (h__law_odd_table : Has P w K mg base 2 "_law_odd_table" ["_law_bag_here", "_law_table"] spOdd) (h__law_refused : Has P w K mg base 8 "_law_refused" ["_law_which", "_law_thing"] spRefused)
    (b_range : mg "range" = none) (b_len : mg "len" = none) (b_max : mg "max" = none) (b_min : mg "min" = none) (b_int : mg "int" = none) : FnOk P w K mg base CX0 9 f fd ["_law_script"] (spLaw K) := by
  refine F.ok sc_law (fun vs H Q E h => ?_) (fun cdv A outer s H vs Q E hr h => ?_)
  · obtain ⟨a, ns, rfl, _⟩ := h
    rfl
  · obtain ⟨a, ns, rfl, hS, hlen, k⟩ := h
    let gLit : L2.St → Hp → Prop := fun σ H => ∃ v, σ[9]? = some (some v) ∧ RepL H v (.lst (litW 10))
    have keepsG : Keeps gLit := fun _ _ _ s ⟨v, e, r⟩ => ⟨v, e, r.same s⟩
    have v__law_wide : ∀ σ H, gLit σ H → ∃ v, σ[9]? = some (some v) ∧ RepL H v (.lst (litW 10)) := fun _ _ h => h
    have c_cut : ∀ (σ : L2.St) (H : Hp) (Q : VK), gLit σ H → (∀ (v : V) (H' : Hp), Same H H' → RepL H' v (.lst (litW 9)) → Q v H') → tSl (rSlL K) (tVar 9) tNoPart (tPart (tC (V.int 9))) σ H Q := fun σ H Q ⟨v, e, r⟩ h => by
      cases r with
      | @lst p xs _ ep rs =>
        refine ⟨_, e, 9, rfl, p, xs, rfl, SqL.of ep, fun c hc => ?_⟩
        have lx : xs.length = 10 := rs.len
        have ec : cutV xs none (some 9) = xs.take 9 := cut_to (t := 9) (by omega)
        rw [ec]
        exact h _ _ (Same.laid hc) (.lst upd_same ((repLs_take 9 rs).same (Same.laid hc)))
    refine use_c ⟨_, (pssc_cons (psc_of (ps_for PassesOwn.never rfl (pi_range1 (by rfl) b_range (pa_cons (pe_callB (call_max2 rfl) (by rfl) b_max boot_max (pa_cons pe_int (pa_cons (pe_callB (call_min2 rfl) (by rfl) b_min boot_min (pa_cons pe_int (pa_cons (pe_callB (call_lenK (K := K) rfl) (by rfl) b_len PySem.boot_len (pa_cons (pv 0) pa_nil)) pa_nil))) pa_nil))) pa_nil)) (pg_name (i := 1) sc_law.nd rfl (Or.inl rfl)) (pss_cons (ps_set (i := 2) sc_law.nd rfl (Or.inl rfl) (pe_has h__law_bag (hr.mono (by decide)) (pa_cons (pv 0) (pa_cons (pv 1) pa_nil))))
      (pss_cons (ps_set (i := 3) sc_law.nd rfl (Or.inr rfl) (pe_has h__law_bag (hr.mono (by decide)) (pa_cons (pv 0) (pa_cons (pe_op op_add (pv 1) pe_int) pa_nil))))
      (pss_cons (ps_asg (pe_has h__law_pair_table (hr.mono (by decide)) (pa_cons (pv 2) (pa_cons pe_int pa_nil))) (pg_tupK (K := K) (n := 2) rfl rfl (pgs_cons (pg_name (i := 4) sc_law.nd rfl (Or.inl rfl)) (pgs_cons (pg_name (i := 5) sc_law.nd rfl (Or.inl rfl)) pgs_nil))))
      (pss_cons (ps_set (i := 6) sc_law.nd rfl (Or.inr rfl) (pe_has h__law_slid (hr.mono (by decide)) (pa_cons (pv 2) (pa_cons (pv 4) (pa_cons pe_int pa_nil)))))
      (pss_cons (ps_lc (i := 7) sc_law.nd rfl (Or.inl rfl) (Ls := ["_law_turn"]) (Fs := ["_law_odds", "_law_led"]) (fi := [3, 6]) (LcScope.of (show lcLook ["_law_script", "_law_k", "_law_bag_here", "_law_odds", "_law_table", "_law_due", "_law_led", "_law_things", "_law_thing", "_law_wide"] (defScope s_law) _ ["_law_odds", "_law_led"] [3, 6] = true by decide +kernel)) rfl (pi_range1 (by rfl) b_range (pa_cons pe_int pa_nil)) (fun cl C s3 H3 ex => ⟨(pg_name (i := 0) (show ((["_law_turn"] : List Str) ++ (["_law_odds", "_law_led"] : List Str)).Nodup by decide +kernel) rfl (Or.inl rfl)), pts_nil, (pe_has h__law_odd_table (hr.mono (by decide)) (pa_cons (pv 1) (pa_cons (pv 2) pa_nil)))⟩))
      (pss_one (ps_for PassesOwn.never rfl (pi_listK (K := K) rfl (pe_op op_cat (pv 7) (pe_lst (pa_cons (pe_lc (Ls := ["_law_row"]) (Fs := ["_law_led"]) (fi := [6]) (LcScope.of (show lcLook ["_law_script", "_law_k", "_law_bag_here", "_law_odds", "_law_table", "_law_due", "_law_led", "_law_things", "_law_thing", "_law_wide"] (defScope s_law) _ ["_law_led"] [6] = true by decide +kernel)) rfl (pi_listK (K := K) rfl (pv 6)) (fun cl C s3 H3 ex => ⟨(pg_name (i := 0) (show ((["_law_row"] : List Str) ++ (["_law_led"] : List Str)).Nodup by decide +kernel) rfl (Or.inl rfl)), pts_nil, (pe_op op_rep (pe_lst (pa_cons pe_int pa_nil)) (pe_callB (call_lenK (K := K) rfl) (by rfl) b_len PySem.boot_len (pa_cons (pv 1) pa_nil)))⟩)) (pa_cons (pe_revL (K := K) rfl (pv 6)) (pa_cons (pe_op op_cat (pv 6) (pe_lst (pa_cons (pe_op op_rep (pe_lst (pa_cons pe_int pa_nil)) (pe_callB (call_lenK (K := K) rfl) (by rfl) b_len PySem.boot_len (pa_cons (pv 6) pa_nil))) pa_nil))) pa_nil)))))) (pg_name (i := 8) sc_law.nd rfl (Or.inl rfl)) (pss_one (ps_if (PW.pt (pw_and (pt_not (pt_val (pe_has h__law_is_table (hr.mono (by decide)) (pa_cons (pv 8) pa_nil)))) (pw_and1 (pt_not (PW.pt (pw_and (pt_val (pe_has h__law_refused (hr.mono (by decide)) (pa_cons pe_int (pa_cons (pv 8) pa_nil)))) (pw_and1 (pt_val (pe_has h__law_refused (hr.mono (by decide)) (pa_cons pe_int (pa_cons (pv 8) pa_nil))))))))))) (pss_one (ps_ret pe_bl)) pss_nil)))))))))))
      (pssc_cons (psc_of (ps_lcC (i := 9) sc_law.nd rfl (Or.inl rfl) (Ls := ["_law_i"]) (Fs := []) (fi := []) (LcScopeC.of (show lcLookC ["_law_script", "_law_k", "_law_bag_here", "_law_odds", "_law_table", "_law_due", "_law_led", "_law_things", "_law_thing", "_law_wide"] (defScope s_law) _ [] [] = true by decide +kernel)) rfl (pi_range1 (by rfl) b_range (pa_cons pe_int pa_nil)) (fun cl C s3 H3 ex => ⟨(pg_name (i := 0) (show ((["_law_i"] : List Str) ++ ([] : List Str)).Nodup by decide +kernel) rfl (Or.inr rfl)), pts_nil, (pe_lc (Ls := ["_law_j"]) (Fs := ["_law_i"]) (fi := [0]) (LcScope.of (by rfl)) rfl (pi_range1 (by rfl) b_range (pa_cons pe_int pa_nil)) (fun cl C s3 H3 ex => ⟨(pg_name (i := 0) (show ((["_law_j"] : List Str) ++ (["_law_i"] : List Str)).Nodup by decide +kernel) rfl (Or.inl rfl)), pts_nil, (pe_callTy call_int1 (by rfl) b_int boot_int (pa_cons (pe_and (pe_cmpR op_eq (pv 0) (pe_op op_add (pv 1) pe_int) (nomark _)) (pe_one (pe_cmpR op_eq (pe_op op_mod (pv 1) pe_int) pe_int (nomark _)))) pa_nil))⟩))⟩)))
      (pssc_cons (psc_forG (G := gLit) PassesOwn.never rfl (K := K) rfl (pl_lst (pls_cons keepsG pl_non (pls_cons keepsG pl_bl (pls_cons keepsG pl_int (pls_cons keepsG pl_str (pls_cons keepsG (pl_tup pls_nil) (pls_cons keepsG (pl_lst (pls_cons keepsG (pl_lst pls_nil) pls_nil se_List)) (pls_cons keepsG (pl_lst (pls_cons keepsG pl_int pls_nil se_Constant)) (pls_cons keepsG (pl_lst (pls_cons keepsG (pl_lst (pls_cons keepsG pl_int pls_nil se_Constant)) pls_nil se_List)) (pls_cons keepsG (pl_lst (pls_cons keepsG (pl_lst (pls_cons keepsG pl_int (pls_cons keepsG pl_int pls_nil se_Constant) se_Constant)) (pls_cons keepsG (pl_lst (pls_cons keepsG pl_int (pls_cons keepsG pl_int pls_nil se_Constant) se_Constant)) pls_nil se_List) se_List)) (pls_cons keepsG (pl_lst (pls_cons keepsG (pl_lst (pls_cons keepsG pl_int (pls_cons keepsG pl_bl pls_nil se_Constant) se_Constant)) (pls_cons keepsG (pl_lst (pls_cons keepsG pl_int (pls_cons keepsG pl_int pls_nil se_Constant) se_Constant)) pls_nil se_List) se_List)) (pls_cons keepsG (pl_var v__law_wide (pv 9)) (pls_cons keepsG (pl_pe (pe_slice (sl_listK (K := K) rfl) (pv 9) po_none (po_some pe_int)) c_cut) pls_nil (by rfl)) se_Name) se_List) se_List) se_List) se_List) se_List) se_Tuple) se_Constant) se_Constant) se_Constant) se_Constant)) (pg_name (i := 8) sc_law.nd rfl (Or.inl rfl)) (pss_one (ps_if (PW.pt (pw_or (pt_not (pt_val (pe_has h__law_refused (hr.mono (by decide)) (pa_cons pe_int (pa_cons (pv 8) pa_nil))))) (pw_or1 (pt_not (pt_val (pe_has h__law_refused (hr.mono (by decide)) (pa_cons pe_int (pa_cons (pv 8) pa_nil)))))))) (pss_one (ps_ret pe_bl)) pss_nil)))
      (pssc_of (pss_one (ps_ret pe_bl)))))), ?_⟩
    refine ⟨_, rfl, a, _, rfl, .inl hS, _, _, rfl, _, _, rfl, _, rfl, ?_, ?_, for_range (fun i σ H' => ∃ v1 v2 v3 v4 v5 v6 v7 v8 v9 : Option V, σ = [some (.ref a), v1, v2, v3, v4, v5, v6, v7, v8, v9] ∧ Same H H') ⟨none, none, none, none, none, none, none, none, none, rfl, Same.refl _⟩ ?_ ?_⟩
    · split <;> (try split) <;> omega
    · rw [List.length_map]
      split <;> (try split) <;> omega
    · rintro i σ H0 hi ⟨v1, v2, v3, v4, v5, v6, v7, v8, v9, rfl, sm⟩
      have hi' : i < 1000 := by
        rw [List.length_map] at hi
        revert hi
        split <;> (try split) <;> omega
      refine ⟨_, rfl, _, rfl, a, _, ns, rfl, sm.seq hS, by omega, by omega, fun b H1 hb s1 bg1 => ?_⟩
      refine ⟨_, rfl, _, rfl, _, _, rfl, rfl, a, _, ns, rfl, (sm.trans s1).seq hS, by omega, by omega, fun c H2 hc s2 bgc2 => ?_⟩
      have bg2 := bag_same s2 bg1
      have cb : c ≠ b := fun z => by
        obtain ⟨_, _, _, e⟩ := bg1
        rw [z, e] at hc
        cases hc
      have s02 := s1.trans s2
      have b0 : H0 b = none := hb
      have c0 : H0 c = none := s1.free hc
      refine ⟨_, rfl, b, rfl, bg2, fun H3 t pl tp n ts p0 tf g0 epl etp ftp fpl => ?_⟩
      refine ⟨tp, _, rfl, SqT.of etp, rfl, _, _, rfl, _, _, rfl, rfl, ?_⟩
      have tb1 := tf.bt bg2
      refine ⟨_, rfl, _, rfl, b, t, n, 20, pT p0, p0, ts, rfl, tf.bg, tf.tb, g0, by decide, by decide, (Ne.symm tb1.1), fun u H4 us T' tu gu => ?_⟩
      have f24 : Frm b H2 H4 := tf.fr.trans tu.fr
      have tt4 : TabM H4 t n (pT p0) ts := (tf.take bg2 tu.fr tu.bg).tb
      have tu4 := tu.tb
      have bgc4 : Bag H4 c := let ⟨g, r, h, e⟩ := bgc2; ⟨g, r, h, f24 _ _ e cb⟩
      have n8 := g0.n8
      have s04 : Same H0 H4 := fun d o e => f24 d o (s02 d o e) (ne_of_none e b0)
      have u2 : H2 u = none := tf.fr.free tf.bg tu.ft
      have us2 : ∀ r ∈ us, H2 r = none := fun r hr => tf.fr.free tf.bg (tu.fs r hr)
      have uc : u ≠ c := fun z => by
        obtain ⟨_, _, _, e⟩ := bgc2
        rw [z, e] at u2
        cases u2
      have cus : c ∉ us := fun h => by
        obtain ⟨_, _, _, e⟩ := bgc2
        have := us2 c h
        rw [e] at this
        cases this
      have lu : (us.map V.ref).length = n := by rw [List.length_map, tu4.2.1]
      have nus : ∀ p ∈ us, p ≠ c := fun p hp z => cus (by rw [← z]; exact hp)
      have delF : ∀ {G G' : Hp}, Frm c G G' → Same (del c c G) (del c c G') := fun {G G'} h p o e => by
        unfold del at e ⊢
        split at e
        · cases e
        · rename_i q
          rw [if_neg q]
          exact h p o e (fun z => q (.inl z))
      have tabF : ∀ {G : Hp}, Frm c H4 G → TabM G u n T' us := fun f => ⟨f _ _ tu4.1 uc, tu4.2.1, fun r p e => f _ _ (tu4.2.2 r p e) (nus p (List.mem_of_getElem? e))⟩
      refine ⟨8, rfl, by decide, by decide, lc_rng (n := 8) (by rw [sizeLine_eq]; decide) (fun j zs G => Frm c H4 G ∧ Bag G c ∧ zs.length = j ∧ ∀ v ∈ zs, OkV 3 (del c c G) v) ⟨(Same.refl _).frm, bgc4, rfl, fun _ h => nomatch h⟩ (fun j zs G q => Nat.le_of_eq q.2.2.1) (fun j zs G hj q => ?_) (fun zs G q D hD => ?_)⟩
      · obtain ⟨fG, bG, lz, av⟩ := q
        refine lcG ⟨_, rfl, _, rfl, c, u, c, n, T', us, [], rfl, bG, tabF fG, n8, uc, cus, .inl rfl, fun G2 v b2 f2 ov => ⟨fG.trans f2, b2, by rw [List.length_append, lz]; rfl, fun w' hw => ?_⟩⟩
        rcases List.mem_append.mp hw with h | h
        · exact (av w' h).same (delF f2)
        · rw [List.mem_singleton.mp h]; exact ov
      obtain ⟨fG, bG, lz, av⟩ := q
      obtain ⟨X, z, tX, eD⟩ := lay (o := .lst zs) hD
      rw [z]; clear z
      have avX : ∀ v ∈ zs, OkV 3 X v := fun v hv => ((av v hv).same (del_in c c G)).same tX
      have tuX := (tabF fG).same tX
      have s0X : Same H0 X := fun d o e => tX _ _ (fG d o (s04 d o e) (ne_of_none e c0))
      clear av fG bG
      -- the list of things
      refine ⟨_, rfl, _, rfl, u, rfl, ⟨_, SqL.of tuX.1⟩, lc_list (K := K) (a := u) (xs := us.map V.ref) (by rw [lu, sizeLine_eq]; omega) (fun i zs G => NR X G (fun _ => rowV n 0) i zs) (NR.nil _ _) (fun _ _ _ x => x.len) (fun i zs G x => SqL.of (x.1 _ _ tuX.1)) (fun j y zs G hy x => ?_) (fun zs' G x D1 hD1 => ?_)⟩
      · refine lcG ⟨(by show 1 ≤ sizeLine; decide), fun c' hc' => ?_⟩
        obtain ⟨G1, z, q1, e1'⟩ := lay (o := .lst [.int 0]) hc'
        rw [z]; clear z
        refine ⟨_, rfl, u, _, rfl, .inl (SqL.of (q1 _ _ (x.1 _ _ tuX.1))), c', _, _, rfl, rfl, e1', by omega, by rw [lu]; omega, (by rw [lu, sizeLine_eq]; simp; omega), fun q hq => ?_⟩
        rw [lu, Int.toNat_natCast, rows0]
        exact x.step (q1.step hq) (q1.free hq) upd_same
      rw [lu] at x
      obtain ⟨sD, fD, zs1, rfl, lz1, _, _, fz, eD1, ez⟩ := x.done hD1
      generalize upd G D1 (.lst (zs1.map V.ref)) = X2 at *
      have tu2 := tuX.same sD
      refine ⟨_, rfl, u, _, rfl, SqL.of tu2.1, fun r1 hr1 => ?_⟩
      obtain ⟨X3, z, t3, e3⟩ := lay (o := .lst (us.map V.ref).reverse) hr1
      rw [z]; clear z
      have tu3 := tu2.same t3
      refine ⟨_, rfl, (by show 1 ≤ sizeLine; decide), fun c1 hc1 => ?_⟩
      obtain ⟨X5, z, t5, e5⟩ := lay (o := .lst [.int 0]) hc1
      rw [z]; clear z
      refine ⟨_, rfl, u, _, rfl, .inl (SqL.of (t5 _ _ tu3.1)), c1, _, _, rfl, rfl, e5, by omega, by rw [lu]; omega, (by rw [lu, sizeLine_eq]; simp; omega), fun c2 hc2 => ?_⟩
      rw [lu, Int.toNat_natCast, rows0]
      obtain ⟨X6, z, t6, e6⟩ := lay (o := .lst (rowV n 0)) hc2
      rw [z]; clear z
      refine ⟨(by show 1 ≤ sizeLine; decide), fun c3 hc3 => ?_⟩
      obtain ⟨X7, z, t7, e7⟩ := lay (o := .lst [.ref c2]) hc3
      rw [z]; clear z
      have s37 := (t5.trans t6).trans t7
      refine rCat_new (s37 _ _ tu3.1) e7 (by rw [lu, sizeLine_eq]; show n + 1 ≤ _; omega) (fun c4 X8 hc4 t8 e8 => ?_)
      refine ⟨(by show 3 ≤ sizeLine; decide), fun L hL => ?_⟩
      obtain ⟨X9, z, t9, e9⟩ := lay (o := .lst [.ref D1, .ref r1, .ref c4]) hL
      rw [z]; clear z
      have s39 := (s37.trans t8).trans t9
      have sX9 : Same X X9 := (sD.trans t3).trans s39
      refine rCat_new (sX9 _ _ eD) e9 (by rw [lz, sizeLine_eq]; show 8 + 3 ≤ _; decide) (fun M Y hM tY eM => ?_)
      have s3Y := s39.trans tY
      have sXY : Same X Y := sX9.trans tY
      have tuY := tu3.same s3Y
      have okRow : ∀ {p : Addr} {v : Nat}, Y p = some (.lst (rowV n v)) → OkV 2 Y (.ref p) := fun e => okV_row e (by omega)
      have okUs : ∀ p ∈ us, OkV 2 Y (.ref p) := fun p hp => by
        obtain ⟨r, hr, rfl⟩ := List.getElem_of_mem hp
        exact okRow (tuY.2.2 r _ (List.getElem?_eq_getElem hr))
      have allY : ∀ v ∈ zs ++ [V.ref D1, .ref r1, .ref c4], OkV 3 Y v := fun v hv => by
        rcases List.mem_append.mp hv with h | h
        · exact (avX v h).same sXY
        · simp only [List.mem_cons, List.mem_nil_iff, or_false] at h
          rcases h with rfl | rfl | rfl
          · refine okV_lst (d := 2) (s3Y _ _ (t3 _ _ eD1)) (by rw [List.length_map, lz1]; omega) fun v hv => ?_
            obtain ⟨p, hp, rfl⟩ := List.mem_map.mp hv
            obtain ⟨r, hr, rfl⟩ := List.getElem_of_mem hp
            exact okRow (s3Y _ _ (t3 _ _ (ez r _ (List.getElem?_eq_getElem hr))))
          · refine okV_lst (d := 2) (s3Y _ _ e3) (by rw [List.length_reverse, lu]; omega) fun v hv => ?_
            obtain ⟨p, hp, rfl⟩ := List.mem_map.mp (List.mem_reverse.mp hv)
            exact okUs p hp
          · refine okV_lst (d := 2) ((t9.trans tY) _ _ e8) (by rw [List.length_append, lu]; show n + 1 ≤ 20; omega) fun v hv => ?_
            rcases List.mem_append.mp hv with h | h
            · obtain ⟨p, hp, rfl⟩ := List.mem_map.mp h
              exact okUs p hp
            · rw [List.mem_singleton.mp h]
              exact okRow (((t7.trans t8).trans (t9.trans tY)) _ _ e6)
      refine ⟨M, rfl, ⟨_, SqL.of eM⟩, for_list (K := K) (a := M) (xs := zs ++ [V.ref D1, .ref r1, .ref c4]) (fun e σ G' => ∃ v8 : Option V, σ = [some (.ref a), some (.int (0 + (i : Int))), some (.ref b), some (.ref c), some (.ref t), some (.ref pl), some (.ref u), some (.ref D), v8, v9] ∧ Same Y G') ⟨_, rfl, Same.refl _⟩ (fun e σ G' _ ⟨_, _, s⟩ => SqL.of (s _ _ eM)) ?_ ?_⟩
      · rintro e x σ G' hx ⟨v8', rfl, s'⟩
        obtain ⟨l, rl, okl⟩ := allY x (List.mem_of_getElem? hx)
        refine ⟨_, rfl, x, l, rfl, rl.same s', okl, fun b2 G2 s2 hb => ?_⟩
        cases b2 with
        | true => exact ⟨_, rfl, iteF (iteF ⟨_, rfl, s'.trans s2⟩)⟩
        | false =>
          have ng : ¬ GoodL l := fun g => by have := hb.mpr g; cases this
          refine ⟨_, rfl, iteT ?_⟩
          exact ⟨_, rfl, 0, x, l, rfl, rl.same (s'.trans s2), okl, ng, fun G3 s3 => ⟨true, rfl, iteT ⟨_, rfl, 1, x, l, rfl, rl.same ((s'.trans s2).trans s3), okl, ng, fun G4 s4 => ⟨true, rfl, iteF ⟨_, rfl, ((s'.trans s2).trans s3).trans s4⟩⟩⟩⟩⟩
      · rintro σ G' ⟨v8', rfl, s'⟩
        exact ⟨_, _, _, _, _, _, _, _, _, rfl, ((sm.trans s0X).trans sXY).trans s'⟩
    · rintro σ H' ⟨v1, v2, v3, v4, v5, v6, v7, v8, v9, rfl, sm⟩
      refine ⟨10, rfl, by decide, by decide, lc_rng (n := 10) (by rw [sizeLine_eq]; decide) (fun i zs G => NR H' G (fun i => (List.range 10).map fun j => V.int (wd i j)) i zs) (NR.nil _ _) (fun _ _ _ x => x.len) (fun i zs G hi x => ?_) (fun zs G x D hD => ?_)⟩
      · refine lcG ⟨10, rfl, by decide, by decide, lc_rng (n := 10) (by rw [sizeLine_eq]; decide) (fun j ys G' => Same G G' ∧ ys = (List.range j).map fun j => V.int (wd i j)) ⟨Same.refl _, rfl⟩ (fun j ys G' q => by rw [q.2, List.length_map, List.length_range]; exact Nat.le_refl _) (fun j ys G' hj q => ?_) (fun ys G' q D' hD' => ?_)⟩
        · obtain ⟨sG, rfl⟩ := q
          have fin : ∀ b : Bool, (b = true ↔ j = i + 1 ∧ i % 2 = 0) → Same G G' ∧ ((List.range j).map fun j => V.int (wd i j)) ++ [V.int (if b = true then 1 else 0)] = (List.range (j + 1)).map fun j => V.int (wd i j) := fun b hb => by
            refine ⟨sG, ?_⟩
            rw [List.range_succ, List.map_append]
            show _ ++ [_] = _ ++ [V.int (if j = i + 1 ∧ i % 2 = 0 then 1 else 0)]
            by_cases h : j = i + 1 ∧ i % 2 = 0
            · rw [if_pos h, if_pos (hb.mpr h)]
            · rw [if_neg h, if_neg (fun z => h (hb.mp z))]
          refine lcG ⟨_, rfl, _, rfl, _, _, rfl, rfl, rfl, _, rfl, ite2 (fun h1 => ?_) (fun h1 => ?_)⟩
          · have e1 : j = i + 1 := by
              have := of_decide_eq_true h1
              injection this with this
              omega
            refine ⟨_, rfl, _, _, rfl, rfl, (by show (0 : Int) < 2; decide), rfl, .inr ⟨_, rfl, fin _ ?_⟩⟩
            rw [decide_eq_true_eq]
            refine ⟨fun z => ⟨e1, ?_⟩, fun z => ?_⟩
            · injection z with z
              omega
            · show V.int ((0 + (i : Int)) % 2) = V.int 0
              rw [show (0 + (i : Int)) % 2 = 0 by omega]
          · refine .inr ⟨_, rfl, fin _ (Iff.intro (fun z => nomatch z) fun z => ?_)⟩
            exact (h1 (decide_eq_true (by show V.int (0 + (j : Int)) = V.int (0 + (i : Int) + 1); rw [z.1]; congr 1))).elim
        · obtain ⟨sG, rfl⟩ := q
          exact x.step (sG.step hD') (sG.free hD') upd_same
      obtain ⟨sD, fD, zs1, rfl, lz, _, _, fz, eD, ez⟩ := x.done hD
      generalize upd G D (.lst (zs1.map V.ref)) = X at *
      have rW : RepL X (.ref D) (.lst (litW 10)) := .lst eD (repLs_by (by rw [List.length_map, lz]; rfl) fun i v l hv hl => by
        obtain ⟨q, hq, rfl⟩ := refs_get hv
        unfold litW at hl
        rw [List.getElem?_map] at hl
        obtain ⟨i', hi', rfl⟩ := Option.map_eq_some_iff.mp hl
        have e : i' = i := by
          obtain ⟨z1, z2⟩ := List.getElem?_eq_some_iff.mp hi'
          rw [List.getElem_range] at z2
          exact z2.symm
        subst e
        have := repLs_ints (G := X) ((List.range 10).map (wd i'))
        rw [List.map_map, List.map_map] at this
        exact .lst (ez i' q hq) this)
      refine ⟨⟨.ref D, rfl, rW⟩, fun v Ha sa ra => ?_⟩
      cases ra with
      | @lst M vs _ eM rv =>
        refine ⟨M, rfl, ⟨_, SqL.of eM⟩, for_list (K := K) (a := M) (xs := vs) (fun e σ G => ∃ v8 : Option V, σ = [some (.ref a), v1, v2, v3, v4, v5, v6, v7, v8, some (.ref D)] ∧ Same Ha G) ⟨_, rfl, Same.refl _⟩ (fun e σ G _ ⟨_, _, s⟩ => SqL.of (s _ _ eM)) ?_ ?_⟩
        · rintro e x σ G hx ⟨v8', rfl, sG⟩
          obtain ⟨l, hl, rl⟩ := rv.get hx
          obtain ⟨okl, ng⟩ := lits_ok l (List.mem_of_getElem? hl)
          exact ⟨_, rfl, 0, x, l, rfl, rl.same sG, okl, ng, fun G3 s3 => ⟨true, rfl, iteF ⟨_, rfl, 1, x, l, rfl, rl.same (sG.trans s3), okl, ng, fun G4 s4 => ⟨true, rfl, iteF ⟨_, rfl, (sG.trans s3).trans s4⟩⟩⟩⟩⟩
        · rintro σ G ⟨v8', rfl, sG⟩
          exact k _
end
end Qk27

namespace Qk27
open PySem L2 PyProof.Rows
section
variable {P : Program} {w : World} {K : PySem.W.Frag} {mg : Str → Option Value} {base : Heap}
end
/-! ### what the top has written -/
theorem has_mk {P : Program} {w : World} {K : PySem.W.Frag} {mg : Str → Option Value} {base : Heap} {k : Nat} {x : Str} {ps : List Str} {sp : Sp} {f : Addr} {fd : FuncData} (G : FnOk P w K mg base CX0 k f fd ps sp) (m : mg x = some (.ref f)) (kp : PySem.W.keepIn K (.ref f) = true) (b : Binds K fd ps []) : Has P w K mg base k x ps sp := ⟨f, fd, G, m, kp, b⟩
theorem hasM_mk {P : Program} {w : World} {K : PySem.W.Frag} {mg : Str → Option Value} {base : Heap} {k : Nat} {C : Addr} {m : Str} {ps : List Str} {sp : Sp} {f : Addr} {fd : FuncData} (G : FnOk P w K mg base CX0 k f fd ps sp) (a : PySem.W.findIn K (.ref C) m = some (some (.ref f))) (fn : PySem.W.isFn K (.ref f) = true) (kp : PySem.W.keepIn K (.ref f) = true) (b : Binds K fd ps []) : HasM P w K mg base k C m ps sp := ⟨f, fd, G, ⟨a, fn, kp⟩, b⟩
theorem hasX_mk {P : Program} {w : World} {K : PySem.W.Frag} {mg : Str → Option Value} {base : Heap} {k : Nat} {x : Str} {ps : List Str} {sp : Sp} {f : Addr} {fd : FuncData} (G : FnOk P w K mg base (CX1 P w) k f fd ps sp) (m : mg x = some (.ref f)) (kp : PySem.W.keepIn K (.ref f) = true) (b : Binds K fd ps []) : HasX P w K mg base k x ps sp := ⟨f, fd, G, m, kp, b⟩
theorem hasQ_mk {P : Program} {w : World} {K : PySem.W.Frag} {mg : Str → Option Value} {base : Heap} {k : Nat} {x : Str} {ps : List Str} {sp : Sp} {f : Addr} {fd : FuncData} (G : FnOkQ P w K mg base k f fd ps sp) (m : mg x = some (.ref f)) (kp : PySem.W.keepIn K (.ref f) = true) (b : Binds K fd ps []) : HasQ P w K mg base k x ps sp := ⟨f, fd, G, m, kp, b⟩
section
end
end Qk27

namespace Qk27
open PySem L2 PyProof.Rows
section
variable {P : Program} {w : World} {K : PySem.W.Frag} {mg : Str → Option Value} {base : Heap}
theorem all_mk {l : PySem.W.OpenLaw} {w : World} {K : PySem.W.Frag} {h : Heap} {mg : Str → Option Value} {fa : Addr} (X : K.In h) (G : h.Ns mainGlobals mg) (hfa : mg "law" = some (.ref fa))
    {f0 f1 f2 f3 f4 f5 f6 f7 f8 f9 f10 f11 f12 f13 f14 f15 f16 f17 f18 f19 f20 f21 f22 f23 f24 f25 f26 f27 f28 : Addr} {d0 d1 d2 d3 d4 d5 d6 d7 d8 d9 d10 d11 d12 d13 d14 d15 d16 d17 d18 d19 d20 d21 d22 d23 d24 d25 d26 d27 d28 : FuncData}
    {t_MOST_ROWS : Tok} (ag_MOST_ROWS : PySem.W.nsIn K mainGlobals "MOST_ROWS" = some (some (.int 8 t_MOST_ROWS)))
    {a_FrontError : Addr} (ag_FrontError : PySem.W.nsIn K mainGlobals "FrontError" = some (some (.ref a_FrontError)))
    {a_NoHeights : Addr} (ag_NoHeights : PySem.W.nsIn K mainGlobals "NoHeights" = some (some (.ref a_NoHeights)))
    {a_TooMany : Addr} (ag_TooMany : PySem.W.nsIn K mainGlobals "TooMany" = some (some (.ref a_TooMany)))
    {a_NoTable : Addr} (ag_NoTable : PySem.W.nsIn K mainGlobals "NoTable" = some (some (.ref a_NoTable)))
    {a_NoSetting : Addr} (ag_NoSetting : PySem.W.nsIn K mainGlobals "NoSetting" = some (some (.ref a_NoSetting)))
    {a_NoBanding : Addr} (ag_NoBanding : PySem.W.nsIn K mainGlobals "NoBanding" = some (some (.ref a_NoBanding)))
    {a_NoMove : Addr} (ag_NoMove : PySem.W.nsIn K mainGlobals "NoMove" = some (some (.ref a_NoMove)))
    {a_NoName : Addr} (ag_NoName : PySem.W.nsIn K mainGlobals "NoName" = some (some (.ref a_NoName)))
    {a_NoPaper : Addr} (ag_NoPaper : PySem.W.nsIn K mainGlobals "NoPaper" = some (some (.ref a_NoPaper)))
    {a_NoRow : Addr} (ag_NoRow : PySem.W.nsIn K mainGlobals "NoRow" = some (some (.ref a_NoRow)))
    {a_NoText : Addr} (ag_NoText : PySem.W.nsIn K mainGlobals "NoText" = some (some (.ref a_NoText)))
    {a_Pairing : Addr} (ag_Pairing : PySem.W.nsIn K mainGlobals "Pairing" = some (some (.ref a_Pairing)))
    (c_way : L2.Cls K a_Pairing)
    (n_partner : L2.NoAttr K a_Pairing "partner")
    (n_slid : L2.NoAttr K a_Pairing "slid")
    (mk_Pairing : PySem.W.makesIn K a_Pairing = true)
    (kp_Pairing : PySem.W.keepIn K (.ref a_Pairing) = true)
    (x_FrontError : PySem.W.excIn K a_FrontError [.type "ValueError", .type "Exception", .type "BaseException", .type "object"] "ValueError.__new__" = true)
    (x_NoTable : PySem.W.excIn K a_NoTable [.type "ValueError", .type "Exception", .type "BaseException", .type "object"] "ValueError.__new__" = true)
    (m_NoTable : PySem.W.mroIn K a_NoTable (.ref a_FrontError) = some true)
    (xc : L2.XCls K a_NoTable)
    (q0 : PySem.W.kitOne K (.ref a_NoTable) (.ref a_NoHeights) = some false)
    (q1 : PySem.W.kitOne K (.ref a_NoTable) (.ref a_TooMany) = some false)
    (q2 : PySem.W.kitOne K (.ref a_NoTable) (.ref a_NoTable) = some true)
    (q3 : PySem.W.kitOne K (.ref a_NoTable) (.ref a_NoSetting) = some false)
    (q4 : PySem.W.kitOne K (.ref a_NoTable) (.ref a_NoBanding) = some false)
    (q5 : PySem.W.kitOne K (.ref a_NoTable) (.ref a_NoMove) = some false)
    (q6 : PySem.W.kitOne K (.ref a_NoTable) (.ref a_NoName) = some false)
    (q7 : PySem.W.kitOne K (.ref a_NoTable) (.ref a_NoPaper) = some false)
    (q8 : PySem.W.kitOne K (.ref a_NoTable) (.ref a_NoRow) = some false)
    (q9 : PySem.W.kitOne K (.ref a_NoTable) (.ref a_NoText) = some false)
    (qv : PySem.W.kitOne K (.ref a_NoTable) (.type "ValueError") = some true)
    (a0 : PySem.W.nsIn K mainGlobals "is_whole" = some (some (.ref f0))) (l0 : Fun K "is_whole" "is_whole" s_is_whole f0 d0)
    (a1 : PySem.W.nsIn K mainGlobals "is_bits" = some (some (.ref f1))) (l1 : Fun K "is_bits" "is_bits" s_is_bits f1 d1)
    (a2 : PySem.W.nsIn K mainGlobals "has_shape" = some (some (.ref f2))) (l2 : Fun K "has_shape" "has_shape" s_has_shape f2 d2)
    (a3 : PySem.W.nsIn K mainGlobals "mask_of" = some (some (.ref f3))) (l3 : Fun K "mask_of" "mask_of" s_mask_of f3 d3)
    (a4 : PySem.W.nsIn K mainGlobals "bits_of" = some (some (.ref f4))) (l4 : Fun K "bits_of" "bits_of" s_bits_of f4 d4)
    (a5 : PySem.W.nsIn K mainGlobals "least_bit" = some (some (.ref f5))) (l5 : Fun K "least_bit" "least_bit" s_least_bit f5 d5)
    (a6 : PySem.W.nsIn K mainGlobals "is_high" = some (some (.ref f6))) (l6 : Fun K "is_high" "is_high" s_is_high f6 d6)
    (a7 : PySem.W.nsIn K mainGlobals "is_square" = some (some (.ref f7))) (l7 : Fun K "is_square" "is_square" s_is_square f7 d7)
    (a8 : PySem.W.findIn K (.ref a_Pairing) "pair" = some (some (.ref f8))) (l8 : Fun K "pair" "Pairing.pair" s_Pairing_pair f8 d8) (n8 : PySem.W.isFn K (.ref f8) = true)
    (a9 : PySem.W.findIn K (.ref a_Pairing) "take" = some (some (.ref f9))) (l9 : Fun K "take" "Pairing.take" s_Pairing_take f9 d9) (n9 : PySem.W.isFn K (.ref f9) = true)
    (a10 : PySem.W.findIn K (.ref a_Pairing) "__init__" = some (some (.ref f10))) (l10 : Fun K "__init__" "Pairing.__init__" s_Pairing___init__ f10 d10) (n10 : PySem.W.isFn K (.ref f10) = true)
    (a11 : PySem.W.nsIn K mainGlobals "is_table" = some (some (.ref f11))) (l11 : Fun K "is_table" "is_table" s_is_table f11 d11)
    (a12 : PySem.W.nsIn K mainGlobals "table_pairing" = some (some (.ref f12))) (l12 : Fun K "table_pairing" "table_pairing" s_table_pairing f12 d12)
    (a13 : PySem.W.nsIn K mainGlobals "table_partners" = some (some (.ref f13))) (l13 : Fun K "table_partners" "table_partners" s_table_partners f13 d13)
    (a14 : PySem.W.nsIn K mainGlobals "slide" = some (some (.ref f14))) (l14 : Fun K "slide" "slide" s_slide f14 d14)
    (a15 : PySem.W.nsIn K mainGlobals "_law_bag" = some (some (.ref f15))) (l15 : Fun K "_law_bag" "_law_bag" s__law_bag f15 d15)
    (a16 : PySem.W.nsIn K mainGlobals "_law_take" = some (some (.ref f16))) (l16 : Fun K "_law_take" "_law_take" s__law_take f16 d16)
    (a17 : PySem.W.nsIn K mainGlobals "_law_whole" = some (some (.ref f17))) (l17 : Fun K "_law_whole" "_law_whole" s__law_whole f17 d17)
    (a18 : PySem.W.nsIn K mainGlobals "_law_numbers" = some (some (.ref f18))) (l18 : Fun K "_law_numbers" "_law_numbers" s__law_numbers f18 d18)
    (a19 : PySem.W.nsIn K mainGlobals "_law_cleared" = some (some (.ref f19))) (l19 : Fun K "_law_cleared" "_law_cleared" s__law_cleared f19 d19)
    (a20 : PySem.W.nsIn K mainGlobals "_law_rank" = some (some (.ref f20))) (l20 : Fun K "_law_rank" "_law_rank" s__law_rank f20 d20)
    (a21 : PySem.W.nsIn K mainGlobals "_law_pair_table" = some (some (.ref f21))) (l21 : Fun K "_law_pair_table" "_law_pair_table" s__law_pair_table f21 d21)
    (a22 : PySem.W.nsIn K mainGlobals "_law_slid" = some (some (.ref f22))) (l22 : Fun K "_law_slid" "_law_slid" s__law_slid f22 d22)
    (a23 : PySem.W.nsIn K mainGlobals "_law_product" = some (some (.ref f23))) (l23 : Fun K "_law_product" "_law_product" s__law_product f23 d23)
    (a24 : PySem.W.nsIn K mainGlobals "_law_is_table" = some (some (.ref f24))) (l24 : Fun K "_law_is_table" "_law_is_table" s__law_is_table f24 d24)
    (a25 : PySem.W.nsIn K mainGlobals "_law_odd_table" = some (some (.ref f25))) (l25 : Fun K "_law_odd_table" "_law_odd_table" s__law_odd_table f25 d25)
    (a26 : PySem.W.nsIn K mainGlobals "_law_only" = some (some (.ref f26))) (l26 : Fun K "_law_only" "_law_only" s__law_only f26 d26)
    (a27 : PySem.W.nsIn K mainGlobals "_law_refused" = some (some (.ref f27))) (l27 : Fun K "_law_refused" "_law_refused" s__law_refused f27 d27)
    (a28 : PySem.W.nsIn K mainGlobals "law" = some (some (.ref f28))) (l28 : Fun K "law" "law" s_law f28 d28)
    (z_len : PySem.W.nsIn K mainGlobals "len" = some none)
    (z_range : PySem.W.nsIn K mainGlobals "range" = some none)
    (z_abs : PySem.W.nsIn K mainGlobals "abs" = some none)
    (z_isinstance : PySem.W.nsIn K mainGlobals "isinstance" = some none)
    (z_int : PySem.W.nsIn K mainGlobals "int" = some none)
    (z_bool : PySem.W.nsIn K mainGlobals "bool" = some none)
    (z_all : PySem.W.nsIn K mainGlobals "all" = some none)
    (z_any : PySem.W.nsIn K mainGlobals "any" = some none)
    (z_max : PySem.W.nsIn K mainGlobals "max" = some none)
    (z_min : PySem.W.nsIn K mainGlobals "min" = some none)
    (z_list : PySem.W.nsIn K mainGlobals "list" = some none)
    (z_zip : PySem.W.nsIn K mainGlobals "zip" = some none)
    (z_enumerate : PySem.W.nsIn K mainGlobals "enumerate" = some none)
    (z_sum : PySem.W.nsIn K mainGlobals "sum" = some none)
    (z_reversed : PySem.W.nsIn K mainGlobals "reversed" = some none)
    (z_tuple : PySem.W.nsIn K mainGlobals "tuple" = some none)
    (z_ValueError : PySem.W.nsIn K mainGlobals "ValueError" = some none) :
    ∃ fd : FuncData, (∀ (s : Shared) (v : Value), BindsTo s fd ⟨[v], []⟩ [("_law_script", v)]) ∧ ∀ base : Heap, K.In base → base.Ns mainGlobals mg → FnOk l.prog w K mg base CX0 9 fa fd ["_law_script"] (spLaw K) := by
  have e := hfa.symm.trans (PySem.W.mg_of X G a28)
  cases e
  have b_len : mg "len" = none := PySem.W.mg_none_of X G z_len
  have b_range : mg "range" = none := PySem.W.mg_none_of X G z_range
  have b_abs : mg "abs" = none := PySem.W.mg_none_of X G z_abs
  have b_isinstance : mg "isinstance" = none := PySem.W.mg_none_of X G z_isinstance
  have b_int : mg "int" = none := PySem.W.mg_none_of X G z_int
  have b_bool : mg "bool" = none := PySem.W.mg_none_of X G z_bool
  have b_all : mg "all" = none := PySem.W.mg_none_of X G z_all
  have b_any : mg "any" = none := PySem.W.mg_none_of X G z_any
  have b_max : mg "max" = none := PySem.W.mg_none_of X G z_max
  have b_min : mg "min" = none := PySem.W.mg_none_of X G z_min
  have b_list : mg "list" = none := PySem.W.mg_none_of X G z_list
  have b_zip : mg "zip" = none := PySem.W.mg_none_of X G z_zip
  have b_enumerate : mg "enumerate" = none := PySem.W.mg_none_of X G z_enumerate
  have b_sum : mg "sum" = none := PySem.W.mg_none_of X G z_sum
  have b_reversed : mg "reversed" = none := PySem.W.mg_none_of X G z_reversed
  have b_tuple : mg "tuple" = none := PySem.W.mg_none_of X G z_tuple
  have b_ValueError : mg "ValueError" = none := PySem.W.mg_none_of X G z_ValueError
  have g_MOST_ROWS := PySem.W.mg_of X G ag_MOST_ROWS
  have g_FrontError : mg "FrontError" = some (.ref a_FrontError) := PySem.W.mg_of X G ag_FrontError
  have g_NoHeights : mg "NoHeights" = some (.ref a_NoHeights) := PySem.W.mg_of X G ag_NoHeights
  have g_TooMany : mg "TooMany" = some (.ref a_TooMany) := PySem.W.mg_of X G ag_TooMany
  have g_NoTable : mg "NoTable" = some (.ref a_NoTable) := PySem.W.mg_of X G ag_NoTable
  have g_NoSetting : mg "NoSetting" = some (.ref a_NoSetting) := PySem.W.mg_of X G ag_NoSetting
  have g_NoBanding : mg "NoBanding" = some (.ref a_NoBanding) := PySem.W.mg_of X G ag_NoBanding
  have g_NoMove : mg "NoMove" = some (.ref a_NoMove) := PySem.W.mg_of X G ag_NoMove
  have g_NoName : mg "NoName" = some (.ref a_NoName) := PySem.W.mg_of X G ag_NoName
  have g_NoPaper : mg "NoPaper" = some (.ref a_NoPaper) := PySem.W.mg_of X G ag_NoPaper
  have g_NoRow : mg "NoRow" = some (.ref a_NoRow) := PySem.W.mg_of X G ag_NoRow
  have g_NoText : mg "NoText" = some (.ref a_NoText) := PySem.W.mg_of X G ag_NoText
  have g_Pairing : mg "Pairing" = some (.ref a_Pairing) := PySem.W.mg_of X G ag_Pairing
  have F_is_whole := l0
  have B_is_whole := F_is_whole.binds (ps := ["thing"]) fun _ _ _ _ _ _ us hl => match us, hl with | [_], _ => rfl
  have F_is_bits := l1
  have B_is_bits := F_is_bits.binds (ps := ["thing", "many"]) fun _ _ _ _ _ _ us hl => match us, hl with | [_, _], _ => rfl
  have F_has_shape := l2
  have B_has_shape := F_has_shape.binds (ps := ["thing"]) fun _ _ _ _ _ _ us hl => match us, hl with | [_], _ => rfl
  have F_mask_of := l3
  have B_mask_of := F_mask_of.binds (ps := ["row"]) fun _ _ _ _ _ _ us hl => match us, hl with | [_], _ => rfl
  have F_bits_of := l4
  have B_bits_of := F_bits_of.binds (ps := ["mask", "many"]) fun _ _ _ _ _ _ us hl => match us, hl with | [_, _], _ => rfl
  have F_least_bit := l5
  have B_least_bit := F_least_bit.binds (ps := ["mask"]) fun _ _ _ _ _ _ us hl => match us, hl with | [_], _ => rfl
  have F_is_high := l6
  have B_is_high := F_is_high.binds (ps := ["table"]) fun _ _ _ _ _ _ us hl => match us, hl with | [_], _ => rfl
  have F_is_square := l7
  have B_is_square := F_is_square.binds (ps := ["table"]) fun _ _ _ _ _ _ us hl => match us, hl with | [_], _ => rfl
  have F_Pairing_pair := l8
  have B_Pairing_pair := F_Pairing_pair.binds (ps := ["self", "i", "lone"]) fun _ _ _ _ _ _ us hl => match us, hl with | [_, _, _], _ => rfl
  have F_Pairing_take := l9
  have B_Pairing_take := F_Pairing_take.binds (ps := ["self", "i", "rest"]) fun _ _ _ _ _ _ us hl => match us, hl with | [_, _, _], _ => rfl
  have F_Pairing___init__ := l10
  have B_Pairing___init__ := F_Pairing___init__.binds (ps := ["self", "table"]) fun _ _ _ _ _ _ us hl => match us, hl with | [_, _], _ => rfl
  have F_is_table := l11
  have B_is_table := F_is_table.binds (ps := ["thing"]) fun _ _ _ _ _ _ us hl => match us, hl with | [_], _ => rfl
  have F_table_pairing := l12
  have B_table_pairing := F_table_pairing.binds (ps := ["thing"]) fun _ _ _ _ _ _ us hl => match us, hl with | [_], _ => rfl
  have F_table_partners := l13
  have B_table_partners := F_table_partners.binds (ps := ["table"]) fun _ _ _ _ _ _ us hl => match us, hl with | [_], _ => rfl
  have F_slide := l14
  have B_slide := F_slide.binds (ps := ["table"]) fun _ _ _ _ _ _ us hl => match us, hl with | [_], _ => rfl
  have F__law_bag := l15
  have B__law_bag := F__law_bag.binds (ps := ["_law_script", "_law_at"]) fun _ _ _ _ _ _ us hl => match us, hl with | [_, _], _ => rfl
  have F__law_take := l16
  have B__law_take := F__law_take.binds (ps := ["_law_bag_here", "_law_many"]) fun _ _ _ _ _ _ us hl => match us, hl with | [_, _], _ => rfl
  have F__law_whole := l17
  have B__law_whole := F__law_whole.binds (ps := ["_law_thing"]) fun _ _ _ _ _ _ us hl => match us, hl with | [_], _ => rfl
  have F__law_numbers := l18
  have B__law_numbers := F__law_numbers.binds (ps := ["_law_thing"]) fun _ _ _ _ _ _ us hl => match us, hl with | [_], _ => rfl
  have F__law_cleared := l19
  have B__law_cleared := F__law_cleared.binds (ps := ["_law_other", "_law_row", "_law_at"]) fun _ _ _ _ _ _ us hl => match us, hl with | [_, _, _], _ => rfl
  have F__law_rank := l20
  have B__law_rank := F__law_rank.binds (ps := ["_law_rows"]) fun _ _ _ _ _ _ us hl => match us, hl with | [_], _ => rfl
  have F__law_pair_table := l21
  have B__law_pair_table := F__law_pair_table.binds (ps := ["_law_bag_here", "_law_most"]) fun _ _ _ _ _ _ us hl => match us, hl with | [_, _], _ => rfl
  have F__law_slid := l22
  have B__law_slid := F__law_slid.binds (ps := ["_law_bag_here", "_law_table", "_law_most"]) fun _ _ _ _ _ _ us hl => match us, hl with | [_, _, _], _ => rfl
  have F__law_product := l23
  have B__law_product := F__law_product.binds (ps := ["_law_one", "_law_other"]) fun _ _ _ _ _ _ us hl => match us, hl with | [_, _], _ => rfl
  have F__law_is_table := l24
  have B__law_is_table := F__law_is_table.binds (ps := ["_law_thing"]) fun _ _ _ _ _ _ us hl => match us, hl with | [_], _ => rfl
  have F__law_odd_table := l25
  have B__law_odd_table := F__law_odd_table.binds (ps := ["_law_bag_here", "_law_table"]) fun _ _ _ _ _ _ us hl => match us, hl with | [_, _], _ => rfl
  have F__law_only := l26
  have B__law_only := F__law_only.binds (ps := ["_law_e", "_law_due"]) fun _ _ _ _ _ _ us hl => match us, hl with | [_, _], _ => rfl
  have F__law_refused := l27
  have B__law_refused := F__law_refused.binds (ps := ["_law_which", "_law_thing"]) fun _ _ _ _ _ _ us hl => match us, hl with | [_, _], _ => rfl
  have F_law := l28
  have B_law := F_law.binds (ps := ["_law_script"]) fun _ _ _ _ _ _ us hl => match us, hl with | [_], _ => rfl
  obtain ⟨oc, od, kV, dc, pm, an, cd, ct, sl, rfl, _, _⟩ := l28.ex
  refine ⟨PySem.W.fnOf "law" "law" (defArgs s_law) (defBody s_law) (defScope s_law) .none kV dc pm an cd ct, fun s v => .of_eq rfl, fun base _ _ => ?_⟩
  have h_is_whole : Has l.prog w K mg base 1 "is_whole" ["thing"] spWholeG := has_mk (ok_isWhole F_is_whole b_isinstance b_int b_bool) (PySem.W.mg_of X G a0) l0.kp B_is_whole
  have h_is_bits : Has l.prog w K mg base 2 "is_bits" ["thing", "many"] spBitsG := has_mk (ok_isBits F_is_bits h_is_whole b_isinstance b_list b_len b_all) (PySem.W.mg_of X G a1) l1.kp B_is_bits
  have h_has_shape : Has l.prog w K mg base 3 "has_shape" ["thing"] spShapeG := has_mk (ok_hasShape F_has_shape g_MOST_ROWS h_is_bits b_isinstance b_list b_len b_all) (PySem.W.mg_of X G a2) l2.kp B_has_shape
  have h_mask_of : Has l.prog w K mg base 1 "mask_of" ["row"] spMask := has_mk (ok_maskOf F_mask_of b_enumerate) (PySem.W.mg_of X G a3) l3.kp B_mask_of
  have h_bits_of : Has l.prog w K mg base 1 "bits_of" ["mask", "many"] spBitsOf := has_mk (ok_bitsOf F_bits_of b_range) (PySem.W.mg_of X G a4) l4.kp B_bits_of
  have h_least_bit : Has l.prog w K mg base 1 "least_bit" ["mask"] spLeast := has_mk (ok_least F_least_bit) (PySem.W.mg_of X G a5) l5.kp B_least_bit
  have h_is_high : Has l.prog w K mg base 1 "is_high" ["table"] spHighG := has_mk (ok_highG F_is_high b_all b_enumerate) (PySem.W.mg_of X G a6) l6.kp B_is_high
  have h_is_square : Has l.prog w K mg base 2 "is_square" ["table"] spSquareG := has_mk (ok_squareG F_is_square h_mask_of b_zip) (PySem.W.mg_of X G a7) l7.kp B_is_square
  have m_pair : HasM l.prog w K mg base 1 a_Pairing "pair" ["self", "i", "lone"] (spPairM a_Pairing) := hasM_mk (ok_pairM F_Pairing_pair c_way n_partner n_slid) a8 n8 l8.kp B_Pairing_pair
  have m_take : HasM l.prog w K mg base 2 a_Pairing "take" ["self", "i", "rest"] (spTakeM a_Pairing) := hasM_mk (ok_takeM F_Pairing_take c_way n_partner n_slid h_least_bit m_pair) a9 n9 l9.kp B_Pairing_take
  have i_Pairing : HasI l.prog w K mg base 3 a_Pairing ["self", "table"] (spInit a_Pairing) := ⟨_, _, ok_init F_Pairing___init__ c_way n_partner n_slid h_mask_of m_take b_len b_range b_reversed, ⟨mk_Pairing, a10, n10, kp_Pairing⟩, B_Pairing___init__⟩
  have h_is_table : Has l.prog w K mg base 5 "is_table" ["thing"] spIsTabG := has_mk (ok_isTabG F_is_table c_way n_partner g_Pairing i_Pairing h_has_shape h_is_high h_is_square) (PySem.W.mg_of X G a11) l11.kp B_is_table
  have h_table_pairing : HasX l.prog w K mg base 6 "table_pairing" ["thing"] (spNoTab a_NoTable) := hasX_mk (ok_tabPair F_table_pairing g_NoTable x_NoTable g_Pairing i_Pairing h_is_table) (PySem.W.mg_of X G a12) l12.kp B_table_pairing
  have h_table_partners : HasX l.prog w K mg base 7 "table_partners" ["table"] (spNoTab a_NoTable) := hasX_mk (ok_tabPart (C := a_Pairing) F_table_partners h_table_pairing) (PySem.W.mg_of X G a13) l13.kp B_table_partners
  have h_slide : HasX l.prog w K mg base 7 "slide" ["table"] (spNoTab a_NoTable) := hasX_mk (ok_slide (C := a_Pairing) F_slide h_table_pairing h_bits_of b_len) (PySem.W.mg_of X G a14) l14.kp B_slide
  have h__law_bag : Has l.prog w K mg base 1 "_law_bag" ["_law_script", "_law_at"] (spBag K) := has_mk (ok_bag F__law_bag b_len b_abs) (PySem.W.mg_of X G a15) l15.kp B__law_bag
  have h__law_take : Has l.prog w K mg base 1 "_law_take" ["_law_bag_here", "_law_many"] spTake := has_mk (ok_take F__law_take) (PySem.W.mg_of X G a16) l16.kp B__law_take
  have h__law_whole : Has l.prog w K mg base 1 "_law_whole" ["_law_thing"] spWholeG := has_mk (ok_lWhole F__law_whole b_isinstance b_int b_bool) (PySem.W.mg_of X G a17) l17.kp B__law_whole
  have h__law_numbers : Has l.prog w K mg base 2 "_law_numbers" ["_law_thing"] spNumsG := has_mk (ok_lNums F__law_numbers h__law_whole b_isinstance b_list b_all) (PySem.W.mg_of X G a18) l18.kp B__law_numbers
  have h__law_cleared : Has l.prog w K mg base 1 "_law_cleared" ["_law_other", "_law_row", "_law_at"] spCleared := has_mk (ok_cleared F__law_cleared b_zip) (PySem.W.mg_of X G a19) l19.kp B__law_cleared
  have h__law_rank : Has l.prog w K mg base 2 "_law_rank" ["_law_rows"] spRank := has_mk (ok_rank F__law_rank h__law_cleared b_list b_any) (PySem.W.mg_of X G a20) l20.kp B__law_rank
  have h__law_pair_table : Has l.prog w K mg base 2 "_law_pair_table" ["_law_bag_here", "_law_most"] spPT := has_mk (ok_pairTab F__law_pair_table h__law_take b_list b_len b_range) (PySem.W.mg_of X G a21) l21.kp B__law_pair_table
  have h__law_slid : Has l.prog w K mg base 2 "_law_slid" ["_law_bag_here", "_law_table", "_law_most"] spSlid := has_mk (ok_slid F__law_slid h__law_take b_list b_len b_range b_max b_zip) (PySem.W.mg_of X G a22) l22.kp B__law_slid
  have h__law_product : Has l.prog w K mg base 1 "_law_product" ["_law_one", "_law_other"] spProd := has_mk (ok_product F__law_product b_len b_range b_sum b_zip) (PySem.W.mg_of X G a23) l23.kp B__law_product
  have h__law_is_table : Has l.prog w K mg base 3 "_law_is_table" ["_law_thing"] spIsTabG := has_mk (ok_lIsTab F__law_is_table h__law_numbers h__law_product h__law_rank b_isinstance b_list b_len b_all b_any b_enumerate) (PySem.W.mg_of X G a24) l24.kp B__law_is_table
  have h__law_odd_table : Has l.prog w K mg base 2 "_law_odd_table" ["_law_bag_here", "_law_table"] spOdd := has_mk (ok_odd F__law_odd_table h__law_take b_list b_len b_max b_tuple) (PySem.W.mg_of X G a25) l25.kp B__law_odd_table
  have h__law_only : HasQ l.prog w K mg base 1 "_law_only" ["_law_e", "_law_due"] (spOnly a_NoTable) := hasQ_mk (ok_only F__law_only g_NoHeights g_TooMany g_NoTable g_NoSetting g_NoBanding g_NoMove g_NoName g_NoPaper g_NoRow g_NoText xc q0 q1 q2 q3 q4 q5 q6 q7 q8 q9 qv b_isinstance b_ValueError b_range) (PySem.W.mg_of X G a26) l26.kp B__law_only
  have h__law_refused : Has l.prog w K mg base 8 "_law_refused" ["_law_which", "_law_thing"] spRefused := has_mk (ok_refused F__law_refused g_FrontError x_FrontError m_NoTable h_table_partners h_slide h__law_only) (PySem.W.mg_of X G a27) l27.kp B__law_refused
  exact ok_law F_law h__law_bag h__law_pair_table h__law_slid h__law_is_table h__law_odd_table h__law_refused b_range b_len b_max b_min b_int
theorem walk {l : PySem.W.OpenLaw} {q : Program} {loose : List Str} {XP : (Str → Option Value) → Heap → Prop} {YP : World → Heap → Prop} {d : DefRec} {K : Params → PySem.W.Frag} (hn : l.most = some 63) (hdf : d.params.defaults = [])
    (hY : ∀ (w : World) (h : Heap), YP w h → (K w.params).In h)
    (F : ∀ (w : World) (mg : Str → Option Value) (fa : Addr) (h : Heap), (K w.params).In h → h.Ns mainGlobals mg → mg d.name = some (.ref fa) →
      ∃ fd : FuncData, (∀ (s : Shared) (u : Value), BindsTo s fd ⟨[u], []⟩ [("_law_script", u)]) ∧ ∀ base : Heap, (K w.params).In base → base.Ns mainGlobals mg → FnOk l.prog w (K w.params) mg base CX0 9 fa fd ["_law_script"] (spLaw (K w.params))) :
    PySem.W.WalkO q loose XP YP l.row.toRowW d [] (fun f vs => PySem.call f vs) :=
  L2.walk_of (n := 63) (k := 9) (x := "_law_script") (CX := fun _ => CX0) (sp := fun w => spLaw (K w.params)) hn (by decide) hdf ⟨rfl, by decide, by decide⟩ hY F (fun _ _ a ns hl _ hS => ⟨a, ns, rfl, hS, hl, fun _ => rfl⟩) fun _ _ _ _ _ z => z
end
end Qk27

namespace PySem.W.Fast
def tw18089043046553190496:=0
def tw10682717271727546816:=0
def tw17101077470658547232:=0
def tw2208508390058697312:=0
def tw9350173612956112512:=0
def tw3728754664721956512:=0
def tw2380102506470620992:=0
def tw17180915067664966785:=0
def tw13884207419646903617:=0
def tw16852229203270896033:=0
def tw17762645530065235361:=0
def tw4921529581063690209:=0
def tw16250106731624376322:=0
def tw8600608804322903074:=0
def tw16054513515990677602:=0
def tw16679315619140570306:=0
def tw8449598062238702786:=0
def tw14624537908302184642:=0
def tw8141000394124479810:=0
def tw4041091110486604130:=0
def tw12058246126184480194:=0
def tw1482629717215435298:=0
def tw5945856274530038370:=0
def tw13648624500507746914:=0
def tw3594808480776106722:=0
def tw3428990538248994:=0
def tw17890322206519618370:=0
def tw14708501678252717922:=0
def tw10778125969848273826:=0
def tw17437450004124697635:=0
def tw10921293839169997987:=0
def tw16490461342741431491:=0
def tw1056354419906263331:=0
def tw13368358391775282563:=0
def tw3079287374175565379:=0
def tw14345964384243762883:=0
def tw14312788527744450275:=0
def tw10334294139014121219:=0
def tw6307531723645592323:=0
def tw7610203981220024227:=0
def tw12030778424021404676:=0
def tw551899076617308260:=0
def tw10202821380060308708:=0
def tw16156587151840996868:=0
def tw2982890508034948772:=0
def tw11485971482532429668:=0
def tw12369838678152328261:=0
def tw12801112111051493573:=0
def tw8654174294871851237:=0
def tw17842675131636897317:=0
def tw6813180879552604837:=0
def tw299455289383680773:=0
def tw11744509811179672389:=0
def tw610695517715412070:=0
def tw14987743568176008326:=0
def tw8405924563725165734:=0
def tw8625567355052787910:=0
def tw9865395928297943334:=0
def tw4171062945115370822:=0
def tw7609237838349082054:=0
def tw6468650458584662502:=0
def tw11831890434744792710:=0
def tw13299415616800008998:=0
def tw4933223672842902310:=0
def tw6945994518833583910:=0
def tw9501975824110668646:=0
def tw2733774084372131975:=0
def tw16076174136406964487:=0
def tw4654986329362931079:=0
def tw17036334517038089607:=0
def tw11461304977136280007:=0
def tw651405706993994471:=0
def tw14252861053885753223:=0
def tw129421970115306407:=0
def tw2437078970412486792:=0
def tw13179844624413304040:=0
def tw8577981536774915336:=0
def tw5261341498002730312:=0
def tw4053411897348602504:=0
def tw5774117909495606952:=0
def tw17869257984673239016:=0
def tw6431355666192178281:=0
def tw18362115195536111785:=0
def tw14010518758591208649:=0
def tw13671550645024963817:=0
def tw17177794690027350249:=0
def tw6377319216285345065:=0
def tw693201886885543241:=0
def tw356078478411878793:=0
def tw9993835218542229961:=0
def tw597443526084244041:=0
def tw7581448987707628201:=0
def tw1769768636424193801:=0
def tw2212504999398168361:=0
def tw4246050003588929385:=0
def tw17688439078140296234:=0
def tw11506345280157709354:=0
def tw2553157415595190442:=0
def tw12105772381929682122:=0
def tw14598435141074627018:=0
def tw7178821196941067818:=0
def tw2050631590002314794:=0
def tw5563601552381173354:=0
def tw7699624074775686922:=0
def tw16749236771745837898:=0
def tw5677920839588175754:=0
def tw671582203717581706:=0
def tw359905483096078250:=0
def tw13596706045973041163:=0
def tw13253788381341507627:=0
def tw1643868471292033195:=0
def tw4451997272786624747:=0
def tw10401078996969376043:=0
def tw6878779425303909707:=0
def tw14663161632972097899:=0
def tw15522818563120713227:=0
def tw18420619411610806795:=0
def tw15444335699862861355:=0
def tw4616386046133186091:=0
def tw16214894397316884075:=0
def tw1921568859208456811:=0
def tw9116897097917273739:=0
def tw11432213379016570507:=0
def tw15538904209960533707:=0
def tw5832042178054273867:=0
def tw17141396087416704971:=0
def tw5240555227501814731:=0
def tw10784212201263331275:=0
def tw10695665331265570860:=0
def tw18241640306791577932:=0
def tw12211384945066268076:=0
def tw9880298319344240268:=0
def tw11506325654357781164:=0
def tw3870191424424901420:=0
def tw15598416646783680525:=0
def tw12745479006188009517:=0
def tw16417929967621966989:=0
def tw17645775583814461613:=0
def tw14017827437319192845:=0
def tw8627424920608948653:=0
def tw11663668130371426797:=0
def tw18315051563655802669:=0
def tw15509719061566626701:=0
def tw12476337087891409901:=0
def tw5141127507341763598:=0
def tw17234234746954010702:=0
def tw12094635989834100814:=0
def tw6549137833681846574:=0
def tw1997239746830758350:=0
def tw5837197889755037166:=0
def tw9892371363007507022:=0
def tw5316148024407160494:=0
def tw7633260595605568174:=0
def tw16990168092503749422:=0
def tw4441217509989704943:=0
def tw16300339561934403887:=0
def tw12751522902721467823:=0
def tw11519789024328937263:=0
def tw6198663165599647856:=0
def tw18147110337708779760:=0
def tw2727598182898446800:=0
def tw8090528698868672080:=0
def tw13843041380102217328:=0
def tw11657648416942698160:=0
def tw6109850082700978992:=0
def tw7319931415148701616:=0
def tw1543685106392094640:=0
def tw10666168191369759857:=0
def tw18184098052990614641:=0
def tw17661712884988461201:=0
def tw320224943563829489:=0
def tw15983202913781422417:=0
def tw8900275613524934033:=0
def tw17221344228761770609:=0
def tw2936740791523762897:=0
def tw6559647837742605233:=0
def tw13192888718138249169:=0
def tw3691539845139400818:=0
def tw8568123678065887410:=0
def tw3516060790486436050:=0
def tw2477584144805171474:=0
def tw17971326211639898450:=0
def tw16710109028090234226:=0
def tw12658769089386893682:=0
def tw6376014418997692978:=0
def tw11023174401147925106:=0
def tw7271048753577165522:=0
def tw17159410044954371826:=0
def tw4127391485022408498:=0
def tw13822822894253813843:=0
def tw5108300254403719251:=0
def tw13673888109685463155:=0
def tw12870705774258520179:=0
def tw2268289243891928211:=0
def tw4546778367176827187:=0
def tw5069103238630636851:=0
def tw1588237592471479699:=0
def tw11309382438680826419:=0
def tw3835253530799766099:=0
def tw5962328974174883475:=0
def tw18077535353273204403:=0
def tw2613308549672541907:=0
def tw13891711825538526195:=0
def tw16468511902293621908:=0
def tw10356816844539088084:=0
def tw5141480899760153140:=0
def tw16011373718712914580:=0
def tw10450940817196750484:=0
def tw2231482977354386132:=0
def tw9007030562288613076:=0
def tw15919910145979903732:=0
def tw11000304468162033588:=0
def tw5175161266299299796:=0
def tw7638610392054085653:=0
def tw13720553320224948245:=0
def tw14441200132659912853:=0
def tw11471788788700136757:=0
def tw13854843252421840277:=0
def tw5666997534846359989:=0
def tw2478555521214658069:=0
def tw884485528875347605:=0
def tw11433690805359099637:=0
def tw17302428806410020661:=0
def tw129685014254834613:=0
def tw1191321991541187509:=0
def tw12235028872944239670:=0
def tw947485882493829238:=0
def tw9271073357954856150:=0
def tw10671982618227504534:=0
def tw12728297161565049366:=0
def tw10755417035805220598:=0
def tw16935057431250999062:=0
def tw13556317686534281046:=0
def tw15560787667483579286:=0
def tw2122606025744285686:=0
def tw16246130544920639639:=0
def tw14256768268996323479:=0
def tw9272812524892674327:=0
def tw3158551863253767479:=0
def tw12230485755148194295:=0
def tw14095492140652398327:=0
def tw6669489686631029527:=0
def tw7538273025481434903:=0
def tw5779896556457883415:=0
def tw491009144476609335:=0
def tw343603699371843383:=0
def tw17344429708218185687:=0
def tw5719009772156710871:=0
def tw1584947688734180343:=0
def tw7648759827369748504:=0
def tw16075774161793511512:=0
def tw10662135884800299160:=0
def tw2749028192803607704:=0
def tw11936977679524070616:=0
def tw14189171359106251992:=0
def tw2085967828869079288:=0
def tw11770595428027898168:=0
def tw10883305006803092824:=0
def tw3111958583785126328:=0
def tw4142449108133227000:=0
def tw2162542248558652952:=0
def tw14451512258325081720:=0
def tw9166141325331228344:=0
def tw11481824442293956312:=0
def tw5341775840491820856:=0
def tw154090180409924440:=0
def tw1226767808143870201:=0
def tw13164664137822407033:=0
def tw619384495336138169:=0
def tw8760173868150132313:=0
def tw4720079384419439193:=0
def tw16392701614525455961:=0
def tw14810318508616793849:=0
def tw11245142065248745305:=0
def tw11644020120190762969:=0
def tw17235274313440296026:=0
def tw2954520575384861818:=0
def tw3483136621503471770:=0
def tw9365152598842800410:=0
def tw4070530272048327002:=0
def tw17980496245357604346:=0
def tw18393432402223656474:=0
def tw13714852574662062682:=0
def tw10794141480633954138:=0
def tw12430949444146411386:=0
def tw4322187017937105979:=0
def tw13815863583125747771:=0
def tw16939086547688389883:=0
def tw6213793838421647675:=0
def tw16921050346028955099:=0
def tw12991896263043343867:=0
def tw17917177320243413563:=0
def tw3214322337127233243:=0
def tw17320863996536490044:=0
def tw7417935407725438044:=0
def tw10012644471876592732:=0
def tw5859623591526548604:=0
def tw852393991561275548:=0
def tw124106538691513596:=0
def tw7612707780348484860:=0
def tw9281234527068556572:=0
def tw9566341759857549628:=0
def tw1244742793427552572:=0
def tw7062750536411245020:=0
def tw11323163929163247388:=0
def tw4290961830239873053:=0
def tw18112147854190918749:=0
def tw13296467139668277405:=0
def tw16694303098993858813:=0
def tw7766667832055094557:=0
def tw14039143820676411741:=0
def tw6761674921918108029:=0
def tw15925408432609523101:=0
def tw1791100030982544861:=0
def tw14414721013512137245:=0
def tw7613087972208951869:=0
def tw3119440055576015485:=0
def tw16987083658771946205:=0
def tw766271629867791133:=0
def tw18073252866906857309:=0
def tw4887953206044562333:=0
def tw16568462597687690141:=0
def tw622223039906991069:=0
def tw13581797697479043069:=0
def tw896634306787917854:=0
def tw10103632276758172958:=0
def tw4069952898562196830:=0
def tw12067752110368423294:=0
def tw13635599907859203454:=0
def tw12442027402313934398:=0
def tw14528910988348863198:=0
def tw2990375864021003102:=0
def tw5208349687564098655:=0
def tw16428078068535230655:=0
def tw10673157231517273375:=0
def tw2318267289761509791:=0
def tw18410748056168909215:=0
def tw5165542473657290239:=0
def tw6114737300954125023:=0
def tw561217344548783839:=0
def tw2771411344602544959:=0
def tw4531427502744864671:=0
end PySem.W.Fast
open PySem PySem.W PyProof.Rows
set_option maxRecDepth 100000 in
set_option maxHeartbeats 0 in
theorem PySem.Challenge.cw_bendfronts_k27_no_tables_holds : PySem.Challenge.rw_bendfronts_k27_no_tables.Holds := by
  w_on; o_law; k_head; (case hw => w_witness2)
  k_fill
  refine Qk27.walk (l := PySem.Challenge.rw_bendfronts_k27_no_tables) rfl rfl (fun w h Y => PySem.W.kIn_of Y) ?F
  case F =>
    intro w mg fa h KX G hmg
    refine' Qk27.all_mk KX G hmg ?ag_MOST_ROWS ?ag_FrontError ?ag_NoHeights ?ag_TooMany ?ag_NoTable ?ag_NoSetting ?ag_NoBanding ?ag_NoMove ?ag_NoName ?ag_NoPaper ?ag_NoRow ?ag_NoText ?ag_Pairing ?c_way ?n_partner ?n_slid ?mk_Pairing ?kp_Pairing ?x_FrontError ?x_NoTable ?m_NoTable ?xc ?q0 ?q1 ?q2 ?q3 ?q4 ?q5 ?q6 ?q7 ?q8 ?q9 ?qv ?a0 ?l0 ?a1 ?l1 ?a2 ?l2 ?a3 ?l3 ?a4 ?l4 ?a5 ?l5 ?a6 ?l6 ?a7 ?l7 ?a8 ?l8 ?n8 ?a9 ?l9 ?n9 ?a10 ?l10 ?n10 ?a11 ?l11 ?a12 ?l12 ?a13 ?l13 ?a14 ?l14 ?a15 ?l15 ?a16 ?l16 ?a17 ?l17 ?a18 ?l18 ?a19 ?l19 ?a20 ?l20 ?a21 ?l21 ?a22 ?l22 ?a23 ?l23 ?a24 ?l24 ?a25 ?l25 ?a26 ?l26 ?a27 ?l27 ?a28 ?l28 ?z_len ?z_range ?z_abs ?z_isinstance ?z_int ?z_bool ?z_all ?z_any ?z_max ?z_min ?z_list ?z_zip ?z_enumerate ?z_sum ?z_reversed ?z_tuple ?z_ValueError
    (case ag_MOST_ROWS => first | k_is | rfl)
    (case ag_FrontError => k_is)
    (case ag_NoHeights => k_is)
    (case ag_TooMany => k_is)
    (case ag_NoTable => k_is)
    (case ag_NoSetting => k_is)
    (case ag_NoBanding => k_is)
    (case ag_NoMove => k_is)
    (case ag_NoName => k_is)
    (case ag_NoPaper => k_is)
    (case ag_NoRow => k_is)
    (case ag_NoText => k_is)
    (case ag_Pairing => k_is)
    (case c_way => exact ⟨by first | k_is | rfl | decide +kernel, by first | k_is | rfl | decide +kernel, by first | k_is | rfl | decide +kernel, by first | k_is | rfl | decide +kernel⟩)
    (case n_partner => (show PySem.W.findIn _ _ _ = _; first | k_is | rfl | decide +kernel))
    (case n_slid => (show PySem.W.findIn _ _ _ = _; first | k_is | rfl | decide +kernel))
    (case mk_Pairing => first | k_is | rfl | decide +kernel)
    (case kp_Pairing => first | k_is | rfl | decide +kernel)
    (case x_FrontError => k_exc)
    (case x_NoTable => k_exc)
    (case m_NoTable => first | k_is | rfl | decide +kernel)
    (case xc => exact ⟨by first | k_is | rfl | decide +kernel, by first | k_is | rfl | decide +kernel, by first | k_is | rfl | decide +kernel, by first | k_is | rfl | decide +kernel, by first | k_is | rfl | decide +kernel, by first | k_is | rfl | decide +kernel⟩)
    (case q0 => first | k_is | rfl | decide +kernel)
    (case q1 => first | k_is | rfl | decide +kernel)
    (case q2 => first | k_is | rfl | decide +kernel)
    (case q3 => first | k_is | rfl | decide +kernel)
    (case q4 => first | k_is | rfl | decide +kernel)
    (case q5 => first | k_is | rfl | decide +kernel)
    (case q6 => first | k_is | rfl | decide +kernel)
    (case q7 => first | k_is | rfl | decide +kernel)
    (case q8 => first | k_is | rfl | decide +kernel)
    (case q9 => first | k_is | rfl | decide +kernel)
    (case qv => first | k_is | rfl | decide +kernel)
    (case a0 => k_is)
    (case l0 => exact L2.fun_mk (by k_is) (by k_is) (by k_is))
    (case a1 => k_is)
    (case l1 => exact L2.fun_mk (by k_is) (by k_is) (by k_is))
    (case a2 => k_is)
    (case l2 => exact L2.fun_mk (by k_is) (by k_is) (by k_is))
    (case a3 => k_is)
    (case l3 => exact L2.fun_mk (by k_is) (by k_is) (by k_is))
    (case a4 => k_is)
    (case l4 => exact L2.fun_mk (by k_is) (by k_is) (by k_is))
    (case a5 => k_is)
    (case l5 => exact L2.fun_mk (by k_is) (by k_is) (by k_is))
    (case a6 => k_is)
    (case l6 => exact L2.fun_mk (by k_is) (by k_is) (by k_is))
    (case a7 => k_is)
    (case l7 => exact L2.fun_mk (by k_is) (by k_is) (by k_is))
    (case a8 => first | k_is | rfl | decide +kernel)
    (case l8 => exact L2.fun_mk (by k_is) (by k_is) (by k_is))
    (case n8 => first | k_is | rfl | decide +kernel)
    (case a9 => first | k_is | rfl | decide +kernel)
    (case l9 => exact L2.fun_mk (by k_is) (by k_is) (by k_is))
    (case n9 => first | k_is | rfl | decide +kernel)
    (case a10 => first | k_is | rfl | decide +kernel)
    (case l10 => exact L2.fun_mk (by k_is) (by k_is) (by k_is))
    (case n10 => first | k_is | rfl | decide +kernel)
    (case a11 => k_is)
    (case l11 => exact L2.fun_mk (by k_is) (by k_is) (by k_is))
    (case a12 => k_is)
    (case l12 => exact L2.fun_mk (by k_is) (by k_is) (by k_is))
    (case a13 => k_is)
    (case l13 => exact L2.fun_mk (by k_is) (by k_is) (by k_is))
    (case a14 => k_is)
    (case l14 => exact L2.fun_mk (by k_is) (by k_is) (by k_is))
    (case a15 => k_is)
    (case l15 => exact L2.fun_mk (by k_is) (by k_is) (by k_is))
    (case a16 => k_is)
    (case l16 => exact L2.fun_mk (by k_is) (by k_is) (by k_is))
    (case a17 => k_is)
    (case l17 => exact L2.fun_mk (by k_is) (by k_is) (by k_is))
    (case a18 => k_is)
    (case l18 => exact L2.fun_mk (by k_is) (by k_is) (by k_is))
    (case a19 => k_is)
    (case l19 => exact L2.fun_mk (by k_is) (by k_is) (by k_is))
    (case a20 => k_is)
    (case l20 => exact L2.fun_mk (by k_is) (by k_is) (by k_is))
    (case a21 => k_is)
    (case l21 => exact L2.fun_mk (by k_is) (by k_is) (by k_is))
    (case a22 => k_is)
    (case l22 => exact L2.fun_mk (by k_is) (by k_is) (by k_is))
    (case a23 => k_is)
    (case l23 => exact L2.fun_mk (by k_is) (by k_is) (by k_is))
    (case a24 => k_is)
    (case l24 => exact L2.fun_mk (by k_is) (by k_is) (by k_is))
    (case a25 => k_is)
    (case l25 => exact L2.fun_mk (by k_is) (by k_is) (by k_is))
    (case a26 => k_is)
    (case l26 => exact L2.fun_mk (by k_is) (by k_is) (by k_is))
    (case a27 => k_is)
    (case l27 => exact L2.fun_mk (by k_is) (by k_is) (by k_is))
    (case a28 => k_is)
    (case l28 => exact L2.fun_mk (by k_is) (by k_is) (by k_is))
    (case z_len => k_is)
    (case z_range => k_is)
    (case z_abs => k_is)
    (case z_isinstance => k_is)
    (case z_int => k_is)
    (case z_bool => k_is)
    (case z_all => k_is)
    (case z_any => k_is)
    (case z_max => k_is)
    (case z_min => k_is)
    (case z_list => k_is)
    (case z_zip => k_is)
    (case z_enumerate => k_is)
    (case z_sum => k_is)
    (case z_reversed => k_is)
    (case z_tuple => k_is)
    (case z_ValueError => k_is)


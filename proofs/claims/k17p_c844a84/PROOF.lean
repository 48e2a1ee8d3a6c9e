import PyProof.Rows.All
import Wide.All
import OpenK.AllK
import Wide.FinOn
import Lean
import PyProof.EqAt
import PyProof.EqKinds
import PyProof.TupleCall
import PySem.Challenge.RW_bendfronts_k17_left_walks
set_option Elab.async false
set_option linter.all false
set_option maxRecDepth 100000
/-! THE HAND LAYER, for ints, bools, texts, own classes, LISTS and tuples (index, slices, in, append, pop ..), calls, loops. Paste it whole ahead of your own text; what your proof does not reach may be deleted. -/
namespace L2
open PySem PySem.Spec PyProof.Rows

/-- a key: an int or a str -/
abbrev Key := Sum Int Str
def keyIs : Key → Value → Bool
  | .inl k, v => Value.isInt k v
  | .inr x, v => Value.isStrOf x v
def keyH (w : World) : Key → Int
  | .inl k => hashInt k
  | .inr x => hashStr w x
theorem keyIs_shape : ∀ {k : Key} {v : Value}, keyIs k v = true → (∃ i t, k = Sum.inl i ∧ v = Value.int i t) ∨ (∃ x t, k = Sum.inr x ∧ v = Value.str x t)
  | .inl i, v, h => by
    obtain ⟨t, e⟩ := Value.isInt_shape (k := i) (v := v) h
    exact .inl ⟨i, t, rfl, e⟩
  | .inr x, v, h => by
    obtain ⟨t, e⟩ := Value.isStrOf_shape (x := x) (v := v) h
    exact .inr ⟨x, t, rfl, e⟩
theorem keyIs_int (i : Int) (t : Tok) : keyIs (.inl i) (.int i t) = true := by simp [keyIs, Value.isInt]
theorem keyIs_str (x : Str) (t : Tok) : keyIs (.inr x) (.str x t) = true := by simp [keyIs, Value.isStrOf]
theorem key_ll (a b : Int) : decide ((Sum.inl a : Key) = Sum.inl b) = (a == b) := by
  by_cases e : a = b
  · subst e; simp
  · have h : ¬ (Sum.inl a : Key) = Sum.inl b := fun q => e (Sum.inl.inj q)
    rw [decide_eq_false h]
    exact (beq_eq_false_iff_ne.mpr e).symm
theorem key_rr (a b : Str) : decide ((Sum.inr a : Key) = Sum.inr b) = decide (a = b) := by
  by_cases e : a = b
  · subst e; simp
  · have h : ¬ (Sum.inr a : Key) = Sum.inr b := fun q => e (Sum.inr.inj q)
    rw [decide_eq_false h, decide_eq_false e]
theorem key_lr (a : Int) (b : Str) : decide ((Sum.inl a : Key) = Sum.inr b) = false := decide_eq_false (fun q => nomatch q)
theorem key_rl (a : Str) (b : Int) : decide ((Sum.inr a : Key) = Sum.inl b) = false := decide_eq_false (fun q => nomatch q)

def mixKind (prog : Program) (w : World) : PySem.KeyKind prog w Key where
  is := keyIs
  hash := keyH w
  inj := fun v a b ha hb => by
    rcases keyIs_shape ha with ⟨i, t, rfl, rfl⟩ | ⟨x, t, rfl, rfl⟩
    · rcases keyIs_shape hb with ⟨j, u, rfl, e⟩ | ⟨y, u, rfl, e⟩
      · injection e with e1 _; rw [e1]
      · exact nomatch e
    · rcases keyIs_shape hb with ⟨j, u, rfl, e⟩ | ⟨y, u, rfl, e⟩
      · exact nomatch e
      · injection e with e1 _; rw [e1]
  byValue := fun k v h => by
    rcases keyIs_shape h with ⟨i, t, rfl, rfl⟩ | ⟨x, t, rfl, rfl⟩ <;> rfl
  pyHash := fun hv h => by
    rcases keyIs_shape hv with ⟨i, t, rfl, rfl⟩ | ⟨x, t, rfl, rfl⟩
    · exact wpAny_pyHash_int h
    · exact wpAny_pyHash_str h
  eqBool := fun hu hv h => by
    rcases keyIs_shape hu with ⟨i, t, rfl, rfl⟩ | ⟨x, t, rfl, rfl⟩
    · rcases keyIs_shape hv with ⟨j, u, rfl, rfl⟩ | ⟨y, u, rfl, rfl⟩
      · rw [key_ll] at h; exact wpAny_eqBool_int h
      · rw [key_lr] at h; exact SeqAt.EqAt.int_str i t y u _ _ _ _ h
    · rcases keyIs_shape hv with ⟨j, u, rfl, rfl⟩ | ⟨y, u, rfl, rfl⟩
      · rw [key_rl] at h; exact SeqAt.EqAt.str_int x t j u _ _ _ _ h
      · rw [key_rr] at h; exact wpAny_eqBool_str h
  «strs» := fun k x t v h => by
    rcases keyIs_shape h with ⟨i, u, rfl, e⟩ | ⟨y, u, rfl, e⟩
    · exact nomatch e
    · injection e with e1 _
      subst e1
      cases v <;> rfl

theorem mixKind_int (prog : Program) (w : World) (i : Int) (t : Tok) : (mixKind prog w).is (.inl i) (.int i t) = true := keyIs_int i t
theorem mixKind_str (prog : Program) (w : World) (x : Str) (t : Tok) : (mixKind prog w).is (.inr x) (.str x t) = true := keyIs_str x t
end L2

namespace L2
open PySem PySem.Spec PyProof.Rows

/-- a value, without the heap -/
inductive V where
  | non | bl (b : Bool) | int (i : Int) | str (x : Str) | byt (b : Array UInt8) | flt (b : UInt64) | ref (a : Addr) | ty (n : String)
  deriving DecidableEq

def RelV : V → Value → Prop
  | .non, u => u = Value.none
  | .bl b, u => u = Value.bool b
  | .int i, u => ∃ t, u = Value.int i t
  | .str x, u => ∃ t, u = Value.str x t
  | .byt b, u => ∃ t, u = Value.bytes b t
  | .flt b, u => ∃ t, u = Value.float b t
  | .ref a, u => u = Value.ref a
  | .ty n, u => u = Value.type n

abbrev Vals : List V → List Value → Prop := Paired RelV
theorem Vals.length {xs : List V} {us : List Value} (r : Vals xs us) : xs.length = us.length := Paired.length r
theorem Vals.get : ∀ {xs : List V} {us : List Value} {i : Nat} {x : V}, Vals xs us → xs[i]? = some x → ∃ u, us[i]? = some u ∧ RelV x u
  | _, _, _, _, .nil, e => by simp at e
  | _, _, 0, _, .cons r _, e => by simp at e; subst e; exact ⟨_, rfl, r⟩
  | _, _, i + 1, x, .cons _ t, e => by
    obtain ⟨u, h1, h2⟩ := Vals.get (i := i) (x := x) t (by simpa using e)
    exact ⟨u, by simpa using h1, h2⟩
theorem Vals.set {x : V} {u : Value} (r : RelV x u) : ∀ {xs : List V} {us : List Value} (i : Nat), Vals xs us → Vals (xs.set i x) (us.set i u)
  | _, _, _, .nil => .nil
  | _, _, 0, .cons _ t => .cons r t
  | _, _, i + 1, .cons q t => .cons q (Vals.set r i t)
theorem Vals.append : ∀ {xs ys : List V} {us ws : List Value}, Vals xs us → Vals ys ws → Vals (xs ++ ys) (us ++ ws)
  | _, _, _, _, .nil, s => s
  | _, _, _, _, .cons r t, s => .cons r (Vals.append t s)
theorem Vals.take : ∀ {xs : List V} {us : List Value} (n : Nat), Vals xs us → Vals (xs.take n) (us.take n)
  | _, _, 0, _ => .nil
  | _, _, _ + 1, .nil => .nil
  | _, _, n + 1, .cons r t => .cons r (Vals.take n t)
theorem Vals.drop : ∀ {xs : List V} {us : List Value} (n : Nat), Vals xs us → Vals (xs.drop n) (us.drop n)
  | _, _, 0, r => r
  | _, _, _ + 1, .nil => .nil
  | _, _, n + 1, .cons _ t => Vals.drop n t
def RelO : Option V → Option Value → Prop
  | some v, some u => RelV v u
  | none, none => True
  | _, _ => False
def KV {κ : Type} : List (κ × V) → List (κ × Value) → Prop := Paired fun (p : κ × V) (q : κ × Value) => p.1 = q.1 ∧ RelV p.2 q.2

/-- a key of a dict (00_mix): an int or a text -/
def kV : Key → V
  | .inl i => .int i
  | .inr x => .str x

/-- what stands at a tracked address -/
inductive HO where
  /-- a list -/
  | lst (xs : List V)
  /-- a tuple (never changes) -/
  | tup (xs : List V)
  /-- a dict whose keys are ints and texts; one whose keys are tuples of ints and texts (the empty one is both) -/
  | dK (kvs : List (Key × V)) | dT (kvs : List (List Key × V))
  /-- a set of ints: its members, its size -/
  | set (S : Int → Bool) (n : Nat)
  /-- an instance of the class at C, its dict at dx, its attributes -/
  | ins (C dx : Addr) (fs : List (Str × V))
  /-- the dict of the instance at x -/
  | own (x : Addr)
  /-- the dict of an exception -/
  | xd (fs : List (Str × V))
  /-- a bound method, f of x -/
  | met (f x : Addr)
  /-- a range object lo, lo + 1, .. below hi -/
  | rng (lo hi : Int)
  /-- a thing that is known to the object (the script; a dict while a loop walks it): read, never written while it is so -/
  | frz (o : Obj) (u : HO)
  /-- a code object's table -/
  | tbl (ps : Array Value)
  /-- any other thing, by what is true of its one object (a def of one's own: SetO a S n := HO.ext fun h => ..) -/
  | ext (φ : Heap → Prop)

abbrev Hp := Addr → Option HO
def upd (H : Hp) (a : Addr) (o : HO) : Hp := fun b => if b = a then some o else H b
theorem upd_same {H : Hp} {a : Addr} {o : HO} : upd H a o a = some o := by unfold upd; rw [if_pos rfl]
theorem upd_ne {H : Hp} {a b : Addr} {o : HO} (h : b ≠ a) : upd H a o b = H b := by unfold upd; rw [if_neg h]
/-- two objects of different content stand apart -/
theorem ne_of {H : Hp} {a b : Addr} {o u : HO} (h : H a = some o) (h' : H b = some u) (d : o ≠ u) : a ≠ b := by
  intro e; subst e; rw [h] at h'; exact d (Option.some.inj h')
theorem ne_of_none {H : Hp} {a b : Addr} {o : HO} (h : H a = some o) (h' : H b = none) : a ≠ b := by
  intro e; subst e; rw [h] at h'; cases h'

section
variable (P : Program) (w : World)
def ObjOk (H : Hp) (h : Heap) (a : Addr) : HO → Prop
  | .lst xs => xs.length ≤ sizeLine ∧ ∃ (its : List Value) (n : Nat), Vals xs its ∧ h.get? a = some { cls := .type "list", data := .seq its.toArray n }
  | .tup xs => xs.length ≤ sizeLine ∧ ∃ its : List Value, Vals xs its ∧ IsTup h a its.toArray
  | .dK kvs => kvs.length ≤ sizeLine ∧ (a == sysModules) = false ∧ ∃ vs, KV kvs vs ∧ h.DictOf (mixKind P w) a vs
  | .dT kvs => kvs.length ≤ sizeLine ∧ (a == sysModules) = false ∧ ∃ xs : List (List Key × Addr × Value),
      Paired (fun (p : List Key × V) (q : List Key × Addr × Value) => p.1 = q.1 ∧ H q.2.1 = some (.tup (p.1.map kV)) ∧ RelV p.2 q.2.2) kvs xs ∧
      ∃ o es ep, h.get? a = some o ∧ o.ExactDict ∧ o.data = .dict es ep ∧ es.toList = xs.map (entryOfKey (tupleKind (mixKind P w))) ∧ (xs.map (·.1)).Nodup
  | .set S n => h.SetOf (intKind P w) a S n
  | .ins C dx fs => H dx = some (.own a) ∧ fs.length ≤ 1000 ∧ dx ≠ a ∧ h.get? a = some (PySem.W.instObj C dx) ∧
      ∃ mA, h.Ns1 dx mA ∧ (∀ f, RelO (fs.lookup f) (mA f)) ∧ PySem.Within mA (fs.map (·.1))
  | .own _ => ∃ o, h.get? a = some o
  | .xd fs => ∃ mA, h.Ns1 a mA ∧ ∀ f, RelO (fs.lookup f) (mA f)
  | .rng lo hi => ∃ t u v, h.get? a = some { cls := .type "range", data := .fields #[.int lo t, .int hi u, .int 1 v] }
  | .frz o u => h.get? a = some o ∧ ObjOk H h a u
  | .tbl ps => h.get? a = some { cls := .none, data := .fields ps }
  | .met f x => h.get? a = some (PySem.W.methodObj (.ref f) (.ref x))
  | .ext φ => φ h ∧ (∃ o, h.get? a = some o) ∧ ∀ h1 h2 : Heap, φ h1 → (∀ o, h1.get? a = some o → h2.get? a = some o) → φ h2
/-- the abstract heap is held -/
def HOk (H : Hp) (h : Heap) : Prop := ∀ a o, H a = some o → ObjOk P w H h a o
end

section
variable {P : Program} {w : World} {H H' : Hp} {h h' : Heap} {a : Addr} {o : HO}
theorem ObjOk.lt (x : ObjOk P w H h a o) : a < h.objs.size := by
  cases o with
  | lst xs => obtain ⟨_, _, _, _, e⟩ := x; exact Heap.lt_size e
  | tup xs => obtain ⟨_, _, _, p⟩ := x; exact p.lt
  | dK kvs => obtain ⟨_, _, _, _, o, _, _, e, _⟩ := x; exact Heap.lt_size e
  | dT kvs => obtain ⟨_, _, _, _, o, _, _, e, _⟩ := x; exact Heap.lt_size e
  | set S n => obtain ⟨o, _, _, _, e, _⟩ := x; exact Heap.lt_size e
  | ins C dx fs => obtain ⟨_, _, _, e, _⟩ := x; exact Heap.lt_size e
  | own y => obtain ⟨_, e⟩ := x; exact Heap.lt_size e
  | xd fs => obtain ⟨_, ⟨_, _, _, e, _⟩, _⟩ := x; exact Heap.lt_size e
  | rng lo hi => obtain ⟨_, _, _, e⟩ := x; exact Heap.lt_size e
  | frz ob u => obtain ⟨e, _⟩ := x; exact Heap.lt_size e
  | tbl ps => exact Heap.lt_size (show h.get? a = some _ from x)
  | met f y => exact Heap.lt_size (show h.get? a = some _ from x)
  | ext φ => obtain ⟨_, ⟨_, e⟩, _⟩ := x; exact Heap.lt_size e
theorem Paired.mapP {α β : Type} {F G : α → β → Prop} : ∀ {l₁ : List α} {l₂ : List β}, Paired F l₁ l₂ → (∀ a b, F a b → G a b) → Paired G l₁ l₂
  | _, _, .nil, _ => .nil
  | _, _, .cons r t, f => .cons (f _ _ r) (Paired.mapP t f)
/-- what an object's description leans on: its own object, its own dict, the tuples -/
theorem ObjOk.stay (x : ObjOk P w H h a o) (k : ∀ b u, (b = a ∨ H b = some (.own a)) → h.get? b = some u → h'.get? b = some u)
    (ho : ∀ b, H b = some (.own a) → H' b = some (.own a)) (ht : ∀ b xs, H b = some (.tup xs) → H' b = some (.tup xs)) : ObjOk P w H' h' a o := by
  induction o with
  | lst xs => obtain ⟨z, its, n, r, e⟩ := x; exact ⟨z, its, n, r, k _ _ (.inl rfl) e⟩
  | tup xs => obtain ⟨z, its, r, ob, e, c⟩ := x; exact ⟨z, its, r, ob, k _ _ (.inl rfl) e, c⟩
  | dK kvs => obtain ⟨z, y, vs, r, ob, es, ep, e, c⟩ := x; exact ⟨z, y, vs, r, ob, es, ep, k _ _ (.inl rfl) e, c⟩
  | dT kvs =>
    obtain ⟨z, y, xs, r, ob, es, ep, e, c⟩ := x
    exact ⟨z, y, xs, Paired.mapP r fun p q z => ⟨z.1, ht _ _ z.2.1, z.2.2⟩, ob, es, ep, k _ _ (.inl rfl) e, c⟩
  | set S n => obtain ⟨ob, es, ep, t, e, c⟩ := x; exact ⟨ob, es, ep, t, k _ _ (.inl rfl) e, c⟩
  | ins C dx fs =>
    obtain ⟨d, z, ne, e, mA, ⟨od, es, ep, e2, c⟩, r⟩ := x
    exact ⟨ho _ d, z, ne, k _ _ (.inl rfl) e, mA, ⟨od, es, ep, k _ _ (.inr d) e2, c⟩, r⟩
  | own y => obtain ⟨ob, e⟩ := x; exact ⟨ob, k _ _ (.inl rfl) e⟩
  | xd fs => obtain ⟨mA, ⟨od, es, ep, e, c⟩, r⟩ := x; exact ⟨mA, ⟨od, es, ep, k _ _ (.inl rfl) e, c⟩, r⟩
  | rng lo hi => obtain ⟨t, u, v, e⟩ := x; exact ⟨t, u, v, k _ _ (.inl rfl) e⟩
  | frz ob u ih => obtain ⟨e, q⟩ := x; exact ⟨k _ _ (.inl rfl) e, ih q⟩
  | tbl ps =>
    have e : h.get? a = some { cls := .none, data := .fields ps } := x
    show h'.get? a = some { cls := .none, data := .fields ps }
    exact k a _ (.inl rfl) e
  | met f y =>
    have e : h.get? a = some (PySem.W.methodObj (.ref f) (.ref y)) := x
    show h'.get? a = some (PySem.W.methodObj (.ref f) (.ref y))
    exact k a _ (.inl rfl) e
  | ext φ => obtain ⟨p, ⟨o, e⟩, st⟩ := x; exact ⟨st _ _ p fun o q => k _ _ (.inl rfl) q, ⟨o, k _ _ (.inl rfl) e⟩, st⟩
theorem HOk.lt (x : HOk P w H h) (e : H a = some o) : a < h.objs.size := (x a o e).lt
theorem HOk.fresh (x : HOk P w H h) (e : h.objs.size ≤ a) : H a = none := by
  cases q : H a with
  | none => rfl
  | some u => exact absurd (Nat.lt_of_lt_of_le (x.lt q) e) (Nat.lt_irrefl _)
/-- every object of the heap is kept -/
theorem HOk.kept (x : HOk P w H h) (k : ∀ b u, h.get? b = some u → h'.get? b = some u) : HOk P w H h' := fun a o e =>
  (x a o e).stay (fun b u _ q => k b u q) (fun _ q => q) fun _ _ q => q
/-- a new object is laid and tracked -/
theorem HOk.laid (x : HOk P w H h) (k : ∀ b u, h.get? b = some u → h'.get? b = some u) (hp : h.objs.size ≤ a) (new : ObjOk P w (upd H a o) h' a o) : HOk P w (upd H a o) h' := fun b u e => by
  have hn := x.fresh hp
  by_cases hb : b = a
  · subst hb; rw [upd_same] at e; cases e; exact new
  · rw [upd_ne hb] at e
    exact (x b u e).stay (fun c v _ q => k c v q) (fun c q => by rw [upd_ne (ne_of_none q hn)]; exact q) fun c xs q => by rw [upd_ne (ne_of_none q hn)]; exact q
end

/-- what may be read as u: it is u, or a known u -/
def Rd (H : Hp) (a : Addr) (u : HO) : Prop := H a = some u ∨ ∃ o, H a = some (.frz o u)
theorem Rd.ok {P : Program} {w : World} {H : Hp} {h : Heap} {a : Addr} {u : HO} (r : Rd H a u) (x : HOk P w H h) : ObjOk P w H h a u := by
  rcases r with r | ⟨o, r⟩
  · exact x a u r
  · obtain ⟨_, q⟩ := x a _ r
    exact q
/-- what may be written -/
def Mut : Option HO → Prop
  | some (.lst _) => True
  | some (.dK _) => True
  | some (.dT _) => True
  | some (.set _ _) => True
  | some (.ins _ _ _) => True
  | some (.ext _) => True
  | _ => False
section
variable {P : Program} {w : World} {H : Hp} {h h' : Heap} {x e : Addr} {o' : HO}
/-- the object at e is changed: x itself, or the dict of the instance x -/
theorem HOk.write (ok : HOk P w H h) (mu : Mut (H x)) (he : e = x ∨ H e = some (.own x)) (k : ∀ b u, b ≠ e → h.get? b = some u → h'.get? b = some u) (heo : ∃ u, h'.get? e = some u)
    (new : ObjOk P w (upd H x o') h' x o') : HOk P w (upd H x o') h' := fun b u q => by
  have nown : ∀ c y, H c = some (.own y) → c ≠ x := fun c y r z => by subst z; rw [r] at mu; exact mu
  have ntup : ∀ c xs, H c = some (.tup xs) → c ≠ x := fun c xs r z => by subst z; rw [r] at mu; exact mu
  by_cases hb : b = x
  · subst hb; rw [upd_same] at q; cases q; exact new
  · rw [upd_ne hb] at q
    by_cases hbe : b = e
    · have q' : H b = some (.own x) := by
        rcases he with z | z
        · exact absurd (hbe.trans z) hb
        · rw [hbe]; exact z
      rw [q] at q'; cases q'
      obtain ⟨v, hv⟩ := heo
      exact ⟨v, by rw [hbe]; exact hv⟩
    · refine (ok b u q).stay (fun c v hc r => k c v ?_ r) (fun c r => by rw [upd_ne (nown c b r)]; exact r) fun c xs r => by rw [upd_ne (ntup c xs r)]; exact r
      rcases hc with rfl | hc
      · exact hbe
      · rintro rfl
        rcases he with z | z
        · exact nown c b hc z
        · rw [hc] at z; cases z; exact hb rfl
end

/-! ### kept unless tracked; of the frames at fs (the callers') the slots may change (an exception that passes writes there); of the records at ex (iterators) nothing is said -/
structure Un (fs ex : List Addr) (H H' : Hp) (h h' : Heap) : Prop where
  keep : ∀ b o, h.get? b = some o → H b = none → b ∉ fs → b ∉ ex → h'.get? b = some o
  slot : ∀ b o, h.get? b = some o → H b = none → b ∈ fs → b ∉ ex → ∃ sl, h'.get? b = some { o with slots := sl }
  free : ∀ b o, h.get? b = some o → H b = none → b ∉ ex → H' b = none
  there : ∀ b o, h.get? b = some o → b ∉ ex → ∃ o', h'.get? b = some o'
  tups : ∀ b xs, H b = some (.tup xs) → H' b = some (.tup xs)
  frzs : ∀ b o u, H b = some (.frz o u) → H' b = some (.frz o u)
  tbls : ∀ b ps, H b = some (.tbl ps) → ∃ more, H' b = some (.tbl (ps ++ more))
section
variable {fs fs' ex ex' : List Addr} {H H1 H2 : Hp} {h h1 h2 h' : Heap} {a x e : Addr} {o : HO}
theorem Un.any (u : Un fs ex H H1 h h1) {b : Addr} {ob : Obj} (q : h.get? b = some ob) (n : H b = none) (hx : b ∉ ex) : ∃ sl, h1.get? b = some { ob with slots := sl } := by
  by_cases hb : b ∈ fs
  · exact u.slot b ob q n hb hx
  · exact ⟨ob.slots, u.keep b ob q n hb hx⟩
theorem Un.kept (k : ∀ b u, h.get? b = some u → h'.get? b = some u) : Un fs ex H H h h' :=
  ⟨fun b ob q _ _ _ => k b ob q, fun b ob q _ _ _ => ⟨ob.slots, k b ob q⟩, fun _ _ _ n _ => n, fun b ob q _ => ⟨ob, k b ob q⟩, fun _ _ q => q, fun _ _ _ q => q, fun _ ps q => ⟨#[], by rw [q]; simp⟩⟩
theorem Un.refl : Un fs ex H H h h := Un.kept fun _ _ q => q
theorem Un.laid (k : ∀ b u, h.get? b = some u → h'.get? b = some u) (hp : h.objs.size ≤ a) (hn : H a = none) : Un fs ex H (upd H a o) h h' where
  keep := fun b u q _ _ _ => k b u q
  slot := fun b u q _ _ _ => ⟨u.slots, k b u q⟩
  free := fun b u q n _ => by rw [upd_ne (Nat.ne_of_lt (Nat.lt_of_lt_of_le (Heap.lt_size q) hp))]; exact n
  there := fun b u q _ => ⟨u, k b u q⟩
  tups := fun b xs q => by rw [upd_ne (ne_of_none q hn)]; exact q
  frzs := fun b u xs q => by rw [upd_ne (ne_of_none q hn)]; exact q
  tbls := fun b ps q => ⟨#[], by rw [upd_ne (ne_of_none q hn), q]; simp⟩
theorem Un.write (mu : Mut (H x)) (he : e = x ∨ H e = some (.own x)) (k : ∀ b u, b ≠ e → h.get? b = some u → h'.get? b = some u) (heo : ∃ u, h'.get? e = some u) : Un fs ex H (upd H x o) h h' := by
  have hx : ∀ b, H b = none → b ≠ x := fun b n z => by subst z; rw [n] at mu; exact mu
  have hb : ∀ b, H b = none → b ≠ e := fun b n z => by
    subst z
    rcases he with r | r
    · exact hx b n r
    · rw [n] at r; cases r
  have hm : ∀ b u, H b = some u → ¬ Mut (some u) → b ≠ x := fun b u q nm z => by subst z; rw [q] at mu; exact nm mu
  refine ⟨fun b u q n _ _ => k b u (hb b n) q, fun b u q n _ _ => ⟨u.slots, k b u (hb b n) q⟩, fun b u q n _ => by rw [upd_ne (hx b n)]; exact n, fun b u q _ => ?_,
    fun b xs q => by rw [upd_ne (hm b _ q fun z => z)]; exact q, fun b u xs q => by rw [upd_ne (hm b _ q fun z => z)]; exact q, fun b ps q => ⟨#[], by rw [upd_ne (hm b _ q fun z => z), q]; simp⟩⟩
  by_cases hbe : b = e
  · subst hbe; exact heo
  · exact ⟨u, k b u hbe q⟩
end

/-! ### the heap without what is tracked -/
def trk (h : Heap) (H : Hp) : List Addr := (List.range h.objs.size).filter fun a => (H a).isSome
def hidT (h : Heap) (H : Hp) : Heap := PySem.W.hideAll h (trk h H)
theorem hidT_size (h : Heap) (H : Hp) : (hidT h H).objs.size = h.objs.size := PySem.W.hideAll_size _ _
theorem hidT_get {h : Heap} {H : Hp} {b : Addr} {o : Obj} (e : h.get? b = some o) (n : H b = none) : (hidT h H).get? b = some o :=
  PySem.W.hideAll_get _ e fun hm => by
    have q : (H b).isSome = true := (List.mem_filter.mp hm).2
    rw [n] at q; simp at q
theorem of_hidT {h : Heap} {H : Hp} {b : Addr} {o : Obj} (e : (hidT h H).get? b = some o) : h.get? b = some o ∧ H b = none := by
  have e' : h.get? b = some o := PySem.W.of_hideAll (trk h H) e
  refine ⟨e', ?_⟩
  cases q : H b with
  | none => rfl
  | some x =>
    have hm : b ∈ trk h H := List.mem_filter.mpr ⟨List.mem_range.mpr (Heap.lt_size e'), by simp [q]⟩
    have z : (hidT h H).get? b = none := PySem.W.hideAll_none (trk h H) hm
    rw [z] at e; cases e

/-! ### OpenK's ledger, filled with every new object but one -/
def allNews (g h : Heap) (L : Addr) : List (Addr × Obj) := (List.range h.objs.size).filterMap fun a => if a = L ∨ (g.get? a).isSome = true then none else (h.get? a).map fun o => (a, o)
theorem mem_allNews {g h : Heap} {L a : Addr} {o : Obj} (h1 : a ≠ L) (h2 : g.get? a = none) (h3 : h.get? a = some o) : (a, o) ∈ allNews g h L :=
  List.mem_filterMap.mpr ⟨a, List.mem_range.mpr (Heap.lt_size h3), by simp [h1, h2, h3]⟩
theorem of_mem_allNews {g h : Heap} {L : Addr} {p : Addr × Obj} (hp : p ∈ allNews g h L) : p.1 ≠ L ∧ g.get? p.1 = none ∧ h.get? p.1 = some p.2 := by
  obtain ⟨b, _, e⟩ := List.mem_filterMap.mp hp
  split at e
  · cases e
  · rename_i hn
    cases q : h.get? b with
    | none => rw [q] at e; simp at e
    | some u =>
      rw [q] at e
      simp only [Option.map_some, Option.some.injEq] at e
      subst e
      refine ⟨fun z => hn (.inl z), ?_, q⟩
      show g.get? b = none
      cases r : g.get? b with
      | none => rfl
      | some v => exact (hn (.inr (by simp [r]))).elim
def rest (g h : Heap) (L d : Addr) : List (Addr × Obj) := (allNews g h L).filter fun p => decide (p.1 ≠ d)
theorem news_all {g h : Heap} {L : Addr} : News g L h (allNews g h L) := fun p hp => let ⟨a, b, c⟩ := of_mem_allNews hp; ⟨c, a, b⟩
end L2

namespace L2
open PySem PySem.Spec PyProof.Rows

/-- the module's facts, over the base: the heap at the law's entry without what is tracked there -/
structure Mod (K : PySem.W.Frag) (mg : Str → Option Value) (base : Heap) : Prop where
  kin : K.In base
  glob : base.Ns mainGlobals mg
  blt : ∃ mb, base.Ns builtinsNs mb ∧ ∀ x : Str, x ≠ "__name__" → mb x = bootBuiltins x
  nolimit : base.NoLimit

/-- the context: a def's body (or a comprehension's block) running. base: fixed through the whole law; s₀, H₀: the entry; outer: the frames whose slots others may change (a def's callers); stack: all frames that run;
   ex: iterators that were made ahead of the entry and are walked here (a comprehension's); fn: the names whose cells were made at the entry (a def: all; a comprehension's block: its own); calm: not within an except suite; pn: pins that every state bears; xe: what is wanted of an exception that leaves the code -/
structure Cx where
  prog : Program
  w : World
  K : PySem.W.Frag
  mg : Str → Option Value
  base : Heap
  A : Around
  N : List Str
  s₀ : Shared
  H₀ : Hp
  env : Env
  outer : List Env
  stack : List Env
  ex : List Addr
  fn : Str → Bool
  calm : Bool
  pn : List (Addr × Obj)
  xe : Value → Shared → Prop
/-- the callers' frames -/
def frs (l : List Env) : List Addr := l.filterMap (·.frame)
abbrev Cx.fs (X : Cx) : List Addr := frs X.outer

def Vis (sc : Scope) (x : Str) : Prop := sc.names.lookup x = some .local ∨ sc.names.lookup x = some .cell ∨ sc.names.lookup x = some .free
def Loc (sc : Scope) (x : Str) : Prop := sc.names.lookup x = some .local ∨ sc.names.lookup x = some .cell
def Look (env : Env) (h : Heap) (m : Str → Option Value) (x : Str) (u : Value) : Prop :=
  (env.kindOf x = some .local ∧ m x = some u) ∨ ((env.kindOf x = some .cell ∨ env.kindOf x = some .free) ∧ ∃ c, env.cells.lookup x = some c ∧ h.IsCell c (some u))

structure Cx.Ok (X : Cx) : Prop where
  mod : Mod X.K X.mg X.base
  kind : X.env.scope.kind = .function
  glob : X.env.globals = mainGlobals
  blt : X.env.builtins = builtinsNs
  above : X.s₀.heap.objs.size ≤ X.env.locals
  inj : ∀ x y c, X.env.cells.lookup x = some c → X.env.cells.lookup y = some c → x = y
  has : ∀ x, (X.env.kindOf x = some .cell ∨ X.env.kindOf x = some .free) → ∃ c, X.env.cells.lookup x = some c
  cab : ∀ x c, X.fn x = true → X.env.cells.lookup x = some c → X.s₀.heap.objs.size ≤ c
  hd : X.calm = true → X.A.handled = none
  frames : X.A.frames = some X.stack
  stk : X.stack = X.outer ∨ (X.stack = X.env :: X.outer ∧ X.env.frame = some X.env.locals)
  exf : ∀ b ∈ X.ex, b ≠ X.env.locals ∧ ∀ x c, X.env.cells.lookup x = some c → c ≠ b
  bs : ∀ b o, X.base.get? b = some o → X.s₀.heap.get? b = some o ∧ X.H₀ b = none
  bsz : X.base.objs.size ≤ X.s₀.heap.objs.size
  noex : ∀ b o, X.base.get? b = some o → b ∉ X.ex
  exfs : ∀ b ∈ X.ex, b ∉ X.fs
  funs : X.s₀.heap.FunFrames X.base X.outer
  frf : ∀ b ∈ X.fs, X.H₀ b = none

structure Inv (X : Cx) (pins : List (Addr × Obj)) (σ : List (Option V)) (H : Hp) (s : Shared) : Prop where
  ok : X.Ok
  os : s.os = X.s₀.os
  bare : AllBare s.gens
  base : Un X.fs X.ex X.H₀ H X.s₀.heap s.heap
  loc : ∃ m, s.heap.Ns X.env.locals m ∧ ∀ (i : Nat) (x : Str) (v : V), X.N[i]? = some x → σ[i]? = some (some v) → Vis X.env.scope x → ∃ u, RelV v u ∧ Look X.env s.heap m x u
  cell : ∀ x c, X.env.cells.lookup x = some c → ∃ v, s.heap.IsCell c v
  free : H X.env.locals = none
  freeC : ∀ x c, X.env.cells.lookup x = some c → H c = none
  pin : ∀ p ∈ X.pn ++ pins, s.heap.get? p.1 = some p.2 ∧ H p.1 = none ∧ p.1 ≠ X.env.locals ∧ p.1 ∉ X.fs ∧ ∀ v, p.2.data ≠ .cell v
  hok : HOk X.prog X.w H s.heap
  len : σ.length = X.N.length

section
variable {X : Cx} {pins : List (Addr × Obj)} {σ : List (Option V)} {H H' : Hp} {s : Shared} {h' : Heap}

theorem Cx.Ok.nofr (ok : X.Ok) {b : Addr} {o : Obj} (e : X.base.get? b = some o) : b ∉ X.fs := fun hb => by
  have := (ok.funs.mem hb).1
  rw [e] at this; cases this
theorem Inv.bs (I : Inv X pins σ H s) : ∀ b o, X.base.get? b = some o → s.heap.get? b = some o ∧ H b = none := fun b o e =>
  ⟨I.base.keep b o (I.ok.bs b o e).1 (I.ok.bs b o e).2 (I.ok.nofr e) (I.ok.noex b o e), I.base.free b o (I.ok.bs b o e).1 (I.ok.bs b o e).2 (I.ok.noex b o e)⟩
theorem Inv.bk (I : Inv X pins σ H s) : ∀ b o, X.base.get? b = some o → s.heap.get? b = some o := fun b o e => (I.bs b o e).1
theorem Inv.mod (I : Inv X pins σ H s) : Mod X.K X.mg X.base := I.ok.mod
theorem Inv.kIn (I : Inv X pins σ H s) : X.K.In s.heap := I.ok.mod.kin.keeps I.bk
/-- the frame over the base: for OpenK's rules (K.In X.base is I.mod.kin) -/
theorem Inv.fr (I : Inv X pins σ H s) : ∃ m, Fr X.base X.env.locals s.heap m :=
  let ⟨m, hn, _⟩ := I.loc
  ⟨m, hn, I.bk, Nat.le_trans I.ok.bsz I.ok.above⟩
theorem Inv.lt (I : Inv X pins σ H s) : X.env.locals < s.heap.objs.size := let ⟨_, hn, _⟩ := I.loc; hn.lt
theorem Inv.sz (I : Inv X pins σ H s) : X.s₀.heap.objs.size ≤ s.heap.objs.size := Nat.le_trans I.ok.above (Nat.le_of_lt I.lt)
theorem Inv.nofs (I : Inv X pins σ H s) {a : Addr} (h : s.heap.objs.size ≤ a) : a ∉ X.fs := fun hb => by
  obtain ⟨_, o, ho, _⟩ := I.ok.funs.mem hb
  exact absurd (Nat.lt_of_lt_of_le (Heap.lt_size ho) (Nat.le_trans I.sz h)) (Nat.lt_irrefl _)
theorem Inv.cne (I : Inv X pins σ H s) : ∀ x c, X.env.cells.lookup x = some c → c ≠ X.env.locals := fun x c e z => by
  obtain ⟨v, o, ho, hd⟩ := I.cell x c e
  obtain ⟨m, ⟨o', es, ep, ho', hd', _⟩, _⟩ := I.loc
  rw [z, ho'] at ho; cases ho; rw [hd'] at hd; cases hd
theorem Inv.funs (I : Inv X pins σ H s) : s.heap.FunFrames X.base X.outer := by
  have all : ∀ (l : List Env), (∀ b ∈ frs l, b ∈ X.fs) → X.s₀.heap.FunFrames X.base l → s.heap.FunFrames X.base l := by
    intro l
    induction l with
    | nil => intro _ _; trivial
    | cons env r ih =>
      intro hs hl
      obtain ⟨hk, ⟨L, o, hf, hn, ho, hd⟩, hr⟩ := hl
      have hL : L ∈ X.fs := hs L (by unfold frs; rw [List.filterMap_cons, hf]; exact List.mem_cons_self)
      obtain ⟨sl, e⟩ := I.base.slot L o ho (I.ok.frf L hL) hL fun z => I.ok.exfs L z hL
      exact ⟨hk, ⟨L, _, hf, hn, e, hd⟩, ih (fun b hb => hs b (by unfold frs; rw [List.filterMap_cons, hf]; exact List.mem_cons_of_mem _ hb)) hr⟩
  exact all X.outer (fun _ hb => hb) I.ok.funs

/-- the frames that run, for a call -/
theorem Inv.stack (I : Inv X pins σ H s) : s.heap.FunFrames X.base X.stack := by
  rcases I.ok.stk with e | ⟨e, hf⟩
  · rw [e]; exact I.funs
  · rw [e]
    obtain ⟨m, hn, _⟩ := I.loc
    refine .cons (by rw [I.ok.kind]; decide) hf hn ?_ I.funs
    exact Heap.get?_none_of_le (Nat.le_trans I.ok.bsz I.ok.above)
theorem Inv.stkSub (I : Inv X pins σ H s) : ∀ b ∈ frs X.stack, b ∈ X.env.locals :: X.fs := fun b hb => by
  rcases I.ok.stk with e | ⟨e, hf⟩
  · rw [e] at hb; exact List.mem_cons_of_mem _ hb
  · rw [e] at hb
    unfold frs at hb
    rw [List.filterMap_cons, hf] at hb
    exact hb
theorem Inv.stkFree (I : Inv X pins σ H s) : ∀ b ∈ frs X.stack, H b = none := fun b hb => by
  rcases List.mem_cons.mp (I.stkSub b hb) with e | hb
  · rw [e]; exact I.free
  · obtain ⟨_, o, ho, _⟩ := I.ok.funs.mem hb
    exact I.base.free b o ho (I.ok.frf b hb) fun z => I.ok.exfs b z hb

/-- THE STEP: the untracked objects but the frame and the records at ch are kept (the callers' frames up to slots), the frame's map is kept, the new abstract heap is held -/
theorem Inv.step {g' : Array GenState} {t' : Nat} {d' : Drawn} {ch : List Addr} (I : Inv X pins σ H s)
    (hch : ∀ b ∈ ch, (b ∈ X.ex ∨ X.s₀.heap.objs.size ≤ b) ∧ b ≠ X.env.locals ∧ (∀ x c, X.env.cells.lookup x = some c → c ≠ b) ∧ ∀ p ∈ X.pn ++ pins, p.1 ≠ b)
    (keep : ∀ b o, b ≠ X.env.locals → b ∉ X.fs → b ∉ ch → s.heap.get? b = some o → H b = none → h'.get? b = some o)
    (slot : ∀ b o, b ≠ X.env.locals → b ∈ X.fs → b ∉ ch → s.heap.get? b = some o → H b = none → ∃ sl, h'.get? b = some { o with slots := sl }) (free : ∀ b o, b ∉ ch → s.heap.get? b = some o → H b = none → H' b = none)
    (there : ∀ b o, b ∉ ch → s.heap.get? b = some o → ∃ o', h'.get? b = some o')
    (tups : ∀ b xs, H b = some (.tup xs) → H' b = some (.tup xs)) (frzs : ∀ b o u, H b = some (.frz o u) → H' b = some (.frz o u)) (tbls : ∀ b ps, H b = some (.tbl ps) → ∃ more, H' b = some (.tbl (ps ++ more)))
    (ns : ∀ m, s.heap.Ns X.env.locals m → h'.Ns X.env.locals m) (hok : HOk X.prog X.w H' h') (hg : AllBare g') :
    Inv X pins σ H' { s with heap := h', gens := g', drawn := d', toks := t' } := by
  have neL : ∀ b o, X.s₀.heap.get? b = some o → b ≠ X.env.locals := fun b o e => Nat.ne_of_lt (Nat.lt_of_lt_of_le (Heap.lt_size e) I.ok.above)
  have neC : ∀ b o, X.s₀.heap.get? b = some o → b ∉ X.ex → b ∉ ch := fun b o e hx hb => by
    rcases (hch b hb).1 with z | z
    · exact hx z
    · exact absurd (Nat.lt_of_lt_of_le (Heap.lt_size e) z) (Nat.lt_irrefl _)
  have cellK : ∀ x c, X.env.cells.lookup x = some c → ∀ v, s.heap.IsCell c v → h'.IsCell c v := fun x c e v ⟨o, ho, hd⟩ => by
    have nch : c ∉ ch := fun z => (hch c z).2.2.1 x c e rfl
    by_cases hc : c ∈ X.fs
    · obtain ⟨sl, q⟩ := slot c o (I.cne x c e) hc nch ho (I.freeC x c e)
      exact ⟨_, q, hd⟩
    · exact ⟨o, keep c o (I.cne x c e) hc nch ho (I.freeC x c e), hd⟩
  refine ⟨I.ok, I.os, hg, ⟨fun b o e n hb hx => ?_, fun b o e n hb hx => ?_, fun b o e n hx => ?_, fun b o e hx => ?_, fun b xs e => tups b xs (I.base.tups b xs e), fun b o xs e => frzs b o xs (I.base.frzs b o xs e), fun b ps e => ?_⟩, ?_, fun x c e => ?_, ?_, fun x c e => ?_, fun p hp => ?_, hok, I.len⟩
  · exact keep b o (neL b o e) hb (neC b o e hx) (I.base.keep b o e n hb hx) (I.base.free b o e n hx)
  · obtain ⟨sl, e1⟩ := I.base.slot b o e n hb hx
    obtain ⟨sl', e2⟩ := slot b _ (neL b o e) hb (neC b o e hx) e1 (I.base.free b o e n hx)
    exact ⟨sl', e2⟩
  · obtain ⟨o', e1⟩ := I.base.there b o e hx
    exact free b o' (neC b o e hx) e1 (I.base.free b o e n hx)
  · obtain ⟨o', e1⟩ := I.base.there b o e hx
    exact there b o' (neC b o e hx) e1
  · obtain ⟨m1, e1⟩ := I.base.tbls b ps e
    obtain ⟨m2, e2⟩ := tbls b _ e1
    exact ⟨m1 ++ m2, by rw [e2, Array.append_assoc]⟩
  · obtain ⟨m, hn, hl⟩ := I.loc
    refine ⟨m, ns m hn, fun i x v e1 e2 e3 => ?_⟩
    obtain ⟨u, r, l⟩ := hl i x v e1 e2 e3
    refine ⟨u, r, ?_⟩
    rcases l with l | ⟨k, c, e, z⟩
    · exact .inl l
    · exact .inr ⟨k, c, e, cellK x c e _ z⟩
  · obtain ⟨v, z⟩ := I.cell x c e
    exact ⟨v, cellK x c e v z⟩
  · obtain ⟨m, ⟨o, _, _, ho, _⟩, _⟩ := I.loc
    exact free _ o (fun z => (hch _ z).2.1 rfl) ho I.free
  · obtain ⟨v, o, ho, hd⟩ := I.cell x c e
    exact free c o (fun z => (hch c z).2.2.1 x c e rfl) ho (I.freeC x c e)
  · obtain ⟨e, n, ne, nf, d⟩ := I.pin p hp
    have nch : p.1 ∉ ch := fun z => (hch p.1 z).2.2.2 p hp rfl
    exact ⟨keep p.1 p.2 ne nf nch e n, free p.1 p.2 nch e n, ne, nf, d⟩
/-- .. where the frame's own object is kept too -/
theorem Inv.un {t' : Nat} (I : Inv X pins σ H s) (u : Un X.fs [] H H' s.heap h') (hok : HOk X.prog X.w H' h') : Inv X pins σ H' { s with heap := h', toks := t' } := by
  obtain ⟨m, ⟨o, es, ep, ho, r⟩, _⟩ := id I.loc
  obtain ⟨sl, hL⟩ := u.any ho I.free (by simp)
  exact I.step (g' := s.gens) (d' := s.drawn) (ch := []) (fun _ z => nomatch z) (fun b o _ hb _ e n => u.keep b o e n hb (by simp)) (fun b o _ hb _ e n => u.slot b o e n hb (by simp)) (fun b o _ e n => u.free b o e n (by simp)) (fun b o _ e => u.there b o e (by simp)) u.tups u.frzs u.tbls (fun m' hm => by
    obtain ⟨o', es', ep', ho', r'⟩ := hm
    rw [ho] at ho'; cases ho'
    exact ⟨_, es', ep', hL, r'⟩) hok I.bare
/-- behind a call (or a comprehension's block): the slots of this frame may have changed too, the records at ch may have turned -/
theorem Inv.call {g' : Array GenState} {t' : Nat} {d' : Drawn} {ch : List Addr} (I : Inv X pins σ H s) (u : Un (frs X.stack) ch H H' s.heap h') (hok : HOk X.prog X.w H' h') (hg : AllBare g')
    (hch : ∀ b ∈ ch, (b ∈ X.ex ∨ X.s₀.heap.objs.size ≤ b) ∧ b ≠ X.env.locals ∧ (∀ x c, X.env.cells.lookup x = some c → c ≠ b) ∧ ∀ p ∈ X.pn ++ pins, p.1 ≠ b) :
    Inv X pins σ H' { s with heap := h', gens := g', drawn := d', toks := t' } := by
  obtain ⟨m, ⟨o, es, ep, ho, r⟩, _⟩ := id I.loc
  obtain ⟨sl, hL⟩ := u.any ho I.free fun z => (hch _ z).2.1 rfl
  exact I.step (ch := ch) hch (fun b o hL hb hc e n => u.keep b o e n (fun z => (List.mem_cons.mp (I.stkSub b z)).elim hL hb) hc) (fun b o _ _ hc e n => u.any e n hc) (fun b o hc e n => u.free b o e n hc) (fun b o hc e => u.there b o e hc) u.tups u.frzs u.tbls (fun m' hm => by
    obtain ⟨o', es', ep', ho', r'⟩ := hm
    rw [ho] at ho'; cases ho'
    exact ⟨_, es', ep', hL, r'⟩) hok hg
/-- an untracked record of ours (an iterator) has turned -/
theorem Inv.turned {t' : Nat} {it : Addr} (I : Inv X pins σ H s) (k : ∀ b o, b ≠ it → s.heap.get? b = some o → h'.get? b = some o) (hn : H it = none) (hL : it ≠ X.env.locals)
    (h1 : it ∈ X.ex ∨ X.s₀.heap.objs.size ≤ it) (h2 : ∀ x c, X.env.cells.lookup x = some c → c ≠ it) (h3 : ∀ p ∈ X.pn ++ pins, p.1 ≠ it) : Inv X pins σ H { s with heap := h', toks := t' } := by
  have nit : ∀ b u, H b = some u → b ≠ it := fun b u e z => by rw [z, hn] at e; cases e
  refine I.step (g' := s.gens) (d' := s.drawn) (ch := [it]) (fun b hb => ?_) (fun b o _ _ hc e _ => k b o (fun z => hc (by simp [z])) e) (fun b o _ _ hc e _ => ⟨o.slots, k b o (fun z => hc (by simp [z])) e⟩) (fun _ _ _ _ n => n)
    (fun b o hc e => ⟨o, k b o (fun z => hc (by simp [z])) e⟩) (fun _ _ e => e) (fun _ _ _ e => e) (fun b ps e => ⟨#[], by rw [e]; simp⟩) (fun m hm => ?_) (fun b u e => ?_) I.bare
  · have e : b = it := by simpa using hb
    subst e
    exact ⟨h1, hL, h2, h3⟩
  · obtain ⟨o, es, ep, ho, r⟩ := hm
    exact ⟨o, es, ep, k _ o (Ne.symm hL) ho, r⟩
  · refine (I.hok b u e).stay (fun c v hc q => k c v ?_ q) (fun _ q => q) fun _ _ q => q
    rcases hc with z | z
    · rw [z]; exact nit b u e
    · exact nit c _ z
theorem Inv.tok (I : Inv X pins σ H s) (t : Nat) : Inv X pins σ H { s with toks := t } := I.un (h' := s.heap) (t' := t) Un.refl I.hok
/-- all objects kept -/
theorem Inv.kept {t' : Nat} (I : Inv X pins σ H s) (k : ∀ b u, s.heap.get? b = some u → h'.get? b = some u) : Inv X pins σ H { s with heap := h', toks := t' } := I.un (Un.kept k) (I.hok.kept k)
/-- a new object laid and tracked -/
theorem Inv.laid {a : Addr} {o : HO} {t' : Nat} (I : Inv X pins σ H s) (k : ∀ b u, s.heap.get? b = some u → h'.get? b = some u) (hp : s.heap.objs.size ≤ a) (new : ObjOk X.prog X.w (upd H a o) h' a o) :
    Inv X pins σ (upd H a o) { s with heap := h', toks := t' } := I.un (Un.laid k hp (I.hok.fresh hp)) (I.hok.laid k hp new)
/-- an object written -/
theorem Inv.write {x e : Addr} {o : HO} {t' : Nat} (I : Inv X pins σ H s) (mu : Mut (H x)) (he : e = x ∨ H e = some (.own x)) (k : ∀ b u, b ≠ e → s.heap.get? b = some u → h'.get? b = some u) (heo : ∃ u, h'.get? e = some u)
    (new : ObjOk X.prog X.w (upd H x o) h' x o) : Inv X pins σ (upd H x o) { s with heap := h', toks := t' } := I.un (Un.write mu he k heo) (I.hok.write mu he k heo new)
theorem Inv.pins_of {pins' : List (Addr × Obj)} (I : Inv X pins σ H s) (h : ∀ p ∈ pins', s.heap.get? p.1 = some p.2 ∧ H p.1 = none ∧ p.1 ≠ X.env.locals ∧ p.1 ∉ X.fs ∧ ∀ v, p.2.data ≠ .cell v) : Inv X pins' σ H s :=
  ⟨I.ok, I.os, I.bare, I.base, I.loc, I.cell, I.free, I.freeC, fun p hp => (List.mem_append.mp hp).elim (fun z => I.pin p (List.mem_append_left _ z)) (h p), I.hok, I.len⟩

theorem nodup_ix {N : List Str} (hN : N.Nodup) {i j : Nat} {x : Str} (a : N[i]? = some x) (b : N[j]? = some x) : i = j := by
  obtain ⟨h1, e1⟩ := List.getElem?_eq_some_iff.mp a
  obtain ⟨h2, e2⟩ := List.getElem?_eq_some_iff.mp b
  exact (List.getElem_inj hN).mp (e1.trans e2.symm)

/-- a name is stored; what changed -/
theorem store_ok2 {M : Model} {A : Around} {E : Value → Shared → Prop} {i : Nat} {x : Str} {v : V} {u : Value} {Q : Unit → Shared → Prop} (I : Inv X pins σ H s) (hN : X.N.Nodup) (hi : X.N[i]? = some x) (hx : Loc X.env.scope x) (r : RelV v u)
    (h : ∀ s', Inv X pins (σ.set i (some v)) H s' → (∃ a, Heap.SameBut a s.heap s'.heap ∧ (a = X.env.locals ∨ X.env.cells.lookup x = some a)) → Q () s') (hf : X.fn x = true ∨ X.env.scope.names.lookup x = some .local := by first | exact .inl rfl | exact .inr rfl | assumption) : wpAny M A (storeName X.env x u) Q E s := by
  obtain ⟨m, hn, hl⟩ := id I.loc
  have hcls : (X.env.scope.kind == .class || (X.env.scope.kind == .module && X.env.locals != X.env.globals)) = false := by rw [I.ok.kind]; rfl
  have hiσ : i < σ.length := by rw [I.len]; exact (List.getElem?_eq_some_iff.mp hi).1
  have cne := I.cne
  have tracked : ∀ {a : Addr} {h' : Heap}, (∃ o, s.heap.get? a = some o ∧ H a = none) → Heap.SameBut a s.heap h' → HOk X.prog X.w H h' := fun {a h'} ha hs b ob e => by
    obtain ⟨_, _, hfree⟩ := ha
    refine (I.hok b ob e).stay (fun c w' hc q => (hs.2 c ?_).trans q) (fun _ q => q) fun _ _ q => q
    rintro rfl
    rcases hc with rfl | hc
    · rw [hfree] at e; cases e
    · rw [hfree] at hc; cases hc
  rcases hx with hk | hk
  · refine wpAny_storeName_local hk hn (fun h' hn' hs => ?_) hcls
    obtain ⟨oL, _, _, hoL, _⟩ := id hn
    refine h _ ⟨I.ok, I.os, I.bare, ⟨fun b o e n hb hx => ?_, fun b o e n hb hx => ?_, I.base.free, fun b o e hx => ?_, I.base.tups, I.base.frzs, I.base.tbls⟩, ⟨_, hn', fun j y v' e1 e2 e3 => ?_⟩, fun y c e => ?_, I.free, I.freeC, fun p hp => ?_, tracked ⟨oL, hoL, I.free⟩ hs, by simpa using I.len⟩ ⟨_, hs, .inl rfl⟩
    · exact (hs.2 b (Nat.ne_of_lt (Nat.lt_of_lt_of_le (Heap.lt_size e) I.ok.above))).trans (I.base.keep b o e n hb hx)
    · obtain ⟨sl, e1⟩ := I.base.slot b o e n hb hx
      exact ⟨sl, (hs.2 b (Nat.ne_of_lt (Nat.lt_of_lt_of_le (Heap.lt_size e) I.ok.above))).trans e1⟩
    · obtain ⟨o', e1⟩ := I.base.there b o e hx
      exact ⟨o', (hs.2 b (Nat.ne_of_lt (Nat.lt_of_lt_of_le (Heap.lt_size e) I.ok.above))).trans e1⟩
    · by_cases hj : j = i
      · subst hj
        rw [hi] at e1; cases e1
        rw [List.getElem?_set_self hiσ] at e2
        cases e2
        exact ⟨u, r, .inl ⟨hk, by simp⟩⟩
      · rw [List.getElem?_set_ne (Ne.symm hj)] at e2
        obtain ⟨u', r', q⟩ := hl j y v' e1 e2 e3
        refine ⟨u', r', ?_⟩
        rcases q with ⟨k, e⟩ | ⟨k, c, e, z⟩
        · refine .inl ⟨k, ?_⟩
          have : y ≠ x := fun e => hj (nodup_ix hN e1 (e ▸ hi))
          simp [this, e]
        · exact .inr ⟨k, c, e, z.sameBut hs (cne y c e)⟩
    · obtain ⟨w', z⟩ := I.cell y c e
      exact ⟨w', z.sameBut hs (cne y c e)⟩
    · obtain ⟨e, n, ne, nf, d⟩ := I.pin p hp
      exact ⟨(hs.2 p.1 ne).trans e, n, ne, nf, d⟩
  · have hfn : X.fn x = true := by
      rcases hf with z | z
      · exact z
      · rw [z] at hk; cases hk
    obtain ⟨c, hc⟩ := I.ok.has x (.inl hk)
    obtain ⟨w', z⟩ := I.cell x c hc
    refine wpAny_storeName_cell I.ok.kind hk hc z (fun h' hc' hs => ?_)
    obtain ⟨oc, hoc, hocd⟩ := id z
    refine h { s with heap := h' } ⟨I.ok, I.os, I.bare, ⟨fun b o e n hb hx => ?_, fun b o e n hb hx => ?_, I.base.free, fun b o e hx => ?_, I.base.tups, I.base.frzs, I.base.tbls⟩, ⟨m, hn.sameBut hs (Ne.symm (cne x c hc)), fun j y v' e1 e2 e3 => ?_⟩, fun y c' e => ?_, I.free, I.freeC, fun p hp => ?_, tracked ⟨oc, hoc, I.freeC x c hc⟩ hs, by simpa using I.len⟩ ⟨c, hs, .inr hc⟩
    · exact (hs.2 b (Nat.ne_of_lt (Nat.lt_of_lt_of_le (Heap.lt_size e) (I.ok.cab x c hfn hc)))).trans (I.base.keep b o e n hb hx)
    · obtain ⟨sl, e1⟩ := I.base.slot b o e n hb hx
      exact ⟨sl, (hs.2 b (Nat.ne_of_lt (Nat.lt_of_lt_of_le (Heap.lt_size e) (I.ok.cab x c hfn hc)))).trans e1⟩
    · obtain ⟨o', e1⟩ := I.base.there b o e hx
      exact ⟨o', (hs.2 b (Nat.ne_of_lt (Nat.lt_of_lt_of_le (Heap.lt_size e) (I.ok.cab x c hfn hc)))).trans e1⟩
    · by_cases hj : j = i
      · subst hj
        rw [hi] at e1; cases e1
        rw [List.getElem?_set_self hiσ] at e2
        cases e2
        exact ⟨u, r, .inr ⟨.inl hk, c, hc, hc'⟩⟩
      · rw [List.getElem?_set_ne (Ne.symm hj)] at e2
        obtain ⟨u', r', q⟩ := hl j y v' e1 e2 e3
        refine ⟨u', r', ?_⟩
        rcases q with q | ⟨k, c', e, z'⟩
        · exact .inl q
        · refine .inr ⟨k, c', e, z'.sameBut hs ?_⟩
          rintro rfl
          exact hj (nodup_ix hN e1 (I.ok.inj _ _ _ e hc ▸ hi))
    · by_cases hcc : c' = c
      · subst hcc; exact ⟨_, hc'⟩
      · obtain ⟨w2, z2⟩ := I.cell y c' e
        exact ⟨w2, z2.sameBut hs hcc⟩
    · obtain ⟨e, n, ne, nf, d⟩ := I.pin p hp
      refine ⟨(hs.2 p.1 ?_).trans e, n, ne, nf, d⟩
      intro q
      rw [q, hoc] at e
      have q' : oc = p.2 := Option.some.inj e
      exact d w' (by rw [← q']; exact hocd)
theorem store_ok {M : Model} {A : Around} {E : Value → Shared → Prop} {i : Nat} {x : Str} {v : V} {u : Value} {Q : Unit → Shared → Prop} (I : Inv X pins σ H s) (hN : X.N.Nodup) (hi : X.N[i]? = some x) (hx : Loc X.env.scope x) (r : RelV v u)
    (h : ∀ s', Inv X pins (σ.set i (some v)) H s' → Q () s') (hf : X.fn x = true ∨ X.env.scope.names.lookup x = some .local := by first | exact .inl rfl | exact .inr rfl | assumption) : wpAny M A (storeName X.env x u) Q E s :=
  store_ok2 I hN hi hx r (fun s' I' _ => h s' I') hf
/-- behind a call or a block, the state as it is -/
theorem Inv.call' {s' : Shared} {ch : List Addr} (I : Inv X pins σ H s) (ho : s'.os = s.os) (u : Un (frs X.stack) ch H H' s.heap s'.heap) (hok : HOk X.prog X.w H' s'.heap) (hg : AllBare s'.gens)
    (hch : ∀ b ∈ ch, (b ∈ X.ex ∨ X.s₀.heap.objs.size ≤ b) ∧ b ≠ X.env.locals ∧ (∀ x c, X.env.cells.lookup x = some c → c ≠ b) ∧ ∀ p ∈ X.pn ++ pins, p.1 ≠ b) : Inv X pins σ H' s' := by
  obtain ⟨h', g', d', t', o'⟩ := s'
  have e : o' = s.os := ho
  subst e
  exact I.call (g' := g') (t' := t') (d' := d') u hok hg hch
end

/-! ### the judgements -/
/-- an exception: its class, its own dict's address (where it has one), the abstract heap behind it -/
abbrev XK := Value → Option Addr → Hp → Prop
abbrev St := List (Option V)
abbrev VK := V → Hp → Prop
/-- an expression's reading; a test's; an argument list's -/
abbrev TE := St → Hp → VK → Prop
abbrev TT := St → Hp → (Bool → Hp → Prop) → Prop
abbrev TA := St → Hp → (List V → Hp → Prop) → Prop
/-- what is wanted behind a statement -/
structure Ends where
  nx : St → Hp → Prop
  rt : VK
  bk : St → Hp → Prop := fun _ _ => False
  ct : St → Hp → Prop := fun _ _ => False
abbrev TS := Ends → St → Hp → Prop

def EP (X : Cx) (pins : List (Addr × Obj)) (σ : St) (Q : VK) (u : Value) (s' : Shared) : Prop := ∃ v H', Inv X pins σ H' s' ∧ RelV v u ∧ Q v H'
def TP (X : Cx) (pins : List (Addr × Obj)) (σ : St) (Q : Bool → Hp → Prop) (b : Bool) (s' : Shared) : Prop := ∃ H', Inv X pins σ H' s' ∧ Q b H'
def AP (X : Cx) (pins : List (Addr × Obj)) (σ : St) (Q : List V → Hp → Prop) (us : List Value) (s' : Shared) : Prop := ∃ vs H', Inv X pins σ H' s' ∧ Vals vs us ∧ Q vs H'
def SP (X : Cx) (pins : List (Addr × Obj)) (D : Ends) (f : Flow) (s' : Shared) : Prop :=
  match f with
  | .next => ∃ σ' H', Inv X pins σ' H' s' ∧ D.nx σ' H'
  | .brk => ∃ σ' H', Inv X pins σ' H' s' ∧ D.bk σ' H'
  | .cont => ∃ σ' H', Inv X pins σ' H' s' ∧ D.ct σ' H'
  | .ret u => ∃ v σ' H', Inv X pins σ' H' s' ∧ RelV v u ∧ D.rt v H'

def PE (X : Cx) (e : Expr) (t : TE) : Prop :=
  ∀ (pins : List (Addr × Obj)) (s : Shared) (σ : St) (H : Hp) (Q : VK), Inv X pins σ H s → t σ H Q → wpAny (model X.prog X.w) X.A (eval e X.env) (EP X pins σ Q) X.xe s
def PT (X : Cx) (e : Expr) (t : TT) : Prop :=
  ∀ (pins : List (Addr × Obj)) (s : Shared) (σ : St) (H : Hp) (Q : Bool → Hp → Prop), Inv X pins σ H s → t σ H Q → wpAny (model X.prog X.w) X.A (isTrue e X.env (eval e X.env)) (TP X pins σ Q) X.xe s
/-- a test whatever its 'whole' is (and, or) -/
def PW (X : Cx) (e : Expr) (t : TT) : Prop :=
  ∀ (whole : Sem Value) (pins : List (Addr × Obj)) (s : Shared) (σ : St) (H : Hp) (Q : Bool → Hp → Prop), Inv X pins σ H s → t σ H Q → wpAny (model X.prog X.w) X.A (isTrue e X.env whole) (TP X pins σ Q) X.xe s
theorem PW.pt {X : Cx} {e : Expr} {t : TT} (h : PW X e t) : PT X e t := h _
/-- an argument list (no star), from the left -/
def PA (X : Cx) (es : List Expr) (t : TA) : Prop :=
  ∀ (pos : Pos) (pins : List (Addr × Obj)) (s : Shared) (σ : St) (H : Hp) (Q : List V → Hp → Prop), Inv X pins σ H s → t σ H Q → wpAny (model X.prog X.w) X.A (spliced (backTo pos (starEach es X.env))) (AP X pins σ Q) X.xe s
def PS (X : Cx) (st : Stmt) (t : TS) : Prop :=
  ∀ (pins : List (Addr × Obj)) (s : Shared) (σ : St) (H : Hp) (D : Ends), Inv X pins σ H s → t D σ H → wpAny (model X.prog X.w) X.A (exec st X.env) (SP X pins D) X.xe s
def PSs (X : Cx) (st : List Stmt) (t : TS) : Prop :=
  ∀ (pins : List (Addr × Obj)) (s : Shared) (σ : St) (H : Hp) (D : Ends), Inv X pins σ H s → t D σ H → wpAny (model X.prog X.w) X.A (execs st X.env) (SP X pins D) X.xe s
/-- weaken the end -/
theorem thn {α : Type} {t : Sem α} {Q Q' : α → Shared → Prop} {M : Model} {A : Around} {E : Value → Shared → Prop} {s : Shared} (h : wpAny M A t Q E s) (hQ : ∀ a s, Q a s → Q' a s) : wpAny M A t Q' E s := wpAny_mono h hQ fun _ _ x => x
end L2

namespace L2
open PySem PySem.Spec PyProof.Rows
section
variable {X : Cx}

/-! ### names and constants -/
def tVar (i : Nat) : TE := fun σ H Q => ∃ v, σ[i]? = some (some v) ∧ Q v H
def tC (v : V) : TE := fun _ H Q => Q v H
theorem pe_var {i : Nat} {x : Str} {pos : Pos} (hN : X.N[i]? = some x) (hv : Vis X.env.scope x) (hd : (x == ("__debug__" : Str)) = false := by decide) (hcd : (x == ("__classdict__" : Str)) = false := by decide) : PE X (.Name x pos) (tVar i) := by
  intro pins s σ H Q I h
  obtain ⟨v, e, h⟩ := h
  obtain ⟨m, hn, hl⟩ := I.loc
  obtain ⟨u, r, l⟩ := hl i x v hN e hv
  have fin : EP X pins σ Q u s := ⟨v, H, I, r, h⟩
  rcases l with ⟨hk, hm⟩ | ⟨hk, c, hc, hcell⟩
  · exact wpAny_Name (wpAny_loadName_local I.ok.kind hk hn hm fin) hd
  · rcases hk with hk | hk
    · exact wpAny_Name (wpAny_loadName_cell I.ok.kind hk hc hcell fin) hd
    · exact wpAny_Name (wpAny_loadName_free I.ok.kind hk hc hcell fin hcd) hd
theorem pe_int {i j pos} : PE X (.Constant (.int i) j pos) (tC (.int i)) := fun _ _ _ H _ I h => wpAny_Constant_int ⟨.int i, H, I.tok _, ⟨_, rfl⟩, h⟩
theorem pe_bl {b j pos} : PE X (.Constant (.bool b) j pos) (tC (.bl b)) := fun _ _ _ H _ I h => Constant_bool ⟨.bl b, H, I, rfl, h⟩
theorem pe_non {j pos} : PE X (.Constant .none j pos) (tC .non) := fun _ _ _ H _ I h => Constant_none ⟨.non, H, I, rfl, h⟩
theorem pe_str {x j pos} : PE X (.Constant (.str x) j pos) (tC (.str x)) := fun _ _ _ H _ I h => Calls.Constant_str ⟨.str x, H, I.tok _, ⟨_, rfl⟩, h⟩

/-- a global name of the def -/
def Gl (X : Cx) (x : Str) : Prop := X.env.kindOf x = some .globalImplicit
theorem ld_glob {E : Value → Shared → Prop} {pins : List (Addr × Obj)} {s : Shared} {σ : St} {H : Hp} {x : Str} {u : Value} {pos : Pos} {Q : Value → Shared → Prop} (I : Inv X pins σ H s) (hg : Gl X x) (hm : X.mg x = some u) (h : Q u s)
    (hd : (x == ("__debug__" : Str)) = false := by decide) : wpAny (model X.prog X.w) X.A (eval (.Name x pos) X.env) Q E s :=
  Calls.Name_function_global I.ok.kind hg (Calls.loadGlobal_global (by rw [I.ok.glob]; exact I.mod.glob.keeps I.bk) hm h) hd
theorem ld_blt {E : Value → Shared → Prop} {pins : List (Addr × Obj)} {s : Shared} {σ : St} {H : Hp} {x : Str} {u : Value} {pos : Pos} {Q : Value → Shared → Prop} (I : Inv X pins σ H s) (hg : Gl X x) (hm : X.mg x = none) (hv : bootBuiltins x = some u) (h : Q u s)
    (hn : x ≠ "__name__" := by decide) (hd : (x == ("__debug__" : Str)) = false := by decide) : wpAny (model X.prog X.w) X.A (eval (.Name x pos) X.env) Q E s := by
  obtain ⟨mb, h1, h2⟩ := I.mod.blt
  exact Calls.Name_function_global I.ok.kind hg (Calls.loadGlobal_builtin (by rw [I.ok.glob]; exact I.mod.glob.keeps I.bk) hm (by rw [I.ok.blt]; exact h1.keeps I.bk) ((h2 x hn).trans hv) h) hd
/-- a module's constant, a class, a function, as a value -/
theorem pe_glob {x : Str} {v : V} {u : Value} {pos : Pos} (hg : Gl X x) (hm : X.mg x = some u) (r : RelV v u) (hd : (x == ("__debug__" : Str)) = false := by decide) : PE X (.Name x pos) (tC v) :=
  fun _ _ _ H _ I h => ld_glob I hg hm ⟨v, H, I, r, h⟩ hd
/-! ### arithmetic -/
variable {a b : Expr} {ta tb : TE} {pos : Pos}
/-! ### comparisons -/
def PC (X : Cx) (op : CmpOp) (a b : Expr) (t : TE) : Prop :=
  ∀ (pins : List (Addr × Obj)) (s : Shared) (σ : St) (H : Hp) (Q : VK), Inv X pins σ H s → t σ H Q →
    wpAny (model X.prog X.w) X.A (eval a X.env) (fun v s₁ => wpAny (model X.prog X.w) X.A (eval b X.env) (fun u s₂ => wpAny (model X.prog X.w) X.A (compareOp op v u) (EP X pins σ Q) X.xe s₂) X.xe s₁) X.xe s
/-- a comparison as a value, as a test -/
def tB (t : TE) : TT := fun σ H Q => t σ H fun x H1 => ∃ c, x = .bl c ∧ Q c H1
theorem pt_cmp {op : CmpOp} {t : TE} (h : PC X op a b t) (h1 : behindInMarks op b = false := by first | exact nobehind _ (by decide) (by decide) | rfl) : PT X (.Compare a [op] [b] pos) (tB t) := by
  intro pins s σ H Q I hw
  refine wpAny_isTrue_Compare1 (thn (h pins s σ H _ I hw) fun v s1 h1 => thn h1 fun u s2 h2 => thn h2 fun c s3 ⟨x, H1, I1, r1, q1⟩ => ?_) h1
  obtain ⟨d, rfl, q⟩ := q1
  cases r1
  exact wpAny_truthy_bool ⟨H1, I1, q⟩
/-! ### and, or, not -/
variable {tA tB' : TT} {rest : List Expr}
def tAnd (t u : TT) : TT := fun σ H Q => t σ H fun c H1 => if c = true then u σ H1 Q else Q false H1
theorem pw_and1 (ha : PT X a tA) : PW X (.BoolOp .And [a] pos) tA := by
  intro wh pins s σ H Q I h
  refine isTrue_and (thn (ha pins s σ H Q I h) fun c s1 e => ?_)
  cases c with
  | true => exact isTrue_and_nil e
  | false => exact e
theorem pw_and (ha : PT X a tA) (hb : PW X (.BoolOp .And (b :: rest) pos) tB') : PW X (.BoolOp .And (a :: b :: rest) pos) (tAnd tA tB') := by
  intro wh pins s σ H Q I h
  refine isTrue_and (thn (ha pins s σ H _ I h) fun c s1 ⟨H1, I1, q1⟩ => ?_)
  cases c with
  | true => exact hb wh pins s1 σ H1 Q I1 q1
  | false => exact ⟨H1, I1, q1⟩
end
end L2

namespace L2
open PySem PySem.Spec PyProof.Rows

/-! ### a list, a tuple that is read: tracked, frozen, or an object of the module -/
def SqL (K : PySem.W.Frag) (H : Hp) (a : Addr) (xs : List V) : Prop :=
  Rd H a (.lst xs) ∨
    ∃ (o : Obj) (its : Array Value) (n : Nat), K.lookup a = some o ∧ o.cls = .type "list" ∧ o.dict = none ∧ o.data = .seq its n ∧ its.size ≤ sizeLine ∧ Vals xs its.toList
def SqT (K : PySem.W.Frag) (H : Hp) (a : Addr) (xs : List V) : Prop :=
  Rd H a (.tup xs) ∨
    ∃ (o : Obj) (its : Array Value) (n : Nat), K.lookup a = some o ∧ o.cls = .type "tuple" ∧ o.data = .seq its n ∧ its.size ≤ sizeLine ∧ Vals xs its.toList
def absV : Value → Option V
  | .none => some .non
  | .bool b => some (.bl b)
  | .int i _ => some (.int i)
  | .str x _ => some (.str x)
  | .bytes b _ => some (.byt b)
  | .float b _ => some (.flt b)
  | .ref a => some (.ref a)
  | .type n => some (.ty n)
  | _ => none
theorem RelV.abs {x : V} {u : Value} (r : RelV x u) : absV u = some x := by
  cases x with
  | non => cases r; rfl
  | bl _ => cases r; rfl
  | int _ => obtain ⟨t, rfl⟩ := r; rfl
  | str _ => obtain ⟨t, rfl⟩ := r; rfl
  | byt _ => obtain ⟨t, rfl⟩ := r; rfl
  | flt _ => obtain ⟨t, rfl⟩ := r; rfl
  | ref _ => cases r; rfl
  | ty _ => cases r; rfl
theorem RelV.inj {x y : V} {u : Value} (r : RelV x u) (q : RelV y u) : x = y := Option.some.inj (r.abs.symm.trans q.abs)
theorem Vals.inj : ∀ {xs ys : List V} {us : List Value}, Vals xs us → Vals ys us → xs = ys
  | _, _, _, .nil, .nil => rfl
  | _, _, _, .cons r t, .cons r' t' => by rw [r.inj r', Vals.inj t t']
section
variable {X : Cx} {pins : List (Addr × Obj)} {σ : St} {H : Hp} {s : Shared} {a : Addr} {xs ys : List V}
theorem SqL.of {K : PySem.W.Frag} (h : H a = some (.lst xs)) : SqL K H a xs := .inl (.inl h)
theorem SqT.of {K : PySem.W.Frag} (h : H a = some (.tup xs)) : SqT K H a xs := .inl (.inl h)
theorem Inv.list (I : Inv X pins σ H s) (h : SqL X.K H a xs) : ∃ its : List Value, Vals xs its ∧ PlainL s.heap a its.toArray ∧ xs.length ≤ sizeLine := by
  rcases h with h | ⟨o, its, n, hk, hc, hd, hs, hz, r⟩
  · obtain ⟨z, its, n, r, e⟩ := h.ok I.hok
    exact ⟨its, r, ⟨_, n, e, rfl, rfl, rfl⟩, z⟩
  · refine ⟨its.toList, r, ⟨o, n, I.kIn a o hk, hc, hd, by simpa using hs⟩, ?_⟩
    have e := r.length
    simp only [Array.length_toList] at e
    omega
theorem Inv.tuple (I : Inv X pins σ H s) (h : SqT X.K H a xs) : ∃ its : List Value, Vals xs its ∧ IsTup s.heap a its.toArray ∧ xs.length ≤ sizeLine := by
  rcases h with h | ⟨o, its, n, hk, hc, hs, hz, r⟩
  · obtain ⟨z, its, r, p⟩ := h.ok I.hok
    exact ⟨its, r, p, z⟩
  · refine ⟨its.toList, r, ⟨o, I.kIn a o hk, hc, n, by simpa using hs⟩, ?_⟩
    have e := r.length
    simp only [Array.length_toList] at e
    omega
theorem Inv.list_inj (I : Inv X pins σ H s) (h : SqL X.K H a xs) (h' : SqL X.K H a ys) : xs = ys := by
  obtain ⟨its, r, ⟨o, n, e, _, _, d⟩, _⟩ := I.list h
  obtain ⟨its', r', ⟨o', n', e', _, _, d'⟩, _⟩ := I.list h'
  rw [e] at e'; cases e'
  rw [d] at d'
  injection d' with d1 _
  have : its = its' := by simpa using congrArg Array.toList d1
  subst this
  exact r.inj r'
end

/-! ### another wish about exceptions -/
abbrev Cx.wish (X : Cx) (E : Value → Shared → Prop) : Cx := { X with xe := E }
/-- no exception leaves -/
abbrev Cx.nox (X : Cx) : Cx := X.wish fun _ _ => False
theorem Cx.Ok.wish {X : Cx} (ok : X.Ok) (E : Value → Shared → Prop) : (X.wish E).Ok :=
  ⟨ok.mod, ok.kind, ok.glob, ok.blt, ok.above, ok.inj, ok.has, ok.cab, ok.hd, ok.frames, ok.stk, ok.exf, ok.bs, ok.bsz, ok.noex, ok.exfs, ok.funs, ok.frf⟩
theorem Cx.Ok.unwish {X : Cx} {E : Value → Shared → Prop} (ok : (X.wish E).Ok) : X.Ok :=
  ⟨ok.mod, ok.kind, ok.glob, ok.blt, ok.above, ok.inj, ok.has, ok.cab, ok.hd, ok.frames, ok.stk, ok.exf, ok.bs, ok.bsz, ok.noex, ok.exfs, ok.funs, ok.frf⟩
section
variable {X : Cx} {pins : List (Addr × Obj)} {σ : St} {H : Hp} {s : Shared} {E : Value → Shared → Prop}
theorem Inv.wish (I : Inv X pins σ H s) (E : Value → Shared → Prop) : Inv (X.wish E) pins σ H s := ⟨I.ok.wish E, I.os, I.bare, I.base, I.loc, I.cell, I.free, I.freeC, I.pin, I.hok, I.len⟩
theorem Inv.unwish (I : Inv (X.wish E) pins σ H s) : Inv X pins σ H s := ⟨I.ok.unwish, I.os, I.bare, I.base, I.loc, I.cell, I.free, I.freeC, I.pin, I.hok, I.len⟩
theorem SP.unwish {D : Ends} {f : Flow} {s' : Shared} (h : SP (X.wish E) pins D f s') : SP X pins D f s' := by
  cases f with
  | next => obtain ⟨σ', H', I, q⟩ := h; exact ⟨σ', H', I.unwish, q⟩
  | brk => obtain ⟨σ', H', I, q⟩ := h; exact ⟨σ', H', I.unwish, q⟩
  | cont => obtain ⟨σ', H', I, q⟩ := h; exact ⟨σ', H', I.unwish, q⟩
  | ret u => obtain ⟨v, σ', H', I, r, q⟩ := h; exact ⟨v, σ', H', I.unwish, r, q⟩
theorem PSs.nox {st : List Stmt} {t : TS} (h : PSs X.nox st t) : PSs X st t := fun pins s σ H D I hw =>
  wpAny_mono (h pins s σ H D (I.wish _) hw) (fun _ _ q => q.unwish) fun _ _ z => False.elim z
end

/-! ### blocks and small statements -/
section
variable {X : Cx} {st : Stmt} {rest : List Stmt} {t u : TS} {e : Expr} {te : TE} {pos : Pos}
def tNext : TS := fun D σ H => D.nx σ H
def tSeq (t u : TS) : TS := fun D σ H => t { D with nx := u D } σ H
theorem pss_nil : PSs X [] tNext := fun _ _ σ H _ I h => wpAny_execs_nil ⟨σ, H, I, h⟩
theorem pss_cons (h1 : PS X st t) (h2 : PSs X rest u) : PSs X (st :: rest) (tSeq t u) := by
  intro pins s σ H D I h
  refine wpAny_execs_cons (thn (h1 pins s σ H { D with nx := u D } I h) fun f s1 q => ?_)
  cases f with
  | next =>
    obtain ⟨σ', H', I', q⟩ := q
    exact h2 pins s1 σ' H' D I' q
  | ret v => exact q
  | brk => exact q
  | cont => exact q
theorem pss_one (h1 : PS X st t) : PSs X [st] t := by
  intro pins s σ H D I h
  refine wpAny_execs_cons (thn (h1 pins s σ H D I h) fun f s1 q => ?_)
  cases f with
  | next => exact wpAny_execs_nil q
  | ret v => exact q
  | brk => exact q
  | cont => exact q
/-- in a def's body nothing is shown -/
theorem Inv.quiet {pins : List (Addr × Obj)} {σ : St} {H : Hp} {s : Shared} (I : Inv X pins σ H s) : interactive X.env = false := by simp [interactive, I.ok.kind]
/-- an expression whose value is dropped -/
def tDrop (te : TE) : TS := fun D σ H => te σ H fun _ H1 => D.nx σ H1
theorem ps_expr (he : PE X e te) (hs : swapsWith e none pos.line X.env = pure false := by rfl) : PS X (.Expr e pos) (tDrop te) := by
  intro pins s σ H D I h
  exact wpAny_Expr_any (thn (he pins s σ H _ I h) fun v s1 ⟨x, H1, I1, r1, q1⟩ => ⟨σ, H1, I1, q1⟩) I.quiet hs
def tRet (te : TE) : TS := fun D σ H => te σ H D.rt
theorem ps_ret (he : PE X e te) : PS X (.Return (some e) pos) (tRet te) := by
  intro pins s σ H D I h
  exact wpAny_Return_some (thn (he pins s σ H _ I h) fun v s1 ⟨x, H1, I1, r1, q1⟩ => ⟨x, σ, H1, I1, r1, q1⟩)
def tIfS (c : TT) (t u : TS) : TS := fun D σ H => c σ H fun b H1 => if b = true then t D σ H1 else u D σ H1
theorem ps_if {c : Expr} {a b : List Stmt} {tc : TT} (hc : PT X c tc) (ha : PSs X a t) (hb : PSs X b u) : PS X (.If c a b pos) (tIfS tc t u) := by
  intro pins s σ H D I h
  refine wpAny_If (thn (hc pins s σ H _ I h) fun d s1 ⟨H1, I1, q1⟩ => ?_)
  cases d with
  | true => exact ha pins s1 σ H1 D I1 q1
  | false => exact hb pins s1 σ H1 D I1 q1
end

/-! ### targets -/
abbrev TG := V → St → Hp → (St → Hp → Prop) → Prop
abbrev TGs := List V → St → Hp → (St → Hp → Prop) → Prop
def PG (X : Cx) (target : Expr) (t : TG) : Prop :=
  ∀ (pins : List (Addr × Obj)) (s : Shared) (σ : St) (H : Hp) (v : V) (u : Value) (Q : St → Hp → Prop), Inv X pins σ H s → RelV v u → t v σ H Q →
    wpAny (model X.prog X.w) X.A (assign target X.env u) (fun _ s' => ∃ σ' H', Inv X pins σ' H' s' ∧ Q σ' H') X.xe s
/-- several targets, one after another -/
def PGs (X : Cx) (ts : List Expr) (t : TGs) : Prop :=
  ∀ (pins : List (Addr × Obj)) (s : Shared) (σ : St) (H : Hp) (vs : List V) (us : List Value) (Q : St → Hp → Prop), Inv X pins σ H s → Vals vs us → t vs σ H Q →
    wpAny (model X.prog X.w) X.A (assignInOrder ((assignEach ts X.env).map (·.2)) us) (fun _ s' => ∃ σ' H', Inv X pins σ' H' s' ∧ Q σ' H') X.xe s
/-- o[i] = v, by values -/
abbrev TSet := V → V → V → Hp → (Hp → Prop) → Prop
def PSet (X : Cx) (t : TSet) : Prop :=
  ∀ (pins : List (Addr × Obj)) (s : Shared) (σ : St) (H : Hp) (o i v : V) (ov iv u : Value) (Q : Hp → Prop), Inv X pins σ H s → RelV o ov → RelV i iv → RelV v u → t o i v H Q →
    wpAny (model X.prog X.w) X.A (setItem ov iv u) (fun _ s' => ∃ H', Inv X pins σ H' s' ∧ Q H') X.xe s
section
variable {X : Cx} {pos : Pos}
def gName (i : Nat) : TG := fun v σ H Q => Q (σ.set i (some v)) H
theorem pg_name {i : Nat} {x : Str} (hN : X.N.Nodup) (hi : X.N[i]? = some x) (hx : Loc X.env.scope x) (hf : X.fn x = true ∨ X.env.scope.names.lookup x = some .local := by first | exact .inl rfl | exact .inr rfl | assumption) : PG X (.Name x pos) (gName i) := by
  intro pins s σ H v u Q I r h
  exact wpAny_assign_Name (store_ok I hN hi hx r (fun s' I' => ⟨_, H, I', h⟩) hf)
def gNil : TGs := fun vs σ H Q => vs = [] ∧ Q σ H
def gCons (t : TG) (u : TGs) : TGs := fun vs σ H Q => ∃ v r, vs = v :: r ∧ t v σ H fun σ' H' => u r σ' H' Q
theorem pgs_nil : PGs X [] gNil := by
  intro pins s σ H vs us Q I r h
  obtain ⟨e, h⟩ := h
  subst e
  cases r
  exact assignInOrder_nil ⟨σ, H, I, h⟩
theorem pgs_cons {e : Expr} {es : List Expr} {t : TG} {u : TGs} (h1 : PG X e t) (h2 : PGs X es u)
    (hs : (assignEach (e :: es) X.env).map (·.2) = assign e X.env :: (assignEach es X.env).map (·.2) := by rfl) : PGs X (e :: es) (gCons t u) := by
  intro pins s σ H vs us Q I r h
  obtain ⟨v, vr, e1, h⟩ := h
  subst e1
  cases r with
  | cons r rr =>
    rw [hs]
    refine assignInOrder_cons (thn (h1 pins s σ H _ _ _ I r h) fun _ s1 ⟨σ1, H1, I1, q1⟩ => ?_)
    exact h2 pins s1 σ1 H1 _ _ Q I1 rr q1
/-- (a, b, ..) = a tuple of that length -/
def gTup (K : PySem.W.Frag) (n : Nat) (t : TGs) : TG := fun v σ H Q => ∃ a xs, v = .ref a ∧ SqT K H a xs ∧ xs.length = n ∧ t xs σ H Q
theorem pg_tup {es : List Expr} {k : Nat} {t : TGs} {n : Nat} (hc : X.calm = true) (h : PGs X es t)
    (hn : (assignEach es X.env).length = n := by rfl) (hst : (assignEach es X.env).findIdx? (·.1) = none := by rfl) : PG X (.Tuple es k pos) (gTup X.K n t) := by
  intro pins s σ H v u Q I r hw
  obtain ⟨a, xs, e1, hq, hl, hw⟩ := hw
  subst e1
  cases r
  obtain ⟨its, rv, ht, hz⟩ := I.tuple hq
  refine assign_Tuple_tuple (I.ok.hd hc) ht (by simp [hn, ← hl, rv.length]) hst fun h' hx => ?_
  have I1 : Inv X pins σ H { s with heap := h' } := I.kept (t' := s.toks) fun b o e => hx b o (Nat.ne_of_lt (Heap.lt_size e)) e
  exact h pins _ σ H xs _ Q I1 (by simpa using rv) hw
/-- o[i] = .. -/
def gSub (to ti : TE) (t : TSet) : TG := fun v σ H Q => to σ H fun o H1 => ti σ H1 fun i H2 => t o i v H2 fun H3 => Q σ H3
theorem pg_sub {o i : Expr} {to ti : TE} {t : TSet} (ho : PE X o to) (hi : PE X i ti) (hs : PSet X t)
    (ha : ∀ v, assign (.Subscript o i pos) X.env v = (do
      let ov ← holding [v] (eval o X.env)
      let iv ← holding [v, ov] (eval i X.env)
      standAt pos
      holding [v, ov, iv] (setItem ov iv v)
      release [v, ov, iv] []) := by intro _; rfl) : PG X (.Subscript o i pos) (gSub to ti t) := by
  intro pins s σ H v u Q I r h
  rw [ha]
  refine wpAny_bind (wpAny_holding (thn (ho pins s σ H _ I h) fun ov s1 ⟨x, H1, I1, r1, q1⟩ => ?_))
  refine wpAny_bind (wpAny_holding (thn (hi pins s1 σ H1 _ I1 q1) fun iv s2 ⟨y, H2, I2, r2, q2⟩ => ?_))
  refine wpAny_bind (wpAny_standAt (wpAny_bind (wpAny_holding (thn (hs pins s2 σ H2 x y v ov iv u _ I2 r1 r2 r q2) fun _ s3 ⟨H3, I3, q3⟩ => ?_))))
  exact wpAny_release ⟨σ, H3, I3, q3⟩
/-- target = value -/
def tAsg (te : TE) (g : TG) : TS := fun D σ H => te σ H fun x H1 => g x σ H1 D.nx
theorem ps_asg {tg e : Expr} {te : TE} {g : TG} (he : PE X e te) (hg : PG X tg g) (hs : swapsWithSole [tg] e pos.line X.env = pure false := by rfl) (hw : swappedStores [tg] e X.env = pure none := by rfl)
    (h1 : (assignEach [tg] X.env).map (·.2) = [assign tg X.env] := by rfl) : PS X (.Assign [tg] e pos) (tAsg te g) := by
  intro pins s σ H D I h
  refine wpAny_Assign_stores (thn (he pins s σ H _ I h) fun v s1 ⟨x, H1, I1, r1, q1⟩ => ?_) hs hw
  rw [h1]
  exact thn (hg pins s1 σ H1 x v _ I1 r1 q1) fun _ s2 q => q
/-- name = value -/
theorem ps_set {i : Nat} {x : Str} {e : Expr} {te : TE} {pos' : Pos} (hN : X.N.Nodup) (hi : X.N[i]? = some x) (hx : Loc X.env.scope x) (he : PE X e te) (hs : swapsWith e (some (.Name x pos')) pos.line X.env = pure false := by rfl) (hf : X.fn x = true ∨ X.env.scope.names.lookup x = some .local := by first | exact .inl rfl | exact .inr rfl | assumption) :
    PS X (.Assign [.Name x pos'] e pos) (tAsg te (gName i)) := by
  intro pins s σ H D I h
  refine wpAny_Assign_Name (thn (he pins s σ H _ I h) fun v s1 ⟨y, H1, I1, r1, q1⟩ => ?_) hs
  exact store_ok I1 hN hi hx r1 (fun s2 I2 => ⟨_, H1, I2, q1⟩) hf
end

/-! ### while -/
section
variable {X : Cx} {pos : Pos}
end

/-! ### what a loop or a comprehension walks -/
/-- at turn i: it yields x (the heap may grow), or it stops -/
structure It where
  go : Nat → Hp → Prop
  yld : Nat → Hp → V → Hp → Prop
  stop : Nat → Hp → Prop
/-- the iterator's own objects may turn: they are not the frame's, not pinned, younger than the entry (or a comprehension's own) -/
def FpOk (X : Cx) (pins : List (Addr × Obj)) (H : Hp) (b : Addr) : Prop :=
  H b = none ∧ b ≠ X.env.locals ∧ b ∉ X.fs ∧ (b ∈ X.ex ∨ X.s₀.heap.objs.size ≤ b) ∧ (∀ x c, X.env.cells.lookup x = some c → c ≠ b) ∧ ∀ p ∈ X.pn ++ pins, p.1 ≠ b
theorem Inv.fpOk {X : Cx} {pins : List (Addr × Obj)} {σ : St} {H H' : Hp} {s : Shared} {b : Addr} (I : Inv X pins σ H s) (hb : s.heap.objs.size ≤ b) (hn : H' b = none) : FpOk X pins H' b := by
  refine ⟨hn, Nat.ne_of_gt (Nat.lt_of_lt_of_le I.lt hb), I.nofs hb, .inr (Nat.le_trans I.sz hb), fun x c e z => ?_, fun p hp z => ?_⟩
  · obtain ⟨v, q⟩ := I.cell x c e
    exact absurd (Nat.lt_of_lt_of_le q.lt (by rw [z]; exact hb)) (Nat.lt_irrefl _)
  · exact absurd (Nat.lt_of_lt_of_le (Heap.lt_size (I.pin p hp).1) (by rw [z]; exact hb)) (Nat.lt_irrefl _)
structure Turn (P : Program) (w : World) (K : PySem.W.Frag) (tg : Expr) (J : It) (fp : List Addr) (it : Addr) (tn : Nat → Heap → Prop) : Prop where
  mem : it ∈ fp
  obj : ∀ i h, tn i h → ∀ b ∈ fp, ∃ o, h.get? b = some o ∧ ∀ v, o.data ≠ .cell v
  keep : ∀ i h h', tn i h → (∀ b ∈ fp, ∀ o, h.get? b = some o → h'.get? b = some o) → tn i h'
  item : ∀ (X : Cx), X.prog = P → X.w = w → X.K = K → X.calm = true → ∀ (i : Nat) (pins : List (Addr × Obj)) (s : Shared) (σ : St) (H : Hp) (E : Value → Shared → Prop), Inv X pins σ H s → (∀ b ∈ fp, FpOk X pins H b) → tn i s.heap → J.go i H →
    wpAny (model P w) X.A (pyNext (.ref it)) (fun r s1 => ∃ u, r = some u ∧
      wpAny (model P w) X.A (letOwnedTupleGo tg (.ref it) u) (fun _ s2 => ∃ x H', Inv X pins σ H' s2 ∧ RelV x u ∧ J.yld i H x H' ∧ tn (i + 1) s2.heap ∧ ∀ b ∈ fp, H' b = none) E s1) E s
  done : ∀ (X : Cx), X.prog = P → X.w = w → X.K = K → X.calm = true → ∀ (i : Nat) (pins : List (Addr × Obj)) (s : Shared) (σ : St) (H : Hp) (E : Value → Shared → Prop), Inv X pins σ H s → (∀ b ∈ fp, FpOk X pins H b) → tn i s.heap → J.stop i H →
    wpAny (model P w) X.A (pyNext (.ref it)) (fun r s1 => r = none ∧ Inv X pins σ H s1) E s
  self : ∀ (A : Around) (i : Nat) (s : Shared) (Q : Value → Shared → Prop) (E : Value → Shared → Prop), tn i s.heap → Q (.ref it) s → wpAny (model P w) A (pyIter (.ref it)) Q E s
abbrev TI := St → Hp → (It → Hp → Prop) → Prop
/-- an iterator has come -/
def PIE (X : Cx) (pins : List (Addr × Obj)) (σ : St) (tg : Expr) (R : It → Hp → Prop) (itv : Value) (s2 : Shared) : Prop :=
  ∃ (it : Addr) (fp : List Addr) (tn : Nat → Heap → Prop) (J : It) (H' : Hp), itv = .ref it ∧ Inv X pins σ H' s2 ∧ Turn X.prog X.w X.K tg J fp it tn ∧ tn 0 s2.heap ∧ (∀ b ∈ fp, FpOk X pins H' b) ∧ R J H'
def PI (X : Cx) (tg iter : Expr) (wi : TI) : Prop :=
  ∀ (pins : List (Addr × Obj)) (s : Shared) (σ : St) (H : Hp) (R : It → Hp → Prop), Inv X pins σ H s → wi σ H R →
    wpAny (model X.prog X.w) X.A (eval iter X.env) (fun v s1 => wpAny (model X.prog X.w) X.A (pyIter v) (PIE X pins σ tg R) X.xe s1) X.xe s

/-- the step ahead of the store is nothing for an iterator that keeps no tuple -/
theorem go_of {M : Model} {A : Around} {E : Value → Shared → Prop} {s : Shared} {tg : Expr} {it : Addr} {u : Value} {o : Obj} {n : String} {vs : Array Value} {Q : Unit → Shared → Prop} (ho : s.heap.get? it = some o) (hc : o.cls = .type n) (hd : o.data = .fields vs)
    (hn : ["enumerate", "zip", "dict_itemiterator", "dict_reverseitemiterator", "odict_iterator", "itertools.zip_longest", "itertools.pairwise"].contains n = false) (hQ : Q () s) : wpAny M A (letOwnedTupleGo tg (.ref it) u) Q E s := by
  unfold letOwnedTupleGo
  cases tg <;> first
    | exact wpAny_pure hQ
    | (cases u <;> first
        | exact wpAny_pure hQ
        | (refine wpAny_bind (wpAny_load ho ?_)
           rw [hc, hd]
           show wpAny M A (if (["enumerate", "zip", "dict_itemiterator", "dict_reverseitemiterator", "odict_iterator", "itertools.zip_longest", "itertools.pairwise"].contains n && vs[0]? == some (rawInt _)) = true then _ else _) Q E s
           rw [if_neg (by intro h; rw [hn, Bool.false_and] at h; cases h)]
           exact wpAny_pure hQ))

/-- the list at a, as it stands at each turn (a loop may append to it) -/
def Itl (K : PySem.W.Frag) (a : Addr) : It :=
  ⟨fun i H => ∃ xs x, SqL K H a xs ∧ xs[i]? = some x, fun i H x H' => H' = H ∧ ∀ xs, SqL K H a xs → xs[i]? = some x, fun i H => ∃ xs, SqL K H a xs ∧ xs.length ≤ i⟩
/-- lo, lo + 1, .. (n of them) -/
def Itr (lo : Int) (n : Nat) : It := ⟨fun i _ => i < n, fun i H x H' => H' = H ∧ x = .int (lo + i), fun i _ => n ≤ i⟩
theorem turn_list {P : Program} {w : World} {K : PySem.W.Frag} {tg : Expr} (a it : Addr) : Turn P w K tg (Itl K a) [it] it (fun i h => h.IsListIter it a i) where
  mem := by simp
  obj := fun i h st b hb => by
    have e : b = it := by simpa using hb
    subst e
    obtain ⟨o, e, c, d⟩ := st
    exact ⟨o, e, fun v z => by rw [d] at z; cases z⟩
  keep := fun i h h' st k => st.at fun o e => k it (by simp) o e
  item := by
    intro X hP hw hK hc i pins s σ H E I hf st hg
    subst hP hw hK
    obtain ⟨xs, x, hq, hx⟩ := hg
    obtain ⟨its, rv, p, hz⟩ := I.list hq
    obtain ⟨u, hu, ru⟩ := rv.get hx
    obtain ⟨f0, f1, f2, f3, f4, f5⟩ := hf it (by simp)
    refine wpAny_pyNext_list_item st p.isList (x := u) (by simpa using hu) fun h' st' sb => ?_
    have I1 : Inv X pins σ H { s with heap := h' } := I.turned (t' := s.toks) (fun b o hb e => (sb.2 b hb).trans e) f0 f1 f3 f4 f5
    obtain ⟨o, e, c, d⟩ := id st'
    exact ⟨u, rfl, go_of (s := { s with heap := h' }) e c d (by decide) ⟨x, H, I1, ru, ⟨rfl, fun ys hy => by rw [I.list_inj hy hq]; exact hx⟩, st', fun b hb => (hf b hb).1⟩⟩
  done := by
    intro X hP hw hK hc i pins s σ H E I hf st hg
    subst hP hw hK
    obtain ⟨xs, hq, hx⟩ := hg
    obtain ⟨its, rv, p, hz⟩ := I.list hq
    obtain ⟨f0, f1, f2, f3, f4, f5⟩ := hf it (by simp)
    have hl := rv.length
    exact wpAny_pyNext_list_end (I.ok.hd hc) st p.isList (by simp; omega) fun h' eb => ⟨rfl, I.turned (t' := s.toks) (fun b o hb e => eb b o hb e) f0 f1 f3 f4 f5⟩
  self := fun _ _ _ _ _ st h => wpAny_pyIter_listiter st h
theorem turn_range {P : Program} {w : World} {K : PySem.W.Frag} {tg : Expr} (it : Addr) (lo : Int) (n : Nat) : Turn P w K tg (Itr lo n) [it] it (fun i h => IsRangeIter h it (lo + (i : Nat) * 1) ((n : Int) - (i : Nat)) 1) where
  mem := by simp
  obj := fun i h st b hb => by
    have e : b = it := by simpa using hb
    subst e
    exact ⟨_, st, fun v z => by
      have z' : Data.fields _ = Data.cell v := z
      cases z'⟩
  keep := fun i h h' st k => k it (by simp) _ st
  item := by
    intro X hP hw hK hc i pins s σ H E I hf st hg
    subst hP hw hK
    obtain ⟨f0, f1, f2, f3, f4, f5⟩ := hf it (by simp)
    have W := Walks.range (prog := X.prog) (w := X.w) (I.ok.hd hc) it lo 1 n
    refine W.item i s _ _ hg st fun v h' tk hv st' kk => ?_
    obtain ⟨t, rfl⟩ := hv
    have I1 : Inv X pins σ H { s with heap := h', toks := tk } := I.turned (fun b o hb e => kk b o (by simpa using hb) e) f0 f1 f3 f4 f5
    refine ⟨_, rfl, go_of (s := { s with heap := h', toks := tk }) (n := "range_iterator") st' rfl rfl (by decide) ⟨.int (lo + i), H, I1, ⟨t, ?_⟩, ⟨rfl, rfl⟩, st', fun b hb => (hf b hb).1⟩⟩
    rw [Int.mul_one]
  done := by
    intro X hP hw hK hc i pins s σ H E I hf st hg
    subst hP hw hK
    obtain ⟨f0, f1, f2, f3, f4, f5⟩ := hf it (by simp)
    exact wpAny_pyNext_range_end (I.ok.hd hc) st (by have : n ≤ i := hg; omega) fun h' eb => ⟨rfl, I.turned (t' := s.toks) (fun b o hb e => eb b o hb e) f0 f1 f3 f4 f5⟩
  self := fun _ _ _ _ _ st h => wpAny_pyIter_rangeiter st h
end L2

namespace L2
open PySem PySem.Spec PyProof.Rows
section
variable {X : Cx} {tg : Expr}
def iList (K : PySem.W.Frag) (tl : TE) : TI := fun σ H R => tl σ H fun x H1 => ∃ a, x = .ref a ∧ (∃ xs, SqL K H1 a xs) ∧ R (Itl K a) H1
theorem pi_list {l : Expr} {tl : TE} (hl : PE X l tl) : PI X tg l (iList X.K tl) := by
  intro pins s σ H R I h
  refine thn (hl pins s σ H _ I h) fun v s1 ⟨x, H1, I1, r1, q1⟩ => ?_
  obtain ⟨a, e, ⟨xs, hq⟩, q⟩ := q1
  subst e
  cases r1
  obtain ⟨its, rv, p, hz⟩ := I1.list hq
  refine wpAny_pyIter_list p.isList ?_
  refine ⟨s1.heap.objs.size, [s1.heap.objs.size], _, _, H1, rfl, I1.kept (t' := s1.toks) fun b o e => Heap.get?_push_of_some _ e, turn_list a _, ⟨_, Heap.get?_push_size _ rfl, rfl, rfl⟩, fun b hb => ?_, q⟩
  have e : b = s1.heap.objs.size := by simpa using hb
  subst e
  exact I1.fpOk (Nat.le_refl _) (I1.hok.fresh (Nat.le_refl _))
/-- a range object just made, walked -/
theorem range_it {pins : List (Addr × Obj)} {σ : St} {H : Hp} {s : Shared} {R : It → Hp → Prop} {E : Value → Shared → Prop} {lo hi : Int} {t u v : Tok} {tk : Nat} (I : Inv X pins σ H s) (h1 : -(2 ^ 62) ≤ lo) (h2 : lo < 2 ^ 62) (h3 : -(2 ^ 62) ≤ hi) (h4 : hi < 2 ^ 62)
    (q : R (Itr lo (hi - lo).toNat) H) : wpAny (model X.prog X.w) X.A (pyIter (.ref s.heap.objs.size)) (PIE X pins σ tg R) E { s with heap := s.heap.push { cls := .type "range", data := .fields #[.int lo t, .int hi u, .int 1 v] }, toks := tk } := by
  refine wpAny_pyIter_range (IsRange.new ..) (small_one h1 h2 h3 h4) ?_
  have I1 : Inv X pins σ H { s with heap := s.heap.push { cls := .type "range", data := .fields #[.int lo t, .int hi u, .int 1 v] }, toks := tk } := I.kept fun b o e => Heap.get?_push_of_some _ e
  refine ⟨(s.heap.push { cls := .type "range", data := .fields #[.int lo t, .int hi u, .int 1 v] }).objs.size, [(s.heap.push { cls := .type "range", data := .fields #[.int lo t, .int hi u, .int 1 v] }).objs.size], _, _, H, rfl,
    I1.kept (t' := tk) fun b o e => Heap.get?_push_of_some _ e, turn_range _ lo (hi - lo).toNat, ?_, fun b hb => ?_, q⟩
  · have e1 : lo + ((0 : Nat) : Int) * 1 = lo := by simp
    have e2 : (((hi - lo).toNat : Nat) : Int) - ((0 : Nat) : Int) = Builtin.Range.rangeSize lo hi 1 := by rw [rangeSize_one]; split <;> omega
    show IsRangeIter _ _ (lo + ((0 : Nat) : Int) * 1) ((((hi - lo).toNat : Nat) : Int) - ((0 : Nat) : Int)) 1
    rw [e1, e2]
    exact Heap.get?_push_size _ rfl
  · have e : b = (s.heap.push { cls := .type "range", data := .fields #[.int lo t, .int hi u, .int 1 v] }).objs.size := by simpa using hb
    subst e
    exact I1.fpOk (Nat.le_refl _) (I1.hok.fresh (Nat.le_refl _))
def iRng1 (ta : TA) : TI := fun σ H R => ta σ H fun vs H1 => ∃ j : Int, vs = [.int j] ∧ -(2 ^ 62) ≤ j ∧ j < 2 ^ 62 ∧ R (Itr 0 j.toNat) H1
def iRng2 (ta : TA) : TI := fun σ H R => ta σ H fun vs H1 => ∃ i j : Int, vs = [.int i, .int j] ∧ (-(2 ^ 62) ≤ i ∧ i < 2 ^ 62 ∧ -(2 ^ 62) ≤ j ∧ j < 2 ^ 62) ∧ R (Itr i (j - i).toNat) H1
theorem pi_range1 {a : Expr} {ta : TA} {p pos : Pos} (hg : Gl X "range") (hm : X.mg "range" = none) (ha : PA X [a] ta) (hs : starEach [a] X.env = [(false, eval a X.env)] := by rfl) : PI X tg (.Call (.Name "range" p) [a] [] pos) (iRng1 ta) := by
  intro pins s σ H R I h
  refine Call_ (ld_blt I hg hm boot_range (PyProof.Rows.callWith_type1 (thn (ha pos pins s σ H _ I h) fun us s1 ⟨vs, H1, I1, r1, q1⟩ => ?_) hs rfl))
  obtain ⟨j, e, q1, q2, q⟩ := q1
  subst e
  cases r1 with
  | cons r rr =>
    cases rr
    obtain ⟨t, rfl⟩ := r
    exact call_range_1 (range_it I1 (by omega) (by omega) q1 q2 (by simpa using q))
theorem pi_range2 {a b : Expr} {ta : TA} {p pos : Pos} (hg : Gl X "range") (hm : X.mg "range" = none) (ha : PA X [a, b] ta) (hs : starEach [a, b] X.env = [(false, eval a X.env), (false, eval b X.env)] := by rfl) (hs2 : starEach [b] X.env = [(false, eval b X.env)] := by rfl) :
    PI X tg (.Call (.Name "range" p) [a, b] [] pos) (iRng2 ta) := by
  intro pins s σ H R I h
  refine Call_ (ld_blt I hg hm boot_range (PyProof.Rows.callWith_type1 (thn (ha pos pins s σ H _ I h) fun us s1 ⟨vs, H1, I1, r1, q1⟩ => ?_) (by rw [hs, hs2]) (by rw [hs2]; rfl)))
  obtain ⟨i, j, e, ⟨q1, q2, q3, q4⟩, q⟩ := q1
  subst e
  cases r1 with
  | cons r rr =>
    cases rr with
    | cons r' rr =>
      cases rr
      obtain ⟨t, rfl⟩ := r
      obtain ⟨t', rfl⟩ := r'
      exact call_range_2 (range_it I1 q1 q2 q3 q4 q)

/-! ### for -/
/-- W: the invariant by the turn and a measure; N: what the body is to reach -/
def tFor (wi : TI) (g : TG) (tb : TS) : TS := fun D σ H => wi σ H fun J H1 => ∃ W : Nat → Nat → St → Hp → Prop, (∃ m, W 0 m σ H1) ∧ ∀ i m σ H, W i m σ H →
  (J.stop i H ∧ D.nx σ H) ∨ (J.go i H ∧ ∃ N : St → Hp → Prop, (∀ σ' H', N σ' H' → ∃ m', m' < m ∧ W (i + 1) m' σ' H') ∧ ∀ x H', J.yld i H x H' → g x σ H' fun σ2 H2 => tb { D with nx := N, ct := N, bk := D.nx } σ2 H2)
/-- the records at fp as they stand -/
def pinsAt (fp : List Addr) (h : Heap) : List (Addr × Obj) := fp.filterMap fun b => (h.get? b).map fun o => (b, o)
theorem mem_pinsAt {fp : List Addr} {h : Heap} {b : Addr} {o : Obj} (hb : b ∈ fp) (e : h.get? b = some o) : (b, o) ∈ pinsAt fp h := List.mem_filterMap.mpr ⟨b, hb, by rw [e]; rfl⟩
theorem of_pinsAt {fp : List Addr} {h : Heap} {p : Addr × Obj} (hp : p ∈ pinsAt fp h) : p.1 ∈ fp ∧ h.get? p.1 = some p.2 := by
  obtain ⟨b, hb, e⟩ := List.mem_filterMap.mp hp
  cases q : h.get? b with
  | none => rw [q] at e; cases e
  | some o =>
    rw [q] at e
    have e' : (b, o) = p := Option.some.inj e
    subst e'
    exact ⟨hb, q⟩
theorem Inv.pinned {pins : List (Addr × Obj)} {σ : St} {H : Hp} {s : Shared} {fp : List Addr} (I : Inv X pins σ H s) (hf : ∀ b ∈ fp, FpOk X pins H b) (ho : ∀ b ∈ fp, ∃ o, s.heap.get? b = some o ∧ ∀ v, o.data ≠ .cell v) : Inv X (pins ++ pinsAt fp s.heap) σ H s :=
  I.pins_of fun p hp => (List.mem_append.mp hp).elim (fun z => I.pin p (List.mem_append_right _ z)) fun z => by
    obtain ⟨hb, e⟩ := of_pinsAt z
    obtain ⟨f0, f1, f2, _⟩ := hf p.1 hb
    obtain ⟨o, e', d⟩ := ho p.1 hb
    rw [e] at e'; cases e'
    exact ⟨e, f0, f1, f2, d⟩
theorem Inv.unpinned {pins pl : List (Addr × Obj)} {σ : St} {H : Hp} {s : Shared} (I : Inv X (pins ++ pl) σ H s) : Inv X pins σ H s := I.pins_of fun p hp => I.pin p (List.mem_append_right _ (List.mem_append_left _ hp))
theorem ps_for {iter : Expr} {body : List Stmt} {wi : TI} {g : TG} {tb : TS} {pos : Pos} (hp : PassesOwn (model X.prog X.w) X.A X.env X.xe) (hc : X.calm = true) (hi : PI X tg iter wi) (hg : PG X tg g) (hb : PSs X body tb)
    (hs : ∀ x, foldedSetIterable iter X.env x = pure x := by intro _; rfl) : PS X (.For tg iter body [] pos) (tFor wi g tb) := by
  intro pins s σ H D I h
  refine wpAny_For (thn (hi pins s σ H _ I h) fun v s1 h1 => thn h1 fun itv s2 h2 => ?_) hs
  obtain ⟨it, fp, tn, J, H2, e, I2, T, st2, f2, W, ⟨m0, w0⟩, turn⟩ := h2
  subst e
  -- what stays true of the iterator's objects through the loop
  have stat : ∀ {H' : Hp}, (∀ b ∈ fp, H' b = none) → ∀ b ∈ fp, FpOk X pins H' b := fun hn b hb => ⟨hn b hb, (f2 b hb).2⟩
  refine codeAny_forLoop_any (fun n s' => ∃ i σ' H', Inv X pins σ' H' s' ∧ tn i s'.heap ∧ (∀ b ∈ fp, H' b = none) ∧ W i n σ' H') ?_ m0 ⟨0, σ, H2, I2, st2, fun b hb => (f2 b hb).1, w0⟩
  rintro n s3 ⟨i, σ3, H3, I3, st3, fr3, w3⟩
  rcases turn i n σ3 H3 w3 with ⟨stop, qn⟩ | ⟨go, N, hN, step⟩
  · refine wpAny_passesOwn hp (thn (T.done X rfl rfl rfl hc i pins s3 σ3 H3 X.xe I3 (stat fr3) st3 stop) fun r s4 ⟨hr, I4⟩ => ?_)
    subst hr
    exact wpAny_execs_nil ⟨σ3, H3, I4, qn⟩
  · refine wpAny_passesOwn hp (thn (T.item X rfl rfl rfl hc i pins s3 σ3 H3 X.xe I3 (stat fr3) st3 go) fun r s4 ⟨u, hr, h4⟩ => ?_)
    subst hr
    refine wpAny_passesOwn hp (thn h4 fun _ s5 ⟨x, H5, I5, r5, y5, st5, fr5⟩ => ?_)
    have I5' := I5.pinned (stat fr5) (T.obj _ _ st5)
    refine wpAny_passesOwn hp (thn (hg _ s5 σ3 H5 x u _ I5' r5 (step x H5 y5)) fun _ s6 ⟨σ6, H6, I6, q6⟩ => ?_)
    refine wpAny_passesOwn hp (thn (hb _ s6 σ6 H6 _ I6 q6) fun f s7 q7 => ?_)
    have again : ∀ {σ7 : St} {H7 : Hp}, Inv X (pins ++ pinsAt fp s5.heap) σ7 H7 s7 → N σ7 H7 → ∃ m, m < n ∧ ∃ i σ' H', Inv X pins σ' H' s7 ∧ tn i s7.heap ∧ (∀ b ∈ fp, H' b = none) ∧ W i m σ' H' := fun {σ7 H7} I7 n7 => by
      obtain ⟨m', hm, w7⟩ := hN σ7 H7 n7
      refine ⟨m', hm, i + 1, σ7, H7, I7.unpinned, T.keep _ _ _ st5 fun b hb o e => (I7.pin (b, o) (List.mem_append_right _ (List.mem_append_right _ (mem_pinsAt hb e)))).1, fun b hb => ?_, w7⟩
      obtain ⟨o, e, d⟩ := T.obj _ _ st5 b hb
      exact (I7.pin (b, o) (List.mem_append_right _ (List.mem_append_right _ (mem_pinsAt hb e)))).2.1
    cases f with
    | next => obtain ⟨σ7, H7, I7, n7⟩ := q7; exact again I7 n7
    | cont => obtain ⟨σ7, H7, I7, n7⟩ := q7; exact again I7 n7
    | brk => obtain ⟨σ7, H7, I7, q7⟩ := q7; exact ⟨σ7, H7, I7.unpinned, q7⟩
    | ret v => obtain ⟨x7, σ7, H7, I7, r7, q7⟩ := q7; exact ⟨x7, σ7, H7, I7.unpinned, r7, q7⟩
end

/-! ### the forms one uses -/
/-- over a list that the body leaves as it is -/
theorem for_list {K : PySem.W.Frag} {a : Addr} {xs : List V} {g : TG} {tb : TS} {D : Ends} {σ : St} {H : Hp} (Pv : Nat → St → Hp → Prop) (h0 : Pv 0 σ H) (hl : ∀ i σ H, i ≤ xs.length → Pv i σ H → SqL K H a xs)
    (hs : ∀ i x σ H, xs[i]? = some x → Pv i σ H → g x σ H fun σ2 H2 => tb { D with nx := Pv (i + 1), ct := Pv (i + 1), bk := D.nx } σ2 H2) (hd : ∀ σ H, Pv xs.length σ H → D.nx σ H) :
    ∃ W : Nat → Nat → St → Hp → Prop, (∃ m, W 0 m σ H) ∧ ∀ i m σ H, W i m σ H →
      ((Itl K a).stop i H ∧ D.nx σ H) ∨ ((Itl K a).go i H ∧ ∃ N : St → Hp → Prop, (∀ σ' H', N σ' H' → ∃ m', m' < m ∧ W (i + 1) m' σ' H') ∧ ∀ x H', (Itl K a).yld i H x H' → g x σ H' fun σ2 H2 => tb { D with nx := N, ct := N, bk := D.nx } σ2 H2) := by
  refine ⟨fun i m σ H => m = xs.length - i ∧ i ≤ xs.length ∧ Pv i σ H, ⟨xs.length, by simp, Nat.zero_le _, h0⟩, ?_⟩
  rintro i m σ H ⟨rfl, hi, p⟩
  have q := hl i σ H hi p
  by_cases hlt : i < xs.length
  · refine .inr ⟨⟨xs, xs[i], q, by simp [hlt]⟩, Pv (i + 1), fun σ' H' p' => ⟨xs.length - (i + 1), by omega, rfl, hlt, p'⟩, fun x H' y => ?_⟩
    obtain ⟨e, y⟩ := y
    subst e
    exact hs i x σ _ (y xs q) p
  · have e : i = xs.length := by omega
    subst e
    exact .inl ⟨⟨xs, q, Nat.le_refl _⟩, hd σ H p⟩
theorem for_range {lo : Int} {n : Nat} {g : TG} {tb : TS} {D : Ends} {σ : St} {H : Hp} (Pv : Nat → St → Hp → Prop) (h0 : Pv 0 σ H)
    (hs : ∀ i σ H, i < n → Pv i σ H → g (.int (lo + i)) σ H fun σ2 H2 => tb { D with nx := Pv (i + 1), ct := Pv (i + 1), bk := D.nx } σ2 H2) (hd : ∀ σ H, Pv n σ H → D.nx σ H) :
    ∃ W : Nat → Nat → St → Hp → Prop, (∃ m, W 0 m σ H) ∧ ∀ i m σ H, W i m σ H →
      ((Itr lo n).stop i H ∧ D.nx σ H) ∨ ((Itr lo n).go i H ∧ ∃ N : St → Hp → Prop, (∀ σ' H', N σ' H' → ∃ m', m' < m ∧ W (i + 1) m' σ' H') ∧ ∀ x H', (Itr lo n).yld i H x H' → g x σ H' fun σ2 H2 => tb { D with nx := N, ct := N, bk := D.nx } σ2 H2) := by
  refine ⟨fun i m σ H => m = n - i ∧ i ≤ n ∧ Pv i σ H, ⟨n, by simp, Nat.zero_le _, h0⟩, ?_⟩
  rintro i m σ H ⟨rfl, hi, p⟩
  by_cases hlt : i < n
  · refine .inr ⟨hlt, Pv (i + 1), fun σ' H' p' => ⟨n - (i + 1), by omega, rfl, hlt, p'⟩, fun x H' y => ?_⟩
    obtain ⟨e, y⟩ := y
    subst e y
    exact hs i σ _ hlt p
  · have e : i = n := by omega
    subst e
    exact .inl ⟨Nat.le_refl _, hd σ H p⟩
end L2

namespace L2
open PySem PySem.Spec PyProof.Rows

abbrev R2 := V → V → Hp → VK → Prop
/-- a two-place operation on values: f is binaryOp op, inplaceOp op or compareOp op -/
def OpR (X : Cx) (f : Value → Value → Sem Value) (r : R2) : Prop :=
  ∀ (pins : List (Addr × Obj)) (s : Shared) (σ : St) (H : Hp) (x y : V) (v u : Value) (Q : VK), Inv X pins σ H s → RelV x v → RelV y u → r x y H Q →
    wpAny (model X.prog X.w) X.A (f v u) (EP X pins σ Q) X.xe s
/-- a one-place operation -/
def UnR (X : Cx) (f : Value → Sem Value) (r : V → Hp → VK → Prop) : Prop :=
  ∀ (pins : List (Addr × Obj)) (s : Shared) (σ : St) (H : Hp) (x : V) (v : Value) (Q : VK), Inv X pins σ H s → RelV x v → r x H Q →
    wpAny (model X.prog X.w) X.A (f v) (EP X pins σ Q) X.xe s
/-- a call of a value that is known (a builtin, a type) with values -/
def CallR (X : Cx) (f : Value) (r : List V → Hp → VK → Prop) : Prop :=
  ∀ (pins : List (Addr × Obj)) (s : Shared) (σ : St) (H : Hp) (xs : List V) (us : List Value) (Q : VK), Inv X pins σ H s → Vals xs us → r xs H Q →
    wpAny (model X.prog X.w) X.A (call f us) (EP X pins σ Q) X.xe s
def tOp (r : R2) (ta tb : TE) : TE := fun σ H Q => ta σ H fun x H1 => tb σ H1 fun y H2 => r x y H2 Q
def tUn (r : V → Hp → VK → Prop) (ta : TE) : TE := fun σ H Q => ta σ H fun x H1 => r x H1 Q
/-- ints in, under C, and a value out -/
def rI (C : Int → Int → Prop) (g : Int → Int → V) : R2 := fun x y H Q => ∃ i j, x = .int i ∧ y = .int j ∧ C i j ∧ Q (g i j) H
def rI0 (g : Int → Int → V) : R2 := fun x y H Q => ∃ i j, x = .int i ∧ y = .int j ∧ Q (g i j) H
def rU (g : Int → V) : V → Hp → VK → Prop := fun x H Q => ∃ i, x = .int i ∧ Q (g i) H

section
variable {X : Cx} {a b c : Expr} {ta tb tc : TE} {pos : Pos}

theorem binT (ha : PE X a ta) (hb : PE X b tb) {pins : List (Addr × Obj)} {s : Shared} {σ : St} {H : Hp} {R : V → V → Hp → Prop} (I : Inv X pins σ H s)
    (h : ta σ H fun x H1 => tb σ H1 fun y H2 => R x y H2) {Q : Value → Shared → Prop} {f : Value → Value → Sem Value}
    (hf : ∀ v u s2 x y H2, Inv X pins σ H2 s2 → RelV x v → RelV y u → R x y H2 → wpAny (model X.prog X.w) X.A (f v u) Q X.xe s2) :
    wpAny (model X.prog X.w) X.A (eval a X.env) (fun v s₁ => wpAny (model X.prog X.w) X.A (eval b X.env) (fun u s₂ => wpAny (model X.prog X.w) X.A (f v u) Q X.xe s₂) X.xe s₁) X.xe s := by
  refine thn (ha pins s σ H _ I h) fun v s1 ⟨x, H1, I1, r1, q1⟩ => ?_
  refine thn (hb pins s1 σ H1 _ I1 q1) fun u s2 ⟨y, H2, I2, r2, q2⟩ => ?_
  exact hf v u s2 x y H2 I2 r1 r2 q2

theorem pe_op {op : Operator} {r : R2} (ho : OpR X (binaryOp op) r) (ha : PE X a ta) (hb : PE X b tb) : PE X (.BinOp a op b pos) (tOp r ta tb) := by
  intro pins s σ H Q I h
  exact wpAny_BinOp (binT ha hb I h fun v u s2 x y H2 I2 rx ry q => ho pins s2 σ H2 x y v u Q I2 rx ry q)
theorem pe_un {op : UnaryOp} {r : V → Hp → VK → Prop} (ho : UnR X (unaryOp op) r) (ha : PE X a ta) : PE X (.UnaryOp op a pos) (tUn r ta) := by
  intro pins s σ H Q I h
  exact UnaryOp_ (thn (ha pins s σ H _ I h) fun v s1 ⟨x, H1, I1, r1, q1⟩ => ho pins s1 σ H1 x v Q I1 r1 q1)
/-! ### ints -/
theorem opI {f : Value → Value → Sem Value} {C : Int → Int → Prop} {g : Int → Int → Int}
    (rule : ∀ (i j : Int) (t u : Tok) (s : Shared) (Q : Value → Shared → Prop) (E : Value → Shared → Prop), C i j → Q (.int (g i j) s.toks) { s with toks := s.toks + 1 } → wpAny (model X.prog X.w) X.A (f (.int i t) (.int j u)) Q E s) :
    OpR X f (rI C fun i j => .int (g i j)) := by
  intro pins s σ H x y v u Q I rx ry h
  obtain ⟨i, j, rfl, rfl, hc, q⟩ := h
  obtain ⟨t, rfl⟩ := rx
  obtain ⟨t', rfl⟩ := ry
  exact rule i j t t' s _ _ hc ⟨.int (g i j), H, I.tok _, ⟨_, rfl⟩, q⟩
theorem opI0 {f : Value → Value → Sem Value} {g : Int → Int → Int}
    (rule : ∀ (i j : Int) (t u : Tok) (s : Shared) (Q : Value → Shared → Prop) (E : Value → Shared → Prop), Q (.int (g i j) s.toks) { s with toks := s.toks + 1 } → wpAny (model X.prog X.w) X.A (f (.int i t) (.int j u)) Q E s) :
    OpR X f (rI0 fun i j => .int (g i j)) := by
  intro pins s σ H x y v u Q I rx ry h
  obtain ⟨i, j, rfl, rfl, q⟩ := h
  obtain ⟨t, rfl⟩ := rx
  obtain ⟨t', rfl⟩ := ry
  exact rule i j t t' s _ _ ⟨.int (g i j), H, I.tok _, ⟨_, rfl⟩, q⟩
theorem opB0 {f : Value → Value → Sem Value} {g : Int → Int → Bool}
    (rule : ∀ (i j : Int) (t u : Tok) (s : Shared) (Q : Value → Shared → Prop) (E : Value → Shared → Prop), Q (.bool (g i j)) s → wpAny (model X.prog X.w) X.A (f (.int i t) (.int j u)) Q E s) :
    OpR X f (rI0 fun i j => .bl (g i j)) := by
  intro pins s σ H x y v u Q I rx ry h
  obtain ⟨i, j, rfl, rfl, q⟩ := h
  obtain ⟨t, rfl⟩ := rx
  obtain ⟨t', rfl⟩ := ry
  exact rule i j t t' s _ _ ⟨.bl (g i j), H, I, rfl, q⟩

def CDiv (i j : Int) : Prop := 0 < j ∧ j < 1073741824
def CPow (i j : Int) : Prop := 0 ≤ j ∧ j ≤ 1000000 ∧ i.natAbs < 2 ^ 64
def CMul (i j : Int) : Prop := (-(2 ^ 64) < i ∧ i < 2 ^ 64) ∨ (-(2 ^ 64) < j ∧ j < 2 ^ 64)
theorem CMul.ok {i j : Int} (h : CMul i j) : IntMulOk i j := by
  rcases h with ⟨h1, h2⟩ | ⟨h1, h2⟩
  · exact .of_left (intBits_le_64 h1 h2)
  · exact .of_right (intBits_le_64 h1 h2)
theorem op_add : OpR X (binaryOp .Add) (rI0 fun i j => .int (i + j)) := opI0 fun _ _ _ _ _ _ _ q => add_int q
theorem op_sub : OpR X (binaryOp .Sub) (rI0 fun i j => .int (i - j)) := opI0 fun _ _ _ _ _ _ _ q => sub_int q
theorem op_mul : OpR X (binaryOp .Mult) (rI CMul fun i j => .int (i * j)) := opI fun _ _ _ _ _ _ _ hc q => mul_int q hc.ok
/-- // by a positive divisor -/
theorem op_fdiv : OpR X (binaryOp .FloorDiv) (rI CDiv fun i j => .int (i / j)) := opI fun i j _ _ _ _ _ hc q => by
  have h1 : (0 : Int) < j := hc.1
  have h2 : j < 1073741824 := hc.2
  exact floordiv_int (by omega) (by rw [Int.fdiv_eq_ediv_of_nonneg i (by omega)]; exact q) (.inl (PyProof.noPylong_small (by omega)))
/-- % by a positive divisor of any size -/
theorem op_mod : OpR X (binaryOp .Mod) (rI (fun _ j => 0 < j) fun i j => .int (i % j)) := opI fun i j _ _ _ _ _ hc q => by
  have h1 : (0 : Int) < j := hc
  exact mod_int' (by omega) (by rw [Int.fmod_eq_emod_of_nonneg i (by omega)]; exact q)
theorem op_pow : OpR X (binaryOp .Pow) (rI CPow fun i j => .int (i ^ j.toNat)) := opI fun _ _ _ _ _ _ _ hc q => pow_int_small hc.1 hc.2.1 hc.2.2 q
theorem unI {f : Value → Sem Value} {g : Int → Int}
    (rule : ∀ (i : Int) (t : Tok) (s : Shared) (Q : Value → Shared → Prop) (E : Value → Shared → Prop), Q (.int (g i) s.toks) { s with toks := s.toks + 1 } → wpAny (model X.prog X.w) X.A (f (.int i t)) Q E s) :
    UnR X f (rU fun i => .int (g i)) := by
  intro pins s σ H x v Q I rx h
  obtain ⟨i, rfl, q⟩ := h
  obtain ⟨t, rfl⟩ := rx
  exact rule i t s _ _ ⟨.int (g i), H, I.tok _, ⟨_, rfl⟩, q⟩
theorem un_neg : UnR X (unaryOp .USub) (rU fun i => .int (-i)) := unI fun _ _ _ _ _ q => neg_int q
/-! ### bools among ints: n += (a < b) -/
end

/-! ### comparisons -/
/-- the scalars that == tells apart as data does -/
def scal : V → V → Bool
  | .non, .non => true | .non, .int _ => true | .int _, .non => true | .non, .bl _ => true | .bl _, .non => true | .non, .str _ => true | .str _, .non => true
  | .int _, .int _ => true | .bl _, .bl _ => true | .str _, .str _ => true | .byt _, .byt _ => true
  | .int _, .str _ => true | .str _, .int _ => true | .bl _, .str _ => true | .str _, .bl _ => true
  | _, _ => false
def rEq : R2 := fun x y H Q => scal x y = true ∧ Q (.bl (decide (x = y))) H
def rNe : R2 := fun x y H Q => scal x y = true ∧ Q (.bl (!decide (x = y))) H

theorem dec_int {i j : Int} : decide (V.int i = V.int j) = (i == j) := by
  rw [Bool.eq_iff_iff]
  simp
theorem dec_bl {i j : Bool} : decide (V.bl i = V.bl j) = (i == j) := by
  rw [Bool.eq_iff_iff]
  simp
theorem dec_str {i j : Str} : decide (V.str i = V.str j) = (i == j) := by
  rw [Bool.eq_iff_iff]
  simp
theorem dec_byt {i j : Array UInt8} : decide (V.byt i = V.byt j) = (i.toList == j.toList) := by
  rw [Bool.eq_iff_iff]
  cases i
  cases j
  simp

section
variable {X : Cx} {a b c : Expr} {ta tb tc : TE} {pos : Pos}
theorem fin_bl {pins : List (Addr × Obj)} {σ : St} {H : Hp} {s : Shared} {Q : VK} {k k' : Bool} (I : Inv X pins σ H s) (q : Q (.bl k) H) (e : k = k') : EP X pins σ Q (.bool k') s := by
  subst e
  exact ⟨.bl k, H, I, rfl, q⟩
theorem op_eq : OpR X (compareOp .Eq) rEq := by
  intro pins s σ H x y v u Q I rx ry h
  obtain ⟨hs, q⟩ := h
  cases x with
  | non =>
    cases rx
    cases y with
    | non => cases ry; exact PySem.EqNone.eq_none_none (fin_bl I q (by simp))
    | bl j => cases ry; exact PySem.EqNone.eq_none_bool (fin_bl I q (by simp))
    | int j => obtain ⟨t', rfl⟩ := ry; exact PySem.EqNone.eq_none_int (fin_bl I q (by simp))
    | str j => obtain ⟨t', rfl⟩ := ry; exact PySem.EqNone.eq_none_str (fin_bl I q (by simp))
    | _ => exact absurd (show false = true from hs) Bool.false_ne_true
  | bl i =>
    cases rx
    cases y with
    | non => cases ry; exact PySem.EqNone.eq_bool_none (fin_bl I q (by simp))
    | bl j => cases ry; exact eq_bool (fin_bl I q dec_bl)
    | str j => obtain ⟨t', rfl⟩ := ry; exact PySem.EqMixed.eq_bool_str (fin_bl I q (by simp))
    | _ => exact absurd (show false = true from hs) Bool.false_ne_true
  | int i =>
    obtain ⟨t, rfl⟩ := rx
    cases y with
    | non => cases ry; exact PySem.EqNone.eq_int_none (fin_bl I q (by simp))
    | int j => obtain ⟨t', rfl⟩ := ry; exact eq_int (fin_bl I q dec_int)
    | str j => obtain ⟨t', rfl⟩ := ry; exact PySem.EqMixed.eq_int_str (fin_bl I q (by simp))
    | _ => exact absurd (show false = true from hs) Bool.false_ne_true
  | str i =>
    obtain ⟨t, rfl⟩ := rx
    cases y with
    | non => cases ry; exact PySem.EqNone.eq_str_none (fin_bl I q (by simp))
    | bl j => cases ry; exact PySem.EqMixed.eq_str_bool (fin_bl I q (by simp))
    | int j => obtain ⟨t', rfl⟩ := ry; exact PySem.EqMixed.eq_str_int (fin_bl I q (by simp))
    | str j => obtain ⟨t', rfl⟩ := ry; exact eq_str (fin_bl I q dec_str)
    | _ => exact absurd (show false = true from hs) Bool.false_ne_true
  | byt i =>
    obtain ⟨t, rfl⟩ := rx
    cases y with
    | byt j => obtain ⟨t', rfl⟩ := ry; exact PySem.W.eq_bytes (fin_bl I q dec_byt)
    | _ => exact absurd (show false = true from hs) Bool.false_ne_true
  | _ => cases y <;> exact absurd (show false = true from hs) Bool.false_ne_true
theorem op_ne : OpR X (compareOp .NotEq) rNe := by
  intro pins s σ H x y v u Q I rx ry h
  obtain ⟨hs, q⟩ := h
  cases x with
  | non =>
    cases rx
    cases y with
    | non => cases ry; exact PySem.EqNone.ne_none_none (fin_bl I q (by simp))
    | bl j => cases ry; exact PySem.EqNone.ne_none_bool (fin_bl I q (by simp))
    | int j => obtain ⟨t', rfl⟩ := ry; exact PySem.EqNone.ne_none_int (fin_bl I q (by simp))
    | str j => obtain ⟨t', rfl⟩ := ry; exact PySem.EqNone.ne_none_str (fin_bl I q (by simp))
    | _ => exact absurd (show false = true from hs) Bool.false_ne_true
  | bl i =>
    cases rx
    cases y with
    | non => cases ry; exact PySem.EqNone.ne_bool_none (fin_bl I q (by simp))
    | bl j => cases ry; exact ne_bool (fin_bl I q (congrArg not dec_bl))
    | str j => obtain ⟨t', rfl⟩ := ry; exact PySem.EqMixed.ne_bool_str (fin_bl I q (by simp))
    | _ => exact absurd (show false = true from hs) Bool.false_ne_true
  | int i =>
    obtain ⟨t, rfl⟩ := rx
    cases y with
    | non => cases ry; exact PySem.EqNone.ne_int_none (fin_bl I q (by simp))
    | int j => obtain ⟨t', rfl⟩ := ry; exact ne_int (fin_bl I q (congrArg not dec_int))
    | str j => obtain ⟨t', rfl⟩ := ry; exact PySem.EqMixed.ne_int_str (fin_bl I q (by simp))
    | _ => exact absurd (show false = true from hs) Bool.false_ne_true
  | str i =>
    obtain ⟨t, rfl⟩ := rx
    cases y with
    | non => cases ry; exact PySem.EqNone.ne_str_none (fin_bl I q (by simp))
    | bl j => cases ry; exact PySem.EqMixed.ne_str_bool (fin_bl I q (by simp))
    | int j => obtain ⟨t', rfl⟩ := ry; exact PySem.EqMixed.ne_str_int (fin_bl I q (by simp))
    | str j => obtain ⟨t', rfl⟩ := ry; exact ne_str (fin_bl I q (congrArg not dec_str))
    | _ => exact absurd (show false = true from hs) Bool.false_ne_true
  | byt i =>
    obtain ⟨t, rfl⟩ := rx
    cases y with
    | byt j => obtain ⟨t', rfl⟩ := ry; exact PySem.W.ne_bytes (fin_bl I q (congrArg not dec_byt))
    | _ => exact absurd (show false = true from hs) Bool.false_ne_true
  | _ => cases y <;> exact absurd (show false = true from hs) Bool.false_ne_true

theorem op_lt : OpR X (compareOp .Lt) (rI0 fun i j => .bl (decide (i < j))) := opB0 fun _ _ _ _ _ _ _ q => lt_int q
theorem op_gt : OpR X (compareOp .Gt) (rI0 fun i j => .bl (decide (j < i))) := opB0 fun _ _ _ _ _ _ _ q => gt_int q
theorem op_ge : OpR X (compareOp .GtE) (rI0 fun i j => .bl (decide (j ≤ i))) := opB0 fun _ _ _ _ _ _ _ q => ge_int q
theorem op_notN : OpR X (compareOp .IsNot) (fun x y H Q => y = .non ∧ Q (.bl (!decide (x = .non))) H) := by
  intro pins s σ H x y v u Q I rx ry h
  obtain ⟨rfl, q⟩ := h
  cases ry
  refine isnot_none_gen (fin_bl I q ?_)
  cases x <;> first
    | (cases rx; rfl)
    | (obtain ⟨t, rfl⟩ := rx; rfl)

theorem nomark (b : Expr) {op : CmpOp} (h : op ≠ .In := by decide) (h2 : op ≠ .NotIn := by decide) : behindInMarks op b = false := by
  have e1 : (op == CmpOp.In) = false := by cases op <;> first | rfl | exact absurd rfl h
  have e2 : (op == CmpOp.NotIn) = false := by cases op <;> first | rfl | exact absurd rfl h2
  cases b <;> simp [behindInMarks, e1, e2]
/-- a comparison as a value; hm: nomark b, or (for in, not in) by with_unfolding_all rfl -/
theorem pe_cmpR {op : CmpOp} {r : R2} (ho : OpR X (compareOp op) r) (ha : PE X a ta) (hb : PE X b tb) (hm : behindInMarks op b = false) : PE X (.Compare a [op] [b] pos) (tOp r ta tb) := by
  intro pins s σ H Q I h
  exact wpAny_Compare1 (binT ha hb I h fun v u s2 x y H2 I2 rx ry q => ho pins s2 σ H2 x y v u Q I2 rx ry q) hm
/-- a reading of a value as a test -/
def tTest (t : TE) : TT := fun σ H Q => t σ H fun x H' => ∃ k, x = .bl k ∧ Q k H'
theorem pt_cmpR {op : CmpOp} {r : R2} (ho : OpR X (compareOp op) r) (ha : PE X a ta) (hb : PE X b tb) (hm : behindInMarks op b = false) : PT X (.Compare a [op] [b] pos) (tTest (tOp r ta tb)) := by
  intro pins s σ H Q I h
  refine wpAny_isTrue_Compare1 (thn (ha pins s σ H _ I h) fun v s1 ⟨x, H1, I1, r1, q1⟩ => thn (hb pins s1 σ H1 _ I1 q1) fun u s2 ⟨y, H2, I2, r2, q2⟩ =>
    thn (ho pins s2 σ H2 x y v u _ I2 r1 r2 q2) fun c s3 ⟨z, H3, I3, r3, k, e, q3⟩ => ?_) hm
  subst e
  cases r3
  exact wpAny_truthy_bool ⟨H3, I3, q3⟩
/-! ### truth -/
theorem line63 : (sizeLine : Nat) < 2 ^ 63 := by rw [sizeLine_eq]; decide
/-! ### strs and bytes -/
/-! ### scalar builtins, by CallR -/
theorem vals1 {x : V} {us : List Value} (r : Vals [x] us) : ∃ u, us = [u] ∧ RelV x u := by
  cases r with
  | cons r1 r2 => cases r2; exact ⟨_, rfl, r1⟩
theorem vals2 {x y : V} {us : List Value} (r : Vals [x, y] us) : ∃ u w', us = [u, w'] ∧ RelV x u ∧ RelV y w' := by
  cases r with
  | cons r1 r2 =>
    cases r2 with
    | cons r3 r4 => cases r4; exact ⟨_, _, rfl, r1, r3⟩
theorem call_abs : CallR X (.builtin "abs") (fun xs H Q => ∃ i, xs = [.int i] ∧ Q (.int (if i < 0 then -i else i)) H) := by
  intro pins s σ H xs us Q I r h
  obtain ⟨i, rfl, q⟩ := h
  obtain ⟨u, rfl, t, rfl⟩ := vals1 r
  exact call_abs_int fun u tk => ⟨.int (if i < 0 then -i else i), H, I.tok _, ⟨_, rfl⟩, q⟩
theorem call_max2 (hc : X.calm = true) : CallR X (.builtin "max") (fun xs H Q => ∃ i j, xs = [.int i, .int j] ∧ Q (.int (if j > i then j else i)) H) := by
  intro pins s σ H xs us Q I r h
  obtain ⟨i, j, rfl, q⟩ := h
  obtain ⟨u, w', rfl, ⟨t, rfl⟩, ⟨t', rfl⟩⟩ := vals2 r
  refine max_two_ints (I.ok.hd hc) fun h' tk k => ⟨_, H, I.kept k, ?_, q⟩
  by_cases hj : j > i
  · rw [if_pos hj, if_pos hj]; exact ⟨_, rfl⟩
  · rw [if_neg hj, if_neg hj]; exact ⟨_, rfl⟩
theorem call_min2 (hc : X.calm = true) : CallR X (.builtin "min") (fun xs H Q => ∃ i j, xs = [.int i, .int j] ∧ Q (.int (if j < i then j else i)) H) := by
  intro pins s σ H xs us Q I r h
  obtain ⟨i, j, rfl, q⟩ := h
  obtain ⟨u, w', rfl, ⟨t, rfl⟩, ⟨t', rfl⟩⟩ := vals2 r
  refine min_two_ints (I.ok.hd hc) fun h' tk k => ⟨_, H, I.kept k, ?_, q⟩
  by_cases hj : j < i
  · rw [if_pos hj, if_pos hj]; exact ⟨_, rfl⟩
  · rw [if_neg hj, if_neg hj]; exact ⟨_, rfl⟩
theorem call_int1 : CallR X (.type "int") (fun xs H Q => (∃ i, xs = [.int i] ∧ Q (.int i) H) ∨ ∃ k, xs = [.bl k] ∧ Q (.int (if k then 1 else 0)) H) := by
  intro pins s σ H xs us Q I r h
  rcases h with ⟨i, rfl, q⟩ | ⟨k, rfl, q⟩
  · obtain ⟨u, rfl, t, rfl⟩ := vals1 r
    exact call_int_int ⟨.int i, H, I, ⟨_, rfl⟩, q⟩
  · obtain ⟨u, rfl, r1⟩ := vals1 r
    cases r1
    exact call_int_bool ⟨.int (if k then 1 else 0), H, I.tok _, ⟨_, rfl⟩, q⟩
end
end L2

namespace L2
open PySem PySem.Spec PyProof.Rows

/-! ### an instance, its attributes a map -/
structure ObjM (h : Heap) (x dx C : Addr) (mA : Str → Option Value) : Prop where
  obj : h.get? x = some (PySem.W.instObj C dx)
  ns : h.Ns1 dx mA
  ne : dx ≠ x

theorem lookIn_ns {h : Heap} {dx : Addr} {mA : Str → Option Value} (n : h.Ns1 dx mA) : ∃ od, h.get? dx = some od ∧ ∀ name, PySem.W.lookIn name od = some (mA name) := by
  obtain ⟨o, es, ep, ho, hd, hk, _, hm⟩ := n
  refine ⟨o, ho, fun name => ?_⟩
  have e := hm name
  unfold nsFind findBy at e
  rw [← Array.find?_toList] at e
  unfold PySem.W.lookIn
  rw [hd]
  dsimp only
  split
  · rename_i y q
    rw [q] at e
    exact congrArg some e
  · rename_i q
    rw [q] at e
    have a : es.toList.any (·.refKey) = false := by
      rw [List.any_eq_false]
      intro y hy
      obtain ⟨z, t, hkey⟩ := hk y (Array.mem_toList_iff.mp hy)
      simp [DictEntry.refKey, hkey]
    have a' : ¬ es.toList.any (·.refKey) = true := by rw [a]; exact Bool.false_ne_true
    rw [if_neg a']
    exact congrArg some e

theorem ObjM.look {h : Heap} {x dx C : Addr} {mA : Str → Option Value} (I : ObjM h x dx C mA) : ∃ od, PySem.W.InstAt h x (PySem.W.instObj C dx) C (some od) ∧ ∀ name, PySem.W.lookIn name od = some (mA name) :=
  let ⟨od, ho, hl⟩ := lookIn_ns I.ns
  ⟨od, ⟨I.obj, rfl, rfl, ho⟩, hl⟩

section
variable {prog : Program} {w : World} {A : Around} {E : Value → Shared → Prop} {s : Shared} {K : PySem.W.Frag} {x dx C f : Addr} {mA : Str → Option Value} {name : Str} {v : Value}

theorem get_meth {pl : Sem Bool} {Q : Value × List Value → Shared → Prop} (X : K.In s.heap) (I : ObjM s.heap x dx C mA) (hg : PySem.W.plainGet K C name = true)
    (hf : PySem.W.findIn K (.ref C) name = some (some (.ref f))) (ht : PySem.W.isFn K (.ref f) = true) (hv : mA name = none) (h : Q (.ref f, [.ref x]) s) :
    wpAny (model prog w) A (getMethod (.ref x) name pl) Q E s := by
  obtain ⟨od, J, hl⟩ := I.look
  exact PySem.W.method_fn X J (PySem.W.plainGet_of hg).1 (PySem.W.plainGet_of hg).2 hf (beq_iff_eq.mp ht) (by show (PySem.W.lookIn name od).map (·.isSome) = some false; rw [hl, hv]; rfl) h

/-- C() where there is no __init__ but object's -/
theorem make_map0 {R : Result → Shared → Prop} (X : K.In s.heap) (hm : PySem.W.makesIn K C = true)
    (hi : PySem.W.findIn K (.ref C) "__init__" = some (some (.builtin "object.__init__")))
    (hb : ∀ self, PySem.W.Looks (model prog w) s.heap (bindSpecial (.builtin "object.__init__") self) (.builtin "object.__init__", [self]))
    (h : codeAny (model prog w) (A.under (.builtin "type.__call__" ⟨[.ref C], []⟩)) (.call (.builtin "object.__init__") ⟨[.ref (s.heap.objs.size + 1)], []⟩) (PySem.W.InitBack (s.heap.objs.size + 1) R)
      { s with heap := (s.heap.push PySem.W.emptyDict).push (PySem.W.instObj C s.heap.objs.size) }) :
    codeAny (model prog w) A (.call (.ref C) ⟨[], []⟩) R s := by
  obtain ⟨hh, g, d, t, os⟩ := s
  exact PySem.W.make_core (PySem.W.makes_of X hm) (PySem.W.looks_findIn X hi) hb (.inr ⟨rfl, rfl⟩) h
end

/-! ### the attributes as a list of pairs -/
theorem RelO.none_of {o : Option Value} (r : RelO none o) : o = none := by
  cases o with
  | none => rfl
  | some u => exact (show False from r).elim
section
variable {P : Program} {w : World} {H H' : Hp} {h h' : Heap} {a C dx : Addr} {fs fs' : List (Str × V)}
theorem ins_get (hok : HOk P w H h) (e : H a = some (.ins C dx fs)) : ∃ mA, ObjM h a dx C mA ∧ (∀ f, RelO (fs.lookup f) (mA f)) ∧ PySem.Within mA (fs.map (·.1)) ∧ fs.length ≤ 1000 ∧ H dx = some (.own a) := by
  obtain ⟨d, z, ne, ob, mA, n, r, q⟩ := (show ObjOk P w H h a (.ins C dx fs) from hok a _ e)
  exact ⟨mA, ⟨ob, n, ne⟩, r, q, z, d⟩
end

/-! ### what of the text a class must have -/
structure Cls (K : PySem.W.Frag) (C : Addr) : Prop where
  pg : PySem.W.plainGet K C Str.empty = true
  hd : PySem.W.hasDictIn K C = true
  po : PySem.W.plainOver K C = true
  sa : PySem.W.findIn K (.ref C) "__setattr__" = some (some (.builtin "object.__setattr__"))
theorem Cls.get {K : PySem.W.Frag} {C : Addr} (c : Cls K C) (f : Str) : PySem.W.plainGet K C f = true := c.pg
/-- a constant of the class -/
structure Con (K : PySem.W.Frag) (C : Addr) (f : Str) (v : V) (u : Value) : Prop where
  at_ : PySem.W.findIn K (.ref C) f = some (some u)
  rel : RelV v u
  get : PySem.W.specialIn K u "__get__" = some none
  cp : PySem.W.copiedNames.contains f = false
/-- a method: a plain def of the class or of one above it -/
structure Meth (K : PySem.W.Frag) (C : Addr) (m : Str) (f : Addr) : Prop where
  at_ : PySem.W.findIn K (.ref C) m = some (some (.ref f))
  fn : PySem.W.isFn K (.ref f) = true
  kp : PySem.W.keepIn K (.ref f) = true

section
variable {X : Cx} {pins : List (Addr × Obj)} {σ : St} {H : Hp} {s : Shared} {a C dx : Addr} {fs : List (Str × V)} {f : Str} {v : V} {A : Around} {E : Value → Shared → Prop}

theorem getmeth_ok {m : Str} {g : Addr} {pl : Sem Bool} {Q : Value × List Value → Shared → Prop} (I : Inv X pins σ H s) (e : H a = some (.ins C dx fs)) (c : Cls X.K C) (k : Meth X.K C m g) (l : fs.lookup m = none)
    (h : Q (.ref g, [.ref a]) s) : wpAny (model X.prog X.w) A (getMethod (.ref a) m pl) Q E s := by
  obtain ⟨mA, O, r, _, _, _⟩ := ins_get I.hok e
  have hn : mA m = none := RelO.none_of (by rw [← l]; exact r m)
  exact get_meth I.kIn O (c.get m) k.at_ k.fn hn h

/-- a new instance, tracked, without attributes -/
theorem Inv.made (I : Inv X pins σ H s) : Inv X pins σ (upd (upd H s.heap.objs.size (.own (s.heap.objs.size + 1))) (s.heap.objs.size + 1) (.ins C s.heap.objs.size []))
    { s with heap := (s.heap.push PySem.W.emptyDict).push (PySem.W.instObj C s.heap.objs.size) } := by
  have e1 : (s.heap.push PySem.W.emptyDict).get? s.heap.objs.size = some PySem.W.emptyDict := Heap.get?_push_size s.heap rfl
  have e2 : ((s.heap.push PySem.W.emptyDict).push (PySem.W.instObj C s.heap.objs.size)).get? (s.heap.objs.size + 1) = some (PySem.W.instObj C s.heap.objs.size) := by
    have := Heap.get?_push_size (s.heap.push PySem.W.emptyDict) (o := PySem.W.instObj C s.heap.objs.size) rfl
    rwa [Heap.size_push] at this
  have e3 : (s.heap.push PySem.W.emptyDict).Ns s.heap.objs.size (fun _ => none) := ⟨PySem.W.emptyDict, #[], _, e1, rfl, (fun e he => absurd he (by simp)), fun _ => rfl⟩
  have I1 := I.laid (a := s.heap.objs.size) (o := .own (s.heap.objs.size + 1)) (h' := s.heap.push PySem.W.emptyDict) (t' := s.toks) (fun b u q => Heap.get?_push_of_some _ q) (Nat.le_refl _) ⟨_, e1⟩
  refine I1.laid (a := s.heap.objs.size + 1) (o := .ins C s.heap.objs.size []) (t' := s.toks) (fun b u q => Heap.get?_push_of_some _ q) (Nat.le_of_eq (Heap.size_push _ _)) ?_
  have ne : s.heap.objs.size ≠ s.heap.objs.size + 1 := Nat.ne_of_lt (Nat.lt_succ_self _)
  refine ⟨by rw [upd_ne ne, upd_same], Nat.zero_le _, ne, e2, fun _ => none, (Heap.Ns1.of_empty e3).at fun o q => Heap.get?_push_of_some _ q, fun _ => True.intro, fun y hy => absurd rfl hy⟩

end

/-! ### readings and rules -/
section
variable {X : Cx} {o e value : Expr} {f : Str} {pos pos' tpos : Pos} {ta tv : TE}
end

/-! ### isinstance -/
section
variable {X : Cx} {pins : List (Addr × Obj)} {σ : St} {H : Hp} {s : Shared} {A : Around} {E : Value → Shared → Prop} {Q : Value → Shared → Prop} {c : Value} {b : Bool}
/-- the type of a value, as the fragment's deciders take it; for an instance its class -/
inductive TyOf (K : PySem.W.Frag) (H : Hp) : V → Value → Prop where
  | non : TyOf K H .non (.type "NoneType")
  | bl (x : Bool) : TyOf K H (.bl x) (.type "bool")
  | int (i : Int) : TyOf K H (.int i) (.type "int")
  | str (x : Str) : TyOf K H (.str x) (.type "str")
  | flt (x : UInt64) : TyOf K H (.flt x) (.type "float")
  | lst {a : Addr} {xs : List V} (e : H a = some (.lst xs)) : TyOf K H (.ref a) (.type "list")
  | frz {a : Addr} {o : Obj} {xs : List V} (e : H a = some (.frz o (.lst xs))) : TyOf K H (.ref a) (.type "list")
  | tup {a : Addr} {xs : List V} (e : H a = some (.tup xs)) : TyOf K H (.ref a) (.type "tuple")
  | dK {a : Addr} {kvs : List (Key × V)} (e : H a = some (.dK kvs)) : TyOf K H (.ref a) (.type "dict")
  | dT {a : Addr} {kvs : List (List Key × V)} (e : H a = some (.dT kvs)) : TyOf K H (.ref a) (.type "dict")
  | ins {a C dx : Addr} {fs : List (Str × V)} (e : H a = some (.ins C dx fs)) (cl : Cls K C) (ha : PySem.W.findIn K (.ref C) "__class__" = some (some (.builtin "object.__class__")))
      (hn : PySem.W.specialIn K (.builtin "object.__class__") "__get__" = some (some (.builtin "getset_descriptor.__get__"))) (htk : PySem.W.takesIn K (.builtin "object.__class__") = some true)
      (hm : PySem.W.mroIn K C (.type "object") = some true) : TyOf K H (.ref a) (.ref C)
end
end L2

namespace L2
open PySem PySem.Spec PyProof.Rows

/-! ### room -/
structure Room (k : Nat) (A : Around) : Prop where
  hd : A.handled = none
  dp : A.depth + 3 * k + 5 < recursionLimit
  un : A.units + 16 * k + 200 < cLine
theorem Room.mono {j k : Nat} {A : Around} (r : Room k A) (h : j ≤ k) : Room j A := ⟨r.hd, by have := r.dp; omega, by have := r.un; omega⟩
theorem Room.deeper {k : Nat} {A : Around} (r : Room (k + 1) A) (env : Env) : Room k (A.deeper env) :=
  ⟨r.hd, by have := r.dp; show A.depth + 1 + 3 * k + 5 < _; omega, by have := r.un; show A.units + 3 + 16 * k + 200 < _; omega⟩
theorem Room.depth {k : Nat} {A : Around} (r : Room k A) : A.depth < recursionLimit := by have := r.dp; omega
theorem Room.units {k : Nat} {A : Around} (r : Room k A) : A.units + 64 < cLine := by have := r.un; omega
/-! ### argument lists and displays -/
def tNil : TA := fun _ H Q => Q [] H
def tCons (ta : TE) (tr : TA) : TA := fun σ H Q => ta σ H fun x H1 => tr σ H1 fun xs H2 => Q (x :: xs) H2
section
variable {X : Cx} {e : Expr} {es : List Expr} {te : TE} {t : TA} {pos : Pos}
theorem pa_nil : PA X [] tNil := fun _ _ _ _ H Q I h => Calls.spliced_nil ⟨[], H, I, .nil, h⟩
theorem pa_cons (ha : PE X e te) (hr : PA X es t) (hs : starEach (e :: es) X.env = (false, eval e X.env) :: starEach es X.env := by rfl) : PA X (e :: es) (tCons te t) := by
  intro pos pins s σ H Q I h
  rw [hs]
  show wpAny _ _ (spliced ((false, eval e X.env) :: backTo pos (starEach es X.env))) _ _ s
  refine Calls.spliced_cons (thn (ha pins s σ H _ I h) fun u s1 ⟨x, H1, I1, r1, q1⟩ => ?_)
  exact thn (hr pos pins s1 σ H1 _ I1 q1) fun us s2 ⟨xs, H2, I2, r2, q2⟩ => ⟨x :: xs, H2, I2, .cons r1 r2, q2⟩

/-- a tuple, a list of written items -/
def tTup (t : TA) : TE := fun σ H Q => t σ H fun xs H1 => xs.length ≤ sizeLine ∧ ∀ p, H1 p = none → Q (.ref p) (upd H1 p (.tup xs))
def tLst (t : TA) : TE := fun σ H Q => t σ H fun xs H1 => xs.length ≤ sizeLine ∧ ∀ p, H1 p = none → Q (.ref p) (upd H1 p (.lst xs))
theorem pe_tup {x1} (h : PA X es t) : PE X (.Tuple es x1 pos) (tTup t) := by
  intro pins s σ H Q I hq
  refine wpAny_Tuple_spliced (thn (h pos pins s σ H _ I hq) fun us s1 ⟨xs, H1, I1, r, z, q⟩ => ⟨by rw [← r.length]; exact z, ?_⟩)
  have hf : H1 s1.heap.objs.size = none := I1.hok.fresh (Nat.le_refl _)
  refine ⟨.ref s1.heap.objs.size, upd H1 s1.heap.objs.size (.tup xs), I1.laid (t' := s1.toks) (fun b u e => Heap.get?_push_of_some _ e) (Nat.le_refl _) ?_, rfl, q _ hf⟩
  exact ⟨z, us, r, ⟨_, Heap.get?_push_size _ rfl, rfl, _, rfl⟩⟩
theorem pe_lst (h : PA X es t) : PE X (.List es pos) (tLst t) := by
  intro pins s σ H Q I hq
  refine wpAny_List_spliced (thn (h pos pins s σ H _ I hq) fun us s1 ⟨xs, H1, I1, r, z, q⟩ => ⟨by rw [← r.length]; exact z, ?_⟩)
  have hf : H1 s1.heap.objs.size = none := I1.hok.fresh (Nat.le_refl _)
  refine ⟨.ref s1.heap.objs.size, upd H1 s1.heap.objs.size (.lst xs), I1.laid (t' := s1.toks) (fun b u e => Heap.get?_push_of_some _ e) (Nat.le_refl _) ?_, rfl, q _ hf⟩
  exact ⟨z, us, 0, r, Heap.get?_push_size _ rfl⟩
end

/-! ### what a def promises -/
/-- a def's promise: the bound arguments in the parameters' order, the heap, the wanted end, the wanted exception -/
abbrev Sp := List V → Hp → VK → XK → Prop
/-- how an exception lies behind a call (file 08 gives it): the callers' frames, abstract heap and state ahead of the call, the wish, the exception, the state -/
abbrev CXT := List Env → Hp → Shared → XK → Value → Shared → Prop

/-- the state at a call -/
structure Env0 (P : Program) (w : World) (K : PySem.W.Frag) (mg : Str → Option Value) (base : Heap) (A : Around) (outer : List Env) (s : Shared) (H : Hp) : Prop where
  frames : A.frames = some outer
  mod : Mod K mg base
  bs : ∀ b o, base.get? b = some o → s.heap.get? b = some o ∧ H b = none
  bsz : base.objs.size ≤ s.heap.objs.size
  funs : s.heap.FunFrames base outer
  frf : ∀ b ∈ frs outer, H b = none
  hok : HOk P w H s.heap
  bare : AllBare s.gens
/-- a call's end -/
def CE (outer : List Env) (P : Program) (w : World) (H : Hp) (s : Shared) (Q : VK) (u : Value) (s' : Shared) : Prop :=
  ∃ v H', s'.os = s.os ∧ AllBare s'.gens ∧ Un (frs outer) [] H H' s.heap s'.heap ∧ HOk P w H' s'.heap ∧ RelV v u ∧ Q v H'
def CR (CX : CXT) (outer : List Env) (P : Program) (w : World) (H : Hp) (s : Shared) (Q : VK) (E : XK) (r : Result) (s' : Shared) : Prop :=
  match r with
  | .ok (.ret u) => CE outer P w H s Q u s'
  | .ok _ => False
  | .error e => CX outer H s E e s'
structure FnOk (P : Program) (w : World) (K : PySem.W.Frag) (mg : Str → Option Value) (base : Heap) (CX : CXT) (k : Nat) (f : Addr) (fd : FuncData) (ps : List Str) (sp : Sp) : Prop where
  len : ∀ vs H Q E, sp vs H Q E → vs.length = ps.length
  run : ∀ (A : Around) (outer : List Env) (s : Shared) (H : Hp) (args : Args) (us : List Value) (vs : List V) (Q : VK) (E : XK), Room k A → Env0 P w K mg base A outer s H → BindsTo s fd args (ps.zip us) → Vals vs us → sp vs H Q E →
    codeAny (model P w) A (.call (.ref f) args) (CR CX outer P w H s Q E) s
section
variable {X : Cx} {pins : List (Addr × Obj)} {σ : St} {H : Hp} {s s' : Shared}
/-- from a body: what a callee wants -/
theorem Inv.env0 (I : Inv X pins σ H s) : Env0 X.prog X.w X.K X.mg X.base X.A X.stack s H :=
  ⟨I.ok.frames, I.ok.mod, I.bs, Nat.le_trans I.ok.bsz I.sz, I.stack, I.stkFree, I.hok, I.bare⟩
/-- behind a call -/
theorem Inv.after {Q : VK} {u : Value} (I : Inv X pins σ H s) (h : CE X.stack X.prog X.w H s Q u s') : EP X pins σ Q u s' := by
  obtain ⟨v, H', os, bare, un, hok, r, q⟩ := h
  obtain ⟨hh, g, d, t, os'⟩ := s'
  obtain rfl : os' = s.os := os
  exact ⟨v, H', I.call (h' := hh) (g' := g) (d' := d) (t' := t) (ch := []) un hok bare (fun b z => absurd z (by simp)), r, q⟩
end

/-! ### calls -/
/-- f(..): the written arguments, then the defaults dvs; E: what is wanted of an exception -/
def tCall (sp : Sp) (dvs : List V) (E : XK) (t : TA) : TE := fun σ H Q => t σ H fun vs H1 => sp (vs ++ dvs) H1 Q E
/-- o.m(..) of an instance of the class at C -/
def tMeth (C : Addr) (m : Str) (sp : Sp) (dvs : List V) (E : XK) (ta : TE) (t : TA) : TE := fun σ H Q => ta σ H fun x H1 => ∃ a dx fs, x = .ref a ∧ H1 a = some (.ins C dx fs) ∧ fs.lookup m = none ∧
  t σ H1 fun vs H2 => sp (x :: (vs ++ dvs)) H2 Q E
/-- how the parameters are bound: us the positional arguments, kw the keywords' values by name, ds the defaults that fill up -/
def Binds (K : PySem.W.Frag) (fd : FuncData) (ps : List Str) (ds : List Value) : Prop :=
  ∀ (s : Shared) (us : List Value), K.In s.heap → (us ++ ds).length = ps.length → BindsTo s fd ⟨us, []⟩ (ps.zip (us ++ ds))
/-- every parameter is given -/
theorem Binds.all {K : PySem.W.Frag} {fd : FuncData} {ps : List Str} (h : ∀ us : List Value, us.length = ps.length → bindArgs fd ⟨us, []⟩ = pure (ps.zip us)) : Binds K fd ps [] := fun s us _ hl => by
  rw [List.append_nil] at hl ⊢
  exact .of_eq (h us hl)

/-- an exception of a callee reaches what this body wants of exceptions -/
def Passes (CX : CXT) (X : Cx) (E : XK) : Prop := ∀ (pins : List (Addr × Obj)) (σ : St) (H : Hp) (s : Shared) (e : Value) (s' : Shared), Inv X pins σ H s → CX X.stack H s E e s' → X.xe e s'

section
variable {X : Cx} {CX : CXT} {k : Nat} {f C : Addr} {fd : FuncData} {ps : List Str} {sp : Sp} {dvs : List V} {ds : List Value} {E : XK} {x m : Str} {p pos apos : Pos} {e o : Expr} {es : List Expr} {ta : TE} {t : TA}

/-- the callee runs -/
theorem run_fn {pins : List (Addr × Obj)} {σ : St} {H : Hp} {s : Shared} {Q : VK} {us : List Value} {vs : List V} (F : FnOk X.prog X.w X.K X.mg X.base CX k f fd ps sp) (hr : Room k X.A) (hb : Binds X.K fd ps ds) (hd : Vals dvs ds) (hx : Passes CX X E)
    (I : Inv X pins σ H s) (r : Vals vs us) (h : sp (vs ++ dvs) H Q E) : wpAny (model X.prog X.w) X.A (call (.ref f) us) (EP X pins σ Q) X.xe s := by
  have r2 : Vals (vs ++ dvs) (us ++ ds) := r.append hd
  have hl : (us ++ ds).length = ps.length := by rw [← r2.length]; exact F.len _ _ _ _ h
  refine wpAny_call (codeAny_mono (F.run X.A X.stack s H ⟨us, []⟩ (us ++ ds) (vs ++ dvs) Q E hr I.env0 (hb s us I.kIn hl) r2 h) fun r s' hq => ?_)
  cases r with
  | error e => exact hx pins σ H s e s' I hq
  | ok fl =>
    cases fl with
    | ret u => exact I.after hq
    | next => exact False.elim hq
    | brk => exact False.elim hq
    | cont => exact False.elim hq

theorem pe_call (F : FnOk X.prog X.w X.K X.mg X.base CX k f fd ps sp) (hr : Room k X.A) (hg : Gl X x) (hm : X.mg x = some (.ref f)) (hk : PySem.W.keepIn X.K (.ref f) = true) (hb : Binds X.K fd ps ds) (hd : Vals dvs ds) (hx : Passes CX X E)
    (ha : PA X (e :: es) t) (hdb : (x == ("__debug__" : Str)) = false := by decide) (he : starEach (e :: es) X.env = (false, eval e X.env) :: starEach es X.env := by rfl) (hpl : (backTo pos (starEach es X.env)).any (·.1) = false := by rfl) :
    PE X (.Call (.Name x p) (e :: es) [] pos) (tCall sp dvs E t) := by
  intro pins s σ H Q I h
  refine wpAny_Call_Name_kw (ld_glob I hg hm ?_ hdb)
  refine PySem.W.callWith_K (h₀ := X.base) I.ok.mod.kin hk (thn (ha pos pins s σ H _ I h) fun us s1 ⟨vs, H1, I1, r, q⟩ => ⟨I1.kIn, ?_⟩) he hpl
  exact run_fn F hr hb hd hx I1 r q
/-- o.m(e, ..) -/
theorem pe_meth {pl : Sem Bool} (he : PE X o ta) (c : Cls X.K C) (hm : Meth X.K C m f) (F : FnOk X.prog X.w X.K X.mg X.base CX k f fd ps sp) (hr : Room k X.A) (hb : Binds X.K fd ps ds) (hd : Vals dvs ds) (hx : Passes CX X E) (ha : PA X (e :: es) t)
    (hst : starEach (e :: es) X.env = (false, eval e X.env) :: starEach es X.env := by rfl) (hpl : (backTo pos (starEach es X.env)).any (·.1) = false := by rfl)
    (ht : eval (.Call (.Attribute o m apos) (e :: es) [] pos) X.env = (do
      let ov ← eval o X.env
      standAt apos.atName
      let (f, first) ← holding [ov] (getMethod ov m pl)
      callWith pos f first (backTo pos (starEach (e :: es) X.env)) (backToKw pos (keywordEach [] X.env))) := by rfl) :
    PE X (.Call (.Attribute o m apos) (e :: es) [] pos) (tMeth C m sp dvs E ta t) := by
  intro pins s σ H Q I h
  refine PySem.W.methodCall_KW (pl := pl) (thn (he pins s σ H _ I h) fun u s1 ⟨x, H1, I1, rx, a, dx, fs, ex, ea, l, q⟩ => ?_) ht
  subst ex
  obtain rfl : u = Value.ref a := rx
  refine getmeth_ok I1 ea c hm l ?_
  refine PySem.W.callWith_K (first := [.ref a]) (h₀ := X.base) I.ok.mod.kin hm.kp (thn (ha pos pins s1 σ H1 _ I1 q) fun us s2 ⟨vs, H2, I2, r, q2⟩ => ⟨I2.kIn, ?_⟩) hst hpl
  exact run_fn (us := .ref a :: us) (vs := .ref a :: vs) F hr hb hd hx I2 (.cons rfl r) q2
/-- o.m() -/
theorem pe_meth0 {pl : Sem Bool} (he : PE X o ta) (c : Cls X.K C) (hm : Meth X.K C m f) (F : FnOk X.prog X.w X.K X.mg X.base CX k f fd ps sp) (hr : Room k X.A) (hb : Binds X.K fd ps ds) (hd : Vals dvs ds) (hx : Passes CX X E)
    (ht : eval (.Call (.Attribute o m apos) [] [] pos) X.env = (do
      let ov ← eval o X.env
      standAt apos.atName
      let (f, first) ← holding [ov] (getMethod ov m pl)
      callWith pos f first (backTo pos (starEach [] X.env)) (backToKw pos (keywordEach [] X.env))) := by rfl) :
    PE X (.Call (.Attribute o m apos) [] [] pos) (tMeth C m sp dvs E ta tNil) := by
  intro pins s σ H Q I h
  refine PySem.W.methodCall_KW (pl := pl) (thn (he pins s σ H _ I h) fun u s1 ⟨x, H1, I1, rx, a, dx, fs, ex, ea, l, q⟩ => ?_) ht
  subst ex
  obtain rfl : u = Value.ref a := rx
  refine getmeth_ok I1 ea c hm l ?_
  exact PySem.W.callWith_K0 (first := [.ref a]) I1.kIn hm.kp (run_fn (us := [.ref a]) (vs := [.ref a]) F hr hb hd hx I1 (.cons rfl .nil) q)

/-- what a class must have to be made -/
structure Mk (K : PySem.W.Frag) (C f : Addr) : Prop where
  makes : PySem.W.makesIn K C = true
  init : PySem.W.findIn K (.ref C) "__init__" = some (some (.ref f))
  fn : PySem.W.isFn K (.ref f) = true
  kp : PySem.W.keepIn K (.ref C) = true

end

/-! ### keywords -/
section
variable {X : Cx} {CX : CXT} {k : Nat} {f C : Addr} {fd : FuncData} {ps ks : List Str} {sp : Sp} {E : XK} {x m : Str} {p pos apos kpos : Pos} {e o : Expr} {es : List Expr} {kws : List Keyword} {te ta : TE} {t tk : TA} {nm : Option Str}
/-- how a call with keywords binds: g puts the positional values us and the keywords' values ws (names ks) in the parameters' order, defaults among them -/
structure KBinds (K : PySem.W.Frag) (fd : FuncData) (ps ks : List Str) (g : List Value → List Value → List Value) (gV : List V → List V → List V) : Prop where
  to : ∀ (s : Shared) (us ws : List Value), K.In s.heap → (g us ws).length = ps.length → BindsTo s fd ⟨us, ks.zip ws⟩ (ps.zip (g us ws))
  rel : ∀ {vs : List V} {us : List Value} {zs : List V} {ws : List Value}, Vals vs us → Vals zs ws → Vals (gV vs zs) (g us ws)
variable {g : List Value → List Value → List Value} {gV : List V → List V → List V}
end

/-! ### a def's body keeps its promise -/
/-- names: the parameters first -/
structure FnScope (N P : List Str) (sc : Scope) : Prop where
  kind : sc.kind = .function
  co : sc.isCoroutine = false
  gen : sc.isGenerator = false
  nd : N.Nodup
  pre : N.take P.length = P
  par : ∀ x ∈ P, sc.names.lookup x = some .local ∨ sc.names.lookup x = some .cell
  nofree : ∀ y ∈ sc.names, y.2 ≠ .free

theorem bindL_out {kindOf : Str → Option NameKind} {x : Str} : ∀ {binds : List (Str × Value)} {m : Str → Option Value}, (∀ v, (x, v) ∉ binds) → bindL kindOf binds m x = m x
  | [], _, _ => rfl
  | (n, v) :: r, m, h => by
    unfold bindL
    rw [bindL_out fun w hw => h w (List.mem_cons_of_mem _ hw)]
    split
    · have : x ≠ n := by rintro rfl; exact h v List.mem_cons_self
      simp [this]
    · rfl
theorem bindC_out {kindOf : Str → Option NameKind} {x : Str} : ∀ {binds : List (Str × Value)} {m : Str → Option Value}, (∀ v, (x, v) ∉ binds) → bindC kindOf binds m x = m x
  | [], _, _ => rfl
  | (n, v) :: r, m, h => by
    unfold bindC
    rw [bindC_out fun w hw => h w (List.mem_cons_of_mem _ hw)]
    split
    · rfl
    · have : x ≠ n := by rintro rfl; exact h v List.mem_cons_self
      simp [this]
theorem bindL_get {kindOf : Str → Option NameKind} {x : Str} {v : Value} : ∀ {P : List Str} {vs : List Value} {i : Nat} {m : Str → Option Value}, P.Nodup → P[i]? = some x → vs[i]? = some v → kindOf x = some .local →
    bindL kindOf (P.zip vs) m x = some v
  | [], _, _, _, _, h, _, _ => by simp at h
  | _ :: _, [], _, _, _, _, h, _ => by simp at h
  | p :: P, w :: vs, 0, m, nd, h1, h2, hk => by
    simp at h1 h2; subst h1; subst h2
    show bindL kindOf ((p, w) :: P.zip vs) m p = _
    unfold bindL
    rw [bindL_out fun v hv => (List.nodup_cons.mp nd).1 (List.of_mem_zip hv).1, if_pos hk]
    simp
  | p :: P, w :: vs, i + 1, m, nd, h1, h2, hk => by
    show bindL kindOf ((p, w) :: P.zip vs) m x = _
    unfold bindL
    exact bindL_get (i := i) (List.nodup_cons.mp nd).2 (by simpa using h1) (by simpa using h2) hk
theorem bindC_get {kindOf : Str → Option NameKind} {x : Str} {v : Value} : ∀ {P : List Str} {vs : List Value} {i : Nat} {m : Str → Option Value}, P.Nodup → P[i]? = some x → vs[i]? = some v → kindOf x ≠ some .local →
    bindC kindOf (P.zip vs) m x = some v
  | [], _, _, _, _, h, _, _ => by simp at h
  | _ :: _, [], _, _, _, _, h, _ => by simp at h
  | p :: P, w :: vs, 0, m, nd, h1, h2, hk => by
    simp at h1 h2; subst h1; subst h2
    show bindC kindOf ((p, w) :: P.zip vs) m p = _
    unfold bindC
    rw [bindC_out fun v hv => (List.nodup_cons.mp nd).1 (List.of_mem_zip hv).1, if_neg hk]
    simp
  | p :: P, w :: vs, i + 1, m, nd, h1, h2, hk => by
    show bindC kindOf ((p, w) :: P.zip vs) m x = _
    unfold bindC
    exact bindC_get (i := i) (List.nodup_cons.mp nd).2 (by simpa using h1) (by simpa using h2) hk

/-- the names' values at the entry -/
def start (N : List Str) (vs : List V) : St := vs.map some ++ List.replicate (N.length - vs.length) none

/-- the context of a def's body, at its entry; an exception leaves the frame, then lies as CX says -/
def cxOf (CX : CXT) (P : Program) (w : World) (K : PySem.W.Frag) (mg : Str → Option Value) (base : Heap) (N : List Str) (qual : Str) (scope : Scope) (f : Addr) (cd : Value) (A : Around) (outer : List Env) (s : Shared) (H : Hp) (E : XK) : Cx where
  prog := P
  w := w
  K := K
  mg := mg
  base := base
  A := A.deeper (envOfC qual scope s.heap.objs.size f cd)
  N := N
  s₀ := s
  H₀ := H
  env := envOfC qual scope s.heap.objs.size f cd
  outer := outer
  stack := envOfC qual scope s.heap.objs.size f cd :: outer
  ex := []
  calm := true
  fn := fun _ => true
  pn := []
  xe := fun e s' => wpAny (model P w) (A.deeper (envOfC qual scope s.heap.objs.size f cd)) (leaving (envOfC qual scope s.heap.objs.size f cd) e) (fun _ s'' => CX outer H s E e s'') (fun e' s'' => CX outer H s E e' s'') s'

theorem cell_has {sc : Scope} {n : Nat} {x : Str} (h : sc.names.lookup x = some .cell) : ∃ c, (cellsFrom n sc.names []).lookup x = some c := by
  have q := PySem.W.cellsFrom_some sc.names n [] (.inl h)
  exact Option.isSome_iff_exists.mp q

theorem inv_start {CX : CXT} {P : Program} {w : World} {K : PySem.W.Frag} {mg : Str → Option Value} {base : Heap} {N ps : List Str} {qual : Str} {scope : Scope} {f : Addr} {cd : Value} {A : Around} {outer : List Env} {s s1 : Shared} {H : Hp} {E : XK} {us : List Value} {vs : List V}
    (S : FnScope N ps scope) (hd : A.handled = none) (e0 : Env0 P w K mg base A outer s H) (hl : vs.length = ps.length) (r : Vals vs us)
    (x : InCallC s s.heap.objs.size (bindL (envOfC qual scope s.heap.objs.size f cd).kindOf (ps.zip us) fun _ => none) (cellsFrom (s.heap.objs.size + 1) scope.names []) (bindC (envOfC qual scope s.heap.objs.size f cd).kindOf (ps.zip us) fun _ => none) s1) :
    Inv (cxOf CX P w K mg base N qual scope f cd A outer s H E) [] (start N vs) H s1 := by
  have hpl : ps.length ≤ N.length := by have := congrArg List.length S.pre; rw [List.length_take] at this; omega
  obtain ⟨h1, tk, rfl, hk⟩ := x.done
  have noA : ∀ b : Addr, b ∉ (cxOf CX P w K mg base N qual scope f cd A outer s H E).ex := fun b z => absurd (show b ∈ ([] : List Addr) from z) (by simp)
  refine ⟨⟨e0.mod, S.kind, rfl, rfl, Nat.le_refl _, fun y z c h1 h2 => ?_, fun y hy => ?_, fun y c _ h => ?_, fun _ => hd, Around.frames_deeper e0.frames, .inr ⟨rfl, rfl⟩, fun b z => absurd z (noA b), e0.bs, e0.bsz, fun b _ _ => noA b, fun b z => absurd z (noA b), e0.funs, e0.frf⟩,
    rfl, e0.bare, Un.kept hk, ⟨_, x.toInCall.ns, fun i y v h1 h2 h3 => ?_⟩, fun y c h => ⟨_, x.cell y c h⟩, e0.hok.fresh (Nat.le_refl _), fun y c h => ?_, fun p hp => absurd (show p ∈ ([] : List (Addr × Obj)) from hp) (by simp), e0.hok.kept hk, ?_⟩
  · exact name_of_addr x.apart (PySem.mem_of_lookup h1) (PySem.mem_of_lookup h2)
  · have hy : scope.names.lookup y = some .cell ∨ scope.names.lookup y = some .free := hy
    rcases hy with hy | hy
    · exact cell_has hy
    · exact absurd rfl (S.nofree _ (PySem.mem_of_lookup hy))
  · exact Nat.le_of_lt (x.above y c (PySem.mem_of_lookup h))
  · have hi : i < vs.length := by
      unfold start at h2
      by_cases hi : i < vs.length
      · exact hi
      · rw [List.getElem?_append_right (by simpa using hi)] at h2
        rw [List.getElem?_replicate] at h2
        split at h2 <;> cases h2
    have ha : vs[i]? = some v := by
      unfold start at h2
      rw [List.getElem?_append_left (by simpa using hi), List.getElem?_map] at h2
      cases e : vs[i]? with
      | none => rw [e] at h2; cases h2
      | some a => rw [e] at h2; cases h2; rfl
    obtain ⟨u, hu, rv⟩ := r.get ha
    have hp : ps[i]? = some y := by
      rw [← S.pre, List.getElem?_take_of_lt (by omega)]; exact h1
    have ndP : ps.Nodup := by rw [← S.pre]; exact S.nd.sublist (List.take_sublist _ _)
    refine ⟨u, rv, ?_⟩
    rcases S.par y (List.mem_of_getElem? hp) with k | k
    · exact .inl ⟨k, bindL_get ndP hp hu k⟩
    · obtain ⟨c, e⟩ := cell_has (n := s.heap.objs.size + 1) k
      refine .inr ⟨.inl k, c, e, ?_⟩
      have q := x.cell y c e
      rw [bindC_get ndP hp hu (by show scope.names.lookup y ≠ _; rw [k]; decide)] at q
      exact q
  · exact e0.hok.fresh (Nat.le_of_lt (x.above y c (PySem.mem_of_lookup h)))
  · unfold start
    show _ = N.length
    rw [List.length_append, List.length_map, List.length_replicate]
    omega

/-- THE RULE: a def (or a method) of the text, by its body. The body's reading t is chosen for each entry; it is run at the parameters' values -/
theorem fn_of {CX : CXT} {P : Program} {w : World} {K : PySem.W.Frag} {mg : Str → Option Value} {base : Heap} {k : Nat} {f : Addr} {name qual : Str} {params : Arguments} {body : List Stmt} {scope : Scope} {dV kV doc pm cdv ct oc : Value} {an od : Option Addr}
    {osl : Array (Option Value)} {N ps : List Str} {sp : Sp} (lk : K.lookup f = some ⟨oc, od, .func (PySem.W.fnOf name qual params body scope dV kV doc pm an cdv ct), osl⟩) (hcd : PySem.W.codeIn K cdv qual = true) (S : FnScope N ps scope)
    (len : ∀ vs H Q E, sp vs H Q E → vs.length = ps.length)
    (hbody : ∀ (A : Around) (outer : List Env) (s : Shared) (H : Hp) (vs : List V) (Q : VK) (E : XK), Room k (A.deeper (envOfC qual scope s.heap.objs.size f cdv)) → sp vs H Q E →
      ∃ t, PSs (cxOf CX P w K mg base N qual scope f cdv A outer s H E) body t ∧ t { nx := fun _ H' => Q .non H', rt := Q } (start N vs) H) :
    FnOk P w K mg base CX (k + 1) f (PySem.W.fnOf name qual params body scope dV kV doc pm an cdv ct) ps sp := by
  refine ⟨len, fun A outer s H args us vs Q E hr e0 hb r hsp => ?_⟩
  have hl := len _ _ _ _ hsp
  have KX : K.In s.heap := e0.mod.kin.keeps fun b o e => (e0.bs b o e).1
  have lim : s.heap.NoLimit := e0.mod.nolimit.keeps fun b o e => (e0.bs b o e).1
  have hkind : ∀ y ∈ ps.zip us, scope.names.lookup y.1 = some .local ∨ (scope.names.lookup y.1 = some .cell ∧ ((cellsFrom (s.heap.objs.size + 1) scope.names []).lookup y.1).isSome = true) := fun ⟨n, v⟩ hy => by
    rcases S.par n (List.of_mem_zip hy).1 with q | q
    · exact .inl q
    · exact .inr ⟨q, PySem.W.cellsFrom_some _ _ _ (.inl q)⟩
  refine codeAny_call_function hr.depth (KX _ _ lk) rfl S.co S.gen rfl (PySem.W.codeRec_of KX hcd) (hb _ _ _ _ ?_)
  refine wpAny_newFunctionEnv_cells S.kind hkind fun env he s1 x => ?_
  subst he
  refine ⟨lim.keeps x.toInCall.keep, codeAny_func ?_⟩
  obtain ⟨t, ht, hq⟩ := hbody A outer s H vs Q E (hr.deeper _) hsp
  have I : Inv (cxOf CX P w K mg base N qual scope f cdv A outer s H E) [] (start N vs) H s1 := inv_start S hr.hd e0 hl r x
  refine wpAny_mono (ht [] s1 (start N vs) H _ I hq) (fun fl s' hs => ?_) fun e s' hs => hs
  have fin : ∀ {σ' : St} {H' : Hp} {v : V} {u : Value}, Inv (cxOf CX P w K mg base N qual scope f cdv A outer s H E) [] σ' H' s' → RelV v u → Q v H' → CE outer P w H s Q u s' :=
    fun {σ' H' v u} J rv q => ⟨v, H', J.os, J.bare, J.base, J.hok, rv, q⟩
  cases fl with
  | ret u =>
    obtain ⟨v, σ', H', J, rv, q⟩ := hs
    exact fin J rv q
  | next =>
    obtain ⟨σ', H', J, q⟩ := hs
    exact fin (v := V.non) (u := Value.none) J rfl q
  | brk =>
    obtain ⟨_, _, _, q⟩ := hs
    exact False.elim q
  | cont =>
    obtain ⟨_, _, _, q⟩ := hs
    exact False.elim q
end L2

namespace L2
open PySem PySem.Spec PyProof.Rows
section
variable {X : Cx} {x : Str} {p pos : Pos} {e : Expr} {es : List Expr} {t : TA} {id T : String} {r : List V → Hp → VK → Prop}

def tCB (r : List V → Hp → VK → Prop) (t : TA) : TE := fun σ H Q => t σ H fun vs H1 => r vs H1 Q
/-- f(e, ..), f a built-in function -/
theorem pe_callB (hc : CallR X (.builtin id) r) (hg : Gl X x) (hm : X.mg x = none) (hv : bootBuiltins x = some (.builtin id)) (ha : PA X (e :: es) t) (hn : x ≠ "__name__" := by decide) (hdb : (x == ("__debug__" : Str)) = false := by decide)
    (he : starEach (e :: es) X.env = (false, eval e X.env) :: starEach es X.env := by rfl) (hpl : (backTo pos (starEach es X.env)).any (·.1) = false := by rfl) : PE X (.Call (.Name x p) (e :: es) [] pos) (tCB r t) := by
  intro pins s σ H Q I h
  refine wpAny_Call_Name_kw (ld_blt I hg hm hv ?_ hn hdb)
  exact PyProof.Rows.callWith_builtin1 (thn (ha pos pins s σ H _ I h) fun us s1 ⟨vs, H1, I1, r1, q1⟩ => hc pins s1 σ H1 vs us Q I1 r1 q1) he hpl
/-- T(e, ..), T a built-in type -/
theorem pe_callTy (hc : CallR X (.type T) r) (hg : Gl X x) (hm : X.mg x = none) (hv : bootBuiltins x = some (.type T)) (ha : PA X (e :: es) t) (hn : x ≠ "__name__" := by decide) (hdb : (x == ("__debug__" : Str)) = false := by decide)
    (he : starEach (e :: es) X.env = (false, eval e X.env) :: starEach es X.env := by rfl) (hpl : (backTo pos (starEach es X.env)).any (·.1) = false := by rfl) : PE X (.Call (.Name x p) (e :: es) [] pos) (tCB r t) := by
  intro pins s σ H Q I h
  refine wpAny_Call_Name_kw (ld_blt I hg hm hv ?_ hn hdb)
  exact PyProof.Rows.callWith_type1 (thn (ha pos pins s σ H _ I h) fun us s1 ⟨vs, H1, I1, r1, q1⟩ => hc pins s1 σ H1 vs us Q I1 r1 q1) he hpl
end
end L2

namespace HT
open PySem PyProof.Rows

/-- t < u of tuples of ints -/
def lexLt : List Int → List Int → Bool
  | [], [] => false
  | [], _ :: _ => true
  | _ :: _, [] => false
  | x :: xs, y :: ys => if x = y then lexLt xs ys else decide (x < y)
section
open PySem.SeqAt
open PySem.AutoSeq1 (wpAny_loadPart')
open PySem.MeetsSeq PySem.MeetsSeq2 PySem.MeetsSeq3

end

section
variable {prog : Program} {w : World} {A : Around} {E : Value → Shared → Prop} {s : Shared}

/-- t + u, t not empty -/
theorem cat_tup {t b : Addr} {vs ws : List Value} {Q : Value → Shared → Prop} (ht : IsTup s.heap t vs.toArray) (hb : IsTup s.heap b ws.toArray) (hv : vs ≠ [])
    (h1 : ws = [] → Q (.ref t) s) (h2 : ws ≠ [] → Q (.ref s.heap.objs.size) { s with heap := s.heap.push { cls := .type "tuple", data := .seq (vs ++ ws).toArray } })
    (hsz : vs.length + ws.length ≤ sizeLine) : wpAny (model prog w) A (binaryOp .Add (.ref t) (.ref b)) Q E s := by
  obtain ⟨⟨cls, dd, data, sl⟩, ho, hc, n, hd⟩ := id ht
  obtain ⟨⟨cls2, dd2, data2, sl2⟩, ho2, hc2, n2, hd2⟩ := id hb
  simp only at hc hd hc2 hd2
  subst hc hd hc2 hd2
  have e : vs.toArray ++ ws.toArray = (vs ++ ws).toArray := by simp
  by_cases hw : ws = []
  · exact concat_meets ⟨_, ho, rfl⟩ ⟨_, ho2, rfl⟩ noFill_tuple_add seq_tuple_add PySem.F.slot_tuple_add PySem.F.entry_tuple_add (PySem.F.args_tuple_add_2 _ _)
      (tuple_addW1 t b vs.toArray ws.toArray n n2 dd dd2 sl sl2 (by simpa using hv) (by simp [hw])) ⟨ho, ho2, h1 hw⟩
  · refine concat_meets ⟨_, ho, rfl⟩ ⟨_, ho2, rfl⟩ noFill_tuple_add seq_tuple_add PySem.F.slot_tuple_add PySem.F.entry_tuple_add (PySem.F.args_tuple_add_2 _ _)
      (tuple_addW2 t b vs.toArray ws.toArray n n2 dd dd2 sl sl2 (by simpa using hv) (by simpa using hw) (by rw [List.size_toArray, List.size_toArray]; exact hsz)) ⟨ho, ho2, ?_⟩
    rw [e]
    exact h2 hw

/-! ### t[a:b], not the whole -/
/-- a slice's bound as a place among n (d where it is left out) -/
def sIx (n d : Nat) : Option Int → Nat
  | none => d
  | some v => if v < 0 then (v + (n : Int)).toNat else min v.toNat n
theorem sIx_none (n d : Nat) : sIx n d none = d := rfl
theorem sIx_nat (n d k : Nat) : sIx n d (some (k : Int)) = min k n := by
  show (if (k : Int) < 0 then ((k : Int) + (n : Int)).toNat else min (k : Int).toNat n) = min k n
  rw [if_neg (by omega), Int.toNat_natCast]
end
end HT

namespace L2
open PySem PySem.Spec PyProof.Rows

/-! ### the parts of a slice -/
abbrev TO := St → Hp → (Option Int → Hp → Prop) → Prop
/-- a slice's part (left out, or an int) -/
def PO (X : Cx) (e : Option Expr) (t : TO) : Prop :=
  ∀ (pins : List (Addr × Obj)) (s : Shared) (σ : St) (H : Hp) (Q : Option Int → Hp → Prop), Inv X pins σ H s → t σ H Q →
    wpAny (model X.prog X.w) X.A (evalPart e X.env) (fun u s' => ∃ o H', Inv X pins σ H' s' ∧ IsPart u o ∧ Q o H') X.xe s
def tNoPart : TO := fun _ H Q => Q none H
def tPart (t : TE) : TO := fun σ H Q => t σ H fun x H1 => ∃ i, x = .int i ∧ Q (some i) H1

section
variable {X : Cx} {e : Expr} {te : TE} {lo hi : Option Expr} {tl th : TO} {pos p2 : Pos}

theorem po_none : PO X none tNoPart := by
  intro pins s σ H Q I h
  rw [evalPart_none]
  exact wpAny_pure ⟨none, H, I, .none, h⟩
theorem po_some (h : PE X e te) : PO X (some e) (tPart te) := by
  intro pins s σ H Q I hw
  rw [evalPart_some]
  refine thn (h pins s σ H _ I hw) fun u s1 ⟨x, H1, I1, r1, q1⟩ => ?_
  obtain ⟨i, rfl, q⟩ := q1
  obtain ⟨t, rfl⟩ := r1
  exact ⟨some i, H1, I1, .int i t, q⟩

/-- what a slice of a value is, by values: the slice object stands at sl -/
def SlR (X : Cx) (r : V → Option Int → Option Int → Hp → VK → Prop) : Prop :=
  ∀ (pins : List (Addr × Obj)) (s : Shared) (σ : St) (H : Hp) (x : V) (v vl vu : Value) (lo hi : Option Int) (sl : Addr) (Q : VK), Inv X pins σ H s → RelV x v → s.heap.IsSliceOf sl vl vu .none → IsPart vl lo → IsPart vu hi → r x lo hi H Q →
    ∃ T id, typeLookup (.type T) "__getitem__" = pure (some (.builtin id)) ∧ s.TypeIs v T ∧ wpAny (model X.prog X.w) X.A (getItem v (.ref sl)) (EP X pins σ Q) X.xe s
def tSl (r : V → Option Int → Option Int → Hp → VK → Prop) (te : TE) (tl th : TO) : TE := fun σ H Q => te σ H fun x H1 => tl σ H1 fun l H2 => th σ H2 fun u H3 => r x l u H3 Q
/-- a[lo:hi], any a -/
theorem pe_slice {r : V → Option Int → Option Int → Hp → VK → Prop} (hr : SlR X r) (he : PE X e te) (hl : PO X lo tl) (hu : PO X hi th) : PE X (.Subscript e (.Slice lo hi none p2) pos) (tSl r te tl th) := by
  intro pins s σ H Q I h
  refine Subscript_ (thn (he pins s σ H _ I h) fun v s1 ⟨x, H1, I1, r1, q1⟩ => ?_)
  refine wpAny_Slice (thn (hl pins s1 σ H1 _ I1 q1) fun vl s2 ⟨l, H2, I2, pl, q2⟩ => thn (hu pins s2 σ H2 _ I2 q2) fun vu s3 ⟨u, H3, I3, pu, q3⟩ => ?_)
  rw [evalPart_none]
  refine wpAny_pure ?_
  have I4 : Inv X pins σ H3 { s3 with heap := s3.heap.push { cls := .type "slice", data := .fields #[vl, vu, .none] } } := I3.kept (t' := s3.toks) fun b ob q => Heap.get?_push_of_some _ q
  obtain ⟨T, id, hT, ht, hg⟩ := hr pins { s3 with heap := s3.heap.push { cls := .type "slice", data := .fields #[vl, vu, .none] } } σ H3 x v vl vu l u s3.heap.objs.size Q I4 r1 (Heap.IsSliceOf.new ..) pl pu q3
  show wpAny (model X.prog X.w) X.A (subscriptTail e (.Slice lo hi none p2) v (.ref s3.heap.objs.size)) (EP X pins σ Q) X.xe { s3 with heap := s3.heap.push { cls := .type "slice", data := .fields #[vl, vu, .none] } }
  exact tail_any (ops := [.ref s3.heap.objs.size, v]) ht hT hg (by with_unfolding_all rfl)

/-- the items of xs[lo:hi] -/
def cutV (xs : List V) (lo hi : Option Int) : List V := (xs.drop (HT.sIx xs.length 0 lo)).take (HT.sIx xs.length xs.length hi - HT.sIx xs.length 0 lo)
theorem cutV_length (xs : List V) (lo hi : Option Int) : (cutV xs lo hi).length ≤ xs.length := by
  unfold cutV
  rw [List.length_take, List.length_drop]
  omega
/-! ### t < u, t + u -/
end
end L2

namespace L2
open PySem PySem.Spec PyProof.Rows

/-! ### places -/
/-- the place that an index of any sign means -/
def ixN (n : Nat) (i : Int) : Option Nat := if 0 ≤ i then (if i < n then some i.toNat else none) else if -(n : Int) ≤ i then some (i + n).toNat else none
def atI {α : Type} (xs : List α) (i : Int) : Option α := (ixN xs.length i).bind fun j => xs[j]?
theorem ixN_seq {n : Nat} {i : Int} {j : Nat} (h : ixN n i = some j) : seqIndex? i n = some j ∧ j < n ∧ -(n : Int) ≤ i ∧ i < n := by
  unfold ixN at h
  by_cases h0 : 0 ≤ i
  · rw [if_pos h0] at h
    by_cases h1 : i < n
    · rw [if_pos h1] at h
      have e : i.toNat = j := Option.some.inj h
      exact ⟨by rw [seqIndex_of h0 h1, e], by omega, by omega, h1⟩
    · rw [if_neg h1] at h; cases h
  · rw [if_neg h0] at h
    by_cases h1 : -(n : Int) ≤ i
    · rw [if_pos h1] at h
      have e : (i + n).toNat = j := Option.some.inj h
      exact ⟨by rw [seqIndex_neg (by omega) h1, e], by omega, h1, by omega⟩
    · rw [if_neg h1] at h; cases h
theorem atI_get {α : Type} {xs : List α} {i : Int} {v : α} (h : atI xs i = some v) : ∃ j, seqIndex? i xs.length = some j ∧ xs[j]? = some v ∧ j < xs.length ∧ -(xs.length : Int) ≤ i ∧ i < xs.length := by
  unfold atI at h
  cases e : ixN xs.length i with
  | none => rw [e] at h; cases h
  | some j =>
    rw [e] at h
    obtain ⟨h1, h2, h3, h4⟩ := ixN_seq e
    exact ⟨j, h1, h, h2, h3, h4⟩
theorem atI_nat {α : Type} {xs : List α} {j : Nat} {v : α} (h : xs[j]? = some v) : atI xs (j : Int) = some v := by
  have hj : j < xs.length := (List.getElem?_eq_some_iff.mp h).1
  have e : ixN xs.length (j : Int) = some j := by
    unfold ixN
    rw [if_pos (by omega), if_pos (by omega)]; simp
  unfold atI; rw [e]; exact h
/-! ### what may be subscripted -/
/-- what stands as an index of a plain subscript -/
def PlainIx (b : Expr) : Prop := ∀ o i, subscripted b false o i = operate [o, i] (getItem o i)
/-- a subscript by values -/
def IxR (X : Cx) (r : R2) : Prop :=
  ∀ (value slice : Expr) (pins : List (Addr × Obj)) (s : Shared) (σ : St) (H : Hp) (x y : V) (v u : Value) (Q : VK), Inv X pins σ H s → RelV x v → RelV y u → r x y H Q →
    subscripted slice false v u = operate [v, u] (getItem v u) → wpAny (model X.prog X.w) X.A (subscriptTail value slice v u) (EP X pins σ Q) X.xe s
/-- a call of a builtin's method by values: the receiver, the arguments -/
def MtR (X : Cx) (id : String) (r : V → List V → Hp → VK → Prop) : Prop :=
  ∀ (pins : List (Addr × Obj)) (s : Shared) (σ : St) (H : Hp) (x : V) (xs : List V) (v : Value) (us : List Value) (Q : VK), Inv X pins σ H s → RelV x v → Vals xs us → r x xs H Q →
    wpAny (model X.prog X.w) X.A (call (.builtin id) (v :: us)) (EP X pins σ Q) X.xe s
section
variable {X : Cx} {a b : Expr} {ta tb : TE} {pos : Pos}
/-- a[b] -/
theorem pe_ix {r : R2} (hr : IxR X r) (ha : PE X a ta) (hb : PE X b tb) (hs : PlainIx b) : PE X (.Subscript a b pos) (tOp r ta tb) := by
  intro pins s σ H Q I h
  exact Subscript_ (binT ha hb I h fun v u s2 x y H2 I2 rx ry q => hr a b pins s2 σ H2 x y v u Q I2 rx ry q (hs _ _))

def rIxL (K : PySem.W.Frag) : R2 := fun x y H Q => ∃ p xs i v, x = .ref p ∧ y = .int i ∧ SqL K H p xs ∧ atI xs i = some v ∧ Q v H
def rIxT (K : PySem.W.Frag) : R2 := fun x y H Q => ∃ p xs i v, x = .ref p ∧ y = .int i ∧ SqT K H p xs ∧ atI xs i = some v ∧ Q v H
theorem ix_list : IxR X (rIxL X.K) := by
  intro value slice pins s σ H x y v u Q I rx ry h hs
  obtain ⟨p, xs, i, z, rfl, rfl, hq, he, q⟩ := h
  cases rx
  obtain ⟨t, rfl⟩ := ry
  obtain ⟨its, r, pl, hz⟩ := I.list hq
  obtain ⟨j, h1, h2, h3, h4, h5⟩ := atI_get he
  obtain ⟨w, ew, rw'⟩ := r.get h2
  have hl := r.length
  have hn := line63
  have fin : EP X pins σ Q w s := ⟨z, H, I, rw', q⟩
  by_cases h0 : 0 ≤ i
  · have hj : i.toNat = j := by
      rw [seqIndex_of h0 h5] at h1
      exact Option.some.inj h1
    exact item_listR pl.isList h0 (by omega) (by rw [hj]; simpa using ew) fin hs
  · have hj : (i + (its.toArray.size : Int)).toNat = j := by
      rw [seqIndex_neg (by omega) h4] at h1
      rw [List.size_toArray, ← hl]
      exact Option.some.inj h1
    exact subscriptTail_builtinR (x := w) pl.isList.typeIs slot_list_getitem.lookup
      (wpAny_getItem_list_neg (Q := fun r s' => r = w ∧ EP X pins σ Q r s') pl.isList (by omega) (by rw [List.size_toArray] <;> omega) (by omega) (by rw [hj]; simpa using ew) ⟨rfl, fin⟩) hs
theorem ix_tup : IxR X (rIxT X.K) := by
  intro value slice pins s σ H x y v u Q I rx ry h hs
  obtain ⟨p, xs, i, z, rfl, rfl, hq, he, q⟩ := h
  cases rx
  obtain ⟨t, rfl⟩ := ry
  obtain ⟨its, r, pl, hz⟩ := I.tuple hq
  obtain ⟨j, h1, h2, h3, h4, h5⟩ := atI_get he
  obtain ⟨w, ew, rw'⟩ := r.get h2
  have hl := r.length
  have hn := line63
  have fin : EP X pins σ Q w s := ⟨z, H, I, rw', q⟩
  exact subscriptTail_builtinR (x := w) pl.typeIs slot_tuple_getitem.lookup
    (getItem_tuple (j := j) (Q := fun r s' => r = w ∧ EP X pins σ Q r s') pl (by omega) (by omega) (by rw [List.size_toArray, ← hl]; exact h1) (by simpa using ew) ⟨rfl, fin⟩) hs
/-! ### xs[i] = v, any sign -/
/-- the list's object behind a store -/
theorem mapSeq_set (its : List Value) (n j : Nat) (u : Value) : Obj.mapSeq (·.setIfInBounds j u) { cls := .type "list", data := .seq its.toArray n } = { cls := .type "list", data := .seq (its.set j u).toArray n } := by
  simp [Obj.mapSeq]
theorem Inv.lst {pins : List (Addr × Obj)} {σ : St} {H : Hp} {s : Shared} {p : Addr} {xs : List V} (I : Inv X pins σ H s) (h : H p = some (.lst xs)) :
    ∃ (its : List Value) (n : Nat), Vals xs its ∧ s.heap.get? p = some { cls := .type "list", data := .seq its.toArray n } ∧ xs.length ≤ sizeLine := by
  obtain ⟨z, its, n, r, e⟩ := I.hok p _ h
  exact ⟨its, n, r, e, z⟩
/-- the list at p is written by an update of its object -/
theorem Inv.lstUpd {pins : List (Addr × Obj)} {σ : St} {H : Hp} {s : Shared} {p : Addr} {xs ys : List V} {its its' : List Value} {n n' : Nat} {f : Obj → Obj} (I : Inv X pins σ H s) (h : H p = some (.lst xs))
    (ho : s.heap.get? p = some { cls := .type "list", data := .seq its.toArray n }) (hf : f { cls := .type "list", data := .seq its.toArray n } = { cls := .type "list", data := .seq its'.toArray n' }) (r : Vals ys its') (hz : ys.length ≤ sizeLine) (t : Nat) :
    Inv X pins σ (upd H p (.lst ys)) { s with heap := s.heap.update p f, toks := t } := by
  have e : (s.heap.update p f).get? p = some { cls := .type "list", data := .seq its'.toArray n' } := by
    rw [Heap.get?_update_self f ho (by rw [hf] <;> rfl), hf]
  refine I.write (x := p) (e := p) (by rw [h]; trivial) (.inl rfl) (fun b u hb q => (Heap.get?_update_other _ _ (Ne.symm hb)).trans q) ⟨_, e⟩ ?_
  exact ⟨hz, its', n', r, e⟩
def rSetL : V → V → V → Hp → (Hp → Prop) → Prop := fun o i v H Q => ∃ p xs k j, o = .ref p ∧ i = .int k ∧ H p = some (.lst xs) ∧ ixN xs.length k = some j ∧ Q (upd H p (.lst (xs.set j v)))
theorem set_list : PSet X rSetL := by
  intro pins s σ H o i v ov iv u Q I ro ri rv h
  obtain ⟨p, xs, k, j, rfl, rfl, hp, hj, q⟩ := h
  cases ro
  obtain ⟨t, rfl⟩ := ri
  obtain ⟨its, n, r, ho, hz⟩ := I.lst hp
  obtain ⟨h1, h2, h3, h4⟩ := ixN_seq hj
  have hl := r.length
  have hn := line63
  have I' : Inv X pins σ (upd H p (.lst (xs.set j v))) { s with heap := s.heap.update p (Obj.mapSeq (·.setIfInBounds j u)) } :=
    I.lstUpd hp ho (mapSeq_set its n j u) (r.set rv j) (by rw [List.length_set]; exact hz) s.toks
  by_cases h0 : 0 ≤ k
  · have hk : k.toNat = j := by
      rw [seqIndex_of h0 h4] at h1
      exact Option.some.inj h1
    exact PySem.W.ki_setAt ho h0 (by omega) (by rw [List.size_toArray, ← hl]; exact h4) (by rw [hk]; exact ⟨_, I', q⟩)
  · have hk : (k + (its.toArray.size : Int)).toNat = j := by
      rw [seqIndex_neg (by omega) h3] at h1
      rw [List.size_toArray, ← hl]
      exact Option.some.inj h1
    exact PySem.W.ki_setBack ho (by omega) (by rw [List.size_toArray, ← hl]; exact h3) (by omega) (by rw [hk]; exact ⟨_, I', q⟩)

/-! ### slices -/
theorem slice_bounds (lo hi : Option Int) (n : Nat) : (sliceBounds lo hi none n).1 = ((HT.sIx n 0 lo : Nat) : Int) ∧ (sliceBounds lo hi none n).2.1 = ((HT.sIx n n hi : Nat) : Int) ∧ (sliceBounds lo hi none n).2.2 = 1 := by
  refine ⟨?_, ?_, rfl⟩
  · cases lo with
    | none => simp [sliceBounds, HT.sIx]
    | some i =>
      simp only [sliceBounds, HT.sIx, Option.getD_none, show (1 : Int) > 0 by decide, if_true]
      by_cases h : i < 0
      · simp only [h, if_true] <;> omega
      · simp only [h, if_false] <;> omega
  · cases hi with
    | none => simp [sliceBounds, HT.sIx]
    | some i =>
      simp only [sliceBounds, HT.sIx, Option.getD_none, show (1 : Int) > 0 by decide, if_true]
      by_cases h : i < 0
      · simp only [h, if_true] <;> omega
      · simp only [h, if_false] <;> omega
theorem slicePick_cut (its : List Value) (lo hi : Option Int) : slicePick its.toArray lo hi none = ((its.drop (HT.sIx its.length 0 lo)).take (HT.sIx its.length its.length hi - HT.sIx its.length 0 lo)).toArray := by
  obtain ⟨h1, h2, h3⟩ := slice_bounds lo hi its.toArray.size
  unfold slicePick
  rw [h1, h2, h3]
  simp only [sliceRange_one, pick_run, List.size_toArray] <;> rfl
/-- xs[lo:hi] of a list: a new list -/
def rSlL (K : PySem.W.Frag) : V → Option Int → Option Int → Hp → VK → Prop := fun x lo hi H Q => ∃ a xs, x = .ref a ∧ SqL K H a xs ∧ ∀ p, H p = none → Q (.ref p) (upd H p (.lst (cutV xs lo hi)))
theorem sl_list : SlR X (rSlL X.K) := by
  intro pins s σ H x v vl vu lo hi sl Q I rx hs pl pu h
  obtain ⟨a, xs, rfl, hx, q⟩ := h
  cases rx
  obtain ⟨its, r, ht, hz⟩ := I.list hx
  have hlen := r.length
  refine ⟨"list", _, slot_list_getitem.lookup, ht.isList.typeIs, ?_⟩
  refine wpAny_getItem_list_slice ht.isList hs pl pu .none (by simp) ?_ (by rw [List.size_toArray] <;> omega)
  rw [slicePick_cut, ← hlen]
  refine ⟨.ref s.heap.objs.size, _, I.laid (t' := s.toks) (o := .lst (cutV xs lo hi)) (fun b ob q => Heap.get?_push_of_some _ q) (Nat.le_refl _) ?_, rfl, q _ (I.hok.fresh (Nat.le_refl _))⟩
  exact ⟨Nat.le_trans (cutV_length xs lo hi) hz, _, 0, (r.drop (HT.sIx xs.length 0 lo)).take (HT.sIx xs.length xs.length hi - HT.sIx xs.length 0 lo), Heap.get?_push_size _ rfl⟩

/-! ### in, not in: flat items -/
def flatV : V → Bool
  | .non => true
  | .bl _ => true
  | .int _ => true
  | .str _ => true
  | _ => false
/-- == of flat values -/
def eqV : V → V → Bool
  | .non, .non => true
  | .bl a, .bl b => a == b
  | .bl a, .int b => (if a then 1 else 0) == b
  | .int a, .bl b => a == (if b then 1 else 0)
  | .int a, .int b => a == b
  | .str a, .str b => a == b
  | _, _ => false
theorem eqAt_V {A : Around} {s : Shared} {y x : V} {u v : Value} (ry : RelV y u) (rx : RelV x v) (fy : flatV y = true) (fx : flatV x = true) : SeqAt.EqAt A s u v (eqV y x) := by
  cases y with
  | non =>
    cases ry
    cases x with
    | non => cases rx; exact SeqAt.EqAt.same _
    | bl b => cases rx; exact SeqAt.EqAt.none_bool b
    | int b => obtain ⟨t, rfl⟩ := rx; exact SeqAt.EqAt.none_int b t
    | str b => obtain ⟨t, rfl⟩ := rx; exact SeqAt.EqAt.none_str b t
    | _ => exact absurd (show false = true from fx) Bool.false_ne_true
  | bl a =>
    cases ry
    cases x with
    | non => cases rx; exact SeqAt.EqAt.bool_none a
    | bl b => cases rx; exact SeqAt.EqAt.bool_bool a b
    | int b => obtain ⟨t, rfl⟩ := rx; exact SeqAt.EqAt.bool_int a b t
    | str b => obtain ⟨t, rfl⟩ := rx; exact SeqAt.EqAt.bool_str a b t
    | _ => exact absurd (show false = true from fx) Bool.false_ne_true
  | int a =>
    obtain ⟨t', rfl⟩ := ry
    cases x with
    | non => cases rx; exact SeqAt.EqAt.int_none a t'
    | bl b => cases rx; exact SeqAt.EqAt.int_bool a t' b
    | int b => obtain ⟨t, rfl⟩ := rx; exact SeqAt.EqAt.int_int a t' b t
    | str b => obtain ⟨t, rfl⟩ := rx; exact SeqAt.EqAt.int_str a t' b t
    | _ => exact absurd (show false = true from fx) Bool.false_ne_true
  | str a =>
    obtain ⟨t', rfl⟩ := ry
    cases x with
    | non => cases rx; exact SeqAt.EqAt.str_none a t'
    | bl b => cases rx; exact SeqAt.EqAt.str_bool a t' b
    | int b => obtain ⟨t, rfl⟩ := rx; exact SeqAt.EqAt.str_int a t' b t
    | str b => obtain ⟨t, rfl⟩ := rx; exact SeqAt.EqAt.str_str a t' b t
    | _ => exact absurd (show false = true from fx) Bool.false_ne_true
  | _ => exact absurd (show false = true from fy) Bool.false_ne_true
/-- the items' answers, read off the values (a value's own answer does not lean on its token) -/
def eqU (x : V) (u : Value) : Bool := match u with
  | .none => eqV .non x
  | .bool b => eqV (.bl b) x
  | .int i _ => eqV (.int i) x
  | .str z _ => eqV (.str z) x
  | _ => false
theorem eqU_of {x y : V} {u : Value} (r : RelV y u) (f : flatV y = true) : eqU x u = eqV y x := by
  cases y with
  | non => cases r; rfl
  | bl b => cases r; rfl
  | int i => obtain ⟨t, rfl⟩ := r; rfl
  | str z => obtain ⟨t, rfl⟩ := r; rfl
  | _ => exact absurd (show false = true from f) Bool.false_ne_true
theorem any_eqU {x : V} : ∀ {xs : List V} {us : List Value}, Vals xs us → xs.all flatV = true → us.any (eqU x) = xs.any fun y => eqV y x
  | _, _, .nil, _ => rfl
  | y :: xs, u :: us, .cons r t, f => by
    rw [List.all_cons, Bool.and_eq_true] at f
    rw [List.any_cons, List.any_cons, eqU_of r f.1, any_eqU t f.2]
theorem mem_eqAt {A : Around} {s : Shared} {x : V} {v : Value} (rx : RelV x v) (fx : flatV x = true) : ∀ {xs : List V} {us : List Value}, Vals xs us → xs.all flatV = true → ∀ u ∈ us, SeqAt.EqAt A s u v (eqU x u)
  | _, _, .nil, _ => fun u hu => by cases hu
  | y :: xs, u :: us, .cons r t, f => fun u' hu => by
    rw [List.all_cons, Bool.and_eq_true] at f
    rcases List.mem_cons.mp hu with rfl | hu
    · rw [eqU_of r f.1]; exact eqAt_V r rx f.1 fx
    · exact mem_eqAt rx fx t f.2 u' hu
def inV (x : V) (xs : List V) : Bool := xs.any fun y => eqV y x
/-- x in a list or tuple of flat items -/
def rIn (K : PySem.W.Frag) (neg : Bool) : R2 := fun x y H Q => ∃ p xs, y = .ref p ∧ (SqL K H p xs ∨ SqT K H p xs) ∧ flatV x = true ∧ xs.all flatV = true ∧ Q (.bl (if neg then !inV x xs else inV x xs)) H
theorem op_notIn_seq : OpR X (compareOp .NotIn) (rIn X.K true) := by
  intro pins s σ H x y v u Q I rx ry h
  obtain ⟨p, xs, rfl, hq, fx, fs, q⟩ := h
  cases ry
  rcases hq with hq | hq
  · obtain ⟨its, r, pl, hz⟩ := I.list hq
    refine SeqAt.notIn_listAt (eqU x) pl.isList (fun w hw => mem_eqAt rx fx r fs w (by simpa using hw)) ⟨.bl _, H, I, rfl, ?_⟩
    rw [show its.toArray.any (eqU x) = its.any (eqU x) by simp, any_eqU r fs]
    exact q
  · obtain ⟨its, r, pl, hz⟩ := I.tuple hq
    refine SeqAt.notIn_tupleAt (eqU x) pl (fun w hw => mem_eqAt rx fx r fs w (by simpa using hw)) ⟨.bl _, H, I, rfl, ?_⟩
    rw [show its.toArray.any (eqU x) = its.any (eqU x) by simp, any_eqU r fs]
    exact q
/-! ### len, list(x), tuple(x) of any list or tuple that is read -/
theorem call_len_seq : CallR X (.builtin "len") (fun xs H Q => ∃ p ys, xs = [.ref p] ∧ (SqL X.K H p ys ∨ SqT X.K H p ys) ∧ Q (.int ys.length) H) := by
  intro pins s σ H xs us Q I r h
  obtain ⟨p, ys, rfl, hq, q⟩ := h
  obtain ⟨u, rfl, rx⟩ := vals1 r
  cases rx
  have hn := line63
  rcases hq with hq | hq
  · obtain ⟨its, r', pl, hz⟩ := I.list hq
    have hlen := r'.length
    exact Calls.call_len_list pl.isList (by simp only [List.size_toArray] <;> omega) ⟨.int ys.length, H, I.tok _, ⟨s.toks + 1, by rw [List.size_toArray, hlen]⟩, q⟩
  · obtain ⟨its, r', pl, hz⟩ := I.tuple hq
    have hlen := r'.length
    exact len_tuple pl (by simp only [List.size_toArray] <;> omega) ⟨.int ys.length, H, I.tok _, ⟨s.toks + 1, by rw [List.size_toArray, hlen]⟩, q⟩
theorem call_list_of : CallR X (.type "list") (fun xs H Q => ∃ p ys, xs = [.ref p] ∧ (SqL X.K H p ys ∨ SqT X.K H p ys) ∧ ∀ l, H l = none → Q (.ref l) (upd H l (.lst ys))) := by
  intro pins s σ H xs us Q I r h
  obtain ⟨p, ys, rfl, hq, q⟩ := h
  obtain ⟨u, rfl, rx⟩ := vals1 r
  cases rx
  have fin : ∀ (its : List Value), Vals ys its → ys.length ≤ sizeLine → ∀ (h' : Heap) (c' : Nat), (∀ b o', s.heap.get? b = some o' → h'.get? b = some o') →
      h'.get? s.heap.objs.size = some { cls := .type "list", dict := none, data := .seq its.toArray c', slots := #[] } → EP X pins σ Q (.ref s.heap.objs.size) { s with heap := h' } := fun its r' hz h' c' kp e =>
    ⟨.ref s.heap.objs.size, _, I.laid (t' := s.toks) kp (Nat.le_refl _) (show ObjOk X.prog X.w _ h' _ (.lst ys) from ⟨hz, its, c', r', e⟩), rfl, q _ (I.hok.fresh (Nat.le_refl _))⟩
  rcases hq with hq | hq
  · obtain ⟨its, r', pl, hz⟩ := I.list hq
    have hlen := r'.length
    obtain ⟨o, ho, hc, n, hd⟩ := pl.isList
    exact call_list_seq p (.inl rfl) ho hc hd (fun h' c' kp e => fin its r' hz h' c' kp e) (by simp only [List.size_toArray] <;> omega)
  · obtain ⟨its, r', pl, hz⟩ := I.tuple hq
    have hlen := r'.length
    obtain ⟨o, ho, hc, n, hd⟩ := pl
    exact call_list_seq p (.inr rfl) ho hc hd (fun h' c' kp e => fin its r' hz h' c' kp e) (by simp only [List.size_toArray] <;> omega)
/-! ### the call of a builtin's method: o.m(..) -/
/-- the value is of that builtin type -/
def tyV (K : PySem.W.Frag) (T : String) (x : V) (H : Hp) : Prop := match x with
  | .str _ => T = "str"
  | .int _ => T = "int"
  | .ref p => (T = "list" ∧ ∃ xs, SqL K H p xs) ∨ (T = "tuple" ∧ ∃ o, K.lookup p = some o ∧ o.cls = .type "tuple" ∧ o.dict = none) ∨
      (T = "dict" ∧ ((∃ kvs, H p = some (.dK kvs)) ∨ ∃ kvs, H p = some (.dT kvs))) ∨ (T = "set" ∧ ∃ S n, H p = some (.set S n))
  | _ => False
theorem tyV_is {pins : List (Addr × Obj)} {σ : St} {H : Hp} {s : Shared} {T : String} {x : V} {v : Value} (I : Inv X pins σ H s) (r : RelV x v) (ty : tyV X.K T x H) :
    s.TypeIs v T ∧ ∀ a, v = .ref a → ∃ ob, s.heap.get? a = some ob ∧ ob.dict = none := by
  cases x with
  | str z =>
    obtain ⟨t, rfl⟩ := r
    cases (show T = "str" from ty)
    exact ⟨typeIs_str s z t, fun _ e => nomatch e⟩
  | int i =>
    obtain ⟨t, rfl⟩ := r
    cases (show T = "int" from ty)
    exact ⟨typeIs_int s i t, fun _ e => nomatch e⟩
  | ref p =>
    cases r
    rcases ty with ⟨rfl, xs, hq⟩ | ⟨rfl, o, hk, hc, hd⟩ | ⟨rfl, hk⟩ | ⟨rfl, S, n, hk⟩
    · obtain ⟨its, _, pl, _⟩ := I.list hq
      refine ⟨pl.isList.typeIs, fun a e => ?_⟩
      cases e
      obtain ⟨o, n, e, c, hd, _⟩ := pl
      exact ⟨o, e, hd⟩
    · refine ⟨⟨o, I.kIn p o hk, hc⟩, fun a e => ?_⟩
      cases e
      exact ⟨o, I.kIn _ o hk, hd⟩
    · have z : ∃ o, s.heap.get? p = some o ∧ o.ExactDict := by
        rcases hk with ⟨kvs, hk⟩ | ⟨kvs, hk⟩
        · obtain ⟨_, _, _, _, o, _, _, e, ex, _⟩ := I.hok p _ hk
          exact ⟨o, e, ex⟩
        · obtain ⟨_, _, _, _, o, _, _, e, ex, _⟩ := I.hok p _ hk
          exact ⟨o, e, ex⟩
      obtain ⟨o, e, ex⟩ := z
      refine ⟨⟨o, e, ex.1⟩, fun a e2 => ?_⟩
      cases e2
      exact ⟨o, e, ex.2.1⟩
    · obtain ⟨o, _, _, _, e, ex, _⟩ := I.hok p _ hk
      refine ⟨⟨o, e, ex.1⟩, fun a e2 => ?_⟩
      cases e2
      exact ⟨o, e, ex.2.1⟩
  | _ => exact False.elim ty
def tBM0 (K : PySem.W.Frag) (T : String) (r : V → List V → Hp → VK → Prop) (to : TE) : TE := fun σ H Q => to σ H fun x H1 => tyV K T x H1 ∧ r x [] H1 Q
def tBM (K : PySem.W.Frag) (T : String) (r : V → List V → Hp → VK → Prop) (to : TE) (t : TA) : TE := fun σ H Q => to σ H fun x H1 => tyV K T x H1 ∧ t σ H1 fun xs H2 => r x xs H2 Q
variable {o e : Expr} {es : List Expr} {to : TE} {t : TA} {name : Str} {apos cpos : Pos} {T id : String} {r : V → List V → Hp → VK → Prop}
theorem pe_bm0 (pa : PlainAttrs T) (slot : Slot T name id) (hty : typeOf (.builtin id) = pure (.type "method_descriptor")) (hm : MtR X id r) (ho : PE X o to)
    (hbase : attributeBase o name X.env (eval o X.env) = eval o X.env := by rfl) (hline : (apos.endLine == cpos.line) = true := by rfl) : PE X (.Call (.Attribute o name apos) [] [] cpos) (tBM0 X.K T r to) := by
  intro pins s σ H Q I h
  refine wpAny_Call_method0_late hbase hline (thn (ho pins s σ H _ I h) fun v s1 ⟨x, H1, I1, r1, ty, q1⟩ => ?_)
  obtain ⟨h1, h2⟩ := tyV_is I1 r1 ty
  exact ⟨T, id, pa, slot, hty, h1, h2, Calls.callWith_builtin rfl (PySem.evalArgs_none (hm pins s1 σ H1 x [] v [] Q I1 r1 .nil q1))⟩
theorem pe_bm (pa : PlainAttrs T) (slot : Slot T name id) (hty : typeOf (.builtin id) = pure (.type "method_descriptor")) (hm : MtR X id r) (ho : PE X o to) (ha : PA X (e :: es) t)
    (hbase : attributeBase o name X.env (eval o X.env) = eval o X.env := by rfl)
    (hfew : ((backTo cpos (starEach (e :: es) X.env)).all (fun x => !x.1) && (backToKw cpos (keywordEach [] X.env)).all (fun x => x.1.isSome)
      && decide ((e :: es).length + ([] : List Keyword).length + (if ([] : List Keyword).isEmpty then 0 else 1) < 30)) = true := by rfl)
    (hline : (apos.endLine == cpos.line) = true := by rfl) (hs : starEach (e :: es) X.env = (false, eval e X.env) :: starEach es X.env := by rfl) (hplain : (backTo cpos (starEach es X.env)).any (·.1) = false := by rfl) :
    PE X (.Call (.Attribute o name apos) (e :: es) [] cpos) (tBM X.K T r to t) := by
  intro pins s σ H Q I h
  refine wpAny_Call_method_late hbase hfew hline rfl (thn (ho pins s σ H _ I h) fun v s1 ⟨x, H1, I1, r1, ty, q1⟩ => ?_)
  obtain ⟨h1, h2⟩ := tyV_is I1 r1 ty
  refine ⟨T, id, pa, slot, hty, h1, h2, ?_⟩
  have hA := ha cpos pins s1 σ H1 _ I1 q1
  rw [hs] at hA ⊢
  refine Calls.callWith_builtin (by show (false || (backTo cpos (starEach es X.env)).any (·.1)) = false; rw [hplain] <;> rfl) (Calls.evalArgs_plain ?_)
  exact thn hA fun us s2 ⟨vs, H2, I2, r2, q2⟩ => hm pins s2 σ H2 x vs v us Q I2 r1 r2 q2
/- xs.append(e), list.index on a module's tuple .. are MtR facts of 06m -/
end
end L2

namespace L2
open PySem PySem.Spec PyProof.Rows

def MtM (X : Cx) (id : String) (r : V → List V → Hp → VK → Prop) : Prop :=
  ∀ (pins : List (Addr × Obj)) (s : Shared) (σ : St) (H : Hp) (x : V) (xs : List V) (v : Value) (us : List Value) (Q : VK), Inv X pins σ H s → RelV x v → Vals xs us → r x xs H Q →
    wpAny (model X.prog X.w) X.A (call (.builtin id) (v :: us)) (EP X pins σ Q) X.xe s

/-! ### lists of values -/
theorem Vals.one : ∀ {x : V} {us : List Value}, Vals [x] us → ∃ u, us = [u] ∧ RelV x u
  | _, _, .cons r .nil => ⟨_, rfl, r⟩
theorem Vals.two : ∀ {x y : V} {us : List Value}, Vals [x, y] us → ∃ u v, us = [u, v] ∧ RelV x u ∧ RelV y v
  | _, _, _, .cons r (.cons q .nil) => ⟨_, _, rfl, r, q⟩
theorem Vals.zero : ∀ {us : List Value}, Vals [] us → us = []
  | _, .nil => rfl
theorem Vals.dropLast {xs : List V} {us : List Value} (h : Vals xs us) : Vals xs.dropLast us.dropLast := by
  induction h with
  | nil => exact .nil
  | cons r t ih =>
    cases t with
    | nil => exact .nil
    | cons q t' => exact .cons r ih
theorem erase_last {α : Type} (l : List α) : l.eraseIdx (l.length - 1) = l.dropLast := by
  induction l with
  | nil => rfl
  | cons a r ih =>
    cases r with
    | nil => rfl
    | cons b r =>
      have e : (a :: b :: r).length - 1 = ((b :: r).length - 1) + 1 := by
        have h1 : (a :: b :: r).length = r.length + 2 := rfl
        have h2 : (b :: r).length = r.length + 1 := rfl
        omega
      rw [e, List.eraseIdx_cons_succ, ih]
      all_goals rfl
section
variable {X : Cx} {pins : List (Addr × Obj)} {σ : St} {H : Hp} {s : Shared} {l b : Addr} {xs ys zs : List V}

/-! ### the two steps: a tracked list is rewritten, a new list is laid -/
theorem Inv.lset {its its' : List Value} {n : Nat} {f : Array Value → Array Value} {t' : Nat} (I : Inv X pins σ H s) (hH : H l = some (.lst xs))
    (e : s.heap.get? l = some { cls := .type "list", data := .seq its.toArray n }) (hf : f its.toArray = its'.toArray) (hv : Vals ys its') (hz : ys.length ≤ sizeLine) :
    Inv X pins σ (upd H l (.lst ys)) { s with heap := s.heap.update l (Obj.mapSeq f), toks := t' } := by
  have q := PySem.IsL.update e f
  rw [hf] at q
  refine I.write (x := l) (e := l) (by rw [hH]; exact trivial) (.inl rfl) (fun b' u hb hu => (Heap.get?_update_other s.heap (Obj.mapSeq f) (Ne.symm hb)).trans hu) ⟨_, q⟩ ?_
  exact ⟨hz, its', _, hv, q⟩
theorem Inv.lnew {its : List Value} {t' : Nat} (I : Inv X pins σ H s) (hv : Vals ys its) (hz : ys.length ≤ sizeLine) :
    Inv X pins σ (upd H s.heap.objs.size (.lst ys)) { s with heap := s.heap.push { cls := .type "list", data := .seq its.toArray }, toks := t' } :=
  I.laid (fun _ _ q => Heap.get?_push_of_some _ q) (Nat.le_refl _) ⟨hz, its, 0, hv, Heap.get?_push_size _ rfl⟩
theorem Inv.fresh (I : Inv X pins σ H s) : H s.heap.objs.size = none := I.hok.fresh (Nat.le_refl _)
theorem Inv.lstM (I : Inv X pins σ H s) (hH : H l = some (.lst xs)) : xs.length ≤ sizeLine ∧ ∃ (its : List Value) (n : Nat), Vals xs its ∧ xs.length = its.length ∧ s.heap.get? l = some { cls := .type "list", data := .seq its.toArray n } := by
  obtain ⟨z, its, n, r, e⟩ := I.hok l _ hH
  exact ⟨z, its, n, r, r.length, e⟩

theorem notLongL {n : Nat} (h : n ≤ sizeLine) : Builtin.List.listTooLong n = false := by
  unfold Builtin.List.listTooLong
  exact decide_eq_false (by omega)
end

section
variable {X : Cx}

/-! ### methods -/
def rAppend : V → List V → Hp → VK → Prop := fun x vs H Q => ∃ l xs y, x = .ref l ∧ vs = [y] ∧ H l = some (.lst xs) ∧ xs.length < sizeLine ∧ Q .non (upd H l (.lst (xs ++ [y])))
theorem mt_append : MtM X "list.append" rAppend := by
  intro pins s σ H x vs v us Q I rx rv h
  obtain ⟨l, xs, y, rfl, rfl, hH, hz, q⟩ := h
  cases rx
  obtain ⟨u, rfl, ru⟩ := rv.one
  obtain ⟨z, its, n, r, hl, e⟩ := I.lstM hH
  refine call_meets F.slot_list_append ⟨_, e, rfl⟩ F.entry_list_append (F.args_list_append_2 _ _) (PySem.list_append l its.toArray n u (by rw [List.size_toArray]; omega)) ⟨e, ?_⟩
  refine ⟨.non, _, I.lset (its' := its ++ [u]) hH e (by simp) (r.append (.cons ru .nil)) ?_, rfl, q⟩
  rw [List.length_append, List.length_singleton]
  omega

def rPop : V → List V → Hp → VK → Prop := fun x vs H Q => ∃ l xs y, x = .ref l ∧ vs = [] ∧ H l = some (.lst xs) ∧ xs[xs.length - 1]? = some y ∧ Q y (upd H l (.lst xs.dropLast))
theorem mt_pop : MtM X "list.pop" rPop := by
  intro pins s σ H x vs v us Q I rx rv h
  obtain ⟨l, xs, y, rfl, rfl, hH, hy, q⟩ := h
  cases rx
  have hus := rv.zero
  subst hus
  obtain ⟨z, its, n, r, hl, e⟩ := I.lstM hH
  obtain ⟨u, hu, ru⟩ := r.get hy
  have hy' : its.toArray[its.toArray.size - 1]? = some u := by
    show its.toArray[its.length - 1]? = some u
    rw [← Array.getElem?_toList, ← hl]
    exact hu
  refine call_meets F.slot_list_pop ⟨_, e, rfl⟩ F.entry_list_pop (F.args_list_pop_1 _) (MeetsSeq.list_pop_last l its.toArray n u hy' (by rw [List.size_toArray]; omega)) ⟨e, ?_⟩
  refine ⟨y, _, I.lset (its' := its.dropLast) hH e ?_ r.dropLast ?_, ru, q⟩
  · show its.toArray.eraseIdxIfInBounds (its.toArray.size - 1) = its.dropLast.toArray
    rw [List.size_toArray, List.eraseIdxIfInBounds_toArray, erase_last]
  · rw [List.length_dropLast]
    omega

/-! ### list + list, list += list, list * int -/
def rCat : R2 := fun x y H Q => ∃ l b xs zs, x = .ref l ∧ y = .ref b ∧ H l = some (.lst xs) ∧ H b = some (.lst zs) ∧ xs.length + zs.length ≤ sizeLine ∧ ∀ p, H p = none → Q (.ref p) (upd H p (.lst (xs ++ zs)))
theorem op_cat : OpR X (binaryOp .Add) rCat := by
  intro pins s σ H x y v u Q I rx ry h
  obtain ⟨l, b, xs, zs, rfl, rfl, hH, hB, hz, q⟩ := h
  cases rx
  cases ry
  obtain ⟨z, its, n, r, hl, e⟩ := I.lstM hH
  obtain ⟨z2, its2, n2, r2, hl2, e2⟩ := I.lstM hB
  refine PySem.P.add_list e e2 ?_ (by rw [List.size_toArray, List.size_toArray]; omega)
  have ea : its.toArray ++ its2.toArray = (its ++ its2).toArray := by simp
  rw [ea]
  exact ⟨.ref _, _, I.lnew (t' := s.toks) (r.append r2) (by rw [List.length_append]; omega), rfl, q _ I.fresh⟩
/-! ### del xs[i] -/
end

/-! ### xs[a:b] = ys -/
section
variable {prog : Program} {w : World} {A : Around} {E : Value → Shared → Prop} {s : Shared}
theorem splice_eq (its its2 : List Value) (a c : Nat) : its.toArray.extract 0 a ++ its2.toArray ++ its.toArray.extract c its.toArray.size = (its.take a ++ its2 ++ its.drop c).toArray := by
  apply Array.toList_inj.mp
  first
    | (simp
       exact List.take_of_length_le (by simp))
    | simp [List.take_of_length_le]
    | simp
theorem bounds_run {a c n : Nat} (hac : a ≤ c) (hc : c ≤ n) : sliceBounds (some (a : Int)) (some (c : Int)) none n = ((a : Int), (c : Int), 1) := by
  simp only [sliceBounds, Option.getD_none]
  have h1 : ¬ ((a : Int) < 0) := by omega
  have h2 : ¬ ((c : Int) < 0) := by omega
  simp only [h1, h2, if_false, show (1 : Int) > 0 by decide, if_true]
  congr 1
  · omega
  · congr 1; omega
set_option maxRecDepth 100000 in
/-- list.__setitem__ with a slice of step one and another list -/
theorem setItem_slice {l b sl : Addr} {items new : Array Value} {n n2 : Nat} {vl vu : Value} {a c : Nat} {Q : Unit → Shared → Prop}
    (e : s.heap.get? l = some { cls := .type "list", data := .seq items n }) (e2 : s.heap.get? b = some { cls := .type "list", data := .seq new n2 }) (hne : l ≠ b)
    (hs : s.heap.IsSliceOf sl vl vu .none) (pl : IsPart vl (some (a : Int))) (pu : IsPart vu (some (c : Int))) (hac : a ≤ c) (hc : c ≤ items.size)
    (hsz : items.size + new.size ≤ sizeLine) (h : Q () { s with heap := s.heap.update l (Obj.mapSeq fun xs => xs.extract 0 a ++ new ++ xs.extract c xs.size) }) :
    wpAny (model prog w) A (setItem (.ref l) (.ref sl) (.ref b)) Q E s := by
  have hl : s.heap.IsList l items := PySem.IsL.isList e
  have hb : s.heap.IsList b new := PySem.IsL.isList e2
  obtain ⟨os, hos, hcs, hds⟩ := id hs
  have hTs : s.TypeIs (.ref sl) "slice" := ⟨os, hos, hcs⟩
  have hstep : ¬ ((rawPart none == rawInt 0) = true) := Bool.false_ne_true
  have hsame : Builtin.List.listSameRef (.ref l) (.ref b) = false := by
    unfold Builtin.List.listSameRef
    exact beq_eq_false_iff_ne.mpr hne
  have hmax : (max (a : Int) (c : Int)).toNat = c := by omega
  have hz' : ((fun xs : Array Value => xs.extract 0 a ++ new ++ xs.extract c xs.size) items).size ≤ sizeLine + 1 := by
    simp only [Array.size_append, Array.size_extract]
    omega
  unfold setItem
  try with_reducible refine wpAny_holding ?_
  first | refine wpAny_bind (wpAny_pure ?_) | skip
  refine wpAny_bind (wpAny_sequenceKey hl.typeIs (by decide) ?_)
  refine wpAny_bind (wpAny_callSpecial?_slot (name := Str.ofString "__setitem__") hl.typeIs slot_list_setitem
    (wpAny_call_entry slot_list_setitem hl.typeIs entry_list_setitem ?_ (args_list_setitem _ _ _)))
  show wpAny _ _ (Builtin.List.listSubscript? (.ref sl) >>= _) _ _ s
  refine wpAny_bind ?_
  unfold Builtin.List.listSubscript?
  refine wpAny_bind (wpAny_specialOf hTs slice_no_index ?_)
  simp only [Option.isNone_none, if_true]
  refine wpAny_pure ?_
  show wpAny _ _ (typeOf (.ref sl) >>= _) _ _ s
  refine wpAny_bind (wpAny_typeOf hTs ?_)
  first
    | rw [if_neg (by decide)]
    | refine PySem.W.KFB.if_not (by decide) ?_
  rw [listSliceParts_eq]
  refine wpAny_bind (wpAny_bind (wpAny_field hos hds (x := .none) rfl (wpAny_bind (wpAny_listPart .none ?_))))
  rw [if_neg hstep]
  refine wpAny_bind (wpAny_field hos hds (x := vl) rfl (wpAny_bind (wpAny_listPart pl ?_)))
  refine wpAny_bind (wpAny_field hos hds (x := vu) rfl (wpAny_bind (wpAny_listPart pu (wpAny_pure ?_))))
  first
    | simp only [hsame, Bool.false_eq_true, if_false]
    | refine PySem.W.KFB.if_not hsame ?_
    | (dsimp only
       rw [if_neg (by rw [hsame]; exact Bool.false_ne_true)])
  refine wpAny_bind (m := Builtin.List.listAllItems (.ref b) "must assign iterable to extended slice") ?_
  unfold Builtin.List.listAllItems
  refine wpAny_bind (wpAny_typeOf hb.typeIs ?_)
  first
    | refine PySem.W.KFB.if_so (by decide) ?_
    | rw [if_pos (by decide)]
    | simp only [beq_self_eq_true, Bool.true_or, if_true]
  unfold Builtin.List.listItems
  refine wpAny_bind (wpAny_seqItems e2 rfl (wpAny_pure ?_))
  refine wpAny_bind (wpAny_bind (wpAny_seqItems e rfl (wpAny_pure ?_)))
  refine wpAny_bind (wpAny_of_eq ((sliceIndices_raw (some (a : Int)) (some (c : Int)) none items.size (by simp)).trans (congrArg (pure : Int × Int × Int → Sem (Int × Int × Int)) (bounds_run hac hc))) ?_)
  show wpAny _ _ (if ((1 : Int) == 1) = true then _ else _) _ _ s
  rw [if_pos (by decide)]
  refine wpAny_bind (wpAny_rule ?_)
  first
    | simp only [notLongL hsz, Bool.false_eq_true, if_false]
    | refine PySem.W.KFB.if_not (notLongL hsz) ?_
  first | refine wpAny_bind (wpAny_pure ?_) | skip
  show wpAny _ _ (updateSeq l (fun xs => xs.extract 0 ((a : Int)).toNat ++ new ++ xs.extract (max (a : Int) (c : Int)).toNat xs.size) >>= _) _ _ s
  rw [hmax, Int.toNat_natCast]
  refine wpAny_bind (wpAny_updateSeq (hz := Nat.le_trans (Nat.le_add_right _ _) hsz) (_hz' := hz') e rfl ?_)
  refine wpAny_bind (wpAny_letGo ?_)
  first
    | exact wpAny_bind (wpAny_pure (wpAny_pure ⟨.none, rfl, wpAny_pure h⟩))
    | exact wpAny_pure ⟨.none, rfl, wpAny_pure h⟩
end

section
variable {X : Cx}
/-- xs[a:c] = ys of another list, at the value level: sl is the slice object that was just made -/
theorem set_slice {pins : List (Addr × Obj)} {s : Shared} {σ : St} {H : Hp} {l b sl : Addr} {xs ys : List V} {a c : Int} {vl vu : Value} {Q : Unit → Shared → Prop} (I : Inv X pins σ H s)
    (hH : H l = some (.lst xs)) (hB : H b = some (.lst ys)) (hne : l ≠ b) (hs : s.heap.IsSliceOf sl vl vu .none) (ra : RelV (.int a) vl) (rc : RelV (.int c) vu) (h0 : 0 ≤ a) (hac : a ≤ c) (hc : c ≤ xs.length)
    (hz : xs.length + ys.length ≤ sizeLine) (h : ∀ s', Inv X pins σ (upd H l (.lst (xs.take a.toNat ++ ys ++ xs.drop c.toNat))) s' → Q () s') :
    wpAny (model X.prog X.w) X.A (setItem (.ref l) (.ref sl) (.ref b)) Q X.xe s := by
  obtain ⟨ta, rfl⟩ := ra
  obtain ⟨tc, rfl⟩ := rc
  obtain ⟨z, its, n, r, hl, e⟩ := I.lstM hH
  obtain ⟨z2, its2, n2, r2, hl2, e2⟩ := I.lstM hB
  obtain ⟨a', rfl⟩ := Int.eq_ofNat_of_zero_le h0
  obtain ⟨c', rfl⟩ := Int.eq_ofNat_of_zero_le (Int.le_trans h0 hac)
  simp only [Int.toNat_natCast] at h
  refine setItem_slice (a := a') (c := c') e e2 hne hs (.int _ _) (.int _ _) (by omega) (by rw [List.size_toArray]; omega) (by rw [List.size_toArray, List.size_toArray]; omega) (h _ ?_)
  refine I.lset (its' := its.take a' ++ its2 ++ its.drop c') (t' := s.toks) hH e ?_ (Vals.append (Vals.append (r.take _) r2) (r.drop _)) ?_
  · exact splice_eq its its2 a' c'
  · rw [List.length_append, List.length_append, List.length_take, List.length_drop]
    omega
end
end L2

namespace Att
open PySem PySem.W PySem.Calls PyProof.Rows

/-! ### the script -/
theorem ints_of_wellAll {P : Params} {h : Heap} : ∀ (ns : List Int) (vs : List Value), WellAll P h vs (ns.map WData.int) → IntsAre vs ns := by
  intro ns
  induction ns with
  | nil =>
    intro vs w
    rw [List.map_nil] at w
    cases w
    exact .nil
  | cons n ns ih =>
    intro vs w
    rw [List.map_cons] at w
    cases w with
    | cons a b =>
      cases a
      exact .cons _ _ (ih _ b)

theorem script_of {l : OpenLaw} {n : Nat} (hn : l.most = some n) {P : Params} {h : Heap} {args : List WData} {vals : List Value}
    (hpre : l.row.toRowW.claim.pre args = true) (hwl : WellAll P h vals args) :
    ∃ a vs ns, vals = [Value.ref a] ∧ args = [WData.list (ns.map WData.int)] ∧ h.get? a = some { cls := .type "list", data := .seq vs.toArray } ∧ IntsAre vs ns ∧ ns.length ≤ n := by
  have hsh : WShape.hasAll [] args [.list .int] = true := (pre_splitW hpre).1
  have hc : l.pre.holds [] { args := args } = true := (pre_splitW hpre).2
  obtain ⟨d, r, rfl, h1, h2⟩ := hasAllW_cons hsh
  obtain rfl := hasAllW_nil h2
  obtain ⟨xs, rfl, h3⟩ := hasW_list h1
  obtain ⟨ns, rfl⟩ := items_int h3
  have hlen : ns.length ≤ n := by
    unfold OpenLaw.pre at hc
    have h4 : (WTm.not (.lt (.lit (.int (n : Int))) (.len (.arg 0)))).holds [] { args := [.list (ns.map .int)] } = true := by
      have h4 := (holds_andW hc).1
      rw [hn] at h4
      exact h4
    have h5 := condW_of h4 (w_not (w_lt w_lit (w_len_list (w_arg rfl))))
    rw [List.length_map] at h5
    refine Nat.le_of_not_lt fun q => ?_
    have q' : (n : Int) < ((ns.length : Nat) : Int) := by omega
    first
      | (rw [decide_eq_true q'] at h5; exact absurd h5 (by decide))
      | (simp at h5; omega)
  cases hwl with
  | cons w1 w2 =>
    cases w2
    cases w1 with
    | list ho hall => exact ⟨_, _, ns, rfl, rfl, ho, ints_of_wellAll ns _ hall, hlen⟩

theorem post_true (l : OpenLaw) (args : List WData) : l.row.toRowW.claim.post args (.bool true) args = true :=
  postW_of (r := l.row.toRowW) (X := (true == true))
    (show WShape.has [] (.bool true) .bool = true by first | rfl | decide | simp [WShape.has, WShape.arms, WShape.armsAll])
    (show (WTm.eq .res (.lit (.bool true))).value [] { args := args, res := some (.bool true), after := args } = some (.bool (true == true)) from w_eq_bool (w_res rfl) w_lit) rfl

/-! ### the attachment: holds_open's last premise (the goal 'hc' behind k_head) from a wpAny of the law's body -/
/-- the same from a codeAny of the CALL (for a layer whose function contracts speak of calls) -/
theorem attach_call {l : OpenLaw} {n : Nat} {q : Program} {loose : List Str} {XP : (Str → Option Value) → Heap → Prop} {YP : World → Heap → Prop} {d : DefRec}
    (hn : l.most = some n) (hdf : d.params.defaults = [])
    (call : ∀ (w : World) (s₀ s₁ : Shared) (mg mb : Str → Option Value) (fa : Addr) (o : Obj) (pm cd doc : Value) (a : Addr) (vs : List Value) (ns : List Int),
      Ground q loose [] XP w s₀ mg mb s₁.heap → YP w s₁.heap →
      s₁.heap.get? fa = some o → o.data = .func (docDef d.name d.params d.body d.scope pm cd doc) → s₁.heap.CodeRec cd d.name → mg d.name = some (.ref fa) →
      s₁.heap.get? a = some { cls := .type "list", data := .seq vs.toArray } → IntsAre vs ns → ns.length ≤ n → s₁.gens = #[] →
      codeAny (model l.prog w) callerA (.call (.ref fa) ⟨[.ref a], []⟩) (fun r s' => r = .ok (.ret (.bool true)) ∧ OldK s₁.heap s'.heap ∧ s'.os = s₁.os ∧ AllBare s'.gens) s₁) :
    WalkO q loose XP YP l.row.toRowW d [] (fun f vs => PySem.call f vs) := by
  intro w s₀ s₁ mg mb G Y fa o pm cd doc dV kV ho hd hcd hD hmg hg args vals as hpre hlay hrd hwl hlo
  obtain rfl : dV = .none := Dflts.none hD hdf
  obtain rfl : kV = .none := Dflts.noKw hD
  obtain ⟨a, vs, ns, rfl, rfl, hobj, hints, hlen⟩ := script_of hn hpre hwl
  refine enter_call (codeAny_mono (call w s₀ s₁ mg mb fa o pm cd doc a vs ns G Y ho (fd_plain hd) hcd hmg hobj hints hlen hg) fun r s' hq => ?_)
  obtain ⟨rfl, h2, h3, h4⟩ := hq
  exact ⟨.inl ⟨.bool true, .bool true, [], rfl, fun _ => rfl, .bool true, post_true l _, fun _ => ⟨List.Pairwise.nil, fun _ hm => (nomatch hm)⟩⟩, h2, h3, h4⟩

/-! ### rules over ANY heap (no ledger) from facts about the written part K: the library's own take a ledger (News) for what they write -/
section
variable {prog : Program} {w : World} {A : Around} {E : Value → Shared → Prop} {s : Shared} {K : Frag}

/-! the whole heap as the ledger: makes every rule that writes through a ledger a rule over any heap -/
def ledger (h : Heap) (L d : Addr) : List (Addr × Obj) := (List.range h.objs.size).filterMap fun a => if a = L ∨ a = d then none else (h.get? a).map fun o => (a, o)
end
end Att

namespace L2
open PySem PySem.Spec PyProof.Rows

theorem vals_ints : ∀ {vs : List Value} {ns : List Int}, IntsAre vs ns → Vals (ns.map V.int) vs
  | _, _, .nil => .nil
  | _, _, .cons n t h => .cons ⟨t, rfl⟩ (vals_ints h)

/-- nothing is tracked but the script, known to the object (or it is an object of the module) -/
def Only (H : Hp) : Prop := ∀ b, H b = none ∨ ∃ o xs, H b = some (.frz o (.lst xs))

/-- THE HEAD: the law's promise, at the heap behind the top. F, the promise of the law's def, may use that base is part of the heap (so K.In base, base.Ns mainGlobals mg stand in Mod) -/
theorem law_call {P : Program} {w : World} {K : PySem.W.Frag} {mg mb : Str → Option Value} {CX : CXT} {k : Nat} {fa a : Addr} {fd : FuncData} {x : Str} {sp : Sp} {s₁ : Shared} {vs : List Value} {ns : List Int}
    (KX : K.In s₁.heap) (hns : s₁.heap.Ns mainGlobals mg) (hb : s₁.heap.Ns builtinsNs mb) (hbb : ∀ x : Str, x ≠ "__name__" → mb x = bootBuiltins x) (hlim : s₁.heap.NoLimit) (hg : s₁.gens = #[])
    (ha : s₁.heap.get? a = some { cls := .type "list", data := .seq vs.toArray }) (hi : IntsAre vs ns) (hl : ns.length ≤ sizeLine) (hr : Room k callerA)
    (F : ∀ base : Heap, K.In base → base.Ns mainGlobals mg → FnOk P w K mg base CX k fa fd [x] sp) (hbind : ∀ (s : Shared) (u : Value), BindsTo s fd ⟨[u], []⟩ [(x, u)])
    (hsp : ∀ H : Hp, Only H → SqL K H a (ns.map V.int) → sp [.ref a] H (fun v _ => v = .bl true) fun _ _ _ => False)
    (hCX : ∀ H e s', CX [] H s₁ (fun _ _ _ => False) e s' → False) :
    codeAny (model P w) callerA (.call (.ref fa) ⟨[.ref a], []⟩) (fun r s' => r = .ok (.ret (.bool true)) ∧ OldK s₁.heap s'.heap ∧ s'.os = s₁.os ∧ AllBare s'.gens) s₁ := by
  have rv := vals_ints hi
  have lenV := hi.length
  -- from an abstract heap in which nothing but the script may be tracked
  have core : ∀ H : Hp, Only H → SqL K H a (ns.map V.int) → HOk P w H s₁.heap → (∀ b, H b ≠ none → b = a) → (H a ≠ none → K.lookup a = none) →
      codeAny (model P w) callerA (.call (.ref fa) ⟨[.ref a], []⟩) (fun r s' => r = .ok (.ret (.bool true)) ∧ OldK s₁.heap s'.heap ∧ s'.os = s₁.os ∧ AllBare s'.gens) s₁ := by
    intro H hO hS hok hA hK
    have base_of : ∀ {b : Addr} {o : Obj}, s₁.heap.get? b = some o → H b = none → (hidT s₁.heap H).get? b = some o := fun e n => hidT_get e n
    have noA : ∀ {b : Addr} {o : Obj} {es : Array DictEntry} {ep : Nat}, s₁.heap.get? b = some o → o.data = .dict es ep → H b = none := fun {b o es ep} e d => by
      cases q : H b with
      | none => rfl
      | some u =>
        have e' : b = a := hA b (by rw [q]; simp)
        subst e'
        rw [ha] at e; cases e
        have d' : Data.seq vs.toArray _ = Data.dict es ep := d
        cases d'
    have nsK : ∀ {b : Addr} {m : Str → Option Value}, s₁.heap.Ns b m → (hidT s₁.heap H).Ns b m := fun {b m} ⟨o, es, ep, e, d, r⟩ => ⟨o, es, ep, base_of e (noA e d), d, r⟩
    have hKb : K.In (hidT s₁.heap H) := fun b o e => base_of (KX b o e) (by
      cases q : H b with
      | none => rfl
      | some u =>
        have e' : b = a := hA b (by rw [q]; simp)
        subst e'
        rw [hK (by rw [q]; simp)] at e; cases e)
    have hM : Mod K mg (hidT s₁.heap H) := ⟨hKb, nsK hns, ⟨mb, nsK hb, hbb⟩, let ⟨mc, h1, h2⟩ := hlim; ⟨mc, nsK h1, h2⟩⟩
    have e0 : Env0 P w K mg (hidT s₁.heap H) callerA [] s₁ H := ⟨rfl, hM, fun b o e => of_hidT e, Nat.le_of_eq (hidT_size _ _), trivial, fun b hb => absurd (show b ∈ ([] : List Addr) from hb) (by simp), hok, .of_eq hg⟩
    refine codeAny_mono ((F _ hKb (nsK hns)).run callerA [] s₁ H ⟨[.ref a], []⟩ [.ref a] [.ref a] _ _ hr e0 (hbind s₁ (.ref a)) (.cons rfl .nil) (hsp H hO hS)) fun r s' h => ?_
    cases r with
    | error e => exact (hCX H e s' h).elim
    | ok fl =>
      cases fl with
      | next => exact False.elim h
      | brk => exact False.elim h
      | cont => exact False.elim h
      | ret u =>
        obtain ⟨v, H', os, bare, un, hok', r', q⟩ := h
        have q' : v = .bl true := q
        subst q'
        obtain rfl : u = Value.bool true := r'
        refine ⟨rfl, OldK.of_keep fun b o e => ?_, os, bare⟩
        cases q : H b with
        | none => exact un.keep b o e q (by intro z; exact absurd (show b ∈ ([] : List Addr) from z) (by simp)) (by simp)
        | some u =>
          rcases hO b with z | ⟨ob, xs, z⟩
          · rw [q] at z; cases z
          · have z2 := un.frzs b ob _ z
            obtain ⟨e1, _⟩ := hok b _ z
            obtain ⟨e2, _⟩ := hok' b _ z2
            rw [e] at e1; cases e1
            exact e2
  cases hk : K.lookup a with
  | some o =>
    -- the script is one of the module's own objects
    have e := KX a o hk
    rw [ha] at e
    cases e
    refine core (fun _ => none) (fun _ => .inl rfl) (.inr ⟨_, vs.toArray, _, hk, rfl, rfl, rfl, by rw [List.size_toArray, lenV]; exact hl, by simpa using rv⟩) (fun b u z => by have z' : (none : Option HO) = some u := z; cases z') (fun b z => absurd rfl z) fun z => absurd rfl z
  | none =>
    refine core (fun b => if b = a then some (.frz { cls := .type "list", data := .seq vs.toArray } (.lst (ns.map V.int))) else none) (fun b => ?_) (.inl (.inr ⟨{ cls := .type "list", data := .seq vs.toArray }, if_pos rfl⟩)) (fun b u z => ?_) (fun b z => ?_) fun _ => hk
    · by_cases hb : b = a
      · exact .inr ⟨_, _, if_pos hb⟩
      · exact .inl (if_neg hb)
    · by_cases hb : b = a
      · have z' := (if_pos hb).symm.trans z
        cases z'
        subst hb
        exact ⟨ha, by rw [List.length_map]; exact hl, vs, _, rv, ha⟩
      · have z' := (if_neg hb).symm.trans z
        cases z'
    · by_cases hb : b = a
      · exact hb
      · exact absurd (if_neg hb) z
end L2

namespace L2
open PySem PySem.Spec PyProof.Rows

abbrev KOf {K : PySem.W.Frag} {h : Heap} (_ : K.In h) : PySem.W.Frag := K

/-- the goal that k_head leaves (case hc), from the law's promise. F gives the function object fd (K's own) once, then the promise over every base -/
theorem walk_of {l : PySem.W.OpenLaw} {n k : Nat} {q : Program} {loose : List Str} {XP : (Str → Option Value) → Heap → Prop} {YP : World → Heap → Prop} {d : DefRec} {K : Params → PySem.W.Frag} {CX : World → CXT} {sp : World → Sp} {x : Str}
    (hn : l.most = some n) (hn2 : n ≤ sizeLine) (hdf : d.params.defaults = []) (hr : Room k callerA)
    (hY : ∀ (w : World) (h : Heap), YP w h → (K w.params).In h)
    (F : ∀ (w : World) (mg : Str → Option Value) (fa : Addr) (h : Heap), (K w.params).In h → h.Ns mainGlobals mg → mg d.name = some (.ref fa) →
      ∃ fd : FuncData, (∀ (s : Shared) (u : Value), BindsTo s fd ⟨[u], []⟩ [(x, u)]) ∧
        ∀ base : Heap, (K w.params).In base → base.Ns mainGlobals mg → FnOk l.prog w (K w.params) mg base (CX w) k fa fd [x] (sp w))
    (hsp : ∀ (w : World) (H : Hp) (a : Addr) (ns : List Int), ns.length ≤ n → Only H → SqL (K w.params) H a (ns.map V.int) → sp w [.ref a] H (fun v _ => v = .bl true) fun _ _ _ => False)
    (hCX : ∀ (w : World) (H : Hp) (s : Shared) (e : Value) (s' : Shared), CX w [] H s (fun _ _ _ => False) e s' → False) :
    PySem.W.WalkO q loose XP YP l.row.toRowW d [] (fun f vs => PySem.call f vs) := by
  refine Att.attach_call hn hdf fun w s₀ s₁ mg mb fa o pm cd doc a vs ns G Y ho hd hcd hmg hobj hints hlen hg => ?_
  have KX := hY w _ Y
  obtain ⟨fd, hb, hF⟩ := F w mg fa _ KX G.T.g hmg
  exact law_call KX G.T.g G.T.b G.T.builtins G.T.nolimit hg hobj hints (Nat.le_trans hlen hn2) hr hF hb (fun H hO hS => hsp w H a ns hlen hO hS) fun H e s' => hCX w H s₁ e s'
end L2

/- THE LAST THEOREM (shape; LID, My.* are yours):
   My.Adr: a structure of the addresses that your layer names (classes, functions); My.Txt K t: a structure (Prop) of the equations over K;
   My.txt_mk : {K} {implicit addresses ..} (e1 : nsIn K mainGlobals "law" = some (some (.ref f))) (e2 : K.lookup f = some ⟨oc, od, .func (fnOf "law" "law" params body scope dV kV doc pm an cdv ct), sl⟩) (e3 : codeIn K cdv "law" = true) .. : ∃ t, My.Txt K t

set_option maxRecDepth 100000 in
set_option maxHeartbeats 0 in
theorem PySem.Challenge.cw_LID_holds : PySem.Challenge.rw_LID.Holds := by
  w_on; o_law; k_head; (case hw => w_witness2)
  k_fill
  refine L2.walk_of (l := PySem.Challenge.rw_LID) (n := 63) (k := 40) (x := "script") (CX := fun w => ..) (sp := fun _ => My.sp_law) rfl (by decide) rfl ⟨rfl, by decide, by decide⟩ (fun w h Y => PySem.W.kIn_of Y) ?F ?S ?C
  case F =>
    intro w mg fa h KX G hmg
    have T : ∃ t, My.Txt (L2.KOf KX) t := by
      dsimp only [L2.KOf]                          -- K must stand as «<heap const> w.params» for k_is
      refine' My.txt_mk ?e1 ?e2 ?e3 ..
      (case e1 => PySem.W.k_is)                    -- in the order: a name -> its address -> its object -> its parts
      (case e2 => PySem.W.k_is)
      ..
    obtain ⟨t, T⟩ := T
    have e0 := hmg.symm.trans (PySem.W.mg_of KX G T.law)
    cases e0                                       -- fa is the law's own address
    exact ⟨_, fun s u => .of_eq rfl, fun base kb nb => My.law_fn T kb nb⟩     -- if «.of_eq rfl» comes too early: refine' ⟨_, ?b, fun base kb nb => My.law_fn T kb nb⟩; exact fun s u => .of_eq rfl
  case S => exact fun w H a ns hl hO hS => ..
  case C => exact ..
(the tactic k_is has no namespace: write k_is) -/

/-! SHORT WORDS over the layer: a def of the text, its body, what a loop and a test want. -/
namespace L2
open PySem PySem.Spec PyProof.Rows

/-! ### the text by places -/
def defArgs (s : Stmt) : Arguments := match s with
  | .FunctionDef _ a _ _ _ _ _ _ _ _ => a
  | _ => { posonlyargs := [], args := [], vararg := none, kwonlyargs := [], kw_defaults := [], kwarg := none, defaults := [] }
def defBody (s : Stmt) : List Stmt := match s with
  | .FunctionDef _ _ b _ _ _ _ _ _ _ => b
  | _ => []
def defScope (s : Stmt) : Scope := match s with
  | .FunctionDef _ _ _ _ _ _ sc _ _ _ => sc
  | _ => { kind := .function, names := [], isGenerator := false, isCoroutine := false }

/-! ### no exception leaves a def -/
abbrev CX0 : CXT := fun _ _ _ _ _ _ => False
abbrev E0 : XK := fun _ _ _ => False
theorem pass0 {X : Cx} : Passes CX0 X E0 := fun _ _ _ _ _ _ _ h => h.elim

/-! ### a def (or method) of the text as it stands behind the top -/
structure Fun (K : PySem.W.Frag) (x qual : Str) (st : Stmt) (f : Addr) (fd : FuncData) : Prop where
  ex : ∃ (oc : Value) (od : Option Addr) (kV doc pm : Value) (an : Option Addr) (cdv ct : Value) (osl : Array (Option Value)),
    fd = PySem.W.fnOf x qual (defArgs st) (defBody st) (defScope st) .none kV doc pm an cdv ct ∧ K.lookup f = some ⟨oc, od, .func fd, osl⟩ ∧ PySem.W.codeIn K cdv qual = true
  kp : PySem.W.keepIn K (.ref f) = true
section
variable {P : Program} {w : World} {K : PySem.W.Frag} {mg : Str → Option Value} {base : Heap}
/-- THE RULE for a def: its body as a term of rules, and the reading of that term -/
theorem Fun.ok {x qual : Str} {st : Stmt} {f : Addr} {fd : FuncData} {N ps : List Str} {k : Nat} {sp : Sp} (F : Fun K x qual st f fd) (S : FnScope N ps (defScope st)) (len : ∀ vs H Q E, sp vs H Q E → vs.length = ps.length)
    (hbody : ∀ (cdv : Value) (A : Around) (outer : List Env) (s : Shared) (H : Hp) (vs : List V) (Q : VK) (E : XK), Room k (A.deeper (envOfC qual (defScope st) s.heap.objs.size f cdv)) → sp vs H Q E →
      ∃ t, PSs (cxOf CX0 P w K mg base N qual (defScope st) f cdv A outer s H E).nox (defBody st) t ∧ t { nx := fun _ H' => Q .non H', rt := Q } (start N vs) H) : FnOk P w K mg base CX0 (k + 1) f fd ps sp := by
  obtain ⟨oc, od, kV, doc, pm, an, cdv, ct, osl, rfl, lk, hcd⟩ := F.ex
  refine fn_of lk hcd S len fun A outer s H vs Q E hr hsp => ?_
  obtain ⟨t, h, q⟩ := hbody cdv A outer s H vs Q E hr hsp
  exact ⟨t, h.nox, q⟩
/-- how its arguments bind (no defaults): h is «fun _ _ _ _ _ _ us hl => match us, hl with | [_, _], _ => rfl», one _ a parameter -/
theorem Fun.binds {x qual : Str} {st : Stmt} {f : Addr} {fd : FuncData} {ps : List Str} (F : Fun K x qual st f fd)
    (h : ∀ (kV doc pm : Value) (an : Option Addr) (cdv ct : Value) (us : List Value), us.length = ps.length → bindArgs (PySem.W.fnOf x qual (defArgs st) (defBody st) (defScope st) .none kV doc pm an cdv ct) ⟨us, []⟩ = pure (ps.zip us)) : Binds K fd ps [] := by
  obtain ⟨oc, od, kV, doc, pm, an, cdv, ct, osl, rfl, lk, hcd⟩ := F.ex
  exact .all (h kV doc pm an cdv ct)
theorem fun_mk {x qual : Str} {st : Stmt} {f : Addr} {oc : Value} {od an : Option Addr} {osl : Array (Option Value)} {kV doc pm cdv ct : Value} (l : K.lookup f = some ⟨oc, od, .func (PySem.W.fnOf x qual (defArgs st) (defBody st) (defScope st) .none kV doc pm an cdv ct), osl⟩)
    (c : PySem.W.codeIn K cdv qual = true) (k : PySem.W.keepIn K (.ref f) = true) : Fun K x qual st f (PySem.W.fnOf x qual (defArgs st) (defBody st) (defScope st) .none kV doc pm an cdv ct) := ⟨⟨oc, od, kV, doc, pm, an, cdv, ct, osl, rfl, l, c⟩, k⟩
end
theorem hu_of {A : Around} {k : Nat} (hr : Room k A) : A.units + 1 < cLine := Nat.lt_of_le_of_lt (Nat.add_le_add_left (by decide : 1 ≤ 64) _) hr.units
theorem small1000 {n : Nat} (h : n ≤ 1000) : n < sizeLine := Nat.lt_of_le_of_lt h (by decide)

/-! ### expressions in short: the name that stands in the i-th slot -/
section
variable {X : Cx}
theorem pv (i : Nat) {x : Str} {pos : Pos} (hN : X.N[i]? = some x := by rfl) (hv : Vis X.env.scope x := by first | exact Or.inl rfl | exact Or.inr (Or.inl rfl) | exact Or.inr (Or.inr rfl)) (hd : (x == ("__debug__" : Str)) = false := by decide)
    (hcd : (x == ("__classdict__" : Str)) = false := by decide) : PE X (.Name x pos) (tVar i) := pe_var hN hv hd hcd
end

/-! ### tests -/
theorem iteF {A B : Prop} (h : B) : if false = true then A else B := by
  rw [if_neg Bool.false_ne_true]
  exact h
theorem iteT {A B : Prop} (h : A) : if true = true then A else B := by
  rw [if_pos rfl]
  exact h
theorem ite2 {c A B : Prop} [Decidable c] (h1 : c → A) (h2 : ¬ c → B) : if c then A else B := by
  by_cases h : c
  · rw [if_pos h]
    exact h1 h
  · rw [if_neg h]
    exact h2 h
/-! ### heaps -/
/-- all that was tracked is as it was -/
def Same (H H' : Hp) : Prop := ∀ b o, H b = some o → H' b = some o
theorem Same.refl (H : Hp) : Same H H := fun _ _ h => h
theorem Same.trans {H H1 H2 : Hp} (a : Same H H1) (b : Same H1 H2) : Same H H2 := fun c o h => b c o (a c o h)
theorem Same.free {H H' : Hp} (e : Same H H') {l : Addr} (h : H' l = Option.none) : H l = Option.none := by
  cases q : H l with
  | none => rfl
  | some o =>
    rw [e l o q] at h
    cases h
theorem Same.seq {K : PySem.W.Frag} {H H' : Hp} {a : Addr} {xs : List V} (e : Same H H') (h : SqL K H a xs) : SqL K H' a xs := by
  rcases h with (h | ⟨o, h⟩) | h
  · exact .inl (.inl (e _ _ h))
  · exact .inl (.inr ⟨o, e _ _ h⟩)
  · exact .inr h

end L2

set_option maxHeartbeats 4000000
/-! Comprehensions over the hand layer: a list by one clause, its tests, its block's own context. -/
namespace L2
open PySem PySem.Spec PyProof.Rows

section
variable {prog : Program} {w : World} {A : Around} {R : Result → Shared → Prop} {s : Shared}
theorem comp_loop {elt target iter : Expr} {ifs : List Expr} {scope : Scope} {pos : Pos} {it acc : Value} {env : Env} (I : Nat → Shared → Prop)
    (turn : ∀ n s, I n s → wpAny (model prog w) A (pyNext it) (fun r s₁ => match r with
      | none => R (.ok .next) s₁
      | some v => wpAny (model prog w) A (letOwnedTupleGo target it v) (fun _ s₁' => wpAny (model prog w) A (assign target env v) (fun _ s₂ =>
          wpAny (model prog w) A (forIn ifs true fun c r => if r = true then do let ok ← isTrue c env (eval c env); pure (ForInStep.yield ok) else pure (ForInStep.yield r)) (fun ok s₃ =>
            if ok = true then wpAny (model prog w) A (eval elt env) (fun x s₄ =>
              wpAny (model prog w) A (call (.builtin "list.append") [acc, x]) (fun _ s₅ => ∃ m, m < n ∧ I m s₅) (fun _ _ => False) s₄) (fun _ _ => False) s₃
            else ∃ m, m < n ∧ I m s₃) (fun _ _ => False) s₂) (fun _ _ => False) s₁') (fun _ _ => False) s₁) (fun _ _ => False) s)
    (n : Nat) (h : I n s) : codeAny (model prog w) A (.compLoop (.ListComp elt [⟨target, iter, ifs, 0⟩] scope pos) 0 it acc env) R s := by
  refine codeAny_loop rfl I (fun n s hI => ?_) n h
  show wpAny _ A ((compTurn (.ListComp elt [⟨target, iter, ifs, 0⟩] scope pos) 0 it acc env).onRaise (fun x => do noteFrame x env; theTreesLotGoes x)) _ _ s
  refine wpAny_noted ?_
  rw [compTurn_list]
  refine wpAny_bind (wpAny_standAt (wpAny_bind (wpAny_mono (turn n s hI) (fun r s₁ h₁ => ?_) fun _ _ h' => h'.elim)))
  cases r with
  | none => exact wpAny_pure h₁
  | some v =>
    refine wpAny_bind (wpAny_mono h₁ (fun _ s₁' h₁' => ?_) fun _ _ h' => h'.elim)
    refine wpAny_bind (wpAny_mono h₁' (fun _ s₂ h₂ => wpAny_bind (wpAny_mono h₂ (fun ok s₃ h₃ => ?_) fun _ _ h' => h'.elim)) fun _ _ h' => h'.elim)
    cases ok with
    | false => exact wpAny_pure ⟨rfl, h₃⟩
    | true =>
      exact wpAny_bind (wpAny_bind (wpAny_mono h₃ (fun x s₄ h₄ => wpAny_bind (wpAny_mono h₄ (fun _ s₅ h₅ => wpAny_pure (wpAny_pure ⟨rfl, h₅⟩)) fun _ _ h' => h'.elim)) fun _ _ h' => h'.elim))
end

/-! ### the cells that a block reads -/
theorem clos_go (env : Env) (f : Str × NameKind → List (Str × Addr) → Sem (ForInStep (List (Str × Addr))))
    (hf : ∀ n k r, f (n, k) r = if (k == NameKind.free) = true then (do let a ← cellOf env n; pure (ForInStep.yield ((n, a) :: r))) else pure (ForInStep.yield r)) :
    ∀ (ns : List (Str × NameKind)) (acc : List (Str × Addr)), (∀ y ∈ ns, y.2 = .free → ∃ c, env.cells.lookup y.1 = some c) → (∀ x c, acc.lookup x = some c → env.cells.lookup x = some c) →
      ∃ cl, forIn ns acc f = pure cl ∧ (∀ x c, cl.lookup x = some c → env.cells.lookup x = some c) ∧ (∀ y ∈ ns, y.2 = .free → ∃ c, cl.lookup y.1 = some c) ∧ (∀ x c, acc.lookup x = some c → ∃ c', cl.lookup x = some c')
  | [], acc, _, ha => ⟨acc, by rw [List.forIn_nil], ha, fun _ h => (nomatch h), fun x c h => ⟨c, h⟩⟩
  | (n, k) :: r, acc, hn, ha => by
    rw [List.forIn_cons, hf]
    by_cases hk : k = .free
    · subst hk
      obtain ⟨c, hc⟩ := hn (n, .free) List.mem_cons_self rfl
      have hc' : env.cells.lookup n = some c := hc
      have e1 : cellOf env n = pure c := by unfold cellOf; rw [hc']
      obtain ⟨cl, h1, h2, h3, h4⟩ := clos_go env f hf r ((n, c) :: acc) (fun y hy => hn y (List.mem_cons_of_mem _ hy)) (fun x c' hx => by
        rw [List.lookup_cons] at hx
        cases e : x == n with
        | true =>
          rw [e] at hx
          have : x = n := by simpa using e
          subst this
          rw [← Option.some.inj hx]; exact hc'
        | false => rw [e] at hx; exact ha x c' hx)
      refine ⟨cl, ?_, h2, fun y hy hyf => ?_, fun x c' hx => ?_⟩
      · rw [if_pos (by rfl), e1]
        exact h1
      · rcases List.mem_cons.mp hy with e | hy
        · subst e
          exact h4 n c (by simp)
        · exact h3 y hy hyf
      · cases e : x == n with
        | true => exact h4 x c (by rw [List.lookup_cons, e])
        | false => exact h4 x c' (by rw [List.lookup_cons, e]; exact hx)
    · have hk' : (k == NameKind.free) = false := by simpa using hk
      obtain ⟨cl, h1, h2, h3, h4⟩ := clos_go env f hf r acc (fun y hy => hn y (List.mem_cons_of_mem _ hy)) ha
      refine ⟨cl, ?_, h2, fun y hy hyf => ?_, h4⟩
      · rw [hk', if_neg Bool.false_ne_true]
        exact h1
      · rcases List.mem_cons.mp hy with e | hy
        · subst e
          exact absurd hyf hk
        · exact h3 y hy hyf
theorem clos_ok {scope : Scope} {env : Env} (h : ∀ y ∈ scope.names, y.2 = .free → ∃ c, env.cells.lookup y.1 = some c) :
    ∃ cl, closureFor scope env = pure cl ∧ (∀ x c, cl.lookup x = some c → env.cells.lookup x = some c) ∧ (∀ y ∈ scope.names, y.2 = .free → ∃ c, cl.lookup y.1 = some c) := by
  obtain ⟨cl, h1, h2, h3, _⟩ := clos_go env (fun x r => match x with
    | (n, k) => if (k == NameKind.free) = true then (do let a ← cellOf env n; pure (ForInStep.yield ((n, a) :: r))) else pure (ForInStep.yield r)) (fun _ _ _ => rfl) scope.names [] h (fun x c q => by simp at q)
  refine ⟨cl, ?_, h2, h3⟩
  unfold closureFor
  refine Eq.trans ?_ h1
  have e : ∀ (m : Sem (List (Str × Addr))), (m >>= fun r => (pure r >>= fun r => pure r)) = m := fun m => by simp only [pure_bind, bind_pure]
  exact e _

/-! ### the block's names and tests -/
def capt (n : Nat) (fi : List Nat) (σ : St) : St := List.replicate n none ++ fi.map fun i => σ.getD i none
def tTrue : TT := fun _ H Q => Q true H
def PTs (X : Cx) (ifs : List Expr) (t : TT) : Prop :=
  ∀ (pins : List (Addr × Obj)) (s : Shared) (σ : St) (H : Hp) (Q : Bool → Hp → Prop), Inv X pins σ H s → t σ H Q →
    wpAny (model X.prog X.w) X.A (forIn ifs true fun c r => if r = true then do let ok ← isTrue c X.env (eval c X.env); pure (ForInStep.yield ok) else pure (ForInStep.yield r)) (TP X pins σ Q) X.xe s
theorem pts_nil {X : Cx} : PTs X [] tTrue := fun pins s σ H Q I h => wpAny_tests_nil ⟨H, I, h⟩
/-- the block: Ls its own names, Fs the names that it reads of the def's, fi their places there -/
structure LcScope (N : List Str) (osc scope : Scope) (Ls Fs : List Str) (fi : List Nat) : Prop where
  kind : scope.kind = .function
  cells : ∀ y ∈ scope.names, y.2 ≠ .cell
  names : ∀ y ∈ scope.names, y.2 = .local → scope.names.lookup y.1 = some .local
  fre : ∀ x ∈ Fs, scope.names.lookup x = some .free
  all : ∀ y ∈ scope.names, y.2 = .free → osc.names.lookup y.1 = some .cell ∨ osc.names.lookup y.1 = some .free
  ix : fi.map (fun i => N[i]?) = Fs.map some
def blk (X : Cx) (scope : Scope) (N : List Str) (cl : List (Str × Addr)) (C : Addr) (s3 : Shared) (H3 : Hp) (ex : List Addr) : Cx :=
  { X with N := N, s₀ := s3, H₀ := H3, env := compEnvC scope cl C X.env, outer := X.stack, stack := X.stack, ex := ex, fn := fun _ => false, pn := [], xe := fun _ _ => False }

theorem relabel_free {env : Env} : ∀ {names : List (Str × NameKind)} {x : Str}, (∀ y ∈ names, y.2 ≠ .cell) →
    ((names.map fun (n, k) => if (k == NameKind.free && env.scope.kind == .function && env.kindOf n == some .cell) then (n, NameKind.cell) else (n, k)).lookup x = some .cell ∨
     (names.map fun (n, k) => if (k == NameKind.free && env.scope.kind == .function && env.kindOf n == some .cell) then (n, NameKind.cell) else (n, k)).lookup x = some .free) → ∃ y ∈ names, y.1 = x ∧ y.2 = .free
  | [], _, _, h => by simp at h
  | (n, k) :: r, x, hc, h => by
    have ih := @relabel_free env r x (fun y hy => hc y (List.mem_cons_of_mem _ hy))
    cases hx : x == n with
    | true =>
      have e : x = n := by simpa using hx
      subst e
      by_cases hb : (k == NameKind.free && env.scope.kind == .function && env.kindOf x == some .cell) = true
      · have : k = .free := by
          simp only [Bool.and_eq_true, beq_iff_eq] at hb
          exact hb.1.1
        exact ⟨(x, k), List.mem_cons_self, rfl, this⟩
      · simp only [List.map_cons, if_neg hb, List.lookup_cons, hx] at h
        rcases h with h | h
        · exact absurd (Option.some.inj h) (hc (x, k) List.mem_cons_self)
        · exact ⟨(x, k), List.mem_cons_self, rfl, Option.some.inj h⟩
    | false =>
      have h' : ((r.map fun (n, k) => if (k == NameKind.free && env.scope.kind == .function && env.kindOf n == some .cell) then (n, NameKind.cell) else (n, k)).lookup x = some .cell ∨
        (r.map fun (n, k) => if (k == NameKind.free && env.scope.kind == .function && env.kindOf n == some .cell) then (n, NameKind.cell) else (n, k)).lookup x = some .free) := by
        by_cases hb : (k == NameKind.free && env.scope.kind == .function && env.kindOf n == some .cell) = true
        · simpa only [List.map_cons, if_pos hb, List.lookup_cons, hx] using h
        · simpa only [List.map_cons, if_neg hb, List.lookup_cons, hx] using h
      obtain ⟨y, hy, z⟩ := ih h'
      exact ⟨y, List.mem_cons_of_mem _ hy, z⟩
theorem relabel_look {env : Env} {x : Str} : ∀ {names : List (Str × NameKind)}, names.lookup x = some .free →
    ((names.map fun (n, k) => if (k == NameKind.free && env.scope.kind == .function && env.kindOf n == some .cell) then (n, NameKind.cell) else (n, k)).lookup x = some .cell ∨
     (names.map fun (n, k) => if (k == NameKind.free && env.scope.kind == .function && env.kindOf n == some .cell) then (n, NameKind.cell) else (n, k)).lookup x = some .free)
  | [], h => by simp at h
  | (n, k) :: r, h => by
    cases hx : x == n with
    | true =>
      have e : x = n := by simpa using hx
      subst e
      rw [List.lookup_cons, hx] at h
      have hk : k = .free := Option.some.inj h
      subst hk
      by_cases hb : (NameKind.free == NameKind.free && env.scope.kind == .function && env.kindOf x == some .cell) = true
      · left; simp only [List.map_cons, if_pos hb, List.lookup_cons, hx]
      · right; simp only [List.map_cons, if_neg hb, List.lookup_cons, hx]
    | false =>
      rw [List.lookup_cons, hx] at h
      have ih := @relabel_look env x r h
      by_cases hb : (k == NameKind.free && env.scope.kind == .function && env.kindOf n == some .cell) = true
      · simpa only [List.map_cons, if_pos hb, List.lookup_cons, hx] using ih
      · simpa only [List.map_cons, if_neg hb, List.lookup_cons, hx] using ih

theorem aLt {h : Heap} {b : Addr} {o : Obj} (e : h.get? b = some o) : @LT.lt Nat _ b h.objs.size := Heap.lt_size e
/-! ### the rule -/
/-- W: by the turn, a measure, the items so far, the heap; N: what a turn is to reach -/
def LcW (J : It) (σ : St) (g : TG) (tc : TT) (te : TE) (H : Hp) (Q : VK) : Prop :=
  ∃ W : Nat → Nat → List V → Hp → Prop, (∃ m, W 0 m [] H) ∧ ∀ i m ys H, W i m ys H →
    (J.stop i H ∧ ys.length ≤ sizeLine ∧ ∀ D, H D = none → Q (.ref D) (upd H D (.lst ys))) ∨
    (J.go i H ∧ ys.length ≤ sizeLine ∧ ∃ N : List V → Hp → Prop, (∀ ys' H', N ys' H' → ∃ m', m' < m ∧ W (i + 1) m' ys' H') ∧ ∀ x H', J.yld i H x H' → g x σ H' fun σ2 H2 =>
      tc σ2 H2 fun b H3 => if b = true then te σ2 H3 fun y H4 => N (ys ++ [y]) H4 else N ys H3)
def tLc (n : Nat) (fi : List Nat) (wi : TI) (g : TG) (tc : TT) (te : TE) : TE := fun σ H Q => wi σ H fun J H1 => LcW J (capt n fi σ) g tc te H1 Q

section
variable {X : Cx} {pins : List (Addr × Obj)} {σ : St} {tg elt iter : Expr} {ifs : List Expr} {scope : Scope} {pos : Pos} {Ls Fs : List Str} {fi : List Nat} {g : TG} {tc : TT} {te : TE}

theorem lc_block {H2 : Hp} {s2 : Shared} {it : Addr} {fp : List Addr} {tn : Nat → Heap → Prop} {J : It} {cl : List (Str × Addr)} {Q : VK} {E : Value → Shared → Prop} {RR : Value → Addr → Result → Shared → Prop}
    (S : LcScope X.N X.env.scope scope Ls Fs fi) (hc : X.calm = true)
    (hb : ∀ C s3 H3 ex, PG (blk X scope (Ls ++ Fs) cl C s3 H3 ex) tg g ∧ PTs (blk X scope (Ls ++ Fs) cl C s3 H3 ex) ifs tc ∧ PE (blk X scope (Ls ++ Fs) cl C s3 H3 ex) elt te)
    (hcl1 : ∀ x c, cl.lookup x = some c → X.env.cells.lookup x = some c) (hcl2 : ∀ y ∈ scope.names, y.2 = .free → ∃ c, cl.lookup y.1 = some c)
    (I2 : Inv X pins σ H2 s2) (T : Turn X.prog X.w X.K tg J fp it tn) (st2 : tn 0 s2.heap) (f2 : ∀ b ∈ fp, FpOk X pins H2 b)
    (hW : ∃ W : Nat → Nat → List V → Hp → Prop, (∃ m, W 0 m [] H2) ∧ ∀ i m ys H, W i m ys H →
      (J.stop i H ∧ ys.length ≤ sizeLine ∧ ∀ D, H D = none → Q (.ref D) (upd H D (.lst ys))) ∨
      (J.go i H ∧ ys.length ≤ sizeLine ∧ ∃ N : List V → Hp → Prop, (∀ ys' H', N ys' H' → ∃ m', m' < m ∧ W (i + 1) m' ys' H') ∧ ∀ x H', J.yld i H x H' → g x (capt Ls.length fi σ) H' fun σ2 H2 =>
        tc σ2 H2 fun b H3 => if b = true then te σ2 H3 fun y H4 => N (ys ++ [y]) H4 else N ys H3))
    (fin : ∀ D C H' s' m, Inv X pins σ H' s' → Q (.ref D) H' → s'.heap.Ns C m → FpOk X pins H' C → RR (.ref D) C (.ok .next) s') :
    wpAny (model X.prog X.w) X.A (newList []) (fun acc s₃ => wpAny (model X.prog X.w) X.A (newFunctionEnv scope X.env.globals cl [] X.env.qual none .none (some X.env)) (fun cenv s₄ =>
      codeAny (model X.prog X.w) X.A (.compStart (.ListComp elt [⟨tg, iter, ifs, 0⟩] scope pos) 0 (.ref it) acc { cenv with scope := relabel scope X.env }) (RR acc cenv.locals) s₄) E s₃) E s2 := by
  refine wpAny_newObj_type (wpAny_newFunctionEnv S.cells (by intro y hy; simp at hy) (fun h₁ hns₁ hsb₁ => ?_) S.kind)
  dsimp only at hns₁ hsb₁ ⊢
  generalize hH3 : s2.heap.push { cls := .type "list", dict := none, data := .seq ([] : List Value).toArray } = h3 at hns₁ hsb₁ ⊢
  generalize hC : h3.objs.size = C at hns₁ hsb₁ ⊢
  generalize hD : s2.heap.objs.size = D
  have hCD : C = D + 1 := by rw [← hC, ← hH3, Heap.size_push, hD]
  have k23 : ∀ b o, s2.heap.get? b = some o → h3.get? b = some o := fun b o e => by rw [← hH3]; exact Heap.get?_push_of_some _ e
  have k34 : ∀ b o, h3.get? b = some o → h₁.get? b = some o := fun b o e => hsb₁.extBut b o (Nat.ne_of_lt (by have := aLt e; omega)) (Heap.get?_push_of_some _ e)
  have hDo : h3.get? D = some { cls := .type "list", data := .seq ([] : List Value).toArray } := by rw [← hH3, ← hD]; exact Heap.get?_push_size _ rfl
  obtain ⟨W, ⟨m0, w0⟩, turn⟩ := hW
  -- the state where the block begins
  have I3 : Inv X pins σ H2 { s2 with heap := h3 } := I2.kept (t' := s2.toks) k23
  have frD : H2 D = none := by rw [← hD]; exact I2.fresh
  have frC : H2 C = none := I2.hok.fresh (by omega)
  have DL : D ≠ X.env.locals := Nat.ne_of_gt (by have : @LT.lt Nat _ X.env.locals s2.heap.objs.size := I2.lt; omega)
  have CL : C ≠ X.env.locals := Nat.ne_of_gt (by have : @LT.lt Nat _ X.env.locals s2.heap.objs.size := I2.lt; omega)
  have cellLt : ∀ x c, X.env.cells.lookup x = some c → @LT.lt Nat _ c D := fun x c e => by
    obtain ⟨v, q⟩ := I2.cell x c e
    have : @LT.lt Nat _ c s2.heap.objs.size := q.lt
    omega
  have fpLt : ∀ b ∈ fp, @LT.lt Nat _ b D := fun b hb => by
    obtain ⟨o, e, _⟩ := T.obj _ _ st2 b hb
    have := aLt e
    omega
  have exLoc : ∀ b ∈ D :: fp, b ≠ C ∧ (∀ x c, X.env.cells.lookup x = some c → c ≠ b) := fun b hb => by
    rcases List.mem_cons.mp hb with e | hb
    · subst e
      exact ⟨Nat.ne_of_lt (by omega), fun x c e => Nat.ne_of_lt (cellLt x c e)⟩
    · exact ⟨Nat.ne_of_lt (by have := fpLt b hb; omega), (f2 b hb).2.2.2.2.1⟩
  have ok' : (blk X scope (Ls ++ Fs) cl C { s2 with heap := h3 } H2 (D :: fp)).Ok := by
    refine ⟨I2.ok.mod, S.kind, I2.ok.glob, I2.ok.blt, ?_, fun x y c e1 e2 => I2.ok.inj x y c (hcl1 x c e1) (hcl1 y c e2), fun x hx => ?_, fun x c hx => absurd hx Bool.false_ne_true, I2.ok.hd, I2.ok.frames, .inl rfl,
      fun b hb => ⟨(exLoc b hb).1, fun x c e => (exLoc b hb).2 x c (hcl1 x c e)⟩, I3.bs, Nat.le_trans I2.ok.bsz I3.sz, fun b o e hb => ?_, fun b hb => ?_, I3.stack, I3.stkFree⟩
    · show h3.objs.size ≤ C
      omega
    · obtain ⟨y, hy, e1, e2⟩ := relabel_free S.cells hx
      obtain ⟨c, q⟩ := hcl2 y hy e2
      exact ⟨c, e1 ▸ q⟩
    · rcases List.mem_cons.mp hb with z | hb
      · exact absurd z (Nat.ne_of_lt (by have := aLt (I2.bk b o e); omega))
      · rcases (f2 b hb).2.2.2.1 with z | z
        · exact I2.ok.noex b o e z
        · have h1 : @LT.lt Nat _ b X.base.objs.size := aLt e
          have h2 : @LE.le Nat _ X.base.objs.size X.s₀.heap.objs.size := I2.ok.bsz
          have h3 : @LE.le Nat _ X.s₀.heap.objs.size b := z
          omega
    · intro hz
      have hz' := I2.stkSub b hz
      rcases List.mem_cons.mp hb with e | hb
      · subst e
        rcases List.mem_cons.mp hz' with z | z
        · exact DL z
        · exact I2.nofs (by omega) z
      · rcases List.mem_cons.mp hz' with z | z
        · exact (f2 b hb).2.1 z
        · exact (f2 b hb).2.2.1 z
  obtain ⟨m2, hn2, hl2⟩ := id I2.loc
  -- the captured values lie in cells that no one changes
  have cap : ∀ (i : Nat) (x : Str) (v : V), (Ls ++ Fs)[i]? = some x → (capt Ls.length fi σ)[i]? = some (some v) → ∃ u c, RelV v u ∧ ((relabel scope X.env).names.lookup x = some .cell ∨ (relabel scope X.env).names.lookup x = some .free) ∧
      cl.lookup x = some c ∧ X.env.cells.lookup x = some c ∧ s2.heap.IsCell c (some u) := by
    intro i x v e1 e2
    unfold capt at e2
    by_cases hi : i < Ls.length
    · rw [List.getElem?_append_left (by simpa using hi), List.getElem?_replicate, if_pos hi] at e2
      cases e2
    · have hi' : Ls.length ≤ i := Nat.le_of_not_lt hi
      rw [List.getElem?_append_right hi'] at e1
      rw [List.getElem?_append_right (by simpa using hi'), List.length_replicate, List.getElem?_map] at e2
      cases e3 : fi[i - Ls.length]? with
      | none => rw [e3] at e2; cases e2
      | some j =>
        rw [e3] at e2
        have e4 : σ.getD j none = some v := Option.some.inj e2
        have e5 : X.N[j]? = some x := by
          have q := congrArg (fun l => l[i - Ls.length]?) S.ix
          simp only [List.getElem?_map, e3, e1, Option.map_some] at q
          exact Option.some.inj q
        have e6 : σ[j]? = some (some v) := by
          rw [List.getD_eq_getElem?_getD] at e4
          cases e7 : σ[j]? with
          | none => rw [e7] at e4; cases e4
          | some z => rw [e7] at e4; exact congrArg some e4
        have fx := S.fre x (List.mem_of_getElem? e1)
        have al := S.all (x, .free) (PySem.mem_of_lookup fx) rfl
        have vis : Vis X.env.scope x := by
          rcases al with z | z
          · exact .inr (.inl z)
          · exact .inr (.inr z)
        obtain ⟨u, ru, lk⟩ := hl2 j x v e5 e6 vis
        rcases lk with ⟨k, _⟩ | ⟨k, c, ec, hcell⟩
        · have k' : X.env.scope.names.lookup x = some .local := k
          rcases al with z | z
          · rw [show X.env.scope.names.lookup x = some .cell from z] at k'; cases k'
          · rw [show X.env.scope.names.lookup x = some .free from z] at k'; cases k'
        · obtain ⟨c', ec'⟩ := hcl2 (x, .free) (PySem.mem_of_lookup fx) rfl
          have : c' = c := Option.some.inj ((hcl1 x c' ec').symm.trans ec)
          subst this
          exact ⟨u, c', ru, relabel_look fx, ec', ec, hcell⟩
  have capLen : (capt Ls.length fi σ).length = (Ls ++ Fs).length := by
    unfold capt
    have q := congrArg List.length S.ix
    simp only [List.length_map] at q
    rw [List.length_append, List.length_replicate, List.length_map, List.length_append, q]
  -- whatever the block's names hold, the captured ones hold what they held
  have re : ∀ {ps : List (Addr × Obj)} {σ' : St} {H' : Hp} {s' : Shared}, Inv (blk X scope (Ls ++ Fs) cl C { s2 with heap := h3 } H2 (D :: fp)) ps σ' H' s' → Inv (blk X scope (Ls ++ Fs) cl C { s2 with heap := h3 } H2 (D :: fp)) ps (capt Ls.length fi σ) H' s' := by
    intro ps σ' H' s' J'
    refine ⟨J'.ok, J'.os, J'.bare, J'.base, ?_, J'.cell, J'.free, J'.freeC, J'.pin, J'.hok, capLen⟩
    obtain ⟨m, hn, _⟩ := J'.loc
    refine ⟨m, hn, fun i x v e1 e2 _ => ?_⟩
    obtain ⟨u, c, ru, kk, ec, ec2, o, ho, hd⟩ := cap i x v e1 e2
    obtain ⟨sl, q⟩ := J'.base.any (k23 c o ho) (I2.freeC x c ec2) fun z => (exLoc c z).2 x c ec2 rfl
    exact ⟨u, ru, .inr ⟨kk, c, ec, _, q, hd⟩⟩
  have I4 : Inv (blk X scope (Ls ++ Fs) cl C { s2 with heap := h3 } H2 (D :: fp)) [(D, { cls := .type "list", data := .seq ([] : List Value).toArray })] (capt Ls.length fi σ) H2 { s2 with heap := h₁, toks := s2.toks + ([] : List (Str × Value)).length } := by
    refine ⟨ok', rfl, I2.bare, Un.kept k34, ⟨_, hns₁, fun i x v e1 e2 _ => ?_⟩, fun x c e => ?_, frC, fun x c e => I2.freeC x c (hcl1 x c e), fun p hp => ?_, I2.hok.kept fun b o e => k34 b o (k23 b o e), capLen⟩
    · obtain ⟨u, c, ru, kk, ec, ec2, o, ho, hd⟩ := cap i x v e1 e2
      exact ⟨u, ru, .inr ⟨kk, c, ec, o, k34 c o (k23 c o ho), hd⟩⟩
    · obtain ⟨v, o, ho, hd⟩ := I2.cell x c (hcl1 x c e)
      exact ⟨v, o, k34 c o (k23 c o ho), hd⟩
    · have hp' : p = (D, { cls := .type "list", data := .seq ([] : List Value).toArray }) := by
        have : p ∈ ([] : List (Addr × Obj)) ++ [(D, { cls := .type "list", data := .seq ([] : List Value).toArray })] := hp
        simpa using this
      subst hp'
      refine ⟨k34 D _ hDo, frD, Nat.ne_of_lt (show @LT.lt Nat _ D C by omega), fun z => ?_, fun v z => by cases z⟩
      rcases List.mem_cons.mp (I2.stkSub D z) with z | z
      · exact DL z
      · exact I2.nofs (by omega) z
  obtain ⟨hg, ht, he⟩ := hb C { s2 with heap := h3 } H2 (D :: fp)
  -- behind the block: what the def's own context knows
  have back : ∀ {ps : List (Addr × Obj)} {σ' : St} {H' : Hp} {s' : Shared} {ys : List V} {its : List Value} {n : Nat}, Inv (blk X scope (Ls ++ Fs) cl C { s2 with heap := h3 } H2 (D :: fp)) ps σ' H' s' → s'.heap.get? D = some { cls := .type "list", data := .seq its.toArray n } →
      H' D = none → Vals ys its → ys.length ≤ sizeLine → Inv X pins σ (upd H' D (.lst ys)) s' ∧ FpOk X pins (upd H' D (.lst ys)) C := by
    intro ps σ' H' s' ys its n J' hDs hDn rv hz
    have neD : ∀ b o, s2.heap.get? b = some o → b ≠ D := fun b o e => Nat.ne_of_lt (by have := aLt e; omega)
    have nex : ∀ b, b ∉ fp → b ≠ D → b ∉ D :: fp := fun b h1 h2 z => (List.mem_cons.mp z).elim h2 h1
    have U : Un (frs X.stack) fp H2 (upd H' D (.lst ys)) s2.heap s'.heap := by
      refine ⟨fun b o e n hb hx => J'.base.keep b o (k23 b o e) n hb (nex b hx (neD b o e)), fun b o e n hb hx => J'.base.slot b o (k23 b o e) n hb (nex b hx (neD b o e)), fun b o e n hx => ?_, fun b o e hx => J'.base.there b o (k23 b o e) (nex b hx (neD b o e)), fun b xs e => ?_, fun b o u e => ?_, fun b ps e => ?_⟩
      · rw [upd_ne (neD b o e)]
        exact J'.base.free b o (k23 b o e) n (nex b hx (neD b o e))
      · rw [upd_ne (ne_of_none e frD)]
        exact J'.base.tups b xs e
      · rw [upd_ne (ne_of_none e frD)]
        exact J'.base.frzs b o u e
      · obtain ⟨more, q⟩ := J'.base.tbls b ps e
        exact ⟨more, by rw [upd_ne (ne_of_none e frD)]; exact q⟩
    have hok' : HOk X.prog X.w (upd H' D (.lst ys)) s'.heap := fun b u q => by
      by_cases hbD : b = D
      · subst hbD
        rw [upd_same] at q
        cases q
        exact ⟨hz, its, n, rv, hDs⟩
      · rw [upd_ne hbD] at q
        exact (J'.hok b u q).stay (fun c v _ r => r) (fun c r => by rw [upd_ne (ne_of_none r hDn)]; exact r) fun c xs r => by rw [upd_ne (ne_of_none r hDn)]; exact r
    refine ⟨I2.call' J'.os U hok' J'.bare fun b hb => ⟨(f2 b hb).2.2.2.1, (f2 b hb).2.1, (f2 b hb).2.2.2.2.1, (f2 b hb).2.2.2.2.2⟩, ?_⟩
    refine ⟨by rw [upd_ne (Nat.ne_of_gt (by omega))]; exact J'.free, CL, I2.nofs (by omega), .inr (by have := I2.sz; omega), fun x c e => Nat.ne_of_lt (by have := cellLt x c e; omega), fun p hp => ?_⟩
    have := aLt (I2.pin p hp).1
    exact Nat.ne_of_lt (by omega)
  have loop : codeAny (model X.prog X.w) X.A (.compLoop (.ListComp elt [⟨tg, iter, ifs, 0⟩] scope pos) 0 (.ref it) (.ref D) (compEnvC scope cl C X.env)) (RR (.ref D) C) { s2 with heap := h₁, toks := s2.toks + ([] : List (Str × Value)).length } := by
    refine comp_loop (fun n s' => ∃ (i : Nat) (ys : List V) (H' : Hp) (its : List Value) (k : Nat), Inv (blk X scope (Ls ++ Fs) cl C { s2 with heap := h3 } H2 (D :: fp)) [(D, { cls := .type "list", data := .seq its.toArray k })] (capt Ls.length fi σ) H' s' ∧
      Vals ys its ∧ tn i s'.heap ∧ (∀ b ∈ fp, H' b = none) ∧ W i n ys H') ?_ m0 ⟨0, [], H2, [], 0, I4, .nil, T.keep _ _ _ st2 fun b _ o e => k34 b o (k23 b o e), fun b hb => (f2 b hb).1, w0⟩
    rintro n s5 ⟨i, ys, H5, its, k, I5, rv, st5, fr5, w5⟩
    have stat : ∀ {H' : Hp} {its' : List Value} {k' : Nat}, (∀ b ∈ fp, H' b = none) → ∀ b ∈ fp, FpOk (blk X scope (Ls ++ Fs) cl C { s2 with heap := h3 } H2 (D :: fp)) [(D, { cls := .type "list", data := .seq its'.toArray k' })] H' b := fun hn b hb => by
      refine ⟨hn b hb, (exLoc b (List.mem_cons_of_mem _ hb)).1, fun z => ok'.exfs b (List.mem_cons_of_mem _ hb) z, .inl (List.mem_cons_of_mem _ hb), fun x c e => (exLoc b (List.mem_cons_of_mem _ hb)).2 x c (hcl1 x c e), fun p hp => ?_⟩
      have hp' : p = _ := List.mem_singleton.mp hp
      rw [hp']
      have := fpLt b hb
      show D ≠ b
      exact Nat.ne_of_gt this
    have pinD := I5.pin (D, { cls := .type "list", data := .seq its.toArray k }) (List.mem_singleton.mpr rfl)
    rcases turn i n ys H5 w5 with ⟨stop, hz, qn⟩ | ⟨go, hz, N, hN, step⟩
    · refine wpAny_mono (T.done (blk X scope (Ls ++ Fs) cl C { s2 with heap := h3 } H2 (D :: fp)) rfl rfl rfl hc i _ s5 _ H5 _ I5 (stat fr5) st5 stop) (fun r s6 ⟨hr, I6⟩ => ?_) fun _ _ h => h
      subst hr
      have pin6 := I6.pin (D, { cls := .type "list", data := .seq its.toArray k }) (List.mem_singleton.mpr rfl)
      obtain ⟨b1, b2⟩ := back I6 pin6.1 pin6.2.1 rv hz
      obtain ⟨m, hn, _⟩ := I6.loc
      exact fin D C _ s6 m b1 (qn D pin6.2.1) hn b2
    · refine wpAny_mono (T.item (blk X scope (Ls ++ Fs) cl C { s2 with heap := h3 } H2 (D :: fp)) rfl rfl rfl hc i _ s5 _ H5 _ I5 (stat fr5) st5 go) (fun r s6 ⟨u, hr, h6⟩ => ?_) fun _ _ h => h
      subst hr
      refine wpAny_mono h6 (fun _ s7 ⟨x, H7, I7, r7, y7, st7, fr7⟩ => ?_) fun _ _ h => h
      have I7' := I7.pinned (stat fr7) (T.obj _ _ st7)
      refine wpAny_mono (hg _ s7 _ H7 x u _ I7' r7 (step x H7 y7)) (fun _ s8 ⟨σ8, H8, I8, q8⟩ => ?_) fun _ _ h => h
      refine wpAny_mono (ht _ s8 σ8 H8 _ I8 q8) (fun ok s9 ⟨H9, I9, q9⟩ => ?_) fun _ _ h => h
      have keepT : ∀ {σ' : St} {H' : Hp} {s' : Shared}, Inv (blk X scope (Ls ++ Fs) cl C { s2 with heap := h3 } H2 (D :: fp)) ([(D, { cls := .type "list", data := .seq its.toArray k })] ++ pinsAt fp s7.heap) σ' H' s' → tn (i + 1) s'.heap ∧ ∀ b ∈ fp, H' b = none := by
        intro σ' H' s' J'
        refine ⟨T.keep _ _ _ st7 fun b hb o e => (J'.pin (b, o) (List.mem_append_right _ (List.mem_append_right _ (mem_pinsAt hb e)))).1, fun b hb => ?_⟩
        obtain ⟨o, e, d⟩ := T.obj _ _ st7 b hb
        exact (J'.pin (b, o) (List.mem_append_right _ (List.mem_append_right _ (mem_pinsAt hb e)))).2.1
      cases ok with
      | false =>
        rw [if_neg Bool.false_ne_true] at q9 ⊢
        obtain ⟨m', hm, w'⟩ := hN _ _ q9
        exact ⟨m', hm, i + 1, ys, H9, its, k, re I9.unpinned, rv, (keepT I9).1, (keepT I9).2, w'⟩
      | true =>
        rw [if_pos rfl] at q9 ⊢
        refine wpAny_mono (he _ s9 σ8 H9 _ I9 q9) (fun v s10 ⟨y, H10, I10, r10, q10⟩ => ?_) fun _ _ h => h
        obtain ⟨m', hm, w'⟩ := hN _ _ q10
        obtain ⟨k10, f10⟩ := keepT I10
        have I11 : Inv (blk X scope (Ls ++ Fs) cl C { s2 with heap := h3 } H2 (D :: fp)) [(D, { cls := .type "list", data := .seq its.toArray k })] (capt Ls.length fi σ) H10 s10 := re I10.unpinned
        have pin11 := I11.pin (D, { cls := .type "list", data := .seq its.toArray k }) (List.mem_singleton.mpr rfl)
        refine wpAny_list_append_plain ⟨k, pin11.1⟩ (fun h' hp' sb => ?_) (by rw [List.size_toArray, ← rv.length]; exact hz)
        obtain ⟨k', hk'⟩ := hp'
        have e1 : its.toArray.push v = (its ++ [v]).toArray := by simp
        rw [e1] at hk'
        have I12 : Inv (blk X scope (Ls ++ Fs) cl C { s2 with heap := h3 } H2 (D :: fp)) [] (capt Ls.length fi σ) H10 { s10 with heap := h', toks := s10.toks } :=
          (I11.pins_of (pins' := []) fun p hp => (nomatch hp)).turned (it := D) (fun b o hb e => (sb.2 b hb).trans e) pin11.2.1 pin11.2.2.1 (.inl List.mem_cons_self) (fun x c e => (exLoc D List.mem_cons_self).2 x c (hcl1 x c e)) fun p hp => (nomatch hp)
        have I13 : Inv (blk X scope (Ls ++ Fs) cl C { s2 with heap := h3 } H2 (D :: fp)) [(D, { cls := .type "list", data := .seq (its ++ [v]).toArray k' })] (capt Ls.length fi σ) H10 { s10 with heap := h', toks := s10.toks } := I12.pins_of fun p hp => by
          have hp' : p = _ := List.mem_singleton.mp hp
          subst hp'
          exact ⟨hk', pin11.2.1, pin11.2.2.1, pin11.2.2.2.1, fun v z => by cases z⟩
        refine ⟨m', hm, i + 1, ys ++ [y], H10, its ++ [v], k', I13, rv.append (.cons r10 .nil), ?_, f10, w'⟩
        exact T.keep _ _ _ k10 fun b hb o e => (sb.2 b (Nat.ne_of_lt (fpLt b hb))).trans e
  exact codeAny_compStart_list loop (T.self _ 0 _ _ _ (T.keep _ _ _ st2 fun b _ o e => k34 b o (k23 b o e)) loop)

/-- [elt for tg in iter if ..], as a value -/
theorem pe_lc {wi : TI} (S : LcScope X.N X.env.scope scope Ls Fs fi) (hc : X.calm = true) (hi : PI X tg iter wi)
    (hb : ∀ cl C s3 H3 ex, PG (blk X scope (Ls ++ Fs) cl C s3 H3 ex) tg g ∧ PTs (blk X scope (Ls ++ Fs) cl C s3 H3 ex) ifs tc ∧ PE (blk X scope (Ls ++ Fs) cl C s3 H3 ex) elt te)
    (hs : ∀ x, foldedSetIterable iter X.env x = pure x := by intro _; rfl) : PE X (.ListComp elt [⟨tg, iter, ifs, 0⟩] scope pos) (tLc Ls.length fi wi g tc te) := by
  intro pins s σ H Q I h
  rw [eval_ListComp]
  obtain ⟨cl, hcl, hcl1, hcl2⟩ := clos_ok (scope := scope) (env := X.env) fun y hy hf => I.ok.has y.1 (S.all y hy hf)
  refine wpAny_comprehension_free (use := none) rfl hs hcl S.kind S.names (wpAny_mono (hi pins s σ H _ I h) (fun v s1 h1 => wpAny_mono h1 (fun itv s2 h2 => ?_) fun _ _ e => e) fun _ _ e => e)
  obtain ⟨it, fp, tn, J, H2, e, I2, T, st2, f2, hW⟩ := h2
  subst e
  refine lc_block (RR := fun acc C => compPost (model X.prog X.w) X.A X.xe none (EP X pins σ Q) acc C) S hc (hb cl) hcl1 hcl2 I2 T st2 f2 hW fun D C H' s' m I' q hn f => ?_
  obtain ⟨f0, f1, f2, f3, f4, f5⟩ := f
  exact ⟨m, hn, fun h' hs' => ⟨.ref D, H', I'.turned (it := C) (t' := s'.toks) (fun b o hb e => (hs'.2 b hb).trans e) f0 f1 f3 f4 f5, rfl, q⟩⟩

/-- x = [elt for tg in iter if ..] on one row: the name is stored ahead of the block's own names going -/
theorem ps_lc {wi : TI} {i : Nat} {x : Str} {pos' spos : Pos} (hN : X.N.Nodup) (hi' : X.N[i]? = some x) (hx : Loc X.env.scope x) (S : LcScope X.N X.env.scope scope Ls Fs fi) (hc : X.calm = true) (hi : PI X tg iter wi)
    (hb : ∀ cl C s3 H3 ex, PG (blk X scope (Ls ++ Fs) cl C s3 H3 ex) tg g ∧ PTs (blk X scope (Ls ++ Fs) cl C s3 H3 ex) ifs tc ∧ PE (blk X scope (Ls ++ Fs) cl C s3 H3 ex) elt te)
    (hsw : swapsWith (.ListComp elt [⟨tg, iter, ifs, 0⟩] scope pos) (some (.Name x pos')) spos.line X.env = pure true := by rfl)
    (hs : ∀ x, foldedSetIterable iter X.env x = pure x := by intro _; rfl) (hf : X.fn x = true ∨ X.env.scope.names.lookup x = some .local := by first | exact .inl rfl | exact .inr rfl | assumption) :
    PS X (.Assign [.Name x pos'] (.ListComp elt [⟨tg, iter, ifs, 0⟩] scope pos) spos) (tAsg (tLc Ls.length fi wi g tc te) (gName i)) := by
  intro pins s σ H D' I h
  rw [exec_Assign_Name_used _ _ _ _ hsw]
  obtain ⟨cl, hcl, hcl1, hcl2⟩ := clos_ok (scope := scope) (env := X.env) fun y hy hf => I.ok.has y.1 (S.all y hy hf)
  refine wpAny_bind (wpAny_standAt (wpAny_bind ?_))
  show wpAny _ X.A (do let _ ← comprehension (.ListComp elt [⟨tg, iter, ifs, 0⟩] scope pos) scope X.env _ (newList []) false (eval iter X.env) (some (assign (.Name x pos') X.env))) _ _ s
  refine wpAny_bind (wpAny_mono (wpAny_comprehension_free (use := some (assign (.Name x pos') X.env)) (Q := fun _ s' => SP X pins D' .next s') rfl hs hcl S.kind S.names
    (wpAny_mono (hi pins s σ H _ I h) (fun v s1 h1 => wpAny_mono h1 (fun itv s2 h2 => ?_) fun _ _ e => e) fun _ _ e => e)) (fun _ s' hq => wpAny_pure (wpAny_pure hq)) fun _ _ e => e)
  obtain ⟨it, fp, tn, J, H2, e, I2, T, st2, f2, hW⟩ := h2
  subst e
  refine lc_block (RR := fun acc C => compPost (model X.prog X.w) X.A X.xe (some (assign (.Name x pos') X.env)) (fun _ s' => SP X pins D' .next s') acc C) (Q := fun x H1 => gName i x σ H1 D'.nx) S hc (hb cl) hcl1 hcl2 I2 T st2 f2 hW fun D C H' s' m I' q hn f => ?_
  obtain ⟨f0, f1, f2, f3, f4, f5⟩ := f
  show wpAny _ X.A (assign (.Name x pos') X.env (.ref D)) _ _ _
  refine wpAny_assign_Name (store_ok2 I' hN hi' hx (v := .ref D) rfl (fun s'' I'' hch => ?_) hf)
  obtain ⟨a, sb, ha⟩ := hch
  have hCa : C ≠ a := by
    rcases ha with z | z
    · rw [z]; exact f1
    · exact (f4 x a z).symm
  exact ⟨m, hn.sameBut sb hCa, fun h' hs' => ⟨_, H', I''.turned (it := C) (t' := s''.toks) (fun b o hb e => (hs'.2 b hb).trans e) f0 f1 f3 f4 f5, q⟩⟩
end
end L2

/-! More of the language over the hand layer: enumerate, isinstance, all, sorted, deep == and !=, count, a dict of the module's. -/
namespace L2
open PySem PySem.Spec PyProof.Rows PyProof.V

/-! ### enumerate -/
def Ite (K : PySem.W.Frag) (a : Addr) : It :=
  ⟨fun i H => ∃ xs x, SqL K H a xs ∧ xs[i]? = some x, fun i H v H' => ∃ p x, v = .ref p ∧ H p = none ∧ H' = upd H p (.tup [.int i, x]) ∧ ∀ xs, SqL K H a xs → xs[i]? = some x, fun i H => ∃ xs, SqL K H a xs ∧ xs.length ≤ i⟩
theorem turn_enum {P : Program} {w : World} {K : PySem.W.Frag} {es : List Expr} {k : Nat} {pos : Pos} (a e it : Addr) (hei : e ≠ it) :
    Turn P w K (.Tuple es k pos) (Ite K a) [e, it] e (fun i h => (∃ old, IsEnum h e it i old) ∧ h.IsListIter it a i) where
  mem := by simp
  obj := fun i h st b hb => by
    obtain ⟨⟨old, he⟩, o, ho, c, d⟩ := st
    rcases List.mem_cons.mp hb with z | z
    · subst z
      exact ⟨_, he, fun v z => by
        have z' : Data.fields _ = Data.cell v := z
        cases z'⟩
    · have z' : b = it := by simpa using z
      subst z'
      exact ⟨o, ho, fun v z => by rw [d] at z; cases z⟩
  keep := fun i h h' st k => by
    obtain ⟨⟨old, he⟩, hi⟩ := st
    exact ⟨⟨old, k e (by simp) _ he⟩, hi.at fun o x => k it (by simp) o x⟩
  item := by
    intro X hP hw hK hc i pins s σ H E I hf st hg
    subst hP hw hK
    obtain ⟨xs, x, hq, hx⟩ := hg
    obtain ⟨its, rv, p, hz⟩ := I.list hq
    obtain ⟨u, hu, ru⟩ := rv.get hx
    obtain ⟨⟨old, he⟩, hi⟩ := st
    obtain ⟨e0, e1, e2, e3, e4, e5⟩ := hf e (by simp)
    obtain ⟨f0, f1, f2, f3, f4, f5⟩ := hf it (by simp)
    refine wpAny_pyNext_enum_item he hi p.isList (x := u) (by simpa using hu) hei fun h' ho hit ht hsz kk => ⟨_, rfl, ?_⟩
    refine wpAny_letOwnedTupleGo_enum (s := { s with heap := h', toks := s.toks + 1 }) ho fun h'' he'' hs'' => ?_
    have Tn : @LT.lt Nat _ e s.heap.objs.size := aLt he
    have kk2 : ∀ b o, b ≠ e → b ≠ it → s.heap.get? b = some o → h''.get? b = some o := fun b o h1 h2 q => (hs''.2 b h1).trans (kk b o h1 h2 q)
    have nne : ∀ b u, H b = some u → b ≠ e ∧ b ≠ it := fun b u q => ⟨fun z => by (rw [z, e0] at q; cases q), fun z => by (rw [z, f0] at q; cases q)⟩
    have fr : H s.heap.objs.size = none := I.hok.fresh (Nat.le_refl _)
    have hT : h''.get? s.heap.objs.size = some { cls := .type "tuple", data := .seq #[.int i s.toks, u] } := (hs''.2 _ (Nat.ne_of_gt Tn)).trans ht
    have nT : ∀ b o, s.heap.get? b = some o → b ≠ s.heap.objs.size := fun b o q => Nat.ne_of_lt (aLt q)
    have ok' : HOk X.prog X.w (upd H s.heap.objs.size (.tup [.int i, x])) h'' := fun b o q => by
      by_cases hb : b = s.heap.objs.size
      · subst hb
        rw [upd_same] at q
        cases q
        exact ⟨show 2 ≤ sizeLine by decide, [.int i s.toks, u], .cons ⟨_, rfl⟩ (.cons ru .nil), ⟨_, hT, rfl, _, rfl⟩⟩
      · rw [upd_ne hb] at q
        refine (I.hok b o q).stay (fun c v hc r => ?_) (fun c r => by rw [upd_ne (ne_of_none r fr)]; exact r) fun c xs r => by rw [upd_ne (ne_of_none r fr)]; exact r
        rcases hc with z | z
        · subst z
          exact kk2 c v (nne c o q).1 (nne c o q).2 r
        · exact kk2 c v (nne c _ z).1 (nne c _ z).2 r
    have I1 : Inv X pins σ (upd H s.heap.objs.size (.tup [.int i, x])) { s with heap := h'', gens := s.gens, drawn := s.drawn, toks := s.toks + 1 } := by
      refine I.step (ch := [e, it]) (fun b hb => ?_) (fun b o _ _ hc q _ => kk2 b o (fun z => hc (by simp [z])) (fun z => hc (by simp [z])) q) (fun b o _ _ hc q _ => ⟨o.slots, kk2 b o (fun z => hc (by simp [z])) (fun z => hc (by simp [z])) q⟩)
        (fun b o _ q n => by rw [upd_ne (nT b o q)]; exact n) (fun b o hc q => ⟨o, kk2 b o (fun z => hc (by simp [z])) (fun z => hc (by simp [z])) q⟩) (fun b xs q => by rw [upd_ne (ne_of_none q fr)]; exact q) (fun b o u q => by rw [upd_ne (ne_of_none q fr)]; exact q)
        (fun b ps q => ⟨#[], by rw [upd_ne (ne_of_none q fr), q]; simp⟩) (fun m hm => ?_) ok' I.bare
      · rcases List.mem_cons.mp hb with z | z
        · subst z; exact ⟨e3, e1, e4, e5⟩
        · have z' : b = it := by simpa using z
          subst z'; exact ⟨f3, f1, f4, f5⟩
      · obtain ⟨o, es, ep, ho, r⟩ := hm
        exact ⟨o, es, ep, kk2 _ o (Ne.symm e1) (Ne.symm f1) ho, r⟩
    refine ⟨.ref s.heap.objs.size, _, I1, rfl, ⟨s.heap.objs.size, x, rfl, fr, rfl, fun ys hy => by rw [I.list_inj hy hq]; exact hx⟩, ⟨⟨_, by simpa using he''⟩, hit.at fun o q => (hs''.2 it (Ne.symm hei)).trans q⟩, fun b hb => ?_⟩
    have hbo : ∃ o, s.heap.get? b = some o := by
      rcases List.mem_cons.mp hb with z | z
      · subst z; exact ⟨_, he⟩
      · have z' : b = it := by simpa using z
        subst z'
        obtain ⟨o, ho, _⟩ := hi
        exact ⟨o, ho⟩
    obtain ⟨o, hbo⟩ := hbo
    rw [upd_ne (nT b o hbo)]
    exact (hf b hb).1
  done := by
    intro X hP hw hK hc i pins s σ H E I hf st hg
    subst hP hw hK
    obtain ⟨xs, hq, hx⟩ := hg
    obtain ⟨its, rv, p, hz⟩ := I.list hq
    obtain ⟨⟨old, he⟩, hi⟩ := st
    obtain ⟨f0, f1, f2, f3, f4, f5⟩ := hf it (by simp)
    have hl := rv.length
    exact wpAny_pyNext_enum_end (I.ok.hd hc) he hi p.isList (by simp; omega) fun h' eb => ⟨rfl, I.turned (t' := s.toks) (fun b o hb e => eb b o hb e) f0 f1 f3 f4 f5⟩
  self := fun _ _ _ _ _ st h => by
    obtain ⟨⟨old, he⟩, _⟩ := st
    exact wpAny_pyIter_enum he h
section
variable {X : Cx}
def iEnum (K : PySem.W.Frag) (ta : TA) : TI := fun σ H R => ta σ H fun vs H1 => ∃ a, vs = [.ref a] ∧ (∃ xs, SqL K H1 a xs) ∧ R (Ite K a) H1
theorem pi_enum {a : Expr} {ta : TA} {p pos tpos : Pos} {es : List Expr} {k : Nat} (hg : Gl X "enumerate") (hm : X.mg "enumerate" = none) (ha : PA X [a] ta) (hs : starEach [a] X.env = [(false, eval a X.env)] := by rfl) :
    PI X (.Tuple es k tpos) (.Call (.Name "enumerate" p) [a] [] pos) (iEnum X.K ta) := by
  intro pins s σ H R I h
  refine Call_ (ld_blt I hg hm boot_enumerate (PyProof.Rows.callWith_type1 (thn (ha pos pins s σ H _ I h) fun us s1 ⟨vs, H1, I1, r1, q1⟩ => ?_) hs rfl))
  obtain ⟨l, e, ⟨xs, hq⟩, q⟩ := q1
  subst e
  cases r1 with
  | cons r rr =>
    cases rr
    cases r
    obtain ⟨its, rv, pl, hz⟩ := I1.list hq
    refine call_enumerate_list pl.isList fun h' he hi hsz kk => ?_
    have I2 : Inv X pins σ H1 { s1 with heap := h' } := I1.kept (t' := s1.toks) kk
    refine wpAny_pyIter_enum (s := { s1 with heap := h' }) he ?_
    refine ⟨_, [s1.heap.objs.size + 1, s1.heap.objs.size], _, _, H1, rfl, I2, turn_enum l _ _ (Nat.succ_ne_self _), ⟨⟨_, he⟩, hi⟩, fun b hb => ?_, q⟩
    have hb' : s1.heap.objs.size ≤ b := by
      rcases List.mem_cons.mp hb with z | z
      · subst z; exact Nat.le_succ _
      · have z' : b = s1.heap.objs.size := by simpa using z
        subst z'; exact Nat.le_refl _
    exact I1.fpOk hb' (I1.hok.fresh hb')
end

/-! ### isinstance, all, sorted, count -/
section
variable {X : Cx}
theorem ints_of_vals : ∀ {ns : List Int} {vs : List Value}, Vals (ns.map V.int) vs → IntsAre vs ns
  | [], _, r => by cases r; exact .nil
  | n :: ns, _, r => by
    cases r with
    | cons r rr =>
      obtain ⟨t, rfl⟩ := r
      exact .cons n t (ints_of_vals rr)
def rCount (K : PySem.W.Frag) : V → List V → Hp → VK → Prop := fun x vs H Q => ∃ (l : Addr) (xs : List V) (y : V), x = .ref l ∧ vs = [y] ∧ SqL K H l xs ∧ flatV y = true ∧ xs.all flatV = true ∧ Q (.int (xs.countP fun z => eqV z y)) H
theorem countP_eqU {x : V} : ∀ {xs : List V} {us : List Value}, Vals xs us → xs.all flatV = true → us.countP (eqU x) = xs.countP fun y => eqV y x
  | _, _, .nil, _ => rfl
  | _, _, .cons r rr, h => by
    rw [List.all_cons, Bool.and_eq_true] at h
    rw [List.countP_cons, List.countP_cons, countP_eqU rr h.2, eqU_of r h.1]
theorem mt_count : MtM X "list.count" (rCount X.K) := by
  intro pins s σ H x vs v us Q I rx rv h
  obtain ⟨l, xs, y, rfl, rfl, hq, fy, fx, q⟩ := h
  cases rx
  obtain ⟨u, rfl, ru⟩ := rv.one
  obtain ⟨its, r, pl, hz⟩ := I.list hq
  obtain ⟨⟨c, dd, dt, sl⟩, ho, hc, n, hd⟩ := pl.isList
  simp only at hc hd
  subst hc hd
  refine call_meets F.slot_list_count ⟨_, ho, rfl⟩ F.entry_list_count (F.args_list_count_2 _ _) (SeqAt.list_countAt l its.toArray n dd sl u (eqU y)) ⟨ho, fun w hw => mem_eqAt ru fy r fx w (by simpa using hw), ?_⟩
  refine ⟨.int _, H, I.tok _, ⟨_, rfl⟩, ?_⟩
  rw [show its.toArray.toList = its by simp, countP_eqU r fx]
  exact q
end

/-! ### == and != of what is built of lists, tuples and plain values -/
inductive Eqv (K : PySem.W.Frag) (H : Hp) : Nat → V → V → Prop
  | flat {n : Nat} {x : V} : flatV x = true → Eqv K H n x x
  | same {n : Nat} {a : Addr} : Eqv K H n (.ref a) (.ref a)
  | lst {n : Nat} {a b : Addr} {xs ys : List V} : SqL K H a xs → SqL K H b ys → xs.length = ys.length → (∀ (i : Nat) (x y : V), xs[i]? = some x → ys[i]? = some y → Eqv K H n x y) → Eqv K H (n + 1) (.ref a) (.ref b)
  | tup {n : Nat} {a b : Addr} {xs ys : List V} : SqT K H a xs → SqT K H b ys → xs.length = ys.length → (∀ (i : Nat) (x y : V), xs[i]? = some x → ys[i]? = some y → Eqv K H n x y) → Eqv K H (n + 1) (.ref a) (.ref b)
theorem all_true (n : Nat) : ((List.range n).all fun _ => true) = true := by rw [List.all_eq_true]; intro _ _; rfl
theorem eqV_self {x : V} (h : flatV x = true) : eqV x x = true := by
  cases x <;> simp_all [eqV, flatV]
theorem Eqv.at {X : Cx} {pins : List (Addr × Obj)} {σ : St} {H : Hp} {s : Shared} (I : Inv X pins σ H s) : ∀ {n : Nat} {x y : V} {u v : Value} {A : Around}, Eqv X.K H n x y → RelV x u → RelV y v → A.units + n < cLine → SeqAt.EqAt A s u v true := by
  intro n x y u v A h
  induction h generalizing u v A with
  | flat f =>
    intro ru rv _
    have := eqAt_V (A := A) (s := s) ru rv f f
    rw [eqV_self f] at this
    exact this
  | same =>
    intro ru rv _
    cases ru
    cases rv
    exact SeqAt.EqAt.same _
  | @lst n a b xs ys ha hb hl _ ih =>
    intro ru rv hu
    cases ru
    cases rv
    by_cases e : a = b
    · subst e; exact SeqAt.EqAt.same _
    · obtain ⟨its, r1, p1, _⟩ := I.list ha
      obtain ⟨its2, r2, p2, _⟩ := I.list hb
      have l1 := r1.length
      have l2 := r2.length
      refine SeqAt.EqAt.of_refs e ?_
      have q := SeqAt.RcAt.lists (A := A) (e := fun _ => true) p1.isList p2.isList (by simp only [List.size_toArray]; omega) (by omega) fun j h1 h2 => by
        simp only [List.size_toArray] at h1 h2
        obtain ⟨u1, e1, s1⟩ := r1.get (i := j) (x := xs[j]'(by omega)) (by simp)
        obtain ⟨u2, e2, s2⟩ := r2.get (i := j) (x := ys[j]'(by omega)) (by simp)
        have z1 : its.toArray[j] = u1 := by
          have : its[j]? = some its[j] := by simp [h1]
          rw [this] at e1
          simpa using Option.some.inj e1
        have z2 : its2.toArray[j] = u2 := by
          have : its2[j]? = some its2[j] := by simp [h2]
          rw [this] at e2
          simpa using Option.some.inj e2
        rw [z1, z2]
        exact ih j _ _ (by simp) (by simp) s1 s2 (by show A.units + 1 + n < cLine; omega)
      rw [all_true] at q
      exact q
  | @tup n a b xs ys ha hb hl _ ih =>
    intro ru rv hu
    cases ru
    cases rv
    by_cases e : a = b
    · subst e; exact SeqAt.EqAt.same _
    · obtain ⟨its, r1, p1, _⟩ := I.tuple ha
      obtain ⟨its2, r2, p2, _⟩ := I.tuple hb
      have l1 := r1.length
      have l2 := r2.length
      refine SeqAt.EqAt.of_refs e ?_
      have q := SeqAt.RcAt.tuples (A := A) (s := s) (l := a) (b := b) (items := its.toArray) (items2 := its2.toArray) (e := fun _ => true) p1 p2 (by omega) fun j h1 h2 => by
        simp only [List.size_toArray] at h1 h2
        obtain ⟨u1, e1, s1⟩ := r1.get (i := j) (x := xs[j]'(by omega)) (by simp)
        obtain ⟨u2, e2, s2⟩ := r2.get (i := j) (x := ys[j]'(by omega)) (by simp)
        have z1 : its.toArray[j] = u1 := by
          have : its[j]? = some its[j] := by simp [h1]
          rw [this] at e1
          simpa using Option.some.inj e1
        have z2 : its2.toArray[j] = u2 := by
          have : its2[j]? = some its2[j] := by simp [h2]
          rw [this] at e2
          simpa using Option.some.inj e2
        rw [z1, z2]
        exact ih j _ _ (by simp) (by simp) s1 s2 (by show A.units + 1 + n < cLine; omega)
      have e3 : (its.toArray.size == its2.toArray.size) = true := by
        rw [beq_iff_eq]; simp only [List.size_toArray]; omega
      rw [e3, all_true] at q
      exact q
section
variable {X : Cx}
/-- two lists whose items are alike: == tells True, != tells False -/
def rEqv (K : PySem.W.Frag) (b : Bool) : R2 := fun x y H Q => ∃ (p q : Addr) (xs ys : List V), x = .ref p ∧ y = .ref q ∧ SqL K H p xs ∧ SqL K H q ys ∧ xs.length = ys.length ∧ (∀ (i : Nat) (x y : V), xs[i]? = some x → ys[i]? = some y → Eqv K H 60 x y) ∧ Q (.bl b) H
theorem eqv_items {pins : List (Addr × Obj)} {σ : St} {H : Hp} {s : Shared} {xs ys : List V} {its its2 : List Value} {A : Around} (I : Inv X pins σ H s) (r1 : Vals xs its) (r2 : Vals ys its2) (hl : xs.length = ys.length) (h : ∀ (i : Nat) (x y : V), xs[i]? = some x → ys[i]? = some y → Eqv X.K H 60 x y) (hu : A.units + 62 < cLine) :
    ∀ j (h1 : j < its.toArray.size) (h2 : j < its2.toArray.size), SeqAt.EqAt A.in1 s its.toArray[j] its2.toArray[j] ((fun _ => true) j) := fun j h1 h2 => by
  have l1 := r1.length
  have l2 := r2.length
  simp only [List.size_toArray] at h1 h2
  obtain ⟨u1, e1, s1⟩ := r1.get (i := j) (x := xs[j]'(by omega)) (by simp)
  obtain ⟨u2, e2, s2⟩ := r2.get (i := j) (x := ys[j]'(by omega)) (by simp)
  have z1 : its.toArray[j] = u1 := by
    have : its[j]? = some its[j] := by simp [h1]
    rw [this] at e1
    simpa using Option.some.inj e1
  have z2 : its2.toArray[j] = u2 := by
    have : its2[j]? = some its2[j] := by simp [h2]
    rw [this] at e2
    simpa using Option.some.inj e2
  rw [z1, z2]
  exact Eqv.at I (h j _ _ (by simp) (by simp)) s1 s2 (by show A.units + 1 + 60 < cLine; omega)
theorem op_nev (hu : X.A.units + 64 < cLine) : OpR X (compareOp .NotEq) (rEqv X.K false) := by
  intro pins s σ H x y v u Q I rx ry h
  obtain ⟨p, q, xs, ys, rfl, rfl, hp, hq, hl, he, hQ⟩ := h
  cases rx
  cases ry
  obtain ⟨its, r1, p1, _⟩ := I.list hp
  obtain ⟨its2, r2, p2, _⟩ := I.list hq
  have l1 := r1.length
  have l2 := r2.length
  refine SeqAt.RcNeAt.lists (e := fun _ => true) p1.isList p2.isList (by simp only [List.size_toArray]; omega) (by omega) (eqv_items I r1 r2 hl he (by omega)) X.prog X.w _ _ ⟨.bl false, H, I, ?_, hQ⟩
  show Value.bool _ = Value.bool false
  simp

/-! ### a dict of the module's: texts to ints -/
theorem ix_listK {K : PySem.W.Frag} (h : X.K = K) : IxR X (rIxL K) := h ▸ ix_list
theorem ix_tupK {K : PySem.W.Frag} (h : X.K = K) : IxR X (rIxT K) := h ▸ ix_tup
theorem sl_listK {K : PySem.W.Frag} (h : X.K = K) : SlR X (rSlL K) := h ▸ sl_list
theorem mt_countK {K : PySem.W.Frag} (h : X.K = K) : MtM X "list.count" (rCount K) := h ▸ mt_count
theorem op_nevK {K : PySem.W.Frag} (h : X.K = K) (hu : X.A.units + 64 < cLine) : OpR X (compareOp .NotEq) (rEqv K false) := h ▸ op_nev hu
theorem call_lenK {K : PySem.W.Frag} (h : X.K = K) : CallR X (.builtin "len") (fun xs H Q => ∃ p ys, xs = [.ref p] ∧ (SqL K H p ys ∨ SqT K H p ys) ∧ Q (.int ys.length) H) := h ▸ call_len_seq
theorem call_listK {K : PySem.W.Frag} (h : X.K = K) : CallR X (.type "list") (fun xs H Q => ∃ p ys, xs = [.ref p] ∧ (SqL K H p ys ∨ SqT K H p ys) ∧ ∀ l, H l = none → Q (.ref l) (upd H l (.lst ys))) := h ▸ call_list_of
theorem pg_tupK {K : PySem.W.Frag} {es : List Expr} {k : Nat} {t : TGs} {n : Nat} {pos : Pos} (hk : X.K = K) (hc : X.calm = true) (h : PGs X es t) (hn : (assignEach es X.env).length = n := by rfl) (hst : (assignEach es X.env).findIdx? (·.1) = none := by rfl) : PG X (.Tuple es k pos) (gTup K n t) := hk ▸ pg_tup hc h hn hst
theorem pe_bmK {K : PySem.W.Frag} {T : String} {name : Str} {r : V → List V → Hp → VK → Prop} {o e : Expr} {es : List Expr} {to : TE} {t : TA} {apos pos : Pos} (hk : X.K = K) (h : PE X (.Call (.Attribute o name apos) (e :: es) [] pos) (tBM X.K T r to t)) : PE X (.Call (.Attribute o name apos) (e :: es) [] pos) (tBM K T r to t) := hk ▸ h
theorem pe_bm0K {K : PySem.W.Frag} {T : String} {name : Str} {r : V → List V → Hp → VK → Prop} {o : Expr} {to : TE} {apos pos : Pos} (hk : X.K = K) (h : PE X (.Call (.Attribute o name apos) [] [] pos) (tBM0 X.K T r to)) : PE X (.Call (.Attribute o name apos) [] [] pos) (tBM0 K T r to) := hk ▸ h
theorem pi_listK {K : PySem.W.Frag} {l tg : Expr} {tl : TE} (hk : X.K = K) (hl : PE X l tl) : PI X tg l (iList K tl) := hk ▸ pi_list hl
theorem pi_enumK {K : PySem.W.Frag} {a : Expr} {ta : TA} {p pos tpos : Pos} {es : List Expr} {k : Nat} (hk : X.K = K) (hg : Gl X "enumerate") (hm : X.mg "enumerate" = none) (ha : PA X [a] ta) (hs : starEach [a] X.env = [(false, eval a X.env)] := by rfl) :
    PI X (.Tuple es k tpos) (.Call (.Name "enumerate" p) [a] [] pos) (iEnum K ta) := hk ▸ pi_enum hg hm ha hs
end
end L2

/-! Forms for comprehensions, callees by name, drawings as data. -/
namespace L2
open PySem PySem.Spec PyProof.Rows

/-! ### comprehensions by an invariant -/
section
variable {g : TG} {tc : TT} {te : TE} {σ : St} {H : Hp} {Q : VK} {K : PySem.W.Frag} {a : Addr} {xs : List V}
theorem lc_gen {J : It} {n : Nat} (hn : n ≤ sizeLine) (Pv : Nat → List V → Hp → Prop) (h0 : Pv 0 [] H) (hlen : ∀ i ys H, Pv i ys H → ys.length ≤ i) (go : ∀ i ys H, i < n → Pv i ys H → J.go i H) (stop : ∀ ys H, Pv n ys H → J.stop n H)
    (hs : ∀ i ys H, i < n → Pv i ys H → ∀ x H', J.yld i H x H' → g x σ H' fun σ2 H2 => tc σ2 H2 fun b H3 => if b = true then te σ2 H3 fun y H4 => Pv (i + 1) (ys ++ [y]) H4 else Pv (i + 1) ys H3)
    (hd : ∀ ys H, Pv n ys H → ∀ D, H D = none → Q (.ref D) (upd H D (.lst ys))) : LcW J σ g tc te H Q := by
  unfold LcW
  refine ⟨fun i m ys H => m = n - i ∧ i ≤ n ∧ Pv i ys H, ⟨n, by simp, Nat.zero_le _, h0⟩, ?_⟩
  rintro i m ys H ⟨rfl, hi, p⟩
  have hy := hlen i ys H p
  by_cases hlt : i < n
  · exact .inr ⟨go i ys H hlt p, by omega, Pv (i + 1), fun ys' H' h2 => ⟨n - (i + 1), by omega, rfl, hlt, h2⟩, fun x H' y => hs i ys H hlt p x H' y⟩
  · have e : i = n := by omega
    subst e
    exact .inl ⟨stop ys H p, by omega, hd ys H p⟩
theorem lc_list (hn : xs.length ≤ sizeLine) (Pv : Nat → List V → Hp → Prop) (h0 : Pv 0 [] H) (hlen : ∀ i ys H, Pv i ys H → ys.length ≤ i) (hS : ∀ i ys H, Pv i ys H → SqL K H a xs)
    (hs : ∀ i x ys H, xs[i]? = some x → Pv i ys H → g x σ H fun σ2 H2 => tc σ2 H2 fun b H3 => if b = true then te σ2 H3 fun y H4 => Pv (i + 1) (ys ++ [y]) H4 else Pv (i + 1) ys H3)
    (hd : ∀ ys H, Pv xs.length ys H → ∀ D, H D = none → Q (.ref D) (upd H D (.lst ys))) : LcW (Itl K a) σ g tc te H Q :=
  lc_gen hn Pv h0 hlen (fun i ys H hi p => ⟨xs, xs[i], hS i ys H p, by simp [hi]⟩) (fun ys H p => ⟨xs, hS _ ys H p, Nat.le_refl _⟩) (fun i ys H hi p x H' y => by
    obtain ⟨e, y⟩ := y
    subst e
    exact hs i x ys _ (y xs (hS i ys _ p)) p) hd
theorem lc_rng {lo : Int} {n : Nat} (hn : n ≤ sizeLine) (Pv : Nat → List V → Hp → Prop) (h0 : Pv 0 [] H) (hlen : ∀ i ys H, Pv i ys H → ys.length ≤ i)
    (hs : ∀ i ys H, i < n → Pv i ys H → g (.int (lo + i)) σ H fun σ2 H2 => tc σ2 H2 fun b H3 => if b = true then te σ2 H3 fun y H4 => Pv (i + 1) (ys ++ [y]) H4 else Pv (i + 1) ys H3)
    (hd : ∀ ys H, Pv n ys H → ∀ D, H D = none → Q (.ref D) (upd H D (.lst ys))) : LcW (Itr lo n) σ g tc te H Q :=
  lc_gen hn Pv h0 hlen (fun i ys H hi p => hi) (fun ys H p => Nat.le_refl _) (fun i ys H hi p x H' y => by
    obtain ⟨e, y⟩ := y
    subst e y
    exact hs i ys _ hi p) hd
end
/-! ### the block's scope, by one look -/
def lcLook (N : List Str) (osc scope : Scope) (Fs : List Str) (fi : List Nat) : Bool :=
  (scope.kind == .function) && scope.names.all (fun y => y.2 != .cell) && scope.names.all (fun y => y.2 != .local || scope.names.lookup y.1 == some .local) && Fs.all (fun x => scope.names.lookup x == some .free) &&
    scope.names.all (fun y => y.2 != .free || osc.names.lookup y.1 == some .cell || osc.names.lookup y.1 == some .free) && (fi.map (fun i => N[i]?) == Fs.map some)
theorem LcScope.of {N : List Str} {osc scope : Scope} {Ls Fs : List Str} {fi : List Nat} (h : lcLook N osc scope Fs fi = true) : LcScope N osc scope Ls Fs fi := by
  simp only [lcLook, Bool.and_eq_true, List.all_eq_true, Bool.or_eq_true, bne_iff_ne, beq_iff_eq] at h
  obtain ⟨⟨⟨⟨⟨h1, h2⟩, h3⟩, h4⟩, h5⟩, h6⟩ := h
  refine ⟨h1, h2, fun y hy hl => (h3 y hy).elim (fun z => absurd hl z) id, h4, fun y hy hf => ?_, h6⟩
  rcases h5 y hy with (z | z) | z
  · exact absurd hf z
  · exact .inl z
  · exact .inr z

/-! ### callees by name -/
def Has (P : Program) (w : World) (K : PySem.W.Frag) (mg : Str → Option Value) (base : Heap) (k : Nat) (x : Str) (ps : List Str) (sp : Sp) : Prop :=
  ∃ (f : Addr) (fd : FuncData), FnOk P w K mg base CX0 k f fd ps sp ∧ mg x = some (.ref f) ∧ PySem.W.keepIn K (.ref f) = true ∧ Binds K fd ps []
theorem pe_has {X : Cx} {k : Nat} {x : Str} {ps : List Str} {sp : Sp} {p pos : Pos} {e : Expr} {es : List Expr} {t : TA} (h : Has X.prog X.w X.K X.mg X.base k x ps sp) (hr : Room k X.A) (ha : PA X (e :: es) t) (hg : Gl X x := by rfl) (hdb : (x == ("__debug__" : Str)) = false := by decide)
    (he : starEach (e :: es) X.env = (false, eval e X.env) :: starEach es X.env := by rfl) (hpl : (backTo pos (starEach es X.env)).any (·.1) = false := by rfl) : PE X (.Call (.Name x p) (e :: es) [] pos) (tCall sp [] E0 t) := by
  obtain ⟨f, fd, G, hm, hk, hb⟩ := h
  exact pe_call G hr hg hm hk hb .nil pass0 ha hdb he hpl
/-- one frame: all that was tracked but b is as it was -/
def Frm (b : Addr) (H H' : Hp) : Prop := ∀ c o, H c = some o → c ≠ b → H' c = some o
theorem Frm.refl (b : Addr) (H : Hp) : Frm b H H := fun _ _ h _ => h
theorem Frm.trans {b : Addr} {H H1 H2 : Hp} (x : Frm b H H1) (y : Frm b H1 H2) : Frm b H H2 := fun c o h n => y c o (x c o h n) n
theorem Same.frm {b : Addr} {H H' : Hp} (x : Same H H') : Frm b H H' := fun c o h _ => x c o h
theorem Same.laid {H : Hp} {p : Addr} {o : HO} (h : H p = none) : Same H (upd H p o) := fun c u e => by rw [upd_ne (ne_of_none e h)]; exact e
theorem Same.step {H H' : Hp} {p : Addr} {o : HO} (s : Same H H') (h : H' p = none) : Same H (upd H' p o) := s.trans (.laid h)
theorem Frm.upd {b : Addr} {H : Hp} {o : HO} : Frm b H (upd H b o) := fun c u e n => by rw [upd_ne n]; exact e
/-- a new object that is changed: of what was there all stays -/
theorem Same.put {H H' : Hp} {p : Addr} {o : HO} (s : Same H H') (h : H p = none) : Same H (upd H' p o) := fun c u e => by rw [upd_ne (ne_of_none e h)]; exact s c u e
def Bag (H : Hp) (b : Addr) : Prop := ∃ g r : Int, 0 ≤ g ∧ H b = some (.lst [.int g, .int r])
/-! ### letters as data -/
def LetsV (H : Hp) (xs : List V) (ls : List (Str × Int)) : Prop := Paired (fun x (p : Str × Int) => ∃ t, x = V.ref t ∧ H t = some (.tup [.str p.1, .int p.2])) xs ls
theorem LetsV.mono {H H' : Hp} (h : ∀ t p, H t = some (.tup p) → H' t = some (.tup p)) : ∀ {xs : List V} {ls : List (Str × Int)}, LetsV H xs ls → LetsV H' xs ls
  | _, _, .nil => .nil
  | _, _, .cons ⟨t, e, q⟩ r => .cons ⟨t, e, h t _ q⟩ (LetsV.mono h r)
theorem LetsV.same {H H' : Hp} (s : Same H H') {xs : List V} {ls : List (Str × Int)} (h : LetsV H xs ls) : LetsV H' xs ls := h.mono fun t p e => s t _ e
theorem LetsV.frm {b : Addr} {H H' : Hp} (s : Frm b H H') (hb : Bag H b) {xs : List V} {ls : List (Str × Int)} (h : LetsV H xs ls) : LetsV H' xs ls := h.mono fun t p e => s t _ e (fun z => by
  obtain ⟨g, r, _, q⟩ := hb
  rw [z, q] at e; cases e)
theorem LetsV.len {H : Hp} {xs : List V} {ls : List (Str × Int)} (h : LetsV H xs ls) : xs.length = ls.length := Paired.length h
theorem LetsV.get {H : Hp} : ∀ {xs : List V} {ls : List (Str × Int)} {i : Nat} {x : V}, LetsV H xs ls → xs[i]? = some x → ∃ p t, ls[i]? = some p ∧ x = .ref t ∧ H t = some (.tup [.str p.1, .int p.2])
  | _, _, _, _, .nil, e => by simp at e
  | _, _, 0, _, .cons ⟨t, e1, q⟩ _, e => by simp at e; subst e; exact ⟨_, t, rfl, e1, q⟩
  | _, _, i + 1, x, .cons _ r, e => by
    obtain ⟨p, t, h1, h2⟩ := LetsV.get (i := i) (x := x) r (by simpa using e)
    exact ⟨p, t, by simpa using h1, h2⟩
theorem LetsV.snoc {H : Hp} {xs : List V} {ls : List (Str × Int)} {t : Addr} {x : Str} {k : Int} (h : LetsV H xs ls) (e : H t = some (.tup [.str x, .int k])) : LetsV H (xs ++ [.ref t]) (ls ++ [(x, k)]) := Paired.snoc h ⟨t, rfl, e⟩
theorem LetsV.append {H : Hp} : ∀ {xs ys : List V} {ls ms : List (Str × Int)}, LetsV H xs ls → LetsV H ys ms → LetsV H (xs ++ ys) (ls ++ ms)
  | _, _, _, _, .nil, s => s
  | _, _, _, _, .cons r t, s => .cons r (LetsV.append t s)
/-- the letters lead from no strand to n strands -/
inductive Wk : List (Str × Int) → Int → Prop
  | nil : Wk [] 0
  | born {ls : List (Str × Int)} {n k : Int} : Wk ls n → 0 ≤ k → k ≤ n → Wk (ls ++ [((("born" : Str), k) : Str × Int)]) (n + 2)
  | cross {ls : List (Str × Int)} {n k : Int} : Wk ls n → 0 ≤ k → k + 1 < n → Wk (ls ++ [((("cross" : Str), k) : Str × Int)]) n
  | fin {ls : List (Str × Int)} {n k : Int} : Wk ls n → 0 ≤ k → k + 1 < n → Wk (ls ++ [((("end" : Str), k) : Str × Int)]) (n - 2)
def Kd (x : Str) : Prop := x = "born" ∨ x = "cross" ∨ x = "end"
theorem Wk.kd {ls : List (Str × Int)} {n : Int} (h : Wk ls n) : ∀ p ∈ ls, Kd p.1 := by
  induction h with
  | nil => intro p hp; cases hp
  | born _ _ _ ih => intro p hp; rcases List.mem_append.mp hp with z | z; exact ih p z; rw [List.mem_singleton.mp z]; exact .inl rfl
  | cross _ _ _ ih => intro p hp; rcases List.mem_append.mp hp with z | z; exact ih p z; rw [List.mem_singleton.mp z]; exact .inr (.inl rfl)
  | fin _ _ _ ih => intro p hp; rcases List.mem_append.mp hp with z | z; exact ih p z; rw [List.mem_singleton.mp z]; exact .inr (.inr rfl)
end L2

/-! Tests by their truth; a letter put to a list. -/
namespace L2
open PySem PySem.Spec PyProof.Rows
theorem lcT {σ : St} {H : Hp} {A B : Hp → Prop} (h : A H) : tTrue σ H fun b H3 => if b = true then A H3 else B H3 := by
  show if true = true then A H else B H
  exact iteT h
theorem app_step {H H1 H2 : Hp} {b l t : Addr} {xs : List V} {ls : List (Str × Int)} (x : Str) (k : Int) (f0 : Frm b H H1) (hb1 : Bag H1 b) (hl : H1 l = some (.lst xs)) (hL : LetsV H1 xs ls) (hlb : l ≠ b) (hlf : H l = none) (f2 : Frm b H1 H2) (bag2 : Bag H2 b) (ht : H2 t = none) :
    (upd H2 t (.tup [.str x, .int k])) l = some (.lst xs) ∧ Bag (upd (upd H2 t (.tup [.str x, .int k])) l (.lst (xs ++ [.ref t]))) b ∧ Frm b H (upd (upd H2 t (.tup [.str x, .int k])) l (.lst (xs ++ [.ref t]))) ∧
      (upd (upd H2 t (.tup [.str x, .int k])) l (.lst (xs ++ [.ref t]))) l = some (.lst (xs ++ [.ref t])) ∧ LetsV (upd (upd H2 t (.tup [.str x, .int k])) l (.lst (xs ++ [.ref t]))) (xs ++ [.ref t]) (ls ++ [(x, k)]) := by
  have hl2 : H2 l = some (.lst xs) := f2 l _ hl hlb
  have hlt : l ≠ t := ne_of_none hl2 ht
  have hbt : b ≠ t := by
    obtain ⟨g, r, _, e⟩ := bag2
    exact ne_of_none e ht
  refine ⟨by rw [upd_ne hlt]; exact hl2, ?_, fun c o e n => ?_, upd_same, ?_⟩
  · obtain ⟨g, r, h0, e⟩ := bag2
    exact ⟨g, r, h0, by rw [upd_ne (Ne.symm hlb), upd_ne hbt]; exact e⟩
  · have e2 := f2 c o (f0 c o e n) n
    rw [upd_ne (ne_of_none e hlf), upd_ne (ne_of_none e2 ht)]
    exact e2
  · refine LetsV.snoc ?_ (by rw [upd_ne (Ne.symm hlt)]; exact upd_same)
    refine (hL.frm f2 hb1).mono fun t' p e => ?_
    rw [upd_ne (ne_of e hl2 (by intro z; cases z)), upd_ne (ne_of_none e ht)]
    exact e
end L2

/-! Numbers of letters by their kind; strands counted. -/
namespace L2
open PySem PySem.Spec PyProof.Rows
theorem lcG {i : Nat} {v : V} {σ : St} {H : Hp} {A B : St → Hp → Prop} (h : A (σ.set i (some v)) H) : gName i v σ H fun σ2 H2 => tTrue σ2 H2 fun b H3 => if b = true then A σ2 H3 else B σ2 H3 := by
  show if true = true then A (σ.set i (some v)) H else B (σ.set i (some v)) H
  exact iteT h
def isK (ls : List (Str × Int)) (pr : Str → Bool) (i : Nat) : Bool := ((ls[i]?).map fun q => pr q.1) == some true
def locI (ls : List (Str × Int)) (pr : Str → Bool) (n : Nat) : List Int := (List.range n).filterMap fun i => if isK ls pr i = true then some (i : Int) else none
theorem locI_succ (ls : List (Str × Int)) (pr : Str → Bool) (n : Nat) : locI ls pr (n + 1) = locI ls pr n ++ (if isK ls pr n = true then [(n : Int)] else []) := by
  unfold locI
  rw [List.range_succ, List.filterMap_append]
  by_cases h : isK ls pr n = true <;> simp [h]
/-- how many strands more behind a letter -/
def gain (x : Str) : Int := if x = "born" then 2 else if x = "end" then -2 else 0
def sumG (ls : List (Str × Int)) : Int := (ls.map fun p => gain p.1).sum
theorem sumG_snoc (ls : List (Str × Int)) (p : Str × Int) : sumG (ls ++ [p]) = sumG ls + gain p.1 := by
  unfold sumG
  simp
end L2

/-! xs[a:c] = ys, del xs[a:c], xs.insert(i, y), for over enumerate. -/
namespace L2
open PySem PySem.Spec PyProof.Rows
section
variable {X : Cx}
theorem part_rel {v : Value} {a : Int} (h : IsPart v (some a)) : RelV (.int a) v := by
  cases h with
  | int _ t => exact ⟨t, rfl⟩
def gSlc (to : TE) (tl th : TO) : TG := fun v σ H Q => to σ H fun x H1 => tl σ H1 fun lo H2 => th σ H2 fun hi H3 => ∃ (l b : Addr) (xs ys : List V) (a c : Int), x = .ref l ∧ v = .ref b ∧ lo = some a ∧ hi = some c ∧ H3 l = some (.lst xs) ∧ H3 b = some (.lst ys) ∧ l ≠ b ∧
  0 ≤ a ∧ a ≤ c ∧ c ≤ xs.length ∧ xs.length + ys.length ≤ sizeLine ∧ Q σ (upd H3 l (.lst (xs.take a.toNat ++ ys ++ xs.drop c.toNat)))
theorem pg_slc {o : Expr} {lo hi : Option Expr} {to : TE} {tl th : TO} {p2 pos : Pos} (ho : PE X o to) (hl : PO X lo tl) (hu : PO X hi th) : PG X (.Subscript o (.Slice lo hi none p2) pos) (gSlc to tl th) := by
  intro pins s σ H v u Q I r h
  show wpAny _ _ (do
      let ov ← holding [u] (eval o X.env)
      let iv ← holding [u, ov] (eval (.Slice lo hi none p2) X.env)
      standAt pos
      holding [u, ov, iv] (setItem ov iv u)
      release [iv, u, ov] []) _ _ s
  refine wpAny_bind (wpAny_holding (thn (ho pins s σ H _ I h) fun ov s1 ⟨x, H1, I1, r1, q1⟩ => ?_))
  refine wpAny_bind (wpAny_holding (wpAny_Slice (thn (hl pins s1 σ H1 _ I1 q1) fun vl s2 ⟨l', H2, I2, pl, q2⟩ => thn (hu pins s2 σ H2 _ I2 q2) fun vu s3 ⟨u', H3, I3, pu, q3⟩ => ?_)))
  rw [evalPart_none]
  refine wpAny_pure ?_
  have I4 : Inv X pins σ H3 { s3 with heap := s3.heap.push { cls := .type "slice", data := .fields #[vl, vu, .none] } } := I3.kept (t' := s3.toks) fun b ob q => Heap.get?_push_of_some _ q
  obtain ⟨l, b, xs, ys, a, c, rfl, rfl, rfl, rfl, hx, hy, hne, h0, hac, hc, hz, q⟩ := q3
  cases r1
  cases r
  refine wpAny_bind (wpAny_standAt (wpAny_bind (wpAny_holding (set_slice I4 hx hy hne (Heap.IsSliceOf.new ..) (part_rel pl) (part_rel pu) h0 hac hc hz fun s5 I5 => ?_))))
  exact wpAny_release ⟨σ, _, I5, q⟩
/-! insert -/
end
/-! the list without its items from a to c -/
section
variable {prog : Program} {w : World} {A : Around} {E : Value → Shared → Prop} {s : Shared}
end
section
variable {X : Cx}
end
/-! for over enumerate, the list left as it is by the body -/
theorem for_enm {K : PySem.W.Frag} {a : Addr} {xs : List V} {g : TG} {tb : TS} {D : Ends} {σ : St} {H : Hp} (Pv : Nat → St → Hp → Prop) (h0 : Pv 0 σ H) (hl : ∀ i σ H, i ≤ xs.length → Pv i σ H → SqL K H a xs)
    (hs : ∀ i x p σ H, xs[i]? = some x → Pv i σ H → H p = none → g (.ref p) σ (upd H p (.tup [.int i, x])) fun σ2 H2 => tb { D with nx := Pv (i + 1), ct := Pv (i + 1), bk := D.nx } σ2 H2) (hd : ∀ σ H, Pv xs.length σ H → D.nx σ H) :
    ∃ W : Nat → Nat → St → Hp → Prop, (∃ m, W 0 m σ H) ∧ ∀ i m σ H, W i m σ H →
      ((Ite K a).stop i H ∧ D.nx σ H) ∨ ((Ite K a).go i H ∧ ∃ N : St → Hp → Prop, (∀ σ' H', N σ' H' → ∃ m', m' < m ∧ W (i + 1) m' σ' H') ∧ ∀ x H', (Ite K a).yld i H x H' → g x σ H' fun σ2 H2 => tb { D with nx := N, ct := N, bk := D.nx } σ2 H2) := by
  refine ⟨fun i m σ H => m = xs.length - i ∧ i ≤ xs.length ∧ Pv i σ H, ⟨xs.length, by simp, Nat.zero_le _, h0⟩, ?_⟩
  rintro i m σ H ⟨rfl, hi, p⟩
  have q := hl i σ H hi p
  by_cases hlt : i < xs.length
  · refine .inr ⟨⟨xs, xs[i], q, by simp [hlt]⟩, Pv (i + 1), fun σ' H' p' => ⟨xs.length - (i + 1), by omega, rfl, hlt, p'⟩, fun x H' y => ?_⟩
    obtain ⟨r, z, e1, e2, e3, y⟩ := y
    subst e1 e3
    exact hs i z r σ _ (y xs q) p e2
  · have e : i = xs.length := by omega
    subst e
    exact .inl ⟨⟨xs, q, Nat.le_refl _⟩, hd σ H p⟩
end L2

/-! Threads at each place, as lists of ints. -/
namespace L2
open PySem PySem.Spec PyProof.Rows
theorem nb1 : ¬ (("cross" : Str) = "born") := by decide +kernel
theorem nb2 : ¬ (("end" : Str) = "born") := by decide +kernel
theorem nb3 : ¬ (("end" : Str) = "cross") := by decide +kernel
theorem wk_take {ls : List (Str × Int)} {n : Int} (h : Wk ls n) : ∀ i, ∃ m, Wk (ls.take i) m := by
  induction h with
  | nil => intro i; exact ⟨0, by simpa using Wk.nil⟩
  | @born l n k h h0 h1 ih =>
    intro i
    by_cases hi : i ≤ l.length
    · rw [List.take_append_of_le_length hi]; exact ih i
    · rw [List.take_of_length_le (by rw [List.length_append, List.length_singleton]; omega)]; exact ⟨_, Wk.born h h0 h1⟩
  | @cross l n k h h0 h1 ih =>
    intro i
    by_cases hi : i ≤ l.length
    · rw [List.take_append_of_le_length hi]; exact ih i
    · rw [List.take_of_length_le (by rw [List.length_append, List.length_singleton]; omega)]; exact ⟨_, Wk.cross h h0 h1⟩
  | @fin l n k h h0 h1 ih =>
    intro i
    by_cases hi : i ≤ l.length
    · rw [List.take_append_of_le_length hi]; exact ih i
    · rw [List.take_of_length_le (by rw [List.length_append, List.length_singleton]; omega)]; exact ⟨_, Wk.fin h h0 h1⟩
end L2

namespace L2
open PySem PySem.Spec PyProof.Rows
theorem ixN_nat {n j : Nat} (h : j < n) : ixN n (j : Int) = some j := by
  unfold ixN
  rw [if_pos (by omega), if_pos (by omega)]
  simp
end L2

namespace L2
open PySem PySem.Spec PyProof.Rows
end L2

namespace L2
open PySem PySem.Spec PyProof.Rows

/-! ### lists of pairs as tables -/
section
variable {κ : Type} [DecidableEq κ]
def valV (kvs : List (κ × V)) (k : κ) : Option V := (kvs.find? fun kv => decide (kv.1 = k)).map (·.2)
/-- in its place, or at the end -/
def putK (kvs : List (κ × V)) (k : κ) (v : V) : List (κ × V) :=
  if (kvs.any fun kv => decide (kv.1 = k)) = true then kvs.map (fun kv => if kv.1 = k then (kv.1, v) else kv) else kvs ++ [(k, v)]
def dropK (kvs : List (κ × V)) (k : κ) : List (κ × V) := kvs.filter fun kv => decide (kv.1 ≠ k)

theorem valV_pos {p : κ × V} {r : List (κ × V)} {k : κ} (e : p.1 = k) : valV (p :: r) k = some p.2 := by simp [valV, List.find?_cons, e]
theorem valV_neg {p : κ × V} {r : List (κ × V)} {k : κ} (e : ¬ p.1 = k) : valV (p :: r) k = valV r k := by simp [valV, List.find?_cons, e]
theorem valV_any (k : κ) : ∀ kvs : List (κ × V), (kvs.any fun kv => decide (kv.1 = k)) = (valV kvs k).isSome
  | [] => rfl
  | p :: r => by
    rw [List.any_cons]
    by_cases e : p.1 = k
    · simp only [valV_pos e, decide_eq_true e, Bool.true_or, Option.isSome_some]
    · rw [valV_neg e, decide_eq_false e, Bool.false_or]; exact valV_any k r
theorem length_putK (kvs : List (κ × V)) (k : κ) (v : V) : (putK kvs k v).length ≤ kvs.length + 1 := by
  unfold putK
  split
  · rw [List.length_map]; omega
  · rw [List.length_append, List.length_cons, List.length_nil]; omega
theorem RelO.isSome_eq {o : Option V} {u : Option Value} (r : RelO o u) : o.isSome = u.isSome := by
  cases o with
  | none => cases u with
    | none => rfl
    | some _ => exact (show False from r).elim
  | some _ => cases u with
    | none => exact (show False from r).elim
    | some _ => rfl
/-- raw tables of the same keys -/
theorem KV.val {kvs : List (κ × V)} {vs : List (κ × Value)} (r : KV kvs vs) (k : κ) : RelO (valV kvs k) (valueAt vs k) := by
  unfold KV at r
  induction r with
  | nil => exact True.intro
  | @cons p q ps qs h t ih =>
    obtain ⟨h1, h2⟩ := h
    by_cases e : p.1 = k
    · have e' : q.1 = k := h1.symm.trans e
      have b : valueAt (q :: qs) k = some q.2 := by simp [valueAt, List.find?_cons, e']
      rw [valV_pos e, b]; exact h2
    · have e' : ¬ q.1 = k := fun z => e (h1.trans z)
      have b : valueAt (q :: qs) k = valueAt qs k := by simp [valueAt, List.find?_cons, e']
      rw [valV_neg e, b]; exact ih
theorem KV.any {kvs : List (κ × V)} {vs : List (κ × Value)} (r : KV kvs vs) (k : κ) : (kvs.any fun kv => decide (kv.1 = k)) = vs.any fun kv => decide (kv.1 = k) := by
  unfold KV at r
  induction r with
  | nil => rfl
  | cons h t ih => rw [List.any_cons, List.any_cons, ih, h.1]
theorem KV.repl {kvs : List (κ × V)} {vs : List (κ × Value)} (r : KV kvs vs) (k : κ) {y : V} {u : Value} (ry : RelV y u) :
    KV (kvs.map fun kv => if kv.1 = k then (kv.1, y) else kv) (vs.map fun kv => if kv.1 = k then (kv.1, u) else kv) := by
  unfold KV at r ⊢
  induction r with
  | nil => exact .nil
  | @cons p q ps qs h t ih =>
    rw [List.map_cons, List.map_cons]
    refine .cons ?_ ih
    obtain ⟨h1, h2⟩ := h
    by_cases e : p.1 = k
    · rw [if_pos e, if_pos (h1.symm.trans e)]; exact ⟨h1, ry⟩
    · rw [if_neg e, if_neg (fun z => e (h1.trans z))]; exact ⟨h1, h2⟩
theorem KV.put {kvs : List (κ × V)} {vs : List (κ × Value)} (r : KV kvs vs) (k : κ) {y : V} {u : Value} (ry : RelV y u) : KV (putK kvs k y) (stored vs k u) := by
  unfold putK stored
  rw [r.any k]
  by_cases e : (vs.any fun kv => decide (kv.1 = k)) = true
  · rw [if_pos e, if_pos e]; exact r.repl k ry
  · rw [if_neg e, if_neg e]; exact Paired.snoc r ⟨rfl, ry⟩
theorem KV.length {kvs : List (κ × V)} {vs : List (κ × Value)} (r : KV kvs vs) : kvs.length = vs.length := Paired.length r
theorem dropK_le (kvs : List (κ × V)) (k : κ) : (dropK kvs k).length ≤ kvs.length := List.length_filter_le _ _
end


/-! ### a tracked dict, its keys ints and texts or tuples of these -/
theorem kV_is {P : Program} {w : World} {k : Key} {u : Value} (r : RelV (kV k) u) : (mixKind P w).is k u = true := by
  cases k with
  | inl i => obtain ⟨t, e⟩ := (show ∃ t, u = Value.int i t from r); subst e; exact mixKind_int P w i t
  | inr x => obtain ⟨t, e⟩ := (show ∃ t, u = Value.str x t from r); subst e; exact mixKind_str P w x t
theorem items_are {P : Program} {w : World} : ∀ {ks : List Key} {us : List Value}, Vals (ks.map kV) us → ItemsAre (mixKind P w) ks us
  | [], _, r => by rw [List.map_nil] at r; cases r; exact .nil
  | k :: ks, _, r => by
    rw [List.map_cons] at r
    cases r with
    | cons h t => exact .cons (kV_is h) (items_are t)

/-- raw entries of a dict with tuple keys -/
abbrev KT (H : Hp) : List (List Key × V) → List (List Key × Addr × Value) → Prop := Paired fun p q => p.1 = q.1 ∧ H q.2.1 = some (.tup (p.1.map kV)) ∧ RelV p.2 q.2.2
theorem KT.val {H : Hp} {kvs : List (List Key × V)} {xs : List (List Key × Addr × Value)} (r : KT H kvs xs) (k : List Key) : RelO (valV kvs k) ((atKey xs k).map (·.2)) := by
  induction r with
  | nil => exact True.intro
  | @cons p q ps qs h t ih =>
    obtain ⟨h1, _, h2⟩ := h
    by_cases e : p.1 = k
    · have e' : q.1 = k := h1.symm.trans e
      have b : atKey (q :: qs) k = some q.2 := by simp [atKey, List.find?_cons, e']
      rw [valV_pos e, b]; exact h2
    · have e' : ¬ q.1 = k := fun z => e (h1.trans z)
      have b : atKey (q :: qs) k = atKey qs k := by simp [atKey, List.find?_cons, e']
      rw [valV_neg e, b]; exact ih
theorem KT.repl {H : Hp} {kvs : List (List Key × V)} {xs : List (List Key × Addr × Value)} (r : KT H kvs xs) (k : List Key) {y : V} {u : Value} (ry : RelV y u) :
    KT H (kvs.map fun kv => if kv.1 = k then (kv.1, y) else kv) (xs.map (putAt k u)) := by
  induction r with
  | nil => exact .nil
  | @cons p q ps qs h t ih =>
    rw [List.map_cons, List.map_cons]
    refine .cons ?_ ih
    obtain ⟨h1, h2, h3⟩ := h
    unfold putAt
    by_cases e : p.1 = k
    · rw [if_pos e, if_pos (h1.symm.trans e)]; exact ⟨h1, h2, ry⟩
    · rw [if_neg e, if_neg (fun z => e (h1.trans z))]; exact ⟨h1, h2, h3⟩
theorem KT.put {H : Hp} {kvs : List (List Key × V)} {xs : List (List Key × Addr × Value)} (r : KT H kvs xs) (k : List Key) {b : Addr} {y : V} {u : Value} (hb : H b = some (.tup (k.map kV))) (ry : RelV y u) :
    KT H (putK kvs k y) (storedH xs k b u) := by
  have e : (kvs.any fun kv => decide (kv.1 = k)) = (atKey xs k).isSome := by
    rw [valV_any, (r.val k).isSome_eq, Option.isSome_map]
  unfold putK storedH
  rw [e]
  by_cases q : (atKey xs k).isSome = true
  · rw [if_pos q, if_pos q]; exact r.repl k ry
  · rw [if_neg q, if_neg q]; exact Paired.snoc r ⟨rfl, hb, ry⟩
theorem KT.keeps {H H' : Hp} {kvs : List (List Key × V)} {xs : List (List Key × Addr × Value)} (r : KT H kvs xs) (ht : ∀ b ys, H b = some (.tup ys) → H' b = some (.tup ys)) : KT H' kvs xs :=
  Paired.mapP r fun _ _ z => ⟨z.1, ht _ _ z.2.1, z.2.2⟩

section
variable {P : Program} {w : World} {H : Hp} {h : Heap} {a : Addr}
theorem rd_of {u : HO} (ok : HOk P w H h) (e : Rd H a u) : ObjOk P w H h a u := e.ok ok
theorem dk_rd {kvs : List (Key × V)} (ok : HOk P w H h) (e : Rd H a (.dK kvs)) : kvs.length ≤ sizeLine ∧ (a == sysModules) = false ∧ ∃ vs, KV kvs vs ∧ h.DictOf (mixKind P w) a vs :=
  show ObjOk P w H h a (.dK kvs) from rd_of ok e
theorem dk_of {kvs : List (Key × V)} (ok : HOk P w H h) (e : H a = some (.dK kvs)) : kvs.length ≤ sizeLine ∧ (a == sysModules) = false ∧ ∃ vs, KV kvs vs ∧ h.DictOf (mixKind P w) a vs := dk_rd ok (.inl e)
/-- a tracked tuple of ints and texts is a key -/
theorem key_of {ks : List Key} (ok : HOk P w H h) (e : H a = some (.tup (ks.map kV))) : (tupleKind (mixKind P w)).is h ks a := by
  obtain ⟨_, its, r, o, h1, h2, n, h3⟩ := (show ObjOk P w H h a (.tup (ks.map kV)) from ok a _ e)
  exact ⟨o, its.toArray, n, h1, h2, h3, by simpa using items_are r⟩
theorem dt_rd {kvs : List (List Key × V)} (ok : HOk P w H h) (e : Rd H a (.dT kvs)) : kvs.length ≤ sizeLine ∧ (a == sysModules) = false ∧
    ∃ xs, KT H kvs xs ∧ h.DictOfH (tupleKind (mixKind P w)) a xs := by
  obtain ⟨z, y, xs, r, o, es, ep, h1, h2, h3, h4, h5⟩ := (show ObjOk P w H h a (.dT kvs) from rd_of ok e)
  refine ⟨z, y, xs, r, o, es, ep, h1, h2, h3, h4, fun x hx => ?_, h5⟩
  have all : ∀ {l : List (List Key × V)} {m : List (List Key × Addr × Value)}, KT H l m → ∀ x ∈ m, (tupleKind (mixKind P w)).is h x.1 x.2.1 := by
    intro l m q
    induction q with
    | nil => intro x hx; exact nomatch hx
    | @cons p q ps qs hq t ih =>
      intro x hx
      rcases List.mem_cons.mp hx with e | hx
      · subst e
        exact key_of ok (by rw [← hq.1]; exact hq.2.1)
      · exact ih x hx
  exact all r x hx
theorem dt_of {kvs : List (List Key × V)} (ok : HOk P w H h) (e : H a = some (.dT kvs)) : kvs.length ≤ sizeLine ∧ (a == sysModules) = false ∧
    ∃ xs, KT H kvs xs ∧ h.DictOfH (tupleKind (mixKind P w)) a xs := dt_rd ok (.inl e)
end

/-- what the dict at a holds at the key y -/
def DGet (H : Hp) (a : Addr) (y : V) (r : Option V) : Prop :=
  (∃ kvs k, Rd H a (.dK kvs) ∧ y = kV k ∧ r = valV kvs k) ∨ ∃ kvs k b, Rd H a (.dT kvs) ∧ y = .ref b ∧ H b = some (.tup (k.map kV)) ∧ r = valV kvs k
/-- the heap behind a[y] = v -/
def DPut (H : Hp) (a : Addr) (y v : V) (H' : Hp) : Prop :=
  (∃ kvs k, H a = some (.dK kvs) ∧ y = kV k ∧ kvs.length < sizeLine ∧ H' = upd H a (.dK (putK kvs k v))) ∨
  ∃ kvs k b, H a = some (.dT kvs) ∧ y = .ref b ∧ H b = some (.tup (k.map kV)) ∧ kvs.length < sizeLine ∧ H' = upd H a (.dT (putK kvs k v))
theorem DGet.t {H : Hp} {a b : Addr} {kvs : List (List Key × V)} {k : List Key} (e : H a = some (.dT kvs)) (eb : H b = some (.tup (k.map kV))) : DGet H a (.ref b) (valV kvs k) := .inr ⟨kvs, k, b, .inl e, rfl, eb, rfl⟩
theorem DPut.t {H : Hp} {a b : Addr} {kvs : List (List Key × V)} {k : List Key} {v : V} (e : H a = some (.dT kvs)) (eb : H b = some (.tup (k.map kV))) (hl : kvs.length < sizeLine) :
    DPut H a (.ref b) v (upd H a (.dT (putK kvs k v))) := .inr ⟨kvs, k, b, e, rfl, eb, hl, rfl⟩


section
variable {X : Cx} {pins : List (Addr × Obj)} {σ : St} {H : Hp} {s : Shared} {a : Addr} {y v : V} {u r : Value} {o : Option V} {A : Around} {E : Value → Shared → Prop}

theorem Inv.big (I : Inv X pins σ H s) : sysModules < s.heap.objs.size := by
  have h : mainGlobals < s.heap.objs.size := (I.mod.glob.keeps I.bk).lt
  exact Nat.lt_trans (by decide) h

/-- y in d -/
theorem d_in {Q : Value → Shared → Prop} (hu : A.units + 1 < cLine) (I : Inv X pins σ H s) (g : DGet H a y o) (ry : RelV y u) (h : ∀ s', Inv X pins σ H s' → Q (.bool o.isSome) s') :
    wpAny (model X.prog X.w) A (compareOp .In u (.ref a)) Q E s := by
  rcases g with ⟨kvs, k, e, ey, l⟩ | ⟨kvs, k, b, e, ey, eb, l⟩
  · subst ey
    obtain ⟨z, hd, vs, rel, dd⟩ := dk_rd I.hok e
    refine wpAny_in_of (kV_is ry) hd dd.mapOf ?_
    rw [← (rel.val k).isSome_eq, ← l]
    exact h _ (I.tok _)
  · subst ey
    cases (show u = Value.ref b from ry)
    obtain ⟨z, hd, xs, rel, dd⟩ := dt_rd I.hok e
    refine wpAny_in_heap (tupleKind_room_in1 hu) (key_of I.hok eb) hd dd ?_
    have q := (rel.val k).isSome_eq
    rw [Option.isSome_map] at q
    rw [← q, ← l]
    exact h _ (I.tok _)
/-- a dict's object is replaced -/
theorem d_write {h' : Heap} {t' : Nat} {ob : HO} (I : Inv X pins σ H s) (mu : Mut (H a)) (hs : Heap.SameBut a s.heap h') (he : ∃ q, h'.get? a = some q) (new : ObjOk X.prog X.w (upd H a ob) h' a ob) :
    Inv X pins σ (upd H a ob) { s with heap := h', toks := t' } :=
  I.write (x := a) (e := a) mu (.inl rfl) (fun b q hb z => (hs.2 b hb).trans z) he new
theorem dk_new {P : Program} {w : World} {H' : Hp} {h' : Heap} {kvs : List (Key × V)} {vs : List (Key × Value)} (z : kvs.length ≤ sizeLine) (hd : (a == sysModules) = false) (rel : KV kvs vs) (dd : h'.DictOf (mixKind P w) a vs) :
    ObjOk P w H' h' a (.dK kvs) := ⟨z, hd, vs, rel, dd⟩
/-- d[y] = v -/
theorem d_setItem {H' : Hp} {Q : Unit → Shared → Prop} (hu : A.units + 1 < cLine) (I : Inv X pins σ H s) (g : DPut H a y v H') (ry : RelV y u) (rv : RelV v r) (h : ∀ s', Inv X pins σ H' s' → Q () s') :
    wpAny (model X.prog X.w) A (setItem (.ref a) u r) Q E s := by
  rcases g with ⟨kvs, k, e, ey, l, eH⟩ | ⟨kvs, k, b, e, ey, eb, l, eH⟩
  · subst ey eH
    obtain ⟨z, hd, vs, rel, dd⟩ := dk_of I.hok e
    have hz : vs.length ≤ sizeLine := by rw [← rel.length]; exact z
    have hl : (putK kvs k v).length ≤ sizeLine := by have := length_putK kvs k v; omega
    refine wpAny_setItem_pairs (hsz := hz) (kV_is ry) dd fun h' dd' hs => h _ ?_
    have he : ∃ q, h'.get? a = some q := let ⟨q, _, _, hq, _⟩ := dd'; ⟨q, hq⟩
    exact d_write I (by rw [e]; exact True.intro) hs he (dk_new hl hd (rel.put k rv) dd')
  · subst ey eH
    cases (show u = Value.ref b from ry)
    obtain ⟨z, hd, xs, rel, dd⟩ := dt_of I.hok e
    have hz : xs.length ≤ sizeLine := by rw [← Paired.length rel]; exact z
    have hl : (putK kvs k v).length ≤ sizeLine := by have := length_putK kvs k v; omega
    refine wpAny_setItem_heap (hsz := hz) (tupleKind_room_in1 hu) (key_of I.hok eb) dd fun h' dd' hs => h _ ?_
    obtain ⟨q, es, ep, hq, h2, h3, h4, _, h5⟩ := dd'
    refine d_write I (by rw [e]; exact True.intro) hs ⟨q, hq⟩ ⟨hl, hd, _, (rel.put k eb rv).keeps fun c ys ec => ?_, q, es, ep, hq, h2, h3, h4, h5⟩
    rw [upd_ne (ne_of ec e (fun z => nomatch z))]
    exact ec
end

section
variable {X : Cx} {pins : List (Addr × Obj)} {σ : St} {H : Hp} {s : Shared} {a : Addr} {kvs : List (Key × V)} {k : Key} {u : Value} {A : Around} {E : Value → Shared → Prop}
end


/-! ### readings and rules -/
/-- y in d, y not in d -/
def tDIn (ty td : TE) : TE := fun σ H Q => ty σ H fun y H1 => td σ H1 fun x H2 => ∃ a o, x = .ref a ∧ DGet H2 a y o ∧ Q (.bl o.isSome) H2
section
variable {X : Cx} {o i e value : Expr} {pos pos' tpos : Pos} {td ty tv : TE}
theorem pc_din (hu : X.A.units + 1 < cLine) (hi : PE X i ty) (ho : PE X o td) : PC X .In i o (tDIn ty td) := by
  intro pins s σ H Q I h
  refine thn (hi pins s σ H _ I h) fun iv s1 ⟨y, H1, I1, ry, q1⟩ => thn (ho pins s1 σ H1 _ I1 q1) fun u s2 ⟨x, H2, I2, rx, a, ov, ex, g, q2⟩ => ?_
  subst ex
  obtain rfl : u = Value.ref a := rx
  exact d_in hu I2 g ry fun s3 I3 => ⟨.bl ov.isSome, H2, I3, rfl, q2⟩
end


/-! ### displays -/
theorem dt_empty {P : Program} {w : World} {H : Hp} (h : Heap) (hb : sysModules < h.objs.size) : ObjOk P w H (h.push { cls := .type "dict", data := .dict #[] }) h.objs.size (.dT []) :=
  ⟨Nat.zero_le _, beq_eq_false_iff_ne.mpr (Ne.symm (Nat.ne_of_lt hb)), [], .nil, _, #[], 0, Heap.get?_push_size _ rfl, ⟨rfl, rfl, rfl⟩, rfl, rfl, List.nodup_nil⟩
def tDNewT : TE := fun _ H Q => ∀ p, H p = none → Q (.ref p) (upd H p (.dT []))
section
variable {X : Cx} {pos : Pos}
theorem pe_dnewT : PE X (.Dict [] [] pos) tDNewT := fun pins s σ H Q I h =>
  wpAny_Dict_empty ⟨.ref s.heap.objs.size, _, I.laid (a := s.heap.objs.size) (o := .dT []) (t' := s.toks) (fun _ _ q => Heap.get?_push_of_some _ q) (Nat.le_refl _) (dt_empty s.heap I.big), rfl, h _ (I.hok.fresh (Nat.le_refl _))⟩
end
end L2

/-! sorted(a dict), d[k] as a target and as a value, a, b = a list, xs[::2], xs != []. -/
namespace L2
open PySem PySem.Spec PyProof.Rows
theorem ObjOk.there {P : Program} {w : World} {H : Hp} {h : Heap} {a : Addr} {o : HO} (x : ObjOk P w H h a o) : ∃ ob, h.get? a = some ob := by
  cases o with
  | lst xs => obtain ⟨_, _, _, _, e⟩ := x; exact ⟨_, e⟩
  | tup xs => obtain ⟨_, _, _, _, e, _⟩ := x; exact ⟨_, e⟩
  | dK kvs => obtain ⟨_, _, _, _, o, _, _, e, _⟩ := x; exact ⟨_, e⟩
  | dT kvs => obtain ⟨_, _, _, _, o, _, _, e, _⟩ := x; exact ⟨_, e⟩
  | set S n => obtain ⟨o, _, _, _, e, _⟩ := x; exact ⟨_, e⟩
  | ins C dx fs => obtain ⟨_, _, _, e, _⟩ := x; exact ⟨_, e⟩
  | own y => obtain ⟨_, e⟩ := x; exact ⟨_, e⟩
  | xd fs => obtain ⟨_, ⟨_, _, _, e, _⟩, _⟩ := x; exact ⟨_, e⟩
  | rng lo hi => obtain ⟨_, _, _, e⟩ := x; exact ⟨_, e⟩
  | frz ob u => obtain ⟨e, _⟩ := x; exact ⟨_, e⟩
  | tbl ps => exact ⟨_, x⟩
  | met f y => exact ⟨_, x⟩
  | ext φ => obtain ⟨_, ⟨_, e⟩, _⟩ := x; exact ⟨_, e⟩
theorem ns_inj {h : Heap} {a : Addr} {m m' : Str → Option Value} (x : h.Ns a m) (y : h.Ns a m') : m = m' := by
  obtain ⟨o, es, ep, ho, hd, _, hm⟩ := x
  obtain ⟨o', es', ep', ho', hd', _, hm'⟩ := y
  rw [ho] at ho'
  cases ho'
  rw [hd] at hd'
  cases hd'
  exact funext fun n => (hm n).symm.trans (hm' n)
section
variable {X : Cx} {pins : List (Addr × Obj)} {σ : St} {H : Hp} {s : Shared}
/-- a new object at D, all else kept but the frame's own object, whose map is kept -/
theorem Inv.laidN {h' : Heap} {D : Addr} {o : HO} {t' : Nat} {m : Str → Option Value} (I : Inv X pins σ H s) (F : Fr X.base X.env.locals s.heap m) (F' : Fr X.base X.env.locals h' m)
    (N' : News X.base X.env.locals h' (allNews X.base s.heap X.env.locals)) (hD : s.heap.get? D = none) (hn : H D = none) (new : ObjOk X.prog X.w (upd H D o) h' D o) : Inv X pins σ (upd H D o) { s with heap := h', toks := t' } := by
  have kp : ∀ b u, b ≠ X.env.locals → s.heap.get? b = some u → h'.get? b = some u := fun b u hb e => by
    cases q : X.base.get? b with
    | some v =>
      have e1 := F'.keep b v q
      have e2 := F.keep b v q
      rw [e] at e2
      cases e2
      exact e1
    | none => exact (N' (b, u) (mem_allNews hb q e)).1
  have neL : ∀ b u, H b = some u → b ≠ X.env.locals := fun b u e z => by rw [z, I.free] at e; cases e
  refine I.step (g' := s.gens) (d' := s.drawn) (ch := []) (fun _ z => nomatch z) (fun b ob hb _ _ e _ => kp b ob hb e) (fun b ob hb _ _ e _ => ⟨ob.slots, kp b ob hb e⟩) (fun b ob _ e n => ?_) (fun b ob _ e => ?_) (fun b xs e => ?_) (fun b ob u e => ?_) (fun b ps e => ⟨#[], ?_⟩) (fun m' hm => ?_) (fun b u e => ?_) I.bare
  · rw [upd_ne (fun z => by subst z; rw [hD] at e; cases e)]
    exact n
  · by_cases hb : b = X.env.locals
    · subst hb
      obtain ⟨ob', _, _, z, _⟩ := F'.ns
      exact ⟨ob', z⟩
    · exact ⟨ob, kp b ob hb e⟩
  · rw [upd_ne (ne_of_none e hn)]; exact e
  · rw [upd_ne (ne_of_none e hn)]; exact e
  · rw [upd_ne (ne_of_none e hn), e]; simp
  · rw [ns_inj hm F.ns]; exact F'.ns
  · by_cases hb : b = D
    · subst hb; rw [upd_same] at e; cases e; exact new
    · rw [upd_ne hb] at e
      refine (I.hok b u e).stay (fun c v hc q => kp c v ?_ q) (fun c q => by rw [upd_ne (ne_of_none q hn)]; exact q) fun c xs q => by rw [upd_ne (ne_of_none q hn)]; exact q
      rcases hc with z | z
      · subst z; exact neL _ u e
      · exact neL c _ z
end
section
variable {X : Cx}
def rDSet : V → V → V → Hp → (Hp → Prop) → Prop := fun o i v H Q => ∃ a H', o = .ref a ∧ DPut H a i v H' ∧ Q H'
theorem set_dict (hu : X.A.units + 1 < cLine) : PSet X rDSet := by
  intro pins s σ H o i v ov iv u Q I ro ri rv h
  obtain ⟨a, H', rfl, g, q⟩ := h
  cases ro
  exact d_setItem hu I g ri rv fun s' I' => ⟨H', I', q⟩
end
/-! xs[::2] -/
section
variable {X : Cx}
end
end L2

/-! Going along a piece: partners at ends and at births, orbits, tours. -/
namespace L2
open PySem PySem.Spec PyProof.Rows
def bw (x : Int) : Int := if x % 2 = 0 then x + 1 else x - 1
structure Mates (m : Int → Int) (N : Int) : Prop where
  lo : ∀ x, 0 ≤ x → x < N → 0 ≤ m x
  hi : ∀ x, 0 ≤ x → x < N → m x < N
  inv : ∀ x, 0 ≤ x → x < N → m (m x) = x
  ne : ∀ x, 0 ≤ x → x < N → m x ≠ x
  ev : N % 2 = 0
def gt (m : Int → Int) (f : Int) : Nat → Int
  | 0 => f
  | i + 1 => bw (m (gt m f i))
def orb (m : Int → Int) (f : Int) : Nat → List Int
  | 0 => []
  | i + 1 => orb m f i ++ [gt m f i, m (gt m f i)]
section
variable {m : Int → Int} {N f : Int}
end
/-- the tour from f: till one comes back -/
def IsTour (m : Int → Int) (f : Int) (T : List Int) : Prop := ∃ L, 1 ≤ L ∧ gt m f L = f ∧ (∀ j, 1 ≤ j → j < L → gt m f j ≠ f) ∧ T = orb m f L
inductive Trs (m : Int → Int) : Nat → List (List Int) → Prop
  | nil : Trs m 0 []
  | add {i : Nat} {ts : List (List Int)} {T : List Int} : Trs m i ts → (i : Int) ∉ ts.flatten → IsTour m (i : Int) T → Trs m (i + 1) (ts ++ [T])
  | skip {i : Nat} {ts : List (List Int)} : Trs m i ts → (i : Int) ∈ ts.flatten → Trs m (i + 1) ts
end L2

/-! The threads at letters; who ends with whom. -/
namespace L2
open PySem PySem.Spec PyProof.Rows
end L2

/-! xs != [], in and not in within blocks, pairs as data. -/
namespace L2
open PySem PySem.Spec PyProof.Rows
section
variable {X : Cx}
def rNeNil (K : PySem.W.Frag) : R2 := fun x y H Q => ∃ (p q : Addr) (xs : List V), x = .ref p ∧ y = .ref q ∧ SqL K H p xs ∧ SqL K H q [] ∧ Q (.bl (!xs.isEmpty)) H
theorem op_neNil (hu : X.A.units + 64 < cLine) : OpR X (compareOp .NotEq) (rNeNil X.K) := by
  intro pins s σ H x y v u Q I rx ry h
  obtain ⟨p, q, xs, rfl, rfl, hp, hq, hQ⟩ := h
  cases rx
  cases ry
  obtain ⟨its, r1, p1, _⟩ := I.list hp
  obtain ⟨its2, r2, p2, _⟩ := I.list hq
  have l1 := r1.length
  have l2 := r2.length
  cases xs with
  | nil =>
    refine SeqAt.RcNeAt.lists (e := fun _ => true) p1.isList p2.isList (by simp only [List.size_toArray]; omega) (by omega) (fun j h1 h2 => ?_) X.prog X.w _ _ ⟨.bl false, H, I, ?_, hQ⟩
    · rw [List.size_toArray] at h1
      have : its.length = 0 := by simpa using l1.symm
      omega
    · show Value.bool _ = Value.bool false
      simp
  | cons z zs =>
    refine SeqAt.RcNeAt.lists_lengths p1.isList p2.isList (by simp only [List.size_toArray]; rw [bne_iff_ne]; simp at l1 l2; omega) (by omega) X.prog X.w _ _ ⟨.bl true, H, I, rfl, hQ⟩
theorem op_neNilK {K : PySem.W.Frag} (h : X.K = K) (hu : X.A.units + 64 < cLine) : OpR X (compareOp .NotEq) (rNeNil K) := h ▸ op_neNil hu
theorem op_notIn_seqK {K : PySem.W.Frag} (h : X.K = K) : OpR X (compareOp .NotIn) (rIn K true) := h ▸ op_notIn_seq
end
/-! pairs of ints in tuples -/
/-! rows by their numbers -/
theorem map_int_at {ns : List Int} {i : Nat} {x : V} (h : (ns.map V.int)[i]? = some x) : ∃ t, ns[i]? = some t ∧ x = V.int t := by
  rw [List.getElem?_map] at h
  cases e : ns[i]? with
  | none => rw [e] at h; cases h
  | some z => rw [e] at h; exact ⟨z, rfl, (Option.some.inj h).symm⟩
theorem take_map_snoc {α β : Type} {ns : List α} {i : Nat} {t : α} (f : α → β) (h : ns[i]? = some t) : (ns.take (i + 1)).map f = (ns.take i).map f ++ [f t] := by
  rw [List.take_add_one, h]
  simp
end L2

/-! sum of a list of ints. -/
namespace L2
open PySem PySem.Spec PyProof.Rows
section
variable {X : Cx} {pins : List (Addr × Obj)} {σ : St} {H : Hp} {s : Shared}
end
section
variable {X : Cx}
end
end L2

/-! zip of two lists; max of a list; list.index; x is True. -/
namespace L2
open PySem PySem.Spec PyProof.Rows PyProof.V
def Itz (K : PySem.W.Frag) (a b : Addr) : It :=
  ⟨fun i H => ∃ xs ys x y, SqL K H a xs ∧ SqL K H b ys ∧ xs[i]? = some x ∧ ys[i]? = some y,
   fun i H v H' => ∃ p x y, v = .ref p ∧ H p = none ∧ H' = upd H p (.tup [x, y]) ∧ (∀ xs, SqL K H a xs → xs[i]? = some x) ∧ (∀ ys, SqL K H b ys → ys[i]? = some y),
   fun i H => ∃ xs ys, SqL K H a xs ∧ SqL K H b ys ∧ (xs.length ≤ i ∨ ys.length ≤ i)⟩
theorem turn_zip {P : Program} {w : World} {K : PySem.W.Frag} {es : List Expr} {k : Nat} {pos : Pos} (a b z TI TO i1 i2 : Addr) (ap : ZipApart z TI TO i1 i2 a b) :
    Turn P w K (.Tuple es k pos) (Itz K a b) [z, TI, TO, i1, i2] z (fun i h => IsZip h z TI TO .none ∧ IsPair h TI (.ref i1) (.ref i2) ∧ (∃ u v, IsPair h TO u v) ∧ h.IsListIter i1 a i ∧ h.IsListIter i2 b i) where
  mem := by simp
  obj := fun i h st c hc => by
    obtain ⟨h1, h2, ⟨u, v, h3⟩, ⟨o1, ho1, c1, d1⟩, ⟨o2, ho2, c2, d2⟩⟩ := st
    simp only [List.mem_cons, List.not_mem_nil, or_false] at hc
    rcases hc with e | e | e | e | e
    · subst e; exact ⟨_, h1, fun v z => by have z' : Data.fields _ = Data.cell v := z; cases z'⟩
    · subst e; exact ⟨_, h2, fun v z => by have z' : Data.seq _ _ = Data.cell v := z; cases z'⟩
    · subst e; exact ⟨_, h3, fun v z => by have z' : Data.seq _ _ = Data.cell v := z; cases z'⟩
    · subst e; exact ⟨o1, ho1, fun v z => by rw [d1] at z; cases z⟩
    · subst e; exact ⟨o2, ho2, fun v z => by rw [d2] at z; cases z⟩
  keep := fun i h h' st k => by
    obtain ⟨h1, h2, ⟨u, v, h3⟩, h4, h5⟩ := st
    exact ⟨k z (by simp) _ h1, k TI (by simp) _ h2, ⟨u, v, k TO (by simp) _ h3⟩, h4.at fun o x => k i1 (by simp) o x, h5.at fun o x => k i2 (by simp) o x⟩
  item := by
    intro X hP hw hK hc i pins s σ H E I hf st hg
    subst hP hw hK
    obtain ⟨xs, ys, x, y, hq1, hq2, hx, hy⟩ := hg
    obtain ⟨its1, rv1, p1, hz1⟩ := I.list hq1
    obtain ⟨its2, rv2, p2, hz2⟩ := I.list hq2
    obtain ⟨u, hu, ru⟩ := rv1.get hx
    obtain ⟨v, hv, rv⟩ := rv2.get hy
    obtain ⟨h1, h2, ⟨oa, ob, h3⟩, h4, h5⟩ := st
    refine wpAny_pyNext_zip_item ap h1 h2 h3 h4 h5 p1.isList p2.isList (x := u) (y := v) (by simpa using hu) (by simpa using hv) fun h' g1 g2 g3 g4 g5 hsz kk => ⟨_, rfl, ?_⟩
    refine wpAny_letOwnedTupleGo_zip (s := { s with heap := h' }) g1 fun h'' e1 hs'' => ?_
    have lt : ∀ c ∈ [z, TI, TO, i1, i2], @LT.lt Nat _ c s.heap.objs.size := fun c hc => by
      simp only [List.mem_cons, List.not_mem_nil, or_false] at hc
      rcases hc with e | e | e | e | e
      · subst e; exact aLt h1
      · subst e; exact aLt h2
      · subst e; exact aLt h3
      · subst e; obtain ⟨o, ho, _⟩ := h4; exact aLt ho
      · subst e; obtain ⟨o, ho, _⟩ := h5; exact aLt ho
    have kk2 : ∀ c o, c ≠ z → c ≠ TO → c ≠ i1 → c ≠ i2 → s.heap.get? c = some o → h''.get? c = some o := fun c o n1 n2 n3 n4 q => (hs''.2 c n1).trans (kk c o n1 n2 n3 n4 q)
    have nne : ∀ c o, H c = some o → c ≠ z ∧ c ≠ TO ∧ c ≠ i1 ∧ c ≠ i2 := fun c o q => by
      refine ⟨fun e => ?_, fun e => ?_, fun e => ?_, fun e => ?_⟩
      · rw [e, (hf z (by simp)).1] at q; cases q
      · rw [e, (hf TO (by simp)).1] at q; cases q
      · rw [e, (hf i1 (by simp)).1] at q; cases q
      · rw [e, (hf i2 (by simp)).1] at q; cases q
    have fr : H s.heap.objs.size = none := I.hok.fresh (Nat.le_refl _)
    have hT : h''.get? s.heap.objs.size = some { cls := .type "tuple", data := .seq #[u, v] } := (hs''.2 _ (Nat.ne_of_gt (lt z (by simp)))).trans g5
    have nT : ∀ c o, s.heap.get? c = some o → c ≠ s.heap.objs.size := fun c o q => Nat.ne_of_lt (aLt q)
    have ok' : HOk X.prog X.w (upd H s.heap.objs.size (.tup [x, y])) h'' := fun c o q => by
      by_cases hb : c = s.heap.objs.size
      · subst hb
        rw [upd_same] at q
        cases q
        exact ⟨show 2 ≤ sizeLine by decide, [u, v], .cons ru (.cons rv .nil), ⟨_, hT, rfl, _, rfl⟩⟩
      · rw [upd_ne hb] at q
        refine (I.hok c o q).stay (fun d v hd r => ?_) (fun d r => by rw [upd_ne (ne_of_none r fr)]; exact r) fun d xs r => by rw [upd_ne (ne_of_none r fr)]; exact r
        rcases hd with e | e
        · subst e
          obtain ⟨n1, n2, n3, n4⟩ := nne d o q
          exact kk2 d v n1 n2 n3 n4 r
        · obtain ⟨n1, n2, n3, n4⟩ := nne d _ e
          exact kk2 d v n1 n2 n3 n4 r
    have notin : ∀ c, c ∉ [z, TI, TO, i1, i2] → c ≠ z ∧ c ≠ TO ∧ c ≠ i1 ∧ c ≠ i2 := fun c hc => by
      simp only [List.mem_cons, List.not_mem_nil, or_false, not_or] at hc
      exact ⟨hc.1, hc.2.2.1, hc.2.2.2.1, hc.2.2.2.2⟩
    have I1 : Inv X pins σ (upd H s.heap.objs.size (.tup [x, y])) { s with heap := h'', gens := s.gens, drawn := s.drawn, toks := s.toks } := by
      refine I.step (ch := [z, TI, TO, i1, i2]) (fun c hc => ?_) (fun c o _ _ hc q _ => ?_) (fun c o _ _ hc q _ => ⟨o.slots, ?_⟩)
        (fun c o _ q n => by rw [upd_ne (nT c o q)]; exact n) (fun c o hc q => ⟨o, ?_⟩) (fun c xs q => by rw [upd_ne (ne_of_none q fr)]; exact q) (fun c o u q => by rw [upd_ne (ne_of_none q fr)]; exact q)
        (fun c ps q => ⟨#[], by rw [upd_ne (ne_of_none q fr), q]; simp⟩) (fun m hm => ?_) ok' I.bare
      · obtain ⟨f0, f1, f2, f3, f4, f5⟩ := hf c hc
        exact ⟨f3, f1, f4, f5⟩
      · obtain ⟨n1, n2, n3, n4⟩ := notin c hc; exact kk2 c o n1 n2 n3 n4 q
      · obtain ⟨n1, n2, n3, n4⟩ := notin c hc; exact kk2 c o n1 n2 n3 n4 q
      · obtain ⟨n1, n2, n3, n4⟩ := notin c hc; exact kk2 c o n1 n2 n3 n4 q
      · obtain ⟨o, es, ep, ho, r⟩ := hm
        exact ⟨o, es, ep, kk2 _ o (Ne.symm (hf z (by simp)).2.1) (Ne.symm (hf TO (by simp)).2.1) (Ne.symm (hf i1 (by simp)).2.1) (Ne.symm (hf i2 (by simp)).2.1) ho, r⟩
    refine ⟨.ref s.heap.objs.size, _, I1, rfl, ⟨s.heap.objs.size, x, y, rfl, fr, rfl, fun zs hz => by rw [I.list_inj hz hq1]; exact hx, fun zs hz => by rw [I.list_inj hz hq2]; exact hy⟩,
      ⟨e1, kk2 TI _ ap.TIz ap.TITO ap.TIi1 ap.TIi2 h2, ⟨u, v, (hs''.2 TO ap.TOz).trans g2⟩, g3.at fun o q => (hs''.2 i1 ap.i1z).trans q, g4.at fun o q => (hs''.2 i2 ap.i2z).trans q⟩, fun c hc => ?_⟩
    rw [upd_ne (Nat.ne_of_lt (lt c hc))]
    exact (hf c hc).1
  done := by
    intro X hP hw hK hc i pins s σ H E I hf st hg
    subst hP hw hK
    obtain ⟨xs, ys, hq1, hq2, hx⟩ := hg
    obtain ⟨its1, rv1, p1, hz1⟩ := I.list hq1
    obtain ⟨its2, rv2, p2, hz2⟩ := I.list hq2
    obtain ⟨h1, h2, ⟨oa, ob, h3⟩, h4, h5⟩ := st
    have l1 := rv1.length
    have l2 := rv2.length
    refine wpAny_pyNext_zip_end (I.ok.hd hc) ap h1 h2 h3 h4 h5 p1.isList p2.isList (by rcases hx with e | e; exact .inl (by simp; omega); exact .inr (by simp; omega)) fun h' kk => ⟨rfl, ?_⟩
    have nne : ∀ c o, H c = some o → c ≠ z ∧ c ≠ TO ∧ c ≠ i1 ∧ c ≠ i2 := fun c o q => by
      refine ⟨fun e => ?_, fun e => ?_, fun e => ?_, fun e => ?_⟩
      · rw [e, (hf z (by simp)).1] at q; cases q
      · rw [e, (hf TO (by simp)).1] at q; cases q
      · rw [e, (hf i1 (by simp)).1] at q; cases q
      · rw [e, (hf i2 (by simp)).1] at q; cases q
    have notin : ∀ c, c ∉ [z, TI, TO, i1, i2] → c ≠ z ∧ c ≠ TO ∧ c ≠ i1 ∧ c ≠ i2 := fun c hc => by
      simp only [List.mem_cons, List.not_mem_nil, or_false, not_or] at hc
      exact ⟨hc.1, hc.2.2.1, hc.2.2.2.1, hc.2.2.2.2⟩
    have ok' : HOk X.prog X.w H h' := fun c o q => by
      refine (I.hok c o q).stay (fun d v hd r => ?_) (fun d r => r) fun d xs r => r
      rcases hd with e | e
      · subst e
        obtain ⟨n1, n2, n3, n4⟩ := nne d o q
        exact kk d v n1 n2 n3 n4 r
      · obtain ⟨n1, n2, n3, n4⟩ := nne d _ e
        exact kk d v n1 n2 n3 n4 r
    refine I.step (g' := s.gens) (d' := s.drawn) (t' := s.toks) (ch := [z, TI, TO, i1, i2]) (fun c hc => ?_) (fun c o _ _ hc q _ => ?_) (fun c o _ _ hc q _ => ⟨o.slots, ?_⟩)
        (fun c o _ q n => n) (fun c o hc q => ⟨o, ?_⟩) (fun c xs q => q) (fun c o u q => q) (fun c ps q => ⟨#[], by rw [q]; simp⟩) (fun m hm => ?_) ok' I.bare
    · obtain ⟨f0, f1, f2, f3, f4, f5⟩ := hf c hc
      exact ⟨f3, f1, f4, f5⟩
    · obtain ⟨n1, n2, n3, n4⟩ := notin c hc; exact kk c o n1 n2 n3 n4 q
    · obtain ⟨n1, n2, n3, n4⟩ := notin c hc; exact kk c o n1 n2 n3 n4 q
    · obtain ⟨n1, n2, n3, n4⟩ := notin c hc; exact kk c o n1 n2 n3 n4 q
    · obtain ⟨o, es, ep, ho, r⟩ := hm
      exact ⟨o, es, ep, kk _ o (Ne.symm (hf z (by simp)).2.1) (Ne.symm (hf TO (by simp)).2.1) (Ne.symm (hf i1 (by simp)).2.1) (Ne.symm (hf i2 (by simp)).2.1) ho, r⟩
  self := fun _ _ _ _ _ st h => wpAny_pyIter_zip st.1 h
section
variable {X : Cx}
def iZip (K : PySem.W.Frag) (ta : TA) : TI := fun σ H R => ta σ H fun vs H1 => ∃ a b, vs = [.ref a, .ref b] ∧ (∃ xs, SqL K H1 a xs) ∧ (∃ ys, SqL K H1 b ys) ∧ R (Itz K a b) H1
theorem pi_zip {a b : Expr} {ta : TA} {p pos tpos : Pos} {es : List Expr} {k : Nat} (hg : Gl X "zip") (hm : X.mg "zip" = none) (ha : PA X [a, b] ta) (hs : starEach [a, b] X.env = [(false, eval a X.env), (false, eval b X.env)] := by rfl) (hs2 : starEach [b] X.env = [(false, eval b X.env)] := by rfl) :
    PI X (.Tuple es k tpos) (.Call (.Name "zip" p) [a, b] [] pos) (iZip X.K ta) := by
  intro pins s σ H R I h
  refine Call_ (ld_blt I hg hm boot_zip (PyProof.Rows.callWith_type1 (thn (ha pos pins s σ H _ I h) fun us s1 ⟨vs, H1, I1, r1, q1⟩ => ?_) (by rw [hs, hs2]) (by rw [hs2]; rfl)))
  obtain ⟨l1, l2, e, ⟨xs, hq1⟩, ⟨ys, hq2⟩, q⟩ := q1
  subst e
  obtain ⟨u, v, rfl, ru, rv⟩ := r1.two
  cases ru
  cases rv
  obtain ⟨its1, rv1, p1, hz1⟩ := I1.list hq1
  obtain ⟨its2, rv2, p2, hz2⟩ := I1.list hq2
  have L1 : @LT.lt Nat _ l1 s1.heap.objs.size := by obtain ⟨o, ho, _⟩ := p1.isList; exact aLt ho
  have L2 : @LT.lt Nat _ l2 s1.heap.objs.size := by obtain ⟨o, ho, _⟩ := p2.isList; exact aLt ho
  refine call_zip_2 p1.isList p2.isList fun h' g1 g2 g3 g4 g5 hsz kk => ?_
  have I2 : Inv X pins σ H1 { s1 with heap := h' } := I1.kept (t' := s1.toks) kk
  refine wpAny_pyIter_zip (s := { s1 with heap := h' }) g1 ?_
  have ap : ZipApart (s1.heap.objs.size + 4) (s1.heap.objs.size + 2) (s1.heap.objs.size + 3) s1.heap.objs.size (s1.heap.objs.size + 1) l1 l2 := by
    constructor <;> (intro e; have e' : @Eq Nat _ _ := e; omega)
  refine ⟨_, [s1.heap.objs.size + 4, s1.heap.objs.size + 2, s1.heap.objs.size + 3, s1.heap.objs.size, s1.heap.objs.size + 1], _, _, H1, rfl, I2, turn_zip l1 l2 _ _ _ _ _ ap, ⟨g1, g2, ⟨_, _, g3⟩, g4, g5⟩, fun c hc => ?_, q⟩
  have hb' : @LE.le Nat _ s1.heap.objs.size c := by
    simp only [List.mem_cons, List.not_mem_nil, or_false] at hc
    rcases hc with e | e | e | e | e <;> (subst e; first | exact Nat.le_refl _ | exact Nat.le_add_right _ _)
  exact I1.fpOk hb' (I1.hok.fresh hb')
theorem pi_zipK {K : PySem.W.Frag} {a b : Expr} {ta : TA} {p pos tpos : Pos} {es : List Expr} {k : Nat} (hk : X.K = K) (hg : Gl X "zip") (hm : X.mg "zip" = none) (ha : PA X [a, b] ta) (hs : starEach [a, b] X.env = [(false, eval a X.env), (false, eval b X.env)] := by rfl) (hs2 : starEach [b] X.env = [(false, eval b X.env)] := by rfl) :
    PI X (.Tuple es k tpos) (.Call (.Name "zip" p) [a, b] [] pos) (iZip K ta) := hk ▸ pi_zip hg hm ha hs hs2
theorem lc_zip {K : PySem.W.Frag} {a b : Addr} {xs ys : List V} {g : TG} {tc : TT} {te : TE} {σ : St} {H : Hp} {Q : VK} (hn : xs.length ≤ sizeLine) (hl : xs.length ≤ ys.length) (Pv : Nat → List V → Hp → Prop) (h0 : Pv 0 [] H) (hlen : ∀ i zs H, Pv i zs H → zs.length ≤ i) (hS : ∀ i zs H, Pv i zs H → SqL K H a xs ∧ SqL K H b ys)
    (hs : ∀ i x y p zs H, xs[i]? = some x → ys[i]? = some y → Pv i zs H → H p = none → g (.ref p) σ (upd H p (.tup [x, y])) fun σ2 H2 => tc σ2 H2 fun b H3 => if b = true then te σ2 H3 fun y H4 => Pv (i + 1) (zs ++ [y]) H4 else Pv (i + 1) zs H3)
    (hd : ∀ zs H, Pv xs.length zs H → ∀ D, H D = none → Q (.ref D) (upd H D (.lst zs))) : LcW (Itz K a b) σ g tc te H Q :=
  lc_gen hn Pv h0 hlen (fun i zs H hi p => ⟨xs, ys, xs[i], ys[i]'(by omega), (hS i zs H p).1, (hS i zs H p).2, by simp [hi], by simp [show i < ys.length by omega]⟩) (fun zs H p => ⟨xs, ys, (hS _ zs H p).1, (hS _ zs H p).2, .inl (Nat.le_refl _)⟩) (fun i zs H hi p x H' y => by
    obtain ⟨q, u, v, e1, e2, e3, y1, y2⟩ := y
    subst e1 e3
    exact hs i u v q zs _ (y1 xs (hS i zs _ p).1) (y2 ys (hS i zs _ p).2) p e2) hd
/-! max of a list of ints -/
end
end L2

/-! x is not True; a text in a dict of the module's. -/
namespace L2
open PySem PySem.Spec PyProof.Rows PyProof.V
section
variable {X : Cx}
end
end L2

/-! what is never come to -/
namespace L2
open PySem PySem.Spec PyProof.Rows
section
variable {X : Cx}
end
end L2

/-! xs[a:c] = ys where c may lie past the end; tuple + tuple within a def; things of all kinds. -/
namespace L2
open PySem PySem.Spec PyProof.Rows PyProof.V
section
variable {prog : Program} {w : World} {A : Around} {E : Value → Shared → Prop} {s : Shared}
end
section
variable {X : Cx}
end
/-! things -/
inductive Sim (H : Hp) : V → Prop
  | non : Sim H .non
  | bl (b : Bool) : Sim H (.bl b)
  | int (i : Int) : Sim H (.int i)
  | str (x : Str) : Sim H (.str x)
  | lst {a : Addr} {xs : List V} (e : H a = some (.lst xs)) : Sim H (.ref a)
  | tup {a : Addr} {xs : List V} (e : H a = some (.tup xs)) : Sim H (.ref a)
def isStr : V → Bool
  | .str _ => true
  | _ => false
def isIn : V → Bool
  | .int _ => true
  | _ => false
/-- a letter's place: a letter's tuple, or another thing -/
inductive LetR (H : Hp) : V → Option (Str × Int) → Prop
  | yes {a : Addr} {x : Str} {k : Int} (e : H a = some (.tup [.str x, .int k])) : LetR H (.ref a) (some (x, k))
  | non : LetR H .non none
  | bl (b : Bool) : LetR H (.bl b) none
  | int (i : Int) : LetR H (.int i) none
  | str (x : Str) : LetR H (.str x) none
  | lst {a : Addr} {xs : List V} (e : H a = some (.lst xs)) : LetR H (.ref a) none
  | len {a : Addr} {xs : List V} (e : H a = some (.tup xs)) (n : xs.length ≠ 2) : LetR H (.ref a) none
  | fst {a : Addr} {u w : V} (e : H a = some (.tup [u, w])) (s : Sim H u) (n : isStr u = false) : LetR H (.ref a) none
  | snd {a : Addr} {x : Str} {w : V} (e : H a = some (.tup [.str x, w])) (s : Sim H w) (n : isIn w = false) : LetR H (.ref a) none
end L2

/-! the arguments of a display, one by one: no star -/
namespace L2
open PySem PySem.Spec PyProof.Rows
section
variable {env : Env} {r : List Expr}
end
end L2

/-! the rules of displays, closed: what stands within is not looked into -/
namespace L2
open PySem PySem.Spec PyProof.Rows
section
variable {X : Cx} {e a b : Expr} {es : List Expr} {te ta tb : TE} {t : TA} {pos : Pos} {st : Stmt} {rest : List Stmt} {ts us : TS}
structure PEc (X : Cx) (e : Expr) (t : TE) : Prop where
  out : PE X e t
structure PAc (X : Cx) (es : List Expr) (t : TA) : Prop where
  out : PA X es t
structure PSc (X : Cx) (st : Stmt) (t : TS) : Prop where
  out : PS X st t
structure PSsc (X : Cx) (st : List Stmt) (t : TS) : Prop where
  out : PSs X st t
end
end L2

/-! displays of constants, as trees: one rule for a whole display -/
namespace L2
open PySem PySem.Spec PyProof.Rows
inductive Lit
  | non | bl (b : Bool) | int (i : Int) | str (x : Str) | tup (l : List Lit) | lst (l : List Lit)
mutual
inductive RepL (H : Hp) : V → Lit → Prop
  | non : RepL H .non .non
  | bl (b : Bool) : RepL H (.bl b) (.bl b)
  | int (i : Int) : RepL H (.int i) (.int i)
  | str (x : Str) : RepL H (.str x) (.str x)
  | tup {a : Addr} {xs : List V} {l : List Lit} (e : H a = some (.tup xs)) (r : RepLs H xs l) : RepL H (.ref a) (.tup l)
  | lst {a : Addr} {xs : List V} {l : List Lit} (e : H a = some (.lst xs)) (r : RepLs H xs l) : RepL H (.ref a) (.lst l)
inductive RepLs (H : Hp) : List V → List Lit → Prop
  | nil : RepLs H [] []
  | cons {v : V} {vs : List V} {l : Lit} {ls : List Lit} (a : RepL H v l) (r : RepLs H vs ls) : RepLs H (v :: vs) (l :: ls)
end
section
variable {X : Cx} {G : St → Hp → Prop} {e a b : Expr} {es : List Expr} {pos : Pos} {l : Lit} {ls la lb : List Lit}
def tL (G : St → Hp → Prop) (l : Lit) : TE := fun σ H Q => G σ H ∧ ∀ v H', Same H H' → RepL H' v l → Q v H'
def tLs (G : St → Hp → Prop) (l : List Lit) : TA := fun σ H Q => G σ H ∧ ∀ v H', Same H H' → RepLs H' v l → Q v H'
structure PL (X : Cx) (G : St → Hp → Prop) (e : Expr) (l : Lit) : Prop where
  out : PE X e (tL G l)
structure PLs (X : Cx) (G : St → Hp → Prop) (es : List Expr) (l : List Lit) : Prop where
  out : PA X es (tLs G l)
end
end L2
namespace L2
open PySem PySem.Spec PyProof.Rows
end L2
namespace L2
open PySem PySem.Spec PyProof.Rows
section
variable {X : Cx} {G : St → Hp → Prop} {es : List Expr} {pos : Pos} {ls : List Lit}
end
end L2

/-! a statement with a word of one's own between it and the rest -/
namespace L2
open PySem PySem.Spec PyProof.Rows
section
variable {X : Cx} {st : Stmt} {rest : List Stmt} {t u : TS}
def tCut (t u : TS) : TS := fun D σ H => ∃ I : St → Hp → Prop, t { D with nx := I } σ H ∧ ∀ σ' H', I σ' H' → u D σ' H'
theorem pss_cut (h1 : PS X st t) (h2 : PSs X rest u) : PSs X (st :: rest) (tCut t u) := by
  intro pins s σ H D I h
  obtain ⟨W, a, b⟩ := h
  have c : PSs X (st :: rest) (tSeq (fun D' σ' H' => σ' = σ ∧ H' = H ∧ D' = { D with nx := u D } ∧ t { D with nx := W } σ H) u) := by
    refine pss_cons (fun pins s σ' H' D' I' q => ?_) h2
    obtain ⟨rfl, rfl, rfl, q⟩ := q
    refine thn (h1 pins s σ' H' _ I' q) fun f s' z => ?_
    cases f with
    | next => obtain ⟨σ2, H2, I2, q2⟩ := z; exact ⟨σ2, H2, I2, b σ2 H2 q2⟩
    | _ => exact z
  exact c pins s σ H D I ⟨rfl, rfl, rfl, a⟩
end
end L2

/-! exceptions over the layer: how one lies behind a call, how it leaves a frame -/
namespace L2
open PySem PySem.Spec PyProof.Rows
/-- an exception's object at a, of the class C, its last entry at T, out of flight -/
def Exc (h : Heap) (a T : Addr) (C : Value) : Prop :=
  ∃ oe vs oT ts, h.get? a = some oe ∧ oe.cls = C ∧ oe.data = .fields vs ∧ vs[1]? = some (.ref T) ∧ h.get? T = some oT ∧ oT.data = .fields ts ∧ ts[3]? = some .none ∧ T ≠ a
theorem Exc.ne_dict {h : Heap} {a T b : Addr} {C : Value} {o : Obj} (x : Exc h a T C) (e : h.get? b = some o) (d : ∀ vs, o.data ≠ .fields vs) : b ≠ a ∧ b ≠ T := by
  obtain ⟨oe, vs, oT, ts, p1, _, p3, _, p5, p6, _, _⟩ := x
  refine ⟨fun z => ?_, fun z => ?_⟩
  · rw [z, p1] at e; cases e; exact d _ p3
  · rw [z, p5] at e; cases e; exact d _ p6
theorem frs_in (l : List Env) : ∀ env ∈ l, ∀ b, env.frame = some b → b ∈ frs l := fun env he b hb => List.mem_filterMap.mpr ⟨env, he, hb⟩
section
variable {M : Model} {A : Around} {E : Value → Shared → Prop} {s : Shared} {env : Env} {outer : List Env} {L a T : Addr} {C : Value} {base h : Heap} {Q : Unit → Shared → Prop}
/-- a new exception leaves the frame in which it was made -/
theorem leave_made {args : List Value} (hfr : A.frames = some (env :: outer)) (hf : env.frame = some L) (hl : h.FunFrames base (env :: outer)) (hx : Heap.MadeExcOf h s.heap a C args)
    (hQ : ∀ h' T, (∀ b o, h.get? b = some o → b ∉ frs (env :: outer) → h'.get? b = some o) → (∀ b o, h.get? b = some o → b ∈ frs (env :: outer) → ∃ sl, h'.get? b = some { o with slots := sl }) →
      Exc h' a T C → h.get? a = none → h.get? T = none → Q () { s with heap := h' }) : wpAny M A (leaving env (.ref a)) Q E s := by
  have hin := frs_in (env :: outer)
  refine wpAny_leaves_madeW (base := PySem.W.hideAll h (frs (env :: outer))) hfr hf (fun b o q => PySem.W.of_hideAll _ q) (PySem.W.funFrames_hide hl hin) hx fun h' t fl _ _ up => ?_
  obtain ⟨st, ea, ff, oe, vs, T, oT, ts, p1, ⟨p2, _⟩, p3, p4, p5, p6, p7, p8, p9⟩ := fl
  have slot : ∀ b o, h.get? b = some o → b ∈ frs (env :: outer) → ∃ sl, h'.get? b = some { o with slots := sl } := fun b o e hb => by
    obtain ⟨_, o', e', d⟩ := hl.mem hb
    rw [e] at e'
    cases e'
    exact up b o (hx.keeps b o e) d
  refine hQ h' T (fun b o e n => st b o (PySem.W.hideAll_get _ e n)) slot ⟨oe, vs, oT, ts, p1, p2, p3, p4, p7, p8, p9, p6⟩ hx.new ?_
  cases q : h.get? T with
  | none => rfl
  | some o =>
    exfalso
    by_cases hb : T ∈ frs (env :: outer)
    · obtain ⟨_, o', e', d⟩ := hl.mem hb
      obtain ⟨sl, z⟩ := slot T o' e' hb
      rw [z] at p7
      cases p7
      exact d _ p8
    · rw [PySem.W.hideAll_get _ q hb] at p5
      cases p5
/-- an exception leaves a frame that it only passes -/
theorem leave_on (hfr : A.frames = some (env :: outer)) (hf : env.frame = some L) (hl : s.heap.FunFrames base (env :: outer)) (hx : Exc s.heap a T C)
    (hQ : ∀ h' T', (∀ b o, s.heap.get? b = some o → b ∉ frs (env :: outer) → b ≠ a → b ≠ T → h'.get? b = some o) → (∀ b o, s.heap.get? b = some o → b ∈ frs (env :: outer) → ∃ sl, h'.get? b = some { o with slots := sl }) →
      Exc h' a T' C → (T' = T ∨ s.heap.get? T' = none) → Q () { s with heap := h' }) : wpAny M A (leaving env (.ref a)) Q E s := by
  have hin : ∀ e ∈ env :: outer, ∀ b, e.frame = some b → b ∈ a :: T :: frs (env :: outer) := fun e he b hb => List.mem_cons_of_mem _ (List.mem_cons_of_mem _ (frs_in _ e he b hb))
  obtain ⟨oe, vs, oT, ts, p1, p2, p3, p4, p5, p6, p7, p8⟩ := id hx
  have hsz : 0 < vs.size := Nat.lt_of_le_of_lt (Nat.zero_le _) (Array.getElem?_eq_some_iff.mp p4).1
  have none_a : (PySem.W.hideAll s.heap (a :: T :: frs (env :: outer))).get? a = none := PySem.W.hideAll_none _ (List.mem_cons_self)
  have none_T : (PySem.W.hideAll s.heap (a :: T :: frs (env :: outer))).get? T = none := PySem.W.hideAll_none _ (List.mem_cons_of_mem _ List.mem_cons_self)
  refine wpAny_leaves_onW (base := PySem.W.hideAll s.heap (a :: T :: frs (env :: outer))) (a0 := vs[0]) hfr hf
    ⟨fun b o q => PySem.W.of_hideAll _ q, none_a, PySem.W.funFrames_hide hl hin, oe, vs, T, oT, ts, p1, ⟨p2, Array.getElem?_eq_getElem hsz⟩, p3, p4, none_T, p8, p5, p6, p7⟩ fun h' fl up => ?_
  obtain ⟨st, ea, ff, oe', vs', T', oT', ts', q1, ⟨q2, _⟩, q3, q4, q5, q6, q7, q8, q9⟩ := fl
  have slot : ∀ b o, s.heap.get? b = some o → b ∈ frs (env :: outer) → ∃ sl, h'.get? b = some { o with slots := sl } := fun b o e hb => by
    obtain ⟨_, o', e', d⟩ := hl.mem hb
    rw [e] at e'
    cases e'
    exact up b o e d
  refine hQ h' T' (fun b o e n na nT => st b o (PySem.W.hideAll_get _ e fun z => ?_)) slot ⟨oe', vs', oT', ts', q1, q2, q3, q4, q7, q8, q9, q6⟩ ?_
  · rcases List.mem_cons.mp z with z | z
    · exact na z
    · rcases List.mem_cons.mp z with z | z
      · exact nT z
      · exact n z
  · by_cases z : T' = T
    · exact .inl z
    · right
      cases q : s.heap.get? T' with
      | none => rfl
      | some o =>
        exfalso
        by_cases hb : T' ∈ frs (env :: outer)
        · obtain ⟨_, o', e', d⟩ := hl.mem hb
          obtain ⟨sl, w⟩ := slot T' o' e' hb
          rw [w] at q7
          cases q7
          exact d _ q8
        · rw [PySem.W.hideAll_get _ q fun y => ?_] at q5
          · cases q5
          · rcases List.mem_cons.mp y with y | y
            · exact q6 y
            · rcases List.mem_cons.mp y with y | y
              · exact z y
              · exact hb y
end
end L2

/-! an exception behind a call, within the layer's promise of a def -/
namespace L2
open PySem PySem.Spec PyProof.Rows
def CX1 (P : Program) (w : World) : CXT := fun outer H s E e s' => ∃ (a T C : Addr) (H' : Hp), e = .ref a ∧ s'.os = s.os ∧ AllBare s'.gens ∧ Un (frs outer) [] H H' s.heap s'.heap ∧ HOk P w H' s'.heap ∧
  Exc s'.heap a T (.ref C) ∧ s.heap.get? a = none ∧ s.heap.get? T = none ∧ H' a = none ∧ H' T = none ∧ E (.ref C) none H'
section
variable {P : Program} {w : World} {K : PySem.W.Frag} {mg : Str → Option Value} {base : Heap} {N : List Str} {qual : Str} {scope : Scope} {f : Addr} {cd : Value} {A : Around} {outer : List Env} {s₀ s : Shared} {H₀ H : Hp} {E : XK} {CX : CXT} {pins : List (Addr × Obj)} {σ : L2.St}
theorem tracked_there {h : Heap} {b : Addr} {o : HO} (ok : HOk P w H h) (e : H b = some o) : ∃ ob, h.get? b = some ob := (ok b o e).there
theorem none_of_heap {h : Heap} {b : Addr} (ok : HOk P w H h) (e : h.get? b = none) : H b = none := by
  cases q : H b with
  | none => rfl
  | some o =>
    obtain ⟨ob, z⟩ := tracked_there ok q
    rw [e] at z
    cases z
/-- a frame left: all is kept but the frames' slots and what is the exception's -/
theorem step_left {a T : Addr} {h' : Heap} (I : Inv (cxOf CX P w K mg base N qual scope f cd A outer s₀ H₀ E) pins σ H s)
    (na : H a = none ∧ s₀.heap.get? a = none) (nT : H T = none ∧ s₀.heap.get? T = none)
    (keep : ∀ b o, s.heap.get? b = some o → b ∉ frs (cxOf CX P w K mg base N qual scope f cd A outer s₀ H₀ E).stack → b ≠ a → b ≠ T → h'.get? b = some o)
    (slot : ∀ b o, s.heap.get? b = some o → b ∈ frs (cxOf CX P w K mg base N qual scope f cd A outer s₀ H₀ E).stack → ∃ sl, h'.get? b = some { o with slots := sl }) :
    Un (frs outer) [] H₀ H s₀.heap h' ∧ HOk P w H h' := by
  have B : Un (frs outer) [] H₀ H s₀.heap s.heap := I.base
  have neL : ∀ b o, s₀.heap.get? b = some o → b ∉ frs outer → b ∉ frs (cxOf CX P w K mg base N qual scope f cd A outer s₀ H₀ E).stack := fun b o e nb hb => by
    rcases List.mem_cons.mp (I.stkSub b hb) with z | z
    · exact absurd (Nat.lt_of_lt_of_le (Heap.lt_size e) I.ok.above) (by rw [z]; exact Nat.lt_irrefl _)
    · exact nb z
  have nea : ∀ b o, s₀.heap.get? b = some o → b ≠ a ∧ b ≠ T := fun b o e => ⟨(fun z => by rw [z, na.2] at e; cases e), (fun z => by rw [z, nT.2] at e; cases e)⟩
  have any : ∀ b o, s.heap.get? b = some o → b ≠ a → b ≠ T → ∃ o', h'.get? b = some o' := fun b o e z1 z2 => by
    by_cases hb : b ∈ frs (cxOf CX P w K mg base N qual scope f cd A outer s₀ H₀ E).stack
    · obtain ⟨sl, q⟩ := slot b o e hb
      exact ⟨_, q⟩
    · exact ⟨o, keep b o e hb z1 z2⟩
  refine ⟨⟨fun b o e n hb hx => keep b o (B.keep b o e n hb hx) (neL b o e hb) (nea b o e).1 (nea b o e).2, fun b o e n hb hx => ?_, B.free, fun b o e hx => ?_, B.tups, B.frzs, B.tbls⟩, fun b u e => ?_⟩
  · obtain ⟨sl, q⟩ := B.slot b o e n hb hx
    obtain ⟨sl', q'⟩ := slot b _ q (by
      show b ∈ frs (envOfC qual scope s₀.heap.objs.size f cd :: outer)
      unfold frs
      rw [List.filterMap_cons]
      exact List.mem_cons_of_mem _ hb)
    exact ⟨sl', q'⟩
  · obtain ⟨o', q⟩ := B.there b o e hx
    exact any b o' q (nea b o e).1 (nea b o e).2
  · refine (I.hok b u e).stay (fun c v hc q => ?_) (fun _ q => q) fun _ _ q => q
    have hH : H c ≠ none := by
      rcases hc with rfl | z
      · rw [e]; exact fun z => nomatch z
      · rw [z]; exact fun z => nomatch z
    exact keep c v q (fun z => hH (I.stkFree c z)) (fun z => hH (by rw [z]; exact na.1)) (fun z => hH (by rw [z]; exact nT.1))
theorem old_none {b : Addr} (I : Inv (cxOf CX P w K mg base N qual scope f cd A outer s₀ H₀ E) pins σ H s) (e : s.heap.get? b = none) : s₀.heap.get? b = none := by
  cases q : s₀.heap.get? b with
  | none => rfl
  | some o =>
    obtain ⟨o', z⟩ := I.base.there b o q (fun y => nomatch y)
    rw [e] at z
    cases z
/-- what is made and raised here -/
theorem xe_made {a C : Addr} {args : List Value} {h' : Heap} {tk : Nat} (I : Inv (cxOf (CX1 P w) P w K mg base N qual scope f cd A outer s₀ H₀ E) pins σ H s) (hx : Heap.MadeExcOf s.heap h' a (.ref C) args) (hE : E (.ref C) none H) :
    (cxOf (CX1 P w) P w K mg base N qual scope f cd A outer s₀ H₀ E).xe (.ref a) { s with heap := h', toks := tk } := by
  refine leave_made (L := s₀.heap.objs.size) I.ok.frames rfl I.stack (s := { s with heap := h', toks := tk }) hx fun h2 T keep slot ex na nT => ?_
  obtain ⟨u, ok⟩ := step_left I ⟨none_of_heap I.hok na, old_none I na⟩ ⟨none_of_heap I.hok nT, old_none I nT⟩ (fun b o e n _ _ => keep b o e n) slot
  exact ⟨a, T, C, H, rfl, I.os, I.bare, u, ok, ex, old_none I na, old_none I nT, none_of_heap I.hok na, none_of_heap I.hok nT, hE⟩
/-- what a callee raised passes on -/
theorem pass1 : Passes (CX1 P w) (cxOf (CX1 P w) P w K mg base N qual scope f cd A outer s₀ H₀ E) E := by
  intro pins σ H s e s' I c
  obtain ⟨a, T, C, H', rfl, os, bare, un, ok, ex, na, nT, ha, hT, hE⟩ := c
  have I' : Inv (cxOf (CX1 P w) P w K mg base N qual scope f cd A outer s₀ H₀ E) pins σ H' s' := I.call' os un ok bare (fun b z => nomatch z)
  refine leave_on (L := s₀.heap.objs.size) I'.ok.frames rfl I'.stack ex fun h2 T' keep slot ex' oT => ?_
  obtain ⟨u, ok'⟩ := step_left I' ⟨ha, old_none I na⟩ ⟨hT, old_none I nT⟩ keep slot
  refine ⟨a, T', C, H', rfl, I'.os, I'.bare, u, ok', ex', old_none I na, ?_, ha, ?_, hE⟩
  · rcases oT with z | z
    · rw [z]; exact old_none I nT
    · exact old_none I' z
  · rcases oT with z | z
    · rw [z]; exact hT
    · exact none_of_heap I'.hok z
end
end L2

/-! raise C(..) of an own class -/
namespace L2
open PySem PySem.Spec PyProof.Rows
theorem exc_of {K : PySem.W.Frag} {C : Addr} {bmB : List Value} {newId : String} {h : Heap} (KI : K.In h) (hq : PySem.W.excIn K C bmB newId = true) :
    ∃ bm N nm qn bs hd sn sub ab col dd k0 k1 k2 k3 k5 mN, h.get? C = some (excClassObj nm qn C N bs bm hd sn sub ab col dd k0 k1 k2 k3 k5 newId) ∧ h.Ns N mN ∧ mN "__init__" = none ∧ OwnTail h bmB bm := by
  unfold PySem.W.excIn at hq
  split at hq
  · rename_i dd dat slots hob
    split at hq
    · rename_i C2 tail k0 k1 k2 k3 nid k5 hmro hsl
      simp only [Bool.and_eq_true, Bool.not_eq_true', beq_iff_eq] at hq
      obtain ⟨⟨⟨⟨⟨e1, e2⟩, e3⟩, e4⟩, e5⟩, e6⟩ := hq
      subst e1
      subst e2
      obtain ⟨nm, bs, mro, ns, qn, hd, sn, sub, ab, col, del⟩ := dat
      simp only at hmro e3 e5 e6
      subst hmro
      subst e3
      obtain ⟨sl⟩ := slots
      simp only at hsl
      subst hsl
      exact ⟨tail, ns, nm, qn, bs, hd, sn, sub, ab, col, dd, k0, k1, k2, k3, k5, _, KI _ _ hob, .of_isNs (PySem.W.isNs_of_in KI e5), PySem.W.nsMap_none_of_in KI e5 e6, PySem.W.tail_of_in KI e4⟩
    · exact nomatch hq
  · exact nomatch hq
def bmV : List Value := [.type "ValueError", .type "Exception", .type "BaseException", .type "object"]
def tRaise (C : Addr) (E : XK) (ta : TA) : TS := fun _ σ H => ta σ H fun vs H1 => vs.length ≤ sizeLine ∧ E (.ref C) none H1
section
variable {P : Program} {w : World} {K : PySem.W.Frag} {mg : Str → Option Value} {base : Heap} {N : List Str} {qual : Str} {scope : Scope} {f : Addr} {cd : Value} {A : Around} {outer : List Env} {s₀ : Shared} {H₀ : Hp} {E : XK}
theorem ps_raise {x : Str} {C : Addr} {e : Expr} {es : List Expr} {ta : TA} {np cpos pos : Pos} (hg : Gl (cxOf (CX1 P w) P w K mg base N qual scope f cd A outer s₀ H₀ E) x) (hm : mg x = some (.ref C)) (hc : PySem.W.excIn K C bmV "ValueError.__new__" = true)
    (ha : PA (cxOf (CX1 P w) P w K mg base N qual scope f cd A outer s₀ H₀ E) (e :: es) ta)
    (he : starEach (e :: es) (cxOf (CX1 P w) P w K mg base N qual scope f cd A outer s₀ H₀ E).env = (false, eval e (cxOf (CX1 P w) P w K mg base N qual scope f cd A outer s₀ H₀ E).env) :: starEach es (cxOf (CX1 P w) P w K mg base N qual scope f cd A outer s₀ H₀ E).env := by rfl)
    (hp : (backTo cpos (starEach es (cxOf (CX1 P w) P w K mg base N qual scope f cd A outer s₀ H₀ E).env)).any (·.1) = false := by rfl) (hd : (x == ("__debug__" : Str)) = false := by decide) :
    PS (cxOf (CX1 P w) P w K mg base N qual scope f cd A outer s₀ H₀ E) (.Raise (some (.Call (.Name x np) (e :: es) [] cpos)) none pos) (tRaise C E ta) := by
  intro pins s σ H D I h
  obtain ⟨bm, NN, nm, qn, bs, hdc, sn, sub, ab, col, dd, k0, k1, k2, k3, k5, mN, hC, hN, hni, T⟩ := exc_of I.mod.kin hc
  have hb : bmV.contains (.type "BaseException") = true := PySem.F.excBase_ValueError.hasBase
  refine wpAny_Raise_call_subT (C := C) (nm := nm) (q := qn) (N := NN) (bs := bs) (bm := bm) (bmB := bmV) (hdct := hdc) (sn := sn) (sub := sub) (ab := ab) (col := col) (dd := dd) (k0 := k0) (k1 := k1) (k2 := k2) (k3 := k3) (k5 := k5)
    (newId := "ValueError.__new__") PySem.F.excBase_ValueError (mN := mN) (T.hasType hb) (I.ok.hd rfl) (by rw [he]; show (false || (backTo cpos (starEach es _)).any (·.1)) = false; rw [hp]; rfl) hni (ld_glob I hg hm ⟨rfl, ?_⟩ hd)
  have hz := ha cpos pins s σ H _ I h
  rw [he] at hz ⊢
  refine Calls.evalArgs_plain (wpAny_mono hz (fun us s2 ⟨vs, H2, I2, rv, hl, hE⟩ => ?_) fun _ _ y => y)
  refine ⟨rfl, by rw [← rv.length]; exact hl, I2.bk _ _ hC, hN.keeps I2.bk, T.keeps I2.bk, fun h' a mk => ?_⟩
  exact xe_made (tk := s2.toks) I2 mk hE
end
end L2

/-! isinstance of an exception of an own class -/
namespace L2
open PySem PySem.Spec PyProof.Rows
structure XLook (M : Model) (h : Heap) (C : Addr) : Prop where
  ga : PySem.W.Looks M h (typeLookup (.ref C) "__getattribute__") (some (.builtin "BaseException.__getattribute__"))
  ca : PySem.W.Looks M h (typeLookup (.ref C) "__class__") (some (.builtin "object.__class__"))
  ob : PySem.W.Looks M h (isSubtype (.ref C) (.type "object")) true
  be : PySem.W.Looks M h (isSubtype (.ref C) (.type "BaseException")) true
  gn : PySem.W.Looks M h (typeLookup (.ref C) "__getattr__") none
section
variable {prog : Program} {w : World} {A : Around} {E : Value → Shared → Prop} {h : Heap} {g : Array GenState} {d : Drawn} {t : Nat} {os : OsState} {a C : Addr} {o : Obj}
end
end L2

/-! try: body; except C as n: suite -/
namespace L2
open PySem PySem.Spec PyProof.Rows
section
variable {M : Model} {A : Around} {E : Value → Shared → Prop} {h : Heap} {g : Array GenState} {d : Drawn} {t : Nat} {os : OsState}
variable {nm q nmD qD : Str} {C N D ND : Addr} {bs bm bsD bmD : List Value} {hdct hdD : Bool} {sn snD : List Str} {sub subD : List Value} {ab abD : Bool} {col colD : Option Bool} {dd ddD : Option Addr} {k0 k1 k2 k3 k5 j0 j1 j2 j3 j5 : Option Value} {newId newD : String}
theorem match_own {e : Addr} {oe : Obj} {Q : Bool → Shared → Prop} (hD : h.get? D = some (excClassObj nmD qD D ND bsD bmD hdD snD subD abD colD ddD j0 j1 j2 j3 j5 newD)) (he : h.get? e = some oe) (hcls : oe.cls = .ref C)
    (hbD : bmD.contains (.type "BaseException") = true) (hsub : PySem.W.Looks M h (isSubtype (.ref C) (.ref D)) true) (hq : Q true ⟨h, g, d, t, os⟩) : wpAny M A (excMatches (.ref e) (.ref D)) Q E ⟨h, g, d, t, os⟩ := by
  have hcB : (Value.ref D :: bmD).contains (.type "BaseException") = true := by rw [List.contains_cons, hbD, Bool.or_true]
  have f := tc_notTuple
  unfold excMatches
  repeat (first | (with_reducible refine wpAny_loadPart_at he ?_; rw [hcls]) | with_reducible refine wpAny_loadPart_at hD ?_ | (with_reducible refine wpAny_isSubtype_exc hD ?_; rw [hcB]) | with_reducible refine hsub.at ?_ | wp_step)
  exact hq
end
abbrev Cx.nailed (X : Cx) (pins : List (Addr × Obj)) : Cx := { X with pn := X.pn ++ pins }
theorem Cx.Ok.nailed {X : Cx} (ok : X.Ok) (pins : List (Addr × Obj)) : (X.nailed pins).Ok :=
  ⟨ok.mod, ok.kind, ok.glob, ok.blt, ok.above, ok.inj, ok.has, ok.cab, ok.hd, ok.frames, ok.stk, ok.exf, ok.bs, ok.bsz, ok.noex, ok.exfs, ok.funs, ok.frf⟩
theorem Cx.Ok.unnailed {X : Cx} {pins : List (Addr × Obj)} (ok : (X.nailed pins).Ok) : X.Ok :=
  ⟨ok.mod, ok.kind, ok.glob, ok.blt, ok.above, ok.inj, ok.has, ok.cab, ok.hd, ok.frames, ok.stk, ok.exf, ok.bs, ok.bsz, ok.noex, ok.exfs, ok.funs, ok.frf⟩
section
variable {X : Cx} {pins ps : List (Addr × Obj)} {σ : L2.St} {H : Hp} {s : Shared}
theorem Inv.nail (I : Inv X pins σ H s) : Inv (X.nailed pins) [] σ H s := ⟨I.ok.nailed pins, I.os, I.bare, I.base, I.loc, I.cell, I.free, I.freeC, fun p hp => I.pin p (by simpa using hp), I.hok, I.len⟩
theorem Inv.unnail (I : Inv (X.nailed pins) ps σ H s) : Inv X pins σ H s := ⟨I.ok.unnailed, I.os, I.bare, I.base, I.loc, I.cell, I.free, I.freeC, fun p hp => I.pin p (List.mem_append_left _ hp), I.hok, I.len⟩
/-- all is kept but the running frames' slots and what is the exception's -/
theorem Inv.left {a T : Addr} {h' : Heap} (I : Inv X pins σ H s) (hex : X.ex = []) (na : H a = none ∧ X.s₀.heap.get? a = none) (nT : H T = none ∧ X.s₀.heap.get? T = none)
    (np : ∀ p ∈ X.pn ++ pins, p.1 ≠ a ∧ p.1 ≠ T) (xc : ∃ C, Exc s.heap a T C)
    (keep : ∀ b o, s.heap.get? b = some o → b ∉ frs X.stack → b ≠ a → b ≠ T → h'.get? b = some o) (slot : ∀ b o, s.heap.get? b = some o → b ∈ frs X.stack → ∃ sl, h'.get? b = some { o with slots := sl }) :
    Inv X pins σ H { s with heap := h' } := by
  obtain ⟨C0, xc⟩ := xc
  have up : ∀ b o, s.heap.get? b = some o → b ≠ a → b ≠ T → ∃ sl, h'.get? b = some { o with slots := sl } := fun b o e z1 z2 => by
    by_cases hb : b ∈ frs X.stack
    · exact slot b o e hb
    · exact ⟨o.slots, keep b o e hb z1 z2⟩
  have neL : ∀ b o, X.s₀.heap.get? b = some o → b ∉ X.fs → b ∉ frs X.stack := fun b o e nb hb => by
    rcases List.mem_cons.mp (I.stkSub b hb) with z | z
    · exact absurd (Nat.lt_of_lt_of_le (Heap.lt_size e) I.ok.above) (by rw [z]; exact Nat.lt_irrefl _)
    · exact nb z
  have nea : ∀ b o, X.s₀.heap.get? b = some o → b ≠ a ∧ b ≠ T := fun b o e => ⟨(fun z => by rw [z, na.2] at e; cases e), (fun z => by rw [z, nT.2] at e; cases e)⟩
  have cellK : ∀ c v, s.heap.IsCell c v → h'.IsCell c v := fun c v ⟨o, e, dt⟩ => by
    have n := xc.ne_dict e (fun vs z => by rw [dt] at z; cases z)
    obtain ⟨sl, e'⟩ := up c o e n.1 n.2
    exact ⟨_, e', dt⟩
  refine ⟨I.ok, I.os, I.bare, ⟨fun b o e n hb hx => ?_, fun b o e n hb hx => ?_, I.base.free, fun b o e hx => ?_, I.base.tups, I.base.frzs, I.base.tbls⟩, ?_, fun x c e => ?_, I.free, I.freeC, fun p hp => ?_, fun b u e => ?_, I.len⟩
  · exact keep b o (I.base.keep b o e n hb hx) (neL b o e hb) (nea b o e).1 (nea b o e).2
  · obtain ⟨sl, e1⟩ := I.base.slot b o e n hb hx
    obtain ⟨sl', e2⟩ := up b _ e1 (nea b o e).1 (nea b o e).2
    exact ⟨sl', e2⟩
  · obtain ⟨o', e1⟩ := I.base.there b o e hx
    obtain ⟨sl, e2⟩ := up b o' e1 (nea b o e).1 (nea b o e).2
    exact ⟨_, e2⟩
  · obtain ⟨m, ⟨o, es, ep, ho, hd, r⟩, hl⟩ := I.loc
    have n := xc.ne_dict ho (fun vs z => by rw [hd] at z; cases z)
    obtain ⟨sl, e'⟩ := up _ o ho n.1 n.2
    refine ⟨m, ⟨_, es, ep, e', hd, r⟩, fun i x v e1 e2 e3 => ?_⟩
    obtain ⟨u, rv, l⟩ := hl i x v e1 e2 e3
    refine ⟨u, rv, ?_⟩
    rcases l with l | ⟨k, c, e, z⟩
    · exact .inl l
    · exact .inr ⟨k, c, e, cellK c _ z⟩
  · obtain ⟨v, z⟩ := I.cell x c e
    exact ⟨v, cellK c v z⟩
  · obtain ⟨e, n, ne, nf, dd⟩ := I.pin p hp
    have nst : p.1 ∉ frs X.stack := fun hb => by
      rcases List.mem_cons.mp (I.stkSub _ hb) with z | z
      · exact ne z
      · exact nf z
    exact ⟨keep p.1 p.2 e nst (np p hp).1 (np p hp).2, n, ne, nf, dd⟩
  · refine (I.hok b u e).stay (fun c v hc q => ?_) (fun _ q => q) fun _ _ q => q
    have hH : H c ≠ none := by
      rcases hc with rfl | z
      · rw [e]; exact fun z => nomatch z
      · rw [z]; exact fun z => nomatch z
    exact keep c v q (fun z => hH (I.stkFree c z)) (fun z => hH (by rw [z]; exact na.1)) (fun z => hH (by rw [z]; exact nT.1))
/-- the exception is looked at by its handler: entered once more, its flight ended -/
theorem looked {M : Model} {E : Value → Shared → Prop} {a T : Addr} {C : Value} {env : Env} {outer : List Env} {L : Addr} {base : Heap} {A : Around} {Q : Unit → Shared → Prop} (hfr : A.frames = some (env :: outer)) (hf : env.frame = some L) (hl : s.heap.FunFrames base (env :: outer)) (hx : Exc s.heap a T C)
    (hQ : ∀ h' T', (∀ b o, s.heap.get? b = some o → b ∉ frs (env :: outer) → b ≠ a → b ≠ T → h'.get? b = some o) → (∀ b o, s.heap.get? b = some o → b ∈ frs (env :: outer) → ∃ sl, h'.get? b = some { o with slots := sl }) →
      Exc h' a T' C → (T' = T ∨ s.heap.get? T' = none) → Q () { s with heap := h' }) : wpAny M A (noteFrame (.ref a) env) (fun _ s₂ => wpAny M A (setFlight (.ref a) none) Q E s₂) E s := by
  have hin : ∀ e ∈ env :: outer, ∀ b, e.frame = some b → b ∈ a :: T :: frs (env :: outer) := fun e he b hb => List.mem_cons_of_mem _ (List.mem_cons_of_mem _ (frs_in _ e he b hb))
  obtain ⟨oe, vs, oT, ts, p1, p2, p3, p4, p5, p6, p7, p8⟩ := id hx
  have hsz : 0 < vs.size := Nat.lt_of_le_of_lt (Nat.zero_le _) (Array.getElem?_eq_some_iff.mp p4).1
  have none_a : (PySem.W.hideAll s.heap (a :: T :: frs (env :: outer))).get? a = none := PySem.W.hideAll_none _ (List.mem_cons_self)
  have none_T : (PySem.W.hideAll s.heap (a :: T :: frs (env :: outer))).get? T = none := PySem.W.hideAll_none _ (List.mem_cons_of_mem _ List.mem_cons_self)
  refine wpAny_looks_onW (base := PySem.W.hideAll s.heap (a :: T :: frs (env :: outer))) (a0 := vs[0]) hfr hf
    ⟨fun b o q => PySem.W.of_hideAll _ q, none_a, PySem.W.funFrames_hide hl hin, oe, vs, T, oT, ts, p1, ⟨p2, Array.getElem?_eq_getElem hsz⟩, p3, p4, none_T, p8, p5, p6, p7⟩ fun h1 held up1 => ?_
  refine wpAny_landsW (s := { s with heap := h1 }) held fun h' fl up2 => ?_
  have up := up1.trans up2
  obtain ⟨st, ea, ff, oe', vs', T', oT', ts', q1, ⟨q2, _⟩, q3, q4, q5, q6, q7, q8, q9⟩ := fl
  have slot : ∀ b o, s.heap.get? b = some o → b ∈ frs (env :: outer) → ∃ sl, h'.get? b = some { o with slots := sl } := fun b o e hb => by
    obtain ⟨_, o', e', d⟩ := hl.mem hb
    rw [e] at e'
    cases e'
    exact up b o e d
  refine hQ h' T' (fun b o e n na nT => st b o (PySem.W.hideAll_get _ e fun z => ?_)) slot ⟨oe', vs', oT', ts', q1, q2, q3, q4, q7, q8, q9, q6⟩ ?_
  · rcases List.mem_cons.mp z with z | z
    · exact na z
    · rcases List.mem_cons.mp z with z | z
      · exact nT z
      · exact n z
  · by_cases z : T' = T
    · exact .inl z
    · right
      cases q : s.heap.get? T' with
      | none => rfl
      | some o =>
        exfalso
        by_cases hb : T' ∈ frs (env :: outer)
        · obtain ⟨_, o', e', d⟩ := hl.mem hb
          obtain ⟨sl, w⟩ := slot T' o' e' hb
          rw [w] at q7
          cases q7
          exact d _ q8
        · rw [PySem.W.hideAll_get _ q fun y => ?_] at q5
          · cases q5
          · rcases List.mem_cons.mp y with y | y
            · exact q6 y
            · rcases List.mem_cons.mp y with y | y
              · exact z y
              · exact hb y
/-- the flight ended once more -/
theorem landed {M : Model} {A : Around} {E : Value → Shared → Prop} {a T : Addr} {C : Value} {Q : Unit → Shared → Prop} (hx : Exc s.heap a T C) (hQ : ∀ h', (∀ b o, s.heap.get? b = some o → b ≠ a → b ≠ T → h'.get? b = some o) → (∃ T', Exc h' a T' C ∧ (T' = T ∨ s.heap.get? T' = none)) → Q () { s with heap := h' }) :
    wpAny M A (setFlight (.ref a) none) Q E s := by
  obtain ⟨oe, vs, oT, ts, p1, p2, p3, p4, p5, p6, p7, p8⟩ := id hx
  have hsz : 0 < vs.size := Nat.lt_of_le_of_lt (Nat.zero_le _) (Array.getElem?_eq_some_iff.mp p4).1
  have none_T : (PySem.W.hideAll s.heap [a, T]).get? T = none := PySem.W.hideAll_none _ (List.mem_cons_of_mem _ List.mem_cons_self)
  refine wpAny_setFlight_noneW (base := PySem.W.hideAll s.heap [a, T]) (l := []) (a0 := vs[0]) (fl := .none) (fun b o q => PySem.W.of_hideAll _ q) trivial ⟨oe, vs, T, oT, ts, p1, ⟨p2, Array.getElem?_eq_getElem hsz⟩, p3, p4, none_T, p8, p5, p6, p7⟩ fun h' st _ tr _ => ?_
  obtain ⟨oe', vs', T', oT', ts', q1, ⟨q2, _⟩, q3, q4, q5, q6, q7, q8, q9⟩ := tr
  refine hQ h' (fun b o e na nT => st b o (PySem.W.hideAll_get _ e fun z => ?_)) ⟨T', ⟨oe', vs', oT', ts', q1, q2, q3, q4, q7, q8, q9, q6⟩, ?_⟩
  · rcases List.mem_cons.mp z with z | z
    · exact na z
    · exact nT (List.mem_singleton.mp z)
  · by_cases z : T' = T
    · exact .inl z
    · right
      cases q : s.heap.get? T' with
      | none => rfl
      | some o =>
        exfalso
        rw [PySem.W.hideAll_get _ q fun y => ?_] at q5
        · cases q5
        · rcases List.mem_cons.mp y with y | y
          · exact q6 y
          · exact z (List.mem_singleton.mp y)
end
end L2

/-! the rule for try -/
namespace L2
open PySem PySem.Spec PyProof.Rows
section
variable {X : Cx} {pins : List (Addr × Obj)} {σ : L2.St} {H : Hp} {s : Shared} {R : Addr → Hp → Prop}
/-- within an except suite -/
abbrev Cx.suite (X : Cx) (pins : List (Addr × Obj)) (a : Addr) : Cx := { X with pn := X.pn ++ pins, A := X.A.mark (some (.ref a)), calm := false, xe := fun _ _ => False }
theorem Cx.Ok.suite {X : Cx} (ok : X.Ok) (pins : List (Addr × Obj)) (a : Addr) : (X.suite pins a).Ok :=
  ⟨ok.mod, ok.kind, ok.glob, ok.blt, ok.above, ok.inj, ok.has, ok.cab, (fun z => nomatch z), ok.frames, ok.stk, ok.exf, ok.bs, ok.bsz, ok.noex, ok.exfs, ok.funs, ok.frf⟩
theorem Inv.suite (I : Inv (X.nailed pins) [] σ H s) (ok : X.Ok) (a : Addr) : Inv (X.suite pins a) [] σ H s := ⟨ok.suite pins a, I.os, I.bare, I.base, I.loc, I.cell, I.free, I.freeC, I.pin, I.hok, I.len⟩
theorem Inv.unsuite {a : Addr} {ps : List (Addr × Obj)} (I : Inv (X.suite pins a) ps σ H s) (ok : X.Ok) : Inv X pins σ H s := ⟨ok, I.os, I.bare, I.base, I.loc, I.cell, I.free, I.freeC, fun p hp => I.pin p (List.mem_append_left _ hp), I.hok, I.len⟩
end
end L2

/-! defs that raise; calls of them; calls of other defs within an except suite; isinstance there -/
namespace L2
open PySem PySem.Spec PyProof.Rows
section
variable {P : Program} {w : World} {K : PySem.W.Frag} {mg : Str → Option Value} {base : Heap}
theorem Fun.okX {x qual : Str} {st : Stmt} {f : Addr} {fd : FuncData} {N ps : List Str} {k : Nat} {sp : Sp} (F : Fun K x qual st f fd) (S : FnScope N ps (defScope st)) (len : ∀ vs H Q E, sp vs H Q E → vs.length = ps.length)
    (hbody : ∀ (cdv : Value) (A : Around) (outer : List Env) (s : Shared) (H : Hp) (vs : List V) (Q : VK) (E : XK), Room k (A.deeper (envOfC qual (defScope st) s.heap.objs.size f cdv)) → sp vs H Q E →
      ∃ t, PSs (cxOf (CX1 P w) P w K mg base N qual (defScope st) f cdv A outer s H E) (defBody st) t ∧ t { nx := fun _ H' => Q .non H', rt := Q } (start N vs) H) : FnOk P w K mg base (CX1 P w) (k + 1) f fd ps sp := by
  obtain ⟨oc, od, kV, doc, pm, an, cdv, ct, osl, rfl, lk, hcd⟩ := F.ex
  exact fn_of lk hcd S len fun A outer s H vs Q E hr hsp => hbody cdv A outer s H vs Q E hr hsp
def HasX (P : Program) (w : World) (K : PySem.W.Frag) (mg : Str → Option Value) (base : Heap) (k : Nat) (x : Str) (ps : List Str) (sp : Sp) : Prop :=
  ∃ (f : Addr) (fd : FuncData), FnOk P w K mg base (CX1 P w) k f fd ps sp ∧ mg x = some (.ref f) ∧ PySem.W.keepIn K (.ref f) = true ∧ Binds K fd ps []
theorem pe_hasX {X : Cx} {k : Nat} {x : Str} {ps : List Str} {sp : Sp} {p pos : Pos} {e : Expr} {es : List Expr} {t : TA} {E : XK} (h : HasX X.prog X.w X.K X.mg X.base k x ps sp) (hr : Room k X.A) (hx : Passes (CX1 X.prog X.w) X E) (ha : PA X (e :: es) t) (hg : Gl X x := by rfl) (hdb : (x == ("__debug__" : Str)) = false := by decide)
    (he : starEach (e :: es) X.env = (false, eval e X.env) :: starEach es X.env := by rfl) (hpl : (backTo pos (starEach es X.env)).any (·.1) = false := by rfl) : PE X (.Call (.Name x p) (e :: es) [] pos) (tCall sp [] E t) := by
  obtain ⟨f, fd, G, hm, hk, hb⟩ := h
  exact pe_call G hr hg hm hk hb .nil hx ha hdb he hpl
structure RoomS (k : Nat) (A : Around) : Prop where
  dp : A.depth + 3 * k + 5 < recursionLimit
  un : A.units + 16 * k + 200 < cLine
/-- a def that may be called within an except suite, too -/
structure FnOkS (P : Program) (w : World) (K : PySem.W.Frag) (mg : Str → Option Value) (base : Heap) (k : Nat) (f : Addr) (fd : FuncData) (ps : List Str) (sp : Sp) : Prop where
  len : ∀ vs H Q E, sp vs H Q E → vs.length = ps.length
  run : ∀ (A : Around) (outer : List Env) (s : Shared) (H : Hp) (args : Args) (us : List Value) (vs : List V) (Q : VK), RoomS k A → Env0 P w K mg base A outer s H → BindsTo s fd args (ps.zip us) → Vals vs us → sp vs H Q E0 →
    codeAny (model P w) A (.call (.ref f) args) (CR CX0 outer P w H s Q E0) s
end
end L2

/-! isinstance(an exception, a class) -/
namespace L2
open PySem PySem.Spec PyProof.Rows
structure XCls (K : PySem.W.Frag) (C : Addr) : Prop where
  ga : PySem.W.findIn K (.ref C) "__getattribute__" = some (some (.builtin "BaseException.__getattribute__"))
  gn : PySem.W.findIn K (.ref C) "__getattr__" = some none
  ca : PySem.W.findIn K (.ref C) "__class__" = some (some (.builtin "object.__class__"))
  ob : PySem.W.mroIn K C (.type "object") = some true
  be : PySem.W.mroIn K C (.type "BaseException") = some true
  cl : (PySem.W.clsIn K C).isSome = true
end L2

namespace L2
open PySem PySem.Spec PyProof.Rows

end L2

/-! range(a, b, 2) and zip walked by for -/
namespace L2
open PySem PySem.Spec PyProof.Rows
section
variable {X : Cx} {tg : Expr}
theorem fits_small {i : Int} (h0 : -1 ≤ i) (h1 : i < 1000000) : Builtin.Range.rangeFitsLong i = true := by
  unfold Builtin.Range.rangeFitsLong
  rw [Bool.and_eq_true]
  exact ⟨decide_eq_true (by omega), decide_eq_true (by omega)⟩
end
end L2

/-! == of two lists of ints, alike or not; != of what is plain or alike; list.index -/
namespace L2
open PySem PySem.Spec PyProof.Rows PyProof.V
section
variable {X : Cx}
theorem ints_at {ns : List Int} {its : List Value} (r : Vals (ns.map V.int) its) {j : Nat} (h : j < its.toArray.size) : ∃ t, its.toArray[j] = .int (ns.getD j 0) t := by
  have l := r.length
  rw [List.length_map] at l
  have hj : j < ns.length := by simp only [List.size_toArray] at h; omega
  obtain ⟨u, e, ru⟩ := r.get (i := j) (x := V.int ns[j]) (by simp [hj])
  obtain ⟨t, q⟩ := (show ∃ t, u = Value.int ns[j] t from ru)
  have hi : j < its.length := by omega
  refine ⟨t, ?_⟩
  have : its[j]? = some its[j] := by simp [hi]
  rw [this] at e
  have e2 := Option.some.inj e
  simp [hj]
  rw [e2, q]
theorem op_neU {K : PySem.W.Frag} (h : X.K = K) (hu : X.A.units + 64 < cLine) : OpR X (compareOp .NotEq) (fun x y H Q => rNe x y H Q ∨ rEqv K false x y H Q) := by
  intro pins s σ H x y v u Q I rx ry hq
  rcases hq with z | z
  · exact op_ne pins s σ H x y v u Q I rx ry z
  · exact op_nevK h hu pins s σ H x y v u Q I rx ry z
end
end L2

/-! Sets of some of 0, 1, 2, 3: set(a list of such), sorted(such a set). -/
namespace L2
open PySem PySem.Spec PyProof.Rows
def sub4 (b : Nat → Bool) : List Nat := (bif b 0 then [0] else []) ++ ((bif b 1 then [1] else []) ++ ((bif b 2 then [2] else []) ++ (bif b 3 then [3] else [])))
def tab4 (b : Nat → Bool) (led : Bool) (f m : Nat) : SetTable := { mask := 7, place := (sub4 b).toArray, dummies := #[], finger := f, led := led, moves := m, plain := true }
end L2

namespace L2
open PySem PySem.Spec PyProof.Rows
def EK : Int × Value → Nat → Prop := fun e k => e.1 = hashInt (k : Int) ∧ ∃ t, e.2 = .int (k : Int) t
/-- at a stands the set of those of 0, 1, 2, 3 that b tells, which only grew -/
def SO (w : World) (a : Addr) (b : Nat → Bool) (ep : Nat) (es : Array (Int × Value)) (h : Heap) : Prop :=
  ∃ o led f m, h.get? a = some o ∧ o.ExactSet ∧ o.data = .set es ep (tab4 b led f m) ∧ (w.params.followText "set-order" = true ∨ led = true) ∧ Paired EK es.toList (sub4 b)
section
variable {prog : Program} {w : World} {A : Around} {E : Value → Shared → Prop} {s : Shared} {a : Addr} {b : Nat → Bool} {ep : Nat} {es : Array (Int × Value)}
/-! set(a list): what holds of the set while it grows is told by J -/
end
end L2

namespace L2
open PySem PySem.Spec PyProof.Rows
/-- the order in which the set at a is walked -/
def ord4 (w : World) (a : Addr) (ep : Nat) (es : Array (Int × Value)) : Array (Int × Value) := if w.params.followText "set-order" = true then pickOrder (w.params.setOrder a ep) es else es
section
variable {prog : Program} {w : World} {A : Around} {E : Value → Shared → Prop} {s : Shared} {a it : Addr} {b : Nat → Bool} {ep i : Nat} {es : Array (Int × Value)}
end
end L2

namespace L2
open PySem PySem.Spec PyProof.Rows
section
variable {prog : Program} {w : World} {A : Around} {E : Value → Shared → Prop} {s : Shared} {a it : Addr} {b : Nat → Bool} {ep i : Nat} {es : Array (Int × Value)}
/-- C tells of a set at a that can be walked; f tells where the next one is looked for -/
structure Wlk (prog : Program) (w : World) (a : Addr) (ep : Nat) (es : Array (Int × Value)) (f : Nat → Nat) (C : Heap → Prop) : Prop where
  there : ∀ {h}, C h → ∃ o t, h.get? a = some o ∧ o.ExactSet ∧ o.data = .set es ep t ∧ t.fits es.size = true ∧ t.plain = true
  kept : ∀ {h h'}, C h → (∀ o, h.get? a = some o → h'.get? a = some o) → C h'
  first : f 0 = 0
  next : ∀ {A E s i} {Q : Option (Value × Nat) → Shared → Prop}, C s.heap → i ≤ es.size → Q (((ord4 w a ep es)[i]?).map fun e => (e.2, f (i + 1))) s → wpAny (model prog w) A (setNext a (f i) i ep) Q E s
section
variable {f : Nat → Nat} {C : Heap → Prop} (N : Wlk prog w a ep es f C)
include N
end
end
end L2

namespace L2
open PySem PySem.Spec PyProof.Rows
/-- a set of those of 0, 1, 2, 3 -/
def SetO (w : World) (a : Addr) (ks : List Nat) : HO := .ext fun h => ∃ b ep es, sub4 b = ks ∧ SO w a b ep es h
section
variable {X : Cx}
end
end L2

namespace L2
open PySem PySem.Spec PyProof.Rows
end L2

/-! list.sort of any length: galloping -/
namespace L2
open PySem PySem.Spec PyProof.Rows
def gallop_ : Bool → Keyed → Array Keyed → Nat → Nat → Nat → StateT SortSt Sem (Option Nat) := sortPriv% PySem.Builtin.gallop
def mergeLo_ : Array Keyed → Array Keyed → StateT SortSt Sem (Array Keyed) := sortPriv% PySem.Builtin.mergeLo
def mergeHi_ : Array Keyed → Array Keyed → StateT SortSt Sem (Array Keyed) := sortPriv% PySem.Builtin.mergeHi
def mergeAt_ : Nat → StateT SortSt Sem Bool := sortPriv% PySem.Builtin.mergeAt
/-- a weak order -/
structure Wo (lt : Keyed → Keyed → Bool) : Prop where
  irr : ∀ p, lt p p = false
  asym : ∀ p q, lt p q = true → lt q p = false
  neg : ∀ p q r, lt p r = true → lt p q = true ∨ lt q r = true
theorem Wo.leT {lt : Keyed → Keyed → Bool} (C : Wo lt) {p q r : Keyed} (h1 : lt q p = false) (h2 : lt r q = false) : lt r p = false := by
  cases h : lt r p with
  | false => rfl
  | true => rcases C.neg r q p h with z | z
            · rw [z] at h2; cases h2
            · rw [z] at h1; cases h1
theorem Wo.flip {lt : Keyed → Keyed → Bool} (C : Wo lt) : Wo (fun x y => lt y x) := ⟨fun p => C.irr p, fun p q h => C.asym q p h, fun p q r h => (C.neg r q p h).symm⟩
/-- a comparison that answers by lt for the things of D, and changes nothing -/
structure Cmp (prog : Program) (w : World) (A : Around) (E : Value → Shared → Prop) (s : Shared) (kd : SortKind) (D : Keyed → Prop) (lt : Keyed → Keyed → Bool) : Prop where
  cmp : ∀ (p q : Keyed) (st : SortSt) (Q : Option Bool → SortSt → Prop), D p → D q → kindOf st = kd → Q (some (lt p q)) st → wpS (model prog w) A E s (lt' p q) Q st
  wo : Wo lt
section
variable {prog : Program} {w : World} {A : Around} {E : Value → Shared → Prop} {s : Shared} {kd : SortKind} {D : Keyed → Prop} {lt : Keyed → Keyed → Bool}
/-- how a thing stands to the key -/
def byd (lt : Keyed → Keyed → Bool) (left : Bool) (key : Keyed) (arr : Array Keyed) (base i : Nat) : Bool := match arr[base + i]? with
  | some x => if left = true then lt x key else !lt key x
  | none => false
theorem byd_ok (C : Cmp prog w A E s kd D lt) {left : Bool} {key : Keyed} {arr : Array Keyed} {base i : Nat} {st : SortSt} {Q : Option Bool → SortSt → Prop} (hk : D key) (hx : ∃ x, arr[base + i]? = some x ∧ D x) (hs : kindOf st = kd)
    (h : Q (some (byd lt left key arr base i)) st) : wpS (model prog w) A E s (elem' arr (base + i) >>= fun x => if left = true then lt' x key else (lt' key x >>= fun r => pure (r.map fun x => !x))) Q st := by
  obtain ⟨x, e, d⟩ := hx
  unfold byd at h
  rw [e] at h
  rw [elem'_eq, e]
  refine wpS_bind (wpS_pure ?_)
  cases left with
  | true => rw [if_pos rfl]; exact C.cmp x key st Q d hk hs (by simpa using h)
  | false =>
    rw [if_neg (by simp)]
    exact wpS_bind (C.cmp key x st _ hk d hs (wpS_pure (by simpa using h)))
theorem bin_loop {n : Nat} {st : SortSt} {Q : Option Nat → SortSt → Prop} {body : Nat → Option (Option Nat) × Nat × Nat → StateT SortSt Sem (ForInStep (Option (Option Nat) × Nat × Nat))} {rest : Option (Option Nat) × Nat × Nat → StateT SortSt Sem (Option Nat)} (f : Nat → Bool)
    (mono : ∀ i j, i ≤ j → j < n → f j = true → f i = true)
    (hb1 : ∀ x lo hi (R : ForInStep (Option (Option Nat) × Nat × Nat) → SortSt → Prop), lo ≥ hi → R (.done (none, lo, hi)) st → wpS (model prog w) A E s (body x (none, lo, hi)) R st)
    (hb2 : ∀ x lo hi (R : ForInStep (Option (Option Nat) × Nat × Nat) → SortSt → Prop), lo < hi → hi ≤ n → R (.yield (if f (lo + (hi - lo) / 2) = true then (none, lo + (hi - lo) / 2 + 1, hi) else (none, lo, lo + (hi - lo) / 2))) st → wpS (model prog w) A E s (body x (none, lo, hi)) R st)
    (hr : ∀ lo hi, Q (some hi) st → wpS (model prog w) A E s (rest (none, lo, hi)) Q st)
    (h : ∀ k, k ≤ n → (∀ i, i < k → f i = true) → (∀ i, k ≤ i → i < n → f i = false) → Q (some k) st)
    (lo hi : Nat) (h1 : lo ≤ hi) (h2 : hi ≤ n) (h3 : ∀ i, i < lo → f i = true) (h4 : ∀ i, hi ≤ i → i < n → f i = false) : wpS (model prog w) A E s (forIn [:n] (none, lo, hi) body >>= rest) Q st := by
  refine wpS_bind (wpS_mono (wpS_forRange (I := fun x c st' => st' = st ∧ ∃ lo hi, c = (none, lo, hi) ∧ lo ≤ hi ∧ hi ≤ n ∧ hi - lo ≤ n - x ∧ (∀ i, i < lo → f i = true) ∧ ∀ i, hi ≤ i → i < n → f i = false)
    (Q := fun c st' => st' = st ∧ ∃ lo hi, c = (none, lo, hi) ∧ lo = hi ∧ hi ≤ n ∧ (∀ i, i < lo → f i = true) ∧ ∀ i, hi ≤ i → i < n → f i = false) ?_ ?_ ⟨rfl, lo, hi, rfl, h1, h2, by omega, h3, h4⟩) ?_)
  · rintro x c st' _ hxn ⟨rfl, lo, hi, rfl, g1, g2, g3, g4, g5⟩
    by_cases hge : lo ≥ hi
    · exact hb1 x lo hi _ hge ⟨rfl, lo, hi, rfl, by omega, g2, g4, g5⟩
    · refine hb2 x lo hi _ (by omega) g2 ?_
      cases e : f (lo + (hi - lo) / 2) with
      | true => exact ⟨rfl, _, hi, rfl, by omega, g2, by omega, fun i hi' => mono i _ (by omega) (by omega) e, g5⟩
      | false =>
        refine ⟨rfl, lo, _, rfl, by omega, by omega, by omega, g4, fun i h1 h2 => ?_⟩
        cases z : f i with
        | false => rfl
        | true => rw [mono _ i h1 h2 z] at e; cases e
  · rintro c st' ⟨rfl, lo, hi, rfl, g1, g2, g3, g4, g5⟩
    exact ⟨rfl, lo, hi, rfl, by omega, g2, g4, g5⟩
  · rintro c st' ⟨rfl, lo, hi, rfl, rfl, g2, g4, g5⟩
    exact hr lo lo (h lo g2 g4 g5)
theorem gallop_ok (C : Cmp prog w A E s kd D lt) {left : Bool} {key : Keyed} {arr : Array Keyed} {base n hint : Nat} {st : SortSt} {Q : Option Nat → SortSt → Prop} (hk : D key) (hx : ∀ i, i < n → ∃ x, arr[base + i]? = some x ∧ D x) (hh : hint < n) (hs : kindOf st = kd)
    (mono : ∀ i j, i ≤ j → j < n → byd lt left key arr base j = true → byd lt left key arr base i = true)
    (h : ∀ k, k ≤ n → (∀ i, i < k → byd lt left key arr base i = true) → (∀ i, k ≤ i → i < n → byd lt left key arr base i = false) → Q (some k) st) :
    wpS (model prog w) A E s (gallop_ left key arr base n hint) Q st := by
  have monoF : ∀ i j, i ≤ j → j < n → byd lt left key arr base i = false → byd lt left key arr base j = false := fun i j hij hj z => by
    cases e : byd lt left key arr base j with
    | false => rfl
    | true => rw [mono i j hij hj e] at z; cases z
  refine wpS_bind (byd_ok C hk (hx hint hh) hs ?_)
  cases hr : byd lt left key arr base hint with
  | true =>
    dsimp only
    rw [if_pos rfl]
    refine wpS_bind (wpS_mono (wpS_forRange (I := fun x c st' => st' = st ∧ ∃ lo of, c = (none, lo, of) ∧ lo < of ∧ lo < n - hint ∧ x < of ∧ byd lt left key arr base (hint + lo) = true)
      (Q := fun c st' => st' = st ∧ ∃ lo of, c = (none, lo, of) ∧ lo < of ∧ lo < n - hint ∧ byd lt left key arr base (hint + lo) = true ∧ (of < n - hint → byd lt left key arr base (hint + of) = false)) ?_ ?_ ⟨rfl, 0, 1, rfl, by omega, by omega, by omega, hr⟩) ?_)
    · rintro x c st' _ hxn ⟨rfl, lo, of, rfl, g1, g2, g3, g4⟩
      dsimp only
      by_cases hge : of ≥ n - hint
      · rw [if_pos hge]
        exact wpS_pure ⟨rfl, lo, of, rfl, g1, g2, g4, fun z => by omega⟩
      · rw [if_neg hge]
        refine wpS_bind (byd_ok C hk (hx (hint + of) (by omega)) hs ?_)
        cases e : byd lt left key arr base (hint + of) with
        | true => exact wpS_pure ⟨rfl, of, _, rfl, by omega, by omega, by omega, e⟩
        | false => exact wpS_pure ⟨rfl, lo, of, rfl, g1, g2, g4, fun _ => e⟩
    · rintro c st' ⟨rfl, lo, of, rfl, g1, g2, g3, g4⟩
      exact ⟨rfl, lo, of, rfl, g1, g2, g4, fun z => by omega⟩
    · rintro c st' ⟨rfl, lo, of, rfl, g1, g2, g4, g5⟩
      dsimp only
      refine bin_loop (byd lt left key arr base) mono (fun x lo hi R hge hR => ?_) (fun x lo hi R hlt hn hR => ?_) (fun lo hi hq => wpS_pure hq) h _ _ ?_ ?_ ?_ ?_
      · dsimp only
        rw [if_pos hge]
        exact wpS_pure hR
      · dsimp only
        rw [if_neg (by omega)]
        refine wpS_bind (byd_ok C hk (hx _ (by omega)) hs ?_)
        cases e : byd lt left key arr base (lo + (hi - lo) / 2) with
        | true => rw [e, if_pos rfl] at hR; exact wpS_pure hR
        | false => rw [e, if_neg (by simp)] at hR; exact wpS_pure hR
      · omega
      · omega
      · exact fun i hi => mono i (hint + lo) (by omega) (by omega) g4
      · intro i h1 h2
        by_cases z : of < n - hint
        · exact monoF (hint + of) i (by omega) h2 (g5 z)
        · omega
  | false =>
    dsimp only
    rw [if_neg (by simp)]
    refine wpS_bind (wpS_mono (wpS_forRange (I := fun x c st' => st' = st ∧ ∃ lo of, c = (none, lo, of) ∧ lo < of ∧ lo < hint + 1 ∧ x < of ∧ byd lt left key arr base (hint - lo) = false)
      (Q := fun c st' => st' = st ∧ ∃ lo of, c = (none, lo, of) ∧ lo < of ∧ lo < hint + 1 ∧ byd lt left key arr base (hint - lo) = false ∧ (of < hint + 1 → byd lt left key arr base (hint - of) = true)) ?_ ?_ ⟨rfl, 0, 1, rfl, by omega, by omega, by omega, hr⟩) ?_)
    · rintro x c st' _ hxn ⟨rfl, lo, of, rfl, g1, g2, g3, g4⟩
      dsimp only
      by_cases hge : of ≥ hint + 1
      · rw [if_pos hge]
        exact wpS_pure ⟨rfl, lo, of, rfl, g1, g2, g4, fun z => by omega⟩
      · rw [if_neg hge]
        refine wpS_bind (byd_ok C hk (hx (hint - of) (by omega)) hs ?_)
        cases e : byd lt left key arr base (hint - of) with
        | true => exact wpS_pure ⟨rfl, lo, of, rfl, g1, g2, g4, fun _ => e⟩
        | false => exact wpS_pure ⟨rfl, of, _, rfl, by omega, by omega, by omega, e⟩
    · rintro c st' ⟨rfl, lo, of, rfl, g1, g2, g3, g4⟩
      exact ⟨rfl, lo, of, rfl, g1, g2, g4, fun z => by omega⟩
    · rintro c st' ⟨rfl, lo, of, rfl, g1, g2, g4, g5⟩
      dsimp only
      refine bin_loop (byd lt left key arr base) mono (fun x lo hi R hge hR => ?_) (fun x lo hi R hlt hn hR => ?_) (fun lo hi hq => wpS_pure hq) h _ _ ?_ ?_ ?_ ?_
      · dsimp only
        rw [if_pos hge]
        exact wpS_pure hR
      · dsimp only
        rw [if_neg (by omega)]
        refine wpS_bind (byd_ok C hk (hx _ (by omega)) hs ?_)
        cases e : byd lt left key arr base (lo + (hi - lo) / 2) with
        | true => rw [e, if_pos rfl] at hR; exact wpS_pure hR
        | false => rw [e, if_neg (by simp)] at hR; exact wpS_pure hR
      · omega
      · omega
      · intro i hi
        by_cases z : of < hint + 1
        · exact mono i (hint - of) (by omega) (by omega) (g5 z)
        · omega
      · exact fun i h1 h2 => monoF (hint - lo) i (by omega) h2 g4
end
end L2

/-! list.sort of any length: merging -/
namespace L2
open PySem PySem.Spec PyProof.Rows
section
variable {prog : Program} {w : World} {A : Around} {E : Value → Shared → Prop} {s : Shared} {kd : SortKind} {D : Keyed → Prop} {lt : Keyed → Keyed → Bool}
def Srt (lt : Keyed → Keyed → Bool) (l : List Keyed) : Prop := l.Pairwise fun p q => lt q p = false
theorem srt_get (C : Wo lt) {l : List Keyed} (h : Srt lt l) {i j : Nat} {p q : Keyed} (hi : l[i]? = some p) (hj : l[j]? = some q) (hij : i ≤ j) : lt q p = false := by
  obtain ⟨h1, rfl⟩ := List.getElem?_eq_some_iff.mp hi
  obtain ⟨h2, rfl⟩ := List.getElem?_eq_some_iff.mp hj
  rcases Nat.lt_or_ge i j with z | z
  · exact List.pairwise_iff_getElem.mp h i j h1 h2 z
  · obtain rfl : i = j := by omega
    exact C.irr _
theorem el_ok {arr : Array Keyed} {i : Nat} {x : Keyed} {st : SortSt} {Q : Keyed → SortSt → Prop} {M : Model} (e : arr[i]? = some x) (h : Q x st) : wpS M A E s (elem' arr i) Q st := by
  rw [elem'_eq, e]; exact wpS_pure h
/-- a state alike but for the gallop's measure -/
def Eqg (st st' : SortSt) : Prop := kindOf st' = kindOf st ∧ arrOf st' = arrOf st ∧ pendingOf st' = pendingOf st ∧ failedOf st' = failedOf st
theorem Eqg.refl (st : SortSt) : Eqg st st := ⟨rfl, rfl, rfl, rfl⟩
/-- merged so far: out; a from ia on and b from ib on are left -/
structure Mg (lt : Keyed → Keyed → Bool) (a b out : List Keyed) (ia ib : Nat) : Prop where
  srt : Srt lt out
  pm : (out ++ (a.drop ia ++ b.drop ib)).Perm (a ++ b)
  le : ∀ p ∈ out, ∀ q ∈ a.drop ia ++ b.drop ib, lt q p = false
theorem drop_cons {l : List Keyed} {i : Nat} {x : Keyed} (e : l[i]? = some x) : l.drop i = x :: l.drop (i + 1) := by
  obtain ⟨h, rfl⟩ := List.getElem?_eq_some_iff.mp e
  exact List.drop_eq_getElem_cons h
theorem srt_drop {l : List Keyed} (h : Srt lt l) (i : Nat) : Srt lt (l.drop i) := List.Pairwise.sublist (List.drop_sublist _ _) h
theorem srt_snoc {l : List Keyed} {x : Keyed} (h : Srt lt l) (hx : ∀ p ∈ l, lt x p = false) : Srt lt (l ++ [x]) := by
  refine List.pairwise_append.mpr ⟨h, List.pairwise_singleton _ _, fun p hp q hq => ?_⟩
  rw [List.mem_singleton.mp hq]; exact hx p hp
theorem Mg.takeA (C : Wo lt) {a b out : List Keyed} {ia ib : Nat} (g : Mg lt a b out ia ib) (sa : Srt lt a) (sb : Srt lt b) {x : Keyed} (e : a[ia]? = some x) (h : ∀ y, b[ib]? = some y → lt y x = false) : Mg lt a b (out ++ [x]) (ia + 1) ib := by
  have da := drop_cons e
  have xin : x ∈ a.drop ia ++ b.drop ib := by rw [da]; simp
  refine ⟨srt_snoc g.srt fun p hp => g.le p hp x xin, ?_, fun p hp q hq => ?_⟩
  · have := g.pm
    rw [da] at this
    simpa using this
  · rcases List.mem_append.mp hp with hp | hp
    · refine g.le p hp q ?_
      rw [da]
      rcases List.mem_append.mp hq with z | z
      · exact List.mem_append_left _ (List.mem_cons_of_mem _ z)
      · exact List.mem_append_right _ z
    · rw [List.mem_singleton.mp hp]
      rcases List.mem_append.mp hq with z | z
      · have := srt_drop sa ia
        rw [da] at this
        exact (List.pairwise_cons.mp this).1 q z
      · cases hb : b[ib]? with
        | none => rw [List.drop_eq_nil_of_le (List.getElem?_eq_none_iff.mp hb)] at z; cases z
        | some y =>
          have hy := h y hb
          have db := drop_cons hb
          rw [db] at z
          rcases List.mem_cons.mp z with rfl | z
          · exact hy
          · have sb' := srt_drop sb ib
            rw [db] at sb'
            exact C.leT hy ((List.pairwise_cons.mp sb').1 q z)
theorem Mg.takeB (C : Wo lt) {a b out : List Keyed} {ia ib : Nat} (g : Mg lt a b out ia ib) (sa : Srt lt a) (sb : Srt lt b) {x : Keyed} (e : b[ib]? = some x) (h : ∀ y, a[ia]? = some y → lt y x = false) : Mg lt a b (out ++ [x]) ia (ib + 1) := by
  have db := drop_cons e
  have xin : x ∈ a.drop ia ++ b.drop ib := by rw [db]; simp
  refine ⟨srt_snoc g.srt fun p hp => g.le p hp x xin, ?_, fun p hp q hq => ?_⟩
  · refine List.Perm.trans ?_ g.pm
    rw [db, List.append_assoc]
    refine List.Perm.append_left _ ?_
    exact (List.perm_middle (a := x) (l₁ := a.drop ia) (l₂ := b.drop (ib + 1))).symm
  · rcases List.mem_append.mp hp with hp | hp
    · refine g.le p hp q ?_
      rw [db]
      rcases List.mem_append.mp hq with z | z
      · exact List.mem_append_left _ z
      · exact List.mem_append_right _ (List.mem_cons_of_mem _ z)
    · rw [List.mem_singleton.mp hp]
      rcases List.mem_append.mp hq with z | z
      · cases ha : a[ia]? with
        | none => rw [List.drop_eq_nil_of_le (List.getElem?_eq_none_iff.mp ha)] at z; cases z
        | some y =>
          have hy := h y ha
          have da := drop_cons ha
          rw [da] at z
          rcases List.mem_cons.mp z with rfl | z
          · exact hy
          · have sa' := srt_drop sa ia
            rw [da] at sa'
            exact C.leT hy ((List.pairwise_cons.mp sa').1 q z)
      · have := srt_drop sb ib
        rw [db] at this
        exact (List.pairwise_cons.mp this).1 q z
theorem ext_snoc {l : List Keyed} {i k : Nat} {x : Keyed} (e : l[i + k]? = some x) : (l.drop i).take (k + 1) = (l.drop i).take k ++ [x] := by
  rw [List.take_add_one, List.getElem?_drop, e]; rfl
theorem Mg.takeAs (C : Wo lt) {a b : List Keyed} (sa : Srt lt a) (sb : Srt lt b) {ia ib : Nat} {out : List Keyed} (g : Mg lt a b out ia ib) : ∀ k, ia + k ≤ a.length → (∀ i, i < k → ∀ x y, a[ia + i]? = some x → b[ib]? = some y → lt y x = false) → Mg lt a b (out ++ (a.drop ia).take k) (ia + k) ib
  | 0, _, _ => by simpa using g
  | k + 1, hk, h => by
    have ih := Mg.takeAs C sa sb g k (by omega) fun i hi => h i (by omega)
    obtain ⟨x, hx⟩ : ∃ x, a[ia + k]? = some x := ⟨a[ia + k]'(by omega), List.getElem?_eq_getElem (by omega)⟩
    have := ih.takeA C sa sb hx fun y hy => h k (by omega) x y hx hy
    rw [ext_snoc hx, ← List.append_assoc]
    exact this
theorem Mg.takeBs (C : Wo lt) {a b : List Keyed} (sa : Srt lt a) (sb : Srt lt b) {ia ib : Nat} {out : List Keyed} (g : Mg lt a b out ia ib) : ∀ k, ib + k ≤ b.length → (∀ i, i < k → ∀ x y, b[ib + i]? = some x → a[ia]? = some y → lt y x = false) → Mg lt a b (out ++ (b.drop ib).take k) ia (ib + k)
  | 0, _, _ => by simpa using g
  | k + 1, hk, h => by
    have ih := Mg.takeBs C sa sb g k (by omega) fun i hi => h i (by omega)
    obtain ⟨x, hx⟩ : ∃ x, b[ib + k]? = some x := ⟨b[ib + k]'(by omega), List.getElem?_eq_getElem (by omega)⟩
    have := ih.takeB C sa sb hx fun y hy => h k (by omega) x y hx hy
    rw [ext_snoc hx, ← List.append_assoc]
    exact this
/-- what is to come of merging -/
def Mgd (lt : Keyed → Keyed → Bool) (a b r : List Keyed) : Prop := Srt lt r ∧ r.Perm (a ++ b)
theorem Mg.done {a b out : List Keyed} {ia ib : Nat} (g : Mg lt a b out ia ib) (sa : Srt lt a) (sb : Srt lt b) (h : a.length ≤ ia ∨ b.length ≤ ib) : Mgd lt a b (out ++ a.drop ia ++ b.drop ib) := by
  refine ⟨?_, by rw [List.append_assoc]; exact g.pm⟩
  rw [List.append_assoc]
  refine List.pairwise_append.mpr ⟨g.srt, ?_, fun p hp q hq => g.le p hp q hq⟩
  rcases h with h | h
  · rw [List.drop_eq_nil_of_le h, List.nil_append]; exact srt_drop sb ib
  · rw [List.drop_eq_nil_of_le h, List.append_nil]; exact srt_drop sa ia
theorem Mg.lastA {a b out : List Keyed} {ia ib : Nat} (g : Mg lt a b out ia ib) (sb : Srt lt b) (h : ia + 1 = a.length) (hl : ∀ x, a[ia]? = some x → ∀ y ∈ b, lt x y = false) : Mgd lt a b (out ++ b.drop ib ++ a.drop ia) := by
  obtain ⟨x, hx⟩ : ∃ x, a[ia]? = some x := ⟨a[ia]'(by omega), List.getElem?_eq_getElem (by omega)⟩
  have da : a.drop ia = [x] := by rw [drop_cons hx, List.drop_eq_nil_of_le (by omega)]
  refine ⟨?_, ?_⟩
  · rw [List.append_assoc, da]
    refine List.pairwise_append.mpr ⟨g.srt, srt_snoc (srt_drop sb ib) fun p hp => hl x hx p (List.mem_of_mem_drop hp), fun p hp q hq => g.le p hp q ?_⟩
    rw [da]
    rcases List.mem_append.mp hq with z | z
    · exact List.mem_append_right _ z
    · exact List.mem_append_left _ z
  · rw [List.append_assoc]
    exact (List.Perm.append_left _ List.perm_append_comm).trans g.pm
end
end L2

namespace L2
open PySem PySem.Spec PyProof.Rows
section
variable {prog : Program} {w : World} {A : Around} {E : Value → Shared → Prop} {s : Shared} {kd : SortKind} {D : Keyed → Prop} {lt : Keyed → Keyed → Bool}
theorem ext_to {l : Array Keyed} {i k : Nat} : (l.extract i (i + k)).toList = (l.toList.drop i).take k := by
  rw [Array.toList_extract, List.extract_eq_take_drop]; congr 1; omega
theorem ext_end {l : Array Keyed} {i : Nat} : (l.extract i).toList = l.toList.drop i := by
  rw [Array.toList_extract, List.extract_eq_take_drop]
  exact List.take_of_length_le (by simp)
theorem byd_right {key : Keyed} {arr : Array Keyed} {base i : Nat} {x : Keyed} (e : arr.toList[base + i]? = some x) : byd lt false key arr base i = !lt key x := by
  unfold byd; rw [← Array.getElem?_toList, e]; simp
theorem byd_left {key : Keyed} {arr : Array Keyed} {base i : Nat} {x : Keyed} (e : arr.toList[base + i]? = some x) : byd lt true key arr base i = lt x key := by
  unfold byd; rw [← Array.getElem?_toList, e]; simp
theorem byd_mono (C : Cmp prog w A E s kd D lt) {left : Bool} {key : Keyed} {arr : Array Keyed} {base n : Nat} (hs : Srt lt arr.toList) (hn : base + n ≤ arr.toList.length) :
    ∀ i j, i ≤ j → j < n → byd lt left key arr base j = true → byd lt left key arr base i = true := fun i j hij hj h => by
  have ei : arr.toList[base + i]? = some (arr.toList[base + i]'(by omega)) := List.getElem?_eq_getElem (by omega)
  have ej : arr.toList[base + j]? = some (arr.toList[base + j]'(by omega)) := List.getElem?_eq_getElem (by omega)
  have le := srt_get C.wo hs ei ej (by omega)
  cases left with
  | true =>
    rw [byd_left ej] at h
    rw [byd_left ei]
    rcases C.wo.neg _ (arr.toList[base + i]'(by omega)) _ h with z | z
    · rw [z] at le; cases le
    · exact z
  | false =>
    rw [byd_right ej] at h
    rw [byd_right ei]
    cases z : lt key (arr.toList[base + i]'(by omega)) with
    | false => rfl
    | true =>
      rcases C.wo.neg _ (arr.toList[base + j]'(by omega)) _ z with y | y
      · rw [y] at h; cases h
      · rw [y] at le; cases le
section
variable {β : Type} {st : SortSt} {Q : β → SortSt → Prop} {M : Model}
theorem wpS_if {c : Bool} {X Y : StateT SortSt Sem β} (h1 : c = true → wpS M A E s X Q st) (h2 : c = false → wpS M A E s Y Q st) : wpS M A E s (if c = true then X else Y) Q st := by
  cases c with
  | true => exact h1 rfl
  | false => exact h2 rfl
theorem wpS_gt {k n : Nat} {X Y : StateT SortSt Sem β} (h1 : k > n → wpS M A E s X Q st) (h2 : k ≤ n → wpS M A E s Y Q st) : wpS M A E s (if k > n then X else Y) Q st := by
  by_cases h : k > n
  · rw [if_pos h]; exact h1 h
  · rw [if_neg h]; exact h2 (by omega)
end
theorem beq_no {m n : Nat} (h : (m == n) = false) : m ≠ n := fun e => by rw [e] at h; simp at h
theorem mergeLo_ok (C : Cmp prog w A E s kd D lt) {a b : Array Keyed} {st : SortSt} {Q : Array Keyed → SortSt → Prop} (hda : ∀ x ∈ a.toList, D x) (hdb : ∀ x ∈ b.toList, D x) (sa : Srt lt a.toList) (sb : Srt lt b.toList) (hs : kindOf st = kd)
    (na : 0 < a.toList.length) (nb : 0 < b.toList.length) (hf : ∀ x y, a.toList[0]? = some x → b.toList[0]? = some y → lt x y = false) (hl : ∀ x, a.toList[a.toList.length - 1]? = some x → ∀ y ∈ b.toList, lt x y = false)
    (h : ∀ r st', Mgd lt a.toList b.toList r.toList → Eqg st st' → Q r st') : wpS (model prog w) A E s (mergeLo_ a b) Q st := by
  have za : a.size = a.toList.length := by simp
  have zb : b.size = b.toList.length := by simp
  have ea : ∀ i, i < a.toList.length → ∃ x, a[i]? = some x ∧ D x ∧ a.toList[i]? = some x := fun i hi => ⟨a.toList[i], by rw [← Array.getElem?_toList]; exact List.getElem?_eq_getElem hi, hda _ (List.getElem_mem hi), List.getElem?_eq_getElem hi⟩
  have eb : ∀ i, i < b.toList.length → ∃ x, b[i]? = some x ∧ D x ∧ b.toList[i]? = some x := fun i hi => ⟨b.toList[i], by rw [← Array.getElem?_toList]; exact List.getElem?_eq_getElem hi, hdb _ (List.getElem_mem hi), List.getElem?_eq_getElem hi⟩
  refine wpS_bind (wpS_lift (wpAny_rule ⟨rfl, ?_⟩))
  obtain ⟨b0, hb0, db0, lb0⟩ := eb 0 nb
  obtain ⟨a0, ha0, da0, la0⟩ := ea 0 na
  refine wpS_bind (el_ok hb0 ?_)
  have g0 : Mg lt a.toList b.toList [b0] 0 1 := by
    have g : Mg lt a.toList b.toList [] 0 0 := ⟨.nil, by simp, fun p hp => (by cases hp)⟩
    exact g.takeB C.wo sa sb lb0 fun y hy => hf y b0 hy lb0
  show wpS _ _ _ _ (if (1 == b.size) = true then _ else if (0 + 1 == a.size) = true then _ else _) _ _
  by_cases c1 : (1 == b.size) = true
  · rw [if_pos c1]
    refine wpS_pure (h _ st ?_ (Eqg.refl st))
    simp only [Array.toList_append, ext_end]
    exact g0.done sa sb (.inr (by rw [← zb, ← eq_of_beq c1]; exact Nat.le_refl _))
  rw [if_neg c1]
  by_cases c2 : (0 + 1 == a.size) = true
  · rw [if_pos c2]
    refine wpS_pure (h _ st ?_ (Eqg.refl st))
    simp only [Array.toList_append, ext_end]
    exact g0.lastA sb (by rw [← za]; exact eq_of_beq c2) fun x hx => hl x (by rw [← za, ← eq_of_beq c2]; exact hx)
  rw [if_neg c2]
  have n1 : 1 < b.toList.length := by
    rcases Nat.lt_or_ge 1 b.toList.length with z | z
    · exact z
    · exact absurd (by rw [zb, show b.toList.length = 1 by omega]; rfl) c1
  have n2 : 1 < a.toList.length := by
    rcases Nat.lt_or_ge 1 a.toList.length with z | z
    · exact z
    · exact absurd (by rw [za, show a.toList.length = 1 by omega]; rfl) c2
  refine wpS_bind (wpS_get ?_)
  refine wpS_bind (wpS_mono (wpS_forRange (I := fun x c st' => ∃ (out : Array Keyed) (ia ib mg : Nat), c = (none, out, ia, ib, mg) ∧ Mg lt a.toList b.toList out.toList ia ib ∧ ia + 1 < a.toList.length ∧ ib < b.toList.length ∧ x ≤ ia + ib ∧ Eqg st st')
    (Q := fun c st' => ∃ r, c.1 = some r ∧ Mgd lt a.toList b.toList r.toList ∧ Eqg st st') ?_ ?_ ⟨#[b0], 0, 1, _, rfl, g0, by omega, n1, by omega, Eqg.refl st⟩) ?_)
  · rintro x c st1 _ hx ⟨out, ia, ib, mg, rfl, g, l1, l2, l3, q1⟩
    refine wpS_bind (wpS_mono (wpS_forRange (I := fun y c st' => st' = st1 ∧ ∃ (out : Array Keyed) (ia ib ac bc : Nat), c = (none, out, ia, ib, ac, bc) ∧ Mg lt a.toList b.toList out.toList ia ib ∧ ia + 1 < a.toList.length ∧ ib < b.toList.length ∧ x + y ≤ ia + ib)
      (Q := fun c st' => st' = st1 ∧ ((∃ (out : Array Keyed) (ia ib ac bc : Nat), c = (none, out, ia, ib, ac, bc) ∧ Mg lt a.toList b.toList out.toList ia ib ∧ ia + 1 < a.toList.length ∧ ib < b.toList.length ∧ x + 1 ≤ ia + ib) ∨ ∃ r, c.1 = some r ∧ Mgd lt a.toList b.toList r.toList)) ?_ ?_ ⟨rfl, out, ia, ib, 0, 0, rfl, g, l1, l2, l3⟩) ?_)
    · rintro y c st' _ hy ⟨rfl, out, ia, ib, ac, bc, rfl, g, l1, l2, l3⟩
      obtain ⟨xb, hb, db, lb⟩ := eb ib l2
      obtain ⟨xa, ha, da, la⟩ := ea ia (by omega)
      refine wpS_bind (el_ok hb (wpS_bind (el_ok ha (wpS_bind (C.cmp xb xa _ _ db da (q1.1.trans hs) ?_)))))
      cases e : lt xb xa with
      | true =>
        refine wpS_bind (el_ok hb ?_)
        have g' := g.takeB C.wo sa sb lb fun y hy => by rw [la] at hy; cases hy; exact C.wo.asym _ _ e
        dsimp only
        by_cases c3 : (ib + 1 == b.size) = true
        · rw [if_pos c3]
          refine wpS_pure ⟨rfl, .inr ⟨_, rfl, ?_⟩⟩
          simp only [Array.toList_append, Array.toList_push, ext_end]
          exact g'.done sa sb (.inr (by rw [← zb, ← eq_of_beq c3]; exact Nat.le_refl _))
        · rw [if_neg c3]
          have c4 : ib + 1 < b.toList.length := by
            rcases Nat.lt_or_ge (ib + 1) b.toList.length with z | z
            · exact z
            · exact absurd (by rw [zb, show b.toList.length = ib + 1 by omega]; simp) c3
          split
          · exact wpS_pure ⟨rfl, .inl ⟨_, _, _, _, _, rfl, by rw [Array.toList_push]; exact g', l1, c4, by omega⟩⟩
          · exact wpS_pure ⟨rfl, _, _, _, _, _, rfl, by rw [Array.toList_push]; exact g', l1, c4, by omega⟩
      | false =>
        refine wpS_bind (el_ok ha ?_)
        have g' := g.takeA C.wo sa sb la fun y hy => by rw [lb] at hy; cases hy; exact e
        dsimp only
        by_cases c3 : (ia + 1 + 1 == a.size) = true
        · rw [if_pos c3]
          refine wpS_pure ⟨rfl, .inr ⟨_, rfl, ?_⟩⟩
          simp only [Array.toList_append, Array.toList_push, ext_end]
          have c5 : ia + 1 + 1 = a.toList.length := by rw [← za]; exact eq_of_beq c3
          exact g'.lastA sb c5 fun x hx => hl x (by rw [← c5]; exact hx)
        · rw [if_neg c3]
          have c4 : ia + 1 + 1 < a.toList.length := by
            rcases Nat.lt_or_ge (ia + 1 + 1) a.toList.length with z | z
            · exact z
            · exact absurd (by rw [za, show a.toList.length = ia + 1 + 1 by omega]; simp) c3
          split
          · exact wpS_pure ⟨rfl, .inl ⟨_, _, _, _, _, rfl, by rw [Array.toList_push]; exact g', c4, l2, by omega⟩⟩
          · exact wpS_pure ⟨rfl, _, _, _, _, _, rfl, by rw [Array.toList_push]; exact g', c4, l2, by omega⟩
    · rintro c st' ⟨rfl, out, ia, ib, ac, bc, rfl, g, l1, l2, l3⟩
      omega
    · rintro c st' ⟨rfl, ⟨out, ia, ib, ac, bc, rfl, g, l1, l2, l3⟩ | ⟨r, hr, hm⟩⟩
      · refine wpS_bind (wpS_lift (wpAny_rule ⟨rfl, ?_⟩))
        refine wpS_bind (wpS_mono (wpS_forRange (I := fun y c st' => Eqg st st' ∧ ∃ (out : Array Keyed) (ia ib mg ac bc : Nat), c = (none, out, ia, ib, mg, ac, bc) ∧ Mg lt a.toList b.toList out.toList ia ib ∧ ia + 1 < a.toList.length ∧ ib < b.toList.length ∧ x + 1 + y ≤ ia + ib)
          (Q := fun c st' => Eqg st st' ∧ ((∃ (out : Array Keyed) (ia ib mg ac bc : Nat), c = (none, out, ia, ib, mg, ac, bc) ∧ Mg lt a.toList b.toList out.toList ia ib ∧ ia + 1 < a.toList.length ∧ ib < b.toList.length ∧ x + 1 ≤ ia + ib) ∨ ∃ r, c.1 = some r ∧ Mgd lt a.toList b.toList r.toList)) ?_ ?_ ⟨q1, out, ia, ib, _, ac, bc, rfl, g, l1, l2, l3⟩) ?_)
        · rintro y c st2 _ hy ⟨q2, out, ia, ib, mg, ac, bc, rfl, g, l1, l2, l3⟩
          obtain ⟨xb, hb, db, lb⟩ := eb ib l2
          refine wpS_gt (k := mg) (n := 1) (fun _ => ?_) (fun _ => ?_)
          all_goals (
            refine wpS_bind (wpS_modify ?_)
            refine wpS_bind (el_ok hb ?_)
            refine wpS_bind (gallop_ok (base := ia) (n := a.size - ia) (hint := 0) C db (fun i hi => let ⟨x, h1, h2, _⟩ := ea (ia + i) (by omega); ⟨x, h1, h2⟩) (by omega) (q2.1.trans hs) (byd_mono C sa (by omega)) fun k hk k1 k2 => ?_)
            have f1 : ∀ i, i < k → ∀ x y, a.toList[ia + i]? = some x → b.toList[ib]? = some y → lt y x = false := fun i hi x y hx hy => by
              have := k1 i hi
              rw [byd_right hx] at this
              rw [lb] at hy
              cases hy
              simpa using this
            have gk := g.takeAs C.wo sa sb k (by omega) f1
            have m3 : ∀ x, a.toList[ia + k]? = some x → lt xb x = true := fun x hx => by
              have := k2 k (Nat.le_refl _) (by have := (List.getElem?_eq_some_iff.mp hx).1; omega)
              rw [byd_right hx] at this
              simpa using this
            refine wpS_gt (k := k) (n := 0) (fun k0 => ?_) (fun k0 => ?_)
            · refine wpS_if (c := (ia + k + 1 == a.size)) (fun c3 => ?_) (fun c3 => wpS_if (c := (ia + k == a.size)) (fun c4 => ?_) (fun c4 => ?_))
              · refine wpS_pure ⟨q2, .inr ⟨_, rfl, ?_⟩⟩
                have c3' : ia + k + 1 = a.toList.length := by rw [← za]; exact eq_of_beq c3
                have := gk.lastA sb c3' fun x hx => hl x (by rw [← c3']; exact hx)
                simp only [Array.toList_append, Array.toList_push, ext_end, ext_to] at this ⊢
                exact this
              · refine wpS_pure ⟨q2, .inr ⟨_, rfl, ?_⟩⟩
                have := gk.done sa sb (.inl (by rw [← za, ← eq_of_beq c4]; exact Nat.le_refl _))
                simp only [Array.toList_append, Array.toList_push, ext_end, ext_to] at this ⊢
                exact this
              · have c3' := beq_no c3
                have c4' := beq_no c4
                have m4' := m3
                have g1 : Mg lt a.toList b.toList (out ++ a.extract ia (ia + k)).toList (ia + k) ib := by
                  simp only [Array.toList_append, Array.toList_push, ext_end, ext_to] at gk ⊢
                  exact gk
                refine wpS_bind (el_ok hb ?_)
                have g2 := g1.takeB C.wo sa sb lb fun y hy => C.wo.asym _ _ (m4' y hy)
                refine wpS_if (c := (ib + 1 == b.size)) (fun c5 => ?_) (fun c5 => ?_)
                · refine wpS_pure ⟨q2, .inr ⟨_, rfl, ?_⟩⟩
                  have := g2.done sa sb (.inr (by rw [← zb, ← eq_of_beq c5]; exact Nat.le_refl _))
                  simp only [Array.toList_append, Array.toList_push, ext_end, ext_to] at this ⊢
                  exact this
                · have c6 := beq_no c5
                  obtain ⟨xa, ha, da, la⟩ := ea (ia + k) (by omega)
                  refine wpS_bind (el_ok ha ?_)
                  refine wpS_bind (gallop_ok (left := true) (base := ib + 1) (n := b.size - (ib + 1)) (hint := 0) C da (fun i hi => let ⟨x, h1, h2, _⟩ := eb (ib + 1 + i) (by omega); ⟨x, h1, h2⟩) (by omega) (q2.1.trans hs) (byd_mono C sb (by omega)) fun k' hk' k1' k2' => ?_)
                  have f2 : ∀ i, i < k' → ∀ x y, b.toList[ib + 1 + i]? = some x → a.toList[ia + k]? = some y → lt y x = false := fun i hi x y hx hy => by
                    have := k1' i hi
                    rw [byd_left hx] at this
                    rw [la] at hy
                    cases hy
                    exact C.wo.asym _ _ this
                  have gk' := g2.takeBs C.wo sa sb k' (by omega) f2
                  have m5 : ∀ y, b.toList[ib + 1 + k']? = some y → lt y xa = false := fun y hy => by
                    have := k2' k' (Nat.le_refl _) (by have := (List.getElem?_eq_some_iff.mp hy).1; omega)
                    rw [byd_left hy] at this
                    exact this
                  refine wpS_gt (k := k') (n := 0) (fun k0' => ?_) (fun k0' => ?_)
                  · refine wpS_if (c := (ib + 1 + k' == b.size)) (fun c9 => ?_) (fun c9 => ?_)
                    · refine wpS_pure ⟨q2, .inr ⟨_, rfl, ?_⟩⟩
                      have := gk'.done sa sb (.inr (by rw [← zb, ← eq_of_beq c9]; exact Nat.le_refl _))
                      simp only [Array.toList_append, Array.toList_push, ext_end, ext_to] at this ⊢
                      exact this
                    · have c9' := beq_no c9
                      have m4 := m5
                      have g3 : Mg lt a.toList b.toList (((out ++ a.extract ia (ia + k)).push xb) ++ b.extract (ib + 1) (ib + 1 + k')).toList (ia + k) (ib + 1 + k') := by
                        simp only [Array.toList_append, Array.toList_push, ext_end, ext_to] at gk' ⊢
                        exact gk'
                      refine wpS_bind (el_ok ha ?_)
                      have g4 := g3.takeA C.wo sa sb la m4
                      refine wpS_if (c := ((ia + k) + 1 + 1 == a.size)) (fun c7 => ?_) (fun c7 => ?_)
                      · refine wpS_pure ⟨q2, .inr ⟨_, rfl, ?_⟩⟩
                        have c8 : (ia + k) + 1 + 1 = a.toList.length := by rw [← za]; exact eq_of_beq c7
                        have := g4.lastA sb c8 fun x hx => hl x (by rw [← c8]; exact hx)
                        simp only [Array.toList_append, Array.toList_push, ext_end, ext_to] at this ⊢
                        exact this
                      · have c8 := beq_no c7
                        refine wpS_if (fun _ => ?_) (fun _ => ?_)
                        · exact wpS_pure ⟨q2, .inl ⟨(((out ++ a.extract ia (ia + k)).push xb) ++ b.extract (ib + 1) (ib + 1 + k')).push xa, (ia + k) + 1, (ib + 1 + k'), _, _, _, rfl, by rw [Array.toList_push]; exact g4, by omega, by omega, by omega⟩⟩
                        · exact wpS_pure ⟨q2, (((out ++ a.extract ia (ia + k)).push xb) ++ b.extract (ib + 1) (ib + 1 + k')).push xa, (ia + k) + 1, (ib + 1 + k'), _, _, _, rfl, by rw [Array.toList_push]; exact g4, by omega, by omega, by omega⟩

                  · obtain rfl : k' = 0 := by omega
                    have m4 := m5
                    have g3 : Mg lt a.toList b.toList ((out ++ a.extract ia (ia + k)).push xb).toList (ia + k) (ib + 1) := by
                      rw [Array.toList_push]
                      exact g2
                    refine wpS_bind (el_ok ha ?_)
                    have g4 := g3.takeA C.wo sa sb la m4
                    refine wpS_if (c := ((ia + k) + 1 + 1 == a.size)) (fun c7 => ?_) (fun c7 => ?_)
                    · refine wpS_pure ⟨q2, .inr ⟨_, rfl, ?_⟩⟩
                      have c8 : (ia + k) + 1 + 1 = a.toList.length := by rw [← za]; exact eq_of_beq c7
                      have := g4.lastA sb c8 fun x hx => hl x (by rw [← c8]; exact hx)
                      simp only [Array.toList_append, Array.toList_push, ext_end, ext_to] at this ⊢
                      exact this
                    · have c8 := beq_no c7
                      refine wpS_if (fun _ => ?_) (fun _ => ?_)
                      · exact wpS_pure ⟨q2, .inl ⟨((out ++ a.extract ia (ia + k)).push xb).push xa, (ia + k) + 1, (ib + 1), _, _, _, rfl, by rw [Array.toList_push]; exact g4, by omega, by omega, by omega⟩⟩
                      · exact wpS_pure ⟨q2, ((out ++ a.extract ia (ia + k)).push xb).push xa, (ia + k) + 1, (ib + 1), _, _, _, rfl, by rw [Array.toList_push]; exact g4, by omega, by omega, by omega⟩


            · obtain rfl : k = 0 := by omega
              have m4' := m3
              have g1 := g
              refine wpS_bind (el_ok hb ?_)
              have g2 := g1.takeB C.wo sa sb lb fun y hy => C.wo.asym _ _ (m4' y hy)
              refine wpS_if (c := (ib + 1 == b.size)) (fun c5 => ?_) (fun c5 => ?_)
              · refine wpS_pure ⟨q2, .inr ⟨_, rfl, ?_⟩⟩
                have := g2.done sa sb (.inr (by rw [← zb, ← eq_of_beq c5]; exact Nat.le_refl _))
                simp only [Array.toList_append, Array.toList_push, ext_end, ext_to] at this ⊢
                exact this
              · have c6 := beq_no c5
                obtain ⟨xa, ha, da, la⟩ := ea (ia) (by omega)
                refine wpS_bind (el_ok ha ?_)
                refine wpS_bind (gallop_ok (left := true) (base := ib + 1) (n := b.size - (ib + 1)) (hint := 0) C da (fun i hi => let ⟨x, h1, h2, _⟩ := eb (ib + 1 + i) (by omega); ⟨x, h1, h2⟩) (by omega) (q2.1.trans hs) (byd_mono C sb (by omega)) fun k' hk' k1' k2' => ?_)
                have f2 : ∀ i, i < k' → ∀ x y, b.toList[ib + 1 + i]? = some x → a.toList[ia]? = some y → lt y x = false := fun i hi x y hx hy => by
                  have := k1' i hi
                  rw [byd_left hx] at this
                  rw [la] at hy
                  cases hy
                  exact C.wo.asym _ _ this
                have gk' := g2.takeBs C.wo sa sb k' (by omega) f2
                have m5 : ∀ y, b.toList[ib + 1 + k']? = some y → lt y xa = false := fun y hy => by
                  have := k2' k' (Nat.le_refl _) (by have := (List.getElem?_eq_some_iff.mp hy).1; omega)
                  rw [byd_left hy] at this
                  exact this
                refine wpS_gt (k := k') (n := 0) (fun k0' => ?_) (fun k0' => ?_)
                · refine wpS_if (c := (ib + 1 + k' == b.size)) (fun c9 => ?_) (fun c9 => ?_)
                  · refine wpS_pure ⟨q2, .inr ⟨_, rfl, ?_⟩⟩
                    have := gk'.done sa sb (.inr (by rw [← zb, ← eq_of_beq c9]; exact Nat.le_refl _))
                    simp only [Array.toList_append, Array.toList_push, ext_end, ext_to] at this ⊢
                    exact this
                  · have c9' := beq_no c9
                    have m4 := m5
                    have g3 : Mg lt a.toList b.toList ((out.push xb) ++ b.extract (ib + 1) (ib + 1 + k')).toList (ia) (ib + 1 + k') := by
                      simp only [Array.toList_append, Array.toList_push, ext_end, ext_to] at gk' ⊢
                      exact gk'
                    refine wpS_bind (el_ok ha ?_)
                    have g4 := g3.takeA C.wo sa sb la m4
                    refine wpS_if (c := ((ia) + 1 + 1 == a.size)) (fun c7 => ?_) (fun c7 => ?_)
                    · refine wpS_pure ⟨q2, .inr ⟨_, rfl, ?_⟩⟩
                      have c8 : (ia) + 1 + 1 = a.toList.length := by rw [← za]; exact eq_of_beq c7
                      have := g4.lastA sb c8 fun x hx => hl x (by rw [← c8]; exact hx)
                      simp only [Array.toList_append, Array.toList_push, ext_end, ext_to] at this ⊢
                      exact this
                    · have c8 := beq_no c7
                      refine wpS_if (fun _ => ?_) (fun _ => ?_)
                      · exact wpS_pure ⟨q2, .inl ⟨((out.push xb) ++ b.extract (ib + 1) (ib + 1 + k')).push xa, (ia) + 1, (ib + 1 + k'), _, _, _, rfl, by rw [Array.toList_push]; exact g4, by omega, by omega, by omega⟩⟩
                      · exact wpS_pure ⟨q2, ((out.push xb) ++ b.extract (ib + 1) (ib + 1 + k')).push xa, (ia) + 1, (ib + 1 + k'), _, _, _, rfl, by rw [Array.toList_push]; exact g4, by omega, by omega, by omega⟩

                · obtain rfl : k' = 0 := by omega
                  have m4 := m5
                  have g3 : Mg lt a.toList b.toList (out.push xb).toList (ia) (ib + 1) := by
                    rw [Array.toList_push]
                    exact g2
                  refine wpS_bind (el_ok ha ?_)
                  have g4 := g3.takeA C.wo sa sb la m4
                  refine wpS_if (c := ((ia) + 1 + 1 == a.size)) (fun c7 => ?_) (fun c7 => ?_)
                  · refine wpS_pure ⟨q2, .inr ⟨_, rfl, ?_⟩⟩
                    have c8 : (ia) + 1 + 1 = a.toList.length := by rw [← za]; exact eq_of_beq c7
                    have := g4.lastA sb c8 fun x hx => hl x (by rw [← c8]; exact hx)
                    simp only [Array.toList_append, Array.toList_push, ext_end, ext_to] at this ⊢
                    exact this
                  · have c8 := beq_no c7
                    refine wpS_if (fun _ => ?_) (fun _ => ?_)
                    · exact wpS_pure ⟨q2, .inl ⟨(out.push xb).push xa, (ia) + 1, (ib + 1), _, _, _, rfl, by rw [Array.toList_push]; exact g4, by omega, by omega, by omega⟩⟩
                    · exact wpS_pure ⟨q2, (out.push xb).push xa, (ia) + 1, (ib + 1), _, _, _, rfl, by rw [Array.toList_push]; exact g4, by omega, by omega, by omega⟩)
        · rintro c st' ⟨q2, out, ia, ib, mg, ac, bc, rfl, g, l1, l2, l3⟩
          omega
        · rintro c st' ⟨q2, ⟨out, ia, ib, mg, ac, bc, rfl, g, l1, l2, l3⟩ | ⟨r, hr, hm⟩⟩
          · exact wpS_bind (wpS_modify (wpS_pure ⟨_, _, _, _, rfl, g, l1, l2, l3, q2⟩))
          · obtain ⟨c1, c2⟩ := c
            dsimp only at hr
            subst hr
            exact wpS_pure ⟨r, rfl, hm, q2⟩
      · obtain ⟨c1, c2⟩ := c
        dsimp only at hr
        subst hr
        exact wpS_pure ⟨r, rfl, hm, q1⟩
  · rintro c st' ⟨out, ia, ib, mg, rfl, g, l1, l2, l3, q1⟩
    omega
  · rintro c st' ⟨r, hr, hm, q1⟩
    obtain ⟨c1, c2⟩ := c
    dsimp only at hr
    subst hr
    exact wpS_pure (h r st' hm q1)
end
end L2

namespace L2
open PySem PySem.Spec PyProof.Rows
section
variable {prog : Program} {w : World} {A : Around} {E : Value → Shared → Prop} {s : Shared} {kd : SortKind} {D : Keyed → Prop} {lt : Keyed → Keyed → Bool}
theorem rev_at {l : List Keyed} {n : Nat} (h0 : 0 < n) (h : n ≤ l.length) : l.reverse[l.length - n]? = l[n - 1]? := by
  rw [List.getElem?_reverse (by omega)]; congr 1; omega
theorem rev_drop {l : List Keyed} {n : Nat} (h : n ≤ l.length) : l.reverse.drop (l.length - n) = (l.take n).reverse := by
  rw [List.drop_reverse]; congr 2; omega
theorem rev_take {l : List Keyed} {n m : Nat} (h : n ≤ l.length) (hm : m ≤ n) : (l.reverse.drop (l.length - n)).take (n - m) = ((l.drop m).take (n - m)).reverse := by
  rw [rev_drop h, List.take_reverse, List.length_take, Nat.min_eq_left h, List.drop_take]
  congr 2
  · omega
  · congr 1; omega
theorem mgd_rev {a b r : List Keyed} (h : Mgd (fun x y => lt y x) b.reverse a.reverse r) : Mgd lt a b r.reverse := by
  refine ⟨List.pairwise_reverse.mpr h.1, ?_⟩
  refine (List.reverse_perm r).trans (h.2.trans ?_)
  refine ((List.reverse_perm b).append (List.reverse_perm a)).trans ?_
  exact List.perm_append_comm
/-- merged so far, from the end: na of a and nb of b are left -/
def Mh (lt : Keyed → Keyed → Bool) (a b : List Keyed) (out : List Keyed) (na nb : Nat) : Prop := Mg (fun x y => lt y x) b.reverse a.reverse out (b.length - nb) (a.length - na)
theorem Mh.done {a b out : List Keyed} {na nb : Nat} (g : Mh lt a b out na nb) (sa : Srt lt a) (sb : Srt lt b) (ha : na ≤ a.length) (hb : nb ≤ b.length) (h : na = 0 ∨ nb = 0) : Mgd lt a b (a.take na ++ b.take nb ++ out.reverse) := by
  have := mgd_rev (Mg.done (lt := fun x y => lt y x) g (List.pairwise_reverse.mpr sb) (List.pairwise_reverse.mpr sa) (by rw [List.length_reverse, List.length_reverse]; omega))
  rw [rev_drop ha, rev_drop hb] at this
  simpa using this
theorem Mh.firstB {a b out : List Keyed} {na nb : Nat} (g : Mh lt a b out na nb) (sa : Srt lt a) (ha : na ≤ a.length) (hb : nb ≤ b.length) (h : nb = 1) (hf : ∀ x, b[0]? = some x → ∀ y ∈ a, lt y x = false) : Mgd lt a b (b.take nb ++ a.take na ++ out.reverse) := by
  have := mgd_rev (Mg.lastA (lt := fun x y => lt y x) g (List.pairwise_reverse.mpr sa) (by rw [List.length_reverse]; omega) fun x hx y hy => by
    rw [rev_at (by omega) hb, h] at hx
    exact hf x hx y (by simpa using hy))
  rw [rev_drop ha, rev_drop hb] at this
  simpa using this
theorem Mh.takeA (C : Wo lt) {a b out : List Keyed} {na nb : Nat} (g : Mh lt a b out na nb) (sa : Srt lt a) (sb : Srt lt b) (h0 : 0 < na) (ha : na ≤ a.length) (hb : nb ≤ b.length) {x : Keyed} (e : a[na - 1]? = some x) (h : 0 < nb → ∀ y, b[nb - 1]? = some y → lt x y = false) : Mh lt a b (out ++ [x]) (na - 1) nb := by
  have := Mg.takeB (lt := fun x y => lt y x) C.flip g (List.pairwise_reverse.mpr sb) (List.pairwise_reverse.mpr sa) (x := x) (by rw [rev_at h0 ha]; exact e) fun y hy => by
    have hp : 0 < nb := by
      have := (List.getElem?_eq_some_iff.mp hy).1
      rw [List.length_reverse] at this
      omega
    rw [rev_at hp hb] at hy
    exact h hp y hy
  unfold Mh
  rw [show a.length - (na - 1) = a.length - na + 1 by omega]
  exact this
theorem Mh.takeB (C : Wo lt) {a b out : List Keyed} {na nb : Nat} (g : Mh lt a b out na nb) (sa : Srt lt a) (sb : Srt lt b) (h0 : 0 < nb) (ha : na ≤ a.length) (hb : nb ≤ b.length) {x : Keyed} (e : b[nb - 1]? = some x) (h : 0 < na → ∀ y, a[na - 1]? = some y → lt x y = false) : Mh lt a b (out ++ [x]) na (nb - 1) := by
  have := Mg.takeA (lt := fun x y => lt y x) C.flip g (List.pairwise_reverse.mpr sb) (List.pairwise_reverse.mpr sa) (x := x) (by rw [rev_at h0 hb]; exact e) fun y hy => by
    have hp : 0 < na := by
      have := (List.getElem?_eq_some_iff.mp hy).1
      rw [List.length_reverse] at this
      omega
    rw [rev_at hp ha] at hy
    exact h hp y hy
  unfold Mh
  rw [show b.length - (nb - 1) = b.length - nb + 1 by omega]
  exact this
theorem Mh.takeAs (C : Wo lt) {a b out : List Keyed} {na nb : Nat} (g : Mh lt a b out na nb) (sa : Srt lt a) (sb : Srt lt b) (ha : na ≤ a.length) (hb : nb ≤ b.length) {m : Nat} (hm : m ≤ na) (h : ∀ i, m ≤ i → i < na → ∀ x y, a[i]? = some x → b[nb - 1]? = some y → lt x y = false) : Mh lt a b (out ++ ((a.drop m).take (na - m)).reverse) m nb := by
  have := Mg.takeBs (lt := fun x y => lt y x) C.flip (List.pairwise_reverse.mpr sb) (List.pairwise_reverse.mpr sa) g (na - m) (by rw [List.length_reverse]; omega) fun i hi x y hx hy => by
    have hp : 0 < nb := by
      have := (List.getElem?_eq_some_iff.mp hy).1
      rw [List.length_reverse] at this
      omega
    rw [rev_at hp hb] at hy
    rw [show a.length - na + i = a.length - (na - i) by omega, rev_at (by omega) (by omega)] at hx
    exact h (na - i - 1) (by omega) (by omega) x y hx hy
  unfold Mh
  rw [rev_take ha hm] at this
  rw [show a.length - m = a.length - na + (na - m) by omega]
  exact this
theorem Mh.takeBs (C : Wo lt) {a b out : List Keyed} {na nb : Nat} (g : Mh lt a b out na nb) (sa : Srt lt a) (sb : Srt lt b) (ha : na ≤ a.length) (hb : nb ≤ b.length) {m : Nat} (hm : m ≤ nb) (h : ∀ i, m ≤ i → i < nb → ∀ x y, b[i]? = some x → a[na - 1]? = some y → lt x y = false) : Mh lt a b (out ++ ((b.drop m).take (nb - m)).reverse) na m := by
  have := Mg.takeAs (lt := fun x y => lt y x) C.flip (List.pairwise_reverse.mpr sb) (List.pairwise_reverse.mpr sa) g (nb - m) (by rw [List.length_reverse]; omega) fun i hi x y hx hy => by
    have hp : 0 < na := by
      have := (List.getElem?_eq_some_iff.mp hy).1
      rw [List.length_reverse] at this
      omega
    rw [rev_at hp ha] at hy
    rw [show b.length - nb + i = b.length - (nb - i) by omega, rev_at (by omega) (by omega)] at hx
    exact h (nb - i - 1) (by omega) (by omega) x y hx hy
  unfold Mh
  rw [rev_take hb hm] at this
  rw [show b.length - m = b.length - nb + (nb - m) by omega]
  exact this
theorem ext_fromto {l : Array Keyed} {m n : Nat} : (l.extract m n).toList = (l.toList.drop m).take (n - m) := by
  rw [Array.toList_extract, List.extract_eq_take_drop]
theorem ext_0 {l : Array Keyed} {n : Nat} : (l.extract 0 n).toList = l.toList.take n := by
  rw [Array.toList_extract, List.extract_eq_take_drop]; simp
theorem mergeHi_ok (C : Cmp prog w A E s kd D lt) {a b : Array Keyed} {st : SortSt} {Q : Array Keyed → SortSt → Prop} (hda : ∀ x ∈ a.toList, D x) (hdb : ∀ x ∈ b.toList, D x) (sa : Srt lt a.toList) (sb : Srt lt b.toList) (hs : kindOf st = kd)
    (na0 : 0 < a.toList.length) (nb0 : 0 < b.toList.length) (hf : ∀ x y, a.toList[0]? = some x → b.toList[0]? = some y → lt x y = false) (hl : ∀ x, a.toList[a.toList.length - 1]? = some x → ∀ y ∈ b.toList, lt x y = false)
    (h : ∀ r st', Mgd lt a.toList b.toList r.toList → Eqg st st' → Q r st') : wpS (model prog w) A E s (mergeHi_ a b) Q st := by
  have za : a.size = a.toList.length := by simp
  have zb : b.size = b.toList.length := by simp
  have ea : ∀ i, i < a.toList.length → ∃ x, a[i]? = some x ∧ D x ∧ a.toList[i]? = some x := fun i hi => ⟨a.toList[i], by rw [← Array.getElem?_toList]; exact List.getElem?_eq_getElem hi, hda _ (List.getElem_mem hi), List.getElem?_eq_getElem hi⟩
  have eb : ∀ i, i < b.toList.length → ∃ x, b[i]? = some x ∧ D x ∧ b.toList[i]? = some x := fun i hi => ⟨b.toList[i], by rw [← Array.getElem?_toList]; exact List.getElem?_eq_getElem hi, hdb _ (List.getElem_mem hi), List.getElem?_eq_getElem hi⟩
  have hfb : ∀ x, b.toList[0]? = some x → ∀ y ∈ a.toList, lt y x = false := fun x hx y hy => by
    obtain ⟨i, hi, rfl⟩ := List.getElem_of_mem hy
    obtain ⟨a0, _, _, la0⟩ := ea 0 na0
    exact C.wo.leT (hf a0 x la0 hx) (srt_get C.wo sa la0 (List.getElem?_eq_getElem hi) (Nat.zero_le _))
  refine wpS_bind (wpS_lift (wpAny_rule ⟨rfl, ?_⟩))
  obtain ⟨x0, hx0, dx0, lx0⟩ := ea (a.size - 1) (by omega)
  refine wpS_bind (el_ok hx0 ?_)
  have g0 : Mh lt a.toList b.toList [x0] (a.size - 1) b.size := by
    have g : Mh lt a.toList b.toList [] a.toList.length b.toList.length := ⟨.nil, by
      simp only [Nat.sub_self, List.drop_zero, List.nil_append]
      exact List.Perm.refl _, fun p hp => (by cases hp)⟩
    have := g.takeA C.wo sa sb na0 (Nat.le_refl _) (Nat.le_refl _) (by rw [← za]; exact lx0) fun _ y hy => hl x0 (by rw [← za]; exact lx0) y (List.mem_of_getElem? hy)
    rw [za, zb]
    exact this
  show wpS _ _ _ _ (if (a.size - 1 == 0) = true then _ else if (b.size == 1) = true then _ else _) _ _
  refine wpS_if (fun c1 => ?_) (fun c1 => wpS_if (fun c2 => ?_) (fun c2 => ?_))
  · refine wpS_pure (h _ st ?_ (Eqg.refl st))
    have := g0.done sa sb (by omega) (by omega) (.inl (eq_of_beq c1))
    simp only [Array.toList_append, Array.toList_reverse, ext_0] at this ⊢
    exact this
  · refine wpS_pure (h _ st ?_ (Eqg.refl st))
    have := g0.firstB sa (by omega) (by omega) (eq_of_beq c2) hfb
    simp only [Array.toList_append, Array.toList_reverse, ext_0] at this ⊢
    exact this
  have c1' := beq_no c1
  have c2' := beq_no c2
  refine wpS_bind (wpS_get ?_)
  refine wpS_bind (wpS_mono (wpS_forRange (I := fun x c st' => ∃ (out : Array Keyed) (na nb mg : Nat), c = (none, na, nb, out, mg) ∧ Mh lt a.toList b.toList out.toList na nb ∧ 0 < na ∧ na ≤ a.toList.length ∧ 1 < nb ∧ nb ≤ b.toList.length ∧ x + na + nb ≤ a.size + b.size ∧ Eqg st st')
    (Q := fun c st' => ∃ r, c.1 = some r ∧ Mgd lt a.toList b.toList r.toList ∧ Eqg st st') ?_ ?_ ⟨#[x0], a.size - 1, b.size, _, rfl, g0, by omega, by omega, by omega, by omega, by omega, Eqg.refl st⟩) ?_)
  · rintro x c st1 _ hx ⟨out, na, nb, mg, rfl, g, l1, l1', l2, l2', l3, q1⟩
    refine wpS_bind (wpS_mono (wpS_forRange (I := fun y c st' => st' = st1 ∧ ∃ (out : Array Keyed) (na nb ac bc : Nat), c = (none, na, nb, out, ac, bc) ∧ Mh lt a.toList b.toList out.toList na nb ∧ 0 < na ∧ na ≤ a.toList.length ∧ 1 < nb ∧ nb ≤ b.toList.length ∧ x + y + na + nb ≤ a.size + b.size)
      (Q := fun c st' => st' = st1 ∧ ((∃ (out : Array Keyed) (na nb ac bc : Nat), c = (none, na, nb, out, ac, bc) ∧ Mh lt a.toList b.toList out.toList na nb ∧ 0 < na ∧ na ≤ a.toList.length ∧ 1 < nb ∧ nb ≤ b.toList.length ∧ x + 1 + na + nb ≤ a.size + b.size) ∨ ∃ r, c.1 = some r ∧ Mgd lt a.toList b.toList r.toList)) ?_ ?_ ⟨rfl, out, na, nb, 0, 0, rfl, g, l1, l1', l2, l2', l3⟩) ?_)
    · rintro y c st' _ hy ⟨rfl, out, na, nb, ac, bc, rfl, g, l1, l1', l2, l2', l3⟩
      obtain ⟨xb, hb, db, lb⟩ := eb (nb - 1) (by omega)
      obtain ⟨xa, ha, da, la⟩ := ea (na - 1) (by omega)
      refine wpS_bind (el_ok hb (wpS_bind (el_ok ha (wpS_bind (C.cmp xb xa _ _ db da (q1.1.trans hs) ?_)))))
      cases e : lt xb xa with
      | true =>
        refine wpS_bind (el_ok ha ?_)
        have g' := g.takeA C.wo sa sb l1 l1' l2' la fun _ y hy => by rw [lb] at hy; cases hy; exact C.wo.asym _ _ e
        refine wpS_if (c := (na - 1 == 0)) (fun c3 => ?_) (fun c3 => ?_)
        · refine wpS_pure ⟨rfl, .inr ⟨_, rfl, ?_⟩⟩
          have := g'.done sa sb (by omega) l2' (.inl (eq_of_beq c3))
          simp only [Array.toList_append, Array.toList_push, Array.toList_reverse, ext_0, ext_fromto] at this ⊢
          exact this
        · have c4 := beq_no c3
          dsimp only
          split
          · exact wpS_pure ⟨rfl, .inl ⟨out.push xa, na - 1, nb, _, _, rfl, by rw [Array.toList_push]; exact g', by omega, by omega, l2, l2', by omega⟩⟩
          · exact wpS_pure ⟨rfl, out.push xa, na - 1, nb, _, _, rfl, by rw [Array.toList_push]; exact g', by omega, by omega, l2, l2', by omega⟩
      | false =>
        refine wpS_bind (el_ok hb ?_)
        have g' := g.takeB C.wo sa sb (by omega) l1' l2' lb fun _ y hy => by rw [la] at hy; cases hy; exact e
        refine wpS_if (c := (nb - 1 == 1)) (fun c3 => ?_) (fun c3 => ?_)
        · refine wpS_pure ⟨rfl, .inr ⟨_, rfl, ?_⟩⟩
          have := g'.firstB sa l1' (by omega) (eq_of_beq c3) hfb
          simp only [Array.toList_append, Array.toList_push, Array.toList_reverse, ext_0, ext_fromto] at this ⊢
          exact this
        · have c4 := beq_no c3
          dsimp only
          split
          · exact wpS_pure ⟨rfl, .inl ⟨out.push xb, na, nb - 1, _, _, rfl, by rw [Array.toList_push]; exact g', l1, l1', by omega, by omega, by omega⟩⟩
          · exact wpS_pure ⟨rfl, out.push xb, na, nb - 1, _, _, rfl, by rw [Array.toList_push]; exact g', l1, l1', by omega, by omega, by omega⟩
    · rintro c st' ⟨rfl, out, na, nb, ac, bc, rfl, g, l1, l1', l2, l2', l3⟩
      omega
    · rintro c st' ⟨rfl, ⟨out, na, nb, ac, bc, rfl, g, l1, l1', l2, l2', l3⟩ | ⟨r, hr, hm⟩⟩
      · refine wpS_bind (wpS_lift (wpAny_rule ⟨rfl, ?_⟩))
        refine wpS_bind (wpS_mono (wpS_forRange (I := fun y c st' => Eqg st st' ∧ ∃ (out : Array Keyed) (na nb mg ac bc : Nat), c = (none, na, nb, out, mg, ac, bc) ∧ Mh lt a.toList b.toList out.toList na nb ∧ 0 < na ∧ na ≤ a.toList.length ∧ 1 < nb ∧ nb ≤ b.toList.length ∧ x + 1 + y + na + nb ≤ a.size + b.size)
          (Q := fun c st' => Eqg st st' ∧ ((∃ (out : Array Keyed) (na nb mg ac bc : Nat), c = (none, na, nb, out, mg, ac, bc) ∧ Mh lt a.toList b.toList out.toList na nb ∧ 0 < na ∧ na ≤ a.toList.length ∧ 1 < nb ∧ nb ≤ b.toList.length ∧ x + 1 + na + nb ≤ a.size + b.size) ∨ ∃ r, c.1 = some r ∧ Mgd lt a.toList b.toList r.toList)) ?_ ?_ ⟨q1, out, na, nb, _, ac, bc, rfl, g, l1, l1', l2, l2', l3⟩) ?_)
        · rintro y c st2 _ hy ⟨q2, out, na, nb, mg, ac, bc, rfl, g, l1, l1', l2, l2', l3⟩
          obtain ⟨xb, hb, db, lb⟩ := eb (nb - 1) (by omega)
          refine wpS_gt (k := mg) (n := 1) (fun _ => ?_) (fun _ => ?_)
          all_goals (
            refine wpS_bind (wpS_modify ?_)
            refine wpS_bind (el_ok hb ?_)
            refine wpS_bind (gallop_ok (left := false) (arr := a) (base := 0) (n := na) (hint := na - 1) C db (fun i hi => let ⟨x, h1, h2, _⟩ := ea (0 + i) (by omega); ⟨x, h1, h2⟩) (by omega) (q2.1.trans hs) (byd_mono C sa (by omega)) fun k hk k1 k2 => ?_)
            have gk := g.takeAs C.wo sa sb (by omega) (by omega) (m := k) (by omega) fun i h1 h2 x y hx hy => by
              have := k2 i h1 h2
              rw [byd_right (by rw [Nat.zero_add]; exact hx)] at this
              rw [lb] at hy
              cases hy
              exact C.wo.asym _ _ (by simpa using this)
            have m3 : 0 < k → ∀ y, a.toList[k - 1]? = some y → lt xb y = false := fun hp y hy => by
              have := k1 (k - 1) (by omega)
              rw [byd_right (by rw [Nat.zero_add]; exact hy)] at this
              simpa using this
            refine wpS_gt (k := na - k) (n := 0) (fun k0 => ?_) (fun k0 => ?_)
            · refine wpS_if (c := (k == 0)) (fun c3 => ?_) (fun c3 => ?_)
              · refine wpS_pure ⟨q2, .inr ⟨_, rfl, ?_⟩⟩
                have := gk.done sa sb (by omega) (by omega) (.inl (eq_of_beq c3))
                simp only [Array.toList_append, Array.toList_push, Array.toList_reverse, ext_0, ext_fromto] at this ⊢
                exact this
              · have c3' := beq_no c3
                have g1 : Mh lt a.toList b.toList (out ++ (a.extract k na).reverse).toList k nb := by
                  simp only [Array.toList_append, Array.toList_push, Array.toList_reverse, ext_0, ext_fromto] at gk ⊢
                  exact gk
                refine wpS_bind (el_ok hb ?_)
                have g2 := g1.takeB C.wo sa sb (by omega) (by omega) (by omega) lb m3
                refine wpS_if (c := (nb - 1 == 1)) (fun c5 => ?_) (fun c5 => ?_)
                · refine wpS_pure ⟨q2, .inr ⟨_, rfl, ?_⟩⟩
                  have := g2.firstB sa (by omega) (by omega) (eq_of_beq c5) hfb
                  simp only [Array.toList_append, Array.toList_push, Array.toList_reverse, ext_0, ext_fromto] at this ⊢
                  exact this
                · have c6 := beq_no c5
                  obtain ⟨xa, ha, da, la⟩ := ea (k - 1) (by omega)
                  refine wpS_bind (el_ok ha ?_)
                  refine wpS_bind (gallop_ok (left := true) (arr := b) (base := 0) (n := nb - 1) (hint := nb - 1 - 1) C da (fun i hi => let ⟨x, h1, h2, _⟩ := eb (0 + i) (by omega); ⟨x, h1, h2⟩) (by omega) (q2.1.trans hs) (byd_mono C sb (by omega)) fun k' hk' k1' k2' => ?_)
                  have gk' := g2.takeBs C.wo sa sb (by omega) (by omega) (m := k') (by omega) fun i h1 h2 x y hx hy => by
                    have := k2' i h1 h2
                    rw [byd_left (by rw [Nat.zero_add]; exact hx)] at this
                    rw [la] at hy
                    cases hy
                    exact this
                  have m5 : 0 < k' → ∀ y, b.toList[k' - 1]? = some y → lt xa y = false := fun hp y hy => by
                    have := k1' (k' - 1) (by omega)
                    rw [byd_left (by rw [Nat.zero_add]; exact hy)] at this
                    exact C.wo.asym _ _ this
                  refine wpS_gt (k := nb - 1 - k') (n := 0) (fun k0' => ?_) (fun k0' => ?_)
                  · refine wpS_if (c := (k' == 1)) (fun c9 => ?_) (fun c9 => wpS_if (c := (k' == 0)) (fun c10 => ?_) (fun c10 => ?_))
                    · refine wpS_pure ⟨q2, .inr ⟨_, rfl, ?_⟩⟩
                      have := gk'.firstB sa (by omega) (by omega) (eq_of_beq c9) hfb
                      simp only [Array.toList_append, Array.toList_push, Array.toList_reverse, ext_0, ext_fromto] at this ⊢
                      exact this
                    · refine wpS_pure ⟨q2, .inr ⟨_, rfl, ?_⟩⟩
                      have := gk'.done sa sb (by omega) (by omega) (.inr (eq_of_beq c10))
                      simp only [Array.toList_append, Array.toList_push, Array.toList_reverse, ext_0, ext_fromto] at this ⊢
                      exact this
                    · have c9' := beq_no c9
                      have c10' := beq_no c10
                      have m4 := m5
                      have g3 : Mh lt a.toList b.toList (((out ++ (a.extract k na).reverse).push xb) ++ (b.extract k' (nb - 1)).reverse).toList (k) k' := by
                        simp only [Array.toList_append, Array.toList_push, Array.toList_reverse, ext_0, ext_fromto] at gk' ⊢
                        exact gk'
                      refine wpS_bind (el_ok ha ?_)
                      have g4 := g3.takeA C.wo sa sb (by omega) (by omega) (by omega) la m4
                      refine wpS_if (c := ((k) - 1 == 0)) (fun c7 => ?_) (fun c7 => ?_)
                      · refine wpS_pure ⟨q2, .inr ⟨_, rfl, ?_⟩⟩
                        have := g4.done sa sb (by omega) (by omega) (.inl (eq_of_beq c7))
                        simp only [Array.toList_append, Array.toList_push, Array.toList_reverse, ext_0, ext_fromto] at this ⊢
                        exact this
                      · have c8 := beq_no c7
                        refine wpS_if (fun _ => ?_) (fun _ => ?_)
                        · exact wpS_pure ⟨q2, .inl ⟨(((out ++ (a.extract k na).reverse).push xb) ++ (b.extract k' (nb - 1)).reverse).push xa, (k) - 1, k', _, _, _, rfl, by rw [Array.toList_push]; exact g4, by omega, by omega, by omega, by omega, by omega⟩⟩
                        · exact wpS_pure ⟨q2, (((out ++ (a.extract k na).reverse).push xb) ++ (b.extract k' (nb - 1)).reverse).push xa, (k) - 1, k', _, _, _, rfl, by rw [Array.toList_push]; exact g4, by omega, by omega, by omega, by omega, by omega⟩

                  · obtain rfl : k' = nb - 1 := by omega
                    have m4 := m5
                    have g3 : Mh lt a.toList b.toList ((out ++ (a.extract k na).reverse).push xb).toList (k) (nb - 1) := by
                      rw [Array.toList_push]
                      exact g2
                    refine wpS_bind (el_ok ha ?_)
                    have g4 := g3.takeA C.wo sa sb (by omega) (by omega) (by omega) la m4
                    refine wpS_if (c := ((k) - 1 == 0)) (fun c7 => ?_) (fun c7 => ?_)
                    · refine wpS_pure ⟨q2, .inr ⟨_, rfl, ?_⟩⟩
                      have := g4.done sa sb (by omega) (by omega) (.inl (eq_of_beq c7))
                      simp only [Array.toList_append, Array.toList_push, Array.toList_reverse, ext_0, ext_fromto] at this ⊢
                      exact this
                    · have c8 := beq_no c7
                      refine wpS_if (fun _ => ?_) (fun _ => ?_)
                      · exact wpS_pure ⟨q2, .inl ⟨((out ++ (a.extract k na).reverse).push xb).push xa, (k) - 1, (nb - 1), _, _, _, rfl, by rw [Array.toList_push]; exact g4, by omega, by omega, by omega, by omega, by omega⟩⟩
                      · exact wpS_pure ⟨q2, ((out ++ (a.extract k na).reverse).push xb).push xa, (k) - 1, (nb - 1), _, _, _, rfl, by rw [Array.toList_push]; exact g4, by omega, by omega, by omega, by omega, by omega⟩


            · obtain rfl : k = na := by omega
              have g1 := g
              refine wpS_bind (el_ok hb ?_)
              have g2 := g1.takeB C.wo sa sb (by omega) (by omega) (by omega) lb m3
              refine wpS_if (c := (nb - 1 == 1)) (fun c5 => ?_) (fun c5 => ?_)
              · refine wpS_pure ⟨q2, .inr ⟨_, rfl, ?_⟩⟩
                have := g2.firstB sa (by omega) (by omega) (eq_of_beq c5) hfb
                simp only [Array.toList_append, Array.toList_push, Array.toList_reverse, ext_0, ext_fromto] at this ⊢
                exact this
              · have c6 := beq_no c5
                obtain ⟨xa, ha, da, la⟩ := ea (k - 1) (by omega)
                refine wpS_bind (el_ok ha ?_)
                refine wpS_bind (gallop_ok (left := true) (arr := b) (base := 0) (n := nb - 1) (hint := nb - 1 - 1) C da (fun i hi => let ⟨x, h1, h2, _⟩ := eb (0 + i) (by omega); ⟨x, h1, h2⟩) (by omega) (q2.1.trans hs) (byd_mono C sb (by omega)) fun k' hk' k1' k2' => ?_)
                have gk' := g2.takeBs C.wo sa sb (by omega) (by omega) (m := k') (by omega) fun i h1 h2 x y hx hy => by
                  have := k2' i h1 h2
                  rw [byd_left (by rw [Nat.zero_add]; exact hx)] at this
                  rw [la] at hy
                  cases hy
                  exact this
                have m5 : 0 < k' → ∀ y, b.toList[k' - 1]? = some y → lt xa y = false := fun hp y hy => by
                  have := k1' (k' - 1) (by omega)
                  rw [byd_left (by rw [Nat.zero_add]; exact hy)] at this
                  exact C.wo.asym _ _ this
                refine wpS_gt (k := nb - 1 - k') (n := 0) (fun k0' => ?_) (fun k0' => ?_)
                · refine wpS_if (c := (k' == 1)) (fun c9 => ?_) (fun c9 => wpS_if (c := (k' == 0)) (fun c10 => ?_) (fun c10 => ?_))
                  · refine wpS_pure ⟨q2, .inr ⟨_, rfl, ?_⟩⟩
                    have := gk'.firstB sa (by omega) (by omega) (eq_of_beq c9) hfb
                    simp only [Array.toList_append, Array.toList_push, Array.toList_reverse, ext_0, ext_fromto] at this ⊢
                    exact this
                  · refine wpS_pure ⟨q2, .inr ⟨_, rfl, ?_⟩⟩
                    have := gk'.done sa sb (by omega) (by omega) (.inr (eq_of_beq c10))
                    simp only [Array.toList_append, Array.toList_push, Array.toList_reverse, ext_0, ext_fromto] at this ⊢
                    exact this
                  · have c9' := beq_no c9
                    have c10' := beq_no c10
                    have m4 := m5
                    have g3 : Mh lt a.toList b.toList ((out.push xb) ++ (b.extract k' (nb - 1)).reverse).toList (k) k' := by
                      simp only [Array.toList_append, Array.toList_push, Array.toList_reverse, ext_0, ext_fromto] at gk' ⊢
                      exact gk'
                    refine wpS_bind (el_ok ha ?_)
                    have g4 := g3.takeA C.wo sa sb (by omega) (by omega) (by omega) la m4
                    refine wpS_if (c := ((k) - 1 == 0)) (fun c7 => ?_) (fun c7 => ?_)
                    · refine wpS_pure ⟨q2, .inr ⟨_, rfl, ?_⟩⟩
                      have := g4.done sa sb (by omega) (by omega) (.inl (eq_of_beq c7))
                      simp only [Array.toList_append, Array.toList_push, Array.toList_reverse, ext_0, ext_fromto] at this ⊢
                      exact this
                    · have c8 := beq_no c7
                      refine wpS_if (fun _ => ?_) (fun _ => ?_)
                      · exact wpS_pure ⟨q2, .inl ⟨((out.push xb) ++ (b.extract k' (nb - 1)).reverse).push xa, (k) - 1, k', _, _, _, rfl, by rw [Array.toList_push]; exact g4, by omega, by omega, by omega, by omega, by omega⟩⟩
                      · exact wpS_pure ⟨q2, ((out.push xb) ++ (b.extract k' (nb - 1)).reverse).push xa, (k) - 1, k', _, _, _, rfl, by rw [Array.toList_push]; exact g4, by omega, by omega, by omega, by omega, by omega⟩

                · obtain rfl : k' = nb - 1 := by omega
                  have m4 := m5
                  have g3 : Mh lt a.toList b.toList (out.push xb).toList (k) (nb - 1) := by
                    rw [Array.toList_push]
                    exact g2
                  refine wpS_bind (el_ok ha ?_)
                  have g4 := g3.takeA C.wo sa sb (by omega) (by omega) (by omega) la m4
                  refine wpS_if (c := ((k) - 1 == 0)) (fun c7 => ?_) (fun c7 => ?_)
                  · refine wpS_pure ⟨q2, .inr ⟨_, rfl, ?_⟩⟩
                    have := g4.done sa sb (by omega) (by omega) (.inl (eq_of_beq c7))
                    simp only [Array.toList_append, Array.toList_push, Array.toList_reverse, ext_0, ext_fromto] at this ⊢
                    exact this
                  · have c8 := beq_no c7
                    refine wpS_if (fun _ => ?_) (fun _ => ?_)
                    · exact wpS_pure ⟨q2, .inl ⟨(out.push xb).push xa, (k) - 1, (nb - 1), _, _, _, rfl, by rw [Array.toList_push]; exact g4, by omega, by omega, by omega, by omega, by omega⟩⟩
                    · exact wpS_pure ⟨q2, (out.push xb).push xa, (k) - 1, (nb - 1), _, _, _, rfl, by rw [Array.toList_push]; exact g4, by omega, by omega, by omega, by omega, by omega⟩)
        · rintro c st' ⟨q2, out, na, nb, mg, ac, bc, rfl, g, l1, l1', l2, l2', l3⟩
          omega
        · rintro c st' ⟨q2, ⟨out, na, nb, mg, ac, bc, rfl, g, l1, l1', l2, l2', l3⟩ | ⟨r, hr, hm⟩⟩
          · exact wpS_bind (wpS_modify (wpS_pure ⟨out, na, nb, _, rfl, g, l1, l1', l2, l2', l3, q2⟩))
          · obtain ⟨c1, c2⟩ := c
            dsimp only at hr
            subst hr
            exact wpS_pure ⟨r, rfl, hm, q2⟩
      · obtain ⟨c1, c2⟩ := c
        dsimp only at hr
        subst hr
        exact wpS_pure ⟨r, rfl, hm, q1⟩
  · rintro c st' ⟨out, na, nb, mg, rfl, g, l1, l1', l2, l2', l3, q1⟩
    omega
  · rintro c st' ⟨r, hr, hm, q1⟩
    obtain ⟨c1, c2⟩ := c
    dsimp only at hr
    subst hr
    exact wpS_pure (h r st' hm q1)
end
end L2

namespace L2
open PySem PySem.Spec PyProof.Rows
def countRun_ : Nat → Nat → StateT SortSt Sem (Option Nat) := sortPriv% PySem.Builtin.countRun
def binarySort_ : Nat → Nat → Nat → StateT SortSt Sem Bool := sortPriv% PySem.Builtin.binarySort
def sortRuns_ : StateT SortSt Sem Unit := sortPriv% PySem.Builtin.sortRuns
theorem put_back : ∀ (M : List Keyed) (n o : Nat) (arr : Array Keyed) (A B C : List Keyed), arr.toList = A ++ (B ++ C) → A.length = o + n → B.length = M.length →
    ((M.zipIdx n).foldl (fun a x => match x with | (p, j) => a.setIfInBounds (o + j) p) arr).toList = A ++ (M ++ C)
  | [], n, o, arr, A, B, C, h, _, hb => by
    obtain rfl : B = [] := List.length_eq_zero_iff.mp hb
    simpa using h
  | x :: M, n, o, arr, A, [], C, h, _, hb => by cases hb
  | x :: M, n, o, arr, A, y :: B, C, h, ha, hb => by
    rw [List.zipIdx_cons, List.foldl_cons]
    have e : (arr.setIfInBounds (o + n) x).toList = (A ++ [x]) ++ (B ++ C) := by
      rw [Array.toList_setIfInBounds, h, ← ha, List.set_append_right _ _ (Nat.le_refl _), Nat.sub_self]
      simp
    have := put_back M (n + 1) o _ (A ++ [x]) B C e (by simp; omega) (by simpa using hb)
    rw [this]
    simp
section
variable {prog : Program} {w : World} {A : Around} {E : Value → Shared → Prop} {s : Shared} {kd : SortKind} {D : Keyed → Prop} {lt : Keyed → Keyed → Bool}
theorem wpS_set {M : Model} {st st' : SortSt} {Q : PUnit → SortSt → Prop} (h : Q ⟨⟩ st') : wpS M A E s (set st' : StateT SortSt Sem PUnit) Q st := by
  unfold wpS; rw [StateT.run_set]; exact wpAny_pure ⟨rfl, h⟩
theorem byd_seg {left : Bool} {key : Keyed} {arr : Array Keyed} {base i : Nat} {x : Keyed} (e : arr.toList[base + i]? = some x) : byd lt left key arr base i = if left = true then lt x key else !lt key x := by
  cases left with
  | true => rw [byd_left e]; rfl
  | false => rw [byd_right e]; rfl
theorem byd_monoS (C : Wo lt) {left : Bool} {key : Keyed} {arr : Array Keyed} {base : Nat} {X : List Keyed} (hX : ∀ i, i < X.length → arr.toList[base + i]? = X[i]?) (sX : Srt lt X) :
    ∀ i j, i ≤ j → j < X.length → byd lt left key arr base j = true → byd lt left key arr base i = true := fun i j hij hj h => by
  have hi : i < X.length := by omega
  have ei : arr.toList[base + i]? = some X[i] := by rw [hX i hi, List.getElem?_eq_getElem hi]
  have ej : arr.toList[base + j]? = some X[j] := by rw [hX j hj, List.getElem?_eq_getElem hj]
  have le := srt_get C sX (List.getElem?_eq_getElem (by omega : i < X.length)) (List.getElem?_eq_getElem hj) hij
  rw [byd_seg ej] at h
  rw [byd_seg ei]
  cases left with
  | true =>
    simp only [if_true] at h ⊢
    rcases C.neg _ (X[i]'(by omega)) _ h with z | z
    · rw [z] at le; cases le
    · exact z
  | false =>
    simp only [Bool.false_eq_true, if_false] at h ⊢
    cases z : lt key (X[i]'(by omega)) with
    | false => rfl
    | true =>
      rcases C.neg _ (X[j]'hj) _ z with y | y
      · rw [y] at h; cases h
      · rw [y] at le; cases le
theorem mergeAt_ok (C : Cmp prog w A E s kd D lt) {i sa na pw sb nb pw2 : Nat} {st : SortSt} {P X Y S : List Keyed} {Q : Bool → SortSt → Prop}
    (hp1 : (pendingOf st)[i]? = some (sa, na, pw)) (hp2 : (pendingOf st)[i + 1]? = some (sb, nb, pw2)) (hA : (arrOf st).toList = P ++ (X ++ (Y ++ S))) (hsa : sa = P.length) (hna : na = X.length) (hsb : sb = P.length + X.length) (hnb : nb = Y.length)
    (x0 : 0 < X.length) (y0 : 0 < Y.length) (sX : Srt lt X) (sY : Srt lt Y) (hD : ∀ x ∈ (arrOf st).toList, D x) (hk : kindOf st = kd) (hf : failedOf st = none)
    (h : ∀ Z st', Srt lt Z → Z.Perm (X ++ Y) → (arrOf st').toList = P ++ (Z ++ S) → pendingOf st' = ((pendingOf st).setIfInBounds i (sa, na + nb, pw)).eraseIdxIfInBounds (i + 1) → kindOf st' = kd → failedOf st' = none → Q true st') :
    wpS (model prog w) A E s (mergeAt_ i) Q st := by
  subst hsa hna hsb hnb
  have eX : ∀ j, j < X.length → (arrOf st).toList[P.length + j]? = X[j]? := fun j hj => by
    rw [hA, List.getElem?_append_right (by omega), Nat.add_sub_cancel_left, List.getElem?_append_left hj]
  have eY : ∀ j, j < Y.length → (arrOf st).toList[P.length + X.length + j]? = Y[j]? := fun j hj => by
    rw [hA, List.getElem?_append_right (by omega), List.getElem?_append_right (by omega), List.getElem?_append_left (by omega)]
    congr 1; omega
  have dX : ∀ x ∈ X, D x := fun x hx => hD x (by rw [hA]; simp [hx])
  have dY : ∀ x ∈ Y, D x := fun x hx => hD x (by rw [hA]; simp [hx])
  refine wpS_bind (wpS_get ?_)
  rw [show (sortPriv% PySem.Builtin.SortState.pending) st = pendingOf st from rfl, hp1, hp2]
  refine wpS_bind (wpS_set ?_)
  have ey0 : (arrOf st)[P.length + X.length]? = some (Y[0]'y0) := by
    have := eY 0 y0
    rw [← Array.getElem?_toList, Nat.add_zero] at *
    rw [this, List.getElem?_eq_getElem y0]
  refine wpS_bind (el_ok ey0 ?_)
  refine wpS_bind (gallop_ok (left := false) (arr := arrOf st) (base := P.length) (n := X.length) (hint := 0) C (dY _ (List.getElem_mem y0)) (fun j hj => ⟨X[j], by rw [← Array.getElem?_toList, eX j hj, List.getElem?_eq_getElem hj], dX _ (List.getElem_mem hj)⟩) x0 hk (byd_monoS C.wo eX sX) fun k hk1 k1 k2 => ?_)
  have f1 : ∀ j (hj : j < X.length), j < k → lt (Y[0]'y0) X[j] = false := fun j hj hjk => by
    have := k1 j hjk
    rw [byd_seg (by rw [eX j hj, List.getElem?_eq_getElem hj])] at this
    simpa using this
  have f2 : ∀ j (hj : j < X.length), k ≤ j → lt (Y[0]'y0) X[j] = true := fun j hj hjk => by
    have := k2 j hjk hj
    rw [byd_seg (by rw [eX j hj, List.getElem?_eq_getElem hj])] at this
    simpa using this
  have lowX : ∀ x ∈ X.take k, ∀ y ∈ Y, lt y x = false := fun x hx y hy => by
    obtain ⟨j, hj, rfl⟩ := List.getElem_of_mem hx
    rw [List.length_take] at hj
    rw [List.getElem_take]
    obtain ⟨j2, hj2, rfl⟩ := List.getElem_of_mem hy
    exact C.wo.leT (f1 j (by omega) (by omega)) (srt_get C.wo sY (List.getElem?_eq_getElem y0) (List.getElem?_eq_getElem hj2) (Nat.zero_le _))
  refine wpS_if (c := (X.length - k == 0)) (fun c1 => ?_) (fun c1 => ?_)
  · refine wpS_pure (h (X ++ Y) _ ?_ (List.Perm.refl _) (by rw [List.append_assoc]; exact hA) rfl hk hf)
    have ek : X.take k = X := List.take_of_length_le (by have := eq_of_beq c1; omega)
    rw [ek] at lowX
    exact List.pairwise_append.mpr ⟨sX, sY, lowX⟩
  have c1' := beq_no c1
  have exl : (arrOf st)[P.length + k + (X.length - k) - 1]? = some (X[X.length - 1]'(by omega)) := by
    have := eX (X.length - 1) (by omega)
    rw [← Array.getElem?_toList, show P.length + k + (X.length - k) - 1 = P.length + (X.length - 1) by omega, this, List.getElem?_eq_getElem (by omega)]
  refine wpS_bind (el_ok exl ?_)
  refine wpS_bind (gallop_ok (left := true) (arr := arrOf st) (base := P.length + X.length) (n := Y.length) (hint := Y.length - 1) C (dX _ (List.getElem_mem (by omega))) (fun j hj => ⟨Y[j], by rw [← Array.getElem?_toList, eY j hj, List.getElem?_eq_getElem hj], dY _ (List.getElem_mem hj)⟩) (by omega) hk (byd_monoS C.wo eY sY) fun m hm1 m1 m2 => ?_)
  have f3 : ∀ j (hj : j < Y.length), j < m → lt Y[j] (X[X.length - 1]'(by omega)) = true := fun j hj hjm => by
    have := m1 j hjm
    rw [byd_seg (by rw [eY j hj, List.getElem?_eq_getElem hj])] at this
    simpa using this
  have f4 : ∀ j (hj : j < Y.length), m ≤ j → lt Y[j] (X[X.length - 1]'(by omega)) = false := fun j hj hjm => by
    have := m2 j hjm hj
    rw [byd_seg (by rw [eY j hj, List.getElem?_eq_getElem hj])] at this
    simpa using this
  have m0 : m ≠ 0 := fun z => by
    have := f4 0 y0 (by omega)
    rw [f2 (X.length - 1) (by omega) (by omega)] at this
    cases this
  refine wpS_if (c := (m == 0)) (fun c2 => absurd (eq_of_beq c2) m0) (fun c2 => ?_)
  have tx : ((arrOf st).extract (P.length + k) (P.length + X.length)).toList = X.drop k := by
    rw [ext_fromto, hA, List.drop_append, List.drop_eq_nil_of_le (by omega), List.nil_append, show P.length + k - P.length = k by omega, List.drop_append_of_le_length (by omega), List.take_append_of_le_length (by rw [List.length_drop]; omega), List.take_of_length_le (by rw [List.length_drop]; omega)]
  have ty : ((arrOf st).extract (P.length + X.length) (P.length + X.length + m)).toList = Y.take m := by
    rw [ext_fromto, hA, ← List.append_assoc, List.drop_append, List.drop_eq_nil_of_le (by simp), List.nil_append, List.length_append, Nat.sub_self, List.drop_zero, List.take_append_of_le_length (by omega)]
    congr 1; omega
  have sX2 : Srt lt (X.drop k) := srt_drop sX k
  have sY1 : Srt lt (Y.take m) := List.Pairwise.sublist (List.take_sublist _ _) sY
  have lX2 : (X.drop k).length = X.length - k := List.length_drop
  have lY1 : (Y.take m).length = m := by rw [List.length_take]; omega
  have hff : ∀ x y, (X.drop k)[0]? = some x → (Y.take m)[0]? = some y → lt x y = false := fun x y hx hy => by
    rw [List.getElem?_drop, Nat.add_zero, List.getElem?_eq_getElem (by omega)] at hx
    rw [List.getElem?_take_of_lt (by omega), List.getElem?_eq_getElem y0] at hy
    cases hx; cases hy
    exact C.wo.asym _ _ (f2 k (by omega) (Nat.le_refl _))
  have hll : ∀ x, (X.drop k)[(X.drop k).length - 1]? = some x → ∀ y ∈ Y.take m, lt x y = false := fun x hx y hy => by
    rw [lX2, List.getElem?_drop, show k + (X.length - k - 1) = X.length - 1 by omega, List.getElem?_eq_getElem (by omega)] at hx
    cases hx
    obtain ⟨j, hj, rfl⟩ := List.getElem_of_mem hy
    rw [lY1] at hj
    rw [List.getElem_take]
    exact C.wo.asym _ _ (f3 j (by omega) hj)
  have fin : ∀ (r : Array Keyed) (st' : SortSt), Mgd lt (X.drop k) (Y.take m) r.toList → Eqg (SortSt.mk' (kindOf st) (arrOf st) (((pendingOf st).setIfInBounds i (P.length, X.length + Y.length, pw)).eraseIdxIfInBounds (i + 1)) (gallopOf st) (failedOf st)) st' →
      Q true (SortSt.mk' (kindOf st') (List.foldl (fun a x => match x with | (p, j) => a.setIfInBounds (P.length + k + j) p) (arrOf st') r.toList.zipIdx) (pendingOf st') (gallopOf st') (failedOf st')) := fun r st' hm q => by
    obtain ⟨q1, q2, q3, q4⟩ := q
    refine h (X.take k ++ (r.toList ++ Y.drop m)) _ ?_ ?_ ?_ q3 (q1.trans hk) (q4.trans hf)
    · have rle : ∀ p ∈ r.toList, ∀ q ∈ Y.drop m, lt q p = false := fun p hp q hq => by
        have hq' : ∃ j, ∃ hj : j < Y.length, m ≤ j ∧ Y[j] = q := by
          obtain ⟨j, hj, rfl⟩ := List.getElem_of_mem hq
          rw [List.length_drop] at hj
          exact ⟨m + j, by omega, by omega, by rw [List.getElem_drop]⟩
        obtain ⟨j, hj, hmj, rfl⟩ := hq'
        rcases List.mem_append.mp (hm.2.mem_iff.mp hp) with z | z
        · obtain ⟨j2, hj2, rfl⟩ := List.getElem_of_mem (List.mem_of_mem_drop z)
          exact C.wo.leT (srt_get C.wo sX (List.getElem?_eq_getElem hj2) (List.getElem?_eq_getElem (by omega : X.length - 1 < X.length)) (by omega)) (f4 j hj hmj)
        · obtain ⟨j2, hj2, rfl⟩ := List.getElem_of_mem z
          rw [lY1] at hj2
          rw [List.getElem_take]
          exact srt_get C.wo sY (List.getElem?_eq_getElem (by omega)) (List.getElem?_eq_getElem hj) (by omega)
      refine List.pairwise_append.mpr ⟨List.Pairwise.sublist (List.take_sublist _ _) sX, List.pairwise_append.mpr ⟨hm.1, srt_drop sY m, rle⟩, fun p hp q hq => ?_⟩
      rcases List.mem_append.mp hq with z | z
      · rcases List.mem_append.mp (hm.2.mem_iff.mp z) with y | y
        · have : Srt lt (X.take k ++ X.drop k) := by rw [List.take_append_drop]; exact sX
          exact (List.pairwise_append.mp this).2.2 p hp q y
        · exact lowX p hp q (List.mem_of_mem_take y)
      · exact lowX p hp q (List.mem_of_mem_drop z)
    · have e1 : (X.take k ++ (r.toList ++ Y.drop m)).Perm (X.take k ++ ((X.drop k ++ Y.take m) ++ Y.drop m)) := List.Perm.append_left _ (hm.2.append_right _)
      refine e1.trans ?_
      rw [List.append_assoc, List.take_append_drop, ← List.append_assoc, List.take_append_drop]
    · show (List.foldl _ (arrOf st') r.toList.zipIdx).toList = _
      rw [q2]
      have := put_back r.toList 0 (P.length + k) (arrOf st) (P ++ X.take k) (X.drop k ++ Y.take m) (Y.drop m ++ S) (by
        show (arrOf st).toList = _
        rw [hA]
        have e1 : X = X.take k ++ X.drop k := (List.take_append_drop k X).symm
        have e2 : Y = Y.take m ++ Y.drop m := (List.take_append_drop m Y).symm
        conv => lhs; rw [e1, e2]
        simp only [List.append_assoc]) (by rw [List.length_append, List.length_take]; omega) hm.2.length_eq.symm
      rw [show (List.foldl (fun a x => match x with | (p, j) => a.setIfInBounds (P.length + k + j) p) (arrOf st) r.toList.zipIdx) = _ from rfl] at this
      rw [this]
      simp only [List.append_assoc]
  have dx : ∀ x ∈ ((arrOf st).extract (P.length + k) (P.length + X.length)).toList, D x := fun x hx => dX x (by rw [tx] at hx; exact List.mem_of_mem_drop hx)
  have dy : ∀ x ∈ ((arrOf st).extract (P.length + X.length) (P.length + X.length + m)).toList, D x := fun x hx => dY x (by rw [ty] at hx; exact List.mem_of_mem_take hx)
  show wpS _ _ _ _ (if X.length - k ≤ m then _ else _) _ _
  by_cases c3 : X.length - k ≤ m
  · rw [if_pos c3]
    refine wpS_bind (mergeLo_ok (a := (arrOf st).extract (P.length + k) (P.length + X.length)) (b := (arrOf st).extract (P.length + X.length) (P.length + X.length + m)) C dx dy (by rw [tx]; exact sX2) (by rw [ty]; exact sY1) hk (by rw [tx, lX2]; omega) (by rw [ty, lY1]; omega) (by rw [tx, ty]; exact hff) (by rw [tx, ty]; exact hll) fun r st' hm q => ?_)
    rw [tx, ty] at hm
    refine wpS_bind (wpS_modify (wpS_bind (wpS_get (wpS_pure ?_))))
    have e : (failedOf st').isNone = true := by rw [q.2.2.2]; show (failedOf st).isNone = true; rw [hf]; rfl
    have := fin r st' hm q
    rw [← e] at this
    exact this
  · rw [if_neg c3]
    refine wpS_bind (mergeHi_ok (a := (arrOf st).extract (P.length + k) (P.length + X.length)) (b := (arrOf st).extract (P.length + X.length) (P.length + X.length + m)) C dx dy (by rw [tx]; exact sX2) (by rw [ty]; exact sY1) hk (by rw [tx, lX2]; omega) (by rw [ty, lY1]; omega) (by rw [tx, ty]; exact hff) (by rw [tx, ty]; exact hll) fun r st' hm q => ?_)
    rw [tx, ty] at hm
    refine wpS_bind (wpS_modify (wpS_bind (wpS_get (wpS_pure ?_))))
    have e : (failedOf st').isNone = true := by rw [q.2.2.2]; show (failedOf st).isNone = true; rw [hf]; rfl
    have := fin r st' hm q
    rw [← e] at this
    exact this
end
end L2

/-! list.sort of any length: runs counted, things put in -/
namespace L2
open PySem PySem.Spec PyProof.Rows
section
variable {prog : Program} {w : World} {A : Around} {E : Value → Shared → Prop} {s : Shared} {kd : SortKind} {D : Keyed → Prop} {lt : Keyed → Keyed → Bool}
def SrtS (lt : Keyed → Keyed → Bool) (arr : Array Keyed) (lo m : Nat) : Prop := ∀ i j p q, i ≤ j → j < m → arr[lo + i]? = some p → arr[lo + j]? = some q → lt q p = false
def NonS (lt : Keyed → Keyed → Bool) (arr : Array Keyed) (lo m : Nat) : Prop := ∀ i j p q, i ≤ j → j < m → arr[lo + i]? = some p → arr[lo + j]? = some q → lt p q = false
def EqS (lt : Keyed → Keyed → Bool) (arr : Array Keyed) (b e : Nat) : Prop := ∀ i j p q, b ≤ i → i < e → b ≤ j → j < e → arr[i]? = some p → arr[j]? = some q → lt p q = false
/-- a state alike but for the order of what stands from lo on, n things -/
structure Kp (lo n : Nat) (st st' : SortSt) : Prop where
  kind : kindOf st' = kindOf st
  pend : pendingOf st' = pendingOf st
  fail : failedOf st' = failedOf st
  perm : (arrOf st').toList.Perm (arrOf st).toList
  out : ∀ i, i < lo ∨ lo + n ≤ i → (arrOf st')[i]? = (arrOf st)[i]?
theorem Kp.refl (lo n : Nat) (st : SortSt) : Kp lo n st st := ⟨rfl, rfl, rfl, .refl _, fun _ _ => rfl⟩
theorem Kp.trans {lo n : Nat} {a b c : SortSt} (x : Kp lo n a b) (y : Kp lo n b c) : Kp lo n a c := ⟨y.kind.trans x.kind, y.pend.trans x.pend, y.fail.trans x.fail, y.perm.trans x.perm, fun i h => (y.out i h).trans (x.out i h)⟩
theorem Kp.size {lo n : Nat} {a b : SortSt} (x : Kp lo n a b) : (arrOf b).size = (arrOf a).size := by
  have := x.perm.length_eq
  simpa using this
theorem at_ok {arr : Array Keyed} {i : Nat} (h : i < arr.size) : ∃ x, arr[i]? = some x := ⟨arr[i], getElem?_pos arr i h⟩
theorem ltAt_ok (C : Cmp prog w A E s kd D lt) {st : SortSt} {i j : Nat} {Q : Option Bool → SortSt → Prop} (hi : i < (arrOf st).size) (hj : j < (arrOf st).size) (hD : ∀ x ∈ (arrOf st).toList, D x) (hk : kindOf st = kd)
    (h : ∀ p q, (arrOf st)[i]? = some p → (arrOf st)[j]? = some q → Q (some (lt p q)) st) : wpS (model prog w) A E s (ltAt' i j) Q st := by
  obtain ⟨p, hp⟩ := at_ok hi
  obtain ⟨q, hq⟩ := at_ok hj
  rw [ltAt'_eq]
  refine wpS_bind (wpS_get ?_)
  show wpS _ _ _ _ (elem' (arrOf st) i >>= fun x => elem' (arrOf st) j >>= fun y => lt' x y) Q st
  refine wpS_bind (el_ok hp (wpS_bind (el_ok hq (C.cmp p q st Q (hD p ?_) (hD q ?_) hk (h p q hp hq)))))
  · exact List.mem_of_getElem? (by rw [Array.getElem?_toList]; exact hp)
  · exact List.mem_of_getElem? (by rw [Array.getElem?_toList]; exact hq)
theorem rev_ok {M : Model} {i j : Nat} {st : SortSt} {Q : Unit → SortSt → Prop} (h : Q () (setArr st (mirror (arrOf st) i j ((j - i) / 2)))) : wpS M A E s (reverseSlice' i j) Q st := by
  rw [reverseSlice'_eq]; exact wpS_modify h
theorem kp_mirror {lo n i j : Nat} {st : SortSt} (h1 : lo ≤ i) (h2 : j ≤ lo + n) (h3 : lo + n ≤ (arrOf st).size) : Kp lo n st (setArr st (mirror (arrOf st) i j ((j - i) / 2))) := by
  refine ⟨rfl, rfl, rfl, Array.perm_iff_toList_perm.mp (mirror_perm _ _ _ _), fun k hk => ?_⟩
  show (mirror (arrOf st) i j ((j - i) / 2))[k]? = _
  rw [getElem?_mirror_all (by omega), if_neg (by omega)]
theorem non_mirror {arr : Array Keyed} {lo m b e : Nat} (h : NonS lt arr lo m) (he : EqS lt arr b e) (h1 : lo ≤ b) (h2 : e ≤ lo + m) (h3 : lo + m ≤ arr.size) : NonS lt (mirror arr b e ((e - b) / 2)) lo m := by
  intro i j p q hij hj hp hq
  rw [getElem?_mirror_all (by omega)] at hp hq
  by_cases ci : b ≤ lo + i ∧ lo + i < e <;> by_cases cj : b ≤ lo + j ∧ lo + j < e
  · rw [if_pos ci] at hp
    rw [if_pos cj] at hq
    exact he _ _ p q (by omega) (by omega) (by omega) (by omega) hp hq
  · rw [if_pos ci] at hp
    rw [if_neg cj] at hq
    exact h (b + e - 1 - (lo + i) - lo) j p q (by omega) hj (by rw [show lo + (b + e - 1 - (lo + i) - lo) = b + e - 1 - (lo + i) by omega]; exact hp) hq
  · rw [if_neg ci] at hp
    rw [if_pos cj] at hq
    exact h i (b + e - 1 - (lo + j) - lo) p q (by omega) (by omega) hp (by rw [show lo + (b + e - 1 - (lo + j) - lo) = b + e - 1 - (lo + j) by omega]; exact hq)
  · rw [if_neg ci] at hp
    rw [if_neg cj] at hq
    exact h i j p q hij hj hp hq
theorem srt_mirror {arr : Array Keyed} {lo m : Nat} (h : NonS lt arr lo m) (h3 : lo + m ≤ arr.size) : SrtS lt (mirror arr lo (lo + m) ((lo + m - lo) / 2)) lo m := by
  intro i j p q hij hj hp hq
  rw [getElem?_mirror_all (by omega), if_pos (by omega)] at hp hq
  exact h (m - 1 - j) (m - 1 - i) q p (by omega) (by omega) (by rw [← hq]; congr 1; omega) (by rw [← hp]; congr 1; omega)
theorem non_snoc (C : Wo lt) {arr : Array Keyed} {lo m : Nat} (h : NonS lt arr lo m) (hm : 0 < m) {d e : Keyed} (hd : arr[lo + m - 1]? = some d) (he : arr[lo + m]? = some e) (hde : lt d e = false) : NonS lt arr lo (m + 1) := by
  intro i j p q hij hj hp hq
  by_cases c : j < m
  · exact h i j p q hij c hp hq
  · obtain rfl : j = m := by omega
    rw [he] at hq
    cases hq
    by_cases c2 : i = j
    · subst c2
      rw [he] at hp
      cases hp
      exact C.irr _
    · exact C.leT hde (h i (j - 1) p d (by omega) (by omega) hp (by rw [show lo + (j - 1) = lo + j - 1 by omega]; exact hd))
theorem srt_snocS (C : Wo lt) {arr : Array Keyed} {lo m : Nat} (h : SrtS lt arr lo m) (hm : 0 < m) {d e : Keyed} (hd : arr[lo + m - 1]? = some d) (he : arr[lo + m]? = some e) (hde : lt e d = false) : SrtS lt arr lo (m + 1) := by
  intro i j p q hij hj hp hq
  by_cases c : j < m
  · exact h i j p q hij c hp hq
  · obtain rfl : j = m := by omega
    rw [he] at hq
    cases hq
    by_cases c2 : i = j
    · subst c2
      rw [he] at hp
      cases hp
      exact C.irr _
    · exact C.leT (h i (j - 1) p d (by omega) (by omega) hp (by rw [show lo + (j - 1) = lo + j - 1 by omega]; exact hd)) hde
theorem eq_one (C : Wo lt) {x lo : Nat} (arr : Array Keyed) : EqS lt arr (lo + x - (0 + 1)) (lo + x) := fun i j p q i1 i2 j1 j2 hp hq => by
  obtain rfl : i = j := by omega
  rw [hp] at hq; cases hq; exact C.irr _
theorem eq_snoc (C : Wo lt) {arr : Array Keyed} {b e : Nat} (h : EqS lt arr b e) (hb : b < e) {d x : Keyed} (hd : arr[e - 1]? = some d) (hx : arr[e]? = some x) (h1 : lt x d = false) (h2 : lt d x = false) : EqS lt arr b (e + 1) := fun i j p q i1 i2 j1 j2 hp hq => by
  by_cases ci : i < e <;> by_cases cj : j < e
  · exact h i j p q i1 ci j1 cj hp hq
  · obtain rfl : j = e := by omega
    rw [hx] at hq; cases hq
    exact C.leT h2 (h i (j - 1) p d i1 ci (by omega) (by omega) hp hd)
  · obtain rfl : i = e := by omega
    rw [hx] at hp; cases hp
    exact C.leT (h (i - 1) j d q (by omega) (by omega) j1 cj hd hq) h1
  · obtain rfl : i = e := by omega
    obtain rfl : j = i := by omega
    rw [hp] at hq; cases hq; exact C.irr _
theorem asc_loop (C : Cmp prog w A E s kd D lt) {lo n a : Nat} {st : SortSt} {Q : Option (Option Nat) × Nat → SortSt → Prop} {body : Nat → Option (Option Nat) × Nat → StateT SortSt Sem (ForInStep (Option (Option Nat) × Nat))}
    (hb : ∀ x m (R : ForInStep (Option (Option Nat) × Nat) → SortSt → Prop), 1 ≤ m → m < n → (∀ p q, (arrOf st)[lo + m]? = some p → (arrOf st)[lo + m - 1]? = some q → R (if lt p q = true then .done (none, m) else .yield (none, m + 1)) st) → wpS (model prog w) A E s (body x (none, m)) R st)
    (ha : 1 ≤ a) (han : a ≤ n) (hsz : lo + n ≤ (arrOf st).size) (hs : SrtS lt (arrOf st) lo a)
    (h : ∀ m, a ≤ m → m ≤ n → SrtS lt (arrOf st) lo m → (m < n → ∀ p q, (arrOf st)[lo + m]? = some p → (arrOf st)[lo + m - 1]? = some q → lt p q = true) → Q (none, m) st) : wpS (model prog w) A E s (forIn [a:n] (none, a) body) Q st := by
  refine wpS_forRange (I := fun x c st' => st' = st ∧ c = (none, x) ∧ SrtS lt (arrOf st) lo x) ?_ ?_ ⟨rfl, rfl, hs⟩
  · rintro x c st' hax hxn ⟨rfl, rfl, g⟩
    refine hb x x _ (by omega) hxn fun p q hp hq => ?_
    cases e : lt p q with
    | true =>
      exact h x hax (by omega) g fun _ p' q' hp' hq' => by
        rw [hp] at hp'; rw [hq] at hq'; cases hp'; cases hq'; exact e
    | false => exact ⟨rfl, rfl, srt_snocS C.wo g (by omega) hq hp e⟩
  · rintro c st' ⟨rfl, rfl, g⟩
    rw [show max a n = n by omega] at g ⊢
    exact h n han (Nat.le_refl _) g fun z => by omega
theorem countRun_ok (C : Cmp prog w A E s kd D lt) {lo n : Nat} {st : SortSt} {Q : Option Nat → SortSt → Prop} (hn : 0 < n) (hsz : lo + n ≤ (arrOf st).size) (hD : ∀ x ∈ (arrOf st).toList, D x) (hk : kindOf st = kd)
    (h : ∀ m st', 1 ≤ m → m ≤ n → Kp lo n st st' → SrtS lt (arrOf st') lo m → Q (some m) st') : wpS (model prog w) A E s (countRun_ lo n) Q st := by
  have s1 : ∀ arr : Array Keyed, SrtS lt arr lo 1 := fun arr i j p q hij hj hp hq => by
    obtain rfl : i = 0 := by omega
    obtain rfl : j = 0 := by omega
    rw [hp] at hq; cases hq; exact C.wo.irr _
  refine wpS_bind (asc_loop C (lo := lo) (n := n) (a := 1) (st := st) (fun x m R h1 h2 hR => ?_) (Nat.le_refl _) hn hsz (s1 _) fun m hm1 hm2 g nx => ?_)
  · refine wpS_bind (ltAt_ok C (by omega) (by omega) hD hk fun p q hp hq => ?_)
    have := hR p q hp hq
    cases e : lt p q with
    | true => rw [e] at this; exact wpS_pure this
    | false => rw [e] at this; exact wpS_pure this
  refine wpS_if (c := (m == n)) (fun c1 => wpS_pure (h m st hm1 hm2 (Kp.refl _ _ _) g)) (fun c1 => ?_)
  have c1' := beq_no c1
  obtain ⟨pl, hpl⟩ := at_ok (show lo + m < (arrOf st).size by omega)
  obtain ⟨ql, hql⟩ := at_ok (show lo + m - 1 < (arrOf st).size by omega)
  have less := nx (by omega) pl ql hpl hql
  refine wpS_gt (k := m) (n := 1) (fun z => ?_) (fun z => ?_)
  · refine wpS_bind (ltAt_ok C (i := lo) (j := lo + m - 1) (by omega) (by omega) hD hk fun p q hp hq => ?_)
    cases e : lt p q with
    | true => exact wpS_pure (h m st hm1 hm2 (Kp.refl _ _ _) g)
    | false =>
      have eqs : EqS lt (arrOf st) lo (lo + m) := fun i j a b i1 i2 j1 j2 ha hb => by
        have ha' : (arrOf st)[lo + (i - lo)]? = some a := by rw [show lo + (i - lo) = i by omega]; exact ha
        have hb' : (arrOf st)[lo + (j - lo)]? = some b := by rw [show lo + (j - lo) = j by omega]; exact hb
        have l1 := g (i - lo) (m - 1) a q (by omega) (by omega) ha' (by rw [← hq]; congr 1; omega)
        have l2 := g 0 (j - lo) p b (by omega) (by omega) (by rw [Nat.add_zero]; exact hp) hb'
        have l3 := g 0 (i - lo) p a (by omega) (by omega) (by rw [Nat.add_zero]; exact hp) ha'
        have l4 := g (j - lo) (m - 1) b q (by omega) (by omega) hb' (by rw [← hq]; congr 1; omega)
        exact C.wo.leT l4 (C.wo.leT e l3)
      refine wpS_bind (rev_ok (i := lo) (j := lo + m) ?_)
      have k1 := kp_mirror (lo := lo) (n := n) (i := lo) (j := lo + m) (st := st) (Nat.le_refl _) (by omega) hsz
      have non0 : NonS lt (arrOf st) lo m := fun i j a b hij hj ha hb => eqs _ _ a b (by omega) (by omega) (by omega) (by omega) ha hb
      have non1 : NonS lt (arrOf (setArr st (mirror (arrOf st) lo (lo + m) ((lo + m - lo) / 2)))) lo (m + 1) := non_mirror (non_snoc C.wo non0 (by omega) hql hpl (C.wo.asym _ _ less)) eqs (Nat.le_refl _) (by omega) (by omega)
      generalize setArr st (mirror (arrOf st) lo (lo + m) ((lo + m - lo) / 2)) = st1 at k1 non1 ⊢
      refine wpS_bind (wpS_lift (wpAny_rule ⟨rfl, ?_⟩))
      refine wpS_bind (wpS_mono (wpS_forRange (a := m + 1) (b := n) (I := fun x c st' => ∃ neq, c = (none, x, neq) ∧ Kp lo n st st' ∧ NonS lt (arrOf st') lo x ∧ neq + 1 ≤ x ∧ EqS lt (arrOf st') (lo + x - (neq + 1)) (lo + x))
        (Q := fun c st' => ∃ x neq, c = (none, x, neq) ∧ m + 1 ≤ x ∧ x ≤ n ∧ Kp lo n st st' ∧ NonS lt (arrOf st') lo x ∧ neq + 1 ≤ x ∧ EqS lt (arrOf st') (lo + x - (neq + 1)) (lo + x)) ?_ ?_ ⟨0, rfl, k1, non1, by omega, eq_one C.wo _⟩) ?_)
      · rintro x c st2 hx1 hx2 ⟨neq, rfl, k2, g2, e1, e2⟩
        have z2 := k2.size
        have hD2 : ∀ y ∈ (arrOf st2).toList, D y := fun y hy => hD y (k2.perm.mem_iff.mp hy)
        have hk2 := k2.kind.trans hk
        refine wpS_bind (ltAt_ok C (i := lo + x) (j := lo + x - 1) (by omega) (by omega) hD2 hk2 fun p q hp hq => ?_)
        cases e : lt p q with
        | true =>
          have gs := non_snoc C.wo g2 (by omega) hq hp (C.wo.asym _ _ e)
          refine wpS_gt (k := neq) (n := 0) (fun z => ?_) (fun z => ?_)
          · refine wpS_bind (rev_ok (i := lo + x - (neq + 1)) (j := lo + x) ?_)
            exact wpS_pure ⟨0, rfl, k2.trans (kp_mirror (by omega) (by omega) (by omega)), non_mirror gs e2 (by omega) (by omega) (by omega), by omega, eq_one C.wo _⟩
          · exact wpS_pure ⟨0, rfl, k2, gs, by omega, eq_one C.wo _⟩
        | false =>
          refine wpS_bind (ltAt_ok C (i := lo + x - 1) (j := lo + x) (by omega) (by omega) hD2 hk2 fun q' p' hq' hp' => ?_)
          rw [hq] at hq'
          rw [hp] at hp'
          cases hq'; cases hp'
          cases e' : lt q p with
          | true => exact wpS_pure ⟨x, neq, rfl, hx1, by omega, k2, g2, e1, e2⟩
          | false =>
            refine wpS_pure ⟨neq + 1, rfl, k2, non_snoc C.wo g2 (by omega) hq hp e', by omega, ?_⟩
            have := eq_snoc C.wo e2 (by omega) hq hp e e'
            rw [show lo + (x + 1) - (neq + 1 + 1) = lo + x - (neq + 1) by omega]
            exact this
      · rintro c st2 ⟨neq, rfl, k2, g2, e1, e2⟩
        rw [show max (m + 1) n = n by omega] at g2 e1 e2 ⊢
        exact ⟨n, neq, rfl, by omega, Nat.le_refl _, k2, g2, e1, e2⟩
      · rintro c st2 ⟨x, neq, rfl, x1, x2, k2, g2, e1, e2⟩
        have z2 := k2.size
        refine wpS_gt (k := neq) (n := 0) (fun z => ?_) (fun z => ?_)
        · refine wpS_bind (rev_ok (i := lo + x - (neq + 1)) (j := lo + x) ?_)
          have k3 := k2.trans (kp_mirror (lo := lo) (n := n) (i := lo + x - (neq + 1)) (j := lo + x) (st := st2) (by omega) (by omega) (by omega))
          have g3 : NonS lt (arrOf (setArr st2 (mirror (arrOf st2) (lo + x - (neq + 1)) (lo + x) ((lo + x - (lo + x - (neq + 1))) / 2)))) lo x := non_mirror g2 e2 (by omega) (by omega) (by omega)
          generalize setArr st2 (mirror (arrOf st2) (lo + x - (neq + 1)) (lo + x) ((lo + x - (lo + x - (neq + 1))) / 2)) = st3 at k3 g3 ⊢
          refine wpS_bind (rev_ok (i := lo) (j := lo + x) ?_)
          have z3 := k3.size
          have k4 := k3.trans (kp_mirror (lo := lo) (n := n) (i := lo) (j := lo + x) (st := st3) (Nat.le_refl _) (by omega) (by omega))
          have g4 := srt_mirror g3 (by omega)
          refine wpS_bind (asc_loop C (lo := lo) (n := n) (a := x) (st := setArr st3 (mirror (arrOf st3) lo (lo + x) ((lo + x - lo) / 2))) (fun y m' R h1 h2 hR => ?_) (by omega) x2 (by rw [k4.size]; exact hsz) g4 fun m' a1 a2 g5 _ => wpS_pure (h m' _ (by omega) a2 k4 g5))
          refine wpS_bind (ltAt_ok C (by rw [k4.size]; omega) (by rw [k4.size]; omega) (fun y hy => hD y (k4.perm.mem_iff.mp hy)) (k4.kind.trans hk) fun p q hp hq => ?_)
          have := hR p q hp hq
          cases e : lt p q with
          | true => rw [e] at this; exact wpS_pure this
          | false => rw [e] at this; exact wpS_pure this

        · have k3 := k2
          have g3 := g2
          refine wpS_bind (rev_ok (i := lo) (j := lo + x) ?_)
          have z3 := k3.size
          have k4 := k3.trans (kp_mirror (lo := lo) (n := n) (i := lo) (j := lo + x) (st := st2) (Nat.le_refl _) (by omega) (by omega))
          have g4 := srt_mirror g3 (by omega)
          refine wpS_bind (asc_loop C (lo := lo) (n := n) (a := x) (st := setArr st2 (mirror (arrOf st2) lo (lo + x) ((lo + x - lo) / 2))) (fun y m' R h1 h2 hR => ?_) (by omega) x2 (by rw [k4.size]; exact hsz) g4 fun m' a1 a2 g5 _ => wpS_pure (h m' _ (by omega) a2 k4 g5))
          refine wpS_bind (ltAt_ok C (by rw [k4.size]; omega) (by rw [k4.size]; omega) (fun y hy => hD y (k4.perm.mem_iff.mp hy)) (k4.kind.trans hk) fun p q hp hq => ?_)
          have := hR p q hp hq
          cases e : lt p q with
          | true => rw [e] at this; exact wpS_pure this
          | false => rw [e] at this; exact wpS_pure this


  · obtain rfl : m = 1 := by omega
    have k1 := Kp.refl lo n st
    have non1 : NonS lt (arrOf st) lo (1 + 1) := non_snoc C.wo (fun i j a b hij hj ha hb => by
      obtain rfl : i = 0 := by omega
      obtain rfl : j = 0 := by omega
      rw [ha] at hb; cases hb; exact C.wo.irr _) (by omega) hql hpl (C.wo.asym _ _ less)
    refine wpS_bind (wpS_lift (wpAny_rule ⟨rfl, ?_⟩))
    refine wpS_bind (wpS_mono (wpS_forRange (a := 1 + 1) (b := n) (I := fun x c st' => ∃ neq, c = (none, x, neq) ∧ Kp lo n st st' ∧ NonS lt (arrOf st') lo x ∧ neq + 1 ≤ x ∧ EqS lt (arrOf st') (lo + x - (neq + 1)) (lo + x))
      (Q := fun c st' => ∃ x neq, c = (none, x, neq) ∧ 1 + 1 ≤ x ∧ x ≤ n ∧ Kp lo n st st' ∧ NonS lt (arrOf st') lo x ∧ neq + 1 ≤ x ∧ EqS lt (arrOf st') (lo + x - (neq + 1)) (lo + x)) ?_ ?_ ⟨0, rfl, k1, non1, by omega, eq_one C.wo _⟩) ?_)
    · rintro x c st2 hx1 hx2 ⟨neq, rfl, k2, g2, e1, e2⟩
      have z2 := k2.size
      have hD2 : ∀ y ∈ (arrOf st2).toList, D y := fun y hy => hD y (k2.perm.mem_iff.mp hy)
      have hk2 := k2.kind.trans hk
      refine wpS_bind (ltAt_ok C (i := lo + x) (j := lo + x - 1) (by omega) (by omega) hD2 hk2 fun p q hp hq => ?_)
      cases e : lt p q with
      | true =>
        have gs := non_snoc C.wo g2 (by omega) hq hp (C.wo.asym _ _ e)
        refine wpS_gt (k := neq) (n := 0) (fun z => ?_) (fun z => ?_)
        · refine wpS_bind (rev_ok (i := lo + x - (neq + 1)) (j := lo + x) ?_)
          exact wpS_pure ⟨0, rfl, k2.trans (kp_mirror (by omega) (by omega) (by omega)), non_mirror gs e2 (by omega) (by omega) (by omega), by omega, eq_one C.wo _⟩
        · exact wpS_pure ⟨0, rfl, k2, gs, by omega, eq_one C.wo _⟩
      | false =>
        refine wpS_bind (ltAt_ok C (i := lo + x - 1) (j := lo + x) (by omega) (by omega) hD2 hk2 fun q' p' hq' hp' => ?_)
        rw [hq] at hq'
        rw [hp] at hp'
        cases hq'; cases hp'
        cases e' : lt q p with
        | true => exact wpS_pure ⟨x, neq, rfl, hx1, by omega, k2, g2, e1, e2⟩
        | false =>
          refine wpS_pure ⟨neq + 1, rfl, k2, non_snoc C.wo g2 (by omega) hq hp e', by omega, ?_⟩
          have := eq_snoc C.wo e2 (by omega) hq hp e e'
          rw [show lo + (x + 1) - (neq + 1 + 1) = lo + x - (neq + 1) by omega]
          exact this
    · rintro c st2 ⟨neq, rfl, k2, g2, e1, e2⟩
      rw [show max (1 + 1) n = n by omega] at g2 e1 e2 ⊢
      exact ⟨n, neq, rfl, by omega, Nat.le_refl _, k2, g2, e1, e2⟩
    · rintro c st2 ⟨x, neq, rfl, x1, x2, k2, g2, e1, e2⟩
      have z2 := k2.size
      refine wpS_gt (k := neq) (n := 0) (fun z => ?_) (fun z => ?_)
      · refine wpS_bind (rev_ok (i := lo + x - (neq + 1)) (j := lo + x) ?_)
        have k3 := k2.trans (kp_mirror (lo := lo) (n := n) (i := lo + x - (neq + 1)) (j := lo + x) (st := st2) (by omega) (by omega) (by omega))
        have g3 : NonS lt (arrOf (setArr st2 (mirror (arrOf st2) (lo + x - (neq + 1)) (lo + x) ((lo + x - (lo + x - (neq + 1))) / 2)))) lo x := non_mirror g2 e2 (by omega) (by omega) (by omega)
        generalize setArr st2 (mirror (arrOf st2) (lo + x - (neq + 1)) (lo + x) ((lo + x - (lo + x - (neq + 1))) / 2)) = st3 at k3 g3 ⊢
        refine wpS_bind (rev_ok (i := lo) (j := lo + x) ?_)
        have z3 := k3.size
        have k4 := k3.trans (kp_mirror (lo := lo) (n := n) (i := lo) (j := lo + x) (st := st3) (Nat.le_refl _) (by omega) (by omega))
        have g4 := srt_mirror g3 (by omega)
        refine wpS_bind (asc_loop C (lo := lo) (n := n) (a := x) (st := setArr st3 (mirror (arrOf st3) lo (lo + x) ((lo + x - lo) / 2))) (fun y m' R h1 h2 hR => ?_) (by omega) x2 (by rw [k4.size]; exact hsz) g4 fun m' a1 a2 g5 _ => wpS_pure (h m' _ (by omega) a2 k4 g5))
        refine wpS_bind (ltAt_ok C (by rw [k4.size]; omega) (by rw [k4.size]; omega) (fun y hy => hD y (k4.perm.mem_iff.mp hy)) (k4.kind.trans hk) fun p q hp hq => ?_)
        have := hR p q hp hq
        cases e : lt p q with
        | true => rw [e] at this; exact wpS_pure this
        | false => rw [e] at this; exact wpS_pure this

      · have k3 := k2
        have g3 := g2
        refine wpS_bind (rev_ok (i := lo) (j := lo + x) ?_)
        have z3 := k3.size
        have k4 := k3.trans (kp_mirror (lo := lo) (n := n) (i := lo) (j := lo + x) (st := st2) (Nat.le_refl _) (by omega) (by omega))
        have g4 := srt_mirror g3 (by omega)
        refine wpS_bind (asc_loop C (lo := lo) (n := n) (a := x) (st := setArr st2 (mirror (arrOf st2) lo (lo + x) ((lo + x - lo) / 2))) (fun y m' R h1 h2 hR => ?_) (by omega) x2 (by rw [k4.size]; exact hsz) g4 fun m' a1 a2 g5 _ => wpS_pure (h m' _ (by omega) a2 k4 g5))
        refine wpS_bind (ltAt_ok C (by rw [k4.size]; omega) (by rw [k4.size]; omega) (fun y hy => hD y (k4.perm.mem_iff.mp hy)) (k4.kind.trans hk) fun p q hp hq => ?_)
        have := hR p q hp hq
        cases e : lt p q with
        | true => rw [e] at this; exact wpS_pure this
        | false => rw [e] at this; exact wpS_pure this


end
end L2

namespace L2
open PySem PySem.Spec PyProof.Rows
section
variable {prog : Program} {w : World} {A : Around} {E : Value → Shared → Prop} {s : Shared} {kd : SortKind} {D : Keyed → Prop} {lt : Keyed → Keyed → Bool}
theorem move_ok {M : Model} {i j : Nat} {st : SortSt} {Q : Unit → SortSt → Prop} (h : Q () (setArr st (bubble (arrOf st) i (i - j)))) : wpS M A E s (moveDown' i j) Q st := by
  rw [moveDown'_eq]; exact wpS_modify h
theorem binarySort_ok (C : Cmp prog w A E s kd D lt) {lo n ok : Nat} {st : SortSt} {Q : Bool → SortSt → Prop} (h1 : 1 ≤ ok) (hok : ok ≤ n) (hsz : lo + n ≤ (arrOf st).size) (hD : ∀ x ∈ (arrOf st).toList, D x) (hk : kindOf st = kd) (hs : SrtS lt (arrOf st) lo ok)
    (h : ∀ st', Kp lo n st st' → SrtS lt (arrOf st') lo n → Q true st') : wpS (model prog w) A E s (binarySort_ lo n ok) Q st := by
  refine wpS_bind (wpS_mono (wpS_forRange (a := max ok 1) (b := n) (I := fun k c st' => c = (none, ()) ∧ Kp lo n st st' ∧ SrtS lt (arrOf st') lo k) (Q := fun c st' => c = (none, ()) ∧ Kp lo n st st' ∧ SrtS lt (arrOf st') lo n) ?_ ?_ ⟨rfl, Kp.refl _ _ _, by rw [show max ok 1 = ok by omega]; exact hs⟩) ?_)
  · rintro k c st1 hk1 hk2 ⟨rfl, kp, g⟩
    have z1 := kp.size
    obtain ⟨e, he⟩ := at_ok (show lo + k < (arrOf st1).size by omega)
    refine wpS_bind (wpS_mono (wpS_forRange (a := 0) (b := k) (I := fun x c st' => st' = st1 ∧ ∃ l r, c = (none, l, r) ∧ l ≤ r ∧ r ≤ k ∧ r - l ≤ k - x ∧ (∀ i p, i < l → (arrOf st1)[lo + i]? = some p → lt e p = false) ∧ ∀ i p, r ≤ i → i < k → (arrOf st1)[lo + i]? = some p → lt e p = true)
      (Q := fun c st' => st' = st1 ∧ ∃ l r, c = (none, l, r) ∧ l ≤ k ∧ (∀ i p, i < l → (arrOf st1)[lo + i]? = some p → lt e p = false) ∧ ∀ i p, l ≤ i → i < k → (arrOf st1)[lo + i]? = some p → lt e p = true) ?_ ?_ ⟨rfl, 0, k, rfl, by omega, by omega, by omega, fun i p hi => by omega, fun i p h1 h2 => by omega⟩) ?_)
    · rintro x c st' _ hx ⟨rfl, l, r, rfl, g1, g2, g3, g4, g5⟩
      dsimp only
      by_cases hge : l ≥ r
      · rw [if_pos hge]
        obtain rfl : l = r := by omega
        exact wpS_pure ⟨rfl, l, l, rfl, g2, g4, g5⟩
      · rw [if_neg hge]
        refine wpS_bind (ltAt_ok C (i := lo + k) (j := lo + (l + r) / 2) (by omega) (by omega) (fun y hy => hD y (kp.perm.mem_iff.mp hy)) (kp.kind.trans hk) fun p q hp hq => ?_)
        rw [he] at hp
        cases hp
        cases c : lt e q with
        | true =>
          refine wpS_pure ⟨rfl, l, (l + r) / 2, rfl, by omega, by omega, by omega, g4, fun i p i1 i2 hp => ?_⟩
          rcases C.wo.neg e p q c with z | z
          · exact z
          · rw [g ((l + r) / 2) i q p i1 i2 hq hp] at z; cases z
        | false =>
          refine wpS_pure ⟨rfl, (l + r) / 2 + 1, r, rfl, by omega, by omega, by omega, fun i p i1 hp => ?_, g5⟩
          exact C.wo.leT (g i ((l + r) / 2) p q (by omega) (by omega) hp hq) c
    · rintro c st' ⟨rfl, l, r, rfl, g1, g2, g3, g4, g5⟩
      obtain rfl : l = r := by omega
      exact ⟨rfl, l, l, rfl, g2, g4, g5⟩
    · rintro c st' ⟨rfl, l, r, rfl, g2, g4, g5⟩
      refine wpS_bind (move_ok (i := lo + k) (j := lo + l) ?_)
      have sz : lo + k < (arrOf st').size := by omega
      refine wpS_pure ⟨rfl, kp.trans ⟨rfl, rfl, rfl, Array.perm_iff_toList_perm.mp (bubble_perm _ _ _), fun i hi => ?_⟩, fun i j p q hij hj hp hq => ?_⟩
      · show (bubble (arrOf st') (lo + k) (lo + k - (lo + l)))[i]? = _
        rw [getElem?_bubble sz _ (by omega), if_neg (by omega), if_neg (by omega)]
      · rw [show arrOf (setArr st' (bubble (arrOf st') (lo + k) (lo + k - (lo + l)))) = bubble (arrOf st') (lo + k) (lo + k - (lo + l)) from rfl, getElem?_bubble sz _ (by omega)] at hp hq
        rw [show lo + k - (lo + k - (lo + l)) = lo + l by omega] at hp hq
        by_cases ci : i = l <;> by_cases cj : j = l
        · subst ci; subst cj
          rw [if_pos rfl] at hp hq
          rw [hp] at hq; cases hq; exact C.wo.irr _
        · subst ci
          rw [if_pos rfl, he] at hp
          cases hp
          rw [if_neg (by omega), if_pos (by omega)] at hq
          exact C.wo.asym _ _ (g5 (j - 1) q (by omega) (by omega) (by rw [← hq]; congr 1; omega))
        · subst cj
          rw [if_neg (by omega), if_neg (by omega)] at hp
          rw [if_pos rfl, he] at hq
          cases hq
          exact g4 i p (by omega) hp
        · rw [if_neg (by omega)] at hp hq
          by_cases di : i < l <;> by_cases dj : j < l
          · rw [if_neg (by omega)] at hp hq
            exact g i j p q hij (by omega) hp hq
          · rw [if_neg (by omega)] at hp
            rw [if_pos (by omega)] at hq
            exact g i (j - 1) p q (by omega) (by omega) hp (by rw [← hq]; congr 1; omega)
          · omega
          · rw [if_pos (by omega)] at hp hq
            exact g (i - 1) (j - 1) p q (by omega) (by omega) (by rw [← hp]; congr 1; omega) (by rw [← hq]; congr 1; omega)
  · rintro c st1 ⟨rfl, kp, g⟩
    rw [show max (max ok 1) n = n by omega] at g
    exact ⟨rfl, kp, g⟩
  · rintro c st1 ⟨rfl, kp, g⟩
    exact wpS_pure (h st1 kp g)
/-- the runs that are waiting to be merged -/
def PendOk (p : List (Nat × Nat × Nat)) (rs : List (List Keyed)) : Prop := p.length = rs.length ∧ ∀ i r, rs[i]? = some r → ∃ pw, p[i]? = some ((rs.take i).flatten.length, r.length, pw)
theorem pend_nil : PendOk [] [] := ⟨rfl, fun i r h => by simp at h⟩
theorem pend_push {p : List (Nat × Nat × Nat)} {rs : List (List Keyed)} (h : PendOk p rs) (r : List Keyed) (pw : Nat) : PendOk (p ++ [(rs.flatten.length, r.length, pw)]) (rs ++ [r]) := by
  refine ⟨by simp [h.1], fun i x hx => ?_⟩
  by_cases c : i < rs.length
  · rw [List.getElem?_append_left c] at hx
    obtain ⟨q, hq⟩ := h.2 i x hx
    exact ⟨q, by rw [List.getElem?_append_left (by rw [h.1]; exact c), hq, List.take_append_of_le_length (by omega)]⟩
  · have hi : i = rs.length := by
      have := (List.getElem?_eq_some_iff.mp hx).1
      rw [List.length_append, List.length_singleton] at this
      omega
    subst hi
    rw [List.getElem?_append_right (Nat.le_refl _), Nat.sub_self] at hx
    simp at hx
    subst hx
    refine ⟨pw, ?_⟩
    rw [← h.1, List.getElem?_append_right (Nat.le_refl _), Nat.sub_self, h.1, List.take_append_of_le_length (Nat.le_refl _), List.take_of_length_le (Nat.le_refl _)]
    rfl
theorem pend_pow {p : List (Nat × Nat × Nat)} {rs : List (List Keyed)} (h : PendOk p rs) (k : Nat) (f : Nat × Nat × Nat → Nat × Nat × Nat) (hf : ∀ a b c, ∃ d, f (a, b, c) = (a, b, d)) : PendOk (p.modify k f) rs := by
  refine ⟨by rw [List.length_modify]; exact h.1, fun i x hx => ?_⟩
  obtain ⟨q, hq⟩ := h.2 i x hx
  rw [List.getElem?_modify, hq]
  by_cases c : k = i
  · obtain ⟨d, hd⟩ := hf (rs.take i).flatten.length x.length q
    exact ⟨d, by rw [Option.map_eq_map, Option.map_some, if_pos c, hd]⟩
  · exact ⟨q, by simp [c]⟩
theorem pend_merge {p : List (Nat × Nat × Nat)} {U B : List (List Keyed)} {X Y Z : List Keyed} {pw : Nat} (h : PendOk p (U ++ (X :: Y :: B))) (hz : Z.length = X.length + Y.length) : PendOk ((p.set U.length (U.flatten.length, X.length + Y.length, pw)).eraseIdx (U.length + 1)) (U ++ (Z :: B)) := by
  have hl := h.1
  simp only [List.length_append, List.length_cons] at hl
  refine ⟨by rw [List.length_eraseIdx_of_lt (by rw [List.length_set]; omega), List.length_set]; simp only [List.length_append, List.length_cons]; omega, fun i x hx => ?_⟩
  rw [List.getElem?_eraseIdx]
  by_cases c1 : i < U.length
  · rw [if_pos (by omega), List.getElem?_set_ne (by omega)]
    rw [List.getElem?_append_left c1] at hx
    obtain ⟨q, hq⟩ := h.2 i x (by rw [List.getElem?_append_left c1]; exact hx)
    refine ⟨q, ?_⟩
    rw [hq, List.take_append_of_le_length (by omega), List.take_append_of_le_length (by omega)]
  · by_cases c2 : i = U.length
    · subst c2
      rw [List.getElem?_append_right (Nat.le_refl _), Nat.sub_self] at hx
      simp at hx
      subst hx
      refine ⟨pw, ?_⟩
      rw [if_pos (by omega), List.getElem?_set_self (by omega), hz, List.take_append_of_le_length (Nat.le_refl _), List.take_of_length_le (Nat.le_refl _)]
    · rw [if_neg (by omega), List.getElem?_set_ne (by omega)]
      obtain ⟨j, rfl⟩ : ∃ j, i = U.length + (j + 1) := ⟨i - U.length - 1, by omega⟩
      rw [List.getElem?_append_right (by omega), Nat.add_sub_cancel_left, List.getElem?_cons_succ] at hx
      obtain ⟨q, hq⟩ := h.2 (U.length + (j + 1 + 1)) x (by
        rw [List.getElem?_append_right (by omega), Nat.add_sub_cancel_left, List.getElem?_cons_succ, List.getElem?_cons_succ]
        exact hx)
      refine ⟨q, ?_⟩
      rw [show U.length + (j + 1) + 1 = U.length + (j + 1 + 1) by omega, hq]
      congr 2
      rw [List.take_append, List.take_append, List.take_of_length_le (l := U) (by omega), List.take_of_length_le (l := U) (by omega), Nat.add_sub_cancel_left, Nat.add_sub_cancel_left]
      simp only [List.take_succ_cons, List.flatten_append, List.flatten_cons, List.length_append]
      omega
end
end L2

namespace L2
open PySem PySem.Spec PyProof.Rows
section
variable {prog : Program} {w : World} {A : Around} {E : Value → Shared → Prop} {s : Shared} {kd : SortKind} {D : Keyed → Prop} {lt : Keyed → Keyed → Bool}
/-- runs waiting, behind which S stands -/
structure Rn (lt : Keyed → Keyed → Bool) (kd : SortKind) (l₀ : List Keyed) (rs : List (List Keyed)) (S : List Keyed) (st : SortSt) : Prop where
  arr : (arrOf st).toList = rs.flatten ++ S
  srt : ∀ r ∈ rs, Srt lt r ∧ 0 < r.length
  pend : PendOk (pendingOf st).toList rs
  perm : (arrOf st).toList.Perm l₀
  kind : kindOf st = kd
  fail : failedOf st = none
theorem Rn.cut {l₀ : List Keyed} {rs : List (List Keyed)} {S : List Keyed} {st : SortSt} (R : Rn lt kd l₀ rs S st) {i : Nat} (hi : i + 1 < rs.length) : ∃ U X Y B, rs = U ++ (X :: Y :: B) ∧ U.length = i := by
  refine ⟨rs.take i, rs[i], rs[i + 1], rs.drop (i + 2), ?_, by rw [List.length_take]; omega⟩
  conv => lhs; rw [← List.take_append_drop i rs, List.drop_eq_getElem_cons (by omega), List.drop_eq_getElem_cons (by omega)]
theorem mergeRn (C : Cmp prog w A E s kd D lt) {l₀ : List Keyed} {rs : List (List Keyed)} {S : List Keyed} {st : SortSt} {i : Nat} {Q : Bool → SortSt → Prop} (R : Rn lt kd l₀ rs S st) (hD : ∀ x ∈ l₀, D x) (hi : i + 1 < rs.length)
    (h : ∀ rs' st', Rn lt kd l₀ rs' S st' → rs'.length + 1 = rs.length → rs'.flatten.length = rs.flatten.length → Q true st') : wpS (model prog w) A E s (mergeAt_ i) Q st := by
  obtain ⟨U, X, Y, B, rfl, rfl⟩ := R.cut hi
  obtain ⟨p1, e1⟩ := R.pend.2 U.length X (by rw [List.getElem?_append_right (Nat.le_refl _), Nat.sub_self]; rfl)
  obtain ⟨p2, e2⟩ := R.pend.2 (U.length + 1) Y (by rw [List.getElem?_append_right (by omega), Nat.add_sub_cancel_left]; rfl)
  rw [List.take_append_of_le_length (Nat.le_refl _), List.take_of_length_le (Nat.le_refl _), Array.getElem?_toList] at e1
  rw [List.take_append, List.take_of_length_le (by omega), Nat.add_sub_cancel_left, List.take_succ_cons, List.take_zero, Array.getElem?_toList] at e2
  simp only [List.flatten_append, List.flatten_cons, List.flatten_nil, List.append_nil, List.length_append] at e2
  have hX := R.srt X (by simp)
  have hY := R.srt Y (by simp)
  refine mergeAt_ok C (P := U.flatten) (X := X) (Y := Y) (S := B.flatten ++ S) e1 e2 (by rw [R.arr]; simp only [List.flatten_append, List.flatten_cons, List.append_assoc]) rfl rfl rfl rfl hX.2 hY.2 hX.1 hY.1 (fun x hx => hD x (R.perm.mem_iff.mp hx)) R.kind R.fail fun Z st' sZ pZ aZ pe kz fz => ?_
  have lz : Z.length = X.length + Y.length := by rw [pZ.length_eq, List.length_append]
  refine h (U ++ (Z :: B)) st' ⟨?_, fun r hr => ?_, ?_, ?_, kz, fz⟩ ?_ ?_
  · rw [aZ]; simp only [List.flatten_append, List.flatten_cons, List.append_assoc]
  · rcases List.mem_append.mp hr with z | z
    · exact R.srt r (List.mem_append_left _ z)
    · rcases List.mem_cons.mp z with rfl | z
      · exact ⟨sZ, by omega⟩
      · exact R.srt r (by simp [z])
  · rw [pe, Array.toList_eraseIdxIfInBounds, Array.toList_setIfInBounds]
    exact pend_merge R.pend lz
  · refine List.Perm.trans ?_ R.perm
    rw [aZ, R.arr]
    simp only [List.flatten_append, List.flatten_cons, List.append_assoc]
    refine List.Perm.append_left _ ?_
    rw [← List.append_assoc X]
    exact pZ.append_right _
  · simp
    omega
  · simp only [List.flatten_append, List.flatten_cons, List.length_append]
    omega
theorem Rn.low {l₀ : List Keyed} {rs : List (List Keyed)} {S : List Keyed} {st : SortSt} (R : Rn lt kd l₀ rs S st) : rs.length ≤ rs.flatten.length := by
  have : ∀ rs : List (List Keyed), (∀ r ∈ rs, 0 < r.length) → rs.length ≤ rs.flatten.length := by
    intro rs
    induction rs with
    | nil => intro _; exact Nat.le_refl _
    | cons r rs ih =>
      intro hr
      have h1 := hr r List.mem_cons_self
      have h2 := ih fun x hx => hr x (List.mem_cons_of_mem _ hx)
      rw [List.length_cons, List.flatten_cons, List.length_append]
      omega
  exact this rs fun r hr => (R.srt r hr).2
/-- what stands behind the runs is put in another order -/
theorem Rn.put {l₀ : List Keyed} {rs : List (List Keyed)} {S : List Keyed} {st st' : SortSt} {n : Nat} (R : Rn lt kd l₀ rs S st) (k : Kp rs.flatten.length n st st') : ∃ S', Rn lt kd l₀ rs S' st' ∧ S'.length = S.length := by
  have hlen : (arrOf st').toList.length = (arrOf st).toList.length := k.perm.length_eq
  have et : (arrOf st').toList.take rs.flatten.length = rs.flatten := by
    have e0 : (arrOf st).toList.take rs.flatten.length = rs.flatten := by rw [R.arr, List.take_append_of_le_length (Nat.le_refl _), List.take_of_length_le (Nat.le_refl _)]
    rw [← e0]
    refine List.ext_getElem? fun i => ?_
    by_cases c : i < rs.flatten.length
    · rw [List.getElem?_take_of_lt (by rw [e0]; exact c), List.getElem?_take_of_lt c, Array.getElem?_toList, Array.getElem?_toList]
      exact k.out i (.inl c)
    · rw [List.getElem?_eq_none (by rw [List.length_take, e0]; omega), List.getElem?_eq_none (by rw [List.length_take]; omega)]
  refine ⟨(arrOf st').toList.drop rs.flatten.length, ⟨?_, R.srt, by rw [k.pend]; exact R.pend, k.perm.trans R.perm, k.kind.trans R.kind, k.fail.trans R.fail⟩, ?_⟩
  · conv => lhs; rw [← List.take_append_drop rs.flatten.length (arrOf st').toList, et]
  · rw [List.length_drop, hlen, R.arr, List.length_append]; omega
theorem Rn.seg {l₀ : List Keyed} {rs : List (List Keyed)} {S : List Keyed} {st : SortSt} (C : Wo lt) (R : Rn lt kd l₀ rs S st) {n : Nat} (hn : n ≤ S.length) (h : SrtS lt (arrOf st) rs.flatten.length n) : Srt lt (S.take n) := by
  refine List.pairwise_iff_getElem.mpr fun i j hi hj hij => ?_
  rw [List.length_take] at hi hj
  have at_ : ∀ k (hk : k < S.length), (arrOf st)[rs.flatten.length + k]? = some S[k] := fun k hk => by
    rw [← Array.getElem?_toList, R.arr, List.getElem?_append_right (by omega), Nat.add_sub_cancel_left, List.getElem?_eq_getElem hk]
  rw [List.getElem_take, List.getElem_take]
  exact h i j _ _ (by omega) (by omega) (at_ i (by omega)) (at_ j (by omega))
theorem Rn.more {l₀ : List Keyed} {rs : List (List Keyed)} {S : List Keyed} {st : SortSt} (R : Rn lt kd l₀ rs S st) {n : Nat} (h0 : 0 < n) (hn : n ≤ S.length) (h : Srt lt (S.take n)) {g : Nat} {pw : Nat} :
    Rn lt kd l₀ (rs ++ [S.take n]) (S.drop n) (SortSt.mk' (kindOf st) (arrOf st) ((pendingOf st).push (rs.flatten.length, n, pw)) g (failedOf st)) := by
  refine ⟨?_, fun r hr => ?_, ?_, R.perm, R.kind, R.fail⟩
  · show (arrOf st).toList = _
    rw [R.arr]
    simp only [List.flatten_append, List.flatten_cons, List.flatten_nil, List.append_nil, List.append_assoc, List.take_append_drop]
  · rcases List.mem_append.mp hr with z | z
    · exact R.srt r z
    · rw [List.mem_singleton.mp z]
      exact ⟨h, by rw [List.length_take]; omega⟩
  · show PendOk ((pendingOf st).push _).toList _
    rw [Array.toList_push]
    have := pend_push R.pend (S.take n) pw
    rw [show (S.take n).length = n by rw [List.length_take]; omega] at this
    exact this
theorem ite_pred {c : Bool} {k : Nat} : (if c = true then k - 1 else k) ≤ k := by split <;> omega
theorem Rn.pow {l₀ : List Keyed} {rs : List (List Keyed)} {S : List Keyed} {st : SortSt} (R : Rn lt kd l₀ rs S st) {k g : Nat} {f : Nat × Nat × Nat → Nat × Nat × Nat} (hf : ∀ a b c, ∃ d, f (a, b, c) = (a, b, d)) :
    Rn lt kd l₀ rs S (SortSt.mk' (kindOf st) (arrOf st) ((pendingOf st).modify k f) g (failedOf st)) := by
  refine ⟨R.arr, R.srt, ?_, R.perm, R.kind, R.fail⟩
  show PendOk ((pendingOf st).modify k f).toList rs
  rw [Array.toList_modify]
  exact pend_pow R.pend k f hf
theorem wpS_le {β : Type} {M : Model} {st : SortSt} {Q : β → SortSt → Prop} {k n : Nat} {X Y : StateT SortSt Sem β} (h1 : k ≤ n → wpS M A E s X Q st) (h2 : n < k → wpS M A E s Y Q st) : wpS M A E s (if k ≤ n then X else Y) Q st := by
  by_cases h : k ≤ n
  · rw [if_pos h]; exact h1 h
  · rw [if_neg h]; exact h2 (by omega)
theorem wpS_lt {β : Type} {M : Model} {st : SortSt} {Q : β → SortSt → Prop} {k n : Nat} {X Y : StateT SortSt Sem β} (h1 : k < n → wpS M A E s X Q st) (h2 : n ≤ k → wpS M A E s Y Q st) : wpS M A E s (if k < n then X else Y) Q st := by
  by_cases h : k < n
  · rw [if_pos h]; exact h1 h
  · rw [if_neg h]; exact h2 (by omega)
theorem sortRuns_ok (C : Cmp prog w A E s kd D lt) {st : SortSt} {Q : Unit → SortSt → Prop} (hD : ∀ x ∈ (arrOf st).toList, D x) (hk : kindOf st = kd) (hf : failedOf st = none) (hp : pendingOf st = #[])
    (h : ∀ st', (arrOf st').toList.Perm (arrOf st).toList → Srt lt (arrOf st').toList → failedOf st' = none → Q () st') : wpS (model prog w) A E s sortRuns_ Q st := by
  have zs : (arrOf st).size = (arrOf st).toList.length := by simp
  have R0 : Rn lt kd (arrOf st).toList [] (arrOf st).toList st := ⟨rfl, fun r hr => (by cases hr), by rw [hp]; exact pend_nil, .refl _, hk, hf⟩
  refine wpS_bind (wpS_get ?_)
  refine wpS_bind (wpS_mono (wpS_forRange (a := 0) (b := (arrOf st).size) (I := fun x c st' => ∃ rs S, c = (none, rs.flatten.length) ∧ Rn lt kd (arrOf st).toList rs S st' ∧ (x ≤ rs.flatten.length ∨ S = []))
    (Q := fun c st' => ∃ rs, c.1 = none ∧ Rn lt kd (arrOf st).toList rs [] st') ?_ ?_ ⟨[], _, rfl, R0, .inl (Nat.zero_le _)⟩) ?_)
  · rintro x c st1 _ hx ⟨rs, S, rfl, R, pr⟩
    have ln : rs.flatten.length + S.length = (arrOf st).size := by
      have := R.perm.length_eq
      rw [R.arr, List.length_append] at this
      omega
    have z1 : (arrOf st1).size = (arrOf st).size := by
      have := R.perm.length_eq
      simpa using this
    by_cases c0 : rs.flatten.length ≥ (arrOf st).size
    · show wpS _ _ _ _ (if rs.flatten.length ≥ (arrOf st).size then _ else _) _ _
      rw [if_pos c0]
      obtain rfl : S = [] := List.length_eq_zero_iff.mp (by omega)
      exact wpS_pure ⟨rs, rfl, R⟩
    · show wpS _ _ _ _ (if rs.flatten.length ≥ (arrOf st).size then _ else _) _ _
      rw [if_neg c0]
      refine wpS_bind (countRun_ok C (lo := rs.flatten.length) (n := (arrOf st).size - rs.flatten.length) (by omega) (by omega) (fun y hy => hD y (R.perm.mem_iff.mp hy)) R.kind fun m st2 m1 m2 kp sm => ?_)
      obtain ⟨S2, R2, l2⟩ := R.put kp
      have sz2 : m ≤ S2.length := by omega
      have z2 : (arrOf st2).size = (arrOf st).size := by rw [kp.size, z1]
      have prx : x ≤ rs.flatten.length := by
        rcases pr with z | z
        · exact z
        · have := congrArg List.length z
          rw [List.length_nil] at this
          omega
      show wpS _ _ _ _ (if m < (sortPriv% PySem.Builtin.minRun) (arrOf st).size (arrOf st).size 0 then _ else _) _ _
      generalize (sortPriv% PySem.Builtin.minRun) (arrOf st).size (arrOf st).size 0 = mr
      refine wpS_lt (fun c1 => ?_) (fun c1 => ?_)
      · refine wpS_bind (wpS_lift (wpAny_rule ⟨rfl, ?_⟩))
        refine wpS_bind (binarySort_ok C (lo := rs.flatten.length) (n := min ((arrOf st).size - rs.flatten.length) mr) (ok := m) m1 (by omega) (by omega) (fun y hy => hD y (R2.perm.mem_iff.mp hy)) R2.kind sm fun st3 kp3 sm3 => ?_)
        obtain ⟨S3, R3, l3⟩ := R2.put kp3
        have hn0 : 0 < min ((arrOf st).size - rs.flatten.length) mr := by omega
        have hn1 : min ((arrOf st).size - rs.flatten.length) mr ≤ S3.length := by omega
        have hs := R3.seg C.wo hn1 sm3
        refine wpS_bind (wpS_get ?_)
        generalize hbk : (pendingOf st3).back? = bk
        cases bk with
        | none =>
          have l5 : rs.flatten.length = rs.flatten.length := rfl
          refine wpS_bind (wpS_modify ?_)
          have R6 := R3.more (pw := 0) (g := gallopOf (st3)) hn0 hn1 hs
          rw [l5] at R6
          refine wpS_pure ⟨rs ++ [S3.take (min ((arrOf st).size - rs.flatten.length) mr)], S3.drop (min ((arrOf st).size - rs.flatten.length) mr), ?_, R6, .inl ?_⟩
          · show ((none : Option Unit), rs.flatten.length + (min ((arrOf st).size - rs.flatten.length) mr)) = _
            congr 1
            simp only [List.flatten_append, List.flatten_cons, List.flatten_nil, List.append_nil, List.length_append, List.length_take]
            omega
          · simp only [List.flatten_append, List.flatten_cons, List.flatten_nil, List.append_nil, List.length_append, List.length_take]
            omega

        | some t =>
          obtain ⟨s1, n1, w1⟩ := t
          refine wpS_bind (wpS_mono (wpS_forRange (a := 0) (b := (arrOf st).size) (I := fun _ c st' => c = (none, ()) ∧ ∃ rs', Rn lt kd (arrOf st).toList rs' S3 st' ∧ rs'.flatten.length = rs.flatten.length) (Q := fun c st' => c = (none, ()) ∧ ∃ rs', Rn lt kd (arrOf st).toList rs' S3 st' ∧ rs'.flatten.length = rs.flatten.length) ?_ (fun _ _ z => z) ⟨rfl, rs, R3, rfl⟩) ?_)
          · rintro y c st4 _ _ ⟨rfl, rs', R4, l4⟩
            have pl : (pendingOf st4).size = rs'.length := by rw [← R4.pend.1]; simp
            refine wpS_bind (wpS_get ?_)
            show wpS _ _ _ _ (match (if (pendingOf st4).size > 1 then (pendingOf st4)[(pendingOf st4).size - 2]? else none) with | some (_, _, older) => _ | x => _) _ _
            by_cases hp1 : (pendingOf st4).size > 1
            · rw [if_pos hp1]
              obtain ⟨t, ht⟩ : ∃ t, (pendingOf st4)[(pendingOf st4).size - 2]? = some t := ⟨_, getElem?_pos _ _ (by omega)⟩
              rw [ht]
              obtain ⟨a1, a2, older⟩ := t
              refine wpS_le (fun _ => wpS_pure ⟨rfl, rs', R4, l4⟩) (fun _ => ?_)
              refine wpS_bind (mergeRn C R4 hD (i := (pendingOf st4).size - 2) (by omega) fun rs'' st5 R5 a5 b5 => ?_)
              exact wpS_pure ⟨rfl, rs'', R5, by omega⟩
            · rw [if_neg hp1]
              exact wpS_pure ⟨rfl, rs', R4, l4⟩
          · rintro c st4 ⟨rfl, rs', R4, l5⟩
            refine wpS_bind (wpS_modify ?_)
            have R5 := R4.pow (k := (pendingOf st4).size - 1) (f := fun x => match x with | (u, len, _) => (u, len, (sortPriv% PySem.Builtin.power) (arrOf st).size (2 * s1 + n1) (2 * s1 + n1 + n1 + (min ((arrOf st).size - rs.flatten.length) mr)) (arrOf st).size)) (g := gallopOf st4) fun a b c => ⟨_, rfl⟩
            refine wpS_bind (wpS_modify ?_)
            have R6 := R5.more (pw := 0) (g := gallopOf (st4)) hn0 hn1 hs
            rw [l5] at R6
            refine wpS_pure ⟨rs' ++ [S3.take (min ((arrOf st).size - rs.flatten.length) mr)], S3.drop (min ((arrOf st).size - rs.flatten.length) mr), ?_, R6, .inl ?_⟩
            · show ((none : Option Unit), rs.flatten.length + (min ((arrOf st).size - rs.flatten.length) mr)) = _
              congr 1
              simp only [List.flatten_append, List.flatten_cons, List.flatten_nil, List.append_nil, List.length_append, List.length_take]
              omega
            · simp only [List.flatten_append, List.flatten_cons, List.flatten_nil, List.append_nil, List.length_append, List.length_take]
              omega


      · have hs := R2.seg C.wo sz2 sm
        have hn0 : 0 < m := by omega
        refine wpS_bind (wpS_get ?_)
        generalize hbk : (pendingOf st2).back? = bk
        cases bk with
        | none =>
          have l5 : rs.flatten.length = rs.flatten.length := rfl
          refine wpS_bind (wpS_modify ?_)
          have R6 := R2.more (pw := 0) (g := gallopOf (st2)) hn0 sz2 hs
          rw [l5] at R6
          refine wpS_pure ⟨rs ++ [S2.take (m)], S2.drop (m), ?_, R6, .inl ?_⟩
          · show ((none : Option Unit), rs.flatten.length + (m)) = _
            congr 1
            simp only [List.flatten_append, List.flatten_cons, List.flatten_nil, List.append_nil, List.length_append, List.length_take]
            omega
          · simp only [List.flatten_append, List.flatten_cons, List.flatten_nil, List.append_nil, List.length_append, List.length_take]
            omega

        | some t =>
          obtain ⟨s1, n1, w1⟩ := t
          refine wpS_bind (wpS_mono (wpS_forRange (a := 0) (b := (arrOf st).size) (I := fun _ c st' => c = (none, ()) ∧ ∃ rs', Rn lt kd (arrOf st).toList rs' S2 st' ∧ rs'.flatten.length = rs.flatten.length) (Q := fun c st' => c = (none, ()) ∧ ∃ rs', Rn lt kd (arrOf st).toList rs' S2 st' ∧ rs'.flatten.length = rs.flatten.length) ?_ (fun _ _ z => z) ⟨rfl, rs, R2, rfl⟩) ?_)
          · rintro y c st4 _ _ ⟨rfl, rs', R4, l4⟩
            have pl : (pendingOf st4).size = rs'.length := by rw [← R4.pend.1]; simp
            refine wpS_bind (wpS_get ?_)
            show wpS _ _ _ _ (match (if (pendingOf st4).size > 1 then (pendingOf st4)[(pendingOf st4).size - 2]? else none) with | some (_, _, older) => _ | x => _) _ _
            by_cases hp1 : (pendingOf st4).size > 1
            · rw [if_pos hp1]
              obtain ⟨t, ht⟩ : ∃ t, (pendingOf st4)[(pendingOf st4).size - 2]? = some t := ⟨_, getElem?_pos _ _ (by omega)⟩
              rw [ht]
              obtain ⟨a1, a2, older⟩ := t
              refine wpS_le (fun _ => wpS_pure ⟨rfl, rs', R4, l4⟩) (fun _ => ?_)
              refine wpS_bind (mergeRn C R4 hD (i := (pendingOf st4).size - 2) (by omega) fun rs'' st5 R5 a5 b5 => ?_)
              exact wpS_pure ⟨rfl, rs'', R5, by omega⟩
            · rw [if_neg hp1]
              exact wpS_pure ⟨rfl, rs', R4, l4⟩
          · rintro c st4 ⟨rfl, rs', R4, l5⟩
            refine wpS_bind (wpS_modify ?_)
            have R5 := R4.pow (k := (pendingOf st4).size - 1) (f := fun x => match x with | (u, len, _) => (u, len, (sortPriv% PySem.Builtin.power) (arrOf st).size (2 * s1 + n1) (2 * s1 + n1 + n1 + (m)) (arrOf st).size)) (g := gallopOf st4) fun a b c => ⟨_, rfl⟩
            refine wpS_bind (wpS_modify ?_)
            have R6 := R5.more (pw := 0) (g := gallopOf (st4)) hn0 sz2 hs
            rw [l5] at R6
            refine wpS_pure ⟨rs' ++ [S2.take (m)], S2.drop (m), ?_, R6, .inl ?_⟩
            · show ((none : Option Unit), rs.flatten.length + (m)) = _
              congr 1
              simp only [List.flatten_append, List.flatten_cons, List.flatten_nil, List.append_nil, List.length_append, List.length_take]
              omega
            · simp only [List.flatten_append, List.flatten_cons, List.flatten_nil, List.append_nil, List.length_append, List.length_take]
              omega


  · rintro c st1 ⟨rs, S, rfl, R, pr⟩
    have ln : rs.flatten.length + S.length = (arrOf st).size := by
      have := R.perm.length_eq
      rw [R.arr, List.length_append] at this
      omega
    obtain rfl : S = [] := by
      rcases pr with z | z
      · exact List.length_eq_zero_iff.mp (by omega)
      · exact z
    exact ⟨rs, rfl, R⟩
  · rintro c st1 ⟨rs, hc, R⟩
    obtain ⟨c1, c2⟩ := c
    dsimp only at hc
    subst hc
    refine wpS_bind (wpS_mono (wpS_forRange (a := 0) (b := (arrOf st).size) (I := fun x c st' => c = (none, ()) ∧ ∃ rs', Rn lt kd (arrOf st).toList rs' [] st' ∧ rs'.length + x ≤ (arrOf st).size) (Q := fun c st' => c = (none, ()) ∧ ∃ rs', Rn lt kd (arrOf st).toList rs' [] st' ∧ rs'.length ≤ 1) ?_ ?_ ⟨rfl, rs, R, ?_⟩) ?_)
    · rintro y c st4 _ _ ⟨rfl, rs', R4, l4⟩
      have pl : (pendingOf st4).size = rs'.length := by rw [← R4.pend.1]; simp
      refine wpS_bind (wpS_get ?_)
      show wpS _ _ _ _ (if (pendingOf st4).size ≤ 1 then _ else _) _ _
      refine wpS_le (fun z => wpS_pure ⟨rfl, rs', R4, by omega⟩) (fun z => ?_)
      refine wpS_bind (mergeRn C R4 hD ?_ fun rs'' st5 R5 a5 b5 => ?_)
      · show (if _ = true then (pendingOf st4).size - 2 - 1 else (pendingOf st4).size - 2) + 1 < _
        exact Nat.lt_of_le_of_lt (Nat.succ_le_succ ite_pred) (by omega)
      · exact wpS_pure ⟨rfl, rs'', R5, by omega⟩
    · rintro c st4 ⟨rfl, rs', R4, l4⟩
      exact ⟨rfl, rs', R4, by omega⟩
    · have := R.low
      have := R.perm.length_eq
      rw [R.arr, List.append_nil] at this
      omega
    · rintro c st4 ⟨rfl, rs', R4, l4⟩
      refine wpS_pure (h st4 R4.perm ?_ R4.fail)
      rw [R4.arr, List.append_nil]
      match rs', l4, R4 with
      | [], _, _ => exact .nil
      | [r], _, R4 => simpa using (R4.srt r (by simp)).1
      | _ :: _ :: _, l4, _ => simp at l4
end
end L2

/-! tuples of ints, one less than another -/
namespace L2
open PySem PySem.Spec PyProof.Rows
def lexLt : List Int → List Int → Bool
  | [], [] => false
  | [], _ :: _ => true
  | _ :: _, [] => false
  | a :: as, b :: bs => if a = b then lexLt as bs else decide (a < b)
open PySem.SeqAt AutoSeq1 in
theorem tuple_ltAt (l b : Addr) (items items2 : Array Value) (n n2 : Nat) (dd dd2 : Option Addr) (sl sl2 : Array (Option Value)) (xs ys : List Int) (hx : IntsAre items.toList xs) (hy : IntsAre items2.toList ys) :
    Meets (Builtin.«tuple.__lt__» ⟨[.ref l, .ref b], []⟩) (fun A R s => s.heap.get? l = some { cls := .type "tuple", dict := dd, data := .seq items n, slots := sl } ∧ s.heap.get? b = some { cls := .type "tuple", dict := dd2, data := .seq items2 n2, slots := sl2 } ∧ R (.ok (.ret (.bool (lexLt xs ys)))) s) :=
  .of_wp fun prog w A R s h => by
    obtain ⟨hp, g, d, tk, os⟩ := s; obtain ⟨hl, hb, h⟩ := h
    have := AutoSeq1.sub_tuple_tuple
    have lx : items.size = xs.length := by rw [← Array.length_toList]; exact IntsAre.length hx
    have ly : items2.size = ys.length := by rw [← Array.length_toList]; exact IntsAre.length hy
    wp_walk using wpAny_loadPart' hl, wpAny_loadPart' hb, wpAny_forIn_list _ (fun rest r s' => r.1 = none ∧ s' = ⟨hp, g, d, tk, os⟩ ∧ ∃ us vs ps qs, rest = us.zip vs ∧ IntsAre us ps ∧ IntsAre vs qs ∧ lexLt xs ys = lexLt ps qs ∧ (xs.length < ys.length ↔ ps.length < qs.length)) _
    case turn =>
      rintro _ rest r s' ⟨_, rfl, us, vs, ps, qs, e, hu, hv, le, ln⟩
      cases hu with
      | nil => cases e
      | cons p t hu =>
        cases hv with
        | nil => cases e
        | cons q u hv =>
          cases e
          rw [lexLt] at le
          refine wpAny_bind (wpAny_eqBool_int ?_)
          by_cases z : p = q
          · rw [if_neg (by simp [z])]
            exact wpAny_pure ⟨rfl, rfl, _, _, _, _, rfl, hu, hv, by rw [le, if_pos z], by simpa using ln⟩
          · rw [if_pos (by simp [z])]
            rw [le, if_neg z] at h
            refine wpAny_bind (wpAny_rule (wpAny_bind (wpAny_lt_int ?_)))
            wp_walk
            exact ⟨_, rfl, h⟩
    case fin =>
      rintro ⟨_, _⟩ s' ⟨hr, rfl, us, vs, ps, qs, e, hu, hv, le, ln⟩
      cases hr
      have : lexLt ps qs = decide (items.size < items2.size) := by
        rw [lx, ly, show decide (xs.length < ys.length) = decide (ps.length < qs.length) from decide_eq_decide.mpr ln]
        cases hu with
        | nil => cases hv <;> simp [lexLt]
        | cons => cases hv with
          | nil => simp [lexLt]
          | cons => cases e
      rw [le, this] at h
      wp_walk
      exact ⟨_, rfl, h⟩
    case h => exact ⟨rfl, rfl, _, _, _, _, rfl, hx, hy, rfl, Iff.rfl⟩
theorem lex_irr : ∀ xs : List Int, lexLt xs xs = false
  | [] => rfl
  | a :: as => by rw [lexLt, if_pos rfl]; exact lex_irr as
theorem lex_neg : ∀ (xs ys zs : List Int), lexLt xs zs = true → lexLt xs ys = true ∨ lexLt ys zs = true
  | [], [], [], h => by simp [lexLt] at h
  | [], [], _ :: _, h => .inr rfl
  | [], _ :: _, _, h => .inl rfl
  | _ :: _, _, [], h => by simp [lexLt] at h
  | _ :: _, [], _ :: _, h => .inr rfl
  | a :: as, b :: bs, c :: cs, h => by
    simp only [lexLt] at h ⊢
    by_cases e1 : a = c
    · subst e1
      rw [if_pos rfl] at h
      by_cases e2 : a = b
      · subst e2
        rw [if_pos rfl, if_pos rfl]
        exact lex_neg as bs cs h
      · rw [if_neg e2, if_neg (Ne.symm e2), decide_eq_true_eq, decide_eq_true_eq]
        omega
    · rw [if_neg e1, decide_eq_true_eq] at h
      by_cases e2 : a = b
      · subst e2
        rw [if_neg e1]
        exact .inr (decide_eq_true h)
      · rw [if_neg e2]
        by_cases e3 : b = c
        · subst e3
          exact .inl (decide_eq_true h)
        · rw [if_neg e3, decide_eq_true_eq, decide_eq_true_eq]
          omega
theorem lex_asym : ∀ (xs ys : List Int), lexLt xs ys = true → lexLt ys xs = false
  | [], [], h => by simp [lexLt] at h
  | [], _ :: _, _ => rfl
  | _ :: _, [], h => by simp [lexLt] at h
  | a :: as, b :: bs, h => by
    simp only [lexLt] at h ⊢
    by_cases e : a = b
    · subst e
      rw [if_pos rfl] at h ⊢
      exact lex_asym as bs h
    · rw [if_neg e, decide_eq_true_eq] at h
      rw [if_neg (Ne.symm e)]
      exact decide_eq_false (by omega)
section
variable {prog : Program} {w : World} {A : Around} {E : Value → Shared → Prop} {s : Shared} {a b : Addr} {xs ys : List Int}
/-- at a stands the tuple, or list, of these ints -/
def SeqI (T : String) (h : Heap) (a : Addr) (ks : List Int) : Prop := ∃ (vs : Array Value) (dd : Option Addr) (n : Nat) (sl : Array (Option Value)), h.get? a = some { cls := .type T, dict := dd, data := .seq vs n, slots := sl } ∧ IntsAre vs.toList ks
abbrev TupI := SeqI "tuple"
theorem rich_ltT {Q : Value → Shared → Prop} (ha : TupI s.heap a xs) (hb : TupI s.heap b ys) (hu : A.units < cLine) (h : Q (.bool (lexLt xs ys)) s) : wpAny (model prog w) A (richCompare .Lt (.ref a) (.ref b)) Q E s := by
  obtain ⟨vs, dd, n, sl, e, i⟩ := ha
  obtain ⟨vs2, dd2, n2, sl2, e2, i2⟩ := hb
  exact richCompare_meets_room (op := .Lt) ⟨_, e, rfl⟩ ⟨_, e2, rfl⟩ F.slot_tuple_lt F.entry_tuple_lt (F.args_tuple_lt_2 _ _) (tuple_ltAt a b vs vs2 n n2 dd dd2 sl sl2 xs ys i i2) ⟨e, e2, show Value.bool (lexLt xs ys) ≠ Value.notImplemented ∧ Q _ s from ⟨(fun x => nomatch x), h⟩⟩ hu
theorem one_gen {Q : Bool → Shared → Prop} (ha : TupI s.heap a xs) (hb : TupI s.heap b ys) (hu : A.units < cLine) (h : Q (lexLt xs ys) s) : wpAny (model prog w) A (oneLt' false (.ref a) (.ref b)) Q E s := by
  rw [oneLt'_eq]
  simp only [Bool.false_eq_true, if_false]
  exact wpAny_bind (rich_ltT ha hb hu (wpAny_truthy_bool h))
end
end L2

/-! list.sort and sorted of tuples of ints, however many -/
namespace L2
open PySem PySem.Spec PyProof.Rows
section
variable {prog : Program} {w : World} {A : Around} {E : Value → Shared → Prop} {s : Shared} {a b : Addr} {xs ys : List Int}
def keyW (h : Heap) : Value → List Int
  | .ref a => match h.get? a with
    | some o => match o.data with
      | .seq vs _ => vs.toList.map numOf
      | _ => []
    | none => []
  | _ => []
theorem SeqI.key {T : String} {h : Heap} (x : SeqI T h a xs) : keyW h (.ref a) = xs := by
  obtain ⟨vs, dd, n, sl, e, i⟩ := x
  show (match h.get? a with | some o => _ | none => _) = _
  rw [e]
  exact i.nums
theorem SeqI.kept {T : String} {h h' : Heap} (x : SeqI T h a xs) (k : ∀ o, h.get? a = some o → h'.get? a = some o) : SeqI T h' a xs :=
  let ⟨vs, dd, n, sl, e, i⟩ := x; ⟨vs, dd, n, sl, k _ e, i⟩
theorem one_one {Q : Bool → Shared → Prop} (ha : TupI s.heap a xs) (hb : TupI s.heap b ys) (hu : A.units < cLine) (h : Q (lexLt xs ys) s) : wpAny (model prog w) A (oneLt' true (.ref a) (.ref b)) Q E s := by
  rw [oneLt'_eq]
  simp only [if_true]
  refine wpAny_bind (wpAny_cRoomFor hu ?_)
  obtain ⟨vs, dd, n, sl, e, i⟩ := ha
  obtain ⟨vs2, dd2, n2, sl2, e2, i2⟩ := hb
  refine wpAny_bind (wpAny_callSpecialIfBound?_slot (T := "tuple") ⟨_, e, rfl⟩ F.slot_tuple_lt ?_)
  refine call_meets F.slot_tuple_lt ⟨_, e, rfl⟩ F.entry_tuple_lt (F.args_tuple_lt_2 _ _) (tuple_ltAt a b vs vs2 n n2 dd dd2 sl sl2 xs ys i i2) ⟨e, e2, ?_⟩
  exact wpAny_bind (wpAny_truthy_bool (wpAny_pure h))
theorem lex_kat {c : Bool} {Q : Bool → Shared → Prop} : ∀ {us vs : List Value} {xs ys : List Int}, IntsAre us xs → IntsAre vs ys → ∀ (i : Nat) (fin : Bool), (xs.length < ys.length ↔ fin = true) → Q (lexLt xs ys) s → W.KatLex prog w A c fin Q (us.zip vs) i s
  | _, _, _, _, .nil, .nil, i, fin, hf, h => by
    have : fin = false := by cases fin with | false => rfl | true => exact absurd (hf.mpr rfl) (by simp)
    subst this; exact h
  | _, _, _, _, .nil, .cons n t hr, i, fin, hf, h => by
    have : fin = true := hf.mp (by simp)
    subst this; exact h
  | _, _, _, _, .cons n t hr, .nil, i, fin, hf, h => by
    have : fin = false := by cases fin with | false => rfl | true => exact absurd (hf.mpr rfl) (by simp)
    subst this; exact h
  | _, _, _, _, .cons n t hr, .cons m u hs, i, fin, hf, h => by
    refine W.kat_cons (wpAny_eqBool_int ?_)
    rw [lexLt] at h
    by_cases e : n = m
    · rw [if_pos e] at h
      rw [show (n == m) = true by simp [e]]
      exact W.kat_yes (lex_kat hr hs (i + 1) fin (by simpa using hf) h)
    · rw [if_neg e] at h
      rw [show (n == m) = false by simp [e]]
      refine W.kat_no ?_
      cases hc : (c && i == 0) with
      | true => exact oneLt_int h
      | false => exact W.kat_one _ _ (wpAny_lt_int h)
theorem tup_lt {c : Bool} {Q : Bool → Shared → Prop} (ha : TupI s.heap a xs) (hb : TupI s.heap b ys) (h : Q (lexLt xs ys) s) : wpAny (model prog w) A (keyLt' (tuples' c) (.ref a) (.ref b)) Q E s := by
  obtain ⟨vs, dd, n, sl, e, i⟩ := ha
  obtain ⟨vs2, dd2, n2, sl2, e2, i2⟩ := hb
  refine W.kat_lt e rfl e2 rfl (lex_kat i i2 0 _ ?_ h)
  have l1 := IntsAre.length i
  have l2 := IntsAre.length i2
  rw [Array.length_toList] at l1 l2
  rw [decide_eq_true_eq]
  omega
def Kd3 (kd : SortKind) : Prop := (∃ c, kd = tuples' c) ∨ kd = general' ∨ kd = oneType'
def DS (T : String) (s : Shared) (p : Keyed) : Prop := ∃ a ks, p.1 = .ref a ∧ SeqI T s.heap a ks
def ltW (s : Shared) (p q : Keyed) : Bool := lexLt (keyW s.heap p.1) (keyW s.heap q.1)
theorem cmp_words {kd : SortKind} (hkd : Kd3 kd) (hu : A.units < cLine) : Cmp prog w A E s kd (DS "tuple" s) (ltW s) where
  wo := ⟨fun p => lex_irr _, fun p q h => lex_asym _ _ h, fun p q r h => lex_neg _ _ _ h⟩
  cmp := fun p q st Q ⟨a, ks, e1, h1⟩ ⟨b, js, e2, h2⟩ hk h => by
    unfold ltW at h
    rw [e1, e2, h1.key, h2.key] at h
    rw [lt'_eq]
    refine wpS_bind (wpS_get ?_)
    rw [hk, e1, e2]
    refine wpS_bind (wpS_lift (wpAny_attempt ?_))
    rcases hkd with ⟨c, rfl⟩ | rfl | rfl
    · exact tup_lt h1 h2 ⟨rfl, wpS_pure h⟩
    · exact one_gen h1 h2 hu ⟨rfl, wpS_pure h⟩
    · exact one_one h1 h2 hu ⟨rfl, wpS_pure h⟩
theorem firsts_any {M : Model} : ∀ (vs : List Value) {Q : List (Option Value) → Shared → Prop}, (∀ v ∈ vs, ∃ a ks, v = .ref a ∧ TupI s.heap a ks) → (∀ fs : List (Option Value), (∀ f ∈ fs, f = none ∨ ∃ n t, f = some (.int n t)) → Q fs s) → wpAny M A (vs.mapM firstOfTuple') Q E s
  | [], Q, _, h => by rw [List.mapM_nil]; exact wpAny_pure (h [] fun f hf => by cases hf)
  | v :: vs, Q, hv, h => by
    obtain ⟨a, ks, rfl, ws, dd, n, sl, e, i⟩ := hv v List.mem_cons_self
    rw [List.mapM_cons]
    refine wpAny_bind ?_
    rw [W.kas_first_eq]
    refine wpAny_bind (wpAny_typeOf (T := "tuple") ⟨_, e, rfl⟩ ?_)
    rw [if_neg (by first | decide | simp)]
    refine wpAny_bind (listItems_at e rfl (wpAny_pure ?_))
    refine wpAny_bind (firsts_any vs (fun v hv' => hv v (List.mem_cons_of_mem _ hv')) fun fs hfs => wpAny_pure (h _ fun f hf => ?_))
    rcases List.mem_cons.mp hf with rfl | hf
    · cases e0 : ws[0]? with
      | none => exact .inl rfl
      | some x =>
        obtain ⟨t, et⟩ := IntsAre.int_at i 0 x (by rw [Array.getElem?_toList]; exact e0)
        exact .inr ⟨_, t, by rw [et]⟩
    · exact hfs f hf
theorem kind_words {M : Model} {vs : List Value} {Q : SortKind → Shared → Prop} (hv : ∀ v ∈ vs, ∃ a ks, v = .ref a ∧ TupI s.heap a ks) (h : ∀ kd, Kd3 kd → Q kd s) : wpAny M A (keyKind' vs.toArray) Q E s := by
  rw [kat_kind_eq, List.mapM_toArray, map_eq_pure_bind]
  refine wpAny_bind (wpAny_bind (firsts_any vs hv fun fs hfs => wpAny_pure ?_))
  refine wpAny_ite_split (fun _ => ?_) (fun _ => wpAny_ite_split (fun _ => wpAny_pure (h _ (.inr (.inl rfl)))) fun _ => ?_)
  · refine wpAny_bind (wpAny_rule ?_)
    have hfm : (fs.toArray.filterMap id) = (fs.filterMap id).toArray := by simp
    rw [hfm, oneTypeOnly'_eq, List.mapM_toArray, map_eq_pure_bind]
    refine wpAny_bind (wpAny_bind (wpAny_bind (W.kas_mapM (r := .type "int") _ (fun v hv' Q' hq => ?_) (wpAny_pure ?_))))
    · obtain ⟨f, hf, ef⟩ := List.mem_filterMap.mp hv'
      rcases hfs f hf with rfl | ⟨n, t, rfl⟩
      · cases ef
      · cases ef
        exact wpAny_typeOf (typeIs_int s n t) hq
    · split
      · exact wpAny_pure (wpAny_pure (h _ (.inl ⟨_, rfl⟩)))
      · exact wpAny_pure (wpAny_pure (h _ (.inl ⟨_, rfl⟩)))
  · rw [oneTypeOnly'_eq, List.mapM_toArray, map_eq_pure_bind]
    refine wpAny_bind (wpAny_bind (wpAny_bind (W.kas_mapM (r := .type "tuple") _ (fun v hv' Q' hq => ?_) (wpAny_pure ?_))))
    · obtain ⟨a, ks, rfl, ws, dd, n, sl, e, i⟩ := hv v hv'
      exact wpAny_typeOf (T := "tuple") ⟨_, e, rfl⟩ hq
    · split
      · refine wpAny_pure (wpAny_pure (h _ ?_))
        split
        · exact .inr (.inr rfl)
        · exact .inr (.inl rfl)
      · exact wpAny_pure (wpAny_pure (h _ (.inr (.inl rfl))))
/-- vs in rising order -/
def RiseW (h : Heap) (l : List Value) : Prop := l.Pairwise fun u v => lexLt (keyW h v) (keyW h u) = false
theorem ite_binds {M : Model} {α β : Type} {c : Prop} [Decidable c] {m n : Sem α} {f : α → Sem β} {Q : β → Shared → Prop} (R : α → Prop) (h1 : c → ∀ Q' : α → Shared → Prop, (∀ x, R x → Q' x s) → wpAny M A m Q' E s) (h2 : ¬ c → ∀ Q' : α → Shared → Prop, (∀ x, R x → Q' x s) → wpAny M A n Q' E s)
    (h : ∀ x, R x → wpAny M A (f x) Q E s) : wpAny M A (if c then m >>= f else n >>= f) Q E s := by
  split
  · exact wpAny_bind (h1 (by assumption) _ h)
  · exact wpAny_bind (h2 (by assumption) _ h)
theorem sort_tree {T : String} (kp : SortKind → Prop) {D : Addr} {vs : List Value} {n : Nat} {P : PySem.Fin → Shared → Prop} (cm : ∀ s' kd, kp kd → Cmp prog w A E s' kd (DS T s') (ltW s'))
    (kn : ∀ (s' : Shared) (Q : SortKind → Shared → Prop), vs ≠ [] → (∀ v ∈ vs, ∃ a ks, v = .ref a ∧ SeqI T s'.heap a ks) → (∀ kd, kp kd → Q kd s') → wpAny (model prog w) A (keyKind' vs.toArray) Q E s')
    (ho : s.heap.get? D = some (seqObj "list" vs.toArray n)) (hv : ∀ v ∈ vs, ∃ a ks, v = .ref a ∧ a ≠ D ∧ SeqI T s.heap a ks) (hz : vs.length ≤ sizeLine)
    (h : ∀ out : Array Value, out.toList.Perm vs → RiseW s.heap out.toList → P (.done (.ret .none)) { s with heap := sortedHeap s.heap D vs out }) :
    wpAny (model prog w) A (Builtin.«list.sort» ⟨[.ref D], []⟩) P E s := by
  rw [list_sort_plain]
  obtain ⟨ep, he⟩ : ∃ ep, (s.heap.update D (Obj.mapSeq fun _ => #[])).get? D = some (seqObj "list" #[] ep) := ⟨_, get?_update_seq ho fun _ => #[]⟩
  refine wpAny_bind (listItems_at ho rfl (wpAny_bind (listUpdate_at ho rfl (wpAny_bind (seqEpoch_at he rfl (wpAny_bind (wpAny_newTuple (wpAny_bind (wpAny_newList (wpAny_holding ?_))) (by simpa using hz))))) (by simpa using hz))))
  obtain ⟨u, eu⟩ : ∃ u : Shared, u = { s with heap := ((s.heap.update D (Obj.mapSeq fun _ => #[])).push (seqObj "tuple" vs.toArray 0)).push (seqObj "list" #[] 0) } := ⟨_, rfl⟩
  have keep : ∀ b o, b ≠ D → s.heap.get? b = some o → u.heap.get? b = some o := fun b o hb e => by
    rw [eu]
    exact Heap.get?_push_of_some _ (Heap.get?_push_of_some _ ((Heap.get?_update_other _ _ (Ne.symm hb)).trans e))
  have hD : u.heap.get? D = some (seqObj "list" #[] ep) := by rw [eu]; exact Heap.get?_push_of_some _ (Heap.get?_push_of_some _ he)
  have hu4 : ∀ v ∈ vs, (∃ a ks, v = .ref a ∧ SeqI T u.heap a ks) ∧ keyW u.heap v = keyW s.heap v := fun v hv' => by
    obtain ⟨a, ks, rfl, ne, t⟩ := hv v hv'
    have t' := t.kept fun o q => keep a o ne q
    exact ⟨⟨a, ks, rfl, t'⟩, by rw [t.key, t'.key]⟩
  show wpAny (model prog w) A _ P E { s with heap := ((s.heap.update D (Obj.mapSeq fun _ => #[])).push (seqObj "tuple" vs.toArray 0)).push (seqObj "list" #[] 0) }
  rw [← eu]
  dsimp only
  refine ite_binds (fun kd => vs.toArray.size < 2 ∨ kp kd) (fun h2 Q' q => wpAny_pure (q _ (.inl h2))) (fun h2 Q' q => kn u Q' (fun z => h2 (by rw [z]; decide)) (fun v hv' => (hu4 v hv').1) fun kd hk => q kd (.inr hk)) fun kd hk => ?_
  refine wpAny_bind (wpAny_mono (Q := fun r s'' => s'' = u ∧ (arrOf r.2).toList.Perm (pairsOf vs).toList ∧ Srt (ltW u) (arrOf r.2).toList ∧ failedOf r.2 = none) ?_ (fun r s'' hr => ?_) fun _ _ e => e)
  · by_cases h2 : vs.toArray.size < 2
    · rw [if_pos h2, StateT.run_pure]
      refine wpAny_pure ⟨rfl, List.Perm.refl _, ?_, rfl⟩
      have lp : (pairsOf vs).toList.length < 2 := by rw [Array.length_toList, pairsOf_size]; simpa using h2
      show Srt _ (pairsOf vs).toList
      generalize (pairsOf vs).toList = L at lp ⊢
      cases L with
      | nil => exact .nil
      | cons x t =>
        cases t with
        | nil => exact List.pairwise_singleton _ _
        | cons y t => exact absurd lp (by simp)
    · rw [if_neg h2]
      refine wpAny_mono (sortRuns_ok (cm u kd (hk.resolve_left h2)) (st := SortSt.mk' kd (vs.toArray.zip vs.toArray) #[] 7 none) (Q := fun _ st' => (arrOf st').toList.Perm (pairsOf vs).toList ∧ Srt (ltW u) (arrOf st').toList ∧ failedOf st' = none)
        (fun p hp => ?_) rfl rfl rfl fun st' a1 a2 a3 => ⟨a1, a2, a3⟩) (fun r s'' x => x) fun _ _ e => e
      have hp' : p ∈ (pairsOf vs).toList := hp
      rw [pairsOf_toList] at hp'
      exact (hu4 _ (mem_zip_self hp').2).1
  obtain ⟨rfl, hp, hs, hf⟩ := hr
  refine wpAny_bind (seqEpoch_at hD rfl (wpAny_bind (listUpdate_at hD rfl ?_ (hsz2 := by
    have := hp.length_eq
    rw [Array.length_toList, Array.length_toList, pairsOf_size] at this
    rw [Array.size_map, this]; omega))))
  have same : ∀ p ∈ (arrOf r.2).toList, p.1 = p.2 ∧ p.1 ∈ vs := fun p hp' => by
    have := hp.mem_iff.mp hp'
    rw [pairsOf_toList] at this
    exact mem_zip_self this
  have := h ((arrOf r.2).map (·.2)) (by
    rw [Array.toList_map]
    refine (hp.map _).trans ?_
    rw [pairsOf_toList, List.map_snd_zip (Nat.le_refl _)]) (by
    rw [Array.toList_map]
    refine List.pairwise_map.mpr (List.Pairwise.imp_of_mem (fun {p q} hp' hq' x => ?_) hs)
    rw [← (same p hp').1, ← (same q hq').1, ← (hu4 _ (same p hp').2).2, ← (hu4 _ (same q hq').2).2]
    exact x)
  unfold sortedHeap at this
  subst eu
  rw [hf, if_neg (by simp)]
  exact wpAny_pure this
theorem sort_treeW {D : Addr} {vs : List Value} {n : Nat} {P : PySem.Fin → Shared → Prop} (hu : A.units < cLine) (ho : s.heap.get? D = some (seqObj "list" vs.toArray n)) (hv : ∀ v ∈ vs, ∃ a ks, v = .ref a ∧ a ≠ D ∧ TupI s.heap a ks) (hz : vs.length ≤ sizeLine)
    (h : ∀ out : Array Value, out.toList.Perm vs → RiseW s.heap out.toList → P (.done (.ret .none)) { s with heap := sortedHeap s.heap D vs out }) :
    wpAny (model prog w) A (Builtin.«list.sort» ⟨[.ref D], []⟩) P E s := sort_tree Kd3 (fun s' kd hk => cmp_words hk hu) (fun s' Q _ hv h => kind_words hv h) ho hv hz h
theorem sorted_seqs {T : String} (kp : SortKind → Prop) {l : Addr} {vs : List Value} {Q : Value → Shared → Prop} (cm : ∀ A, A.units < cLine → ∀ E s' kd, kp kd → Cmp prog w A E s' kd (DS T s') (ltW s'))
    (kn : ∀ (A : Around) E (s' : Shared) (Q : SortKind → Shared → Prop), vs ≠ [] → (∀ v ∈ vs, ∃ a ks, v = .ref a ∧ SeqI T s'.heap a ks) → (∀ kd, kp kd → Q kd s') → wpAny (model prog w) A (keyKind' vs.toArray) Q E s')
    (hu : A.units + 2 < cLine) (hl : s.heap.IsList l vs.toArray) (hv : ∀ v ∈ vs, ∃ a ks, v = .ref a ∧ SeqI T s.heap a ks) (hz : vs.length ≤ sizeLine)
    (h : ∀ (out : Array Value), out.toList.Perm vs → (∃ h1 : Heap, (∀ a ks, SeqI T s.heap a ks → SeqI T h1 a ks) ∧ RiseW h1 out.toList) → Q (.ref (s.heap.objs.size + 1)) { s with heap := sortedAll s.heap vs out }) :
    wpAny (model prog w) A (call (.builtin "sorted") [.ref l]) Q E s := by
  refine Calls.call_function_entry kind_sorted plain_sorted entry_sorted (args_sorted1 _) ?_
  unfold Builtin.«sorted»
  refine wpAny_bind (wpAny_of_eq (a := ()) rfl (wpAny_bind (collect_list hl (wpAny_bind (wpAny_newList ?_ hz)) hz)))
  obtain ⟨u, eu⟩ : ∃ u : Heap, u = (s.heap.push (seqObj "list" #[] 0)).update s.heap.objs.size (Obj.mapSeq (· ++ vs.toArray)) := ⟨_, rfl⟩
  have zu : u.objs.size = s.heap.objs.size + 1 := by rw [eu, Heap.size_update, size_push']
  have kp' : ∀ b o, s.heap.get? b = some o → (u.push (seqObj "list" vs.toArray 0)).get? b = some o := fun b o e => Heap.get?_push_of_some _ (by
    rw [eu, Heap.get?_update_ne _ _ _ _ (Nat.ne_of_lt (Heap.lt_size e))]
    exact Heap.get?_push_of_some _ e)
  have nw : (u.push (seqObj "list" vs.toArray 0)).get? (s.heap.objs.size + 1) = some (seqObj "list" vs.toArray 0) := zu ▸ Heap.get?_push_size _ rfl
  show wpAny _ _ _ _ _ { s with heap := ((s.heap.push (seqObj "list" #[] 0)).update s.heap.objs.size (Obj.mapSeq (· ++ vs.toArray))).push (seqObj "list" vs.toArray 0) }
  unfold sortedAll at h
  rw [← eu] at h ⊢
  rw [zu]
  refine wpAny_bind (wpAny_holding (wpAny_call_entry slot_list_sort ⟨_, nw, rfl⟩ entry_list_sort (sort_tree kp (cm _ (by exact hu) _) (kn _ _) nw (fun v hv' => ?_) hz fun out a2 a3 => ⟨_, rfl, wpAny_pure ⟨_, rfl, h out a2 ⟨_, fun a ks t => t.kept fun o e => kp' a o e, a3⟩⟩⟩) (args_list_sort _)))
  obtain ⟨a, ks, e, t⟩ := hv v hv'
  refine ⟨a, ks, e, ?_, t.kept fun o e => kp' a o e⟩
  obtain ⟨_, _, _, _, e', _⟩ := t
  exact Nat.ne_of_lt (Nat.lt_succ_of_lt (Heap.lt_size e'))
end
end L2

namespace L2
open PySem PySem.Spec PyProof.Rows
theorem eraseIdx_map' {α β : Type} (f : α → β) : ∀ (l : List α) (j : Nat), (l.map f).eraseIdx j = (l.eraseIdx j).map f
  | [], _ => rfl
  | _ :: _, 0 => rfl
  | x :: l, j + 1 => by show f x :: (l.map f).eraseIdx j = f x :: (l.eraseIdx j).map f; rw [eraseIdx_map' f l j]
section
variable {prog : Program} {w : World} {K : Type} [DecidableEq K] {knd : HeapKind prog w K} {A : Around} {E : Value → Shared → Prop} {s : Shared}
def outH (xs : List (K × Addr × Value)) (k : K) : List (K × Addr × Value) := xs.filter fun x => decide (x.1 ≠ k)
theorem outH_erase : ∀ {xs : List (K × Addr × Value)} {j : Nat} {k : K} {p : Addr × Value}, (xs.map (·.1)).Nodup → xs[j]? = some (k, p) → xs.eraseIdx j = outH xs k
  | [], j, k, p, _, h => by simp at h
  | x :: xs, 0, k, p, hn, h => by
    simp only [List.getElem?_cons_zero, Option.some.injEq] at h
    subst h
    rw [List.map_cons, List.nodup_cons] at hn
    show xs = _
    unfold outH
    rw [List.filter_cons_of_neg (by simp)]
    symm
    refine List.filter_eq_self.mpr fun y hy => ?_
    have : ¬ y.1 = k := fun e => hn.1 (List.mem_map.mpr ⟨y, hy, e⟩)
    simp [this]
  | x :: xs, j + 1, k, p, hn, h => by
    rw [List.getElem?_cons_succ] at h
    rw [List.map_cons, List.nodup_cons] at hn
    have : ¬ x.1 = k := fun e => hn.1 (List.mem_map.mpr ⟨_, List.mem_of_getElem? h, e.symm⟩)
    show x :: xs.eraseIdx j = _
    unfold outH
    rw [List.filter_cons_of_pos (by simp [this]), outH_erase hn.2 h]; rfl
theorem takeOut_heap {d a : Addr} {xs : List (K × Addr × Value)} {k : K} {Q : Option DictEntry → Shared → Prop} (hu : knd.room A) (hkey : knd.is s.heap k a) (hm : s.heap.DictOfH knd d xs) (ht : (atKey xs k).isSome = true) (hsz : xs.length ≤ sizeLine)
    (h : ∀ e h', h'.DictOfH knd d (outH xs k) → Heap.SameBut d s.heap h' → Q (some e) { s with heap := h', toks := s.toks + knd.draws k }) :
    wpAny (model prog w) A (Builtin.Dict.takeOut d (.ref a)) Q E s := by
  obtain ⟨o, es, ep, ho, hc, hd, he, his, hn⟩ := hm
  have hes : es.size ≤ sizeLine := by rw [size_of_entries he]; exact hsz
  unfold Builtin.Dict.takeOut
  try with_reducible refine wpAny_holding ?_
  refine wpAny_bind (knd.pyHash hu hkey ?_)
  refine wpAny_bind (wpAny_dictFind_heap (s := { s with toks := s.toks + knd.draws k }) hu hkey ho hd he his hn (fun hno => ?_) fun j p hj => ?_)
  · rw [atKey_none_of_get hno] at ht; cases ht
  · refine wpAny_bind (wpAny_dictEntries (s := { s with toks := s.toks + knd.draws k }) ho hd ?_)
    have he' : es[j]? = some (entryOfKey knd (k, p)) := by rw [entry_at he j, hj]; rfl
    rw [he']
    refine wpAny_bind (wpAny_updateDictKeys (hz := hes) (s := { s with toks := s.toks + knd.draws k }) ho hd (wpAny_pure (h _ _ ⟨_, _, ep + 1, Heap.get?_update_self _ ho (Obj.isFreed_of_dict (Obj.data_mapDictKeys hd _)),
      hc.mapDictKeys _, Obj.data_mapDictKeys hd _, ?_, fun x hx => ?_, ?_⟩ (Heap.SameBut.update ..))))
    · rw [← outH_erase hn hj]
      obtain ⟨l⟩ := es
      simp only [List.eraseIdxIfInBounds_toArray]
      have : l = xs.map (entryOfKey knd) := he
      rw [this, eraseIdx_map']
    · exact knd.keeps (his x (List.mem_filter.mp hx).1) ho hd (Heap.SameBut.update ..)
    · exact List.Nodup.sublist ((List.filter_sublist).map _) hn
theorem meets_dict_delitemH {d a : Addr} {k : K} :
    MeetsIn prog w (Builtin.«dict.__delitem__» ⟨[.ref d, .ref a], []⟩) (fun A R s => knd.room A.in1 ∧ ∃ xs, knd.is s.heap k a ∧ s.heap.DictOfH knd d xs ∧ xs.length ≤ sizeLine ∧ (atKey xs k).isSome = true ∧
      ∀ h', h'.DictOfH knd d (outH xs k) → Heap.SameBut d s.heap h' → R (.ok (.ret .none)) { s with heap := h', toks := s.toks + knd.draws k }) :=
  .of_wp fun A R s ⟨hu, xs, hkey, hm, hsz, hthere, h⟩ => by
    unfold Builtin.«dict.__delitem__»
    refine wpAny_bind ?_
    unfold Builtin.Dict.dictSlotArgs
    refine wpAny_bind (wpAny_notOrdered_dict hm.typeIs ?_)
    show wpAny _ _ (pure (Value.ref d, Value.ref a)) _ _ s
    refine wpAny_pure ?_
    show wpAny _ _ (Builtin.Dict.takeOut d (.ref a) >>= _) _ _ s
    refine wpAny_bind (takeOut_heap hu hkey hm hthere hsz fun e h' hm' hs' => ?_)
    exact wpAny_bind (wpAny_letGo (wpAny_pure ⟨.none, rfl, h h' hm' hs'⟩))
end
theorem KT.drop {H : Hp} {kvs : List (List Key × V)} {xs : List (List Key × Addr × Value)} (r : KT H kvs xs) (k : List Key) : KT H (dropK kvs k) (outH xs k) := by
  unfold dropK outH
  induction r with
  | nil => exact .nil
  | @cons p q ps qs h t ih =>
    rw [List.filter_cons, List.filter_cons]
    obtain ⟨h1, h2, h3⟩ := h
    by_cases e : p.1 = k
    · have e' : q.1 = k := h1.symm.trans e
      simp only [e, e', ne_eq, not_true, decide_false, Bool.false_eq_true, if_false]; exact ih
    · have e' : ¬ q.1 = k := fun z => e (h1.trans z)
      simp only [e, e', ne_eq, not_false_eq_true, decide_true, if_true]; exact .cons ⟨h1, h2, h3⟩ ih
section
variable {X : Cx} {pins : List (Addr × Obj)} {σ : St} {H : Hp} {s : Shared} {a b : Addr} {kvs : List (List Key × V)} {k : List Key} {A : Around} {E : Value → Shared → Prop}
/-- del d[k], k a tuple -/
theorem d_delItemT {Q : Unit → Shared → Prop} (hu : A.units + 1 < cLine) (I : Inv X pins σ H s) (e : H a = some (.dT kvs)) (eb : H b = some (.tup (k.map kV))) (l : (valV kvs k).isSome = true) (h : ∀ s', Inv X pins σ (upd H a (.dT (dropK kvs k))) s' → Q () s') :
    wpAny (model X.prog X.w) A (delItem (.ref a) (.ref b)) Q E s := by
  obtain ⟨z, hd, xs, rel, dd⟩ := dt_of I.hok e
  refine wpAny_delItem_slot dd.typeIs (by decide) PySem.F.slot_dict_delitem
    (call_meetsIn PySem.F.slot_dict_delitem dd.typeIs PySem.F.entry_dict_delitem (PySem.F.args_dict_delitem_2 _ _) (meets_dict_delitemH (knd := tupleKind (mixKind X.prog X.w)) (d := a) (a := b) (k := k))
      ⟨tupleKind_room_in1 hu, xs, key_of I.hok eb, dd, by rw [← Paired.length rel]; exact z, by
        have q := (rel.val k).isSome_eq
        rw [Option.isSome_map] at q
        rw [← q]; exact l, fun h' dd' hs => h _ ?_⟩)
  obtain ⟨q, es, ep, hq, h2, h3, h4, _, h5⟩ := dd'
  refine d_write I (by rw [e]; exact True.intro) hs ⟨q, hq⟩ ⟨Nat.le_trans (dropK_le kvs k) z, hd, _, (rel.drop k).keeps fun c ys ec => ?_, q, es, ep, hq, h2, h3, h4, h5⟩
  rw [upd_ne (ne_of ec e (fun z => nomatch z))]
  exact ec
end
/-- del d[y], y a tuple -/
def sDDelT (td ty : TE) : TS := fun D σ H => td σ H fun x H1 => ty σ H1 fun y H2 => ∃ a kvs k b, x = .ref a ∧ H2 a = some (.dT kvs) ∧ y = .ref b ∧ H2 b = some (.tup (k.map kV)) ∧ (valV kvs k).isSome = true ∧ D.nx σ (upd H2 a (.dT (dropK kvs k)))
theorem ps_ddelT {X : Cx} {o i : Expr} {pos tpos : Pos} {td ty : TE} (hu : X.A.units + 1 < cLine) (ho : PE X o td) (hi : PE X i ty) : PS X (.Delete [.Subscript o i tpos] pos) (sDDelT td ty) := by
  intro pins s σ H D I h
  refine wpAny_Delete (wpAny_deleteEach_cons (wpAny_delete_Subscript (thn (ho pins s σ H _ I h) fun u s1 ⟨x, H1, I1, rx, q1⟩ => thn (hi pins s1 σ H1 _ I1 q1) fun iv s2 ⟨y, H2, I2, ry, a, kvs, k, b, ex, e, ey, eb, l, q2⟩ => ?_)))
  subst ex ey
  obtain rfl : u = Value.ref a := rx
  obtain rfl : iv = Value.ref b := ry
  exact d_delItemT hu I2 e eb l fun s3 I3 => wpAny_deleteEach_nil ⟨σ, _, I3, q2⟩
end L2

namespace L2
open PySem PySem.Spec PyProof.Rows
/-! a dict's keys, walked, whatever they are -/
def DAt (h : Heap) (d : Addr) (es : Array DictEntry) (ep : Nat) : Prop := ∃ o, h.get? d = some o ∧ o.ExactDict ∧ o.data = .dict es ep
section
variable {prog : Program} {w : World} {A : Around} {E : Value → Shared → Prop} {s : Shared} {d it : Addr} {es : Array DictEntry} {ep i : Nat}
theorem DAt.typeIs (x : DAt s.heap d es ep) : s.TypeIs (.ref d) "dict" := let ⟨o, e, c, _⟩ := x; ⟨o, e, c.1⟩
theorem DAt.kept {h h' : Heap} (x : DAt h d es ep) (k : ∀ o, h.get? d = some o → h'.get? d = some o) : DAt h' d es ep := let ⟨o, e, r⟩ := x; ⟨o, k o e, r⟩
theorem DAt.lt {h : Heap} (x : DAt h d es ep) : d < h.objs.size := let ⟨_, e, _⟩ := x; Heap.lt_size e
theorem iter_D {Q : Value → Shared → Prop} (hd : (d == sysModules) = false) (x : DAt s.heap d es ep)
    (hQ : Q (.ref s.heap.objs.size) { s with heap := s.heap.push { cls := .type "dict_keyiterator", data := .fields #[.ref d, .int 0 0, .int es.size 0, .int ep 0] } }) : wpAny (model prog w) A (pyIter (.ref d)) Q E s := by
  obtain ⟨o, g1, g2, g3⟩ := id x
  have ty := x.typeIs
  refine wpAny_pyIter_slot ty F.slot_dict_iter (wpAny_call_entry F.slot_dict_iter ty F.entry_dict_iter ?_ (F.args_dict_iter_1 _))
  unfold Builtin.«dict.__iter__» Builtin.Dict.dictSlotNone Builtin.Dict.showsAll
  wp_walk using wpAny_notOrdered_dict ty, wpAny_ite_false hd, wpAny_dictEntries g1 g3, wpAny_dictEpoch g1 g3, wpAny_newObj_type
  · exact ⟨_, rfl, _, _, ⟨_, Heap.get?_push_size _ rfl, rfl⟩, F.slot_dict_keyiterator_next.lookup, hQ⟩
  · size_fits
theorem raise_stop {α : Type} {Q : α → Shared → Prop} (hh : A.handled = none) (h : ∀ h' a, (∀ b o, s.heap.get? b = some o → h'.get? b = some o) → Shared.TypeIs { s with heap := h' } (.ref a) "StopIteration" → E (.ref a) { s with heap := h' }) :
    wpAny (model prog w) A ((newExc (.type "StopIteration") [] >>= raiseNew : Sem α)) Q E s := by
  wp_walk using wpAny_newObj_type, wpAny_raiseNew_none hh
  · exact h _ _ (fun b o e => Heap.get?_push_of_some _ (Heap.get?_push_of_some _ e)) ⟨_, Heap.get?_push_size _ rfl, rfl⟩
  all_goals size_fits
theorem setF {M : Model} {a : Addr} {o : Obj} {vs : Array Value} {k : Nat} {x : Value} {Q : Unit → Shared → Prop} (ho : s.heap.get? a = some o) (hd : o.data = .fields vs) (hk : k < vs.size)
    (h : ∀ h', (∃ o', h'.get? a = some o' ∧ o'.cls = o.cls ∧ o'.data = .fields (vs.setIfInBounds k x)) → Heap.SameBut a s.heap h' → Q () { s with heap := h' }) : wpAny M A (setField (.ref a) k x) Q E s :=
  wpAny_setField ho hd hk (h _ ⟨_, Heap.get?_update_self _ ho (Obj.isFreed_of_fields (Obj.data_mapFields hd _)), Obj.cls_mapFields .., Obj.data_mapFields hd _⟩ (Heap.SameBut.update ..))
theorem walk_D {Q : Option Value → Shared → Prop} (hit : s.heap.IsKeyIter it d i es.size ep) (hm : DAt s.heap d es ep)
    (hQ : ∀ e, es[i]? = some e → ∀ h', h'.IsKeyIter it d (i + 1) es.size ep → Heap.SameBut it s.heap h' → Q (some e.key) { s with heap := h' })
    (hE : es.size ≤ i → A.handled = none ∧ ∀ h', Heap.ExtBut it s.heap h' → Q none { s with heap := h' }) : wpAny (model prog w) A (pyNext (.ref it)) Q E s := by
  obtain ⟨hp, g, dr, tk, os⟩ := s
  obtain ⟨o1, f1, f2, f3⟩ := id hit
  obtain ⟨o2, k1, k2, k3⟩ := hm
  have ty := hit.typeIs
  unfold pyNext
  refine wpAny_bind (wpAny_attempt (wpAny_callSpecial?_slot (name := Str.ofString "__next__") ty F.slot_dict_keyiterator_next (wpAny_call_entry F.slot_dict_keyiterator_next ty F.entry_dict_keyiterator_next ?_ (F.args_dict_keyiterator_next_1 _))))
  wp_walk using wpAny_dictEntries k1 k3, wpAny_dictEpoch k1 k3, wpAny_typeNameOfWhole_keyiter ty, wpAny_fieldsOf f1 f3
  rw [if_neg (by omega), Int.toNat_natCast]
  cases hx : es[i]? with
  | some e =>
    wp_walk using wpAny_typeNameOfWhole_keyiter ty, wpAny_isOneOf_keyiter ty, setF f1 f3
    · show 1 < 4
      decide
    rintro h1 ⟨o3, n1, n2, n3⟩ sb
    have n : h1.IsKeyIter it d (i + 1) es.size ep := ⟨o3, n1, n2.trans f2, n3⟩
    have ty1 : Shared.TypeIs ⟨h1, g, dr, tk, os⟩ (.ref it) "dict_keyiterator" := n.typeIs
    wp_walk using wpAny_isOneOf_keyiter ty1
    exact ⟨_, rfl, wpAny_pure (hQ e hx _ n sb)⟩
  | none =>
    obtain ⟨hh, hE⟩ := hE (by simpa using hx)
    wp_walk using wpAny_typeNameOfWhole_keyiter ty, wpAny_setField f1 f3
    · show 0 < 4
      decide
    refine raise_stop hh fun h' a k ty => ?_
    wp_walk using wpAny_isInstance (T := "StopIteration") (b := true) ty isSubtype_stop
    exact hE h' fun b o hb e => k b o ((Heap.get?_update_other _ _ (Ne.symm hb)).trans e)
theorem walks_D (hh : A.handled = none) (I : Addr) (hne : d ≠ I) : Walks prog w A I [I, d] [I] es.size (fun i v => ∃ e, es[i]? = some e ∧ v = e.key) (fun i h => h.IsKeyIter I d i es.size ep ∧ DAt h d es ep) where
  sub := fun b hb => by simp at hb; simp [hb]
  frame := fun _ _ _ st hk => ⟨st.1.at fun o e => hk I (by simp) o e, st.2.kept fun o e => hk d (by simp) o e⟩
  item := fun i s Q E hi st hQ => by
    refine walk_D st.1 st.2 (fun e he h' hit' hs' => ?_) (fun z => absurd hi (Nat.not_lt.mpr z))
    exact hQ _ h' s.toks ⟨e, he, rfl⟩ ⟨hit', st.2.kept fun o e => hs'.extBut d o hne e⟩ fun b o hb e => hs'.extBut b o (fun h => hb (by simp [h])) e
  done := fun s Q E st hQ => walk_D st.1 st.2 (fun e he => by rw [Array.getElem?_eq_none (Nat.le_refl _)] at he; cases he) fun _ => ⟨hh, fun h' he' => hQ h' s.toks fun b o hb e => he' b o (fun h => hb (by simp [h])) e⟩
  self := fun _ _ _ _ st hQ => wpAny_pyIter_keyiter st.1 hQ
theorem src_D (lo : (d == sysModules) = false) : PySem.W.KdlSrc prog w "dict" d d es.size (fun i v => ∃ e, es[i]? = some e ∧ v = e.key) (fun h => DAt h d es ep) where
  type := fun _ hm => hm.typeIs
  there := fun _ hm => ⟨hm.lt, hm.lt⟩
  keep := fun _ _ hm hk => hm.kept fun o e => hk d (.inl rfl) o e
  notList := by decide
  notTuple := by decide
  hint := fun _ _ _ _ hm hq => PySem.W.kdl_hint_dict hm.typeIs hq
  iter := fun _ _ hh hm => ⟨_, _, (fun _ _ hq => iter_D lo hm hq), walks_D hh _ (Nat.ne_of_lt hm.lt), ⟨⟨_, Heap.get?_push_size _ rfl, rfl, rfl⟩, hm.kept fun o e => Heap.get?_push_of_some _ e⟩⟩
end
/-! words -/
def Word (H : Hp) (v : V) (ks : List Int) : Prop := ∃ a, v = .ref a ∧ H a = some (.tup (ks.map V.int))
abbrev Words (H : Hp) (xs : List V) (ws : List (List Int)) : Prop := Paired (Word H) xs ws
theorem Paired.perm2 {α β : Type} {F : α → β → Prop} {l : List α} {m m' : List β} (p : m.Perm m') : Paired F l m → ∃ l', l.Perm l' ∧ Paired F l' m' := by
  induction p generalizing l with
  | nil => intro r; cases r; exact ⟨[], .nil, .nil⟩
  | cons x _ ih => intro r; cases r with | cons h t => obtain ⟨l', a, b⟩ := ih t; exact ⟨_ :: l', a.cons _, .cons h b⟩
  | swap x y t => intro r; cases r with | cons h t => cases t with | cons h2 t => exact ⟨_, .swap _ _ _, .cons h2 (.cons h t)⟩
  | trans _ _ i1 i2 => intro r; obtain ⟨l1, a, b⟩ := i1 r; obtain ⟨l2, c, d⟩ := i2 b; exact ⟨l2, a.trans c, d⟩
theorem Paired.flip {α β : Type} {F : α → β → Prop} : ∀ {l : List α} {m : List β}, Paired F l m → Paired (fun b a => F a b) m l
  | _, _, .nil => .nil
  | _, _, .cons h t => .cons h (Paired.flip t)
theorem Paired.mem1 {α β : Type} {F : α → β → Prop} : ∀ {l : List α} {m : List β}, Paired F l m → ∀ a ∈ l, ∃ b ∈ m, F a b
  | _, _, .nil, a, h => by cases h
  | _, _, .cons r t, a, h => by
    rcases List.mem_cons.mp h with rfl | h
    · exact ⟨_, List.mem_cons_self, r⟩
    · obtain ⟨b, hb, f⟩ := Paired.mem1 t a h
      exact ⟨b, List.mem_cons_of_mem _ hb, f⟩
/-- words in rising order, alike ones side by side -/
def Rise (ws : List (List Int)) : Prop := ws.Pairwise fun u v => lexLt v u = false
section
variable {X : Cx} {pins : List (Addr × Obj)} {σ : St} {H : Hp} {s : Shared}
theorem tupI_of {P : Program} {w : World} {h : Heap} {a : Addr} {ks : List Int} (ok : HOk P w H h) (e : H a = some (.tup (ks.map V.int))) : TupI h a ks := by
  obtain ⟨_, its, r, o, h1, h2, n, h3⟩ := (show ObjOk P w H h a (.tup (ks.map V.int)) from ok a _ e)
  obtain ⟨cls, dd, data, sl⟩ := o
  dsimp only at h2 h3
  subst h2 h3
  exact ⟨its.toArray, dd, n, sl, h1, by simpa using ints_of_vals r⟩
theorem word_val {P : Program} {w : World} {h : Heap} {v : V} {u : Value} {ks : List Int} (ok : HOk P w H h) (x : Word H v ks) (r : RelV v u) : ∃ a, u = .ref a ∧ H a = some (.tup (ks.map V.int)) ∧ TupI h a ks := by
  obtain ⟨a, rfl, e⟩ := x
  exact ⟨a, r, e, tupI_of ok e⟩
/-- what has been sorted, as rows of ints -/
theorem seqs_out {T : String} {F : V → List Int → Prop} {h h1 : Heap} (hF : ∀ {v u ks}, F v ks → RelV v u → ∃ a, u = .ref a ∧ SeqI T h a ks) {xs : List V} {us out : List Value} {ws : List (List Int)} (r : Vals xs us) (x : Paired F xs ws) (hp : out.Perm us)
    (hk : ∀ a ks, SeqI T h a ks → SeqI T h1 a ks) (hr : RiseW h1 out) : ∃ ys vs, Vals ys out ∧ Paired F ys vs ∧ ys.Perm xs ∧ vs.Perm ws ∧ Rise vs := by
  obtain ⟨ys, p1, r1⟩ := Paired.perm2 hp.symm r
  obtain ⟨vs, p2, r2⟩ := Paired.perm2 p1 (Paired.flip x)
  have x2 : Paired F ys vs := Paired.flip r2
  refine ⟨ys, vs, r1, x2, p1.symm, p2.symm, ?_⟩
  have key : ∀ {ys : List V} {out : List Value} {vs : List (List Int)}, Vals ys out → Paired F ys vs → out.map (keyW h1) = vs := by
    intro ys out vs a b
    induction a generalizing vs with
    | nil => cases b; rfl
    | cons r _ ih =>
      cases b with
      | cons f t =>
        obtain ⟨q, e1, e3⟩ := hF f r
        rw [List.map_cons, ih t, e1, (hk _ _ e3).key]
  rw [← key r1 x2]
  unfold Rise
  rw [List.pairwise_map]
  exact hr
end
section
variable {prog : Program} {w : World} {A : Around} {E : Value → Shared → Prop} {s : Shared}
theorem sorted_words {l : Addr} {vs : List Value} {Q : Value → Shared → Prop} (hu : A.units + 2 < cLine) (hl : s.heap.IsList l vs.toArray) (hv : ∀ v ∈ vs, ∃ a ks, v = .ref a ∧ TupI s.heap a ks) (hz : vs.length ≤ sizeLine)
    (h : ∀ (out : Array Value), out.toList.Perm vs → (∃ h1 : Heap, (∀ a ks, TupI s.heap a ks → TupI h1 a ks) ∧ RiseW h1 out.toList) → Q (.ref (s.heap.objs.size + 1)) { s with heap := sortedAll s.heap vs out }) :
    wpAny (model prog w) A (call (.builtin "sorted") [.ref l]) Q E s := sorted_seqs Kd3 (fun A hu E s' kd hk => cmp_words hk hu) (fun A E s' Q _ hv h => kind_words hv h) hu hl hv hz h
end
section
variable {X : Cx}
def rSortW (K : PySem.W.Frag) : List V → Hp → VK → Prop := fun xs H Q => ∃ (p : Addr) (ys : List V) (ws : List (List Int)), xs = [.ref p] ∧ SqL K H p ys ∧ Words H ys ws ∧
    ∀ (l : Addr) (zs : List V) (vs : List (List Int)), H l = none → zs.Perm ys → vs.Perm ws → Words H zs vs → Rise vs → Q (.ref l) (upd H l (.lst zs))
theorem call_sortedW (hu : X.A.units + 64 < cLine) : CallR X (.builtin "sorted") (rSortW X.K) := by
  intro pins s σ H xs us Q I r h
  obtain ⟨p, ys, ws, rfl, hq, hw, q⟩ := h
  obtain ⟨u, rfl, ru⟩ := r.one
  cases ru
  obtain ⟨its, rv, pl, hz⟩ := I.list hq
  have hlen : ys.length = its.length := rv.length
  refine sorted_words (by omega) pl.isList (fun v hv => ?_) (by omega) fun out a2 ⟨h1, k1, a3⟩ => ?_
  · obtain ⟨y, hy, ry⟩ := Paired.mem1 (Paired.flip rv) v hv
    obtain ⟨ks, _, hk⟩ := Paired.mem1 hw y hy
    obtain ⟨a, e1, e2, e3⟩ := word_val I.hok hk ry
    exact ⟨a, ks, e1, e3⟩
  obtain ⟨zs, vs, b1, b2, b3, b4, b5⟩ := seqs_out (fun f r => (word_val I.hok f r).imp fun _ z => ⟨z.1, z.2.2⟩) rv hw a2 k1 a3
  obtain ⟨e, he⟩ := sortedAll_at s.heap its out
  have fr : H (s.heap.objs.size + 1) = none := I.hok.fresh (Nat.le_succ _)
  refine ⟨.ref (s.heap.objs.size + 1), _, I.laid (a := s.heap.objs.size + 1) (o := .lst zs) (t' := s.toks) (fun b o q => sortedAll_old q) (Nat.le_succ _) ⟨?_, out.toList, e, b1, ?_⟩, rfl, q _ _ _ fr b3 b4 b2 b5⟩
  · rw [b3.length_eq]; omega
  · simpa [seqObj] using he
end
end L2

namespace L2
open PySem PySem.Spec PyProof.Rows
/-- the keys of a dict of words -/
def kW (ks : List Int) : List Key := ks.map Sum.inl
theorem kW_V (ks : List Int) : (kW ks).map kV = ks.map V.int := by unfold kW; rw [List.map_map]; rfl
theorem kW_inj {a b : List Int} (h : kW a = kW b) : a = b := (List.map_inj_right (fun x y h => by injection h)).mp h
section
variable {prog : Program} {w : World} {A : Around} {E : Value → Shared → Prop} {s : Shared} {h₀ : Heap} {L D : Addr} {m : Str → Option Value} {news : List (Addr × Obj)} {n : Nat} {vs : List Value} {Q : Value → Shared → Prop}
theorem lsortW (hu : A.units + 1 < cLine) (F : Fr h₀ L s.heap m) (N : News h₀ L s.heap ((D, W.listOf vs.toArray n) :: news)) (lt : ∀ q ∈ news, q.1 < D) (hv : ∀ v ∈ vs, ∃ a ks, v = .ref a ∧ a ≠ D ∧ TupI s.heap a ks) (hz : vs.length ≤ sizeLine)
    (h : ∀ vs' c h', Fr h₀ L h' m → News h₀ L h' ((D, W.listOf (List.toArray vs') c) :: news) → vs'.Perm vs → RiseW s.heap vs' → Q .none { s with heap := h' }) :
    wpAny (model prog w) A (call (.builtin "list.sort") [.ref D]) Q E s := by
  have z := N (D, W.listOf vs.toArray n) List.mem_cons_self
  have ho : s.heap.get? D = some (seqObj "list" vs.toArray n) := z.1
  refine wpAny_call_entry PyProof.Rows.slot_list_sort ⟨_, z.1, rfl⟩ PyProof.Rows.entry_list_sort (sort_treeW (n := n) (vs := vs) (by exact hu) ho hv hz fun out hp hP => ⟨.none, rfl, ?_⟩) (PyProof.Rows.args_list_sort _)
  obtain ⟨c, hc⟩ := sortedHeap_at (vs := vs) (out := out) ho
  have F4 : Fr h₀ L (sortedHeap s.heap D vs out) m :=
    ksk_fr (((ksk_fr F (Heap.SameBut.update s.heap D (Obj.mapSeq fun _ => #[])) z.2.1 z.2.2).push (seqObj "tuple" vs.toArray 0)).push (seqObj "list" #[] 0)) (Heap.SameBut.update _ D (Obj.mapSeq fun _ => out)) z.2.1 z.2.2
  refine h out.toList c _ F4 ?_ hp hP
  intro p hq
  rcases List.mem_cons.mp hq with rfl | hq
  · exact ⟨hc, z.2⟩
  · have y := N p (.tail _ hq)
    exact ⟨(sortedHeap_old (Nat.ne_of_lt (lt p hq)) (Heap.lt_size y.1)).trans y.1, y.2⟩
end
section
variable {X : Cx}
def rSortD : List V → Hp → VK → Prop := fun xs H Q => ∃ (p : Addr) (kvs : List (List Key × V)) (ws : List (List Int)), xs = [.ref p] ∧ H p = some (.dT kvs) ∧ kvs.map (·.1) = ws.map kW ∧
    ∀ (l : Addr) (zs : List V) (vs : List (List Int)), H l = none → vs.Perm ws → Words H zs vs → Rise vs → Q (.ref l) (upd H l (.lst zs))
theorem kt_words {H : Hp} : ∀ {kvs : List (List Key × V)} {xs : List (List Key × Addr × Value)} {ws : List (List Int)}, KT H kvs xs → kvs.map (·.1) = ws.map kW → Words H (xs.map fun q => V.ref q.2.1) ws
  | _, _, [], .nil, _ => .nil
  | _, _, _ :: _, .nil, e => by simp at e
  | _, _, [], .cons _ _, e => by simp at e
  | _, _, w :: ws, .cons (a := p) (b := q) h t, e => by
    rw [List.map_cons, List.map_cons] at e
    injection e with e1 e2
    refine .cons ⟨q.2.1, rfl, ?_⟩ (kt_words t e2)
    have := h.2.1
    rw [e1, kW_V] at this
    exact this
theorem call_sortedDT (hc : X.calm = true) (hu : X.A.units + 64 < cLine) : CallR X (.builtin "sorted") rSortD := by
  intro pins s σ H xs us Q I r h
  obtain ⟨p, kvs, ws, rfl, hp, hk, q⟩ := h
  obtain ⟨u, rfl, ru⟩ := r.one
  cases ru
  obtain ⟨z, hsm, xs, rel, ob, es, ep, o1, o2, o3, o4, o5, o6⟩ := dt_of I.hok hp
  obtain ⟨m, fr⟩ := I.fr
  have lv : kvs.length = xs.length := Paired.length rel
  have ln : kvs.length = ws.length := by simpa using congrArg List.length hk
  have le : es.size = xs.length := size_of_entries o4
  refine W.kdu_sorted (src_D (es := es) (ep := ep) hsm) (I.ok.hd hc) fr (news := allNews X.base s.heap X.env.locals) news_all ⟨ob, o1, o2, o3⟩ (by omega) fun D h' tk us fr' nw' lt' hlen hP => ?_
  have hus : us = xs.map fun q => Value.ref q.2.1 := by
    refine List.ext_getElem? fun j => ?_
    cases e : us[j]? with
    | none =>
      have := List.getElem?_eq_none_iff.mp e
      rw [List.getElem?_eq_none (by rw [List.length_map]; omega)]
    | some v =>
      obtain ⟨en, e1, rfl⟩ := hP j v e
      rw [entry_at o4 j] at e1
      cases e2 : xs[j]? with
      | none => rw [e2] at e1; cases e1
      | some x =>
        rw [e2] at e1
        cases e1
        rw [List.getElem?_map, e2]
        rfl
  have rv : Vals (xs.map fun q => V.ref q.2.1) us := by
    rw [hus]
    have : ∀ l : List (List Key × Addr × Value), Vals (l.map fun q => V.ref q.2.1) (l.map fun q => Value.ref q.2.1) := by
      intro l
      induction l with
      | nil => exact .nil
      | cons a l ih => exact .cons rfl ih
    exact this xs
  have hw := kt_words rel hk
  have hD : s.heap.get? D = none := by
    have nb : X.base.get? D = none := (nw' (D, W.listOf us.toArray 0) List.mem_cons_self).2.2
    have nL : D ≠ X.env.locals := (nw' (D, W.listOf us.toArray 0) List.mem_cons_self).2.1
    cases e : s.heap.get? D with
    | none => rfl
    | some o => exact absurd (lt' (D, o) (mem_allNews nL nb e)) (Nat.lt_irrefl _)
  have fresh : H D = none := by
    cases e : H D with
    | none => rfl
    | some o =>
      obtain ⟨ob, e2⟩ := (I.hok D o e).there
      rw [hD] at e2
      cases e2
  have kp : ∀ b u, b ≠ X.env.locals → s.heap.get? b = some u → h'.get? b = some u := fun b u hb e => by
    cases q : X.base.get? b with
    | some v =>
      have e1 := fr'.keep b v q
      have e2 := fr.keep b v q
      rw [e] at e2
      cases e2
      exact e1
    | none => exact (nw' (b, u) (List.mem_cons_of_mem _ (mem_allNews hb q e))).1
  have kt : ∀ a ks, H a = some (.tup (ks.map V.int)) → TupI h' a ks := fun a ks e => by
    have t := tupI_of I.hok e
    refine t.kept fun o eo => kp a o (fun zz => ?_) eo
    rw [zz, I.free] at e
    cases e
  refine lsortW (by show X.A.units + 1 + 1 < _; omega) fr' nw' lt' (fun v hv => ?_) (by omega) fun vs' c h'' fr'' nw'' pm rs => ?_
  · obtain ⟨y, hy, ry⟩ := Paired.mem1 (Paired.flip rv) v hv
    obtain ⟨ks, _, a, e1, e2⟩ := Paired.mem1 hw y hy
    subst e1
    exact ⟨a, ks, ry, ne_of_none e2 fresh, kt a ks e2⟩
  · obtain ⟨ys, p1, r1⟩ := Paired.perm2 pm.symm rv
    obtain ⟨vss, p2, r2⟩ := Paired.perm2 p1 (Paired.flip hw)
    have x2 : Words H ys vss := Paired.flip r2
    have rise : Rise vss := by
      have key : ∀ {ys : List V} {out : List Value} {vs : List (List Int)}, Vals ys out → Words H ys vs → out.map (keyW h') = vs := by
        intro ys out vs a b
        induction a generalizing vs with
        | nil => cases b; rfl
        | cons r _ ih =>
          cases b with
          | cons f t =>
            obtain ⟨q, e1, e2⟩ := f
            subst e1
            rw [List.map_cons, ih t, show _ = Value.ref q from r, (kt _ _ e2).key]
      rw [← key r1 x2]
      unfold Rise
      rw [List.pairwise_map]
      exact rs
    have I2 := I.laidN (o := .lst ys) (D := D) (h' := h'') (t' := tk) fr fr'' (fun q hq => nw'' q (List.mem_cons_of_mem _ hq)) hD fresh ⟨by
      rw [← p1.length_eq, List.length_map]
      omega, vs', c, r1, (nw'' _ List.mem_cons_self).1⟩
    exact ⟨.ref D, _, I2, rfl, q D ys vss fresh p2.symm x2 rise⟩
/-- t + u, words -/
def rCatW : R2 := fun x y H Q => ∃ a b : List Int, Word H x a ∧ Word H y b ∧ a.length + b.length ≤ sizeLine ∧
  (a = [] → Q y H) ∧ (b = [] → Q x H) ∧ (∀ p, H p = none → Q (.ref p) (upd H p (.tup ((a ++ b).map V.int))))
theorem op_catW : OpR X (binaryOp .Add) rCatW := by
  intro pins s σ H x y v u Q I rx ry h
  obtain ⟨a, b, ⟨p, rfl, hp⟩, ⟨r, rfl, hr⟩, hz, q1, q2, q3⟩ := h
  cases rx
  cases ry
  obtain ⟨_, its, r1, p1⟩ := (show ObjOk X.prog X.w H s.heap p (.tup (a.map V.int)) from I.hok p _ hp)
  obtain ⟨_, its2, r2, p2⟩ := (show ObjOk X.prog X.w H s.heap r (.tup (b.map V.int)) from I.hok r _ hr)
  have l1 : a.length = its.length := by simpa using r1.length
  have l2 : b.length = its2.length := by simpa using r2.length
  by_cases e : its = []
  · obtain ⟨⟨cls, dd, data, sl⟩, ho, hc, n, hd⟩ := id p1
    obtain ⟨⟨cls2, dd2, data2, sl2⟩, ho2, hc2, n2, hd2⟩ := id p2
    simp only at hc hd hc2 hd2
    subst hc hd hc2 hd2
    have ea : a = [] := by rw [e] at l1; exact List.length_eq_zero_iff.mp l1
    exact concat_meets ⟨_, ho, rfl⟩ ⟨_, ho2, rfl⟩ noFill_tuple_add seq_tuple_add PySem.F.slot_tuple_add PySem.F.entry_tuple_add (PySem.F.args_tuple_add_2 _ _)
      (tuple_addW0 p r its.toArray its2.toArray n n2 dd dd2 sl sl2 (by simp [e])) ⟨ho, ho2, ⟨.ref r, H, I, rfl, q1 ea⟩⟩
  · refine HT.cat_tup p1 p2 e (fun z => ⟨.ref p, H, I, rfl, q2 (by rw [z] at l2; exact List.length_eq_zero_iff.mp l2)⟩) (fun z => ?_) (by rw [← l1, ← l2]; exact hz)
    refine ⟨.ref s.heap.objs.size, _, I.laid (t' := s.toks) (o := .tup ((a ++ b).map V.int)) (fun b ob q => Heap.get?_push_of_some _ q) (Nat.le_refl _) ?_, rfl, q3 _ (I.hok.fresh (Nat.le_refl _))⟩
    exact ⟨by rw [List.length_map, List.length_append]; exact hz, _, by rw [List.map_append]; exact r1.append r2, IsTup.new _ _⟩
end
end L2

namespace L2
open PySem PySem.Spec PyProof.Rows PyProof.V
section
variable {X : Cx}
/-- t == u, words -/
def rEqW : R2 := fun x y H Q => ∃ a b : List Int, Word H x a ∧ Word H y b ∧ Q (.bl (decide (a = b))) H
theorem op_eqW (hu : X.A.units + 64 < cLine) : OpR X (compareOp .Eq) rEqW := by
  intro pins s σ H x y v u Q I rx ry h
  obtain ⟨ns, ms, ⟨p, rfl, hp⟩, ⟨r, rfl, hr⟩, hQ⟩ := h
  cases rx
  cases ry
  obtain ⟨_, its, r1, p1⟩ := (show ObjOk X.prog X.w H s.heap p (.tup (ns.map V.int)) from I.hok p _ hp)
  obtain ⟨_, its2, r2, p2⟩ := (show ObjOk X.prog X.w H s.heap r (.tup (ms.map V.int)) from I.hok r _ hr)
  have l1 : ns.length = its.length := by simpa using r1.length
  have l2 : ms.length = its2.length := by simpa using r2.length
  refine SeqAt.eq_tupleAt (e := fun j => ns.getD j 0 == ms.getD j 0) p1 p2 (by omega) (fun j h1 h2 => ?_) ⟨.bl (decide (ns = ms)), H, I, ?_, hQ⟩
  · obtain ⟨t1, e1⟩ := ints_at r1 h1
    obtain ⟨t2, e2⟩ := ints_at r2 h2
    rw [e1, e2]
    exact SeqAt.EqAt.int_int _ _ _ _
  · show Value.bool _ = Value.bool _
    congr 1
    rw [Bool.eq_iff_iff, Bool.and_eq_true, List.all_eq_true, decide_eq_true_iff, beq_iff_eq]
    simp only [List.size_toArray]
    constructor
    · rintro ⟨z, zl⟩
      refine List.ext_getElem (by omega) fun i h1 h2 => ?_
      have := z i (List.mem_range.mpr (by omega))
      simpa [h1, h2] using this
    · intro z
      subst z
      exact ⟨fun i _ => by simp, by omega⟩
end
section
variable {g : TG} {tc : TT} {te : TE} {σ : St} {H : Hp} {Q : VK} {K : PySem.W.Frag} {a b : Addr} {xs ys : List V}
end
end L2

/-! sums of words by what two leaves -/
namespace L2
open PySem PySem.Spec PyProof.Rows
abbrev WS := List (List Int)
theorem lex_tri : ∀ (a b : List Int), lexLt a b = false → lexLt b a = false → a = b
  | [], [], _, _ => rfl
  | [], _ :: _, h, _ => by simp [lexLt] at h
  | _ :: _, [], _, h => by simp [lexLt] at h
  | x :: a, y :: b, h, h' => by
    rw [lexLt] at h h'
    by_cases e : x = y
    · subst e
      rw [if_pos rfl] at h h'
      rw [lex_tri a b h h']
    · rw [if_neg e] at h
      rw [if_neg (Ne.symm e)] at h'
      have h1 := of_decide_eq_false h
      have h2 := of_decide_eq_false h'
      omega
def SR (r : WS) : Prop := r.Pairwise fun u v => lexLt u v = true
theorem sr_one : ∀ (r r' : WS), SR r → SR r' → (∀ w, w ∈ r ↔ w ∈ r') → r = r'
  | [], [], _, _, _ => rfl
  | [], b :: _, _, _, h => by have := (h b).mpr List.mem_cons_self; cases this
  | a :: _, [], _, _, h => by have := (h a).mp List.mem_cons_self; cases this
  | a :: r, b :: r', h1, h2, h => by
    obtain ⟨p1, q1⟩ := List.pairwise_cons.mp h1
    obtain ⟨p2, q2⟩ := List.pairwise_cons.mp h2
    have e : a = b := by
      rcases List.mem_cons.mp ((h a).mp List.mem_cons_self) with e | e
      · exact e
      · rcases List.mem_cons.mp ((h b).mpr List.mem_cons_self) with e' | e'
        · exact e'.symm
        · have z1 := p2 a e
          have z2 := p1 b e'
          rw [lex_asym _ _ z1] at z2
          cases z2
    subst e
    have no : ∀ {l : WS}, (∀ x ∈ l, lexLt a x = true) → a ∉ l := fun {l} p m => by
      have := p a m
      rw [lex_irr] at this
      cases this
    rw [sr_one r r' q1 q2 fun w => ⟨fun m => ?_, fun m => ?_⟩]
    · rcases List.mem_cons.mp ((h w).mp (List.mem_cons_of_mem _ m)) with e | e
      · subst e; exact absurd m (no p1)
      · exact e
    · rcases List.mem_cons.mp ((h w).mpr (List.mem_cons_of_mem _ m)) with e | e
      · subst e; exact absurd m (no p2)
      · exact e
theorem SR.nodup {r : WS} (h : SR r) : r.Nodup := h.imp fun {u v} z e => by subst e; rw [lex_irr] at z; cases z
theorem sr_of {r : WS} (h : Rise r) (n : r.Nodup) : SR r := (List.Pairwise.and h n).imp fun {u v} ⟨a, b⟩ => by
  cases e : lexLt u v with
  | true => rfl
  | false => exact absurd (lex_tri _ _ e a) b
structure IsOdd (L r : WS) : Prop where
  rise : SR r
  mem : ∀ w, w ∈ r ↔ L.count w % 2 = 1
theorem IsOdd.one {L r r' : WS} (x : IsOdd L r) (y : IsOdd L r') : r = r' := sr_one r r' x.rise y.rise fun w => (x.mem w).trans (y.mem w).symm
def Par (L L' : WS) : Prop := ∀ w, L.count w % 2 = L'.count w % 2
theorem Par.refl (L : WS) : Par L L := fun _ => rfl
theorem Par.symm {L M : WS} (a : Par L M) : Par M L := fun w => (a w).symm
theorem Par.trans {L M N : WS} (a : Par L M) (b : Par M N) : Par L N := fun w => (a w).trans (b w)
theorem Par.app {A A' B B' : WS} (a : Par A A') (b : Par B B') : Par (A ++ B) (A' ++ B') := fun w => by
  have := a w; have := b w
  rw [List.count_append, List.count_append]; omega
theorem IsOdd.par {L L' r : WS} (x : IsOdd L r) (p : Par L L') : IsOdd L' r := ⟨x.rise, fun w => by rw [x.mem w, p w]⟩
theorem IsOdd.self {L r : WS} (x : IsOdd L r) : Par r L := fun w => by
  by_cases h : w ∈ r
  · rw [List.Nodup.count x.rise.nodup, if_pos h, (x.mem w).mp h]
  · rw [List.count_eq_zero.mpr h]
    have := mt (x.mem w).mpr h
    omega
theorem IsOdd.sub {L r : WS} (x : IsOdd L r) {w : List Int} (h : w ∈ r) : w ∈ L := by
  have := (x.mem w).mp h
  exact List.count_pos_iff.mp (by omega)
theorem sub_len : ∀ {r L : WS}, r.Nodup → (∀ w ∈ r, w ∈ L) → r.length ≤ L.length
  | [], _, _, _ => Nat.zero_le _
  | a :: r, L, n, h => by
    obtain ⟨n1, n2⟩ := List.nodup_cons.mp n
    have ha := h a List.mem_cons_self
    have := sub_len (r := r) (L := L.erase a) n2 fun w hw => (List.mem_erase_of_ne (fun (e : w = a) => n1 (e ▸ hw))).mpr (h w (List.mem_cons_of_mem _ hw))
    rw [List.length_erase_of_mem ha] at this
    have := List.length_pos_of_mem ha
    rw [List.length_cons]; omega
theorem IsOdd.len {L r : WS} (x : IsOdd L r) : r.length ≤ L.length := sub_len x.rise.nodup fun _ h => x.sub h
theorem odd_nil : IsOdd [] [] := ⟨.nil, fun w => by simp⟩
theorem odd_same {P r : WS} {w : List Int} (x : IsOdd P (r ++ [w])) : IsOdd (P ++ [w]) r := by
  have n := x.rise.nodup
  have s := x.rise
  unfold SR at s
  rw [List.nodup_append] at n
  rw [List.pairwise_append] at s
  refine ⟨s.1, fun y => ?_⟩
  have m := x.mem y
  rw [List.count_append, List.count_singleton]
  by_cases e : w = y
  · subst e
    have : ¬ w ∈ r := fun h => n.2.2 w h w (by simp) rfl
    have := m.mp (by simp)
    simp only [beq_self_eq_true, if_true]
    constructor
    · intro h; contradiction
    · intro h; omega
  · have e' : ¬ y = w := fun z => e z.symm
    simp only [List.mem_append, List.mem_singleton, e', or_false] at m
    rw [m]
    simp [e]
theorem odd_new {P r : WS} {w : List Int} (x : IsOdd P r) (hw : ∀ p ∈ P, lexLt w p = false) (hl : r.getLast? ≠ some w) : IsOdd (P ++ [w]) (r ++ [w]) := by
  have no : w ∉ r := fun h => by
    obtain ⟨a, b, rfl⟩ := List.append_of_mem h
    cases hb : b.getLast? with
    | none =>
      have : b = [] := List.getLast?_eq_none_iff.mp hb
      subst this
      exact hl (by simp)
    | some l =>
      have hlb : l ∈ b := List.mem_of_getLast? hb
      have s := x.rise
      unfold SR at s
      rw [List.pairwise_append, List.pairwise_cons] at s
      have z1 := s.2.1.1 l hlb
      have z2 := hw l (x.sub (by simp [hlb]))
      rw [z1] at z2
      cases z2
  refine ⟨?_, fun y => ?_⟩
  · unfold SR
    rw [List.pairwise_append]
    refine ⟨x.rise, List.pairwise_singleton _ _, fun u hu v hv => ?_⟩
    rw [List.mem_singleton.mp hv]
    cases e : lexLt u w with
    | true => rfl
    | false => exact absurd (lex_tri _ _ e (hw u (x.sub hu))) fun z => no (z ▸ hu)
  · have m := x.mem y
    rw [List.count_append, List.count_singleton, List.mem_append, List.mem_singleton]
    by_cases e : w = y
    · subst e
      have := mt m.mpr no
      simp only [beq_self_eq_true, if_true]
      constructor
      · intro _; omega
      · intro _; exact .inr trivial
    · have e' : ¬ y = w := fun z => e z.symm
      simp only [e', or_false]
      rw [m]
      simp [e]
/-- the keys that came an odd number of times -/
structure OddK (L ks : WS) : Prop where
  nd : ks.Nodup
  mem : ∀ w, w ∈ ks ↔ L.count w % 2 = 1
theorem oddk_nil : OddK [] [] := ⟨.nil, fun w => by simp⟩
theorem oddk_out {L ks : WS} {w : List Int} (x : OddK L ks) (h : w ∈ ks) : OddK (L ++ [w]) (ks.filter fun k => decide (k ≠ w)) := by
  refine ⟨x.nd.filter _, fun y => ?_⟩
  have m := x.mem y
  rw [List.mem_filter, List.count_append, List.count_singleton]
  by_cases e : w = y
  · subst e
    have := m.mp h
    simp
    omega
  · have e' : ¬ y = w := fun z => e z.symm
    simp [e, e', m]
theorem oddk_in {L ks : WS} {w : List Int} (x : OddK L ks) (h : w ∉ ks) : OddK (L ++ [w]) (ks ++ [w]) := by
  refine ⟨?_, fun y => ?_⟩
  · rw [List.nodup_append]
    exact ⟨x.nd, by simp, fun a ha b hb e => h (by rw [List.mem_singleton.mp hb] at e; exact e ▸ ha)⟩
  have m := x.mem y
  rw [List.mem_append, List.mem_singleton, List.count_append, List.count_singleton]
  by_cases e : w = y
  · subst e
    have := mt m.mpr h
    simp
    omega
  · have e' : ¬ y = w := fun z => e z.symm
    simp [e, e', m]
theorem OddK.sub {L ks : WS} (x : OddK L ks) {w : List Int} (h : w ∈ ks) : w ∈ L := by
  have := (x.mem w).mp h
  exact List.count_pos_iff.mp (by omega)
theorem OddK.len {L ks : WS} (x : OddK L ks) : ks.length ≤ L.length := sub_len x.nd fun _ h => x.sub h
theorem OddK.odd {L ks r : WS} (x : OddK L ks) (p : r.Perm ks) (h : Rise r) : IsOdd L r := ⟨sr_of h (p.nodup_iff.mpr x.nd), fun w => by rw [p.mem_iff, x.mem]⟩
/-! products -/
def prd (A B : WS) : WS := A.flatMap fun u => B.map fun v => u ++ v
theorem prd_cons (u : List Int) (A B : WS) : prd (u :: A) B = B.map (fun v => u ++ v) ++ prd A B := by simp [prd]
theorem prd_app (A B C : WS) : prd (A ++ B) C = prd A C ++ prd B C := by simp [prd]
theorem cnt_map {f : List Int → List Int} (hf : ∀ a b, f a = f b → a = b) (v : List Int) : ∀ B : WS, (B.map f).count (f v) = B.count v
  | [] => rfl
  | b :: B => by
    rw [List.map_cons, List.count_cons, List.count_cons, cnt_map hf v B]
    congr 1
    by_cases e : b = v
    · subst e; simp
    · have : ¬ f b = f v := fun z => e (hf _ _ z)
      simp [e, this]
theorem par_map {f : List Int → List Int} (hf : ∀ a b, f a = f b → a = b) {B B' : WS} (h : Par B B') : Par (B.map f) (B'.map f) := fun w => by
  by_cases e : ∃ v, f v = w
  · obtain ⟨v, rfl⟩ := e
    rw [cnt_map hf, cnt_map hf, h v]
  · have z : ∀ B : WS, (B.map f).count w = 0 := fun B => List.count_eq_zero.mpr fun m => by
      obtain ⟨v, _, q⟩ := List.mem_map.mp m
      exact e ⟨v, q⟩
    rw [z, z]
/-! how many, how long -/
def Gd (n m : Nat) (L : WS) : Prop := L.length ≤ n ∧ ∀ w ∈ L, w.length ≤ m ∧ ∀ k ∈ w, 0 ≤ k
theorem IsOdd.gd {L r : WS} {n m : Nat} (x : IsOdd L r) (g : Gd n m L) : Gd n m r := ⟨Nat.le_trans x.len g.1, fun w h => g.2 w (x.sub h)⟩
theorem Gd.mono {n m n' m' : Nat} {L : WS} (g : Gd n m L) (h1 : n ≤ n') (h2 : m ≤ m') : Gd n' m' L := ⟨Nat.le_trans g.1 h1, fun w h => ⟨Nat.le_trans (g.2 w h).1 h2, (g.2 w h).2⟩⟩
theorem Gd.app {n m n' m' : Nat} {A B : WS} (a : Gd n m A) (b : Gd n' m' B) : Gd (n + n') (max m m') (A ++ B) := by
  refine ⟨by rw [List.length_append]; have := a.1; have := b.1; omega, fun w h => ?_⟩
  rcases List.mem_append.mp h with h | h
  · exact ⟨Nat.le_trans (a.2 w h).1 (Nat.le_max_left _ _), (a.2 w h).2⟩
  · exact ⟨Nat.le_trans (b.2 w h).1 (Nat.le_max_right _ _), (b.2 w h).2⟩
theorem prd_len (B : WS) : ∀ A : WS, (prd A B).length = A.length * B.length
  | [] => by simp [prd]
  | u :: A => by rw [prd_cons, List.length_append, List.length_map, prd_len B A, List.length_cons, Nat.succ_mul]; omega
theorem Gd.prd {n m n' m' : Nat} {A B : WS} (a : Gd n m A) (b : Gd n' m' B) : Gd (n * n') (m + m') (L2.prd A B) := by
  refine ⟨by rw [prd_len]; exact Nat.mul_le_mul a.1 b.1, fun w h => ?_⟩
  obtain ⟨u, hu, h⟩ := List.mem_flatMap.mp h
  obtain ⟨v, hv, rfl⟩ := List.mem_map.mp h
  refine ⟨by rw [List.length_append]; have := (a.2 u hu).1; have := (b.2 v hv).1; omega, fun k hk => ?_⟩
  rcases List.mem_append.mp hk with hk | hk
  · exact (a.2 u hu).2 k hk
  · exact (b.2 v hv).2 k hk
theorem gd_nil {n m : Nat} : Gd n m [] := ⟨Nat.zero_le _, fun _ h => nomatch h⟩
/-! lists of words in the heap -/
def WL (H : Hp) (a : Addr) (L : WS) : Prop := ∃ xs, H a = some (.lst xs) ∧ Words H xs L
theorem Word.mono {H H' : Hp} {v : V} {w : List Int} (k : ∀ t p, H t = some (.tup p) → H' t = some (.tup p)) (x : Word H v w) : Word H' v w := let ⟨a, e, q⟩ := x; ⟨a, e, k _ _ q⟩
theorem Words.mono {H H' : Hp} {xs : List V} {L : WS} (k : ∀ t p, H t = some (.tup p) → H' t = some (.tup p)) (x : Words H xs L) : Words H' xs L := Paired.mapP x fun _ _ q => Word.mono k q
theorem Words.same {H H' : Hp} {xs : List V} {L : WS} (s : Same H H') (x : Words H xs L) : Words H' xs L := Words.mono (fun t p e => s t _ e) x
theorem Word.same {H H' : Hp} {v : V} {w : List Int} (s : Same H H') (x : Word H v w) : Word H' v w := Word.mono (fun t p e => s t _ e) x
theorem WL.same {H H' : Hp} {a : Addr} {L : WS} (s : Same H H') (x : WL H a L) : WL H' a L := let ⟨xs, e, q⟩ := x; ⟨xs, s _ _ e, Words.same s q⟩
theorem Words.len {H : Hp} {xs : List V} {L : WS} (x : Words H xs L) : xs.length = L.length := Paired.length x
theorem Words.get {H : Hp} : ∀ {xs : List V} {L : WS} {i : Nat} {x : V}, Words H xs L → xs[i]? = some x → ∃ w, L[i]? = some w ∧ Word H x w
  | _, _, _, _, .nil, e => by simp at e
  | _, _, 0, _, .cons r _, e => by simp at e; subst e; exact ⟨_, rfl, r⟩
  | _, _, i + 1, x, .cons _ t, e => by
    obtain ⟨w, h1, h2⟩ := Words.get (i := i) (x := x) t (by simpa using e)
    exact ⟨w, by simpa using h1, h2⟩
theorem Words.snoc {H : Hp} {xs : List V} {L : WS} {x : V} {w : List Int} (h : Words H xs L) (e : Word H x w) : Words H (xs ++ [x]) (L ++ [w]) := Paired.snoc h e
/-- a frame about a list or a dict keeps the tuples -/
theorem Frm.tups {b : Addr} {H H' : Hp} (f : Frm b H H') (hb : ∀ p, H b ≠ some (.tup p)) : ∀ t p, H t = some (.tup p) → H' t = some (.tup p) := fun t p e => f t _ e fun z => hb p (z ▸ e)
/-- what is alike -/
theorem words_eqv {K : PySem.W.Frag} {H : Hp} {xs ys : List V} {L : WS} (h1 : Words H xs L) (h2 : Words H ys L) {n : Nat} (hn : 1 ≤ n) : ∀ (i : Nat) (x y : V), xs[i]? = some x → ys[i]? = some y → Eqv K H n x y := fun i x y e1 e2 => by
  obtain ⟨w, q1, p, rfl, hp⟩ := Words.get h1 e1
  obtain ⟨w', q2, q, rfl, hq⟩ := Words.get h2 e2
  rw [q1] at q2
  cases q2
  obtain ⟨n', rfl⟩ : ∃ n', n = n' + 1 := ⟨n - 1, by omega⟩
  refine .tup (.inl (.inl hp)) (.inl (.inl hq)) rfl fun j u v e1 e2 => ?_
  rw [e1] at e2
  cases e2
  obtain ⟨z, hz, rfl⟩ := map_int_at e1
  exact .flat rfl
end L2

namespace L2
open PySem PySem.Spec PyProof.Rows
section
variable {X : Cx}
theorem call_sortedWK {K : PySem.W.Frag} (h : X.K = K) (hu : X.A.units + 64 < cLine) : CallR X (.builtin "sorted") (rSortW K) := h ▸ call_sortedW hu
end
/-- the dict that holds what came an odd number of times -/
def DOd (H : Hp) (d : Addr) (L : WS) : Prop := ∃ (kvs : List (List Key × V)) (ks : WS), H d = some (.dT kvs) ∧ kvs.map (·.1) = ks.map kW ∧ OddK L ks
theorem val_in : ∀ {kvs : List (List Key × V)} {ks : WS} {w : List Int}, kvs.map (·.1) = ks.map kW → ((valV kvs (kW w)).isSome = true ↔ w ∈ ks)
  | [], [], w, _ => by simp [valV]
  | [], _ :: _, _, e => by simp at e
  | _ :: _, [], _, e => by simp at e
  | p :: kvs, k :: ks, w, e => by
    rw [List.map_cons, List.map_cons] at e
    injection e with e1 e2
    by_cases z : p.1 = kW w
    · rw [valV_pos z]
      have : k = w := kW_inj (e1.symm.trans z)
      simp [this]
    · rw [valV_neg z, val_in e2]
      have : ¬ w = k := fun q => z (by rw [e1, q])
      simp [this]
theorem drop_keys : ∀ {kvs : List (List Key × V)} {ks : WS} {w : List Int}, kvs.map (·.1) = ks.map kW → (dropK kvs (kW w)).map (·.1) = (ks.filter fun k => decide (k ≠ w)).map kW
  | [], [], w, _ => rfl
  | [], _ :: _, _, e => by simp at e
  | _ :: _, [], _, e => by simp at e
  | p :: kvs, k :: ks, w, e => by
    rw [List.map_cons, List.map_cons] at e
    injection e with e1 e2
    have ih := drop_keys (w := w) e2
    unfold dropK at ih ⊢
    by_cases z : k = w
    · rw [List.filter_cons_of_neg (by rw [e1, z]; simp), List.filter_cons_of_neg (by rw [z]; simp), ih]
    · have : ¬ p.1 = kW w := fun q => z (kW_inj (e1.symm.trans q))
      rw [List.filter_cons_of_pos (by simp [this]), List.filter_cons_of_pos (by simp [z]), List.map_cons, List.map_cons, ih, e1]
theorem put_keys {kvs : List (List Key × V)} {ks : WS} {w : List Int} {v : V} (e : kvs.map (·.1) = ks.map kW) (h : w ∉ ks) : (putK kvs (kW w) v).map (·.1) = (ks ++ [w]).map kW := by
  have a : (kvs.any fun kv => decide (kv.1 = kW w)) = false := by
    rw [valV_any]
    cases q : (valV kvs (kW w)).isSome with
    | false => rfl
    | true => exact absurd ((val_in e).mp q) h
  unfold putK
  rw [a]
  simp [e]
theorem DOd.tups {H H' : Hp} {d : Addr} {L : WS} (x : DOd H d L) (f : Frm d H H') : ∀ t p, H t = some (.tup p) → H' t = some (.tup p) := f.tups fun p z => by
  obtain ⟨_, _, e, _⟩ := x
  rw [e] at z; cases z
theorem DOd.wl {H H' : Hp} {d a : Addr} {L M : WS} (x : DOd H d L) (f : Frm d H H') (y : WL H a M) : WL H' a M := by
  obtain ⟨xs, e, q⟩ := y
  refine ⟨xs, f a _ e fun z => ?_, Words.mono (x.tups f) q⟩
  obtain ⟨_, _, e', _⟩ := x
  rw [z, e'] at e; cases e
end L2

/-! instances without an __init__, methods by name, a text with a number in it, != of words -/
namespace L2
open PySem PySem.Spec PyProof.Rows PyProof.V
section
variable {X : Cx} {C : Addr} {x m : Str} {p pos apos : Pos} {e o : Expr} {es : List Expr} {ta : TE} {t : TA}
structure MkO (K : PySem.W.Frag) (C : Addr) : Prop where
  makes : PySem.W.makesIn K C = true
  init : PySem.W.findIn K (.ref C) "__init__" = some (some (.builtin "object.__init__"))
  kp : PySem.W.keepIn K (.ref C) = true
def tMakeO (C : Addr) : TE := fun _ H Q => ∀ x dx, H x = none → H dx = none → dx ≠ x → Q (.ref x) (upd (upd H dx (.own x)) x (.ins C dx []))
theorem pe_makeO (M : MkO X.K C) (hg : Gl X x) (hm : X.mg x = some (.ref C)) (hdb : (x == ("__debug__" : Str)) = false := by decide) : PE X (.Call (.Name x p) [] [] pos) (tMakeO C) := by
  intro pins s σ H Q I h
  refine wpAny_Call_Name_kw (ld_glob I hg hm ?_ hdb)
  refine PySem.W.callWith_K0 I.kIn M.kp (wpAny_call ?_)
  have Y := PySem.W.makes_of (M := model X.prog X.w) I.kIn M.makes
  have I2 := Inv.made (C := C) I
  have hq := h (s.heap.objs.size + 1) s.heap.objs.size (I.hok.fresh (Nat.le_succ _)) (I.hok.fresh (Nat.le_refl _)) (Nat.ne_of_lt (Nat.lt_succ_self _))
  have hx : ((s.heap.push PySem.W.emptyDict).push (PySem.W.instObj C s.heap.objs.size)).get? (s.heap.objs.size + 1) = some (PySem.W.instObj C s.heap.objs.size) := by
    have := Heap.get?_push_size (s.heap.push PySem.W.emptyDict) (o := PySem.W.instObj C s.heap.objs.size) rfl
    rwa [Heap.size_push] at this
  refine make_map0 I.kIn M.makes M.init (fun self => PySem.W.Looks.of_pure (PySem.W.oi_bind self)) ?_
  have t1 : PySem.W.Looks (model X.prog X.w) ((s.heap.push PySem.W.emptyDict).push (PySem.W.instObj C s.heap.objs.size)) (typeOf (.ref (s.heap.objs.size + 1))) (.ref C) := (PySem.W.Looks.ld hx).andThen .now
  have t2 : PySem.W.Looks (model X.prog X.w) ((s.heap.push PySem.W.emptyDict).push (PySem.W.instObj C s.heap.objs.size)) (isInstance (.ref (s.heap.objs.size + 1)) (.type "object")) true := t1.andThen (Y.top.keeps fun b o e => Heap.get?_push_of_some _ (Heap.get?_push_of_some _ e))
  refine codeAny_call_builtin PySem.W.oi_plain PySem.W.entry_oi (@PySem.W.check_slot (model X.prog X.w) _ _ _ "object.__init__" "object" "__init__" (.ref (s.heap.objs.size + 1)) [] [] _ PySem.W.oi_kind PySem.W.oi_split t2 (PySem.W.oi_args (.ref (s.heap.objs.size + 1))) ?_)
  rw [PySem.W.oi_run]
  exact wpAny_pure (And.intro rfl ⟨V.ref (s.heap.objs.size + 1), _, I2, rfl, hq⟩)
/-- a method by its name -/
def HasM (P : Program) (w : World) (K : PySem.W.Frag) (mg : Str → Option Value) (base : Heap) (k : Nat) (C : Addr) (m : Str) (ps : List Str) (sp : Sp) : Prop :=
  ∃ (f : Addr) (fd : FuncData), FnOk P w K mg base CX0 k f fd ps sp ∧ Meth K C m f ∧ Binds K fd ps []
theorem pe_hasM {k : Nat} {ps : List Str} {sp : Sp} {pl : Sem Bool} (h : HasM X.prog X.w X.K X.mg X.base k C m ps sp) (c : Cls X.K C) (hr : Room k X.A) (he : PE X o ta) (ha : PA X (e :: es) t)
    (hst : starEach (e :: es) X.env = (false, eval e X.env) :: starEach es X.env := by rfl) (hpl : (backTo pos (starEach es X.env)).any (·.1) = false := by rfl)
    (ht : eval (.Call (.Attribute o m apos) (e :: es) [] pos) X.env = (do
      let ov ← eval o X.env
      standAt apos.atName
      let (f, first) ← holding [ov] (getMethod ov m pl)
      callWith pos f first (backTo pos (starEach (e :: es) X.env)) (backToKw pos (keywordEach [] X.env))) := by rfl) :
    PE X (.Call (.Attribute o m apos) (e :: es) [] pos) (tMeth C m sp [] E0 ta t) := by
  obtain ⟨f, fd, G, hm, hb⟩ := h
  exact pe_meth he c hm G hr hb .nil pass0 ha hst hpl ht
theorem pe_hasM0 {k : Nat} {ps : List Str} {sp : Sp} {pl : Sem Bool} (h : HasM X.prog X.w X.K X.mg X.base k C m ps sp) (c : Cls X.K C) (hr : Room k X.A) (he : PE X o ta)
    (ht : eval (.Call (.Attribute o m apos) [] [] pos) X.env = (do
      let ov ← eval o X.env
      standAt apos.atName
      let (f, first) ← holding [ov] (getMethod ov m pl)
      callWith pos f first (backTo pos (starEach [] X.env)) (backToKw pos (keywordEach [] X.env))) := by rfl) :
    PE X (.Call (.Attribute o m apos) [] [] pos) (tMeth C m sp [] E0 ta tNil) := by
  obtain ⟨f, fd, G, hm, hb⟩ := h
  exact pe_meth0 he c hm G hr hb .nil pass0 ht
/-- f"text{a number}text" -/
def tFs (tv : TE) : TE := fun σ H Q => tv σ H fun v H1 => ∃ i : Int, v = .int i ∧ i.natAbs < 10 ^ 12 ∧ ∀ z, Q (.str z) H1
theorem pe_fs {a b : Str} {v : Expr} {tv : TE} {j1 j2 : Nat} {p1 p2 p3 pos : Pos} (hv : PE X v tv) (ha : a.length ≤ 1000) (hb : b.length ≤ 1000) :
    PE X (.JoinedStr [.Constant (.str a) j1 p1, .FormattedValue v (-1) none p2, .Constant (.str b) j2 p3] pos) (tFs tv) := by
  intro pins s σ H Q I h
  refine wpAny_JoinedStr ?_
  have z1 : (Str.empty ++ a).length ≤ sizeLine := by rw [strLen_append, sizeLine_eq]; show 0 + _ ≤ _; omega
  refine Calls.Constant_str ⟨a, _, rfl, z1, ?_⟩
  refine wpAny_FormattedValue_plain (thn (hv pins _ σ H _ (I.tok _) h) fun u s1 ⟨x, H1, I1, rx, i, e, hi, q⟩ => ?_)
  subst e
  obtain ⟨t, rfl⟩ := rx
  have li := int_text_length_le10 (k := 12) (by decide) hi
  have lg : i.natAbs.log2 < 1920 := by
    by_cases h0 : i.natAbs = 0
    · rw [h0]; decide
    · exact Nat.lt_of_lt_of_le ((Nat.log2_lt (k := 40) h0).mpr (Nat.lt_of_lt_of_le hi (by decide))) (by decide)
  have z2 : (Str.empty ++ a ++ Str.ofString (toString i)).length ≤ sizeLine := by rw [strLen_append, strLen_append, PySem.ofString_length, sizeLine_eq]; show 0 + _ + _ ≤ _; omega
  refine wpAny_formatField_int lg ⟨_, _, rfl, z2, ?_⟩
  have z3 : (Str.empty ++ a ++ Str.ofString (toString i) ++ b).length ≤ sizeLine := by rw [strLen_append, strLen_append, strLen_append, PySem.ofString_length, sizeLine_eq]; show 0 + _ + _ + _ ≤ _; omega
  exact Calls.Constant_str ⟨b, _, rfl, z3, z3, ⟨.str _, H1, ((I1.tok _).tok _).tok _, ⟨_, rfl⟩, q _⟩⟩
/-- t != u, words -/
def rNeW : R2 := fun x y H Q => ∃ a b : List Int, Word H x a ∧ Word H y b ∧ Q (.bl (decide (a ≠ b))) H
theorem op_neW (hu : X.A.units + 64 < cLine) : OpR X (compareOp .NotEq) rNeW := by
  intro pins s σ H x y v u Q I rx ry h
  obtain ⟨ns, ms, ⟨p, rfl, hp⟩, ⟨r, rfl, hr⟩, hQ⟩ := h
  cases rx
  cases ry
  obtain ⟨_, its, r1, p1⟩ := (show ObjOk X.prog X.w H s.heap p (.tup (ns.map V.int)) from I.hok p _ hp)
  obtain ⟨_, its2, r2, p2⟩ := (show ObjOk X.prog X.w H s.heap r (.tup (ms.map V.int)) from I.hok r _ hr)
  have l1 : ns.length = its.length := by simpa using r1.length
  have l2 : ms.length = its2.length := by simpa using r2.length
  refine SeqAt.RcNeAt.tuples (e := fun j => ns.getD j 0 == ms.getD j 0) p1 p2 (by omega) (fun j h1 h2 => ?_) X.prog X.w _ _ ⟨.bl (decide (ns ≠ ms)), H, I, ?_, hQ⟩
  · obtain ⟨t1, e1⟩ := ints_at r1 h1
    obtain ⟨t2, e2⟩ := ints_at r2 h2
    rw [e1, e2]
    exact SeqAt.EqAt.int_int _ _ _ _
  · show Value.bool _ = Value.bool _
    congr 1
    rw [decide_not]
    congr 1
    rw [Bool.eq_iff_iff, Bool.and_eq_true, List.all_eq_true, decide_eq_true_iff, beq_iff_eq]
    simp only [List.size_toArray]
    constructor
    · rintro ⟨z, zl⟩
      refine List.ext_getElem (by omega) fun i h1 h2 => ?_
      have := z i (List.mem_range.mpr (by omega))
      simpa [h1, h2] using this
    · intro z
      subst z
      exact ⟨fun i _ => by simp, by omega⟩
end
end L2

/-! the one sum that a list of words comes to; tables of sums -/
namespace L2
open PySem PySem.Spec PyProof.Rows
theorem lex_trans {x y z : List Int} (h1 : lexLt x y = true) (h2 : lexLt y z = true) : lexLt x z = true := by
  rcases lex_neg x z y h1 with h | h
  · exact h
  · rw [lex_asym _ _ h2] at h; cases h
def tog (w : List Int) : WS → WS
  | [] => [w]
  | x :: r => if w = x then r else if lexLt w x = true then w :: x :: r else x :: tog w r
theorem tog_ok (w : List Int) : ∀ {r : WS}, SR r → SR (tog w r) ∧ ∀ y, y ∈ tog w r ↔ if y = w then w ∉ r else y ∈ r
  | [], _ => ⟨List.pairwise_singleton _ _, fun y => by by_cases e : y = w <;> simp [tog, e]⟩
  | x :: r, h => by
    obtain ⟨p, q⟩ := List.pairwise_cons.mp h
    have nx : x ∉ r := fun m => by have := p x m; rw [lex_irr] at this; cases this
    unfold tog
    by_cases e : w = x
    · subst e
      rw [if_pos rfl]
      refine ⟨q, fun y => ?_⟩
      by_cases e : y = w
      · subst e; simp [nx]
      · simp [e]
    · rw [if_neg e]
      by_cases l : lexLt w x = true
      · rw [if_pos l]
        have nw : w ∉ x :: r := fun m => by
          rcases List.mem_cons.mp m with z | z
          · exact e z
          · rw [lex_asym _ _ (p w z)] at l; cases l
        refine ⟨List.pairwise_cons.mpr ⟨fun y hy => ?_, h⟩, fun y => ?_⟩
        · rcases List.mem_cons.mp hy with rfl | hy
          · exact l
          · exact lex_trans l (p y hy)
        · by_cases e : y = w
          · subst e; rw [if_pos rfl]; exact ⟨fun _ => nw, fun _ => List.mem_cons_self⟩
          · rw [if_neg e, List.mem_cons]; simp [e]
      · rw [if_neg l]
        have l' : lexLt x w = true := by
          cases q : lexLt x w with
          | true => rfl
          | false => exact absurd (lex_tri _ _ (by simpa using l) q) e
        obtain ⟨i1, i2⟩ := tog_ok w q
        refine ⟨List.pairwise_cons.mpr ⟨fun y hy => ?_, i1⟩, fun y => ?_⟩
        · have := (i2 y).mp hy
          by_cases z : y = w
          · rw [z]; exact l'
          · rw [if_neg z] at this; exact p y this
        · rw [List.mem_cons, i2 y]
          by_cases z : y = w
          · subst z; simp [e]
          · simp [z]
def canon : WS → WS
  | [] => []
  | w :: L => tog w (canon L)
theorem canon_odd : ∀ L : WS, IsOdd L (canon L)
  | [] => odd_nil
  | w :: L => by
    have ih := canon_odd L
    obtain ⟨a, b⟩ := tog_ok w ih.rise
    refine ⟨a, fun y => ?_⟩
    show y ∈ tog w (canon L) ↔ _
    rw [b y, List.count_cons]
    have m := ih.mem y
    by_cases e : y = w
    · subst e
      rw [if_pos rfl]
      simp only [beq_self_eq_true, if_true]
      constructor
      · intro h; have := mt m.mpr h; omega
      · intro h z; have := m.mp z; omega
    · have e' : ¬ w = y := fun z => e z.symm
      rw [if_neg e, m]
      simp [e']
theorem IsOdd.canon {L r : WS} (x : IsOdd L r) : r = canon L := x.one (canon_odd L)
def plusF (A B : WS) : WS := canon (A ++ B)
def timesF (A B : WS) : WS := canon (prd A B)
/-! rows and tables in the heap -/
def RowAt (H : Hp) (r : Addr) (n : Nat) (f : Nat → WS) : Prop := ∃ xs, H r = some (.lst xs) ∧ xs.length = n ∧ ∀ (j : Nat) (x : V), xs[j]? = some x → ∃ e, x = .ref e ∧ WL H e (f j)
theorem RowAt.same {H H' : Hp} {r : Addr} {n : Nat} {f : Nat → WS} (s : Same H H') (x : RowAt H r n f) : RowAt H' r n f :=
  let ⟨xs, a, b, c⟩ := x; ⟨xs, s _ _ a, b, fun j x h => let ⟨e, p, q⟩ := c j x h; ⟨e, p, q.same s⟩⟩
theorem RowAt.congr {H : Hp} {r : Addr} {n : Nat} {f g : Nat → WS} (x : RowAt H r n f) (h : ∀ j, j < n → f j = g j) : RowAt H r n g := by
  obtain ⟨xs, a, b, c⟩ := x
  refine ⟨xs, a, b, fun j x hx => ?_⟩
  obtain ⟨e, p, q⟩ := c j x hx
  have := (List.getElem?_eq_some_iff.mp hx).1
  exact ⟨e, p, by rw [← h j (by omega)]; exact q⟩
theorem RowAt.at {H : Hp} {r : Addr} {n : Nat} {f : Nat → WS} (x : RowAt H r n f) {j : Nat} (h : j < n) : ∃ (xs : List V) (e : Addr), H r = some (.lst xs) ∧ xs.length = n ∧ xs[j]? = some (.ref e) ∧ WL H e (f j) := by
  obtain ⟨xs, a, b, c⟩ := x
  obtain ⟨e, p, q⟩ := c j (xs[j]'(by omega)) (by simp)
  exact ⟨xs, e, a, b, by rw [← p]; simp, q⟩
/-- a row is no sum -/
theorem row_ne {H : Hp} {r e : Addr} {n : Nat} {f : Nat → WS} {L : WS} (x : RowAt H r n f) (hn : 0 < n) (y : WL H e L) : e ≠ r := fun z => by
  obtain ⟨xs, e0, a, b, c, us, d, _⟩ := x.at hn
  subst z
  obtain ⟨ys, a', w⟩ := y
  rw [a] at a'
  have hxy : xs = ys := by injection a' with a'; injection a'
  subst hxy
  obtain ⟨_, _, t, ht, hh⟩ := Words.get w c
  cases ht
  rw [d] at hh
  cases hh
theorem WL.upd {H : Hp} {e r : Addr} {L : WS} {xs ys : List V} (hr : H r = some (.lst xs)) (n : e ≠ r) (y : WL H e L) : WL (L2.upd H r (.lst ys)) e L := by
  obtain ⟨us, a, w⟩ := y
  refine ⟨us, by rw [upd_ne n]; exact a, Words.mono (fun t p q => ?_) w⟩
  rw [upd_ne (fun z => by subst z; rw [hr] at q; cases q)]; exact q
def Mat (H : Hp) (A : List Addr) (m n : Nat) (F : Nat → Nat → WS) : Prop := A.length = m ∧ A.Nodup ∧ ∀ (i : Nat) (r : Addr), A[i]? = some r → RowAt H r n (F i)
theorem Mat.same {H H' : Hp} {A : List Addr} {m n : Nat} {F : Nat → Nat → WS} (s : Same H H') (x : Mat H A m n F) : Mat H' A m n F := ⟨x.1, x.2.1, fun i r h => (x.2.2 i r h).same s⟩
theorem Mat.congr {H : Hp} {A : List Addr} {m n : Nat} {F G : Nat → Nat → WS} (x : Mat H A m n F) (h : ∀ i j, i < m → j < n → F i j = G i j) : Mat H A m n G :=
  ⟨x.1, x.2.1, fun i r e => (x.2.2 i r e).congr fun j hj => h i j (by have := (List.getElem?_eq_some_iff.mp e).1; have := x.1; omega) hj⟩
def set2 (F : Nat → Nat → WS) (i j : Nat) (L : WS) : Nat → Nat → WS := fun a b => if a = i ∧ b = j then L else F a b
/-- rows[i][j] = a sum -/
theorem Mat.put {H : Hp} {A : List Addr} {m n i j : Nat} {F : Nat → Nat → WS} {r e : Addr} {xs : List V} {L : WS} (x : Mat H A m n F) (hi : A[i]? = some r) (hr : H r = some (.lst xs)) (hj : j < n) (we : WL H e L) :
    Mat (upd H r (.lst (xs.set j (.ref e)))) A m n (set2 F i j L) := by
  have R := x.2.2 i r hi
  have hn : 0 < n := by omega
  refine ⟨x.1, x.2.1, fun i' r' h' => ?_⟩
  by_cases z : r' = r
  · subst z
    have e1 : i' = i := by
      obtain ⟨h1, e1⟩ := List.getElem?_eq_some_iff.mp h'
      obtain ⟨h2, e2⟩ := List.getElem?_eq_some_iff.mp hi
      exact (List.getElem_inj x.2.1).mp (e1.trans e2.symm)
    subst e1
    obtain ⟨us, a, b, c⟩ := R
    rw [hr] at a
    have hxy : xs = us := by injection a with a; injection a
    subst hxy
    refine ⟨_, upd_same, by rw [List.length_set]; exact b, fun j' y hy => ?_⟩
    rw [List.getElem?_set] at hy
    by_cases q : j = j'
    · subst q
      rw [if_pos rfl, if_pos (by omega)] at hy
      cases hy
      refine ⟨e, rfl, ?_⟩
      unfold set2
      rw [if_pos ⟨rfl, rfl⟩]
      exact we.upd hr (row_ne (x.2.2 i' _ hi) hn we)
    · rw [if_neg q] at hy
      obtain ⟨e', p', w'⟩ := c j' y hy
      refine ⟨e', p', ?_⟩
      unfold set2
      rw [if_neg (fun z => q z.2.symm)]
      exact w'.upd hr (row_ne (x.2.2 i' _ hi) hn w')
  · obtain ⟨us, a, b, c⟩ := x.2.2 i' r' h'
    refine ⟨us, by rw [upd_ne z]; exact a, b, fun j' y hy => ?_⟩
    obtain ⟨e', p', w'⟩ := c j' y hy
    refine ⟨e', p', ?_⟩
    unfold set2
    rw [if_neg (fun q => z (by
      have := q.1
      subst this
      rw [h'] at hi
      exact Option.some.inj hi))]
    exact w'.upd hr (row_ne R hn w')
def Tab (H : Hp) (a : Addr) (n : Nat) (F : Nat → Nat → WS) : Prop := ∃ A, H a = some (.lst (A.map V.ref)) ∧ Mat H A n n F
theorem Tab.same {H H' : Hp} {a : Addr} {n : Nat} {F : Nat → Nat → WS} (s : Same H H') (x : Tab H a n F) : Tab H' a n F := let ⟨A, e, q⟩ := x; ⟨A, s _ _ e, q.same s⟩
theorem Tab.congr {H : Hp} {a : Addr} {n : Nat} {F G : Nat → Nat → WS} (x : Tab H a n F) (h : ∀ i j, i < n → j < n → F i j = G i j) : Tab H a n G := let ⟨A, e, q⟩ := x; ⟨A, e, q.congr h⟩
/-- table[i] -/
theorem Tab.row {H : Hp} {a : Addr} {n : Nat} {F : Nat → Nat → WS} (x : Tab H a n F) {i : Nat} (h : i < n) : ∃ (ys : List V) (r : Addr), H a = some (.lst ys) ∧ ys.length = n ∧ ys[i]? = some (.ref r) ∧ RowAt H r n (F i) := by
  obtain ⟨A, e, q⟩ := x
  have hl := q.1
  refine ⟨_, A[i]'(by omega), e, by rw [List.length_map]; exact hl, by simp [show i < A.length by omega], q.2.2 i _ (by simp)⟩
/-- rows made one by one -/
theorem Mat.snoc {H : Hp} {A : List Addr} {m n : Nat} {F : Nat → Nat → WS} {r : Addr} (x : Mat H A m n F) (hn : r ∉ A) (hr : RowAt H r n (F m)) : Mat H (A ++ [r]) (m + 1) n F := by
  refine ⟨by rw [List.length_append, x.1]; rfl, ?_, fun i r' h => ?_⟩
  · rw [List.nodup_append]
    exact ⟨x.2.1, by simp, fun a ha b hb e => hn (by rw [List.mem_singleton.mp hb] at e; exact e ▸ ha)⟩
  · by_cases hi : i < m
    · rw [List.getElem?_append_left (by rw [x.1]; exact hi)] at h
      exact x.2.2 i r' h
    · rw [List.getElem?_append_right (by rw [x.1]; omega)] at h
      have : i - A.length = 0 := by
        have := (List.getElem?_eq_some_iff.mp h).1
        simp at this; omega
      rw [this] at h
      cases h
      have : i = m := by have := x.1; omega
      subst this
      exact hr
theorem mat_nil {H : Hp} {n : Nat} {F : Nat → Nat → WS} : Mat H [] 0 n F := ⟨rfl, .nil, fun i r h => by simp at h⟩
theorem Mat.fresh {H : Hp} {A : List Addr} {m n : Nat} {F : Nat → Nat → WS} (x : Mat H A m n F) {p : Addr} (h : H p = none) : p ∉ A := fun z => by
  obtain ⟨i, hi, e⟩ := List.getElem_of_mem z
  obtain ⟨us, a, _⟩ := x.2.2 i p (by rw [← e]; simp)
  rw [h] at a; cases a
/-! what stands behind each letter -/
def bornF (k : Nat) (F : Nat → Nat → WS) : Nat → Nat → WS := fun i j =>
  if i = k ∧ j = k + 1 then [[]] else if i = k ∨ i = k + 1 ∨ j = k ∨ j = k + 1 then [] else F (if i < k then i else i - 2) (if j < k then j else j - 2)
def crossF (k : Nat) (t : Int) (F : Nat → Nat → WS) : Nat → Nat → WS := fun i j =>
  if i = k ∧ j = k + 1 then [] else if i = k ∧ k + 2 ≤ j then F (k + 1) j else if i = k + 1 ∧ k + 2 ≤ j then plusF (F k j) (timesF [[t]] (F (k + 1) j))
  else if i < k ∧ j = k + 1 then F i k else if i < k ∧ j = k then plusF (F i (k + 1)) (timesF (F i k) [[t]]) else F i j
def ontoF (k : Nat) (t : Int) (F : Nat → Nat → WS) : Nat → WS := fun i => plusF (F i (k + 1)) (timesF (F i k) [[t]])
def offF (k : Nat) (t : Int) (F : Nat → Nat → WS) : Nat → WS := fun j => plusF (F k j) (timesF [[t]] (F (k + 1) j))
def endF (k : Nat) (t : Int) (F : Nat → Nat → WS) : Nat → Nat → WS := fun i j =>
  if i < k ∧ k ≤ j then plusF (F i (j + 2)) (timesF (ontoF k t F i) (offF k t F (j + 2))) else F (if i < k then i else i + 2) (if j < k then j else j + 2)
end L2

namespace L2
open PySem PySem.Spec PyProof.Rows
section
variable {X : Cx}
end
end L2

/-! try with an except that names nothing: what is known of the names stays -/
namespace L2
open PySem PySem.Spec PyProof.Rows
def xeS (X : Cx) (R : L2.St → Addr → Hp → Prop) : Value → Shared → Prop := fun e s' => ∃ (a T C : Addr) (σ' : L2.St) (H' : Hp), e = .ref a ∧ Inv X [] σ' H' s' ∧ Exc s'.heap a T (.ref C) ∧ X.s₀.heap.get? a = none ∧ X.s₀.heap.get? T = none ∧
  H' a = none ∧ H' T = none ∧ (∀ p ∈ X.pn, p.1 ≠ a ∧ p.1 ≠ T) ∧ R σ' C H'
abbrev ES (R : L2.St → Addr → Hp → Prop) (σ : L2.St) : XK := fun c _ H' => ∃ C, c = .ref C ∧ R σ C H'
def tCallS (sp : Sp) (E : L2.St → XK) (t : TA) : TE := fun σ H Q => t σ H fun vs H1 => sp vs H1 Q (E σ)
section
variable {X : Cx} {pins : List (Addr × Obj)} {σ : L2.St} {H : Hp} {s : Shared} {R : L2.St → Addr → Hp → Prop}
theorem passS (hex : X.ex = []) : ∀ (pins : List (Addr × Obj)) (σ : L2.St) (H : Hp) (s : Shared) (e : Value) (s' : Shared), Inv (X.wish (xeS X R)) pins σ H s → CX1 X.prog X.w X.stack H s (ES R σ) e s' → xeS X R e s' := by
  intro pins σ H s e s' I c
  obtain ⟨a, T, C, H', rfl, os, bare, un, ok, ex, na, nT, ha, hT, C', hC, hR⟩ := c
  cases hC
  have I0 := I.unwish
  have I' : Inv X pins σ H' s' := I0.call' os un ok bare (fun b z => nomatch z)
  have old : ∀ b, s.heap.get? b = none → X.s₀.heap.get? b = none := fun b e => by
    cases q : X.s₀.heap.get? b with
    | none => rfl
    | some o =>
      obtain ⟨o', z⟩ := I0.base.there b o q (by rw [hex]; exact fun y => nomatch y)
      rw [e] at z
      cases z
  have pin : ∀ b, s.heap.get? b = none → ∀ p ∈ X.pn, p.1 ≠ b := fun b e p hp z => by
    have := (I0.pin p (List.mem_append_left _ hp)).1
    rw [z, e] at this
    cases this
  exact ⟨a, T, C, σ, H', rfl, I'.pins_of (fun p hp => nomatch hp), ex, old a na, old T nT, ha, hT, fun p hp => ⟨pin a na p hp, pin T nT p hp⟩, hR⟩
theorem pe_hasXS {k : Nat} {x : Str} {ps : List Str} {sp : Sp} {p pos : Pos} {e : Expr} {es : List Expr} {t : TA} {E : L2.St → XK} (h : HasX X.prog X.w X.K X.mg X.base k x ps sp) (hr : Room k X.A) (hx : ∀ (pins : List (Addr × Obj)) (σ : L2.St) (H : Hp) (s : Shared) (e : Value) (s' : Shared), Inv X pins σ H s → CX1 X.prog X.w X.stack H s (E σ) e s' → X.xe e s') (ha : PA X (e :: es) t) (hg : Gl X x := by rfl) (hdb : (x == ("__debug__" : Str)) = false := by decide)
    (he : starEach (e :: es) X.env = (false, eval e X.env) :: starEach es X.env := by rfl) (hpl : (backTo pos (starEach es X.env)).any (·.1) = false := by rfl) : PE X (.Call (.Name x p) (e :: es) [] pos) (tCallS sp E t) := by
  obtain ⟨f, fd, F, hm, hk, hb⟩ := h
  intro pins s σ H Q I h
  refine wpAny_Call_Name_kw (ld_glob I hg hm ?_ hdb)
  refine PySem.W.callWith_K (h₀ := X.base) I.ok.mod.kin hk (thn (ha pos pins s σ H _ I h) fun us s1 ⟨vs, H1, I1, r, q⟩ => ⟨I1.kIn, ?_⟩) he hpl
  have hl : (us ++ []).length = ps.length := by rw [List.append_nil, ← r.length]; exact F.len _ _ _ _ q
  rw [← List.append_nil vs] at q
  refine wpAny_call (codeAny_mono (F.run X.A X.stack s1 H1 ⟨us, []⟩ (us ++ []) (vs ++ []) Q (E σ) hr I1.env0 (hb s1 us I1.kIn hl) (r.append .nil) q) fun r s' hq => ?_)
  cases r with
  | error e => exact hx pins σ H1 s1 e s' I1 hq
  | ok fl =>
    cases fl with
    | ret u => exact I1.after hq
    | next => exact False.elim hq
    | brk => exact False.elim hq
    | cont => exact False.elim hq
def tTryN (R : L2.St → Addr → Hp → Prop) (tb th : TS) : TS := fun D σ H => tb D σ H ∧ ∀ (C : Addr) (σ' : L2.St) (H' : Hp), R σ' C H' → th D σ' H'
theorem ps_tryN {body suite : List Stmt} {b₀ : Stmt} {cx : Str} {Dc : Addr} {tb th : TS} {np hpos pos : Pos} {newId : String} (R : L2.St → Addr → Hp → Prop) (hb : ∀ pins, PSs ((X.nailed pins).wish (xeS (X.nailed pins) R)) body tb) (hs : ∀ pins a, PSs (X.suite pins a) (b₀ :: suite) th)
    (hg : Gl X cx) (hm : X.mg cx = some (.ref Dc)) (hcD : PySem.W.excIn X.K Dc bmV newId = true) (hR : ∀ σ C H', R σ C H' → PySem.W.mroIn X.K C (.ref Dc) = some true)
    (hex : X.ex = [] := by rfl) (hst : X.stack = X.env :: X.outer := by rfl) (hfr : X.env.frame = some X.env.locals := by rfl) (hd : (cx == ("__debug__" : Str)) = false := by decide) :
    PS X (.Try body [.ExceptHandler (some (.Name cx np)) none (b₀ :: suite) hpos] [] [] pos) (tTryN R tb th) := by
  intro pins s σ H D I hw
  obtain ⟨hw1, hw2⟩ := hw
  refine wpAny_Try_except ?_
  refine wpAny_mono (hb pins [] s σ H D (I.nail.wish _) hw1) (fun f s1 q => ?_) (fun e s1 xe => ?_)
  · cases f with
    | next => obtain ⟨σ', H', I', d⟩ := q; exact wpAny_execs_nil ⟨σ', H', I'.unwish.unnail, d⟩
    | brk => obtain ⟨σ', H', I', d⟩ := q; exact ⟨σ', H', I'.unwish.unnail, d⟩
    | cont => obtain ⟨σ', H', I', d⟩ := q; exact ⟨σ', H', I'.unwish.unnail, d⟩
    | ret u => obtain ⟨v, σ', H', I', r, d⟩ := q; exact ⟨v, σ', H', I'.unwish.unnail, r, d⟩
  · obtain ⟨a, T, C, σ', H', rfl, I', ex, a0, T0, ha, hT, np', hR'⟩ := xe
    have ok : X.Ok := I.ok
    have np1 : ∀ p ∈ (X.nailed pins).pn ++ [], p.1 ≠ a ∧ p.1 ≠ T := fun p hp => np' p (by simpa using hp)
    refine looked (L := X.env.locals) (outer := X.outer) (base := X.base) (by rw [← hst]; exact ok.frames) hfr (by rw [← hst]; exact I'.stack) ex fun h2 T2 keep slot ex2 oT => ?_
    have I2 : Inv (X.nailed pins) [] σ' H' { s1 with heap := h2 } := I'.left hex ⟨ha, a0⟩ ⟨hT, T0⟩ np1 ⟨_, ex⟩ (by show ∀ b o, _ → b ∉ frs X.stack → _; rw [hst]; exact keep) (by show ∀ b o, _ → b ∈ frs X.stack → _; rw [hst]; exact slot)
    have old : ∀ {h : Heap} {σ'' : L2.St} {s2 : Shared}, Inv (X.nailed pins) [] σ'' H' s2 → ∀ b, s2.heap.get? b = none → H' b = none ∧ X.s₀.heap.get? b = none ∧ ∀ p ∈ (X.nailed pins).pn, p.1 ≠ b := fun J b e => by
      refine ⟨none_of_heap J.hok e, ?_, fun p hp z => ?_⟩
      · cases q : X.s₀.heap.get? b with
        | none => rfl
        | some o =>
          obtain ⟨o', z⟩ := J.base.there b o q (by show b ∉ X.ex; rw [hex]; exact fun y => nomatch y)
          rw [e] at z
          cases z
      · have := (J.pin p (List.mem_append_left _ hp)).1
        rw [z, e] at this
        cases this
    have T2f : H' T2 = none ∧ X.s₀.heap.get? T2 = none ∧ ∀ p ∈ (X.nailed pins).pn, p.1 ≠ T2 := by
      rcases oT with z | z
      · rw [z]; exact ⟨hT, T0, fun p hp => (np' p hp).2⟩
      · exact old (h := s1.heap) I' T2 z
    obtain ⟨bmD, ND, nmD, qnD, bsD, hdD, snD, subD, abD, colD, ddD, j0, j1, j2, j3, j5, mD, hD, hND, hniD, TD⟩ := exc_of I2.kIn hcD
    have hbD : bmD.contains (.type "BaseException") = true := TD.hasType PySem.F.excBase_ValueError.hasBase
    refine wpAny_handleBy_cons (codeAny_handlers_test ?_) (fun z => nomatch z)
    refine ld_glob (X := X.suite pins a) (I2.suite ok a) hg hm ?_ hd
    obtain ⟨oe, vs, oT', ts, x1, x2, x3⟩ := id ex2
    refine match_own hD x1 x2 hbD (PySem.W.looks_mroIn I2.kIn (hR σ' C H' hR')) ?_
    refine codeAny_handlers_suite ?_
    refine landed (s := { s1 with heap := h2 }) ex2 fun h3 keep3 ⟨T3, ex3, oT3⟩ => ?_
    have np2 : ∀ p ∈ (X.nailed pins).pn ++ [], p.1 ≠ a ∧ p.1 ≠ T2 := fun p hp => ⟨(np1 p hp).1, T2f.2.2 p (by simpa using hp)⟩
    have I3 : Inv (X.nailed pins) [] σ' H' { s1 with heap := h3 } := I2.left hex ⟨ha, a0⟩ ⟨T2f.1, T2f.2.1⟩ np2 ⟨_, ex2⟩ (fun b o e _ z1 z2 => keep3 b o e z1 z2) (fun b o e hb => by
      obtain ⟨_, o', e', dd⟩ := I2.stack.mem hb
      rw [e] at e'
      cases e'
      have n := ex2.ne_dict e dd
      exact ⟨o.slots, keep3 b o e n.1 n.2⟩)
    refine wpAny_mono (hs pins a [] _ _ _ _ (I3.suite ok a) (hw2 C σ' H' hR')) (fun f s7 q => ?_) (fun _ _ z => z.elim)
    cases f with
    | next => obtain ⟨σ7, H7, I7, dq⟩ := q; exact ⟨_, H7, I7.unsuite ok, dq⟩
    | brk => obtain ⟨σ7, H7, I7, dq⟩ := q; exact ⟨_, H7, I7.unsuite ok, dq⟩
    | cont => obtain ⟨σ7, H7, I7, dq⟩ := q; exact ⟨_, H7, I7.unsuite ok, dq⟩
    | ret u => obtain ⟨v, σ7, H7, I7, r, dq⟩ := q; exact ⟨v, _, H7, I7.unsuite ok, r, dq⟩
end
end L2

/-! range(n - 1, -1, -1) walked by for -/
namespace L2
open PySem PySem.Spec PyProof.Rows
def ItrD (lo : Int) (n : Nat) : It := ⟨fun i _ => i < n, fun i H x H' => H' = H ∧ x = .int (lo + i * (-1)), fun i _ => n ≤ i⟩
theorem turn_rangeD {P : Program} {w : World} {K : PySem.W.Frag} {tg : Expr} (it : Addr) (lo : Int) (n : Nat) : Turn P w K tg (ItrD lo n) [it] it (fun i h => IsRangeIter h it (lo + (i : Nat) * (-1)) ((n : Int) - (i : Nat)) (-1)) where
  mem := by simp
  obj := fun i h st b hb => by
    have e : b = it := by simpa using hb
    subst e
    exact ⟨_, st, fun v z => by
      have z' : Data.fields _ = Data.cell v := z
      cases z'⟩
  keep := fun i h h' st k => k it (by simp) _ st
  item := by
    intro X hP hw hK hc i pins s σ H E I hf st hg
    subst hP hw hK
    obtain ⟨f0, f1, f2, f3, f4, f5⟩ := hf it (by simp)
    have W := Walks.range (prog := X.prog) (w := X.w) (I.ok.hd hc) it lo (-1) n
    refine W.item i s _ _ hg st fun v h' tk hv st' kk => ?_
    obtain ⟨t, rfl⟩ := hv
    have I1 : Inv X pins σ H { s with heap := h', toks := tk } := I.turned (fun b o hb e => kk b o (by simpa using hb) e) f0 f1 f3 f4 f5
    exact ⟨_, rfl, go_of (s := { s with heap := h', toks := tk }) (n := "range_iterator") st' rfl rfl (by decide) ⟨.int (lo + i * (-1)), H, I1, ⟨t, rfl⟩, ⟨rfl, rfl⟩, st', fun b hb => (hf b hb).1⟩⟩
  done := by
    intro X hP hw hK hc i pins s σ H E I hf st hg
    subst hP hw hK
    obtain ⟨f0, f1, f2, f3, f4, f5⟩ := hf it (by simp)
    exact wpAny_pyNext_range_end (I.ok.hd hc) st (by have : n ≤ i := hg; omega) fun h' eb => ⟨rfl, I.turned (t' := s.toks) (fun b o hb e => eb b o hb e) f0 f1 f3 f4 f5⟩
  self := fun _ _ _ _ _ st h => wpAny_pyIter_rangeiter st h
section
variable {X : Cx} {tg : Expr}
/-- range(0, hi, 2) for an even hi -/
def iRngD (ta : TA) : TI := fun σ H R => ta σ H fun vs H1 => ∃ n : Nat, vs = [.int ((n : Int) - 1), .int (-1), .int (-1)] ∧ n < 100000 ∧ R (ItrD ((n : Int) - 1) n) H1
theorem size_down (n : Nat) : Builtin.Range.rangeSize ((n : Int) - 1) (-1) (-1) = n := by
  unfold Builtin.Range.rangeSize
  rw [if_neg (by decide)]
  split
  · rw [show (- -1 : Int) = 1 by decide, Int.ediv_one]; omega
  · omega
theorem small_down {n : Nat} (h : n < 100000) : Builtin.Range.small ((n : Int) - 1) (-1) (-1) = true := by
  unfold Builtin.Range.small
  rw [size_down]
  rw [if_neg (by decide), fits_small (i := (n : Int) - 1) (by omega) (by omega), fits_small (i := -1) (by omega) (by omega), fits_small (i := (n : Int)) (by omega) (by omega)]
  simp
  exact .inr (fits_small (by decide) (by decide))
theorem pi_rangeD {a b c : Expr} {ta : TA} {p pos : Pos} (hg : Gl X "range") (hm : X.mg "range" = none) (ha : PA X [a, b, c] ta) (hs : starEach [a, b, c] X.env = [(false, eval a X.env), (false, eval b X.env), (false, eval c X.env)] := by rfl) (hs2 : starEach [b, c] X.env = [(false, eval b X.env), (false, eval c X.env)] := by rfl) :
    PI X tg (.Call (.Name "range" p) [a, b, c] [] pos) (iRngD ta) := by
  intro pins s σ H R I h
  refine Call_ (ld_blt I hg hm boot_range (PyProof.Rows.callWith_type1 (thn (ha pos pins s σ H _ I h) fun us s1 ⟨vs, H1, I1, r1, q1⟩ => ?_) (by rw [hs, hs2]) (by rw [hs2]; rfl)))
  obtain ⟨n, e, hn, q⟩ := q1
  subst e
  cases r1 with
  | cons r rr =>
    cases rr with
    | cons r' rr =>
      cases rr with
      | cons r2 rr =>
        cases rr
        obtain ⟨t, rfl⟩ := r
        obtain ⟨t', rfl⟩ := r'
        obtain ⟨t2, rfl⟩ := r2
        refine call_range_3 (by decide) ?_ (Or.inl (PyProof.noPylong_small (by omega)))
        refine wpAny_pyIter_range (IsRange.new ..) (small_down hn) ?_
        have I2 : Inv X pins σ H1 { s1 with heap := s1.heap.push { cls := .type "range", data := .fields #[.int ((n : Int) - 1) t, .int (-1) t', .int (-1) t2] } } := I1.kept (t' := s1.toks) fun b o e => Heap.get?_push_of_some _ e
        refine ⟨(s1.heap.push { cls := .type "range", data := .fields #[.int ((n : Int) - 1) t, .int (-1) t', .int (-1) t2] }).objs.size, [(s1.heap.push { cls := .type "range", data := .fields #[.int ((n : Int) - 1) t, .int (-1) t', .int (-1) t2] }).objs.size], _, _, H1, rfl,
          I2.kept (t' := s1.toks) fun b o e => Heap.get?_push_of_some _ e, turn_rangeD _ ((n : Int) - 1) n, ?_, fun b hb => ?_, q⟩
        · have e1 : ((n : Int) - 1) + ((0 : Nat) : Int) * (-1) = (n : Int) - 1 := by simp
          have e2 : ((n : Nat) : Int) - ((0 : Nat) : Int) = Builtin.Range.rangeSize ((n : Int) - 1) (-1) (-1) := by rw [size_down]; simp
          show IsRangeIter _ _ (((n : Int) - 1) + ((0 : Nat) : Int) * (-1)) (((n : Nat) : Int) - ((0 : Nat) : Int)) (-1)
          rw [e1, e2]
          exact Heap.get?_push_size _ rfl
        · have e : b = (s1.heap.push { cls := .type "range", data := .fields #[.int ((n : Int) - 1) t, .int (-1) t', .int (-1) t2] }).objs.size := by simpa using hb
          subst e
          exact I2.fpOk (Nat.le_refl _) (I2.hok.fresh (Nat.le_refl _))
end
theorem for_rangeD {lo : Int} {n : Nat} {g : TG} {tb : TS} {D : Ends} {σ : L2.St} {H : Hp} (Pv : Nat → L2.St → Hp → Prop) (h0 : Pv 0 σ H)
    (hs : ∀ i σ H, i < n → Pv i σ H → g (.int (lo + i * (-1))) σ H fun σ2 H2 => tb { D with nx := Pv (i + 1), ct := Pv (i + 1), bk := D.nx } σ2 H2) (hd : ∀ σ H, Pv n σ H → D.nx σ H) :
    ∃ W : Nat → Nat → L2.St → Hp → Prop, (∃ m, W 0 m σ H) ∧ ∀ i m σ H, W i m σ H →
      ((ItrD lo n).stop i H ∧ D.nx σ H) ∨ ((ItrD lo n).go i H ∧ ∃ N : L2.St → Hp → Prop, (∀ σ' H', N σ' H' → ∃ m', m' < m ∧ W (i + 1) m' σ' H') ∧ ∀ x H', (ItrD lo n).yld i H x H' → g x σ H' fun σ2 H2 => tb { D with nx := N, ct := N, bk := D.nx } σ2 H2) := by
  refine ⟨fun i m σ H => m = n - i ∧ i ≤ n ∧ Pv i σ H, ⟨n, by simp, Nat.zero_le _, h0⟩, ?_⟩
  rintro i m σ H ⟨rfl, hi, p⟩
  by_cases hlt : i < n
  · refine .inr ⟨hlt, Pv (i + 1), fun σ' H' p' => ⟨n - (i + 1), by omega, rfl, hlt, p'⟩, fun x H' y => ?_⟩
    obtain ⟨rfl, rfl⟩ := y
    exact hs i σ _ hlt p
  · exact .inl ⟨by show n ≤ i; omega, hd σ H ((show i = n by omega) ▸ p)⟩
end L2

namespace Qk17
open PySem L2 PyProof.Rows
def top (i : Nat) : Stmt := PySem.Challenge.pw_bendfronts_k17_left_walks.main.body.getD i (.Pass ⟨0, 0, 0, 0⟩)
section
variable {P : Program} {w : World} {K : PySem.W.Frag} {mg : Str → Option Value} {base : Heap}
/-! ### bag and take -/
def spTake : Sp := fun vs H Q _ => ∃ (b : Addr) (m : Int), vs = [.ref b, .int m] ∧ Bag H b ∧ 1 ≤ m ∧ m < 1073741824 ∧ ∀ (d : Int) (H' : Hp), 0 ≤ d → d < m → Bag H' b → Frm b H H' → Q (.int d) H'
abbrev s__law_take : Stmt := top 20
theorem sc__law_take : FnScope ["_law_bag_here", "_law_many", "_law_digit"] ["_law_bag_here", "_law_many"] (defScope s__law_take) := ⟨rfl, rfl, rfl, by decide +kernel, rfl, by decide +kernel, by decide +kernel⟩
theorem ok_take {f : Addr} {fd : FuncData} (F : Fun K "_law_take" "_law_take" s__law_take f fd) : FnOk P w K mg base CX0 1 f fd ["_law_bag_here", "_law_many"] spTake := by
  refine F.ok sc__law_take (fun vs H Q E h => ?_) (fun cdv A outer s H vs Q E hr h => ?_)
  · obtain ⟨b, m, rfl, _⟩ := h
    rfl
  · obtain ⟨b, m, rfl, ⟨g, r, hg, hb⟩, h1, h2, k⟩ := h
    refine ⟨_, (pss_cons (ps_if (pt_cmpR op_gt (pe_ix (ix_listK (K := K) rfl) (pv 0) pe_int (fun _ _ => rfl)) pe_int (nomark _)) (pss_cons (ps_set (i := 2) sc__law_take.nd rfl (Or.inl rfl) (pe_op op_mod (pe_ix (ix_listK (K := K) rfl) (pv 0) pe_int (fun _ _ => rfl)) (pv 1)))
      (pss_cons (ps_asg (pe_op op_fdiv (pe_ix (ix_listK (K := K) rfl) (pv 0) pe_int (fun _ _ => rfl)) (pv 1)) (pg_sub (pv 0) pe_int set_list))
      (pss_one (ps_ret (pv 2))))) pss_nil)
      (pss_cons (ps_asg (pe_op op_mod (pe_op op_add (pe_op op_mul (pe_ix (ix_listK (K := K) rfl) (pv 0) pe_int (fun _ _ => rfl)) pe_int) pe_int) pe_int) (pg_sub (pv 0) pe_int set_list))
      (pss_one (ps_ret (pe_op op_mod (pe_op op_mod (pe_op op_pow (pe_op op_fdiv (pe_ix (ix_listK (K := K) rfl) (pv 0) pe_int (fun _ _ => rfl)) pe_int) pe_int) pe_int) (pv 1)))))), ?_⟩
    refine ⟨_, rfl, b, _, _, _, rfl, rfl, SqL.of hb, atI_nat (j := 0) rfl, _, _, rfl, rfl, _, rfl, ?_⟩
    refine ite2 (fun hp => ?_) (fun hp => ?_)
    · have hp' : 0 < g := of_decide_eq_true hp
      refine ⟨_, rfl, b, _, _, _, rfl, rfl, SqL.of hb, atI_nat (j := 0) rfl, _, rfl, _, _, rfl, rfl, (by omega : 0 < m), ?_⟩
      refine ⟨_, rfl, b, _, _, _, rfl, rfl, SqL.of hb, atI_nat (j := 0) rfl, _, rfl, _, _, rfl, rfl, ⟨by omega, by omega⟩, _, rfl, b, _, _, 0, rfl, rfl, hb, rfl, ?_⟩
      refine ⟨_, rfl, k _ _ (Int.emod_nonneg _ (by omega)) (Int.emod_lt_of_pos _ (by omega)) ⟨g / m, r, Int.ediv_nonneg (by omega) (by omega), upd_same⟩ Frm.upd⟩
    · refine ⟨_, rfl, b, _, _, _, rfl, rfl, SqL.of hb, atI_nat (j := 1) rfl, _, _, rfl, rfl, .inr ⟨by decide, by decide⟩, _, _, rfl, rfl, _, _, rfl, rfl, (show (0 : Int) < 2147483647 by decide), _, rfl, b, _, _, 1, rfl, rfl, hb, rfl, ?_⟩
      have e1 : 0 ≤ (r * 48271 + 11) % 2147483647 := Int.emod_nonneg _ (by decide)
      have e2 : (r * 48271 + 11) % 2147483647 < 2147483647 := Int.emod_lt_of_pos _ (by decide)
      refine ⟨_, rfl, b, _, _, _, rfl, rfl, SqL.of upd_same, atI_nat (j := 1) rfl, _, _, rfl, rfl, ⟨by decide, by decide⟩, _, _, rfl, rfl, ⟨by decide, by decide, by omega⟩, _, _, rfl, rfl, (show (0 : Int) < 2147483629 by decide), _, rfl, _, _, rfl, rfl, (by omega : 0 < m), ?_⟩
      exact k _ _ (Int.emod_nonneg _ (by omega)) (Int.emod_lt_of_pos _ (by omega)) ⟨g, _, hg, upd_same⟩ Frm.upd
def spBag (K : PySem.W.Frag) : Sp := fun vs H Q _ => ∃ (a : Addr) (i : Int) (ns : List Int), vs = [.ref a, .int i] ∧ SqL K H a (ns.map V.int) ∧ 0 ≤ i ∧ i < 1000 ∧ ∀ (l : Addr) (H' : Hp), H l = none → Same H H' → Bag H' l → Q (.ref l) H'
abbrev s__law_bag : Stmt := top 19
theorem sc__law_bag : FnScope ["_law_script", "_law_at", "_law_cell", "_law_great", "_law_primes"] ["_law_script", "_law_at"] (defScope s__law_bag) := ⟨rfl, rfl, rfl, by decide +kernel, rfl, by decide +kernel, by decide +kernel⟩
theorem ok_bag {f : Addr} {fd : FuncData} (F : Fun K "_law_bag" "_law_bag" s__law_bag f fd) (b_len : mg "len" = none) (b_abs : mg "abs" = none) : FnOk P w K mg base CX0 1 f fd ["_law_script", "_law_at"] (spBag K) := by
  refine F.ok sc__law_bag (fun vs H Q E h => ?_) (fun cdv A outer s H vs Q E hr h => ?_)
  · obtain ⟨a, i, ns, rfl, _⟩ := h
    rfl
  · obtain ⟨a, i, ns, rfl, hS, h0, h1, k⟩ := h
    refine ⟨_, (pss_cons (ps_set (i := 2) sc__law_bag.nd rfl (Or.inl rfl) pe_int)
      (pss_cons (ps_if (pt_cmpR op_lt (pv 1) (pe_callB (call_lenK (K := K) rfl) (by rfl) b_len PySem.boot_len (pa_cons (pv 0) pa_nil)) (nomark _)) (pss_one (ps_set (i := 2) sc__law_bag.nd rfl (Or.inl rfl) (pe_ix (ix_listK (K := K) rfl) (pv 0) (pv 1) (fun _ _ => rfl)))) pss_nil)
      (pss_cons (ps_set (i := 3) sc__law_bag.nd rfl (Or.inl rfl) pe_int)
      (pss_cons (ps_if (pt_cmpR op_ge (pe_callB call_abs (by rfl) b_abs boot_abs (pa_cons (pv 2) pa_nil)) (pe_op op_pow pe_int pe_int) (nomark _)) (pss_one (ps_set (i := 3) sc__law_bag.nd rfl (Or.inl rfl) (pe_callB call_abs (by rfl) b_abs boot_abs (pa_cons (pv 2) pa_nil)))) pss_nil)
      (pss_cons (ps_set (i := 4) sc__law_bag.nd rfl (Or.inl rfl) (pe_lst (pa_cons pe_int (pa_cons pe_int (pa_cons pe_int (pa_cons pe_int (pa_cons pe_int (pa_cons pe_int (pa_cons pe_int (pa_cons pe_int pa_nil))))))))))
      (pss_one (ps_ret (pe_lst (pa_cons (pv 3) (pa_cons (pe_op op_mod (pe_op op_pow (pe_op op_add (pe_op op_add (pe_op op_mod (pv 2) pe_int) (pe_op op_mul pe_int (pv 1))) pe_int) pe_int) (pe_ix (ix_listK (K := K) rfl) (pv 4) (pe_op op_mod (pv 1) pe_int) (fun _ _ => rfl))) pa_nil)))))))))), ?_⟩
    refine ⟨_, rfl, _, rfl, a, _, rfl, .inl hS, _, _, rfl, rfl, _, rfl, ?_⟩
    have last : ∀ (c : Int), 0 ≤ c % 2147483647 ∧ c % 2147483647 < 2147483647 := fun c => ⟨Int.emod_nonneg _ (by decide), Int.emod_lt_of_pos _ (by decide)⟩
    have e3 : 0 ≤ i % 8 := Int.emod_nonneg _ (by decide)
    have e4 : i % 8 < 8 := Int.emod_lt_of_pos _ (by decide)
    obtain ⟨j, hj⟩ : ∃ j : Nat, i % 8 = (j : Int) := ⟨(i % 8).toNat, by omega⟩
    have hj8 : j < 8 := by omega
    obtain ⟨q, hq, hq0⟩ : ∃ q : Int, ([V.int 2147483629, .int 2147483587, .int 2147483579, .int 2147483563, .int 2147483549, .int 2147483543, .int 2147483497, .int 2147483489] : List V)[j]? = some (.int q) ∧ 0 < q := by
      match j, hj8 with
      | 0, _ => exact ⟨_, rfl, by decide⟩
      | 1, _ => exact ⟨_, rfl, by decide⟩
      | 2, _ => exact ⟨_, rfl, by decide⟩
      | 3, _ => exact ⟨_, rfl, by decide⟩
      | 4, _ => exact ⟨_, rfl, by decide⟩
      | 5, _ => exact ⟨_, rfl, by decide⟩
      | 6, _ => exact ⟨_, rfl, by decide⟩
      | 7, _ => exact ⟨_, rfl, by decide⟩
    have two : ∀ (c : Int) (B : Prop), B → (c = 0 ∨ ∃ j : Nat, i = (j : Int) ∧ ns[j]? = some c) → B := fun _ _ b _ => b
    refine ite2 (fun hp => ?_) (fun hp => ?_)
    · have hp' : i < ((ns.map V.int).length : Int) := of_decide_eq_true hp
      rw [List.length_map] at hp'
      obtain ⟨n, hn⟩ : ∃ n : Nat, i = (n : Int) := ⟨i.toNat, by omega⟩
      have hnl : n < ns.length := by omega
      refine ⟨_, rfl, _, rfl, a, _, _, _, rfl, rfl, hS, (by rw [hn]; exact atI_nat (v := V.int ns[n]) (by simp [hnl])), ?_⟩
      refine ⟨_, rfl, _, rfl, _, _, rfl, rfl, ⟨by decide, by decide, by decide⟩, _, _, rfl, rfl, _, rfl, ?_⟩
      refine ite2 (fun hp => ?_) (fun hp => ?_)
      · refine ⟨_, rfl, _, rfl, ?_⟩
        have l0 := last ns[n]
        refine ⟨(by show 8 ≤ sizeLine; decide), fun pl hpl => ?_⟩
        refine ⟨_, rfl, _, rfl, _, _, rfl, rfl, (show (0 : Int) < 2147483647 by decide), _, rfl, _, _, rfl, rfl, .inl ⟨by decide, by decide⟩, _, _, rfl, rfl, _, _, rfl, rfl, _, _, rfl, rfl, ⟨by decide, by decide, by omega⟩, _, rfl, _, rfl, _, _, rfl, rfl, (show (0 : Int) < 8 by decide), pl, _, _, _, rfl, rfl, SqL.of upd_same, (by rw [hj]; exact atI_nat hq), _, _, rfl, rfl, hq0, (by show 2 ≤ sizeLine; decide), fun l hl => ?_⟩
        have hl0 : H l = none := (Same.laid hpl).free hl
        exact k l _ hl0 ((Same.laid hpl).step hl) ⟨_, _, (by split <;> omega), upd_same⟩
      · have l0 := last ns[n]
        refine ⟨(by show 8 ≤ sizeLine; decide), fun pl hpl => ?_⟩
        refine ⟨_, rfl, _, rfl, _, _, rfl, rfl, (show (0 : Int) < 2147483647 by decide), _, rfl, _, _, rfl, rfl, .inl ⟨by decide, by decide⟩, _, _, rfl, rfl, _, _, rfl, rfl, _, _, rfl, rfl, ⟨by decide, by decide, by omega⟩, _, rfl, _, rfl, _, _, rfl, rfl, (show (0 : Int) < 8 by decide), pl, _, _, _, rfl, rfl, SqL.of upd_same, (by rw [hj]; exact atI_nat hq), _, _, rfl, rfl, hq0, (by show 2 ≤ sizeLine; decide), fun l hl => ?_⟩
        have hl0 : H l = none := (Same.laid hpl).free hl
        exact k l _ hl0 ((Same.laid hpl).step hl) ⟨0, _, Int.le_refl _, upd_same⟩
    · refine ⟨_, rfl, _, rfl, _, _, rfl, rfl, ⟨by decide, by decide, by decide⟩, _, _, rfl, rfl, _, rfl, ?_⟩
      refine ite2 (fun hp => ?_) (fun hp => ?_)
      · exact absurd hp (by decide)
      · have l0 := last 0
        refine ⟨(by show 8 ≤ sizeLine; decide), fun pl hpl => ?_⟩
        refine ⟨_, rfl, _, rfl, _, _, rfl, rfl, (show (0 : Int) < 2147483647 by decide), _, rfl, _, _, rfl, rfl, .inl ⟨by decide, by decide⟩, _, _, rfl, rfl, _, _, rfl, rfl, _, _, rfl, rfl, ⟨by decide, by decide, by omega⟩, _, rfl, _, rfl, _, _, rfl, rfl, (show (0 : Int) < 8 by decide), pl, _, _, _, rfl, rfl, SqL.of upd_same, (by rw [hj]; exact atI_nat hq), _, _, rfl, rfl, hq0, (by show 2 ≤ sizeLine; decide), fun l hl => ?_⟩
        have hl0 : H l = none := (Same.laid hpl).free hl
        exact k l _ hl0 ((Same.laid hpl).step hl) ⟨0, _, Int.le_refl _, upd_same⟩
end
end Qk17

namespace Qk17
open PySem L2 PyProof.Rows
section
variable {P : Program} {w : World} {K : PySem.W.Frag} {mg : Str → Option Value} {base : Heap}
theorem isK_at {ls : List (Str × Int)} {i : Nat} {q : Str × Int} (hq : ls[i]? = some q) (pr : Str → Bool) : isK ls pr i = pr q.1 := by
  unfold isK
  rw [hq]
  cases h : pr q.1 <;> simp [h]
theorem wk_sum {ls : List (Str × Int)} {n : Int} (h : Wk ls n) : sumG ls = n := by
  have g1 : gain "born" = 2 := by decide +kernel
  have g2 : gain "cross" = 0 := by decide +kernel
  have g3 : gain "end" = -2 := by decide +kernel
  induction h with
  | nil => rfl
  | born _ _ _ ih => rw [sumG_snoc, ih, g1]
  | cross _ _ _ ih => rw [sumG_snoc, ih, g2]; omega
  | fin _ _ _ ih => rw [sumG_snoc, ih, g3]; omega
/-- within the bounds of a drawing -/
def InB (ls : List (Str × Int)) : Prop := (∀ i, sumG (ls.take i) ≤ 8) ∧ (locI ls (fun x => decide (x = "born")) ls.length).length ≤ 4 ∧ (locI ls (fun x => decide (x = "cross")) ls.length).length ≤ 12
theorem bag_ne {H : Hp} {b p : Addr} (h : Bag H b) (hp : H p = none) : p ≠ b := by
  obtain ⟨g, r, h0, e⟩ := h
  exact (ne_of_none e hp).symm
def cnt (x : Str) (ls : List (Str × Int)) : Nat := (ls.filter fun p => decide (p.1 = x)).length
theorem cnt_snoc (x : Str) (ls : List (Str × Int)) (p : Str × Int) : cnt x (ls ++ [p]) = cnt x ls + if p.1 = x then 1 else 0 := by
  unfold cnt
  rw [List.filter_append, List.length_append]
  by_cases e : p.1 = x <;> simp [e]
theorem loc_cnt (x : Str) (ls : List (Str × Int)) : (locI ls (fun y => decide (y = x)) ls.length).length = cnt x ls := by
  have key : ∀ n, n ≤ ls.length → (locI ls (fun y => decide (y = x)) n).length = cnt x (ls.take n) := by
    intro n
    induction n with
    | zero => intro _; rfl
    | succ n ih =>
      intro hn
      have hq : ls[n]? = some ls[n] := by simp [show n < ls.length by omega]
      rw [locI_succ, List.length_append, ih (by omega), List.take_add_one, hq]
      show _ = cnt x (ls.take n ++ [ls[n]])
      rw [cnt_snoc, isK_at hq]
      by_cases e : ls[n].1 = x <;> simp [e]
  have := key ls.length (Nat.le_refl _)
  rwa [List.take_of_length_le (Nat.le_refl _)] at this
/-- the letters so far: n strands, never more than eight, b births, c crossings -/
structure Gd (ls : List (Str × Int)) (n : Int) (b c : Nat) : Prop where
  wk : Wk ls n
  mx : ∀ i, sumG (ls.take i) ≤ 8
  bo : cnt "born" ls = b
  cr : cnt "cross" ls = c
theorem mx_snoc {ls : List (Str × Int)} {p : Str × Int} (h : ∀ i, sumG (ls.take i) ≤ 8) (h2 : sumG (ls ++ [p]) ≤ 8) : ∀ i, sumG ((ls ++ [p]).take i) ≤ 8 := fun i => by
  by_cases hi : i ≤ ls.length
  · rw [List.take_append_of_le_length hi]; exact h i
  · rw [List.take_of_length_le (by rw [List.length_append, List.length_singleton]; omega)]; exact h2
theorem gd_nil : Gd [] 0 0 0 := ⟨.nil, fun i => by simp [sumG], rfl, rfl⟩
theorem gd_born {ls : List (Str × Int)} {n k : Int} {b c : Nat} (h : Gd ls n b c) (h0 : 0 ≤ k) (h1 : k ≤ n) (h2 : n + 2 ≤ 8) : Gd (ls ++ [(("born" : Str), k)]) (n + 2) (b + 1) c := by
  have wk := Wk.born (k := k) h.wk h0 h1
  refine ⟨wk, mx_snoc h.mx (by rw [wk_sum wk]; exact h2), ?_, ?_⟩
  · rw [cnt_snoc, h.bo]; simp
  · rw [cnt_snoc, h.cr, if_neg (fun z => nb1 z.symm)]; rfl
theorem gd_cross {ls : List (Str × Int)} {n k : Int} {b c : Nat} (h : Gd ls n b c) (h0 : 0 ≤ k) (h1 : k + 1 < n) (h2 : n ≤ 8) : Gd (ls ++ [(("cross" : Str), k)]) n b (c + 1) := by
  have wk := Wk.cross (k := k) h.wk h0 h1
  refine ⟨wk, mx_snoc h.mx (by rw [wk_sum wk]; exact h2), ?_, ?_⟩
  · rw [cnt_snoc, h.bo, if_neg (fun z => nb1 z)]; rfl
  · rw [cnt_snoc, h.cr]; simp
theorem gd_end {ls : List (Str × Int)} {n k : Int} {b c : Nat} (h : Gd ls n b c) (h0 : 0 ≤ k) (h1 : k + 1 < n) (h2 : n ≤ 10) : Gd (ls ++ [(("end" : Str), k)]) (n - 2) b c := by
  have wk := Wk.fin (k := k) h.wk h0 h1
  refine ⟨wk, mx_snoc h.mx (by rw [wk_sum wk]; omega), ?_, ?_⟩
  · rw [cnt_snoc, h.bo, if_neg (fun z => nb2 z)]; rfl
  · rw [cnt_snoc, h.cr, if_neg (fun z => nb3 z)]; rfl
theorem gd_in {ls : List (Str × Int)} {n : Int} {b c : Nat} (h : Gd ls n b c) (hb : b ≤ 4) (hc : c ≤ 12) : InB ls := by
  refine ⟨h.mx, ?_, ?_⟩
  · rw [loc_cnt, h.bo]; exact hb
  · rw [loc_cnt, h.cr]; exact hc
theorem gd_ends {ls : List (Str × Int)} {b c : Nat} : ∀ (n : Nat), n ≤ 4 → Gd ls (2 * (n : Int)) b c → ∀ m, m ≤ n → Gd (ls ++ List.replicate m ((("end" : Str), 0) : Str × Int)) (2 * ((n - m : Nat) : Int)) b c
  | n, _, h, 0, _ => by simpa using h
  | n, h4, h, m + 1, hm => by
    have ih := gd_ends n h4 h m (by omega)
    rw [List.replicate_succ', ← List.append_assoc]
    have e : (2 * ((n - (m + 1) : Nat) : Int)) = 2 * ((n - m : Nat) : Int) - 2 := by omega
    rw [e]
    exact gd_end ih (by decide) (by omega) (by omega)
end
end Qk17

namespace Qk17
open PySem L2 PyProof.Rows
section
variable {P : Program} {w : World} {K : PySem.W.Frag} {mg : Str → Option Value} {base : Heap}
/-! ### what came an odd number of times -/
theorem take_snoc {α : Type} {l : List α} {j : Nat} {x : α} (h : l[j]? = some x) : l.take (j + 1) = l.take j ++ [x] := by rw [List.take_add_one, h]; rfl
def spPut : Sp := fun vs H Q _ => ∃ (d l : Addr) (L ws : WS), vs = [.ref d, .ref l] ∧ DOd H d L ∧ WL H l ws ∧ L.length + ws.length ≤ 2000000 ∧ ∀ H', Frm d H H' → DOd H' d (L ++ ws) → Q .non H'
abbrev s_put : Stmt := top 9
theorem sc_put : FnScope ["odd", "words", "word"] ["odd", "words"] (defScope s_put) := ⟨rfl, rfl, rfl, by decide +kernel, rfl, by decide +kernel, by decide +kernel⟩
theorem ok_put {f : Addr} {fd : FuncData} (F : Fun K "put" "put" s_put f fd) : FnOk P w K mg base CX0 1 f fd ["odd", "words"] spPut := by
  refine F.ok sc_put (fun vs H Q E h => ?_) (fun cdv A outer s H vs Q E hr h => ?_)
  · obtain ⟨d, l, L, ws, rfl, _⟩ := h
    rfl
  · obtain ⟨d, l, L, ws, rfl, hd, hl, hz, k⟩ := h
    refine ⟨_, (pss_one (ps_for PassesOwn.never rfl (pi_listK (K := K) rfl (pv 1)) (pg_name (i := 2) sc_put.nd rfl (Or.inl rfl)) (pss_one (ps_if (pt_cmp (pc_din (hu_of hr) (pv 2) (pv 0))) (pss_one (ps_ddelT (hu_of hr) (pv 0) (pv 2))) (pss_one (ps_asg pe_bl (pg_sub (pv 0) (pv 2) (set_dict (hu_of hr))))))))), ?_⟩
    obtain ⟨xs, el, hw⟩ := id hl
    have hdl : l ≠ d := fun z => by
      obtain ⟨_, _, e, _⟩ := hd
      rw [z, e] at el; cases el
    have lx := Words.len hw
    refine ⟨_, rfl, l, rfl, ⟨_, SqL.of el⟩, for_list (K := K) (a := l) (xs := xs) (fun j σ G => ∃ v2 : Option V, σ = [some (.ref d), some (.ref l), v2] ∧ Frm d H G ∧ DOd G d (L ++ ws.take j)) ⟨none, rfl, Frm.refl _ _, by simpa using hd⟩ (fun j σ G _ ⟨_, _, fr, _⟩ => SqL.of (fr l _ el hdl)) ?_ ?_⟩
    · rintro j x σ G hx ⟨v2, rfl, fr, dg⟩
      obtain ⟨w, hj, p, rfl, hp⟩ := Words.get hw hx
      have ep : G p = some (.tup ((kW w).map kV)) := by rw [kW_V]; exact hd.tups fr p _ hp
      obtain ⟨kvs, ks, ed, ek, ok⟩ := dg
      have hlen := ok.len
      have lk : kvs.length = ks.length := by simpa using congrArg List.length ek
      rw [List.length_append, List.length_take] at hlen
      refine ⟨_, rfl, _, rfl, d, _, rfl, DGet.t ed ep, _, rfl, ite2 (fun hp => ?_) (fun hp => ?_)⟩
      · refine ⟨_, rfl, _, rfl, d, kvs, kW w, p, rfl, ed, rfl, ep, hp, ?_⟩
        refine ⟨_, rfl, fr.trans Frm.upd, _, _, upd_same, drop_keys ek, ?_⟩
        rw [take_snoc hj, ← List.append_assoc]
        exact oddk_out ok ((val_in ek).mp hp)
      · have nk : w ∉ ks := fun z => hp ((val_in ek).mpr z)
        refine ⟨_, rfl, _, rfl, d, _, rfl, DPut.t ed ep (by rw [sizeLine_eq]; omega), ?_⟩
        refine ⟨_, rfl, fr.trans Frm.upd, _, _, upd_same, put_keys ek nk, ?_⟩
        rw [take_snoc hj, ← List.append_assoc]
        exact oddk_in ok nk
    · rintro σ G ⟨v2, rfl, fr, dg⟩
      refine k G fr ?_
      rwa [List.take_of_length_le (by omega)] at dg
def spAdded : Sp := fun vs H Q _ => ∃ (a b : Addr) (L M : WS), vs = [.ref a, .ref b] ∧ WL H a L ∧ WL H b M ∧ L.length + M.length ≤ 2000000 ∧ ∀ (p : Addr) (H' : Hp) (r : WS), H p = none → Same H H' → WL H' p r → IsOdd (L ++ M) r → Q (.ref p) H'
abbrev s_added : Stmt := top 10
theorem sc_added : FnScope ["one", "other", "odd"] ["one", "other"] (defScope s_added) := ⟨rfl, rfl, rfl, by decide +kernel, rfl, by decide +kernel, by decide +kernel⟩
theorem ok_added {f : Addr} {fd : FuncData} (F : Fun K "added" "added" s_added f fd) (h_put : Has P w K mg base 1 "put" ["odd", "words"] spPut) (b_sorted : mg "sorted" = none) : FnOk P w K mg base CX0 2 f fd ["one", "other"] spAdded := by
  refine F.ok sc_added (fun vs H Q E h => ?_) (fun cdv A outer s H vs Q E hr h => ?_)
  · obtain ⟨a, b, L, M, rfl, _⟩ := h
    rfl
  · obtain ⟨a, b, L, M, rfl, ha, hb, hz, k⟩ := h
    refine ⟨_, (pss_cons (ps_set (i := 2) sc_added.nd rfl (Or.inl rfl) pe_dnewT)
      (pss_cons (ps_expr (pe_has h_put (hr.mono (by decide)) (pa_cons (pv 2) (pa_cons (pv 0) pa_nil))))
      (pss_cons (ps_expr (pe_has h_put (hr.mono (by decide)) (pa_cons (pv 2) (pa_cons (pv 1) pa_nil))))
      (pss_one (ps_ret (pe_callB (call_sortedDT rfl hr.units) (by rfl) b_sorted boot_sorted (pa_cons (pv 2) pa_nil))))))), ?_⟩
    intro d hd
    have s0 : Same H (upd H d (.dT [])) := Same.laid hd
    have d0 : DOd (upd H d (.dT [])) d [] := ⟨[], [], upd_same, rfl, oddk_nil⟩
    refine ⟨_, rfl, _, rfl, d, a, [], L, rfl, d0, ha.same s0, by simp; omega, fun H1 f1 d1 => ?_⟩
    refine ⟨_, rfl, _, rfl, d, b, _, M, rfl, d1, d0.wl f1 (hb.same s0), by simpa using hz, fun H2 f2 d2 => ?_⟩
    have sm : Same H H2 := fun c o e => by
      have nd := ne_of_none e hd
      exact f2 c o (f1 c o (s0 c o e) nd) nd
    obtain ⟨kvs, ks, ed, ek, ok⟩ := d2
    refine ⟨_, rfl, d, kvs, ks, rfl, ed, ek, fun l zs vs hl pm hw rs => ?_⟩
    have s3 : Same H2 (upd H2 l (.lst zs)) := Same.laid hl
    exact k l _ vs (sm.free hl) (sm.trans s3) ⟨zs, upd_same, Words.same s3 hw⟩ (by simpa using ok.odd pm rs)
def spMult : Sp := fun vs H Q _ => ∃ (a b : Addr) (L M : WS), vs = [.ref a, .ref b] ∧ WL H a L ∧ WL H b M ∧ L2.Gd 1000 100000 L ∧ L2.Gd 1000 100000 M ∧ ∀ (p : Addr) (H' : Hp) (r : WS), H p = none → Same H H' → WL H' p r → IsOdd (prd L M) r → Q (.ref p) H'
theorem prd_take {L : WS} {j : Nat} {w : List Int} (h : L[j]? = some w) (M : WS) : prd (L.take (j + 1)) M = prd (L.take j) M ++ M.map fun v => w ++ v := by
  rw [take_snoc h, prd_app, prd_cons]
  simp [prd]
abbrev s_multiplied : Stmt := top 11
theorem sc_multiplied : FnScope ["one", "other", "odd", "word"] ["one", "other"] (defScope s_multiplied) := ⟨rfl, rfl, rfl, by decide +kernel, rfl, by decide +kernel, by decide +kernel⟩
theorem ok_mult {f : Addr} {fd : FuncData} (F : Fun K "multiplied" "multiplied" s_multiplied f fd) (h_put : Has P w K mg base 1 "put" ["odd", "words"] spPut) (b_sorted : mg "sorted" = none) : FnOk P w K mg base CX0 2 f fd ["one", "other"] spMult := by
  refine F.ok sc_multiplied (fun vs H Q E h => ?_) (fun cdv A outer s H vs Q E hr h => ?_)
  · obtain ⟨a, b, L, M, rfl, _⟩ := h
    rfl
  · obtain ⟨a, b, L, M, rfl, ha, hb, gL, gM, k⟩ := h
    refine ⟨_, (pss_cons (ps_set (i := 2) sc_multiplied.nd rfl (Or.inl rfl) pe_dnewT)
      (pss_cons (ps_for PassesOwn.never rfl (pi_listK (K := K) rfl (pv 0)) (pg_name (i := 3) sc_multiplied.nd rfl (Or.inr rfl)) (pss_one (ps_expr (pe_has h_put (hr.mono (by decide)) (pa_cons (pv 2) (pa_cons (pe_lc (Ls := ["behind"]) (Fs := ["word"]) (fi := [3]) (LcScope.of (show lcLook ["one", "other", "odd", "word"] (defScope s_multiplied) _ ["word"] [3] = true by decide +kernel)) rfl (pi_listK (K := K) rfl (pv 1)) (fun cl C s3 H3 ex => ⟨(pg_name (i := 0) (show ((["behind"] : List Str) ++ (["word"] : List Str)).Nodup by decide +kernel) rfl (Or.inl rfl)), pts_nil, (pe_op op_catW (pv 1) (pv 0))⟩)) pa_nil))))))
      (pss_one (ps_ret (pe_callB (call_sortedDT rfl hr.units) (by rfl) b_sorted boot_sorted (pa_cons (pv 2) pa_nil)))))), ?_⟩
    intro d hd
    have s0 : Same H (upd H d (.dT [])) := Same.laid hd
    have d0 : DOd (upd H d (.dT [])) d [] := ⟨[], [], upd_same, rfl, oddk_nil⟩
    obtain ⟨xs, ea, wa⟩ := id ha
    obtain ⟨ys, eb, wb⟩ := id hb
    have lx := Words.len wa
    have ly := Words.len wb
    have nL := gL.1
    have nM := gM.1
    refine ⟨_, rfl, a, rfl, ⟨_, SqL.of (s0 a _ ea)⟩, for_list (K := K) (a := a) (xs := xs) (fun j σ G => ∃ v3 : Option V, σ = [some (.ref a), some (.ref b), some (.ref d), v3] ∧ Same H G ∧ DOd G d (prd (L.take j) M)) ⟨none, rfl, s0, by simpa [prd] using d0⟩ (fun j σ G _ ⟨_, _, sg, _⟩ => SqL.of (sg a _ ea)) ?_ ?_⟩
    · rintro j x σ G hx ⟨v3, rfl, sg, dg⟩
      obtain ⟨w, hj, wx⟩ := Words.get wa hx
      have gw := gL.2 w (List.mem_of_getElem? hj)
      refine ⟨_, rfl, _, rfl, b, rfl, ⟨_, SqL.of (sg b _ eb)⟩, lc_list (K := K) (xs := ys) (by rw [sizeLine_eq]; omega) (fun i zs G' => Same G G' ∧ Words G' zs ((M.take i).map fun v => w ++ v)) ⟨Same.refl _, .nil⟩
        (fun i zs G' ⟨_, z⟩ => by rw [Words.len z, List.length_map, List.length_take]; omega) (fun i zs G' ⟨s', _⟩ => SqL.of (s' b _ (sg b _ eb))) ?_ ?_⟩
      · rintro i y zs G' hy ⟨s', wz⟩
        obtain ⟨v, hv, wy⟩ := Words.get wb hy
        have gv := gM.2 v (List.mem_of_getElem? hv)
        have wx' : Word G' x w := (wx.same sg).same s'
        have wy' : Word G' y v := (wy.same sg).same s'
        have em : (M.take (i + 1)).map (fun v => w ++ v) = (M.take i).map (fun v => w ++ v) ++ [w ++ v] := by rw [take_snoc hv, List.map_append]; rfl
        dsimp only [gName, tTrue]
        refine iteT ⟨_, rfl, _, rfl, w, v, wx', wy', by rw [sizeLine_eq]; omega, fun z => ⟨s', ?_⟩, fun z => ⟨s', ?_⟩, fun p hp => ⟨s'.step hp, ?_⟩⟩
        · rw [em]; refine Words.snoc wz ?_; rw [z]; exact wy'
        · rw [em]; refine Words.snoc wz ?_; rw [z, List.append_nil]; exact wx'
        · rw [em]; exact Words.snoc (Words.same (Same.laid hp) wz) ⟨p, rfl, upd_same⟩
      · rintro zs G' ⟨s', wz⟩ D hD
        rw [List.take_of_length_le (by omega)] at wz
        have s2 : Same G' (upd G' D (.lst zs)) := Same.laid hD
        have s3 : Same G (upd G' D (.lst zs)) := s'.trans s2
        have dg2 : DOd (upd G' D (.lst zs)) d (prd (L.take j) M) := let ⟨kvs, ks, e, r⟩ := dg; ⟨kvs, ks, s3 d _ e, r⟩
        refine ⟨d, D, _, _, rfl, dg2, ⟨zs, upd_same, Words.same s2 wz⟩, ?_, fun G2 f2 d2 => ?_⟩
        · have h1 : (L.take j).length * M.length ≤ 1000 * 1000 := Nat.mul_le_mul (by rw [List.length_take]; omega) nM
          rw [prd_len, List.length_map]
          omega
        · refine ⟨_, rfl, fun c o e => f2 c o (s3 c o (sg c o e)) (ne_of_none e hd), ?_⟩
          rw [prd_take hj]
          exact d2
    · rintro σ G ⟨v3, rfl, sg, dg⟩
      rw [List.take_of_length_le (by omega)] at dg
      obtain ⟨kvs, ks, ed, ek, ok⟩ := dg
      refine ⟨_, rfl, d, kvs, ks, rfl, ed, ek, fun l zs vs hl pm hw rs => ?_⟩
      have s3 : Same G (upd G l (.lst zs)) := Same.laid hl
      exact k l _ vs (sg.free hl) (sg.trans s3) ⟨zs, upd_same, Words.same s3 hw⟩ (ok.odd pm rs)
end
end Qk17

namespace Qk17
open PySem L2 PyProof.Rows
section
variable {P : Program} {w : World} {K : PySem.W.Frag} {mg : Str → Option Value} {base : Heap}
def clsBody : Stmt → List Stmt
  | .ClassDef _ _ _ body .. => body
  | _ => []
/-! ### the way of words -/
def IsWay (H : Hp) (C x : Addr) : Prop := ∃ (dx : Addr) (fs : List (Str × V)), H x = some (.ins C dx fs) ∧ fs = []
theorem way_same {H H' : Hp} {C x : Addr} (s : Same H H') (h : IsWay H C x) : IsWay H' C x := let ⟨dx, fs, e, q⟩ := h; ⟨dx, fs, s _ _ e, q⟩
def spNought (C : Addr) : Sp := fun vs H Q _ => ∃ x : Addr, vs = [.ref x] ∧ ∀ (p : Addr) (H' : Hp), H p = none → Same H H' → WL H' p [] → Q (.ref p) H'
def spUnit (C : Addr) : Sp := fun vs H Q _ => ∃ x : Addr, vs = [.ref x] ∧ ∀ (p : Addr) (H' : Hp), H p = none → Same H H' → WL H' p [[]] → Q (.ref p) H'
def spPlusM : Sp := fun vs H Q _ => ∃ (x a b : Addr) (L M : WS), vs = [.ref x, .ref a, .ref b] ∧ WL H a L ∧ WL H b M ∧ L.length + M.length ≤ 2000000 ∧ ∀ (p : Addr) (H' : Hp), H p = none → Same H H' → WL H' p (plusF L M) → Q (.ref p) H'
def spTimesM : Sp := fun vs H Q _ => ∃ (x a b : Addr) (L M : WS), vs = [.ref x, .ref a, .ref b] ∧ WL H a L ∧ WL H b M ∧ L2.Gd 1000 100000 L ∧ L2.Gd 1000 100000 M ∧ ∀ (p : Addr) (H' : Hp), H p = none → Same H H' → WL H' p (timesF L M) → Q (.ref p) H'
abbrev s_WordWay_nought : Stmt := (clsBody (top 14)).getD 0 (.Pass ⟨0, 0, 0, 0⟩)
theorem sc_WordWay_nought : FnScope ["self"] ["self"] (defScope s_WordWay_nought) := ⟨rfl, rfl, rfl, by decide +kernel, rfl, by decide +kernel, by decide +kernel⟩
theorem ok_nought {C : Addr} {f : Addr} {fd : FuncData} (F : Fun K "nought" "WordWay.nought" s_WordWay_nought f fd) : FnOk P w K mg base CX0 1 f fd ["self"] (spNought C) := by
  refine F.ok sc_WordWay_nought (fun vs H Q E h => ?_) (fun cdv A outer s H vs Q E hr h => ?_)
  · obtain ⟨x, rfl, _⟩ := h
    rfl
  · obtain ⟨x, rfl, k⟩ := h
    refine ⟨_, (pss_one (ps_ret (pe_lst pa_nil))), ?_⟩
    exact ⟨(by show 0 ≤ sizeLine; decide), fun p hp => k p _ hp (Same.laid hp) ⟨[], upd_same, .nil⟩⟩
abbrev s_WordWay_unit : Stmt := (clsBody (top 14)).getD 1 (.Pass ⟨0, 0, 0, 0⟩)
theorem sc_WordWay_unit : FnScope ["self"] ["self"] (defScope s_WordWay_unit) := ⟨rfl, rfl, rfl, by decide +kernel, rfl, by decide +kernel, by decide +kernel⟩
theorem ok_unit {C : Addr} {f : Addr} {fd : FuncData} (F : Fun K "unit" "WordWay.unit" s_WordWay_unit f fd) : FnOk P w K mg base CX0 1 f fd ["self"] (spUnit C) := by
  refine F.ok sc_WordWay_unit (fun vs H Q E h => ?_) (fun cdv A outer s H vs Q E hr h => ?_)
  · obtain ⟨x, rfl, _⟩ := h
    rfl
  · obtain ⟨x, rfl, k⟩ := h
    refine ⟨_, (pss_one (ps_ret (pe_lst (pa_cons (pe_tup pa_nil) pa_nil)))), ?_⟩
    refine ⟨(by show 0 ≤ sizeLine; decide), fun t ht => ⟨(by show 1 ≤ sizeLine; decide), fun p hp => k p _ ((Same.laid ht).free hp) ((Same.laid ht).step hp) ⟨_, upd_same, .cons ⟨t, rfl, Same.laid hp t _ upd_same⟩ .nil⟩⟩⟩
abbrev s_WordWay_plus : Stmt := (clsBody (top 14)).getD 2 (.Pass ⟨0, 0, 0, 0⟩)
theorem sc_WordWay_plus : FnScope ["self", "one", "other"] ["self", "one", "other"] (defScope s_WordWay_plus) := ⟨rfl, rfl, rfl, by decide +kernel, rfl, by decide +kernel, by decide +kernel⟩
theorem ok_plusM {f : Addr} {fd : FuncData} (F : Fun K "plus" "WordWay.plus" s_WordWay_plus f fd) (h_added : Has P w K mg base 2 "added" ["one", "other"] spAdded) : FnOk P w K mg base CX0 3 f fd ["self", "one", "other"] spPlusM := by
  refine F.ok sc_WordWay_plus (fun vs H Q E h => ?_) (fun cdv A outer s H vs Q E hr h => ?_)
  · obtain ⟨x, a, b, L, M, rfl, _⟩ := h
    rfl
  · obtain ⟨x, a, b, L, M, rfl, ha, hb, hz, k⟩ := h
    refine ⟨_, (pss_one (ps_ret (pe_has h_added (hr.mono (by decide)) (pa_cons (pv 1) (pa_cons (pv 2) pa_nil))))), ?_⟩
    exact ⟨_, rfl, _, rfl, a, b, L, M, rfl, ha, hb, hz, fun p H' r fp s' wr od => k p H' fp s' (by have := od.canon; subst this; exact wr)⟩
abbrev s_WordWay_times : Stmt := (clsBody (top 14)).getD 3 (.Pass ⟨0, 0, 0, 0⟩)
theorem sc_WordWay_times : FnScope ["self", "one", "other"] ["self", "one", "other"] (defScope s_WordWay_times) := ⟨rfl, rfl, rfl, by decide +kernel, rfl, by decide +kernel, by decide +kernel⟩
theorem ok_timesM {f : Addr} {fd : FuncData} (F : Fun K "times" "WordWay.times" s_WordWay_times f fd) (h_multiplied : Has P w K mg base 2 "multiplied" ["one", "other"] spMult) : FnOk P w K mg base CX0 3 f fd ["self", "one", "other"] spTimesM := by
  refine F.ok sc_WordWay_times (fun vs H Q E h => ?_) (fun cdv A outer s H vs Q E hr h => ?_)
  · obtain ⟨x, a, b, L, M, rfl, _⟩ := h
    rfl
  · obtain ⟨x, a, b, L, M, rfl, ha, hb, gL, gM, k⟩ := h
    refine ⟨_, (pss_one (ps_ret (pe_has h_multiplied (hr.mono (by decide)) (pa_cons (pv 1) (pa_cons (pv 2) pa_nil))))), ?_⟩
    exact ⟨_, rfl, _, rfl, a, b, L, M, rfl, ha, hb, gL, gM, fun p H' r fp s' wr od => k p H' fp s' (by have := od.canon; subst this; exact wr)⟩
end
end Qk17

namespace Qk17
open PySem L2 PyProof.Rows
section
variable {P : Program} {w : World} {K : PySem.W.Frag} {mg : Str → Option Value} {base : Heap}
/-! ### behind a birth -/
theorem cut_hd' (xs : List V) (k : Nat) : cutV xs none (some (k : Int)) = xs.take k := by
  unfold cutV
  rw [HT.sIx_none, HT.sIx_nat, List.drop_zero, Nat.sub_zero, List.take_eq_take_iff]
  omega
theorem cut_dr (xs : List V) (k : Nat) : cutV xs (some (k : Int)) none = xs.drop k := by
  unfold cutV
  rw [HT.sIx_none, HT.sIx_nat]
  by_cases h : k ≤ xs.length
  · rw [Nat.min_eq_left h, List.take_of_length_le (by rw [List.length_drop]; omega)]
  · rw [Nat.min_eq_right (by omega), Nat.sub_self, List.take_zero, List.drop_of_length_le (by omega)]
def rowB (k : Nat) (f : Nat → WS) : Nat → WS := fun j => if j < k then f j else if j < k + 2 then [] else f (j - 2)
theorem mid_at {α : Type} {xs : List α} {a b : α} {k : Nat} (hk : k ≤ xs.length) {j : Nat} {x : α} (h : (xs.take k ++ [a, b] ++ xs.drop k)[j]? = some x) : (j < k ∧ xs[j]? = some x) ∨ (j = k ∧ x = a) ∨ (j = k + 1 ∧ x = b) ∨ (k + 2 ≤ j ∧ xs[j - 2]? = some x) := by
  have lt : (xs.take k).length = k := by rw [List.length_take]; omega
  by_cases h1 : j < k
  · rw [List.append_assoc, List.getElem?_append_left (by omega), List.getElem?_take, if_pos h1] at h
    exact .inl ⟨h1, h⟩
  · by_cases h2 : j < k + 2
    · rw [List.getElem?_append_left (by rw [List.length_append, lt]; simp; omega), List.getElem?_append_right (by omega), lt] at h
      by_cases h3 : j = k
      · subst h3; rw [Nat.sub_self] at h; cases h; exact .inr (.inl ⟨rfl, rfl⟩)
      · have : j = k + 1 := by omega
        subst this
        rw [show k + 1 - k = 1 by omega] at h
        cases h
        exact .inr (.inr (.inl ⟨rfl, rfl⟩))
    · rw [List.getElem?_append_right (by rw [List.length_append, lt]; simp; omega), List.length_append, lt, List.getElem?_drop] at h
      refine .inr (.inr (.inr ⟨by omega, ?_⟩))
      rw [← h]
      congr 1
      simp
      omega
theorem mid_len {α : Type} {xs : List α} {a b : α} {k : Nat} (hk : k ≤ xs.length) : (xs.take k ++ [a, b] ++ xs.drop k).length = xs.length + 2 := by
  simp; omega
/-- two rows put between -/
theorem mat_mid {H : Hp} {A : List Addr} {n k : Nat} {F : Nat → Nat → WS} {r0 r1 : Addr} {w : Nat} (x : Mat H A n w F) (y : Mat H [r0, r1] 2 w fun _ _ => []) (hk : k ≤ n) (h0 : r0 ∉ A) (h1 : r1 ∉ A) :
    Mat H (A.take k ++ [r0, r1] ++ A.drop k) (n + 2) w fun i j => if i < k then F i j else if i < k + 2 then [] else F (i - 2) j := by
  have hl := x.1
  refine ⟨by rw [mid_len (by omega), hl], ?_, fun i r h => ?_⟩
  · have p : (A.take k ++ [r0, r1] ++ A.drop k).Perm ([r0, r1] ++ A) := by
      refine (List.Perm.append_right _ List.perm_append_comm).trans ?_
      rw [List.append_assoc, List.take_append_drop]
    rw [p.nodup_iff, List.nodup_append]
    refine ⟨y.2.1, x.2.1, fun a ha b hb e => ?_⟩
    subst e
    rcases List.mem_cons.mp ha with rfl | ha
    · exact h0 hb
    · rw [List.mem_singleton.mp ha] at hb; exact h1 hb
  · rcases mid_at (by omega) h with ⟨a, b⟩ | ⟨a, b⟩ | ⟨a, b⟩ | ⟨a, b⟩
    · exact (x.2.2 i r b).congr fun j _ => by dsimp only; rw [if_pos a]
    · subst a b
      exact (y.2.2 0 r rfl).congr fun j _ => by dsimp only; rw [if_neg (by omega), if_pos (by omega)]
    · subst a b
      exact (y.2.2 1 r rfl).congr fun j _ => by dsimp only; rw [if_neg (by omega), if_pos (by omega)]
    · exact (x.2.2 (i - 2) r b).congr fun j _ => by dsimp only; rw [if_neg (by omega), if_neg (by omega)]
def Sep (a : Addr) (H : Hp) (A : List Addr) : Prop := ∀ r ∈ A, r ≠ a ∧ ∀ (xs : List V) (e : Addr), H r = some (.lst xs) → V.ref e ∈ xs → e ≠ a
theorem mat_keep {H : Hp} {A : List Addr} {m n : Nat} {F : Nat → Nat → WS} {a : Addr} {us vs : List V} (x : Mat H A m n F) (s : Sep a H A) (ha : H a = some (.lst us)) : Mat (upd H a (.lst vs)) A m n F := by
  refine ⟨x.1, x.2.1, fun i r h => ?_⟩
  obtain ⟨xs, e1, l, c⟩ := x.2.2 i r h
  obtain ⟨n1, n2⟩ := s r (List.mem_of_getElem? h)
  refine ⟨xs, by rw [upd_ne n1]; exact e1, l, fun j y hy => ?_⟩
  obtain ⟨e, p, q⟩ := c j y hy
  refine ⟨e, p, q.upd ha (n2 xs e e1 (by rw [← p]; exact List.mem_of_getElem? hy))⟩
/-- what was there ahead of a -/
theorem sep_old {G H : Hp} {A : List Addr} {m n : Nat} {F : Nat → Nat → WS} {a : Addr} (x : Mat G A m n F) (s : Same G H) (ha : G a = none) : Sep a H A := fun r hr => by
  obtain ⟨i, hi, rfl⟩ := List.getElem_of_mem hr
  obtain ⟨xs, e1, l, c⟩ := x.2.2 i A[i] (by simp)
  refine ⟨ne_of_none e1 ha, fun ys e h he => ?_⟩
  rw [s _ _ e1] at h
  have hxy : xs = ys := by injection h with h; injection h
  subst hxy
  obtain ⟨j, hj⟩ := List.mem_iff_getElem?.mp he
  obtain ⟨e', p, us, q, _⟩ := c j _ hj
  cases p
  exact ne_of_none q ha
/-- what is new behind a -/
def NewR (B G : Hp) (Z : List Addr) : Prop := ∀ r ∈ Z, B r = none ∧ ∃ ws, G r = some (.lst ws) ∧ ∀ e, V.ref e ∈ ws → B e = none
theorem newR_same {B G G' : Hp} {Z : List Addr} (s : Same G G') (h : NewR B G Z) : NewR B G' Z := fun r hr => let ⟨a, ws, b, c⟩ := h r hr; ⟨a, ws, s _ _ b, c⟩
theorem sep_new {B H : Hp} {A : List Addr} {a : Addr} {o : HO} (x : NewR B H A) (ha : B a = some o) : Sep a H A := fun r hr => by
  obtain ⟨h1, ws, h2, h3⟩ := x r hr
  refine ⟨(fun z => by rw [z, ha] at h1; cases h1), fun xs e hx he z => ?_⟩
  rw [h2] at hx
  have hxy : ws = xs := by injection hx with hx; injection hx
  subst hxy
  have := h3 e he
  rw [z, ha] at this; cases this
def spBirth (C : Addr) : Sp := fun vs H Q _ => ∃ (tA x : Addr) (n k : Nat) (F : Nat → Nat → WS), vs = [.ref tA, .int (k : Int), .ref x] ∧ IsWay H C x ∧ Tab H tA n F ∧ k ≤ n ∧ n ≤ 500 ∧ ∀ (p : Addr) (H' : Hp), H p = none → Same H H' → Tab H' p (n + 2) (bornF k F) → Q (.ref p) H'
abbrev s_behind_birth : Stmt := top 4
theorem sc_behind_birth : FnScope ["table", "k", "way", "rows"] ["table", "k", "way"] (defScope s_behind_birth) := ⟨rfl, rfl, rfl, by decide +kernel, rfl, by decide +kernel, by decide +kernel⟩
theorem ok_birth {C : Addr} {f : Addr} {fd : FuncData} (F : Fun K "behind_birth" "behind_birth" s_behind_birth f fd) (c_way : Cls K C) (m_nought : HasM P w K mg base 1 C "nought" ["self"] (spNought C)) (m_unit : HasM P w K mg base 1 C "unit" ["self"] (spUnit C)) (b_range : mg "range" = none) (b_len : mg "len" = none) : FnOk P w K mg base CX0 2 f fd ["table", "k", "way"] (spBirth C) := by
  refine F.ok sc_behind_birth (fun vs H Q E h => ?_) (fun cdv A outer s H vs Q E hr h => ?_)
  · obtain ⟨tA, x, n, k, F, rfl, _⟩ := h
    rfl
  · obtain ⟨tA, x, n, k, F, rfl, hw, hT, hk, hn, fin⟩ := h
    refine ⟨_, (pss_cons (ps_lc (i := 3) sc_behind_birth.nd rfl (Or.inl rfl) (Ls := ["row"]) (Fs := ["k", "way"]) (fi := [1, 2]) (LcScope.of (show lcLook ["table", "k", "way", "rows"] (defScope s_behind_birth) _ ["k", "way"] [1, 2] = true by decide +kernel)) rfl (pi_listK (K := K) rfl (pv 0)) (fun cl C s3 H3 ex => ⟨(pg_name (i := 0) (show ((["row"] : List Str) ++ (["k", "way"] : List Str)).Nodup by decide +kernel) rfl (Or.inl rfl)), pts_nil, (pe_op op_cat (pe_op op_cat (pe_slice (sl_listK (K := K) rfl) (pv 0) po_none (po_some (pv 1))) (pe_lst (pa_cons (pe_hasM0 m_nought c_way (hr.mono (by decide)) (pv 2)) (pa_cons (pe_hasM0 m_nought c_way (hr.mono (by decide)) (pv 2)) pa_nil)))) (pe_slice (sl_listK (K := K) rfl) (pv 0) (po_some (pv 1)) po_none))⟩))
      (pss_cons (ps_asg (pe_lc (Ls := ["new"]) (Fs := ["way", "table"]) (fi := [2, 0]) (LcScope.of (show lcLook ["table", "k", "way", "rows"] (defScope s_behind_birth) _ ["way", "table"] [2, 0] = true by decide +kernel)) rfl (pi_range1 (by rfl) b_range (pa_cons pe_int pa_nil)) (fun cl C s3 H3 ex => ⟨(pg_name (i := 0) (show ((["new"] : List Str) ++ (["way", "table"] : List Str)).Nodup by decide +kernel) rfl (Or.inl rfl)), pts_nil, (pe_lc (Ls := ["j"]) (Fs := ["way"]) (fi := [1]) (LcScope.of (by rfl)) rfl (pi_range1 (by rfl) b_range (pa_cons (pe_op op_add (pe_callB (call_lenK (K := K) rfl) (by rfl) b_len PySem.boot_len (pa_cons (pv 2) pa_nil)) pe_int) pa_nil)) (fun cl C s3 H3 ex => ⟨(pg_name (i := 0) (show ((["j"] : List Str) ++ (["way"] : List Str)).Nodup by decide +kernel) rfl (Or.inl rfl)), pts_nil, (pe_hasM0 m_nought c_way (hr.mono (by decide)) (pv 1))⟩))⟩)) (pg_slc (pv 3) (po_some (pv 1)) (po_some (pv 1))))
      (pss_cons (ps_asg (pe_hasM0 m_unit c_way (hr.mono (by decide)) (pv 2)) (pg_sub (pe_ix (ix_listK (K := K) rfl) (pv 3) (pv 1) (fun _ _ => rfl)) (pe_op op_add (pv 1) pe_int) set_list))
      (pss_one (ps_ret (pv 3)))))), ?_⟩
    obtain ⟨dx, fs, ew, rfl⟩ := id hw
    obtain ⟨A, et, mt⟩ := id hT
    have lA := mt.1
    have z2 : 2 ≤ sizeLine := by decide
    refine ⟨_, rfl, tA, rfl, ⟨_, SqL.of et⟩, lc_list (K := K) (xs := A.map V.ref) (by rw [List.length_map, sizeLine_eq]; omega) (fun i zs G => Same H G ∧ ∃ Z : List Addr, zs = Z.map V.ref ∧ Mat G Z i (n + 2) fun i j => rowB k (F i) j) ⟨Same.refl _, [], rfl, mat_nil⟩
      (fun i zs G ⟨_, Z, e, m⟩ => by rw [e, List.length_map, m.1]; exact Nat.le_refl _) (fun i zs G ⟨s', _⟩ => SqL.of (s' tA _ et)) ?_ ?_⟩
    · rintro i v zs G hv ⟨sG, Z, rfl, mZ⟩
      rw [List.getElem?_map] at hv
      obtain ⟨r, hr', rfl⟩ := Option.map_eq_some_iff.mp hv
      obtain ⟨xs, ex, lx, hx⟩ := mt.2.2 i r hr'
      dsimp only [gName, tTrue]
      refine iteT ?_
      refine ⟨_, rfl, _, rfl, _, rfl, r, xs, rfl, SqL.of (sG r _ ex), fun p1 f1 => ?_⟩
      rw [cut_hd']
      have s1 : Same G (upd G p1 (.lst (xs.take k))) := Same.laid f1
      refine ⟨_, rfl, x, dx, [], rfl, s1 x _ (sG x _ ew), rfl, x, rfl, fun q1 G1 fq1 t1 wq1 => ?_⟩
      have S1 := (sG.trans s1).trans t1
      refine ⟨_, rfl, x, dx, [], rfl, S1 x _ ew, rfl, x, rfl, fun q2 G2 fq2 t2 wq2 => ?_⟩
      have S2 := S1.trans t2
      refine ⟨z2, fun q3 f3 => ?_⟩
      have s3 : Same G2 (upd G2 q3 (.lst [.ref q1, .ref q2])) := Same.laid f3
      refine ⟨p1, q3, _, _, rfl, rfl, s3 _ _ (t2 _ _ (t1 _ _ upd_same)), upd_same, (by rw [List.length_take, sizeLine_eq]; simp; omega), fun p4 f4 => ?_⟩
      have S4 := (S2.trans s3).step (o := .lst (xs.take k ++ [.ref q1, .ref q2])) f4
      refine ⟨_, rfl, _, rfl, _, rfl, r, xs, rfl, SqL.of (S4 r _ ex), fun p5 f5 => ?_⟩
      rw [cut_dr]
      have S5 := S4.step (o := .lst (xs.drop k)) f5
      refine ⟨p4, p5, _, _, rfl, rfl, Same.laid f5 _ _ upd_same, upd_same, (by rw [List.length_append, List.length_take, List.length_drop, sizeLine_eq]; simp; omega), fun D fD => ?_⟩
      have S6 := S5.step (o := .lst (xs.take k ++ [.ref q1, .ref q2] ++ xs.drop k)) fD
      have U : Same G2 _ := ((s3.step (o := .lst (xs.take k ++ [.ref q1, .ref q2])) f4).step (o := .lst (xs.drop k)) f5).step (o := .lst (xs.take k ++ [.ref q1, .ref q2] ++ xs.drop k)) fD
      have W1 := ((s1.trans t1).trans t2).trans U
      refine ⟨S6, Z ++ [D], by rw [List.map_append]; rfl, (mZ.same W1).snoc ((mZ.same (((((s1.trans t1).trans t2).trans s3).step f4).step f5)).fresh fD) ⟨_, upd_same, by rw [mid_len (by omega), lx], fun j y hy => ?_⟩⟩
      unfold rowB
      rcases mid_at (by omega) hy with ⟨a, b⟩ | ⟨a, b⟩ | ⟨a, b⟩ | ⟨a, b⟩
      · obtain ⟨e, p, q⟩ := hx j y b
        exact ⟨e, p, by dsimp only; rw [if_pos a]; exact q.same S6⟩
      · subst a b
        exact ⟨q1, rfl, by dsimp only; rw [if_neg (by omega), if_pos (by omega)]; exact (wq1.same t2).same U⟩
      · subst a b
        exact ⟨q2, rfl, by dsimp only; rw [if_neg (by omega), if_pos (by omega)]; exact wq2.same U⟩
      · obtain ⟨e, p, q⟩ := hx (j - 2) y b
        exact ⟨e, p, by dsimp only; rw [if_neg (by omega), if_neg (by omega)]; exact q.same S6⟩
    rintro zs G ⟨sG, Z, rfl, mZ⟩ rA fA
    rw [List.length_map, lA] at mZ
    obtain ⟨G1, hG1⟩ : ∃ G1, upd G rA (.lst (Z.map V.ref)) = G1 := ⟨_, rfl⟩
    have sA : Same G G1 := by rw [← hG1]; exact Same.laid fA
    have eA : G1 rA = some (.lst (Z.map V.ref)) := by rw [← hG1]; exact upd_same
    rw [hG1]
    have S1 := sG.trans sA
    have mZ1 := mZ.same sA
    have fAH : H rA = none := sG.free fA
    have e2 : (((A.map V.ref).length : Int) + 2).toNat = n + 2 := by rw [List.length_map]; omega
    refine ⟨2, rfl, by decide, by decide, lc_rng (n := 2) z2 (fun i zs G => Same G1 G ∧ ∃ Z2 : List Addr, zs = Z2.map V.ref ∧ (Mat G Z2 i (n + 2) fun _ _ => []) ∧ NewR G1 G Z2) ⟨Same.refl _, [], rfl, mat_nil, fun r h => nomatch h⟩ (fun i zs G ⟨_, Z2, e, m, _⟩ => by rw [e, List.length_map, m.1]; exact Nat.le_refl _) ?_ ?_⟩
    · rintro i zs G2 hi ⟨s2, Z2, rfl, mZ2, nw⟩
      dsimp only [gName, tTrue]
      refine iteT ?_
      refine ⟨_, rfl, tA, _, rfl, .inl (SqL.of (s2 _ _ (S1 _ _ et))), _, _, rfl, rfl, _, rfl, by rw [List.length_map]; omega, by rw [List.length_map]; omega, ?_⟩
      rw [e2]
      refine lc_rng (n := n + 2) (by rw [sizeLine_eq]; omega) (fun j ws G => Same G2 G ∧ ws.length = j ∧ ∀ (j' : Nat) (y : V), ws[j']? = some y → ∃ e, y = .ref e ∧ WL G e [] ∧ G1 e = none) ⟨Same.refl _, rfl, fun j' y h => by simp at h⟩ (fun j ws G ⟨_, e, _⟩ => by rw [e]; exact Nat.le_refl _) ?_ ?_
      · rintro j ws G3 hj ⟨s3, lw, hw3⟩
        dsimp only [gName, tTrue]
        refine iteT ⟨_, rfl, x, dx, [], rfl, s3 _ _ (s2 _ _ (S1 _ _ ew)), rfl, x, rfl, fun q G4 fq t4 wq => ⟨s3.trans t4, by rw [List.length_append, lw]; rfl, fun j' y hy => ?_⟩⟩
        by_cases z : j' < ws.length
        · rw [List.getElem?_append_left z] at hy
          obtain ⟨e, p, q, q'⟩ := hw3 j' y hy
          exact ⟨e, p, q.same t4, q'⟩
        · rw [List.getElem?_append_right (by omega)] at hy
          have : j' - ws.length = 0 := by
            have := (List.getElem?_eq_some_iff.mp hy).1
            simp at this; omega
          rw [this] at hy
          cases hy
          exact ⟨q, rfl, wq, (s2.trans s3).free fq⟩
      · rintro ws G3 ⟨s3, lw, hw3⟩ D fD
        have sD : Same G3 (upd G3 D (.lst ws)) := Same.laid fD
        refine ⟨(s2.trans s3).trans sD, Z2 ++ [D], by rw [List.map_append]; rfl, (mZ2.same (s3.trans sD)).snoc ((mZ2.same s3).fresh fD) ⟨ws, upd_same, lw, fun j y hy => ?_⟩, fun r hr => ?_⟩
        · obtain ⟨e, p, q, _⟩ := hw3 j y hy
          exact ⟨e, p, q.same sD⟩
        · rcases List.mem_append.mp hr with hr | hr
          · exact newR_same (s3.trans sD) nw r hr
          · rw [List.mem_singleton.mp hr]
            refine ⟨(s2.trans s3).free fD, ws, upd_same, fun e he => ?_⟩
            obtain ⟨j, hj⟩ := List.mem_iff_getElem?.mp he
            obtain ⟨e', p, _, q⟩ := hw3 j _ hj
            cases p
            exact q
    rintro zs G2 ⟨s2, Z2, rfl, mZ2, nw⟩ nA fnA
    obtain ⟨r0, r1, rfl⟩ : ∃ r0 r1, Z2 = [r0, r1] := by
      match Z2, mZ2.1 with
      | [a, b], _ => exact ⟨a, b, rfl⟩
    obtain ⟨G3, hG3⟩ : ∃ G3, upd G2 nA (.lst ([r0, r1].map V.ref)) = G3 := ⟨_, rfl⟩
    have s3 : Same G2 G3 := by rw [← hG3]; exact Same.laid fnA
    have enA : G3 nA = some (.lst ([r0, r1].map V.ref)) := by rw [← hG3]; exact upd_same
    rw [hG3]
    have s13 := s2.trans s3
    have lZ := mZ1.1
    have nrA : rA ≠ nA := fun z => by
      have := s2 _ _ eA
      rw [z, fnA] at this; cases this
    refine ⟨_, rfl, _, rfl, _, rfl, _, rfl, _, rfl, rA, nA, _, _, _, _, rfl, rfl, rfl, rfl, s13 _ _ eA, enA, nrA, by omega, by omega, by rw [List.length_map]; omega, by rw [List.length_map, sizeLine_eq]; simp; omega, ?_⟩
    rw [Int.toNat_natCast, ← List.map_take, ← List.map_drop, ← List.map_append, ← List.map_append]
    have old : ∀ r ∈ Z, G1 r ≠ none := fun r hr z => by
      obtain ⟨i, hi, rfl⟩ := List.getElem_of_mem hr
      obtain ⟨xs, e1, _⟩ := mZ1.2.2 i Z[i] (by simp)
      rw [z] at e1; cases e1
    have fr0 : r0 ∉ Z := fun z => old r0 z (nw r0 (by simp)).1
    have fr1 : r1 ∉ Z := fun z => old r1 z (nw r1 (by simp)).1
    have m3 := mat_mid (mZ1.same s13) (mZ2.same s3) hk fr0 fr1
    have sp : Sep rA G3 (Z.take k ++ [r0, r1] ++ Z.drop k) := fun r hr => by
      rw [List.append_assoc, List.mem_append, List.mem_append] at hr
      have o := sep_old mZ (sA.trans s13) fA
      rcases hr with hr | hr | hr
      · exact o r (List.mem_of_mem_take hr)
      · exact sep_new (newR_same s3 nw) eA r hr
      · exact o r (List.mem_of_mem_drop hr)
    obtain ⟨G4, hG4⟩ : ∃ G4, upd G3 rA (.lst ((Z.take k ++ [r0, r1] ++ Z.drop k).map V.ref)) = G4 := ⟨_, rfl⟩
    rw [hG4]
    have m4 := mat_keep (vs := (Z.take k ++ [r0, r1] ++ Z.drop k).map V.ref) m3 sp (s13 _ _ eA)
    rw [hG4] at m4
    have e4 : G4 rA = some (.lst ((Z.take k ++ [r0, r1] ++ Z.drop k).map V.ref)) := by rw [← hG4]; exact upd_same
    have S4 : Same H G4 := by rw [← hG4]; exact (S1.trans s13).put fAH
    refine ⟨_, rfl, x, dx, [], rfl, S4 _ _ ew, rfl, x, rfl, fun u G5 fu t5 wu => ?_⟩
    have m5 := m4.same t5
    have hk0 : (Z.take k ++ [r0, r1] ++ Z.drop k)[k]? = some r0 := by
      rw [List.append_assoc, List.getElem?_append_right (by rw [List.length_take]; omega), List.length_take]
      rw [show k - min k Z.length = 0 by omega]
      rfl
    obtain ⟨xs, ex, lx, _⟩ := m5.2.2 k r0 hk0
    refine ⟨_, rfl, _, rfl, rA, _, _, _, rfl, rfl, SqL.of (t5 _ _ e4), atI_nat (v := V.ref r0) (by rw [List.getElem?_map, hk0]; rfl), ?_⟩
    refine ⟨_, rfl, _, _, rfl, rfl, r0, xs, _, k + 1, rfl, rfl, ex, ?_, ?_⟩
    · rw [lx]
      show ixN (n + 2) ((k : Int) + 1) = some (k + 1)
      rw [show (k : Int) + 1 = ((k + 1 : Nat) : Int) by omega]
      exact ixN_nat (by omega)
    have m6 := m5.put hk0 ex (show k + 1 < n + 2 by omega) wu
    have fr0H : H r0 = none := S1.free (nw r0 (by simp)).1
    refine ⟨_, rfl, fin rA _ fAH ((S4.trans t5).put fr0H) ⟨_, ?_, m6.congr fun i j hi hj => ?_⟩⟩
    · rw [upd_ne (fun z => by have := (nw r0 (by simp)).1; rw [← z, eA] at this; cases this)]
      exact t5 _ _ e4
    · unfold set2 bornF rowB
      dsimp only
      by_cases a : i = k ∧ j = k + 1
      · rw [if_pos a, if_pos a]
      · rw [if_neg a, if_neg a]
        by_cases b : i < k
        · rw [if_pos b]
          by_cases c : j < k
          · rw [if_pos c, if_neg (by omega), if_pos b, if_pos c]
          · rw [if_neg c]
            by_cases d : j < k + 2
            · rw [if_pos d, if_pos (by omega)]
            · rw [if_neg d, if_neg (by omega), if_pos b, if_neg c]
        · rw [if_neg b]
          by_cases b' : i < k + 2
          · rw [if_pos b', if_pos (by omega)]
          · rw [if_neg b']
            by_cases c : j < k
            · rw [if_pos c, if_neg (by omega), if_neg b, if_pos c]
            · rw [if_neg c]
              by_cases d : j < k + 2
              · rw [if_pos d, if_pos (by omega)]
              · rw [if_neg d, if_neg (by omega), if_neg b, if_neg c]
end
end Qk17

namespace Qk17
open PySem L2 PyProof.Rows
section
variable {P : Program} {w : World} {K : PySem.W.Frag} {mg : Str → Option Value} {base : Heap}
/-! ### tables that are being written -/
theorem atI_at {α : Type} {xs : List α} {i : Int} {j : Nat} {v : α} (e : i = (j : Int)) (h : xs[j]? = some v) : atI xs i = some v := by rw [e]; exact atI_nat h
theorem ixN_at {n : Nat} {i : Int} {j : Nat} (e : i = (j : Int)) (h : j < n) : ixN n i = some j := by rw [e]; exact ixN_nat h
structure Wr (H G : Hp) (rA : Addr) (Z : List Addr) (n : Nat) (F : Nat → Nat → WS) : Prop where
  sm : Same H G
  eA : G rA = some (.lst (Z.map V.ref))
  mat : Mat G Z n n F
  fr : ∀ r ∈ Z, H r = none ∧ r ≠ rA
  fA : H rA = none
theorem wr_same {H G G' : Hp} {rA : Addr} {Z : List Addr} {n : Nat} {F : Nat → Nat → WS} (w : Wr H G rA Z n F) (s : Same G G') : Wr H G' rA Z n F := ⟨w.sm.trans s, s _ _ w.eA, w.mat.same s, w.fr, w.fA⟩
theorem wr_congr {H G : Hp} {rA : Addr} {Z : List Addr} {n : Nat} {F F' : Nat → Nat → WS} (w : Wr H G rA Z n F) (h : ∀ i j, i < n → j < n → F i j = F' i j) : Wr H G rA Z n F' := ⟨w.sm, w.eA, w.mat.congr h, w.fr, w.fA⟩
theorem wr_put {H G : Hp} {rA e : Addr} {Z : List Addr} {n i j : Nat} {F : Nat → Nat → WS} {L : WS} (w : Wr H G rA Z n F) (hi : i < n) (hj : j < n) (we : WL G e L) :
    ∃ (r : Addr) (xs : List V), (Z.map V.ref)[i]? = some (.ref r) ∧ G r = some (.lst xs) ∧ xs.length = n ∧ Wr H (upd G r (.lst (xs.set j (.ref e)))) rA Z n (set2 F i j L) := by
  have hl := w.mat.1
  have hz : Z[i]? = some (Z[i]'(by omega)) := by simp
  obtain ⟨xs, a, b, c⟩ := w.mat.2.2 i _ hz
  have f := w.fr _ (List.mem_of_getElem? hz)
  refine ⟨Z[i]'(by omega), xs, by rw [List.getElem?_map, hz]; rfl, a, b, w.sm.put f.1, ?_, w.mat.put hz a hj we, w.fr, w.fA⟩
  rw [upd_ne (Ne.symm f.2)]; exact w.eA
theorem wr_tab {H G : Hp} {rA : Addr} {Z : List Addr} {n : Nat} {F : Nat → Nat → WS} (w : Wr H G rA Z n F) : Tab G rA n F := ⟨Z, w.eA, w.mat⟩
theorem tab_at {G : Hp} {tA : Addr} {n i j : Nat} {F : Nat → Nat → WS} (x : Tab G tA n F) (hi : i < n) (hj : j < n) : ∃ (ys : List V) (r : Addr) (xs : List V) (e : Addr), G tA = some (.lst ys) ∧ ys[i]? = some (.ref r) ∧ G r = some (.lst xs) ∧ xs[j]? = some (.ref e) ∧ WL G e (F i j) := by
  obtain ⟨ys, r, a, _, b, c⟩ := x.row hi
  obtain ⟨xs, e, d, _, e1, e2⟩ := c.at hj
  exact ⟨ys, r, xs, e, a, b, d, e1, e2⟩
/-- copies of the rows -/
theorem wr_new {H G : Hp} {Z : List Addr} {n : Nat} {F : Nat → Nat → WS} {rA : Addr} (sm : Same H G) (m : Mat G Z n n F) (fr : ∀ r ∈ Z, H r = none) (fA : G rA = none) : Wr H (upd G rA (.lst (Z.map V.ref))) rA Z n F :=
  ⟨sm.step fA, upd_same, m.same (Same.laid fA), fun r hr => ⟨fr r hr, fun z => m.fresh fA (z ▸ hr)⟩, sm.free fA⟩
def TGd (n b : Nat) (F : Nat → Nat → WS) : Prop := ∀ i j, i < n → j < n → L2.Gd 200 b (F i j)
theorem gd_name {t : Int} (h : 0 ≤ t) {n m : Nat} (hn : 1 ≤ n) (hm : 1 ≤ m) : L2.Gd n m [[t]] := ⟨hn, fun w hw => by
  rw [List.mem_singleton.mp hw]
  exact ⟨hm, fun k hk => by rw [List.mem_singleton.mp hk]; exact h⟩⟩
theorem gd_times {A B : WS} {n m n' m' : Nat} (a : L2.Gd n m A) (b : L2.Gd n' m' B) : L2.Gd (n * n') (m + m') (timesF A B) := (canon_odd _).gd (a.prd b)
theorem gd_plus {A B : WS} {n m n' m' : Nat} (a : L2.Gd n m A) (b : L2.Gd n' m' B) : L2.Gd (n + n') (max m m') (plusF A B) := (canon_odd _).gd (a.app b)
def cr1 (k : Nat) (t : Int) (F : Nat → Nat → WS) (c : Nat) : Nat → Nat → WS := fun i j =>
  if i = k ∧ j = k + 1 then [] else if i = k ∧ k + 2 ≤ j ∧ j < k + 2 + c then F (k + 1) j else if i = k + 1 ∧ k + 2 ≤ j ∧ j < k + 2 + c then plusF (F k j) (timesF [[t]] (F (k + 1) j)) else F i j
def cr2 (k n : Nat) (t : Int) (F : Nat → Nat → WS) (c : Nat) : Nat → Nat → WS := fun i j =>
  if i < c ∧ j = k + 1 then F i k else if i < c ∧ j = k then plusF (F i (k + 1)) (timesF (F i k) [[t]]) else cr1 k t F (n - (k + 2)) i j
theorem cr1_step (k c : Nat) (t : Int) (F : Nat → Nat → WS) (i j : Nat) : set2 (set2 (cr1 k t F c) k (k + 2 + c) (F (k + 1) (k + 2 + c))) (k + 1) (k + 2 + c) (plusF (F k (k + 2 + c)) (timesF [[t]] (F (k + 1) (k + 2 + c)))) i j = cr1 k t F (c + 1) i j := by
  unfold set2 cr1
  by_cases e : j = k + 2 + c
  · subst e
    by_cases a : i = k + 1
    · subst a
      rw [if_pos ⟨rfl, rfl⟩, if_neg (by omega), if_neg (by omega), if_pos (by omega)]
    · rw [if_neg (by omega)]
      by_cases b : i = k
      · subst b
        rw [if_pos ⟨rfl, rfl⟩, if_neg (by omega), if_pos (by omega)]
      · rw [if_neg (by omega), if_neg (by omega), if_neg (by omega), if_neg (by omega), if_neg (by omega), if_neg (by omega), if_neg (by omega)]
  · rw [if_neg (by omega), if_neg (by omega)]
    have h1 : (i = k ∧ k + 2 ≤ j ∧ j < k + 2 + c) ↔ (i = k ∧ k + 2 ≤ j ∧ j < k + 2 + (c + 1)) := by omega
    have h2 : (i = k + 1 ∧ k + 2 ≤ j ∧ j < k + 2 + c) ↔ (i = k + 1 ∧ k + 2 ≤ j ∧ j < k + 2 + (c + 1)) := by omega
    simp only [h1, h2]
theorem cr2_step (k n c : Nat) (t : Int) (F : Nat → Nat → WS) (i j : Nat) : set2 (set2 (cr2 k n t F c) c (k + 1) (F c k)) c k (plusF (F c (k + 1)) (timesF (F c k) [[t]])) i j = cr2 k n t F (c + 1) i j := by
  unfold set2 cr2
  grind
theorem cr2_end (k n : Nat) (t : Int) (F : Nat → Nat → WS) (i j : Nat) (hj : j < n) : cr2 k n t F k i j = crossF k t F i j := by
  unfold cr2 cr1 crossF
  grind
def spCross (C : Addr) : Sp := fun vs H Q _ => ∃ (tA nA x : Addr) (n k : Nat) (t : Int) (F : Nat → Nat → WS), vs = [.ref tA, .int (k : Int), .ref nA, .ref x] ∧ IsWay H C x ∧ Tab H tA n F ∧ WL H nA [[t]] ∧ 0 ≤ t ∧ k + 1 < n ∧ n ≤ 500 ∧ TGd n 50000 F ∧
  ∀ (p : Addr) (H' : Hp), H p = none → Same H H' → Tab H' p n (crossF k t F) → Q (.ref p) H'
abbrev s_behind_crossing : Stmt := top 5
theorem sc_behind_crossing : FnScope ["table", "k", "name", "way", "rows", "j", "i"] ["table", "k", "name", "way"] (defScope s_behind_crossing) := ⟨rfl, rfl, rfl, by decide +kernel, rfl, by decide +kernel, by decide +kernel⟩
theorem ok_cross {C : Addr} {f : Addr} {fd : FuncData} (F : Fun K "behind_crossing" "behind_crossing" s_behind_crossing f fd) (c_way : Cls K C) (m_nought : HasM P w K mg base 1 C "nought" ["self"] (spNought C)) (m_plus : HasM P w K mg base 3 C "plus" ["self", "one", "other"] spPlusM) (m_times : HasM P w K mg base 3 C "times" ["self", "one", "other"] spTimesM) (b_range : mg "range" = none) (b_len : mg "len" = none) (b_list : mg "list" = none) : FnOk P w K mg base CX0 4 f fd ["table", "k", "name", "way"] (spCross C) := by
  refine F.ok sc_behind_crossing (fun vs H Q E h => ?_) (fun cdv A outer s H vs Q E hr h => ?_)
  · obtain ⟨tA, nA, x, n, k, t, F, rfl, _⟩ := h
    rfl
  · obtain ⟨tA, nA, x, n, k, t, F, rfl, hw, hT, hN, ht, hk, hn, tg, fin⟩ := h
    refine ⟨_, (pss_cons (ps_lc (i := 4) sc_behind_crossing.nd rfl (Or.inl rfl) (Ls := ["row"]) (Fs := []) (fi := []) (LcScope.of (show lcLook ["table", "k", "name", "way", "rows", "j", "i"] (defScope s_behind_crossing) _ [] [] = true by decide +kernel)) rfl (pi_listK (K := K) rfl (pv 0)) (fun cl C s3 H3 ex => ⟨(pg_name (i := 0) (show ((["row"] : List Str) ++ ([] : List Str)).Nodup by decide +kernel) rfl (Or.inl rfl)), pts_nil, (pe_callTy (call_listK (K := K) rfl) (by rfl) b_list boot_list (pa_cons (pv 0) pa_nil))⟩))
      (pss_cons (ps_asg (pe_hasM0 m_nought c_way (hr.mono (by decide)) (pv 3)) (pg_sub (pe_ix (ix_listK (K := K) rfl) (pv 4) (pv 1) (fun _ _ => rfl)) (pe_op op_add (pv 1) pe_int) set_list))
      (pss_cons (ps_for PassesOwn.never rfl (pi_range2 (by rfl) b_range (pa_cons (pe_op op_add (pv 1) pe_int) (pa_cons (pe_callB (call_lenK (K := K) rfl) (by rfl) b_len PySem.boot_len (pa_cons (pv 0) pa_nil)) pa_nil))) (pg_name (i := 5) sc_behind_crossing.nd rfl (Or.inl rfl)) (pss_cons (ps_asg (pe_ix (ix_listK (K := K) rfl) (pe_ix (ix_listK (K := K) rfl) (pv 0) (pe_op op_add (pv 1) pe_int) (fun _ _ => rfl)) (pv 5) (fun _ _ => rfl)) (pg_sub (pe_ix (ix_listK (K := K) rfl) (pv 4) (pv 1) (fun _ _ => rfl)) (pv 5) set_list))
      (pss_one (ps_asg (pe_hasM m_plus c_way (hr.mono (by decide)) (pv 3) (pa_cons (pe_ix (ix_listK (K := K) rfl) (pe_ix (ix_listK (K := K) rfl) (pv 0) (pv 1) (fun _ _ => rfl)) (pv 5) (fun _ _ => rfl)) (pa_cons (pe_hasM m_times c_way (hr.mono (by decide)) (pv 3) (pa_cons (pv 2) (pa_cons (pe_ix (ix_listK (K := K) rfl) (pe_ix (ix_listK (K := K) rfl) (pv 0) (pe_op op_add (pv 1) pe_int) (fun _ _ => rfl)) (pv 5) (fun _ _ => rfl)) pa_nil))) pa_nil))) (pg_sub (pe_ix (ix_listK (K := K) rfl) (pv 4) (pe_op op_add (pv 1) pe_int) (fun _ _ => rfl)) (pv 5) set_list)))))
      (pss_cons (ps_for PassesOwn.never rfl (pi_range1 (by rfl) b_range (pa_cons (pv 1) pa_nil)) (pg_name (i := 6) sc_behind_crossing.nd rfl (Or.inl rfl)) (pss_cons (ps_asg (pe_ix (ix_listK (K := K) rfl) (pe_ix (ix_listK (K := K) rfl) (pv 0) (pv 6) (fun _ _ => rfl)) (pv 1) (fun _ _ => rfl)) (pg_sub (pe_ix (ix_listK (K := K) rfl) (pv 4) (pv 6) (fun _ _ => rfl)) (pe_op op_add (pv 1) pe_int) set_list))
      (pss_one (ps_asg (pe_hasM m_plus c_way (hr.mono (by decide)) (pv 3) (pa_cons (pe_ix (ix_listK (K := K) rfl) (pe_ix (ix_listK (K := K) rfl) (pv 0) (pv 6) (fun _ _ => rfl)) (pe_op op_add (pv 1) pe_int) (fun _ _ => rfl)) (pa_cons (pe_hasM m_times c_way (hr.mono (by decide)) (pv 3) (pa_cons (pe_ix (ix_listK (K := K) rfl) (pe_ix (ix_listK (K := K) rfl) (pv 0) (pv 6) (fun _ _ => rfl)) (pv 1) (fun _ _ => rfl)) (pa_cons (pv 2) pa_nil))) pa_nil))) (pg_sub (pe_ix (ix_listK (K := K) rfl) (pv 4) (pv 6) (fun _ _ => rfl)) (pv 1) set_list)))))
      (pss_one (ps_ret (pv 4))))))), ?_⟩
    obtain ⟨dx, fs, ew, rfl⟩ := id hw
    obtain ⟨A, et, mt⟩ := id hT
    have lA := mt.1
    refine ⟨_, rfl, tA, rfl, ⟨_, SqL.of et⟩, lc_list (K := K) (xs := A.map V.ref) (by rw [List.length_map, sizeLine_eq]; omega) (fun i zs G => Same H G ∧ ∃ Z : List Addr, zs = Z.map V.ref ∧ Mat G Z i n F ∧ ∀ r ∈ Z, H r = none) ⟨Same.refl _, [], rfl, mat_nil, fun r h => nomatch h⟩
      (fun i zs G ⟨_, Z, e, m, _⟩ => by rw [e, List.length_map, m.1]; exact Nat.le_refl _) (fun i zs G ⟨s', _⟩ => SqL.of (s' tA _ et)) ?_ ?_⟩
    · rintro i v zs G hv ⟨sG, Z, rfl, mZ, nw⟩
      rw [List.getElem?_map] at hv
      obtain ⟨r, hr', rfl⟩ := Option.map_eq_some_iff.mp hv
      obtain ⟨xs, ex, lx, hx⟩ := (mt.2.2 i r hr').same sG
      dsimp only [gName, tTrue]
      refine iteT ⟨_, rfl, r, xs, rfl, .inl (SqL.of ex), fun D fD => ⟨sG.step fD, Z ++ [D], by rw [List.map_append]; rfl, (mZ.same (Same.laid fD)).snoc (mZ.fresh fD) ⟨xs, upd_same, lx, fun j y hy => ?_⟩, fun r' hr'' => ?_⟩⟩
      · obtain ⟨e, p, q⟩ := hx j y hy
        exact ⟨e, p, q.same (Same.laid fD)⟩
      · rcases List.mem_append.mp hr'' with z | z
        · exact nw r' z
        · rw [List.mem_singleton.mp z]; exact sG.free fD
    rintro zs G ⟨sG, Z, rfl, mZ, nw⟩ rA fA
    rw [List.length_map, lA] at mZ
    have W0 := wr_new sG mZ nw fA
    obtain ⟨G1, hG1⟩ : ∃ G1, upd G rA (.lst (Z.map V.ref)) = G1 := ⟨_, rfl⟩
    rw [hG1] at W0 ⊢
    refine ⟨_, rfl, x, dx, [], rfl, W0.sm _ _ ew, rfl, x, rfl, fun u G2 fu t2 wu => ?_⟩
    obtain ⟨r, xs, h1, h2, h3, W1⟩ := wr_put (i := k) (j := k + 1) (wr_same W0 t2) (by omega) (by omega) wu
    refine ⟨_, rfl, _, rfl, rA, _, _, _, rfl, rfl, SqL.of (t2 _ _ W0.eA), atI_nat h1, _, rfl, _, _, rfl, rfl, r, xs, _, k + 1, rfl, rfl, h2, ixN_at (by omega) (by omega), ?_⟩
    obtain ⟨G3, hG3⟩ : ∃ G3, upd G2 r (.lst (xs.set (k + 1) (.ref u))) = G3 := ⟨_, rfl⟩
    rw [hG3] at W1 ⊢
    have e2 : (((A.map V.ref).length : Int) - ((k : Int) + 2)).toNat = n - (k + 2) := by rw [List.length_map]; omega
    refine ⟨_, rfl, _, _, rfl, rfl, _, rfl, tA, _, rfl, .inl (SqL.of (W1.sm _ _ et)), _, _, rfl, ⟨by omega, by omega, by omega, by rw [List.length_map]; omega⟩, ?_⟩
    rw [e2]
    refine for_range (n := n - (k + 2)) (fun c σ G => ∃ v5 v6 : Option V, σ = [some (.ref tA), some (.int (k : Int)), some (.ref nA), some (.ref x), some (.ref rA), v5, v6] ∧ Wr H G rA Z n (cr1 k t F c)) ⟨none, none, rfl, wr_congr W1 fun i j _ _ => by unfold set2 cr1; grind⟩ ?_ ?_
    · rintro c σ G hc ⟨v5, v6, rfl, W⟩
      obtain ⟨ys, r1, xs1, e1, a1, a2, a3, a4, a5⟩ := tab_at (hT.same W.sm) (i := k + 1) (j := k + 2 + c) (by omega) (by omega)
      obtain ⟨r, xs, h1, h2, h3, W2⟩ := wr_put (i := k) (j := k + 2 + c) W (by omega) (by omega) a5
      refine ⟨_, rfl, _, rfl, _, _, rfl, rfl, tA, _, _, _, rfl, rfl, SqL.of a1, atI_at (by omega) a2, _, rfl, r1, _, _, _, rfl, rfl, SqL.of a3, atI_at (by omega) a4, ?_⟩
      refine ⟨_, rfl, _, rfl, rA, _, _, _, rfl, rfl, SqL.of W.eA, atI_nat h1, _, rfl, r, xs, _, k + 2 + c, rfl, rfl, h2, ixN_at (by omega) (by omega), ?_⟩
      obtain ⟨G4, hG4⟩ : ∃ G4, upd G r (.lst (xs.set (k + 2 + c) (.ref e1))) = G4 := ⟨_, rfl⟩
      rw [hG4] at W2 ⊢
      obtain ⟨ys, r1, xs1, e1, a1, a2, a3, a4, a5⟩ := tab_at (hT.same W2.sm) (i := k + 1) (j := k + 2 + c) (by omega) (by omega)
      obtain ⟨ys', r2, xs2, e2, b1, b2, b3, b4, b5⟩ := tab_at (hT.same W2.sm) (i := k) (j := k + 2 + c) (by omega) (by omega)
      have g1 := tg (k + 1) (k + 2 + c) (by omega) (by omega)
      have g2 := tg k (k + 2 + c) (by omega) (by omega)
      refine ⟨_, rfl, x, dx, [], rfl, W2.sm _ _ ew, rfl, _, rfl, _, rfl, tA, _, _, _, rfl, rfl, SqL.of b1, atI_nat b2, _, rfl, r2, _, _, _, rfl, rfl, SqL.of b3, atI_at (by omega) b4, ?_⟩
      refine ⟨_, rfl, x, dx, [], rfl, W2.sm _ _ ew, rfl, _, rfl, _, rfl, _, rfl, _, _, rfl, rfl, tA, _, _, _, rfl, rfl, SqL.of a1, atI_at (by omega) a2, _, rfl, r1, _, _, _, rfl, rfl, SqL.of a3, atI_at (by omega) a4, ?_⟩
      refine ⟨x, nA, e1, _, _, rfl, hN.same W2.sm, a5, gd_name ht (by decide) (by decide), g1.mono (by decide) (by decide), fun p G5 fp t5 wp => ?_⟩
      have g3 := gd_times (gd_name ht (n := 1) (m := 1) (by decide) (by decide)) g1
      have l2 := g2.1
      have l3 := g3.1
      refine ⟨x, e2, p, _, _, rfl, b5.same t5, wp, by omega, fun q G6 fq t6 wq => ?_⟩
      have W3 := wr_same W2 (t5.trans t6)
      obtain ⟨r', xs', h1', h2', h3', W4⟩ := wr_put (i := k + 1) (j := k + 2 + c) W3 (by omega) (by omega) wq
      refine ⟨_, rfl, _, rfl, _, _, rfl, rfl, rA, _, _, _, rfl, rfl, SqL.of W3.eA, atI_at (by omega) h1', _, rfl, r', xs', _, k + 2 + c, rfl, rfl, h2', ixN_at (by omega) (by omega), ?_⟩
      exact ⟨_, _, rfl, wr_congr W4 fun i j _ _ => cr1_step k c t F i j⟩
    rintro σ G ⟨v5, v6, rfl, W⟩
    refine ⟨_, rfl, _, rfl, by omega, by omega, ?_⟩
    rw [Int.toNat_natCast]
    refine for_range (n := k) (fun c σ G => ∃ v5 v6 : Option V, σ = [some (.ref tA), some (.int (k : Int)), some (.ref nA), some (.ref x), some (.ref rA), v5, v6] ∧ Wr H G rA Z n (cr2 k n t F c)) ⟨_, _, rfl, wr_congr W fun i j _ _ => by unfold cr2; grind⟩ ?_ ?_
    · rintro c σ G hc ⟨v5, v6, rfl, W⟩
      obtain ⟨ys, r1, xs1, e1, a1, a2, a3, a4, a5⟩ := tab_at (hT.same W.sm) (i := c) (j := k) (by omega) (by omega)
      obtain ⟨r, xs, h1, h2, h3, W2⟩ := wr_put (i := c) (j := k + 1) W (by omega) (by omega) a5
      refine ⟨_, rfl, _, rfl, tA, _, _, _, rfl, rfl, SqL.of a1, atI_at (by omega) a2, _, rfl, r1, _, _, _, rfl, rfl, SqL.of a3, atI_nat a4, ?_⟩
      refine ⟨_, rfl, _, rfl, rA, _, _, _, rfl, rfl, SqL.of W.eA, atI_at (by omega) h1, _, rfl, _, _, rfl, rfl, r, xs, _, k + 1, rfl, rfl, h2, ixN_at (by omega) (by omega), ?_⟩
      obtain ⟨G4, hG4⟩ : ∃ G4, upd G r (.lst (xs.set (k + 1) (.ref e1))) = G4 := ⟨_, rfl⟩
      rw [hG4] at W2 ⊢
      obtain ⟨ys, r1, xs1, e1, a1, a2, a3, a4, a5⟩ := tab_at (hT.same W2.sm) (i := c) (j := k) (by omega) (by omega)
      obtain ⟨ys', r2, xs2, e2, b1, b2, b3, b4, b5⟩ := tab_at (hT.same W2.sm) (i := c) (j := k + 1) (by omega) (by omega)
      have g1 := tg c k (by omega) (by omega)
      have g2 := tg c (k + 1) (by omega) (by omega)
      refine ⟨_, rfl, x, dx, [], rfl, W2.sm _ _ ew, rfl, _, rfl, _, rfl, tA, _, _, _, rfl, rfl, SqL.of b1, atI_at (by omega) b2, _, rfl, _, _, rfl, rfl, r2, _, _, _, rfl, rfl, SqL.of b3, atI_at (by omega) b4, ?_⟩
      refine ⟨_, rfl, x, dx, [], rfl, W2.sm _ _ ew, rfl, _, rfl, _, rfl, tA, _, _, _, rfl, rfl, SqL.of a1, atI_at (by omega) a2, _, rfl, r1, _, _, _, rfl, rfl, SqL.of a3, atI_nat a4, _, rfl, ?_⟩
      refine ⟨x, e1, nA, _, _, rfl, a5, hN.same W2.sm, g1.mono (by decide) (by decide), gd_name ht (by decide) (by decide), fun p G5 fp t5 wp => ?_⟩
      have g3 := gd_times g1 (gd_name ht (n := 1) (m := 1) (by decide) (by decide))
      have l2 := g2.1
      have l3 := g3.1
      refine ⟨x, e2, p, _, _, rfl, b5.same t5, wp, by omega, fun q G6 fq t6 wq => ?_⟩
      have W3 := wr_same W2 (t5.trans t6)
      obtain ⟨r', xs', h1', h2', h3', W4⟩ := wr_put (i := c) (j := k) W3 (by omega) (by omega) wq
      refine ⟨_, rfl, _, rfl, rA, _, _, _, rfl, rfl, SqL.of W3.eA, atI_at (by omega) h1', _, rfl, r', xs', _, k, rfl, rfl, h2', ixN_at (by omega) (by omega), ?_⟩
      exact ⟨_, _, rfl, wr_congr W4 fun i j _ _ => cr2_step k n c t F i j⟩
    rintro σ G ⟨v5, v6, rfl, W⟩
    exact ⟨_, rfl, fin rA G W.fA W.sm ((wr_tab W).congr fun i j _ hj => cr2_end k n t F i j hj)⟩
end
end Qk17

namespace Qk17
open PySem L2 PyProof.Rows
section
variable {P : Program} {w : World} {K : PySem.W.Frag} {mg : Str → Option Value} {base : Heap}
/-! ### behind an end -/
def upE (k i : Nat) : Nat := if i < k then i else i + 2
def en (k : Nat) (t : Int) (F : Nat → Nat → WS) (c d : Nat) : Nat → Nat → WS := fun i j =>
  if k ≤ j ∧ (i < c ∨ (i = c ∧ j < k + d)) then plusF (F i (j + 2)) (timesF (ontoF k t F i) (offF k t F (j + 2))) else F (upE k i) (upE k j)
theorem en_step (k : Nat) (t : Int) (F : Nat → Nat → WS) (c d i j : Nat) (hc : c < k) : set2 (en k t F c d) c (k + d) (plusF (F c (k + d + 2)) (timesF (ontoF k t F c) (offF k t F (k + d + 2)))) i j = en k t F c (d + 1) i j := by
  unfold set2 en
  by_cases e : i = c ∧ j = k + d
  · obtain ⟨rfl, rfl⟩ := e
    rw [if_pos ⟨rfl, rfl⟩, if_pos (by omega)]
  · rw [if_neg e]
    have h1 : (k ≤ j ∧ (i < c ∨ i = c ∧ j < k + d)) ↔ (k ≤ j ∧ (i < c ∨ i = c ∧ j < k + (d + 1))) := by omega
    simp only [h1]
theorem en_next (k n : Nat) (t : Int) (F : Nat → Nat → WS) (c i j : Nat) (hj : j < n - 2) : en k t F c (n - 2 - k) i j = en k t F (c + 1) 0 i j := by
  unfold en
  have h1 : (k ≤ j ∧ (i < c ∨ i = c ∧ j < k + (n - 2 - k))) ↔ (k ≤ j ∧ (i < c + 1 ∨ i = c + 1 ∧ j < k + 0)) := by omega
  simp only [h1]
theorem en_end (k : Nat) (t : Int) (F : Nat → Nat → WS) (i j : Nat) : en k t F k 0 i j = endF k t F i j := by
  unfold en endF upE
  have h1 : (k ≤ j ∧ (i < k ∨ i = k ∧ j < k + 0)) ↔ (i < k ∧ k ≤ j) := by omega
  simp only [h1]
theorem cut_dr2 (xs : List V) (k : Nat) : cutV xs (some ((k : Int) + 2)) none = xs.drop (k + 2) := by
  rw [show (k : Int) + 2 = ((k + 2 : Nat) : Int) by omega]
  exact cut_dr xs (k + 2)
theorem gap_at {α : Type} {l : List α} {k i : Nat} {x : α} (hk : k ≤ l.length) (h : (l.take k ++ l.drop (k + 2))[i]? = some x) : l[upE k i]? = some x := by
  have lt : (l.take k).length = k := by rw [List.length_take]; omega
  unfold upE
  by_cases a : i < k
  · rw [if_pos a]
    rw [List.getElem?_append_left (by omega), List.getElem?_take, if_pos a] at h
    exact h
  · rw [if_neg a]
    rw [List.getElem?_append_right (by omega), lt, List.getElem?_drop] at h
    rw [← h]
    congr 1
    omega
theorem gap_len {α : Type} {l : List α} {k n : Nat} (hl : l.length = n) (hk : k + 1 < n) : (l.take k ++ l.drop (k + 2)).length = n - 2 := by
  rw [List.length_append, List.length_take, List.length_drop]; omega
def spEnd (C : Addr) : Sp := fun vs H Q _ => ∃ (tA nA x : Addr) (n k : Nat) (t : Int) (F : Nat → Nat → WS), vs = [.ref tA, .int (k : Int), .ref nA, .ref x] ∧ IsWay H C x ∧ Tab H tA n F ∧ WL H nA [[t]] ∧ 0 ≤ t ∧ k + 1 < n ∧ n ≤ 500 ∧ TGd n 50000 F ∧
  ∀ (p : Addr) (H' : Hp), H p = none → Same H H' → Tab H' p (n - 2) (endF k t F) → Q (.ref p) H'
theorem row_snoc {G G' : Hp} {zs : List V} {f : Nat → WS} {e : Addr} (h : ∀ (j : Nat) (y : V), zs[j]? = some y → ∃ e, y = .ref e ∧ WL G e (f j)) (s : Same G G') (w : WL G' e (f zs.length)) : ∀ (j : Nat) (y : V), (zs ++ [V.ref e])[j]? = some y → ∃ e, y = .ref e ∧ WL G' e (f j) := fun j y hy => by
  by_cases z : j < zs.length
  · rw [List.getElem?_append_left z] at hy
    obtain ⟨e, p, q⟩ := h j y hy
    exact ⟨e, p, q.same s⟩
  · rw [List.getElem?_append_right (by omega)] at hy
    have : j - zs.length = 0 := by
      have := (List.getElem?_eq_some_iff.mp hy).1
      simp at this; omega
    rw [this] at hy
    cases hy
    have : j = zs.length := by omega
    subst this
    exact ⟨e, rfl, w⟩
theorem gd_onto {n k i : Nat} {t : Int} {F : Nat → Nat → WS} (tg : TGd n 50000 F) (ht : 0 ≤ t) (hk : k + 1 < n) (hi : i < n) : L2.Gd 400 50001 (ontoF k t F i) :=
  (gd_plus (tg i (k + 1) hi (by omega)) (gd_times (tg i k hi (by omega)) (gd_name ht (n := 1) (m := 1) (by decide) (by decide)))).mono (by decide) (by decide)
theorem gd_off {n k j : Nat} {t : Int} {F : Nat → Nat → WS} (tg : TGd n 50000 F) (ht : 0 ≤ t) (hk : k + 1 < n) (hj : j < n) : L2.Gd 400 50001 (offF k t F j) :=
  (gd_plus (tg k j (by omega) hj) (gd_times (gd_name ht (n := 1) (m := 1) (by decide) (by decide)) (tg (k + 1) j (by omega) hj))).mono (by decide) (by decide)
abbrev s_behind_end : Stmt := top 6
theorem sc_behind_end : FnScope ["table", "k", "name", "way", "onto", "off", "rows", "i", "j"] ["table", "k", "name", "way"] (defScope s_behind_end) := ⟨rfl, rfl, rfl, by decide +kernel, rfl, by decide +kernel, by decide +kernel⟩
theorem ok_end {C : Addr} {f : Addr} {fd : FuncData} (F : Fun K "behind_end" "behind_end" s_behind_end f fd) (c_way : Cls K C) (m_plus : HasM P w K mg base 3 C "plus" ["self", "one", "other"] spPlusM) (m_times : HasM P w K mg base 3 C "times" ["self", "one", "other"] spTimesM) (b_range : mg "range" = none) (b_len : mg "len" = none) (b_zip : mg "zip" = none) : FnOk P w K mg base CX0 4 f fd ["table", "k", "name", "way"] (spEnd C) := by
  refine F.ok sc_behind_end (fun vs H Q E h => ?_) (fun cdv A outer s H vs Q E hr h => ?_)
  · obtain ⟨tA, nA, x, n, k, t, F, rfl, _⟩ := h
    rfl
  · obtain ⟨tA, nA, x, n, k, t, F, rfl, hw, hT, hN, ht, hk, hn, tg, fin⟩ := h
    refine ⟨_, (pss_cons (ps_lc (i := 4) sc_behind_end.nd rfl (Or.inl rfl) (Ls := ["row"]) (Fs := ["way", "name", "k"]) (fi := [3, 2, 1]) (LcScope.of (show lcLook ["table", "k", "name", "way", "onto", "off", "rows", "i", "j"] (defScope s_behind_end) _ ["way", "name", "k"] [3, 2, 1] = true by decide +kernel)) rfl (pi_listK (K := K) rfl (pe_slice (sl_listK (K := K) rfl) (pv 0) po_none (po_some (pv 1)))) (fun cl C s3 H3 ex => ⟨(pg_name (i := 0) (show ((["row"] : List Str) ++ (["way", "name", "k"] : List Str)).Nodup by decide +kernel) rfl (Or.inl rfl)), pts_nil, (pe_hasM m_plus c_way (hr.mono (by decide)) (pv 1) (pa_cons (pe_ix (ix_listK (K := K) rfl) (pv 0) (pe_op op_add (pv 3) pe_int) (fun _ _ => rfl)) (pa_cons (pe_hasM m_times c_way (hr.mono (by decide)) (pv 1) (pa_cons (pe_ix (ix_listK (K := K) rfl) (pv 0) (pv 3) (fun _ _ => rfl)) (pa_cons (pv 2) pa_nil))) pa_nil)))⟩))
      (pss_cons (ps_lc (i := 5) sc_behind_end.nd rfl (Or.inl rfl) (Ls := ["upper", "lower"]) (Fs := ["way", "name"]) (fi := [3, 2]) (LcScope.of (show lcLook ["table", "k", "name", "way", "onto", "off", "rows", "i", "j"] (defScope s_behind_end) _ ["way", "name"] [3, 2] = true by decide +kernel)) rfl (pi_zipK (K := K) rfl (by rfl) b_zip (pa_cons (pe_ix (ix_listK (K := K) rfl) (pv 0) (pv 1) (fun _ _ => rfl)) (pa_cons (pe_ix (ix_listK (K := K) rfl) (pv 0) (pe_op op_add (pv 1) pe_int) (fun _ _ => rfl)) pa_nil))) (fun cl C s3 H3 ex => ⟨(pg_tupK (K := K) (n := 2) rfl rfl (pgs_cons (pg_name (i := 0) (show ((["upper", "lower"] : List Str) ++ (["way", "name"] : List Str)).Nodup by decide +kernel) rfl (Or.inl rfl)) (pgs_cons (pg_name (i := 1) (show ((["upper", "lower"] : List Str) ++ (["way", "name"] : List Str)).Nodup by decide +kernel) rfl (Or.inl rfl)) pgs_nil))), pts_nil, (pe_hasM m_plus c_way (hr.mono (by decide)) (pv 2) (pa_cons (pv 0) (pa_cons (pe_hasM m_times c_way (hr.mono (by decide)) (pv 2) (pa_cons (pv 3) (pa_cons (pv 1) pa_nil))) pa_nil)))⟩))
      (pss_cons (ps_lc (i := 6) sc_behind_end.nd rfl (Or.inl rfl) (Ls := ["row"]) (Fs := ["k"]) (fi := [1]) (LcScope.of (show lcLook ["table", "k", "name", "way", "onto", "off", "rows", "i", "j"] (defScope s_behind_end) _ ["k"] [1] = true by decide +kernel)) rfl (pi_listK (K := K) rfl (pe_op op_cat (pe_slice (sl_listK (K := K) rfl) (pv 0) po_none (po_some (pv 1))) (pe_slice (sl_listK (K := K) rfl) (pv 0) (po_some (pe_op op_add (pv 1) pe_int)) po_none))) (fun cl C s3 H3 ex => ⟨(pg_name (i := 0) (show ((["row"] : List Str) ++ (["k"] : List Str)).Nodup by decide +kernel) rfl (Or.inl rfl)), pts_nil, (pe_op op_cat (pe_slice (sl_listK (K := K) rfl) (pv 0) po_none (po_some (pv 1))) (pe_slice (sl_listK (K := K) rfl) (pv 0) (po_some (pe_op op_add (pv 1) pe_int)) po_none))⟩))
      (pss_cons (ps_for PassesOwn.never rfl (pi_range1 (by rfl) b_range (pa_cons (pv 1) pa_nil)) (pg_name (i := 7) sc_behind_end.nd rfl (Or.inl rfl)) (pss_one (ps_for PassesOwn.never rfl (pi_range2 (by rfl) b_range (pa_cons (pv 1) (pa_cons (pe_callB (call_lenK (K := K) rfl) (by rfl) b_len PySem.boot_len (pa_cons (pv 6) pa_nil)) pa_nil))) (pg_name (i := 8) sc_behind_end.nd rfl (Or.inl rfl)) (pss_one (ps_asg (pe_hasM m_plus c_way (hr.mono (by decide)) (pv 3) (pa_cons (pe_ix (ix_listK (K := K) rfl) (pe_ix (ix_listK (K := K) rfl) (pv 6) (pv 7) (fun _ _ => rfl)) (pv 8) (fun _ _ => rfl)) (pa_cons (pe_hasM m_times c_way (hr.mono (by decide)) (pv 3) (pa_cons (pe_ix (ix_listK (K := K) rfl) (pv 4) (pv 7) (fun _ _ => rfl)) (pa_cons (pe_ix (ix_listK (K := K) rfl) (pv 5) (pe_op op_add (pv 8) pe_int) (fun _ _ => rfl)) pa_nil))) pa_nil))) (pg_sub (pe_ix (ix_listK (K := K) rfl) (pv 6) (pv 7) (fun _ _ => rfl)) (pv 8) set_list))))))
      (pss_one (ps_ret (pv 6))))))), ?_⟩
    obtain ⟨dx, fs, ew, rfl⟩ := id hw
    obtain ⟨A, et, mt⟩ := id hT
    have lA := mt.1
    have g1 := gd_name ht (n := 1000) (m := 100000) (by decide) (by decide)
    refine ⟨_, rfl, _, rfl, _, rfl, tA, _, rfl, SqL.of et, fun p1 f1 => ?_⟩
    rw [cut_hd']
    have s1 : Same H (upd H p1 (.lst ((A.map V.ref).take k))) := Same.laid f1
    refine ⟨p1, rfl, ⟨_, SqL.of upd_same⟩, lc_list (K := K) (xs := (A.map V.ref).take k) (by rw [List.length_take, List.length_map, sizeLine_eq]; omega) (fun i zs G => Same (upd H p1 (.lst ((A.map V.ref).take k))) G ∧ zs.length = i ∧ ∀ (j : Nat) (y : V), zs[j]? = some y → ∃ e, y = .ref e ∧ WL G e (ontoF k t F j)) ⟨Same.refl _, rfl, fun j y h => by simp at h⟩
      (fun i zs G ⟨_, e, _⟩ => by rw [e]; exact Nat.le_refl _) (fun i zs G ⟨s', _⟩ => SqL.of (s' p1 _ upd_same)) ?_ ?_⟩
    · rintro i v zs G hv ⟨sG, lz, hz⟩
      have hik : i < k := by have := (List.getElem?_eq_some_iff.mp hv).1; rw [List.length_take] at this; omega
      rw [List.getElem?_take, if_pos hik, List.getElem?_map] at hv
      obtain ⟨r, hr', rfl⟩ := Option.map_eq_some_iff.mp hv
      have S := s1.trans sG
      have R := (mt.2.2 i r hr').same S
      obtain ⟨xs, e1, ex, lx, a1, a2⟩ := R.at (j := k) (by omega)
      obtain ⟨xs', e2, ex', lx', b1, b2⟩ := R.at (j := k + 1) (by omega)
      have q1 := tg i k (by omega) (by omega)
      have q2 := tg i (k + 1) (by omega) (by omega)
      have q3 := gd_times q1 (gd_name ht (n := 1) (m := 1) (by decide) (by decide))
      have l2 := q2.1
      have l3 := q3.1
      dsimp only [gName, tTrue]
      refine iteT ⟨_, rfl, x, dx, [], rfl, S _ _ ew, rfl, _, rfl, _, rfl, _, _, rfl, rfl, r, _, _, _, rfl, rfl, SqL.of ex', atI_at (by omega) b1, ?_⟩
      refine ⟨_, rfl, x, dx, [], rfl, S _ _ ew, rfl, _, rfl, _, rfl, r, _, _, _, rfl, rfl, SqL.of ex, atI_nat a1, _, rfl, ?_⟩
      refine ⟨x, e1, nA, _, _, rfl, a2, hN.same S, q1.mono (by decide) (by decide), g1, fun p G2 fp t2 wp => ?_⟩
      refine ⟨x, e2, p, _, _, rfl, b2.same t2, wp, by omega, fun q G3 fq t3 wq => ?_⟩
      exact ⟨(sG.trans t2).trans t3, by rw [List.length_append, lz]; rfl, row_snoc hz (t2.trans t3) (by rw [lz]; exact wq)⟩
    rintro zs G ⟨sG, lz, hz⟩ oA fo
    rw [List.length_take, List.length_map, lA, Nat.min_eq_left (by omega)] at lz
    have so : Same G (upd G oA (.lst zs)) := Same.laid fo
    have rO : RowAt (upd G oA (.lst zs)) oA k (ontoF k t F) := ⟨zs, upd_same, lz, fun j y hy => let ⟨e, p, q⟩ := hz j y hy; ⟨e, p, q.same so⟩⟩
    have S1 := (s1.trans sG).trans so
    obtain ⟨G1, hG1⟩ : ∃ G1, upd G oA (.lst zs) = G1 := ⟨_, rfl⟩
    rw [hG1] at rO S1 ⊢
    -- off
    obtain ⟨ys, r0, a1, a2, a3, a4⟩ := (hT.same S1).row (i := k) (by omega)
    obtain ⟨ys', r1, b1, b2, b3, b4⟩ := (hT.same S1).row (i := k + 1) (by omega)
    obtain ⟨us, c1, c2, c3⟩ := id a4
    obtain ⟨vs, d1, d2, d3⟩ := id b4
    refine ⟨_, rfl, _, rfl, tA, _, _, _, rfl, rfl, SqL.of a1, atI_nat a3, _, rfl, _, rfl, _, _, rfl, rfl, tA, _, _, _, rfl, rfl, SqL.of b1, atI_at (by omega) b3, ?_⟩
    refine ⟨r0, r1, rfl, ⟨_, SqL.of c1⟩, ⟨_, SqL.of d1⟩, lc_zip (K := K) (xs := us) (ys := vs) (by rw [c2, sizeLine_eq]; omega) (by omega) (fun i zs G => Same G1 G ∧ zs.length = i ∧ ∀ (j : Nat) (y : V), zs[j]? = some y → ∃ e, y = .ref e ∧ WL G e (offF k t F j)) ⟨Same.refl _, rfl, fun j y h => by simp at h⟩
      (fun i zs G ⟨_, e, _⟩ => by rw [e]; exact Nat.le_refl _) (fun i zs G ⟨s', _⟩ => ⟨SqL.of (s' _ _ c1), SqL.of (s' _ _ d1)⟩) ?_ ?_⟩
    · rintro i y z p zs G2 hy hz' ⟨s2, lz2, hz2⟩ fp
      have hin : i < n := by have := (List.getElem?_eq_some_iff.mp hy).1; omega
      obtain ⟨e1, rfl, w1⟩ := c3 i y hy
      obtain ⟨e2, rfl, w2⟩ := d3 i z hz'
      have sp := s2.step (o := .tup [.ref e1, .ref e2]) fp
      have S := S1.trans sp
      have q1 := tg (k + 1) i (by omega) (by omega)
      have q2 := tg k i (by omega) (by omega)
      have q3 := gd_times (gd_name ht (n := 1) (m := 1) (by decide) (by decide)) q1
      have l2 := q2.1
      have l3 := q3.1
      refine ⟨p, _, rfl, SqT.of upd_same, rfl, _, _, rfl, _, _, rfl, rfl, ?_⟩
      refine lcT ⟨_, rfl, x, dx, [], rfl, S _ _ ew, rfl, _, rfl, _, rfl, x, dx, [], rfl, S _ _ ew, rfl, _, rfl, _, rfl, ?_⟩
      refine ⟨x, nA, e2, _, _, rfl, hN.same S, w2.same sp, g1, q1.mono (by decide) (by decide), fun p' G3 fp' t3 wp => ?_⟩
      refine ⟨x, e1, p', _, _, rfl, (w1.same sp).same t3, wp, by omega, fun q G4 fq t4 wq => ?_⟩
      exact ⟨(sp.trans t3).trans t4, by rw [List.length_append, lz2]; rfl, row_snoc hz2 (((Same.laid fp).trans t3).trans t4) (by rw [lz2]; exact wq)⟩
    rintro zs2 G2 ⟨s2, lz2, hz2⟩ fA ff
    rw [c2] at lz2
    have sf : Same G2 (upd G2 fA (.lst zs2)) := Same.laid ff
    have rF : RowAt (upd G2 fA (.lst zs2)) fA n (offF k t F) := ⟨zs2, upd_same, lz2, fun j y hy => let ⟨e, p, q⟩ := hz2 j y hy; ⟨e, p, q.same sf⟩⟩
    have S2 := (S1.trans s2).trans sf
    have rO2 := rO.same (s2.trans sf)
    obtain ⟨G3, hG3⟩ : ∃ G3, upd G2 fA (.lst zs2) = G3 := ⟨_, rfl⟩
    rw [hG3] at rF S2 rO2 ⊢
    have et3 := S2 _ _ et
    refine ⟨_, rfl, _, rfl, _, rfl, tA, _, rfl, SqL.of et3, fun q1 fq1 => ?_⟩
    rw [cut_hd']
    have t1 : Same G3 (upd G3 q1 (.lst ((A.map V.ref).take k))) := Same.laid fq1
    refine ⟨_, rfl, _, rfl, _, _, rfl, rfl, _, rfl, tA, _, rfl, SqL.of (t1 _ _ et3), fun q2 fq2 => ?_⟩
    rw [cut_dr2]
    refine ⟨q1, q2, _, _, rfl, rfl, Same.laid fq2 _ _ upd_same, upd_same, (by rw [List.length_take, List.length_drop, List.length_map, sizeLine_eq]; omega), fun q3 fq3 => ?_⟩
    obtain ⟨G4, hG4⟩ : ∃ G4, upd (upd (upd G3 q1 (.lst ((A.map V.ref).take k))) q2 (.lst ((A.map V.ref).drop (k + 2)))) q3 (.lst ((A.map V.ref).take k ++ (A.map V.ref).drop (k + 2))) = G4 := ⟨_, rfl⟩
    have t4 : Same G3 G4 := by rw [← hG4]; exact (t1.step fq2).step fq3
    have eq3 : G4 q3 = some (.lst ((A.map V.ref).take k ++ (A.map V.ref).drop (k + 2))) := by rw [← hG4]; exact upd_same
    rw [hG4]
    have S4 := S2.trans t4
    have lg : ((A.map V.ref).take k ++ (A.map V.ref).drop (k + 2)).length = n - 2 := gap_len (by rw [List.length_map]; exact lA) hk
    refine ⟨q3, rfl, ⟨_, SqL.of eq3⟩, lc_list (K := K) (xs := (A.map V.ref).take k ++ (A.map V.ref).drop (k + 2)) (by rw [lg, sizeLine_eq]; omega) (fun i zs G => Same G4 G ∧ ∃ Z : List Addr, zs = Z.map V.ref ∧ (Mat G Z i (n - 2) fun i j => F (upE k i) (upE k j)) ∧ ∀ r ∈ Z, G3 r = none) ⟨Same.refl _, [], rfl, mat_nil, fun r h => nomatch h⟩
      (fun i zs G ⟨_, Z, e, m, _⟩ => by rw [e, List.length_map, m.1]; exact Nat.le_refl _) (fun i zs G ⟨s', _⟩ => SqL.of (s' q3 _ eq3)) ?_ ?_⟩
    · rintro i v zs G hv ⟨sG, Z, rfl, mZ, nw⟩
      have hv' := gap_at (by rw [List.length_map]; omega) hv
      rw [List.getElem?_map] at hv'
      obtain ⟨r, hr', rfl⟩ := Option.map_eq_some_iff.mp hv'
      have S := S4.trans sG
      obtain ⟨xs, ex, lx, hx⟩ := (mt.2.2 _ r hr').same S
      dsimp only [gName, tTrue]
      refine iteT ⟨_, rfl, _, rfl, _, rfl, r, xs, rfl, SqL.of ex, fun u1 fu1 => ?_⟩
      rw [cut_hd']
      refine ⟨_, rfl, _, rfl, _, _, rfl, rfl, _, rfl, r, xs, rfl, SqL.of (Same.laid fu1 _ _ ex), fun u2 fu2 => ?_⟩
      rw [cut_dr2]
      refine ⟨u1, u2, _, _, rfl, rfl, Same.laid fu2 _ _ upd_same, upd_same, (by rw [List.length_take, List.length_drop, sizeLine_eq]; omega), fun D fD => ?_⟩
      have sD : Same G _ := ((Same.laid (o := .lst (xs.take k)) fu1).step (o := .lst (xs.drop (k + 2))) fu2)
      have sE := sD.step (o := .lst (xs.take k ++ xs.drop (k + 2))) fD
      refine ⟨sG.trans sE, Z ++ [D], by rw [List.map_append]; rfl, (mZ.same sE).snoc ((mZ.same sD).fresh fD) ⟨_, upd_same, gap_len lx hk, fun j y hy => ?_⟩, fun r' hr'' => ?_⟩
      · obtain ⟨e, p, q⟩ := hx _ y (gap_at (by omega) hy)
        exact ⟨e, p, q.same sE⟩
      · rcases List.mem_append.mp hr'' with z | z
        · exact nw r' z
        · rw [List.mem_singleton.mp z]; exact ((t4.trans sG).trans sD).free fD
    rintro zs3 G5 ⟨s5, Z, rfl, mZ, nw⟩ rA fA'
    rw [lg] at mZ
    have W0 := wr_new (t4.trans s5) mZ nw fA'
    obtain ⟨G6, hG6⟩ : ∃ G6, upd G5 rA (.lst (Z.map V.ref)) = G6 := ⟨_, rfl⟩
    rw [hG6] at W0 ⊢
    refine ⟨_, rfl, _, rfl, by omega, by omega, ?_⟩
    rw [Int.toNat_natCast]
    refine for_range (n := k) (fun c σ G => ∃ v7 v8 : Option V, σ = [some (.ref tA), some (.int (k : Int)), some (.ref nA), some (.ref x), some (.ref oA), some (.ref fA), some (.ref rA), v7, v8] ∧ Wr G3 G rA Z (n - 2) (en k t F c 0)) ⟨none, none, rfl, wr_congr W0 fun i j _ _ => by unfold en; rw [if_neg (by omega)]⟩ ?_ ?_
    · rintro c σ G hc ⟨v7, v8, rfl, W⟩
      have lZ : (Z.map V.ref).length = n - 2 := by rw [List.length_map]; exact W.mat.1
      have e2 : (((Z.map V.ref).length : Int) - (k : Int)).toNat = n - 2 - k := by rw [lZ]; omega
      refine ⟨_, rfl, _, rfl, rA, _, rfl, .inl (SqL.of W.eA), _, _, rfl, ⟨by omega, by omega, by omega, by rw [lZ]; omega⟩, ?_⟩
      rw [e2]
      refine for_range (n := n - 2 - k) (fun d σ G => ∃ v8 : Option V, σ = [some (.ref tA), some (.int (k : Int)), some (.ref nA), some (.ref x), some (.ref oA), some (.ref fA), some (.ref rA), some (.int (0 + (c : Int))), v8] ∧ Wr G3 G rA Z (n - 2) (en k t F c d)) ⟨v8, rfl, W⟩ ?_ ?_
      · rintro d σ G hd ⟨v8, rfl, W⟩
        obtain ⟨ys, r1, xs1, e1, a1, a2, a3, a4, a5⟩ := tab_at (wr_tab W) (i := c) (j := k + d) (by omega) (by omega)
        have a5' : WL G e1 (F c (k + d + 2)) := by
          unfold en upE at a5
          rw [if_neg (by omega), if_pos (by omega), if_neg (by omega)] at a5
          exact a5
        obtain ⟨xo, eo, b1, b2, b3, b4⟩ := (rO2.same W.sm).at (j := c) (by omega)
        obtain ⟨xf, ef, c1', c2', c3', c4'⟩ := (rF.same W.sm).at (j := k + d + 2) (by omega)
        have g2 := gd_onto tg ht hk (i := c) (by omega)
        have g3 := gd_off tg ht hk (j := k + d + 2) (by omega)
        have g4 := gd_times g2 g3
        have l4 := g4.1
        have l1 := (tg c (k + d + 2) (by omega) (by omega)).1
        have ewG := W.sm _ _ (S2 _ _ ew)
        refine ⟨_, rfl, x, dx, [], rfl, ewG, rfl, _, rfl, _, rfl, rA, _, _, _, rfl, rfl, SqL.of a1, atI_at (by omega) a2, _, rfl, r1, _, _, _, rfl, rfl, SqL.of a3, atI_at (by omega) a4, ?_⟩
        refine ⟨_, rfl, x, dx, [], rfl, ewG, rfl, _, rfl, _, rfl, oA, _, _, _, rfl, rfl, SqL.of b1, atI_at (by omega) b3, _, rfl, _, rfl, _, _, rfl, rfl, fA, _, _, _, rfl, rfl, SqL.of c1', atI_at (by omega) c3', ?_⟩
        refine ⟨x, eo, ef, _, _, rfl, b4, c4', g2.mono (by decide) (by decide), g3.mono (by decide) (by decide), fun p G7 fp t7 wp => ?_⟩
        refine ⟨x, e1, p, _, _, rfl, a5'.same t7, wp, by omega, fun q G8 fq t8 wq => ?_⟩
        have W3 := wr_same W (t7.trans t8)
        obtain ⟨r', xs', h1', h2', h3', W4⟩ := wr_put (i := c) (j := k + d) W3 (by omega) (by omega) wq
        refine ⟨_, rfl, _, rfl, rA, _, _, _, rfl, rfl, SqL.of W3.eA, atI_at (by omega) h1', _, rfl, r', xs', _, k + d, rfl, rfl, h2', ixN_at (by omega) (by omega), ?_⟩
        exact ⟨_, rfl, wr_congr W4 fun i j _ _ => en_step k t F c d i j hc⟩
      · rintro σ G ⟨v8, rfl, W⟩
        exact ⟨_, _, rfl, wr_congr W fun i j _ hj => en_next k n t F c i j hj⟩
    rintro σ G ⟨v7, v8, rfl, W⟩
    exact ⟨_, rfl, fin rA G (S2.free W.fA) (S2.trans W.sm) ((wr_tab W).congr fun i j _ _ => en_end k t F i j)⟩
end
end Qk17

namespace Qk17
open PySem L2 PyProof.Rows
section
variable {P : Program} {w : World} {K : PySem.W.Frag} {mg : Str → Option Value} {base : Heap}
/-! ### behind any letter; too many words -/
def nxN (x : Str) (n : Nat) : Nat := if x = "born" then n + 2 else if x = "cross" then n else n - 2
def nxF (x : Str) (k : Nat) (t : Int) (F : Nat → Nat → WS) : Nat → Nat → WS := if x = "born" then bornF k F else if x = "cross" then crossF k t F else endF k t F
def Fit (x : Str) (k n : Nat) : Prop := (x = "born" ∧ k ≤ n) ∨ (x = "cross" ∧ k + 1 < n) ∨ (x = "end" ∧ k + 1 < n)
def spTB (C : Addr) : Sp := fun vs H Q _ => ∃ (tA lA nA x : Addr) (n k : Nat) (kd : Str) (t : Int) (F : Nat → Nat → WS), vs = [.ref tA, .ref lA, .ref nA, .ref x] ∧ IsWay H C x ∧ Tab H tA n F ∧ H lA = some (.tup [.str kd, .int (k : Int)]) ∧ WL H nA [[t]] ∧ 0 ≤ t ∧ n ≤ 400 ∧ TGd n 50000 F ∧ Fit kd k n ∧
  ∀ (p : Addr) (H' : Hp), H p = none → Same H H' → Tab H' p (nxN kd n) (nxF kd k t F) → Q (.ref p) H'
abbrev s_table_behind : Stmt := top 7
theorem sc_table_behind : FnScope ["table", "letter", "name", "way", "kind", "k"] ["table", "letter", "name", "way"] (defScope s_table_behind) := ⟨rfl, rfl, rfl, by decide +kernel, rfl, by decide +kernel, by decide +kernel⟩
theorem ok_tb {C : Addr} {f : Addr} {fd : FuncData} (F : Fun K "table_behind" "table_behind" s_table_behind f fd) (h_behind_birth : Has P w K mg base 2 "behind_birth" ["table", "k", "way"] (spBirth C)) (h_behind_crossing : Has P w K mg base 4 "behind_crossing" ["table", "k", "name", "way"] (spCross C)) (h_behind_end : Has P w K mg base 4 "behind_end" ["table", "k", "name", "way"] (spEnd C)) : FnOk P w K mg base CX0 5 f fd ["table", "letter", "name", "way"] (spTB C) := by
  refine F.ok sc_table_behind (fun vs H Q E h => ?_) (fun cdv A outer s H vs Q E hr h => ?_)
  · obtain ⟨tA, lA, nA, x, n, k, kd, t, F, rfl, _⟩ := h
    rfl
  · obtain ⟨tA, lA, nA, x, n, k, kd, t, F, rfl, hw, hT, hl, hN, ht, hn, tg, ft, fin⟩ := h
    refine ⟨_, (pss_cons (ps_asg (pv 1) (pg_tupK (K := K) (n := 2) rfl rfl (pgs_cons (pg_name (i := 4) sc_table_behind.nd rfl (Or.inl rfl)) (pgs_cons (pg_name (i := 5) sc_table_behind.nd rfl (Or.inl rfl)) pgs_nil))))
      (pss_cons (ps_if (pt_cmpR op_eq (pv 4) pe_str (nomark _)) (pss_one (ps_ret (pe_has h_behind_birth (hr.mono (by decide)) (pa_cons (pv 0) (pa_cons (pv 5) (pa_cons (pv 3) pa_nil)))))) pss_nil)
      (pss_cons (ps_if (pt_cmpR op_eq (pv 4) pe_str (nomark _)) (pss_one (ps_ret (pe_has h_behind_crossing (hr.mono (by decide)) (pa_cons (pv 0) (pa_cons (pv 5) (pa_cons (pv 2) (pa_cons (pv 3) pa_nil))))))) pss_nil)
      (pss_one (ps_ret (pe_has h_behind_end (hr.mono (by decide)) (pa_cons (pv 0) (pa_cons (pv 5) (pa_cons (pv 2) (pa_cons (pv 3) pa_nil)))))))))), ?_⟩
    refine ⟨_, rfl, lA, _, rfl, SqT.of hl, rfl, _, _, rfl, _, _, rfl, rfl, ?_⟩
    refine ⟨_, rfl, rfl, _, rfl, ite2 (fun c => ?_) (fun c => ?_)⟩
    · have e : kd = "born" := V.str.inj (of_decide_eq_true c)
      subst e
      rcases ft with ⟨_, h⟩ | ⟨h, _⟩ | ⟨h, _⟩
      · exact ⟨_, rfl, _, rfl, _, rfl, tA, x, n, k, F, rfl, hw, hT, h, by omega, fun p H' fp s' tb => fin p H' fp s' tb⟩
      · exact absurd h (by decide)
      · exact absurd h (by decide)
    · have e : kd ≠ "born" := fun z => c (decide_eq_true (congrArg V.str z))
      refine ⟨_, rfl, rfl, _, rfl, ite2 (fun c => ?_) (fun c => ?_)⟩
      · have e : kd = "cross" := V.str.inj (of_decide_eq_true c)
        subst e
        rcases ft with ⟨h, _⟩ | ⟨_, h⟩ | ⟨h, _⟩
        · exact absurd h (by decide)
        · exact ⟨_, rfl, _, rfl, _, rfl, _, rfl, tA, nA, x, n, k, t, F, rfl, hw, hT, hN, ht, h, by omega, tg, fun p H' fp s' tb => fin p H' fp s' tb⟩
        · exact absurd h (by decide)
      · have e' : kd ≠ "cross" := fun z => c (decide_eq_true (congrArg V.str z))
        rcases ft with ⟨h, _⟩ | ⟨h, _⟩ | ⟨h, h2⟩
        · exact absurd h e
        · exact absurd h e'
        · subst h
          exact ⟨_, rfl, _, rfl, _, rfl, _, rfl, tA, nA, x, n, k, t, F, rfl, hw, hT, hN, ht, h2, by omega, tg, fun p H' fp s' tb => fin p H' fp s' tb⟩
def Few (n : Nat) (F : Nat → Nat → WS) : Prop := ∀ i j, i < n → j < n → (F i j).length ≤ 200
def spCW (C : Addr) : Sp := fun vs H Q E => ∃ (tA : Addr) (n : Nat) (F : Nat → Nat → WS), vs = [.ref tA] ∧ Tab H tA n F ∧ n ≤ 500 ∧ (∀ i j, i < n → j < n → (F i j).length < 10000000) ∧ (Few n F → Q .non H) ∧ (¬ Few n F → E (.ref C) none H)
abbrev s_check_words : Stmt := top 15
theorem sc_check_words : FnScope ["table", "row", "one"] ["table"] (defScope s_check_words) := ⟨rfl, rfl, rfl, by decide +kernel, rfl, by decide +kernel, by decide +kernel⟩
theorem ok_cw {f a_TooMany : Addr} {fd : FuncData} {tk : Tok} (F : Fun K "check_words" "check_words" s_check_words f fd) (g_TooMany : mg "TooMany" = some (.ref a_TooMany)) (x_TooMany : PySem.W.excIn K a_TooMany bmV "ValueError.__new__" = true) (g_MOST_WORDS : mg "MOST_WORDS" = some (.int 200 tk)) (b_len : mg "len" = none) : FnOk P w K mg base (CX1 P w) 1 f fd ["table"] (spCW a_TooMany) := by
  refine F.okX sc_check_words (fun vs H Q E h => ?_) (fun cdv A outer s H vs Q E hr h => ?_)
  · obtain ⟨tA, n, F, rfl, _⟩ := h
    rfl
  · obtain ⟨tA, n, F, rfl, hT, hn, hz, k, kx⟩ := h
    refine ⟨_, (pss_one (ps_for PassesOwn.leaving rfl (pi_listK (K := K) rfl (pv 0)) (pg_name (i := 1) sc_check_words.nd rfl (Or.inl rfl)) (pss_one (ps_for PassesOwn.leaving rfl (pi_listK (K := K) rfl (pv 1)) (pg_name (i := 2) sc_check_words.nd rfl (Or.inl rfl)) (pss_one (ps_if (pt_cmpR op_gt (pe_callB (call_lenK (K := K) rfl) (by rfl) b_len PySem.boot_len (pa_cons (pv 2) pa_nil)) (pe_glob (v := .int 200) (by rfl) g_MOST_WORDS ⟨_, rfl⟩) (nomark _)) (pss_one (ps_raise (by rfl) g_TooMany x_TooMany (pa_cons (pe_fs (pe_callB (call_lenK (K := K) rfl) (by rfl) b_len PySem.boot_len (pa_cons (pv 2) pa_nil)) (by decide) (by decide)) pa_nil))) pss_nil)))))), ?_⟩
    obtain ⟨A, et, mt⟩ := id hT
    have lA := mt.1
    refine ⟨_, rfl, tA, rfl, ⟨_, SqL.of et⟩, for_list (K := K) (a := tA) (xs := A.map V.ref) (fun i σ G => ∃ v1 v2 : Option V, σ = [some (.ref tA), v1, v2] ∧ G = H ∧ ∀ i' j, i' < i → j < n → (F i' j).length ≤ 200) ⟨none, none, rfl, rfl, fun i' j h => by omega⟩ (fun i σ G _ ⟨_, _, _, e, _⟩ => by rw [e]; exact SqL.of et) ?_ ?_⟩
    · rintro i v σ G hv ⟨v1, v2, rfl, rfl, ok⟩
      rw [List.getElem?_map] at hv
      obtain ⟨r, hr', rfl⟩ := Option.map_eq_some_iff.mp hv
      have hi : i < n := by have := (List.getElem?_eq_some_iff.mp hr').1; omega
      obtain ⟨xs, ex, lx, hx⟩ := mt.2.2 i r hr'
      refine ⟨_, rfl, r, rfl, ⟨_, SqL.of ex⟩, for_list (K := K) (a := r) (xs := xs) (fun j σ G' => ∃ v2 : Option V, σ = [some (.ref tA), some (.ref r), v2] ∧ G' = G ∧ ∀ j', j' < j → (F i j').length ≤ 200) ⟨v2, rfl, rfl, fun j' h => by omega⟩ (fun j σ G' _ ⟨_, _, e, _⟩ => by rw [e]; exact SqL.of ex) ?_ ?_⟩
      · rintro j y σ G' hy ⟨v2, rfl, rfl, ok2⟩
        have hj : j < n := by have := (List.getElem?_eq_some_iff.mp hy).1; omega
        obtain ⟨e, rfl, us, eu, wu⟩ := hx j y hy
        have lu := wu.len
        have hzz := hz i j hi hj
        refine ⟨_, rfl, e, _, rfl, .inl (SqL.of eu), _, _, rfl, rfl, _, rfl, ite2 (fun c => ?_) (fun c => ?_)⟩
        · have c' : (200 : Int) < (us.length : Int) := of_decide_eq_true c
          refine ⟨_, rfl, e, _, rfl, .inl (SqL.of eu), _, rfl, by omega, fun z => ⟨(by show 1 ≤ sizeLine; decide), kx fun fw => ?_⟩⟩
          have := fw i j hi hj
          omega
        · have c' : ¬ (200 : Int) < (us.length : Int) := fun z => c (decide_eq_true z)
          refine ⟨_, rfl, rfl, fun j' h => ?_⟩
          by_cases z : j' = j
          · subst z; omega
          · exact ok2 j' (by omega)
      · rintro σ G' ⟨v2, rfl, rfl, ok2⟩
        refine ⟨_, _, rfl, rfl, fun i' j h hj => ?_⟩
        by_cases z : i' = i
        · subst z; exact ok2 j (by omega)
        · exact ok i' j (by omega) hj
    · rintro σ G ⟨v1, v2, rfl, rfl, ok⟩
      exact k fun i j hi hj => ok i j (by rw [List.length_map]; omega) hj
end
end Qk17

namespace Qk17
open PySem L2 PyProof.Rows
section
variable {P : Program} {w : World} {K : PySem.W.Frag} {mg : Str → Option Value} {base : Heap}
/-! ### the tables of a drawing -/
def stT (s : Nat × (Nat → Nat → WS) × Int) (p : Str × Int) : Nat × (Nat → Nat → WS) × Int := (nxN p.1 s.1, nxF p.1 p.2.toNat s.2.2 s.2.1, s.2.2 + 1)
def runT (ls : List (Str × Int)) : Nat × (Nat → Nat → WS) × Int := ls.foldl stT (0, fun _ _ => [], 0)
def tN (ls : List (Str × Int)) : Nat := (runT ls).1
def tF (ls : List (Str × Int)) : Nat → Nat → WS := (runT ls).2.1
theorem run_snoc (ls : List (Str × Int)) (p : Str × Int) : runT (ls ++ [p]) = stT (runT ls) p := by unfold runT; rw [List.foldl_append]; rfl
theorem run_t (ls : List (Str × Int)) : (runT ls).2.2 = ls.length := by
  have key : ∀ (ls : List (Str × Int)) (s : Nat × (Nat → Nat → WS) × Int), (ls.foldl stT s).2.2 = s.2.2 + ls.length := by
    intro ls
    induction ls with
    | nil => intro s; simp
    | cons p ls ih => intro s; rw [List.foldl_cons, ih]; show s.2.2 + 1 + _ = _; rw [List.length_cons]; omega
  have := key ls (0, fun _ _ => [], 0)
  unfold runT
  rw [this]
  show (0 : Int) + _ = _
  omega
theorem tN_snoc (ls : List (Str × Int)) (p : Str × Int) : tN (ls ++ [p]) = nxN p.1 (tN ls) := by unfold tN; rw [run_snoc]; rfl
theorem tF_snoc (ls : List (Str × Int)) (p : Str × Int) : tF (ls ++ [p]) = nxF p.1 p.2.toNat ls.length (tF ls) := by unfold tF; rw [run_snoc, ← run_t ls]; rfl
theorem wk_tN {ls : List (Str × Int)} {n : Int} (h : Wk ls n) : (tN ls : Int) = n := by
  induction h with
  | nil => rfl
  | born h h0 h1 ih => rw [tN_snoc]; unfold nxN; rw [if_pos rfl]; omega
  | cross h h0 h1 ih => rw [tN_snoc]; unfold nxN; rw [if_neg (by dsimp only; decide), if_pos rfl]; omega
  | fin h h0 h1 ih => rw [tN_snoc]; unfold nxN; rw [if_neg (by dsimp only; decide), if_neg (by dsimp only; decide)]; omega
theorem fit_at {ls : List (Str × Int)} {m : Int} (h : Wk ls m) : ∀ (i : Nat) (p : Str × Int), ls[i]? = some p → 0 ≤ p.2 ∧ Fit p.1 p.2.toNat (tN (ls.take i)) := by
  have key : ∀ {ls : List (Str × Int)} {q : Str × Int} {n : Int}, Wk ls n → (∀ (i : Nat) (p : Str × Int), ls[i]? = some p → 0 ≤ p.2 ∧ Fit p.1 p.2.toNat (tN (ls.take i))) → (0 ≤ q.2 ∧ Fit q.1 q.2.toNat (tN ls)) → ∀ (i : Nat) (p : Str × Int), (ls ++ [q])[i]? = some p → 0 ≤ p.2 ∧ Fit p.1 p.2.toNat (tN ((ls ++ [q]).take i)) := by
    intro ls q n _ ih hq i p hp
    by_cases z : i < ls.length
    · rw [List.getElem?_append_left z] at hp
      rw [List.take_append_of_le_length (by omega)]
      exact ih i p hp
    · rw [List.getElem?_append_right (by omega)] at hp
      have : i - ls.length = 0 := by
        have := (List.getElem?_eq_some_iff.mp hp).1
        simp at this; omega
      rw [this] at hp
      cases hp
      have : i = ls.length := by omega
      subst this
      rw [List.take_left']
      · exact hq
      · rfl
  induction h with
  | nil => intro i p h; simp at h
  | born h h0 h1 ih => exact key h ih ⟨h0, .inl ⟨rfl, by have := wk_tN h; dsimp only; omega⟩⟩
  | cross h h0 h1 ih => exact key h ih ⟨h0, .inr (.inl ⟨rfl, by have := wk_tN h; dsimp only; omega⟩)⟩
  | fin h h0 h1 ih => exact key h ih ⟨h0, .inr (.inr ⟨rfl, by have := wk_tN h; dsimp only; omega⟩)⟩
/-- how long words are -/
def WB (B : Nat) (L : WS) : Prop := ∀ w ∈ L, w.length + 2 ≤ B ∧ ∀ k ∈ w, 0 ≤ k
theorem wb_nil {B : Nat} : WB B [] := fun w h => nomatch h
theorem wb_mono {B B' : Nat} {L : WS} (h : WB B L) (hB : B ≤ B') : WB B' L := fun w hw => ⟨by have := (h w hw).1; omega, (h w hw).2⟩
theorem wb_plus {B : Nat} {L M : WS} (h : WB B L) (h' : WB B M) : WB B (plusF L M) := fun w hw => by
  rcases List.mem_append.mp ((canon_odd _).sub hw) with z | z
  · exact h w z
  · exact h' w z
theorem wb_times {a b B : Nat} {L M : WS} (h : ∀ w ∈ L, w.length ≤ a ∧ ∀ k ∈ w, 0 ≤ k) (h' : ∀ w ∈ M, w.length ≤ b ∧ ∀ k ∈ w, 0 ≤ k) (hB : a + b + 2 ≤ B) : WB B (timesF L M) := fun w hw => by
  obtain ⟨u, hu, z⟩ := List.mem_flatMap.mp ((canon_odd _).sub hw)
  obtain ⟨v, hv, rfl⟩ := List.mem_map.mp z
  refine ⟨by rw [List.length_append]; have := (h u hu).1; have := (h' v hv).1; omega, fun k hk => ?_⟩
  rcases List.mem_append.mp hk with z | z
  · exact (h u hu).2 k z
  · exact (h' v hv).2 k z
theorem one_name {t : Int} (ht : 0 ≤ t) : ∀ w ∈ [[t]], w.length ≤ 1 ∧ ∀ k ∈ w, 0 ≤ k := fun w hw => by
  rw [List.mem_singleton.mp hw]
  exact ⟨by simp, fun k hk => by rw [List.mem_singleton.mp hk]; exact ht⟩
theorem wb_next {x : Str} {k : Nat} {t : Int} {F : Nat → Nat → WS} {B : Nat} (hB : 2 ≤ B) (ht : 0 ≤ t) (h : ∀ i j, WB B (F i j)) (i j : Nat) :
    WB (if x = "cross" then B + 1 else if x = "end" ∨ x ≠ "born" then 2 * B else B) (nxF x k t F i j) := by
  have lo : ∀ i j, ∀ w ∈ F i j, w.length ≤ B - 2 ∧ ∀ k ∈ w, 0 ≤ k := fun i j w hw => ⟨by have := (h i j w hw).1; omega, (h i j w hw).2⟩
  unfold nxF
  by_cases e : x = "born"
  · subst e
    rw [if_pos rfl, if_neg (by decide), if_neg (by decide)]
    unfold bornF
    split
    · intro w hw
      rw [List.mem_singleton.mp hw]
      exact ⟨by simpa using hB, fun k hk => nomatch hk⟩
    · split
      · exact wb_nil
      · exact h _ _
  · rw [if_neg e]
    by_cases e2 : x = "cross"
    · subst e2
      rw [if_pos rfl, if_pos rfl]
      unfold crossF
      repeat' split
      · exact wb_nil
      · exact wb_mono (h _ _) (by omega)
      · exact wb_plus (wb_mono (h _ _) (by omega)) (wb_times (one_name ht) (lo _ _) (by omega))
      · exact wb_mono (h _ _) (by omega)
      · exact wb_plus (wb_mono (h _ _) (by omega)) (wb_times (lo _ _) (one_name ht) (by omega))
      · exact wb_mono (h _ _) (by omega)
    · rw [if_neg e2, if_neg e2, if_pos (.inr e)]
      unfold endF
      split
      · refine wb_plus (wb_mono (h _ _) (by omega)) (wb_times (a := B - 1) (b := B - 1) (fun w hw => ?_) (fun w hw => ?_) (by omega))
        · have := wb_plus (B := B + 1) (wb_mono (h i (k + 1)) (by omega)) (wb_times (B := B + 1) (lo i k) (one_name ht) (by omega)) w hw
          exact ⟨by have := this.1; omega, this.2⟩
        · have := wb_plus (B := B + 1) (wb_mono (h k (j + 2)) (by omega)) (wb_times (B := B + 1) (one_name ht) (lo (k + 1) (j + 2)) (by omega)) w hw
          exact ⟨by have := this.1; omega, this.2⟩
      · exact wb_mono (h _ _) (by omega)
theorem kd_of {ls : List (Str × Int)} {n : Int} (h : Wk ls n) : n + 2 * (cnt "end" ls : Int) = 2 * (cnt "born" ls : Int) := by
  induction h with
  | nil => rfl
  | born h h0 h1 ih => rw [cnt_snoc, cnt_snoc, if_neg (by dsimp only; decide), if_pos rfl]; omega
  | cross h h0 h1 ih => rw [cnt_snoc, cnt_snoc, if_neg (by dsimp only; decide), if_neg (by dsimp only; decide)]; omega
  | fin h h0 h1 ih => rw [cnt_snoc, cnt_snoc, if_pos rfl, if_neg (by dsimp only; decide)]; omega
def bdW (ls : List (Str × Int)) : Nat := 2 ^ cnt "end" ls * (2 + cnt "cross" ls)
theorem bdW_two (ls : List (Str × Int)) : 2 ≤ bdW ls := by
  unfold bdW
  have : 1 ≤ 2 ^ cnt "end" ls := Nat.one_le_two_pow
  calc 2 = 1 * 2 := rfl
    _ ≤ 2 ^ cnt "end" ls * (2 + cnt "cross" ls) := Nat.mul_le_mul this (by omega)
theorem wb_run {ls : List (Str × Int)} {n : Int} (h : Wk ls n) : ∀ i j, WB (bdW ls) (tF ls i j) := by
  have key : ∀ {ls : List (Str × Int)} {x : Str} {k : Int}, Kd x → (∀ i j, WB (bdW ls) (tF ls i j)) → ∀ i j, WB (bdW (ls ++ [(x, k)])) (tF (ls ++ [(x, k)]) i j) := by
    intro ls x k kd ih i j
    rw [tF_snoc]
    refine wb_mono (wb_next (bdW_two ls) (by omega) ih i j) ?_
    unfold bdW
    rw [cnt_snoc, cnt_snoc]
    dsimp only
    have p1 : 1 ≤ 2 ^ cnt "end" ls := Nat.one_le_two_pow
    rcases kd with rfl | rfl | rfl
    · rw [if_neg (by decide), if_neg (by decide), if_neg (by decide), if_neg (by decide)]
      exact Nat.le_refl _
    · rw [if_pos rfl, if_neg (by decide), if_pos rfl]
      simp only [Nat.add_zero]
      rw [← Nat.add_assoc, Nat.mul_add _ _ 1]
      omega
    · rw [if_neg (by decide), if_pos (by decide), if_pos rfl, if_neg (by decide), Nat.pow_succ]
      rw [Nat.mul_comm (2 ^ _) 2, Nat.mul_assoc]
      exact Nat.le_refl _
  induction h with
  | nil => intro i j; exact wb_nil
  | born h h0 h1 ih => exact key (.inl rfl) ih
  | cross h h0 h1 ih => exact key (.inr (.inl rfl)) ih
  | fin h h0 h1 ih => exact key (.inr (.inr rfl)) ih
theorem cnt_take (x : Str) (ls : List (Str × Int)) (i : Nat) : cnt x (ls.take i) ≤ cnt x ls := by
  unfold cnt
  exact List.Sublist.length_le ((List.take_sublist i ls).filter _)
theorem wk_take {ls : List (Str × Int)} {m : Int} (h : Wk ls m) : ∀ i, ∃ n, Wk (ls.take i) n := by
  have key : ∀ {ls : List (Str × Int)} {q : Str × Int} {m : Int}, (∀ i, ∃ n, Wk (ls.take i) n) → Wk (ls ++ [q]) m → ∀ i, ∃ n, Wk ((ls ++ [q]).take i) n := by
    intro ls q m ih h i
    by_cases z : i ≤ ls.length
    · rw [List.take_append_of_le_length z]; exact ih i
    · rw [List.take_of_length_le (by rw [List.length_append, List.length_singleton]; omega)]; exact ⟨m, h⟩
  induction h with
  | nil => intro i; exact ⟨0, by simpa using Wk.nil⟩
  | born h h0 h1 ih => exact key ih (Wk.born h h0 h1)
  | cross h h0 h1 ih => exact key ih (Wk.cross h h0 h1)
  | fin h h0 h1 ih => exact key ih (Wk.fin h h0 h1)
/-- short drawings: words stay short -/
theorem wb_all {ls : List (Str × Int)} (hW : Wk ls 0) (hb : InB ls) (a i j : Nat) : WB 300 (tF (ls.take a) i j) := by
  obtain ⟨n, h⟩ := wk_take hW a
  refine wb_mono (wb_run h i j) ?_
  have b1 := hb.2.1
  have b2 := hb.2.2
  rw [loc_cnt] at b1 b2
  have k := kd_of hW
  have c1 := cnt_take "end" ls a
  have c2 := cnt_take "cross" ls a
  unfold bdW
  have e4 : 2 ^ cnt "end" (ls.take a) ≤ 2 ^ 4 := Nat.pow_le_pow_right (by decide) (by omega)
  calc 2 ^ cnt "end" (ls.take a) * (2 + cnt "cross" (ls.take a)) ≤ 2 ^ 4 * 14 := Nat.mul_le_mul e4 (by omega)
    _ ≤ 300 := by decide
theorem tgd_of {ls : List (Str × Int)} (hW : Wk ls 0) (hb : InB ls) {a : Nat} (fw : Few (tN (ls.take a)) (tF (ls.take a))) : TGd (tN (ls.take a)) 50000 (tF (ls.take a)) := fun i j hi hj =>
  ⟨fw i j hi hj, fun w hw => ⟨by have := (wb_all hW hb a i j w hw).1; omega, (wb_all hW hb a i j w hw).2⟩⟩
end
end Qk17

namespace Qk17
open PySem L2 PyProof.Rows
section
variable {P : Program} {w : World} {K : PySem.W.Frag} {mg : Str → Option Value} {base : Heap}
/-! ### the list of tables -/
theorem tab_keep {G : Hp} {r b : Addr} {n : Nat} {F : Nat → Nat → WS} {us vs : List V} (x : Tab G r n F) (hr : r ≠ b) (nw : ∀ L, ¬ WL G b L) (nr : 0 < n → ∀ f, ¬ RowAt G b n f) (hb : G b = some (.lst us)) : Tab (upd G b (.lst vs)) r n F := by
  obtain ⟨A, e, m⟩ := x
  refine ⟨A, by rw [upd_ne hr]; exact e, mat_keep m (fun r' h' => ?_) hb⟩
  obtain ⟨i, hi, rfl⟩ := List.getElem_of_mem h'
  have R := m.2.2 i A[i] (by simp)
  have hn : 0 < n := by have := m.1; omega
  refine ⟨fun z => nr hn (F i) (z ▸ R), fun xs e' hx he z => ?_⟩
  obtain ⟨ys, a, _, c⟩ := R
  rw [a] at hx
  have hxy : ys = xs := by injection hx with hx; injection hx
  subst hxy
  obtain ⟨j, hj⟩ := List.mem_iff_getElem?.mp he
  obtain ⟨e'', p, q⟩ := c j _ hj
  cases p
  subst z
  exact nw _ q
structure Tbs (G : Hp) (b : Addr) (ls : List (Str × Int)) (T : List Addr) : Prop where
  at_ : G b = some (.lst (T.map V.ref))
  ne : 0 < T.length
  tab : ∀ (a : Nat) (r : Addr), T[a]? = some r → Tab G r (tN (ls.take a)) (tF (ls.take a)) ∧ r ≠ b
theorem tbs_same {G G' : Hp} {b : Addr} {ls : List (Str × Int)} {T : List Addr} (s : Same G G') (x : Tbs G b ls T) : Tbs G' b ls T := ⟨s _ _ x.at_, x.ne, fun a r h => ⟨(x.tab a r h).1.same s, (x.tab a r h).2⟩⟩
theorem tbs_noWL {G : Hp} {b : Addr} {ls : List (Str × Int)} {T : List Addr} (x : Tbs G b ls T) (L : WS) : ¬ WL G b L := fun ⟨xs, e, w⟩ => by
  rw [x.at_] at e
  have hxy : T.map V.ref = xs := by injection e with e; injection e
  subst hxy
  have h0 : T[0]? = some (T[0]'x.ne) := by simp
  obtain ⟨_, _, t, ht, hh⟩ := Words.get (i := 0) w (by rw [List.getElem?_map, h0]; rfl)
  cases ht
  obtain ⟨A, e, _⟩ := (x.tab 0 _ h0).1
  rw [e] at hh
  cases hh
theorem tN_one {ls : List (Str × Int)} (hW : Wk ls 0) (h : 0 < ls.length) : tN (ls.take 1) = 2 := by
  obtain ⟨p, hp⟩ : ∃ p, ls[0]? = some p := ⟨ls[0], by simp [h]⟩
  have e : ls.take 1 = [] ++ [p] := by rw [show (1 : Nat) = 0 + 1 from rfl, List.take_add_one, hp]; rfl
  rw [e, tN_snoc]
  have ft := (fit_at hW 0 p hp).2
  rcases ft with ⟨a, _⟩ | ⟨_, b⟩ | ⟨_, b⟩
  · unfold nxN; rw [if_pos a]; rfl
  · exact absurd b (by show ¬ _ + 1 < 0; omega)
  · exact absurd b (by show ¬ _ + 1 < 0; omega)
/-- the list of tables is no row -/
theorem tbs_noRow {G : Hp} {b : Addr} {ls : List (Str × Int)} {T : List Addr} (hW : Wk ls 0) (x : Tbs G b ls T) (hl : T.length ≤ ls.length) {n : Nat} (hn : 2 ≤ n) (f : Nat → WS) : ¬ RowAt G b n f := fun R => by
  obtain ⟨xs, e, a, l, c, w⟩ := R.at (j := 1) (by omega)
  rw [x.at_] at a
  have hxy : T.map V.ref = xs := by injection a with a; injection a
  subst hxy
  rw [List.length_map] at l
  rw [List.getElem?_map] at c
  obtain ⟨r, h1, h2⟩ := Option.map_eq_some_iff.mp c
  cases h2
  have tb := (x.tab 1 _ h1).1
  rw [tN_one hW (by omega)] at tb
  obtain ⟨ys, r0, b1, _, b3, b4⟩ := tb.row (i := 0) (by omega)
  obtain ⟨us, u1, u2⟩ := w
  rw [b1] at u1
  have hxy : ys = us := by injection u1 with u1; injection u1
  subst hxy
  obtain ⟨_, _, t, ht, hh⟩ := Words.get (i := 0) u2 b3
  cases ht
  obtain ⟨zs, q, _⟩ := b4
  rw [q] at hh
  cases hh
theorem tN_even {ls : List (Str × Int)} {n : Int} (h : Wk ls n) : tN ls % 2 = 0 := by
  have a := wk_tN h
  have b := kd_of h
  omega
/-- one more table -/
theorem tbs_push {G : Hp} {b p : Addr} {ls : List (Str × Int)} {T : List Addr} (hW : Wk ls 0) (x : Tbs G b ls T) (hl : T.length ≤ ls.length) (tb : Tab G p (tN (ls.take T.length)) (tF (ls.take T.length))) (hp : p ≠ b) : Tbs (upd G b (.lst (T.map V.ref ++ [.ref p]))) b ls (T ++ [p]) := by
  have keep : ∀ (a : Nat) (r : Addr), Tab G r (tN (ls.take a)) (tF (ls.take a)) → r ≠ b → Tab (upd G b (.lst (T.map V.ref ++ [.ref p]))) r (tN (ls.take a)) (tF (ls.take a)) := fun a r t n => by
    refine tab_keep t n (tbs_noWL x) (fun h0 f => tbs_noRow hW x hl ?_ f) x.at_
    obtain ⟨m, h⟩ := wk_take hW a
    have := tN_even h
    omega
  refine ⟨by rw [List.map_append]; exact upd_same, by rw [List.length_append]; have := x.ne; omega, fun a r h => ?_⟩
  by_cases z : a < T.length
  · rw [List.getElem?_append_left z] at h
    exact ⟨keep a r (x.tab a r h).1 (x.tab a r h).2, (x.tab a r h).2⟩
  · rw [List.getElem?_append_right (by omega)] at h
    have : a - T.length = 0 := by
      have := (List.getElem?_eq_some_iff.mp h).1
      simp at this; omega
    rw [this] at h
    cases h
    have : a = T.length := by omega
    subst this
    exact ⟨keep _ _ tb hp, hp⟩
def FewAll (ls : List (Str × Int)) (m : Nat) : Prop := ∀ a, a ≤ m → Few (tN (ls.take a)) (tF (ls.take a))
theorem at_lastN {α : Type} {l : List α} {i : Nat} {x : α} (hl : l.length = i + 1) (h : l[i]? = some x) : atI l (-1) = some x := by
  unfold atI ixN
  rw [if_neg (by decide), if_pos (by omega), hl, show ((-1 : Int) + ((i + 1 : Nat) : Int)).toNat = i by omega]
  exact h
theorem tN_le {ls : List (Str × Int)} (hW : Wk ls 0) (hI : InB ls) (a : Nat) : tN (ls.take a) ≤ 8 := by
  obtain ⟨m, hm⟩ := wk_take hW a
  have h1 := wk_tN hm
  have h2 := wk_sum hm
  have h3 := hI.1 a
  omega
theorem len_next {x : Str} {k n b : Nat} {t : Int} {F : Nat → Nat → WS} (tg : TGd n b F) (ft : Fit x k n) : ∀ i j, i < nxN x n → j < nxN x n → (nxF x k t F i j).length < 10000000 := by
  have pl : ∀ A B : WS, (plusF A B).length ≤ A.length + B.length := fun A B => by have := (canon_odd (A ++ B)).len; rw [List.length_append] at this; exact this
  have tl : ∀ A B : WS, (timesF A B).length ≤ A.length * B.length := fun A B => by have := (canon_odd (prd A B)).len; rw [prd_len] at this; exact this
  have F200 : ∀ i j, i < n → j < n → (F i j).length ≤ 200 := fun i j hi hj => (tg i j hi hj).1
  intro i j hi hj
  unfold nxN at hi hj
  unfold nxF
  rcases ft with ⟨rfl, hk⟩ | ⟨rfl, hk⟩ | ⟨rfl, hk⟩
  · rw [if_pos rfl] at hi hj ⊢
    unfold bornF
    split
    · decide
    · split
      · decide
      · have := F200 (if i < k then i else i - 2) (if j < k then j else j - 2) (by split <;> omega) (by split <;> omega)
        omega
  · rw [if_neg (by decide), if_pos rfl] at hi hj ⊢
    unfold crossF
    repeat' split
    · decide
    · have := F200 (k + 1) j (by omega) (by omega); omega
    · have h1 := F200 k j (by omega) (by omega)
      have h2 := F200 (k + 1) j (by omega) (by omega)
      have h3 := tl [[t]] (F (k + 1) j)
      have h4 := pl (F k j) (timesF [[t]] (F (k + 1) j))
      simp only [List.length_singleton, Nat.one_mul] at h3
      omega
    · have := F200 i k (by omega) (by omega); omega
    · have h1 := F200 i (k + 1) (by omega) (by omega)
      have h2 := F200 i k (by omega) (by omega)
      have h3 := tl (F i k) [[t]]
      have h4 := pl (F i (k + 1)) (timesF (F i k) [[t]])
      simp only [List.length_singleton, Nat.mul_one] at h3
      omega
    · have := F200 i j (by omega) (by omega); omega
  · rw [if_neg (by decide), if_neg (by decide)] at hi hj ⊢
    unfold endF
    split
    · rename_i hc
      have a1 := F200 i (k + 1) (by omega) (by omega)
      have a2 := F200 i k (by omega) (by omega)
      have a3 := tl (F i k) [[t]]
      simp only [List.length_singleton, Nat.mul_one] at a3
      have a4 : (ontoF k t F i).length ≤ 400 := by have := pl (F i (k + 1)) (timesF (F i k) [[t]]); unfold ontoF; omega
      have b1 := F200 k (j + 2) (by omega) (by omega)
      have b2 := F200 (k + 1) (j + 2) (by omega) (by omega)
      have b3 := tl [[t]] (F (k + 1) (j + 2))
      simp only [List.length_singleton, Nat.one_mul] at b3
      have b4 : (offF k t F (j + 2)).length ≤ 400 := by have := pl (F k (j + 2)) (timesF [[t]] (F (k + 1) (j + 2))); unfold offF; omega
      have c1 := tl (ontoF k t F i) (offF k t F (j + 2))
      have c2 : (ontoF k t F i).length * (offF k t F (j + 2)).length ≤ 400 * 400 := Nat.mul_le_mul a4 b4
      have c3 := F200 i (j + 2) (by omega) (by omega)
      have c4 := pl (F i (j + 2)) (timesF (ontoF k t F i) (offF k t F (j + 2)))
      omega
    · have := F200 (if i < k then i else i + 2) (if j < k then j else j + 2) (by split <;> omega) (by split <;> omega)
      omega
def spST (C W : Addr) : Sp := fun vs H Q E => ∃ (l : Addr) (xs : List V) (ls : List (Str × Int)), vs = [.ref l] ∧ H l = some (.lst xs) ∧ LetsV H xs ls ∧ Wk ls 0 ∧ InB ls ∧ ls.length ≤ 60 ∧
  (FewAll ls ls.length → ∀ (p : Addr) (H' : Hp) (T : List Addr), H p = none → Same H H' → Tbs H' p ls T → T.length = ls.length + 1 → Q (.ref p) H') ∧ (¬ FewAll ls ls.length → ∀ H', Same H H' → E (.ref C) none H')
abbrev s_sum_tables : Stmt := top 16
theorem sc_sum_tables : FnScope ["drawing", "way", "tables", "t", "letter"] ["drawing"] (defScope s_sum_tables) := ⟨rfl, rfl, rfl, by decide +kernel, rfl, by decide +kernel, by decide +kernel⟩
theorem ok_st {f C a_WordWay : Addr} {fd : FuncData} (F : Fun K "sum_tables" "sum_tables" s_sum_tables f fd) (g_WordWay : mg "WordWay" = some (.ref a_WordWay)) (k_WordWay : MkO K a_WordWay) (h_table_behind : Has P w K mg base 5 "table_behind" ["table", "letter", "name", "way"] (spTB a_WordWay)) (h_check_words : HasX P w K mg base 1 "check_words" ["table"] (spCW C)) (b_enumerate : mg "enumerate" = none) : FnOk P w K mg base (CX1 P w) 6 f fd ["drawing"] (spST C a_WordWay) := by
  refine F.okX sc_sum_tables (fun vs H Q E h => ?_) (fun cdv A outer s H vs Q E hr h => ?_)
  · obtain ⟨l, xs, ls, rfl, _⟩ := h
    rfl
  · obtain ⟨l, xs, ls, rfl, hl, hL, hW, hI, hlen, k, kx⟩ := h
    refine ⟨_, (pss_cons (ps_set (i := 1) sc_sum_tables.nd rfl (Or.inl rfl) (pe_makeO k_WordWay (by rfl) g_WordWay))
      (pss_cons (ps_set (i := 2) sc_sum_tables.nd rfl (Or.inl rfl) (pe_lst (pa_cons (pe_lst pa_nil) pa_nil)))
      (pss_cons (ps_for PassesOwn.leaving rfl (pi_enumK (K := K) rfl (by rfl) b_enumerate (pa_cons (pv 0) pa_nil)) (pg_tupK (K := K) (n := 2) rfl rfl (pgs_cons (pg_name (i := 3) sc_sum_tables.nd rfl (Or.inl rfl)) (pgs_cons (pg_name (i := 4) sc_sum_tables.nd rfl (Or.inl rfl)) pgs_nil))) (pss_cons (ps_expr (pe_bmK (K := K) rfl (pe_bm PySem.F.plainAttrs_list PySem.F.slot_list_append PySem.F.type_list_append mt_append (pv 2) (pa_cons (pe_has h_table_behind (hr.mono (by decide)) (pa_cons (pe_ix (ix_listK (K := K) rfl) (pv 2) (pe_un un_neg pe_int) (fun _ _ => rfl)) (pa_cons (pv 4) (pa_cons (pe_lst (pa_cons (pe_tup (pa_cons (pv 3) pa_nil)) pa_nil)) (pa_cons (pv 1) pa_nil))))) pa_nil))))
      (pss_one (ps_expr (pe_hasX h_check_words (hr.mono (by decide)) pass1 (pa_cons (pe_ix (ix_listK (K := K) rfl) (pv 2) (pe_un un_neg pe_int) (fun _ _ => rfl)) pa_nil))))))
      (pss_one (ps_ret (pv 2)))))), ?_⟩
    have lx := hL.len
    intro x dx hx hdx ndx
    obtain ⟨H1, e1⟩ : ∃ H1, upd (upd H dx (.own x)) x (.ins a_WordWay dx []) = H1 := ⟨_, rfl⟩
    have s1 : Same H H1 := by rw [← e1]; exact (Same.laid hdx).put hx
    have ew : H1 x = some (.ins a_WordWay dx []) := by rw [← e1]; exact upd_same
    rw [e1]
    refine ⟨(by show 0 ≤ sizeLine; decide), fun t0 ft0 => ⟨(by show 1 ≤ sizeLine; decide), fun tb ftb => ?_⟩⟩
    have s2 : Same H1 (upd H1 t0 (.lst [])) := Same.laid ft0
    have n0 : t0 ≠ tb := fun z => by rw [← z, upd_same] at ftb; cases ftb
    obtain ⟨H2, e2⟩ : ∃ H2, upd (upd H1 t0 (.lst [])) tb (.lst [.ref t0]) = H2 := ⟨_, rfl⟩
    have s3 : Same (upd H1 t0 (.lst [])) H2 := by rw [← e2]; exact Same.laid ftb
    have etb : H2 tb = some (.lst ([t0].map V.ref)) := by rw [← e2]; exact upd_same
    rw [e2]
    have s12 := (s1.trans s2).trans s3
    have ftH : H tb = none := (s1.trans s2).free ftb
    have z0 : Few 0 (tF (ls.take 0)) := fun i j hi => by omega
    have T0 : Tbs H2 tb ls [t0] := ⟨etb, by simp, fun a r h => by
      match a, h with
      | 0, h =>
        cases h
        exact ⟨⟨[], s3 _ _ upd_same, mat_nil⟩, n0⟩⟩
    refine ⟨_, rfl, l, rfl, ⟨_, SqL.of (s12 _ _ hl)⟩, for_enm (K := K) (a := l) (xs := xs) (fun i σ G => ∃ (v3 v4 : Option V) (T : List Addr), σ = [some (.ref l), some (.ref x), some (.ref tb), v3, v4] ∧ Same H G ∧ IsWay G a_WordWay x ∧ Tbs G tb ls T ∧ T.length = i + 1 ∧ FewAll ls i)
      ⟨none, none, [t0], rfl, s12, ⟨dx, [], s3 _ _ (s2 _ _ ew), rfl⟩, T0, rfl, fun a ha => by rw [show a = 0 by omega]; exact z0⟩ (fun i σ G _ ⟨_, _, _, _, sg, _⟩ => SqL.of (sg _ _ hl)) ?_ ?_⟩
    · rintro i y p σ G hy ⟨v3, v4, T, rfl, sg, wy, tbs, lT, few⟩ fp
      obtain ⟨⟨kd, kk⟩, q, hq, rfl, ht⟩ := hL.get hy
      have hi : i < ls.length := (List.getElem?_eq_some_iff.mp hq).1
      obtain ⟨k0, ft⟩ := fit_at hW i _ hq
      dsimp only at k0 ft
      obtain ⟨kn, rfl⟩ := Int.eq_ofNat_of_zero_le k0
      rw [Int.toNat_natCast] at ft
      obtain ⟨G0, eG0⟩ : ∃ G0, upd G p (.tup [.int i, .ref q]) = G0 := ⟨_, rfl⟩
      have sp : Same G G0 := by rw [← eG0]; exact Same.laid fp
      have ep : G0 p = some (.tup [.int i, .ref q]) := by rw [← eG0]; exact upd_same
      rw [eG0]
      refine ⟨p, _, rfl, SqT.of ep, rfl, _, _, rfl, _, _, rfl, rfl, ?_⟩
      have tbs0 := tbs_same sp tbs
      have hTi : T[i]? = some (T[i]'(by omega)) := by simp
      have hlast : atI (T.map V.ref) (-1) = some (.ref (T[i]'(by omega))) := at_lastN (by rw [List.length_map]; exact lT) (by rw [List.getElem?_map, hTi]; rfl)
      refine ⟨_, rfl, .inl ⟨rfl, _, SqL.of tbs0.at_⟩, _, rfl, 1, rfl, tb, _, _, _, rfl, rfl, SqL.of tbs0.at_, hlast, _, rfl, _, rfl, (by show 1 ≤ sizeLine; decide), fun u1 fu1 => ⟨(by show 1 ≤ sizeLine; decide), fun u2 fu2 => ?_⟩⟩
      obtain ⟨G2, eG2⟩ : ∃ G2, upd (upd G0 u1 (.tup [.int i])) u2 (.lst [.ref u1]) = G2 := ⟨_, rfl⟩
      have su : Same G0 G2 := by rw [← eG2]; exact (Same.laid fu1).step fu2
      have wn : WL G2 u2 [[(i : Int)]] := by rw [← eG2]; exact ⟨_, upd_same, .cons ⟨u1, rfl, Same.laid fu2 _ _ upd_same⟩ .nil⟩
      rw [eG2]
      have tbs2 := tbs_same su tbs0
      have wy2 := way_same (sp.trans su) wy
      have n8 := tN_le hW hI i
      have tg := tgd_of hW hI (few i (Nat.le_refl _))
      have eqt : ls.take (i + 1) = ls.take i ++ [(kd, (kn : Int))] := by rw [List.take_add_one, hq]; rfl
      have li : (ls.take i).length = i := by rw [List.length_take]; omega
      refine ⟨_, rfl, T[i]'(by omega), q, u2, x, tN (ls.take i), kn, kd, (i : Int), tF (ls.take i), rfl, wy2, (tbs2.tab i _ hTi).1, (sg.trans (sp.trans su)) _ _ ht, wn, by omega, by omega, tg, ft, fun p' G3 fp' t3 tab' => ?_⟩
      have e1' : nxN kd (tN (ls.take i)) = tN (ls.take (i + 1)) := by rw [eqt, tN_snoc]
      have e2' : nxF kd kn (i : Int) (tF (ls.take i)) = tF (ls.take (i + 1)) := by rw [eqt, tF_snoc, li]; rfl
      have lens := len_next (t := (i : Int)) tg ft
      rw [e1', e2'] at tab' lens
      have tbs3 := tbs_same t3 tbs2
      have np' : p' ≠ tb := fun z => by have := tbs2.at_; rw [← z, fp'] at this; cases this
      have push := tbs_push hW tbs3 (by omega) (by rw [lT]; exact tab') np'
      refine ⟨tb, _, _, rfl, rfl, tbs3.at_, by rw [List.length_map, lT, sizeLine_eq]; omega, ?_⟩
      obtain ⟨G4, eG4⟩ : ∃ G4, upd G3 tb (.lst (T.map V.ref ++ [.ref p'])) = G4 := ⟨_, rfl⟩
      have S4 : Same H G4 := by rw [← eG4]; exact ((sg.trans (sp.trans su)).trans t3).put ftH
      have wy4 : IsWay G4 a_WordWay x := by
        obtain ⟨dx', fs', ew', rfl⟩ := way_same t3 wy2
        refine ⟨dx', [], ?_, rfl⟩
        rw [← eG4, upd_ne (fun z => by rw [z, tbs3.at_] at ew'; cases ew')]
        exact ew'
      rw [eG4] at push ⊢
      have h5 : (T ++ [p'])[i + 1]? = some p' := by rw [List.getElem?_append_right (by omega), lT]; simp
      refine ⟨_, rfl, 1, rfl, tb, _, _, _, rfl, rfl, SqL.of push.at_, at_lastN (by rw [List.length_map, List.length_append, lT]; rfl) (by rw [List.getElem?_map, h5]; rfl), ?_⟩
      refine ⟨p', _, _, rfl, (push.tab (i + 1) p' h5).1, (by have := tN_le hW hI (i + 1); omega), lens, fun fw => ?_, fun nf => kx (fun all => nf (all (i + 1) (by omega))) G4 S4⟩
      refine ⟨_, _, T ++ [p'], rfl, S4, wy4, push, by rw [List.length_append, lT]; rfl, fun a ha => ?_⟩
      by_cases z : a = i + 1
      · rw [z]; exact fw
      · exact few a (by omega)
    · rintro σ G ⟨v3, v4, T, rfl, sg, wy, tbs, lT, few⟩
      rw [lx] at lT few
      exact ⟨_, rfl, k few tb G T ftH sg tbs lT⟩
end
end Qk17

namespace Qk17
open PySem L2 PyProof.Rows
section
variable {P : Program} {w : World} {K : PySem.W.Frag} {mg : Str → Option Value} {base : Heap}
/-! ### the law's own sums -/
def spOdd : Sp := fun vs H Q _ => ∃ (a : Addr) (L : WS), vs = [.ref a] ∧ WL H a L ∧ L.length ≤ 2000000 ∧ ∀ (p : Addr) (H' : Hp) (r : WS), H p = none → Same H H' → WL H' p r → IsOdd L r → Q (.ref p) H'
theorem odd_perm {L L' r : WS} (x : IsOdd L r) (p : L.Perm L') : IsOdd L' r := x.par fun w => by rw [p.count_eq]
theorem words_end {H : Hp} : ∀ {f : List V} {y : V} {r : WS}, Words H (f ++ [y]) r → ∃ r0 v, r = r0 ++ [v] ∧ Words H f r0 ∧ Word H y v
  | [], _, _, .cons h .nil => ⟨[], _, rfl, .nil, h⟩
  | _ :: f, _, _, .cons h t => by
    obtain ⟨r0, v, e, a, b⟩ := words_end (f := f) t
    exact ⟨_ :: r0, v, by rw [e]; rfl, .cons h a, b⟩
theorem at_end {f : List V} {y : V} : atI (f ++ [y]) (-1) = some y := by
  unfold atI ixN
  rw [if_neg (by decide), if_pos (by rw [List.length_append]; simp; omega)]
  rw [List.length_append, List.length_singleton, show ((-1 : Int) + ((f.length + 1 : Nat) : Int)).toNat = f.length by omega]
  simp
abbrev s__law_odd : Stmt := top 21
theorem sc__law_odd : FnScope ["_law_words", "_law_found", "_law_word"] ["_law_words"] (defScope s__law_odd) := ⟨rfl, rfl, rfl, by decide +kernel, rfl, by decide +kernel, by decide +kernel⟩
theorem ok_odd {f : Addr} {fd : FuncData} (F : Fun K "_law_odd" "_law_odd" s__law_odd f fd) (b_sorted : mg "sorted" = none) : FnOk P w K mg base CX0 1 f fd ["_law_words"] spOdd := by
  refine F.ok sc__law_odd (fun vs H Q E h => ?_) (fun cdv A outer s H vs Q E hr h => ?_)
  · obtain ⟨a, L, rfl, _⟩ := h
    rfl
  · obtain ⟨a, L, rfl, hL, hz, k⟩ := h
    refine ⟨_, (pss_cons (ps_set (i := 1) sc__law_odd.nd rfl (Or.inl rfl) (pe_lst pa_nil))
      (pss_cons (ps_for PassesOwn.never rfl (pi_listK (K := K) rfl (pe_callB (call_sortedWK (K := K) rfl hr.units) (by rfl) b_sorted boot_sorted (pa_cons (pv 0) pa_nil))) (pg_name (i := 2) sc__law_odd.nd rfl (Or.inl rfl)) (pss_one (ps_if (PW.pt (pw_and (pt_cmpR (op_neNilK (K := K) rfl hr.units) (pv 1) (pe_lst pa_nil) (nomark _)) (pw_and1 (pt_cmpR (op_eqW hr.units) (pe_ix (ix_listK (K := K) rfl) (pv 1) (pe_un un_neg pe_int) (fun _ _ => rfl)) (pv 2) (nomark _))))) (pss_one (ps_expr (pe_bm0K (K := K) rfl (pe_bm0 PySem.F.plainAttrs_list PySem.F.slot_list_pop PySem.F.type_list_pop mt_pop (pv 1))))) (pss_one (ps_expr (pe_bmK (K := K) rfl (pe_bm PySem.F.plainAttrs_list PySem.F.slot_list_append PySem.F.type_list_append mt_append (pv 1) (pa_cons (pv 2) pa_nil))))))))
      (pss_one (ps_ret (pv 1))))), ?_⟩
    refine ⟨(by show 0 ≤ sizeLine; decide), fun l hl => ?_⟩
    have s0 : Same H (upd H l (.lst [])) := Same.laid hl
    obtain ⟨xs, ea, wa⟩ := hL.same s0
    refine ⟨_, rfl, a, xs, L, rfl, SqL.of ea, wa, fun p zs vs hp pz pm wz rs => ?_⟩
    obtain ⟨G, hG⟩ : ∃ G, G = upd (upd H l (.lst [])) p (.lst zs) := ⟨_, rfl⟩
    rw [← hG]
    have hpl : p ≠ l := fun z => by rw [z, upd_same] at hp; cases hp
    have sG : Same (upd H l (.lst [])) G := by rw [hG]; exact Same.laid hp
    have ep : G p = some (.lst zs) := by rw [hG]; exact upd_same
    have el : G l = some (.lst []) := sG l _ upd_same
    have wz' := Words.same sG wz
    have lz := Words.len wz
    have lv := pm.length_eq
    have tl : ∀ t, G l ≠ some (.tup t) := fun t z => by rw [el] at z; cases z
    refine ⟨p, rfl, ⟨_, SqL.of ep⟩, for_list (K := K) (a := p) (xs := zs) (fun j σ G' => ∃ (v2 : Option V) (fs : List V) (r : WS), σ = [some (.ref a), some (.ref l), v2] ∧ Frm l G G' ∧ G' l = some (.lst fs) ∧ Words G' fs r ∧ IsOdd (vs.take j) r) ⟨none, [], [], rfl, Frm.refl _ _, el, .nil, odd_nil⟩ (fun j σ G' _ ⟨_, _, _, _, fr, _⟩ => SqL.of (fr p _ ep hpl)) ?_ ?_⟩
    · rintro j x σ G' hx ⟨v2, fs, r, rfl, fr, el', wf, od⟩
      obtain ⟨w, hj, wx⟩ := Words.get wz' hx
      have wx' : Word G' x w := wx.mono (fr.tups tl)
      have lf := Words.len wf
      have ol := od.len
      rw [List.length_take] at ol
      have le : ∀ q ∈ vs.take j, lexLt w q = false := fun q hq => by
        obtain ⟨i, hi, rfl⟩ := List.getElem_of_mem hq
        rw [List.length_take] at hi
        obtain ⟨h2, rfl⟩ := List.getElem?_eq_some_iff.mp hj
        rw [List.getElem_take]
        exact List.pairwise_iff_getElem.mp rs i j (by omega) h2 (by omega)
      have et : vs.take (j + 1) = vs.take j ++ [w] := take_snoc hj
      refine ⟨_, rfl, (by show 0 ≤ sizeLine; decide), fun q hq => ⟨l, q, fs, rfl, rfl, SqL.of (Same.laid hq l _ el'), SqL.of upd_same, _, rfl, ?_⟩⟩
      have s1 : Same G' (upd G' q (.lst [])) := Same.laid hq
      obtain ⟨G1, hG1⟩ : ∃ G1, G1 = upd G' q (.lst []) := ⟨_, rfl⟩
      rw [← hG1] at s1 ⊢
      have el1 := s1 l _ el'
      have fr1 : Frm l G G1 := fr.trans s1.frm
      have nt : ∀ t, G1 l ≠ some (.tup t) := fun t z => by rw [el1] at z; cases z
      rcases List.eq_nil_or_concat fs with rfl | ⟨f0, y, rfl⟩
      · cases wf
        refine iteF (iteF ?_)
        refine ⟨_, rfl, .inl ⟨rfl, _, SqL.of el1⟩, _, rfl, l, _, _, rfl, rfl, el1, by decide, ?_⟩
        refine ⟨_, _, [w], rfl, fr1.trans Frm.upd, upd_same, .cons ?_ .nil, ?_⟩
        · exact (wx'.same s1).mono (Frm.upd.tups nt)
        · rw [et]; exact odd_new od le (by simp)
      · rw [List.concat_eq_append] at *
        obtain ⟨r0, v, rfl, w0, wy⟩ := words_end wf
        rw [show (!(f0 ++ [y]).isEmpty) = true by simp]
        refine iteT ⟨_, rfl, 1, rfl, l, _, _, _, rfl, rfl, SqL.of el1, at_end, _, rfl, v, w, wy.same s1, wx'.same s1, _, rfl, ite2 (fun hp => ?_) (fun hp => ?_)⟩
        · have e : v = w := of_decide_eq_true hp
          subst e
          refine ⟨_, rfl, .inl ⟨rfl, _, SqL.of el1⟩, l, _, y, rfl, rfl, el1, by simp, ?_⟩
          refine ⟨_, _, r0, rfl, fr1.trans Frm.upd, upd_same, ?_, ?_⟩
          · rw [List.dropLast_concat]; exact (w0.same s1).mono (Frm.upd.tups nt)
          · rw [et]; exact odd_same od
        · have e : v ≠ w := fun z => hp (decide_eq_true z)
          refine ⟨_, rfl, .inl ⟨rfl, _, SqL.of el1⟩, _, rfl, l, _, _, rfl, rfl, el1, by rw [sizeLine_eq]; omega, ?_⟩
          refine ⟨_, _, _, rfl, fr1.trans Frm.upd, upd_same, Words.snoc ((wf.same s1).mono (Frm.upd.tups nt)) ((wx'.same s1).mono (Frm.upd.tups nt)), ?_⟩
          rw [et]; exact odd_new od le (by simpa using e)
    · rintro σ G' ⟨v2, fs, r, rfl, fr, el', wf, od⟩
      rw [List.take_of_length_le (by omega)] at od
      refine ⟨_, rfl, k l G' r hl (fun c o e => ?_) ⟨fs, el', wf⟩ (odd_perm od pm)⟩
      exact fr c o (sG c o (s0 c o e)) (ne_of_none e hl)
end
end Qk17

namespace Qk17
open PySem L2 PyProof.Rows
section
variable {P : Program} {w : World} {K : PySem.W.Frag} {mg : Str → Option Value} {base : Heap}
/-! ### copies of the tables, every list of its own -/
/-- rows r with entries es, one by one -/
def RowsE (G : Hp) (A : List Addr) (R : List (List Addr)) : Prop := Paired (fun r es => G r = some (.lst (es.map V.ref))) A R
def TabsE (G : Hp) (T : List Addr) (RR : List (List (List Addr))) : Prop := Paired (fun t R => ∃ A, G t = some (.lst (A.map V.ref)) ∧ RowsE G A R) T RR
theorem rowsE_same {G G' : Hp} {A : List Addr} {R : List (List Addr)} (s : Same G G') (x : RowsE G A R) : RowsE G' A R := Paired.mapP x fun _ _ h => s _ _ h
theorem tabsE_same {G G' : Hp} {T : List Addr} {RR : List (List (List Addr))} (s : Same G G') (x : TabsE G T RR) : TabsE G' T RR := Paired.mapP x fun _ _ ⟨A, h1, h2⟩ => ⟨A, s _ _ h1, rowsE_same s h2⟩
/-- new lists, each one but once, short -/
def NewE (B G : Hp) (E : List Addr) : Prop := E.Nodup ∧ ∀ e ∈ E, B e = none ∧ ∃ us, G e = some (.lst us) ∧ us.length ≤ 200
theorem newE_nil {B G : Hp} : NewE B G [] := ⟨.nil, fun e h => nomatch h⟩
theorem newE_same {B G G' : Hp} {E : List Addr} (s : Same G G') (x : NewE B G E) : NewE B G' E := ⟨x.1, fun e h => let ⟨a, us, b, c⟩ := x.2 e h; ⟨a, us, s _ _ b, c⟩⟩
theorem newE_app {B C G G' : Hp} {E E' : List Addr} (x : NewE B G E) (bc : Same B C) (gc : Same G C) (y : NewE C G' E') (s : Same C G') : NewE B G' (E ++ E') := by
  refine ⟨?_, fun e h => ?_⟩
  · rw [List.nodup_append]
    refine ⟨x.1, y.1, fun a ha b hb z => ?_⟩
    subst z
    obtain ⟨_, us, h1, _⟩ := x.2 a ha
    have := (y.2 a hb).1
    rw [gc _ _ h1] at this
    cases this
  · rcases List.mem_append.mp h with h | h
    · obtain ⟨a, us, b, c⟩ := x.2 e h
      exact ⟨a, us, s _ _ (gc _ _ b), c⟩
    · obtain ⟨a, us, b, c⟩ := y.2 e h
      exact ⟨bc.free a, us, b, c⟩
def spBtw (C : Addr) : Sp := fun vs H Q E => ∃ (l : Addr) (xs : List V) (ls : List (Str × Int)), vs = [.ref l] ∧ H l = some (.lst xs) ∧ LetsV H xs ls ∧ Wk ls 0 ∧ InB ls ∧ ls.length ≤ 60 ∧
  (FewAll ls ls.length → ∀ (p : Addr) (H' : Hp) (T : List Addr) (RR : List (List (List Addr))), H p = none → Same H H' → Tbs H' p ls T → T.length = ls.length + 1 → TabsE H' T RR → NewE H H' RR.flatten.flatten → p ∉ RR.flatten.flatten → RR.flatten.flatten.length ≤ 5000 → (∀ r ∈ T, H r = none) → Q (.ref p) H') ∧ (¬ FewAll ls ls.length → ∀ H', Same H H' → E (.ref C) none H')
abbrev s_between : Stmt := top 17
theorem sc_between : FnScope ["drawing"] ["drawing"] (defScope s_between) := ⟨rfl, rfl, rfl, by decide +kernel, rfl, by decide +kernel, by decide +kernel⟩
theorem ok_btw {f C W : Addr} {fd : FuncData} (F : Fun K "between" "between" s_between f fd) (h_sum_tables : HasX P w K mg base 6 "sum_tables" ["drawing"] (spST C W)) (b_list : mg "list" = none) : FnOk P w K mg base (CX1 P w) 7 f fd ["drawing"] (spBtw C) := by
  refine F.okX sc_between (fun vs H Q E h => ?_) (fun cdv A outer s H vs Q E hr h => ?_)
  · obtain ⟨l, xs, ls, rfl, _⟩ := h
    rfl
  · obtain ⟨l, xs, ls, rfl, hl, hL, hW, hI, hlen, k, kx⟩ := h
    refine ⟨_, (pss_one (ps_ret (pe_lc (Ls := ["table"]) (Fs := []) (fi := []) (LcScope.of (show lcLook ["drawing"] (defScope s_between) _ [] [] = true by decide +kernel)) rfl (pi_listK (K := K) rfl (pe_hasX h_sum_tables (hr.mono (by decide)) pass1 (pa_cons (pv 0) pa_nil))) (fun cl C s3 H3 ex => ⟨(pg_name (i := 0) (show ((["table"] : List Str) ++ ([] : List Str)).Nodup by decide +kernel) rfl (Or.inl rfl)), pts_nil, (pe_lc (Ls := ["row"]) (Fs := []) (fi := []) (LcScope.of (by rfl)) rfl (pi_listK (K := K) rfl (pv 0)) (fun cl C s3 H3 ex => ⟨(pg_name (i := 0) (show ((["row"] : List Str) ++ ([] : List Str)).Nodup by decide +kernel) rfl (Or.inl rfl)), pts_nil, (pe_lc (Ls := ["one"]) (Fs := []) (fi := []) (LcScope.of (by rfl)) rfl (pi_listK (K := K) rfl (pv 0)) (fun cl C s3 H3 ex => ⟨(pg_name (i := 0) (show ((["one"] : List Str) ++ ([] : List Str)).Nodup by decide +kernel) rfl (Or.inl rfl)), pts_nil, (pe_callTy (call_listK (K := K) rfl) (by rfl) b_list boot_list (pa_cons (pv 0) pa_nil))⟩))⟩))⟩)))), ?_⟩
    refine ⟨_, rfl, l, xs, ls, rfl, hl, hL, hW, hI, hlen, fun few tA G0 T0 ftA s0 tbs0 lT0 => ?_, fun nf H' s' => kx nf H' s'⟩
    have lm : (T0.map V.ref).length ≤ 61 := by rw [List.length_map, lT0]; omega
    refine ⟨tA, rfl, ⟨_, SqL.of tbs0.at_⟩, lc_list (K := K) (xs := T0.map V.ref) (by rw [sizeLine_eq]; omega) (fun i zs G => ∃ (T : List Addr) (RR : List (List (List Addr))), Same G0 G ∧ zs = T.map V.ref ∧ T.length = i ∧ (∀ (a : Nat) (r : Addr), T[a]? = some r → Tab G r (tN (ls.take a)) (tF (ls.take a))) ∧ TabsE G T RR ∧ NewE G0 G RR.flatten.flatten ∧ RR.flatten.flatten.length ≤ 64 * i ∧ ∀ r ∈ T, G0 r = none)
      ⟨[], [], Same.refl _, rfl, rfl, fun a r h => by simp at h, .nil, newE_nil, Nat.zero_le _, fun r h => nomatch h⟩ (fun i zs G ⟨T, RR, _, e, l', _⟩ => by rw [e, List.length_map, l']; exact Nat.le_refl _) (fun i zs G ⟨_, _, s', _⟩ => SqL.of (s' _ _ tbs0.at_)) ?_ ?_⟩
    · rintro i v zs G hv ⟨T, RR, sG, rfl, lT, tabs, te, ne, lE, fT⟩
      rw [List.getElem?_map] at hv
      obtain ⟨t0, ht0, rfl⟩ := Option.map_eq_some_iff.mp hv
      have hi : i ≤ ls.length := by have := (List.getElem?_eq_some_iff.mp ht0).1; omega
      obtain ⟨A, et, mt⟩ := (tbs0.tab i t0 ht0).1.same sG
      have lA := mt.1
      have n8 := tN_le hW hI i
      have fw := few i hi
      obtain ⟨n, hn⟩ : ∃ n, n = tN (ls.take i) := ⟨_, rfl⟩
      obtain ⟨Fx, hF⟩ : ∃ Fx, Fx = tF (ls.take i) := ⟨_, rfl⟩
      rw [← hn] at mt lA n8 fw
      rw [← hF] at mt fw
      dsimp only [gName, tTrue]
      refine iteT ⟨_, rfl, t0, rfl, ⟨_, SqL.of et⟩, lc_list (K := K) (xs := A.map V.ref) (by rw [List.length_map, sizeLine_eq]; omega) (fun j ws G' => ∃ (As : List Addr) (R : List (List Addr)), Same G G' ∧ ws = As.map V.ref ∧ Mat G' As j n Fx ∧ RowsE G' As R ∧ NewE G G' R.flatten ∧ R.flatten.length ≤ 8 * j)
        ⟨[], [], Same.refl _, rfl, mat_nil, .nil, newE_nil, Nat.zero_le _⟩ (fun j ws G' ⟨As, R, _, e, m, _⟩ => by rw [e, List.length_map, m.1]; exact Nat.le_refl _) (fun j ws G' ⟨_, _, s', _⟩ => SqL.of (s' _ _ et)) ?_ ?_⟩
      · rintro j y ws G1 hy ⟨As, R, s1, rfl, mA, rE, nE, lR⟩
        rw [List.getElem?_map] at hy
        obtain ⟨r, hr', rfl⟩ := Option.map_eq_some_iff.mp hy
        have hj : j < n := by have := (List.getElem?_eq_some_iff.mp hr').1; omega
        obtain ⟨us, eu, lu, hu⟩ := (mt.2.2 j r hr').same s1
        dsimp only [gName, tTrue]
        refine iteT ⟨_, rfl, r, rfl, ⟨_, SqL.of eu⟩, lc_list (K := K) (xs := us) (by rw [lu, sizeLine_eq]; omega) (fun m ys G' => ∃ es : List Addr, Same G1 G' ∧ ys = es.map V.ref ∧ es.length = m ∧ (∀ (a : Nat) (e : Addr), es[a]? = some e → WL G' e (Fx j a)) ∧ NewE G1 G' es)
          ⟨[], Same.refl _, rfl, rfl, fun a e h => by simp at h, newE_nil⟩ (fun m ys G' ⟨es, _, e, l', _⟩ => by rw [e, List.length_map, l']; exact Nat.le_refl _) (fun m ys G' ⟨_, s', _⟩ => SqL.of (s' _ _ eu)) ?_ ?_⟩
        · rintro m y ys G2 hm ⟨es, s2, rfl, le', wl, nE2⟩
          have hm' : m < n := by have := (List.getElem?_eq_some_iff.mp hm).1; omega
          obtain ⟨e0, rfl, w0⟩ := hu m y hm
          obtain ⟨vs, ev, wv⟩ := w0.same s2
          have lv := wv.len
          have f200 := fw j m hj hm'
          dsimp only [gName, tTrue]
          refine iteT ⟨_, rfl, e0, vs, rfl, .inl (SqL.of ev), fun D fD => ⟨es ++ [D], s2.step fD, by rw [List.map_append]; rfl, by rw [List.length_append, le']; rfl, fun a e h => ?_, ?_⟩⟩
          · by_cases z : a < es.length
            · rw [List.getElem?_append_left z] at h
              exact (wl a e h).same (Same.laid fD)
            · rw [List.getElem?_append_right (by omega)] at h
              have : a - es.length = 0 := by
                have := (List.getElem?_eq_some_iff.mp h).1
                simp at this; omega
              rw [this] at h
              cases h
              have : a = m := by omega
              subst this
              exact ⟨vs, upd_same, wv.same (Same.laid fD)⟩
          · refine newE_app nE2 s2 (Same.refl _) ⟨by simp, fun e h => ?_⟩ (Same.laid fD)
            rw [List.mem_singleton.mp h]
            exact ⟨fD, vs, upd_same, by omega⟩
        · rintro ys G2 ⟨es, s2, rfl, le', wl, nE2⟩ D fD
          rw [lu] at le'
          have sD : Same G2 (upd G2 D (.lst (es.map V.ref))) := Same.laid fD
          refine ⟨As ++ [D], R ++ [es], (s1.trans s2).trans sD, by rw [List.map_append]; rfl, (mA.same (s2.trans sD)).snoc ((mA.same s2).fresh fD) ⟨_, upd_same, by rw [List.length_map]; exact le', fun a x hx => ?_⟩, Paired.snoc (rowsE_same (s2.trans sD) rE) upd_same, ?_, ?_⟩
          · rw [List.getElem?_map] at hx
            obtain ⟨e, he, rfl⟩ := Option.map_eq_some_iff.mp hx
            exact ⟨e, rfl, (wl a e he).same sD⟩
          · rw [List.flatten_append, List.flatten_singleton]
            exact newE_same sD (newE_app nE s1 (Same.refl _) nE2 s2)
          · rw [List.flatten_append, List.flatten_singleton, List.length_append]
            omega
      · rintro ws G1 ⟨As, R, s1, rfl, mA, rE, nE, lR⟩ D fD
        rw [List.length_map, lA] at mA lR
        have sD : Same G1 (upd G1 D (.lst (As.map V.ref))) := Same.laid fD
        refine ⟨T ++ [D], RR ++ [R], (sG.trans s1).trans sD, by rw [List.map_append]; rfl, by rw [List.length_append, lT]; rfl, fun a r h => ?_, Paired.snoc (tabsE_same (s1.trans sD) te) ⟨As, upd_same, rowsE_same sD rE⟩, ?_, ?_, fun r hr => ?_⟩
        · by_cases z : a < T.length
          · rw [List.getElem?_append_left z] at h
            exact (tabs a r h).same (s1.trans sD)
          · rw [List.getElem?_append_right (by omega)] at h
            have : a - T.length = 0 := by
              have := (List.getElem?_eq_some_iff.mp h).1
              simp at this; omega
            rw [this] at h
            cases h
            have : a = i := by omega
            subst this
            rw [← hn, ← hF]
            exact ⟨As, upd_same, mA.same sD⟩
        · rw [List.flatten_append, List.flatten_singleton, List.flatten_append]
          exact newE_same sD (newE_app ne sG (Same.refl _) nE s1)
        · rw [List.flatten_append, List.flatten_singleton, List.flatten_append, List.length_append]
          omega
        · rcases List.mem_append.mp hr with z | z
          · exact fT r z
          · rw [List.mem_singleton.mp z]; exact (sG.trans s1).free fD
    · rintro zs G ⟨T, RR, sG, rfl, lT, tabs, te, ne, lE, fT⟩ p fp
      have sp : Same G (upd G p (.lst (T.map V.ref))) := Same.laid fp
      rw [List.length_map, lT0] at lT lE
      refine k few p _ T RR ((s0.trans sG).free fp) ((s0.trans sG).trans sp) ⟨upd_same, by omega, fun a r h => ⟨(tabs a r h).same sp, fun z => ?_⟩⟩ lT (tabsE_same sp te) ?_ (fun z => ?_) (by omega) (fun r hr => s0.free (fT r hr))
      · obtain ⟨_, e, _⟩ := tabs a r h
        rw [z, fp] at e; cases e
      · refine newE_same sp ⟨ne.1, fun e h => ?_⟩
        obtain ⟨a, b⟩ := ne.2 e h
        exact ⟨s0.free a, b⟩
      · obtain ⟨_, us, e, _⟩ := ne.2 p z
        rw [fp] at e; cases e
end
end Qk17

namespace Qk17
open PySem L2 PyProof.Rows
section
variable {P : Program} {w : World} {K : PySem.W.Frag} {mg : Str → Option Value} {base : Heap}
/-! ### births and crossings -/
def spSimple : Sp := fun vs H Q _ => ∃ b : Addr, vs = [.ref b] ∧ Bag H b ∧ ∀ (l : Addr) (H' : Hp) (xs : List V) (ls : List (Str × Int)) (c cc : Nat), H l = none → Bag H' b → Frm b H H' → H' l = some (.lst xs) → LetsV H' xs ls → Gd ls (2 * (c : Int)) c cc → c ≤ 4 → cc ≤ 10 → ls.length ≤ 11 → Q (.ref l) H'
abbrev s__law_simple : Stmt := top 22
theorem sc__law_simple : FnScope ["_law_bag_here", "_law_letters", "_law_many", "_law_turn"] ["_law_bag_here"] (defScope s__law_simple) := ⟨rfl, rfl, rfl, by decide +kernel, rfl, by decide +kernel, by decide +kernel⟩
theorem ok_simple {f : Addr} {fd : FuncData} (F : Fun K "_law_simple" "_law_simple" s__law_simple f fd) (h__law_take : Has P w K mg base 1 "_law_take" ["_law_bag_here", "_law_many"] spTake) (b_range : mg "range" = none) (b_len : mg "len" = none) : FnOk P w K mg base CX0 2 f fd ["_law_bag_here"] spSimple := by
  refine F.ok sc__law_simple (fun vs H Q E h => ?_) (fun cdv A outer s H vs Q E hr h => ?_)
  · obtain ⟨b, rfl, _⟩ := h
    rfl
  · obtain ⟨b, rfl, bg, k⟩ := h
    refine ⟨_, (pss_cons (ps_set (i := 1) sc__law_simple.nd rfl (Or.inl rfl) (pe_lst (pa_cons (pe_tup (pa_cons pe_str (pa_cons pe_int pa_nil))) pa_nil)))
      (pss_cons (ps_set (i := 2) sc__law_simple.nd rfl (Or.inl rfl) pe_int)
      (pss_cons (ps_for PassesOwn.never rfl (pi_range1 (by rfl) b_range (pa_cons (pe_has h__law_take (hr.mono (by decide)) (pa_cons (pv 0) (pa_cons pe_int pa_nil))) pa_nil)) (pg_name (i := 3) sc__law_simple.nd rfl (Or.inl rfl)) (pss_one (ps_if (PW.pt (pw_and (pt_cmpR op_lt (pv 2) pe_int (nomark _)) (pw_and1 (pt_cmpR op_eq (pe_has h__law_take (hr.mono (by decide)) (pa_cons (pv 0) (pa_cons pe_int pa_nil))) pe_int (nomark _))))) (pss_cons (ps_expr (pe_bmK (K := K) rfl (pe_bm PySem.F.plainAttrs_list PySem.F.slot_list_append PySem.F.type_list_append mt_append (pv 1) (pa_cons (pe_tup (pa_cons pe_str (pa_cons (pe_has h__law_take (hr.mono (by decide)) (pa_cons (pv 0) (pa_cons (pe_op op_add (pv 2) pe_int) pa_nil))) pa_nil))) pa_nil))))
      (pss_one (ps_set (i := 2) sc__law_simple.nd rfl (Or.inl rfl) (pe_op op_add (pv 2) pe_int)))) (pss_one (ps_if (pt_cmpR op_lt (pe_callB (call_lenK (K := K) rfl) (by rfl) b_len PySem.boot_len (pa_cons (pv 1) pa_nil)) pe_int (nomark _)) (pss_one (ps_expr (pe_bmK (K := K) rfl (pe_bm PySem.F.plainAttrs_list PySem.F.slot_list_append PySem.F.type_list_append mt_append (pv 1) (pa_cons (pe_tup (pa_cons pe_str (pa_cons (pe_has h__law_take (hr.mono (by decide)) (pa_cons (pv 0) (pa_cons (pe_op op_sub (pv 2) pe_int) pa_nil))) pa_nil))) pa_nil))))) pss_nil)))))
      (pss_one (ps_ret (pv 1)))))), ?_⟩
    have z2 : 2 ≤ sizeLine := by decide
    refine ⟨z2, fun t1 ft1 => ⟨(by show 1 ≤ sizeLine; decide), fun l fl => ?_⟩⟩
    obtain ⟨H2, eH2⟩ : ∃ H2, upd (upd H t1 (.tup [.str "born", .int 0])) l (.lst [.ref t1]) = H2 := ⟨_, rfl⟩
    have s2 : Same H H2 := by rw [← eH2]; exact (Same.laid ft1).step fl
    have el : H2 l = some (.lst [.ref t1]) := by rw [← eH2]; exact upd_same
    have et1 : H2 t1 = some (.tup [.str "born", .int 0]) := by rw [← eH2]; exact Same.laid fl _ _ upd_same
    rw [eH2]
    have flH : H l = none := (Same.laid ft1).free fl
    have nlb : l ≠ b := bag_ne bg flH
    have bg2 : Bag H2 b := by obtain ⟨g, r, h0, e⟩ := bg; exact ⟨g, r, h0, s2 _ _ e⟩
    have g1 : Gd [((("born" : Str), (0 : Int)) : Str × Int)] (2 * ((1 : Nat) : Int)) 1 0 := gd_born (k := 0) gd_nil (by decide) (by decide) (by decide)
    have L0 : LetsV H2 [.ref t1] [((("born" : Str), (0 : Int)) : Str × Int)] := .cons ⟨t1, rfl, et1⟩ .nil
    refine ⟨_, rfl, b, 11, rfl, bg2, by decide, by decide, fun d H3 d0 d1 bg3 f3 => ?_⟩
    refine ⟨_, rfl, by omega, by omega, for_range (n := d.toNat) (fun i σ G => ∃ (v3 : Option V) (xs : List V) (ls : List (Str × Int)) (c cc : Nat), σ = [some (.ref b), some (.ref l), some (.int (2 * (c : Int))), v3] ∧ Bag G b ∧ Frm b H G ∧ G l = some (.lst xs) ∧ LetsV G xs ls ∧ Gd ls (2 * (c : Int)) c cc ∧ c ≤ 4 ∧ 1 ≤ c ∧ cc ≤ i ∧ ls.length ≤ 1 + i)
      ⟨none, _, _, 1, 0, rfl, bg3, s2.frm.trans f3, f3 _ _ el nlb, L0.frm f3 bg2, g1, by decide, by decide, by decide, by decide⟩ ?_ ?_⟩
    · rintro i σ G hi ⟨v3, xs, ls, c, cc, rfl, bgG, frG, elG, LG, gd, c4, c1, hcc, ll⟩
      have hxl : xs.length < sizeLine := by rw [LG.len]; exact small1000 (by omega)
      refine ⟨_, rfl, _, _, rfl, rfl, _, rfl, ?_⟩
      refine ite2 (fun hp => ?_) (fun hp => ?_)
      · have hc : 2 * (c : Int) < 7 := of_decide_eq_true hp
        refine ⟨_, rfl, b, 5, rfl, bgG, by decide, by decide, fun e1 G1 e10 e11 bg1 fr1 => ⟨rfl, _, rfl, ?_⟩⟩
        have el1 : G1 l = some (.lst xs) := fr1 l _ elG nlb
        have L1 := LG.frm fr1 bgG
        have frH := frG.trans fr1
        refine ite2 (fun hq => ?_) (fun hq => ?_)
        · refine ⟨_, rfl, .inl ⟨rfl, _, SqL.of el1⟩, _, rfl, _, rfl, _, _, rfl, rfl, b, _, rfl, bg1, by omega, by omega, fun e2 G2 e20 e21 bg2' fr2 => ⟨z2, fun t ft => ?_⟩⟩
          obtain ⟨a1, a2, a3, a4, a5⟩ := app_step "born" e2 frH bg1 el1 L1 nlb flH fr2 bg2' ft
          refine ⟨l, _, _, rfl, rfl, a1, hxl, ?_⟩
          refine ⟨_, rfl, _, _, rfl, rfl, ?_⟩
          exact ⟨_, _, _, c + 1, cc, (by rw [show (2 * ((c + 1 : Nat) : Int)) = 2 * (c : Int) + 2 by omega]; rfl), a2, a3, a4, a5, (by rw [show (2 * ((c + 1 : Nat) : Int)) = 2 * (c : Int) + 2 by omega]; exact gd_born gd e20 (by omega) (by omega)), by omega, by omega, by omega, by rw [List.length_append]; simp; omega⟩
        · refine ⟨_, rfl, l, _, rfl, .inl (SqL.of el1), _, _, rfl, rfl, _, rfl, ite2 (fun h11 => ?_) (fun _ => ?_)⟩
          · refine ⟨_, rfl, .inl ⟨rfl, _, SqL.of el1⟩, _, rfl, _, rfl, _, _, rfl, rfl, b, _, rfl, bg1, by omega, by omega, fun e2 G2 e20 e21 bg2' fr2 => ⟨z2, fun t ft => ?_⟩⟩
            obtain ⟨a1, a2, a3, a4, a5⟩ := app_step "cross" e2 frH bg1 el1 L1 nlb flH fr2 bg2' ft
            refine ⟨l, _, _, rfl, rfl, a1, hxl, ?_⟩
            exact ⟨_, _, _, c, cc + 1, rfl, a2, a3, a4, a5, gd_cross gd e20 (by omega) (by omega), c4, c1, by omega, by rw [List.length_append]; simp; omega⟩
          · exact ⟨_, _, _, c, cc, rfl, bg1, frH, el1, L1, gd, c4, c1, by omega, by omega⟩
      · refine ⟨_, rfl, l, _, rfl, .inl (SqL.of elG), _, _, rfl, rfl, _, rfl, ite2 (fun h11 => ?_) (fun _ => ?_)⟩
        · refine ⟨_, rfl, .inl ⟨rfl, _, SqL.of elG⟩, _, rfl, _, rfl, _, _, rfl, rfl, b, _, rfl, bgG, by omega, by omega, fun e2 G2 e20 e21 bg2' fr2 => ⟨z2, fun t ft => ?_⟩⟩
          obtain ⟨a1, a2, a3, a4, a5⟩ := app_step "cross" e2 frG bgG elG LG nlb flH fr2 bg2' ft
          refine ⟨l, _, _, rfl, rfl, a1, hxl, ?_⟩
          exact ⟨_, _, _, c, cc + 1, rfl, a2, a3, a4, a5, gd_cross gd e20 (by omega) (by omega), c4, c1, by omega, by rw [List.length_append]; simp; omega⟩
        · exact ⟨_, _, _, c, cc, rfl, bgG, frG, elG, LG, gd, c4, c1, by omega, by omega⟩
    · rintro σ G ⟨v3, xs, ls, c, cc, rfl, bgG, frG, elG, LG, gd, c4, c1, hcc, ll⟩
      exact ⟨_, rfl, k l G xs ls c cc flH bgG frG elG LG gd c4 (by omega) (by omega)⟩
end
end Qk17

namespace Qk17
open PySem L2 PyProof.Rows
section
variable {P : Program} {w : World} {K : PySem.W.Frag} {mg : Str → Option Value} {base : Heap}
/-! ### steps to the left -/
abbrev Qd := Int × Int × List Int × List Int
def Quad (H : Hp) (v : V) (q : Qd) : Prop := ∃ (p : Addr) (x y : V), v = .ref p ∧ H p = some (.tup [.int q.1, .int q.2.1, x, y]) ∧ Word H x q.2.2.1 ∧ Word H y q.2.2.2
def Quads (H : Hp) (xs : List V) (qs : List Qd) : Prop := Paired (Quad H) xs qs
theorem Quad.mono {H H' : Hp} {v : V} {q : Qd} (k : ∀ t p, H t = some (.tup p) → H' t = some (.tup p)) (x : Quad H v q) : Quad H' v q := let ⟨p, a, b, e, h, w1, w2⟩ := x; ⟨p, a, b, e, k _ _ h, w1.mono k, w2.mono k⟩
theorem Quads.mono {H H' : Hp} {xs : List V} {qs : List Qd} (k : ∀ t p, H t = some (.tup p) → H' t = some (.tup p)) (x : Quads H xs qs) : Quads H' xs qs := Paired.mapP x fun _ _ q => Quad.mono k q
theorem Quads.same {H H' : Hp} {xs : List V} {qs : List Qd} (s : Same H H') (x : Quads H xs qs) : Quads H' xs qs := x.mono fun t p e => s t _ e
theorem pair_get {α β : Type} {F : α → β → Prop} : ∀ {l : List α} {m : List β} {i : Nat} {a : α}, Paired F l m → l[i]? = some a → ∃ b, m[i]? = some b ∧ F a b
  | _, _, _, _, .nil, h => by simp at h
  | _, _, 0, _, .cons r _, h => by simp at h; subst h; exact ⟨_, rfl, r⟩
  | _, _, i + 1, a, .cons _ t, h => by
    obtain ⟨b, h1, h2⟩ := pair_get (i := i) (a := a) t (by simpa using h)
    exact ⟨b, by simpa using h1, h2⟩
/-- (number, word) -/
def Nw (H : Hp) (v : V) (q : Int × List Int) : Prop := ∃ (p : Addr) (x : V), v = .ref p ∧ H p = some (.tup [.int q.1, x]) ∧ Word H x q.2
def Nws (H : Hp) (xs : List V) (qs : List (Int × List Int)) : Prop := Paired (Nw H) xs qs
theorem Nws.mono {H H' : Hp} {xs : List V} {qs : List (Int × List Int)} (k : ∀ t p, H t = some (.tup p) → H' t = some (.tup p)) (x : Nws H xs qs) : Nws H' xs qs := Paired.mapP x fun _ _ ⟨p, a, e, h, w⟩ => ⟨p, a, e, k _ _ h, w.mono k⟩
theorem Nws.same {H H' : Hp} {xs : List V} {qs : List (Int × List Int)} (s : Same H H') (x : Nws H xs qs) : Nws H' xs qs := x.mono fun t p e => s t _ e
def upsF (k t i : Int) : List (Int × List Int) := if i = k then [(k + 1, [])] else if i = k + 1 then [(k, []), (k + 1, [t])] else [(i, [])]
def dwnF (k t j : Int) : List (Int × List Int) := if j = k + 1 then [(k, [])] else if j = k then [(k + 1, []), (k, [t])] else [(j, [])]
def rowF (u : Int × List Int) (ds : List (Int × List Int)) : List Qd := (ds.filter fun d => decide (u.1 < d.1)).map fun d => (u.1, d.1, u.2, d.2)
def stepF (k t i j : Int) : List Qd := (upsF k t i).flatMap fun u => rowF u (dwnF k t j)
theorem ups_len (k t i : Int) : (upsF k t i).length ≤ 2 := by unfold upsF; (repeat' split) <;> simp
theorem dwn_len (k t i : Int) : (dwnF k t i).length ≤ 2 := by unfold dwnF; (repeat' split) <;> simp
def spSteps : Sp := fun vs H Q _ => ∃ k t i j : Int, vs = [.int k, .int t, .int i, .int j] ∧ ∀ (p : Addr) (H' : Hp) (xs : List V), H p = none → Same H H' → H' p = some (.lst xs) → Quads H' xs (stepF k t i j) → Q (.ref p) H'
abbrev s__law_steps : Stmt := top 23
theorem sc__law_steps : FnScope ["_law_k", "_law_name", "_law_i", "_law_j", "_law_found", "_law_ups", "_law_downs", "_law_upper", "_law_ahead", "_law_lower", "_law_behind"] ["_law_k", "_law_name", "_law_i", "_law_j"] (defScope s__law_steps) := ⟨rfl, rfl, rfl, by decide +kernel, rfl, by decide +kernel, by decide +kernel⟩
theorem ok_steps {f : Addr} {fd : FuncData} (F : Fun K "_law_steps" "_law_steps" s__law_steps f fd) : FnOk P w K mg base CX0 1 f fd ["_law_k", "_law_name", "_law_i", "_law_j"] spSteps := by
  refine F.ok sc__law_steps (fun vs H Q E h => ?_) (fun cdv A outer s H vs Q E hr h => ?_)
  · obtain ⟨k, t, i, j, rfl, _⟩ := h
    rfl
  · obtain ⟨k, t, i, j, rfl, kk⟩ := h
    refine ⟨_, (pss_cons (ps_set (i := 4) sc__law_steps.nd rfl (Or.inl rfl) (pe_lst pa_nil))
      (pss_cons (ps_set (i := 5) sc__law_steps.nd rfl (Or.inl rfl) (pe_lst (pa_cons (pe_tup (pa_cons (pv 2) (pa_cons (pe_tup pa_nil) pa_nil))) pa_nil)))
      (pss_cut (ps_if (pt_cmpR op_eq (pv 2) (pv 0) (nomark _)) (pss_one (ps_set (i := 5) sc__law_steps.nd rfl (Or.inl rfl) (pe_lst (pa_cons (pe_tup (pa_cons (pe_op op_add (pv 0) pe_int) (pa_cons (pe_tup pa_nil) pa_nil))) pa_nil)))) (pss_one (ps_if (pt_cmpR op_eq (pv 2) (pe_op op_add (pv 0) pe_int) (nomark _)) (pss_one (ps_set (i := 5) sc__law_steps.nd rfl (Or.inl rfl) (pe_lst (pa_cons (pe_tup (pa_cons (pv 0) (pa_cons (pe_tup pa_nil) pa_nil))) (pa_cons (pe_tup (pa_cons (pe_op op_add (pv 0) pe_int) (pa_cons (pe_tup (pa_cons (pv 1) pa_nil)) pa_nil))) pa_nil))))) pss_nil)))
      (pss_cons (ps_set (i := 6) sc__law_steps.nd rfl (Or.inl rfl) (pe_lst (pa_cons (pe_tup (pa_cons (pv 3) (pa_cons (pe_tup pa_nil) pa_nil))) pa_nil)))
      (pss_cut (ps_if (pt_cmpR op_eq (pv 3) (pe_op op_add (pv 0) pe_int) (nomark _)) (pss_one (ps_set (i := 6) sc__law_steps.nd rfl (Or.inl rfl) (pe_lst (pa_cons (pe_tup (pa_cons (pv 0) (pa_cons (pe_tup pa_nil) pa_nil))) pa_nil)))) (pss_one (ps_if (pt_cmpR op_eq (pv 3) (pv 0) (nomark _)) (pss_one (ps_set (i := 6) sc__law_steps.nd rfl (Or.inl rfl) (pe_lst (pa_cons (pe_tup (pa_cons (pe_op op_add (pv 0) pe_int) (pa_cons (pe_tup pa_nil) pa_nil))) (pa_cons (pe_tup (pa_cons (pv 0) (pa_cons (pe_tup (pa_cons (pv 1) pa_nil)) pa_nil))) pa_nil))))) pss_nil)))
      (pss_cons (ps_for PassesOwn.never rfl (pi_listK (K := K) rfl (pv 5)) (pg_tupK (K := K) (n := 2) rfl rfl (pgs_cons (pg_name (i := 7) sc__law_steps.nd rfl (Or.inl rfl)) (pgs_cons (pg_name (i := 8) sc__law_steps.nd rfl (Or.inl rfl)) pgs_nil))) (pss_one (ps_for PassesOwn.never rfl (pi_listK (K := K) rfl (pv 6)) (pg_tupK (K := K) (n := 2) rfl rfl (pgs_cons (pg_name (i := 9) sc__law_steps.nd rfl (Or.inl rfl)) (pgs_cons (pg_name (i := 10) sc__law_steps.nd rfl (Or.inl rfl)) pgs_nil))) (pss_one (ps_if (pt_cmpR op_lt (pv 7) (pv 9) (nomark _)) (pss_one (ps_expr (pe_bmK (K := K) rfl (pe_bm PySem.F.plainAttrs_list PySem.F.slot_list_append PySem.F.type_list_append mt_append (pv 4) (pa_cons (pe_tup (pa_cons (pv 7) (pa_cons (pv 9) (pa_cons (pv 8) (pa_cons (pv 10) pa_nil))))) pa_nil))))) pss_nil)))))
      (pss_one (ps_ret (pv 4))))))))), ?_⟩
    have z1 : 1 ≤ sizeLine := by decide
    have z2 : 2 ≤ sizeLine := by decide
    refine ⟨(by show 0 ≤ sizeLine; decide), fun fA ffA => ?_⟩
    obtain ⟨H1, eH1⟩ : ∃ H1, upd H fA (.lst []) = H1 := ⟨_, rfl⟩
    have s1 : Same H H1 := by rw [← eH1]; exact Same.laid ffA
    have ef : H1 fA = some (.lst []) := by rw [← eH1]; exact upd_same
    rw [eH1]
    have one : ∀ {G : Hp} {x : Int} {e p l : Addr}, G e = none → (upd G e (.tup [])) p = none → (upd (upd G e (.tup [])) p (.tup [.int x, .ref e])) l = none → Same G (upd (upd (upd G e (.tup [])) p (.tup [.int x, .ref e])) l (.lst [.ref p])) ∧ Nws (upd (upd (upd G e (.tup [])) p (.tup [.int x, .ref e])) l (.lst [.ref p])) [.ref p] [(x, [])] := fun fe fp fl =>
      ⟨((Same.laid fe).step fp).step fl, .cons ⟨_, _, rfl, Same.laid fl _ _ upd_same, _, rfl, Same.laid fl _ _ (Same.laid fp _ _ upd_same)⟩ .nil⟩
    have two : ∀ {G : Hp} {x y : Int} {e p e2 p2 l : Addr}, G e = none → (upd G e (.tup [])) p = none → (upd (upd G e (.tup [])) p (.tup [.int x, .ref e])) e2 = none → (upd (upd (upd G e (.tup [])) p (.tup [.int x, .ref e])) e2 (.tup [.int t])) p2 = none → (upd (upd (upd (upd G e (.tup [])) p (.tup [.int x, .ref e])) e2 (.tup [.int t])) p2 (.tup [.int y, .ref e2])) l = none →
        Same G (upd (upd (upd (upd (upd G e (.tup [])) p (.tup [.int x, .ref e])) e2 (.tup [.int t])) p2 (.tup [.int y, .ref e2])) l (.lst [.ref p, .ref p2])) ∧ Nws (upd (upd (upd (upd (upd G e (.tup [])) p (.tup [.int x, .ref e])) e2 (.tup [.int t])) p2 (.tup [.int y, .ref e2])) l (.lst [.ref p, .ref p2])) [.ref p, .ref p2] [(x, []), (y, [t])] := fun fe fp fe2 fp2 fl =>
      ⟨((((Same.laid fe).step fp).step fe2).step fp2).step fl, .cons ⟨_, _, rfl, Same.laid fl _ _ (Same.laid fp2 _ _ (Same.laid fe2 _ _ upd_same)), _, rfl, Same.laid fl _ _ (Same.laid fp2 _ _ (Same.laid fe2 _ _ (Same.laid fp _ _ upd_same)))⟩ (.cons ⟨_, _, rfl, Same.laid fl _ _ upd_same, _, rfl, Same.laid fl _ _ (Same.laid fp2 _ _ upd_same)⟩ .nil)⟩
    refine ⟨_, rfl, (by show 0 ≤ sizeLine; decide), fun e fe => ⟨z2, fun p fp => ⟨z1, fun l fl => ?_⟩⟩⟩
    obtain ⟨sa, na⟩ := one fe fp fl
    have la : (upd (upd (upd H1 e (.tup [])) p (.tup [.int i, .ref e])) l (.lst [.ref p])) l = some (.lst [.ref p]) := upd_same
    have nl : l ≠ fA := fun z => by have := ((Same.laid (o := .tup []) fe).step (o := .tup [.int i, .ref e]) fp) _ _ ef; rw [← z, fl] at this; cases this
    obtain ⟨G1, eG1⟩ : ∃ G1, upd (upd (upd H1 e (.tup [])) p (.tup [.int i, .ref e])) l (.lst [.ref p]) = G1 := ⟨_, rfl⟩
    rw [eG1] at sa na la ⊢
    refine ⟨fun σ G => ∃ (uA : Addr) (us : List V), σ = [some (.int k), some (.int t), some (.int i), some (.int j), some (.ref fA), some (.ref uA), none, none, none, none, none] ∧ Same H1 G ∧ G uA = some (.lst us) ∧ uA ≠ fA ∧ Nws G us (upsF k t i), ?_, ?_⟩
    · refine ⟨_, rfl, _, rfl, rfl, _, rfl, ite2 (fun c => ?_) (fun c => ?_)⟩
      · have e : i = k := V.int.inj (of_decide_eq_true c)
        refine ⟨_, rfl, _, _, rfl, rfl, (by show 0 ≤ sizeLine; decide), fun e' fe' => ⟨z2, fun p' fp' => ⟨z1, fun l' fl' => ?_⟩⟩⟩
        obtain ⟨sb, nb⟩ := one fe' fp' fl'
        refine ⟨l', _, rfl, sa.trans sb, upd_same, fun z => ?_, ?_⟩
        · have := ((Same.laid (o := .tup []) fe').step (o := .tup [.int (k + 1), .ref e']) fp') _ _ (sa _ _ ef); rw [← z, fl'] at this; cases this
        · unfold upsF; rw [if_pos e]; exact nb
      · have ne : i ≠ k := fun z => c (decide_eq_true (congrArg V.int z))
        refine ⟨_, rfl, _, rfl, _, _, rfl, rfl, rfl, _, rfl, ite2 (fun c => ?_) (fun c => ?_)⟩
        · have e : i = k + 1 := V.int.inj (of_decide_eq_true c)
          refine ⟨_, rfl, (by show 0 ≤ sizeLine; decide), fun e' fe' => ⟨z2, fun p' fp' => ⟨_, rfl, _, _, rfl, rfl, _, rfl, z1, fun e2 fe2 => ⟨z2, fun p2 fp2 => ⟨z2, fun l' fl' => ?_⟩⟩⟩⟩⟩
          obtain ⟨sb, nb⟩ := two fe' fp' fe2 fp2 fl'
          refine ⟨l', _, rfl, sa.trans sb, upd_same, fun z => ?_, ?_⟩
          · have := ((((Same.laid (o := .tup []) fe').step (o := .tup [.int k, .ref e']) fp').step (o := .tup [.int t]) fe2).step (o := .tup [.int (k + 1), .ref e2]) fp2) _ _ (sa _ _ ef); rw [← z, fl'] at this; cases this
          · unfold upsF; rw [if_neg ne, if_pos e]; exact nb
        · have ne2 : i ≠ k + 1 := fun z => c (decide_eq_true (congrArg V.int z))
          refine ⟨l, _, rfl, sa, la, nl, ?_⟩
          unfold upsF; rw [if_neg ne, if_neg ne2]; exact na
    rintro σ G2 ⟨uA, us, rfl, s2, eu, nu, wu⟩
    refine ⟨_, rfl, (by show 0 ≤ sizeLine; decide), fun e fe => ⟨z2, fun p fp => ⟨z1, fun l fl => ?_⟩⟩⟩
    obtain ⟨sa', na'⟩ := one fe fp fl
    have la' : (upd (upd (upd G2 e (.tup [])) p (.tup [.int j, .ref e])) l (.lst [.ref p])) l = some (.lst [.ref p]) := upd_same
    have nl' : l ≠ fA := fun z => by have := ((Same.laid (o := .tup []) fe).step (o := .tup [.int j, .ref e]) fp) _ _ (s2 _ _ ef); rw [← z, fl] at this; cases this
    obtain ⟨G3, eG3⟩ : ∃ G3, upd (upd (upd G2 e (.tup [])) p (.tup [.int j, .ref e])) l (.lst [.ref p]) = G3 := ⟨_, rfl⟩
    rw [eG3] at sa' na' la' ⊢
    refine ⟨fun σ G => ∃ (dA : Addr) (ds : List V), σ = [some (.int k), some (.int t), some (.int i), some (.int j), some (.ref fA), some (.ref uA), some (.ref dA), none, none, none, none] ∧ Same G2 G ∧ G dA = some (.lst ds) ∧ dA ≠ fA ∧ Nws G ds (dwnF k t j), ?_, ?_⟩
    · refine ⟨_, rfl, _, rfl, _, _, rfl, rfl, rfl, _, rfl, ite2 (fun c => ?_) (fun c => ?_)⟩
      · have e : j = k + 1 := V.int.inj (of_decide_eq_true c)
        refine ⟨_, rfl, (by show 0 ≤ sizeLine; decide), fun e' fe' => ⟨z2, fun p' fp' => ⟨z1, fun l' fl' => ?_⟩⟩⟩
        obtain ⟨sb, nb⟩ := one fe' fp' fl'
        refine ⟨l', _, rfl, sa'.trans sb, upd_same, fun z => ?_, ?_⟩
        · have := ((Same.laid (o := .tup []) fe').step (o := .tup [.int k, .ref e']) fp') _ _ (sa' _ _ (s2 _ _ ef)); rw [← z, fl'] at this; cases this
        · unfold dwnF; rw [if_pos e]; exact nb
      · have ne : j ≠ k + 1 := fun z => c (decide_eq_true (congrArg V.int z))
        refine ⟨_, rfl, _, rfl, rfl, _, rfl, ite2 (fun c => ?_) (fun c => ?_)⟩
        · have e : j = k := V.int.inj (of_decide_eq_true c)
          refine ⟨_, rfl, _, _, rfl, rfl, (by show 0 ≤ sizeLine; decide), fun e' fe' => ⟨z2, fun p' fp' => ⟨_, rfl, _, rfl, z1, fun e2 fe2 => ⟨z2, fun p2 fp2 => ⟨z2, fun l' fl' => ?_⟩⟩⟩⟩⟩
          obtain ⟨sb, nb⟩ := two fe' fp' fe2 fp2 fl'
          refine ⟨l', _, rfl, sa'.trans sb, upd_same, fun z => ?_, ?_⟩
          · have := ((((Same.laid (o := .tup []) fe').step (o := .tup [.int (k + 1), .ref e']) fp').step (o := .tup [.int t]) fe2).step (o := .tup [.int k, .ref e2]) fp2) _ _ (sa' _ _ (s2 _ _ ef)); rw [← z, fl'] at this; cases this
          · unfold dwnF; rw [if_neg ne, if_pos e]; exact nb
        · have ne2 : j ≠ k := fun z => c (decide_eq_true (congrArg V.int z))
          refine ⟨l, _, rfl, sa', la', nl', ?_⟩
          unfold dwnF; rw [if_neg ne, if_neg ne2]; exact na'
    rintro σ G4 ⟨dA, ds, rfl, s4, ed, nd, wd⟩
    have ef4 : G4 fA = some (.lst []) := s4 _ _ (s2 _ _ ef)
    have eu4 := s4 _ _ eu
    have wu4 := wu.same s4
    have S4 : Same H G4 := (s1.trans s2).trans s4
    refine ⟨_, rfl, uA, rfl, ⟨_, SqL.of eu4⟩, for_list (K := K) (a := uA) (xs := us) (fun a σ G => ∃ (v7 v8 v9 v10 : Option V) (fs : List V), σ = [some (.int k), some (.int t), some (.int i), some (.int j), some (.ref fA), some (.ref uA), some (.ref dA), v7, v8, v9, v10] ∧ Frm fA G4 G ∧ G fA = some (.lst fs) ∧ Quads G fs (((upsF k t i).take a).flatMap fun u => rowF u (dwnF k t j)) ∧ fs.length ≤ 2 * a)
      ⟨none, none, none, none, [], rfl, Frm.refl _ _, ef4, .nil, Nat.le_refl _⟩ (fun a σ G _ ⟨_, _, _, _, _, _, fr, _⟩ => SqL.of (fr _ _ eu4 nu)) ?_ ?_⟩
    · rintro a x σ G hx ⟨v7, v8, v9, v10, fs, rfl, fr, efs, qs, lf⟩
      obtain ⟨u, hu, p, y, rfl, ep, wy⟩ := pair_get wu4 hx
      have tl4 : ∀ t, G4 fA ≠ some (.tup t) := fun t z => by rw [ef4] at z; cases z
      have ha := (List.getElem?_eq_some_iff.mp hu).1
      have hl2 := ups_len k t i
      refine ⟨p, _, rfl, SqT.of (fr.tups tl4 _ _ ep), rfl, _, _, rfl, _, _, rfl, rfl, ?_⟩
      refine ⟨_, rfl, dA, rfl, ⟨_, SqL.of (fr _ _ ed nd)⟩, for_list (K := K) (a := dA) (xs := ds) (fun b σ G => ∃ (v9 v10 : Option V) (fs : List V), σ = [some (.int k), some (.int t), some (.int i), some (.int j), some (.ref fA), some (.ref uA), some (.ref dA), some (.int u.1), some y, v9, v10] ∧ Frm fA G4 G ∧ G fA = some (.lst fs) ∧ Quads G fs ((((upsF k t i).take a).flatMap fun u => rowF u (dwnF k t j)) ++ rowF u ((dwnF k t j).take b)) ∧ fs.length ≤ 2 * a + b)
        ⟨_, _, fs, rfl, fr, efs, by simpa [rowF] using qs, by omega⟩ (fun b σ G _ ⟨_, _, _, _, fr, _⟩ => SqL.of (fr _ _ ed nd)) ?_ ?_⟩
      · rintro b x' σ G' hx' ⟨v9, v10, fs', rfl, fr', efs', qs', lf'⟩
        obtain ⟨d, hd, p', y', rfl, ep', wy'⟩ := pair_get wd hx'
        have hb := (List.getElem?_eq_some_iff.mp hd).1
        have hd2 := dwn_len k t j
        refine ⟨p', _, rfl, SqT.of (fr'.tups tl4 _ _ ep'), rfl, _, _, rfl, _, _, rfl, rfl, ?_⟩
        refine ⟨_, rfl, _, rfl, _, _, rfl, rfl, _, rfl, ite2 (fun c => ?_) (fun c => ?_)⟩
        · have c' : u.1 < d.1 := of_decide_eq_true c
          refine ⟨_, rfl, .inl ⟨rfl, _, SqL.of efs'⟩, _, rfl, _, rfl, _, rfl, _, rfl, (by show 4 ≤ sizeLine; decide), fun q fq => ?_⟩
          have eq1 : (upd G' q (.tup [.int u.1, .int d.1, y, y'])) fA = some (.lst fs') := Same.laid fq _ _ efs'
          refine ⟨fA, _, _, rfl, rfl, eq1, by rw [sizeLine_eq]; omega, ?_⟩
          have tl : ∀ t, (upd G' q (.tup [.int u.1, .int d.1, y, y'])) fA ≠ some (.tup t) := fun t z => by rw [eq1] at z; cases z
          have fr2 : Frm fA G4 (upd (upd G' q (.tup [.int u.1, .int d.1, y, y'])) fA (.lst (fs' ++ [.ref q]))) := (fr'.trans (Same.laid fq).frm).trans Frm.upd
          have k1 : ∀ t p, (upd G' q (.tup [.int u.1, .int d.1, y, y'])) t = some (.tup p) → (upd (upd G' q (.tup [.int u.1, .int d.1, y, y'])) fA (.lst (fs' ++ [.ref q]))) t = some (.tup p) := Frm.upd.tups tl
          refine ⟨_, _, fs' ++ [.ref q], rfl, fr2, upd_same, ?_, by rw [List.length_append]; simp; omega⟩
          have e : rowF u ((dwnF k t j).take (b + 1)) = rowF u ((dwnF k t j).take b) ++ [(u.1, d.1, u.2, d.2)] := by
            unfold rowF
            rw [List.take_add_one, hd, List.filter_append, List.map_append]
            simp [c']
          rw [e, ← List.append_assoc]
          exact Paired.snoc ((qs'.same (Same.laid fq)).mono k1) ⟨q, y, y', rfl, k1 _ _ upd_same, wy.mono (fr2.tups tl4), wy'.mono (fr2.tups tl4)⟩
        · have c' : ¬ u.1 < d.1 := fun z => c (decide_eq_true z)
          refine ⟨_, _, fs', rfl, fr', efs', ?_, by omega⟩
          have e : rowF u ((dwnF k t j).take (b + 1)) = rowF u ((dwnF k t j).take b) := by
            unfold rowF
            rw [List.take_add_one, hd, List.filter_append, List.map_append]
            simp [c']
          rw [e]; exact qs'
      · rintro σ G' ⟨v9, v10, fs', rfl, fr', efs', qs', lf'⟩
        have ld : ds.length = (dwnF k t j).length := Paired.length wd
        have hd2 := dwn_len k t j
        rw [List.take_of_length_le (l := dwnF k t j) (by omega)] at qs'
        refine ⟨_, _, _, _, fs', rfl, fr', efs', ?_, by omega⟩
        rw [List.take_add_one, hu, List.flatMap_append]
        simpa using qs'
    · rintro σ G ⟨v7, v8, v9, v10, fs, rfl, fr, efs, qs, lf⟩
      have lu : us.length = (upsF k t i).length := Paired.length wu4
      rw [List.take_of_length_le (by omega)] at qs
      exact ⟨_, rfl, kk fA G fs ffA (fun c o e => fr c o (S4 c o e) (ne_of_none e ffA)) efs qs⟩
end
end Qk17

namespace Qk17
open PySem L2 PyProof.Rows
section
variable {P : Program} {w : World} {K : PySem.W.Frag} {mg : Str → Option Value} {base : Heap}
theorem canon_id {L : WS} (h : SR L) : canon L = L := by
  refine (IsOdd.canon ⟨h, fun y => ?_⟩).symm
  have nd : L.Nodup := h.imp fun {a b} lt e => by rw [e, lex_irr] at lt; cases lt
  by_cases m : y ∈ L
  · exact ⟨fun _ => by have h1 := List.nodup_iff_count.mp nd y; have h2 := List.count_pos_iff.mpr m; omega, fun _ => m⟩
  · refine ⟨fun z => absurd z m, fun z => ?_⟩
    rw [List.count_eq_zero.mpr m] at z; cases z
theorem sr_run (ls : List (Str × Int)) : ∀ i j, SR (tF ls i j) := by
  have key : ∀ (ls : List (Str × Int)) (s : Nat × (Nat → Nat → WS) × Int), (∀ i j, SR (s.2.1 i j)) → ∀ i j, SR ((ls.foldl stT s).2.1 i j) := by
    intro ls
    induction ls with
    | nil => intro s h; exact h
    | cons p ls ih =>
      intro s h
      rw [List.foldl_cons]
      refine ih _ fun i j => ?_
      show SR (nxF p.1 p.2.toNat s.2.2 s.2.1 i j)
      have pl : ∀ A B, SR (plusF A B) := fun A B => (canon_odd _).rise
      unfold nxF
      split
      · unfold bornF
        repeat' split
        all_goals first | exact h _ _ | exact List.pairwise_singleton _ _ | exact List.Pairwise.nil
      · split
        · unfold crossF
          repeat' split
          all_goals first | exact h _ _ | exact pl _ _ | exact List.Pairwise.nil
        · unfold endF
          split
          · exact pl _ _
          · exact h _ _
  exact key ls _ fun i j => List.Pairwise.nil
/-! ### what walks to the left come to -/
theorem catW_ok {G : Hp} {x y : V} {a b : List Int} {Q : VK} (hx : Word G x a) (hy : Word G y b) (hz : a.length + b.length ≤ sizeLine) (k : ∀ v G', Same G G' → Word G' v (a ++ b) → Q v G') : rCatW x y G Q :=
  ⟨a, b, hx, hy, hz, fun e => k y G (Same.refl _) (by rw [e]; exact hy), fun e => k x G (Same.refl _) (by rw [e, List.append_nil]; exact hx), fun p fp => k _ _ (Same.laid fp) ⟨p, rfl, upd_same⟩⟩
theorem canon_par (L : WS) : Par (canon L) L := (canon_odd L).self
theorem par_plus (A B : WS) : Par (plusF A B) (A ++ B) := canon_par _
theorem par_times (A B : WS) : Par (timesF A B) (prd A B) := canon_par _
theorem par_flat {α : Type} {f g h : α → WS} : ∀ {A : List α}, (∀ q ∈ A, Par (f q) (g q ++ h q)) → Par (A.flatMap f) (A.flatMap g ++ A.flatMap h)
  | [], _ => Par.refl _
  | q :: A, H => fun w => by
    have h1 := H q List.mem_cons_self w
    have h2 := par_flat (A := A) (fun r hr => H r (List.mem_cons_of_mem _ hr)) w
    rw [List.count_append] at h1 h2
    rw [List.flatMap_cons, List.flatMap_cons, List.flatMap_cons]
    rw [List.count_append, List.count_append, List.count_append, List.count_append]
    omega
def sb (F : Nat → Nat → WS) (q : Qd) : WS := (F q.1.toNat q.2.1.toNat).map fun w => q.2.2.1 ++ w ++ q.2.2.2
theorem sb_mk (F : Nat → Nat → WS) {u l : Int} {i j : Nat} (a b : List Int) (hu : u = (i : Int)) (hl : l = (j : Int)) : sb F (u, l, a, b) = (F i j).map fun w => a ++ w ++ b := by
  subst hu hl; rfl
theorem map_nil (L : WS) : (L.map fun w => [] ++ w ++ []) = L := by
  have : (fun w : List Int => [] ++ w ++ []) = id := by funext w; simp
  rw [this, List.map_id]
theorem prd_one (t : Int) (L : WS) : prd [[t]] L = L.map fun w => [t] ++ w ++ [] := by simp [prd]
theorem prd_last (t : Int) : ∀ L : WS, prd L [[t]] = L.map fun w => [] ++ w ++ [t]
  | [] => rfl
  | u :: L => by rw [prd_cons, prd_last t L]; simp
theorem cross_par {k n : Nat} {t : Int} {F : Nat → Nat → WS} {i j : Nat} (hij : i < j) (ne : ¬ (i = k ∧ j = k + 1)) : Par (crossF k t F i j) ((stepF k t i j).flatMap (sb F)) := by
  have sng : ∀ (u l : Int) (a b : Nat), u = (a : Int) → l = (b : Int) → ([(u, l, [], [])] : List Qd).flatMap (sb F) = F a b := fun u l a b h1 h2 => by
    rw [List.flatMap_cons, List.flatMap_nil, List.append_nil, sb_mk F [] [] h1 h2, map_nil]
  unfold crossF stepF
  rw [if_neg ne]
  by_cases c1 : i = k
  · have hj : k + 2 ≤ j := by omega
    have e1 : upsF k t i = [((k : Int) + 1, [])] := by unfold upsF; rw [if_pos (by omega)]
    have e2 : dwnF k t j = [((j : Int), [])] := by unfold dwnF; rw [if_neg (by omega), if_neg (by omega)]
    rw [if_pos ⟨c1, hj⟩, e1, e2]
    have e3 : ([((k : Int) + 1, ([] : List Int))] : List (Int × List Int)).flatMap (fun u => rowF u [((j : Int), [])]) = [((k : Int) + 1, (j : Int), [], [])] := by
      simp [rowF, show (k : Int) + 1 < j by omega]
    rw [e3, sng _ _ (k + 1) j (by omega) rfl]
    exact Par.refl _
  · rw [if_neg (fun z => c1 z.1)]
    by_cases c2 : i = k + 1
    · have hj : k + 2 ≤ j := by omega
      have e1 : upsF k t i = [((k : Int), []), ((k : Int) + 1, [t])] := by unfold upsF; rw [if_neg (by omega), if_pos (by omega)]
      have e2 : dwnF k t j = [((j : Int), [])] := by unfold dwnF; rw [if_neg (by omega), if_neg (by omega)]
      rw [if_pos ⟨c2, hj⟩, e1, e2]
      have e3 : ([((k : Int), ([] : List Int)), ((k : Int) + 1, [t])] : List (Int × List Int)).flatMap (fun u => rowF u [((j : Int), [])]) = [((k : Int), (j : Int), [], []), ((k : Int) + 1, (j : Int), [t], [])] := by
        simp [rowF, show (k : Int) < j by omega, show (k : Int) + 1 < j by omega]
      rw [e3, List.flatMap_cons, List.flatMap_cons, List.flatMap_nil, List.append_nil, sb_mk F [] [] rfl rfl, sb_mk F (i := k + 1) [t] [] (by omega) rfl, map_nil, ← prd_one]
      exact (par_plus _ _).trans (Par.app (Par.refl _) (par_times _ _))
    · rw [if_neg (fun z => c2 z.1)]
      have e1 : upsF k t i = [((i : Int), [])] := by unfold upsF; rw [if_neg (by omega), if_neg (by omega)]
      by_cases c3 : i < k ∧ j = k + 1
      · have e2 : dwnF k t j = [((k : Int), [])] := by unfold dwnF; rw [if_pos (by omega)]
        rw [if_pos c3, e1, e2]
        have e3 : ([((i : Int), ([] : List Int))] : List (Int × List Int)).flatMap (fun u => rowF u [((k : Int), [])]) = [((i : Int), (k : Int), [], [])] := by
          simp [rowF, c3.1]
        rw [e3, sng _ _ i k rfl rfl]
        exact Par.refl _
      · rw [if_neg c3]
        by_cases c4 : i < k ∧ j = k
        · have e2 : dwnF k t j = [((k : Int) + 1, []), ((k : Int), [t])] := by unfold dwnF; rw [if_neg (by omega), if_pos (by omega)]
          rw [if_pos c4, e1, e2]
          have e3 : ([((i : Int), ([] : List Int))] : List (Int × List Int)).flatMap (fun u => rowF u [((k : Int) + 1, []), ((k : Int), [t])]) = [((i : Int), (k : Int) + 1, [], []), ((i : Int), (k : Int), [], [t])] := by
            simp [rowF, c4.1, show (i : Int) < k + 1 by omega]
          rw [e3, List.flatMap_cons, List.flatMap_cons, List.flatMap_nil, List.append_nil, sb_mk F (j := k + 1) [] [] rfl (by omega), sb_mk F [] [t] rfl rfl, map_nil, ← prd_last]
          exact (par_plus _ _).trans (Par.app (Par.refl _) (par_times _ _))
        · rw [if_neg c4]
          have e2 : dwnF k t j = [((j : Int), [])] := by unfold dwnF; rw [if_neg (by omega), if_neg (by omega)]
          rw [e1, e2]
          have e3 : ([((i : Int), ([] : List Int))] : List (Int × List Int)).flatMap (fun u => rowF u [((j : Int), [])]) = [((i : Int), (j : Int), [], [])] := by
            simp [rowF, hij]
          rw [e3, sng _ _ i j rfl rfl]
          exact Par.refl _
/-- what a pair comes to at a letter -/
def nxP (kd : Str) (k t : Int) (q : Qd) : List Qd :=
  if kd = "cross" then (if q.1 = k ∧ q.2.1 = k + 1 then [] else (stepF k t q.1 q.2.1).map fun s => (s.1, s.2.1, q.2.2.1 ++ s.2.2.1, s.2.2.2 ++ q.2.2.2))
  else if q.1 = k ∧ q.2.1 = k + 1 then [] else if q.1 ≠ k ∧ q.1 ≠ k + 1 ∧ q.2.1 ≠ k ∧ q.2.1 ≠ k + 1 then [(q.1 - 2 * (if q.1 > k then 1 else 0), q.2.1 - 2 * (if q.2.1 > k then 1 else 0), q.2.2.1, q.2.2.2)] else []
def nxW (kd : Str) (k : Int) (q : Qd) : WS := if kd = "cross" then [] else if q.1 = k ∧ q.2.1 = k + 1 then [q.2.2.1 ++ q.2.2.2] else []
theorem nxP_born {k t : Int} {q : Qd} : nxP "born" k t q = if q.1 = k ∧ q.2.1 = k + 1 then [] else if q.1 ≠ k ∧ q.1 ≠ k + 1 ∧ q.2.1 ≠ k ∧ q.2.1 ≠ k + 1 then [(q.1 - 2 * (if q.1 > k then 1 else 0), q.2.1 - 2 * (if q.2.1 > k then 1 else 0), q.2.2.1, q.2.2.2)] else [] := if_neg (by decide)
theorem nxP_cross {k t : Int} {q : Qd} : nxP "cross" k t q = if q.1 = k ∧ q.2.1 = k + 1 then [] else (stepF k t q.1 q.2.1).map fun s => (s.1, s.2.1, q.2.2.1 ++ s.2.2.1, s.2.2.2 ++ q.2.2.2) := if_pos rfl
theorem nxW_born {k : Int} {q : Qd} : nxW "born" k q = if q.1 = k ∧ q.2.1 = k + 1 then [q.2.2.1 ++ q.2.2.2] else [] := if_neg (by decide)
theorem nxW_cross {k : Int} {q : Qd} : nxW "cross" k q = [] := if_pos rfl
theorem nxF_born {k : Nat} {t : Int} {F : Nat → Nat → WS} : nxF "born" k t F = bornF k F := if_pos rfl
theorem nxF_cross {k : Nat} {t : Int} {F : Nat → Nat → WS} : nxF "cross" k t F = crossF k t F := by unfold nxF; rw [if_neg (by decide), if_pos rfl]
/-- a pair that stands within n strands -/
structure QIn (n s : Nat) (q : Qd) : Prop where
  lo : 0 ≤ q.1
  lt : q.1 < q.2.1
  hi : q.2.1 < (n : Int)
  la : q.2.2.1.length ≤ s
  lb : q.2.2.2.length ≤ s
theorem app3_inj (a b : List Int) : ∀ x y : List Int, a ++ x ++ b = a ++ y ++ b → x = y := fun x y h => List.append_cancel_left (List.append_cancel_right h)
theorem nx_par {kd : Str} {k n : Nat} {t : Int} {F : Nat → Nat → WS} {q : Qd} {s : Nat} (hk : kd = "born" ∨ kd = "cross") (x : QIn n s q) : Par (sb (nxF kd k t F) q) (nxW kd k q ++ (nxP kd k t q).flatMap (sb F)) := by
  obtain ⟨u, l, a, b⟩ := q
  obtain ⟨lo, lt, hi, _, _⟩ := x
  dsimp only at lo lt hi
  obtain ⟨i, rfl⟩ := Int.eq_ofNat_of_zero_le lo
  obtain ⟨j, rfl⟩ := Int.eq_ofNat_of_zero_le (show 0 ≤ l by omega)
  rw [sb_mk _ a b rfl rfl]
  rcases hk with rfl | rfl
  · rw [nxF_born, nxW_born, nxP_born]
    dsimp only
    unfold bornF
    by_cases c : i = k ∧ j = k + 1
    · have c' : (i : Int) = k ∧ (j : Int) = k + 1 := by omega
      rw [if_pos c, if_pos c', if_pos c']
      simp
      exact Par.refl _
    · have c' : ¬ ((i : Int) = k ∧ (j : Int) = k + 1) := by omega
      rw [if_neg c, if_neg c', if_neg c']
      by_cases c2 : i = k ∨ i = k + 1 ∨ j = k ∨ j = k + 1
      · have c2' : ¬ ((i : Int) ≠ k ∧ (i : Int) ≠ k + 1 ∧ (j : Int) ≠ k ∧ (j : Int) ≠ k + 1) := by omega
        rw [if_pos c2, if_neg c2']
        exact Par.refl _
      · have c2' : (i : Int) ≠ k ∧ (i : Int) ≠ k + 1 ∧ (j : Int) ≠ k ∧ (j : Int) ≠ k + 1 := by omega
        rw [if_neg c2, if_pos c2']
        rw [List.nil_append, List.flatMap_cons, List.flatMap_nil, List.append_nil]
        rw [sb_mk F (i := if i < k then i else i - 2) (j := if j < k then j else j - 2) a b (by split <;> split <;> omega) (by split <;> split <;> omega)]
        exact Par.refl _
  · rw [nxF_cross, nxW_cross, nxP_cross]
    dsimp only
    rw [List.nil_append]
    by_cases c : i = k ∧ j = k + 1
    · have c' : (i : Int) = k ∧ (j : Int) = k + 1 := by omega
      rw [if_pos c']
      unfold crossF
      rw [if_pos c]
      exact Par.refl _
    · have c' : ¬ ((i : Int) = k ∧ (j : Int) = k + 1) := by omega
      rw [if_neg c']
      have p := par_map (app3_inj a b) (cross_par (t := t) (F := F) (n := n) (show i < j by omega) c)
      refine p.trans ?_
      have e : ((stepF k t i j).flatMap (sb F)).map (fun w => a ++ w ++ b) = ((stepF k t i j).map fun s => (s.1, s.2.1, a ++ s.2.2.1, s.2.2.2 ++ b)).flatMap (sb F) := by
        rw [List.map_flatMap, List.flatMap_map]
        congr 1
        funext s
        unfold sb
        rw [List.map_map]
        congr 1
        funext w
        simp
      rw [e]
      exact Par.refl _
theorem step_in {k n : Nat} {t : Int} {i j : Int} {s : Qd} (hk : k + 1 < n) (h0 : 0 ≤ i) (h1 : j < (n : Int)) (h : s ∈ stepF k t i j) : QIn n 1 s := by
  unfold stepF at h
  obtain ⟨u, hu, hs⟩ := List.mem_flatMap.mp h
  unfold rowF at hs
  obtain ⟨d, hd, rfl⟩ := List.mem_map.mp hs
  obtain ⟨hd, hlt⟩ := List.mem_filter.mp hd
  have hlt : u.1 < d.1 := of_decide_eq_true hlt
  have au : 0 ≤ u.1 ∧ u.2.length ≤ 1 := by
    unfold upsF at hu
    split at hu
    · rw [List.mem_singleton.mp hu]; exact ⟨by show (0 : Int) ≤ k + 1; omega, by simp⟩
    · split at hu
      · rcases List.mem_cons.mp hu with z | z
        · rw [z]; exact ⟨by show (0 : Int) ≤ k; omega, by simp⟩
        · rw [List.mem_singleton.mp z]; exact ⟨by show (0 : Int) ≤ k + 1; omega, by simp⟩
      · rw [List.mem_singleton.mp hu]; exact ⟨h0, by simp⟩
  have ad : d.1 < (n : Int) ∧ d.2.length ≤ 1 := by
    unfold dwnF at hd
    split at hd
    · rw [List.mem_singleton.mp hd]; exact ⟨by show (k : Int) < n; omega, by simp⟩
    · split at hd
      · rcases List.mem_cons.mp hd with z | z
        · rw [z]; exact ⟨by show (k : Int) + 1 < n; omega, by simp⟩
        · rw [List.mem_singleton.mp z]; exact ⟨by show (k : Int) < n; omega, by simp⟩
      · rw [List.mem_singleton.mp hd]; exact ⟨h1, by simp⟩
  exact ⟨au.1, hlt, ad.1, au.2, ad.2⟩
theorem step_len {k n : Nat} {t : Int} {i j : Int} (hij : i < j) : (stepF k t i j).length ≤ 2 := by
  unfold stepF upsF dwnF rowF
  repeat' split
  all_goals (first | (simp; done) | (exfalso; omega) | (simp only [List.flatMap_cons, List.flatMap_nil, List.length_append, List.length_map, List.length_nil]; refine Nat.le_trans (Nat.add_le_add (List.length_filter_le _ _) (Nat.add_le_add (List.length_filter_le _ _) (Nat.le_refl _))) (by simp)) | (simp only [List.flatMap_cons, List.flatMap_nil, List.length_append, List.length_map, List.length_nil]; refine Nat.le_trans (Nat.add_le_add (List.length_filter_le _ _) (Nat.le_refl _)) (by simp)))
theorem nx_in {kd : Str} {k n s : Nat} {t : Int} {q r : Qd} (hf : Fit kd k n) (hk : kd = "born" ∨ kd = "cross") (x : QIn (nxN kd n) s q) (h : r ∈ nxP kd k t q) : QIn n (s + 1) r := by
  obtain ⟨lo, lt, hi, la, lb⟩ := x
  rcases hk with rfl | rfl
  · rw [nxP_born] at h
    have hn : nxN "born" n = n + 2 := if_pos rfl
    rw [hn] at hi
    have hkn : k ≤ n := by
      rcases hf with ⟨_, z⟩ | ⟨z, _⟩ | ⟨z, _⟩
      · exact z
      · exact absurd z (by decide)
      · exact absurd z (by decide)
    split at h
    · cases h
    · split at h
      · rename_i c1 c2
        rw [List.mem_singleton.mp h]
        exact ⟨by show (0 : Int) ≤ q.1 - _; split <;> omega, by show q.1 - _ < q.2.1 - _; split <;> split <;> omega, by show q.2.1 - _ < _; split <;> omega, by show q.2.2.1.length ≤ _; omega, by show q.2.2.2.length ≤ _; omega⟩
      · cases h
  · rw [nxP_cross] at h
    have hn : nxN "cross" n = n := by unfold nxN; rw [if_neg (by decide), if_pos rfl]
    rw [hn] at hi
    have hkn : k + 1 < n := by
      rcases hf with ⟨z, _⟩ | ⟨_, z⟩ | ⟨z, _⟩
      · exact absurd z (by decide)
      · exact z
      · exact absurd z (by decide)
    split at h
    · cases h
    · obtain ⟨s', hs, rfl⟩ := List.mem_map.mp h
      have y := step_in hkn lo hi hs
      exact ⟨y.lo, y.lt, y.hi, by show (q.2.2.1 ++ s'.2.2.1).length ≤ _; rw [List.length_append]; have := y.la; omega, by show (s'.2.2.2 ++ q.2.2.2).length ≤ _; rw [List.length_append]; have := y.lb; omega⟩
theorem nx_len {kd : Str} {k : Nat} {t : Int} {q : Qd} (lt : q.1 < q.2.1) : (nxW kd k q).length + (nxP kd k t q).length ≤ 2 := by
  unfold nxW nxP
  by_cases e : kd = "cross"
  · rw [if_pos e, if_pos e]
    split
    · simp
    · rw [List.length_map]; have := step_len (k := k) (n := 0) (t := t) lt; simp; omega
  · rw [if_neg e, if_neg e]
    repeat' split
    all_goals simp
theorem flat_len {A : List Qd} {f : Qd → WS} {g : Qd → List Qd} (h : ∀ q ∈ A, (f q).length + (g q).length ≤ 2) : (A.flatMap f).length + (A.flatMap g).length ≤ 2 * A.length := by
  induction A with
  | nil => simp
  | cons q A ih =>
    have h1 := h q List.mem_cons_self
    have h2 := ih fun r hr => h r (List.mem_cons_of_mem _ hr)
    rw [List.flatMap_cons, List.flatMap_cons, List.length_append, List.length_append, List.length_cons]
    omega
end
end Qk17

namespace Qk17
open PySem L2 PyProof.Rows
section
variable {P : Program} {w : World} {K : PySem.W.Frag} {mg : Str → Option Value} {base : Heap}
theorem inV_no {u k : Int} (h : (!inV (.int u) [.int k, .int (k + 1)]) = true) : u ≠ k ∧ u ≠ k + 1 := by
  have h : inV (.int u) [.int k, .int (k + 1)] = false := by simpa using h
  unfold inV eqV at h
  simp at h
  omega
theorem inV_yes {u k : Int} (h : ¬ (!inV (.int u) [.int k, .int (k + 1)]) = true) : u = k ∨ u = k + 1 := by
  have h : inV (.int u) [.int k, .int (k + 1)] = true := by simpa using h
  unfold inV eqV at h
  simp at h
  omega
theorem upd_tups {G : Hp} {r : Addr} {xs ys : List V} (h : G r = some (.lst xs)) : ∀ t p, G t = some (.tup p) → (upd G r (.lst ys)) t = some (.tup p) := fun t p e => by
  rw [upd_ne (fun z => by rw [z, h] at e; cases e)]; exact e
structure Wst (H G : Hp) (pA wA hA : Addr) (ps ws hs : List V) (P : List Qd) (W : WS) (R : List Qd) : Prop where
  sm : Same H G
  ep : G pA = some (.lst ps)
  qs : Quads G ps P
  ew : G wA = some (.lst ws)
  ww : Words G ws W
  eh : G hA = some (.lst hs)
  qh : Quads G hs R
theorem Wst.same {H G G' : Hp} {pA wA hA : Addr} {ps ws hs : List V} {P : List Qd} {W : WS} {R : List Qd} (x : Wst H G pA wA hA ps ws hs P W R) (s : Same G G') : Wst H G' pA wA hA ps ws hs P W R := ⟨x.sm.trans s, s _ _ x.ep, x.qs.same s, s _ _ x.ew, x.ww.same s, s _ _ x.eh, x.qh.same s⟩
theorem Wst.pushH {H G : Hp} {pA wA hA : Addr} {ps ws hs : List V} {P : List Qd} {W : WS} {R : List Qd} {v : V} {q : Qd} (x : Wst H G pA wA hA ps ws hs P W R) (f : H hA = none) (n1 : pA ≠ hA) (n2 : hA ≠ wA) (h : Quad G v q) : Wst H (upd G hA (.lst (hs ++ [v]))) pA wA hA ps ws (hs ++ [v]) P W (R ++ [q]) := by
  have k := upd_tups (ys := hs ++ [v]) x.eh
  exact ⟨x.sm.put f, by rw [upd_ne n1]; exact x.ep, x.qs.mono k, by rw [upd_ne n2.symm]; exact x.ew, x.ww.mono k, upd_same, Paired.snoc (x.qh.mono k) (h.mono k)⟩
theorem Wst.pushW {H G : Hp} {pA wA hA : Addr} {ps ws hs : List V} {P : List Qd} {W : WS} {R : List Qd} {v : V} {w : List Int} (x : Wst H G pA wA hA ps ws hs P W R) (f : H wA = none) (n1 : pA ≠ wA) (n2 : hA ≠ wA) (h : Word G v w) : Wst H (upd G wA (.lst (ws ++ [v]))) pA wA hA ps (ws ++ [v]) hs P (W ++ [w]) R := by
  have k := upd_tups (ys := ws ++ [v]) x.ew
  exact ⟨x.sm.put f, by rw [upd_ne n1]; exact x.ep, x.qs.mono k, upd_same, Words.snoc (x.ww.mono k) (h.mono k), by rw [upd_ne n2]; exact x.eh, x.qh.mono k⟩
def spWalked : Sp := fun vs H Q _ => ∃ (l : Addr) (xs : List V) (ls : List (Str × Int)) (n : Int) (i j : Nat), vs = [.ref l, .int (i : Int), .int (j : Int)] ∧ H l = some (.lst xs) ∧ LetsV H xs ls ∧ Wk ls n ∧ (∀ p ∈ ls, p.1 ≠ "end") ∧ i < j ∧ j < tN ls ∧ ls.length ≤ 11 ∧ ∀ (p : Addr) (H' : Hp), H p = none → Same H H' → WL H' p (tF ls i j) → Q (.ref p) H'
abbrev s__law_walked : Stmt := top 24
theorem sc__law_walked : FnScope ["_law_letters", "_law_i", "_law_j", "_law_pairs", "_law_words", "_law_t", "_law_word", "_law_k", "_law_ahead", "_law_upper", "_law_lower", "_law_first", "_law_last", "_law_one", "_law_other", "_law_before", "_law_after"] ["_law_letters", "_law_i", "_law_j"] (defScope s__law_walked) := ⟨rfl, rfl, rfl, by decide +kernel, rfl, by decide +kernel, by decide +kernel⟩
theorem ok_walked {f : Addr} {fd : FuncData} (F : Fun K "_law_walked" "_law_walked" s__law_walked f fd) (h__law_steps : Has P w K mg base 1 "_law_steps" ["_law_k", "_law_name", "_law_i", "_law_j"] spSteps) (h__law_odd : Has P w K mg base 1 "_law_odd" ["_law_words"] spOdd) (b_range : mg "range" = none) (b_len : mg "len" = none) (b_int : mg "int" = none) : FnOk P w K mg base CX0 2 f fd ["_law_letters", "_law_i", "_law_j"] spWalked := by
  refine F.ok sc__law_walked (fun vs H Q E h => ?_) (fun cdv A outer s H vs Q E hr h => ?_)
  · obtain ⟨l, xs, ls, n, i, j, rfl, _⟩ := h
    rfl
  · obtain ⟨l, xs, ls, n, i, j, rfl, hl, hL, hW, noE, hij, hj, hlen, k⟩ := h
    refine ⟨_, (pss_cons (ps_set (i := 3) sc__law_walked.nd rfl (Or.inl rfl) (pe_lst (pa_cons (pe_tup (pa_cons (pv 1) (pa_cons (pv 2) (pa_cons (pe_tup pa_nil) (pa_cons (pe_tup pa_nil) pa_nil))))) pa_nil)))
      (pss_cons (ps_set (i := 4) sc__law_walked.nd rfl (Or.inl rfl) (pe_lst pa_nil))
      (pss_cons (ps_for PassesOwn.never rfl (pi_rangeD (by rfl) b_range (pa_cons (pe_op op_sub (pe_callB (call_lenK (K := K) rfl) (by rfl) b_len PySem.boot_len (pa_cons (pv 0) pa_nil)) pe_int) (pa_cons (pe_un un_neg pe_int) (pa_cons (pe_un un_neg pe_int) pa_nil)))) (pg_name (i := 5) sc__law_walked.nd rfl (Or.inl rfl)) (pss_cons (ps_asg (pe_ix (ix_listK (K := K) rfl) (pv 0) (pv 5) (fun _ _ => rfl)) (pg_tupK (K := K) (n := 2) rfl rfl (pgs_cons (pg_name (i := 6) sc__law_walked.nd rfl (Or.inl rfl)) (pgs_cons (pg_name (i := 7) sc__law_walked.nd rfl (Or.inl rfl)) pgs_nil))))
      (pss_cons (ps_set (i := 8) sc__law_walked.nd rfl (Or.inl rfl) (pe_lst pa_nil))
      (pss_cons (ps_for PassesOwn.never rfl (pi_listK (K := K) rfl (pv 3)) (pg_tupK (K := K) (n := 4) rfl rfl (pgs_cons (pg_name (i := 9) sc__law_walked.nd rfl (Or.inl rfl)) (pgs_cons (pg_name (i := 10) sc__law_walked.nd rfl (Or.inl rfl)) (pgs_cons (pg_name (i := 11) sc__law_walked.nd rfl (Or.inl rfl)) (pgs_cons (pg_name (i := 12) sc__law_walked.nd rfl (Or.inl rfl)) pgs_nil))))) (pss_one (ps_if (PW.pt (pw_and (pt_cmpR op_eq (pv 6) pe_str (nomark _)) (pw_and1 (pt_cmpR (op_neW hr.units) (pe_tup (pa_cons (pv 9) (pa_cons (pv 10) pa_nil))) (pe_tup (pa_cons (pv 7) (pa_cons (pe_op op_add (pv 7) pe_int) pa_nil))) (nomark _))))) (pss_one (ps_for PassesOwn.never rfl (pi_listK (K := K) rfl (pe_has h__law_steps (hr.mono (by decide)) (pa_cons (pv 7) (pa_cons (pv 5) (pa_cons (pv 9) (pa_cons (pv 10) pa_nil)))))) (pg_tupK (K := K) (n := 4) rfl rfl (pgs_cons (pg_name (i := 13) sc__law_walked.nd rfl (Or.inl rfl)) (pgs_cons (pg_name (i := 14) sc__law_walked.nd rfl (Or.inl rfl)) (pgs_cons (pg_name (i := 15) sc__law_walked.nd rfl (Or.inl rfl)) (pgs_cons (pg_name (i := 16) sc__law_walked.nd rfl (Or.inl rfl)) pgs_nil))))) (pss_one (ps_expr (pe_bmK (K := K) rfl (pe_bm PySem.F.plainAttrs_list PySem.F.slot_list_append PySem.F.type_list_append mt_append (pv 8) (pa_cons (pe_tup (pa_cons (pv 13) (pa_cons (pv 14) (pa_cons (pe_op op_catW (pv 11) (pv 15)) (pa_cons (pe_op op_catW (pv 16) (pv 12)) pa_nil))))) pa_nil))))))) (pss_one (ps_if (PW.pt (pw_and (pt_cmpR op_eq (pv 6) pe_str (nomark _)) (pw_and1 (pt_cmpR (op_eqW hr.units) (pe_tup (pa_cons (pv 9) (pa_cons (pv 10) pa_nil))) (pe_tup (pa_cons (pv 7) (pa_cons (pe_op op_add (pv 7) pe_int) pa_nil))) (nomark _))))) (pss_one (ps_expr (pe_bmK (K := K) rfl (pe_bm PySem.F.plainAttrs_list PySem.F.slot_list_append PySem.F.type_list_append mt_append (pv 4) (pa_cons (pe_op op_catW (pv 11) (pv 12)) pa_nil))))) (pss_one (ps_if (PW.pt (pw_and (pt_cmpR op_eq (pv 6) pe_str (nomark _)) (pw_and (pt_cmpR (op_notIn_seqK (K := K) rfl) (pv 9) (pe_tup (pa_cons (pv 7) (pa_cons (pe_op op_add (pv 7) pe_int) pa_nil))) rfl) (pw_and1 (pt_cmpR (op_notIn_seqK (K := K) rfl) (pv 10) (pe_tup (pa_cons (pv 7) (pa_cons (pe_op op_add (pv 7) pe_int) pa_nil))) rfl))))) (pss_one (ps_expr (pe_bmK (K := K) rfl (pe_bm PySem.F.plainAttrs_list PySem.F.slot_list_append PySem.F.type_list_append mt_append (pv 8) (pa_cons (pe_tup (pa_cons (pe_op op_sub (pv 9) (pe_op op_mul pe_int (pe_callTy call_int1 (by rfl) b_int boot_int (pa_cons (pe_cmpR op_gt (pv 9) (pv 7) (nomark _)) pa_nil)))) (pa_cons (pe_op op_sub (pv 10) (pe_op op_mul pe_int (pe_callTy call_int1 (by rfl) b_int boot_int (pa_cons (pe_cmpR op_gt (pv 10) (pv 7) (nomark _)) pa_nil)))) (pa_cons (pv 11) (pa_cons (pv 12) pa_nil))))) pa_nil))))) pss_nil)))))))
      (pss_one (ps_set (i := 3) sc__law_walked.nd rfl (Or.inl rfl) (pv 8)))))))
      (pss_one (ps_ret (pe_has h__law_odd (hr.mono (by decide)) (pa_cons (pv 4) pa_nil))))))), ?_⟩
    have lx := hL.len
    have z0 : 0 ≤ sizeLine := by decide
    have z1 : 1 ≤ sizeLine := by decide
    refine ⟨_, rfl, _, rfl, z0, fun e1 fe1 => ⟨z0, fun e2 fe2 => ⟨(by show 4 ≤ sizeLine; decide), fun q fq => ⟨z1, fun pA fpA => ⟨z0, fun wA fwA => ?_⟩⟩⟩⟩⟩
    obtain ⟨H5, eH5⟩ : ∃ H5, upd (upd (upd (upd (upd H e1 (.tup [])) e2 (.tup [])) q (.tup [.int (i : Int), .int (j : Int), .ref e1, .ref e2])) pA (.lst [.ref q])) wA (.lst []) = H5 := ⟨_, rfl⟩
    have s5 : Same H H5 := by rw [← eH5]; exact ((((Same.laid fe1).step fe2).step fq).step fpA).step fwA
    have fwH : H wA = none := ((((Same.laid fe1).step fe2).step fq).step fpA).free fwA
    have epA : H5 pA = some (.lst [.ref q]) := by rw [← eH5]; exact Same.laid fwA _ _ upd_same
    have ewA : H5 wA = some (.lst []) := by rw [← eH5]; exact upd_same
    have npw : pA ≠ wA := fun z => by rw [z, upd_same] at fwA; cases fwA
    have q5 : Quads H5 [.ref q] [((i : Int), (j : Int), [], [])] := by
      rw [← eH5]
      exact .cons ⟨q, _, _, rfl, Same.laid fwA _ _ (Same.laid fpA _ _ upd_same), ⟨e1, rfl, Same.laid fwA _ _ (Same.laid fpA _ _ (Same.laid fq _ _ (Same.laid fe2 _ _ upd_same)))⟩, ⟨e2, rfl, Same.laid fwA _ _ (Same.laid fpA _ _ (Same.laid fq _ _ upd_same))⟩⟩ .nil
    dsimp only
    rw [eH5]
    have hlx : xs.length = ls.length := lx
    refine ⟨_, rfl, l, _, rfl, .inl (SqL.of (s5 _ _ hl)), _, _, rfl, rfl, 1, rfl, 1, rfl, xs.length, rfl, by omega, for_rangeD (n := xs.length) (fun a σ G => ∃ (v5 v6 v7 v8 v9 v10 v11 v12 v13 v14 v15 v16 : Option V) (pA : Addr) (ps : List V) (P : List Qd) (ws : List V) (W : WS), σ = [some (.ref l), some (.int (i : Int)), some (.int (j : Int)), some (.ref pA), some (.ref wA), v5, v6, v7, v8, v9, v10, v11, v12, v13, v14, v15, v16] ∧ Same H G ∧ G pA = some (.lst ps) ∧ Quads G ps P ∧ pA ≠ wA ∧ G wA = some (.lst ws) ∧ Words G ws W ∧ (∀ q ∈ P, QIn (tN (ls.take (ls.length - a))) a q) ∧ Par (W ++ P.flatMap (sb (tF (ls.take (ls.length - a))))) (tF ls i j) ∧ W.length + P.length ≤ 2 ^ a)
      ⟨none, none, none, none, none, none, none, none, none, none, none, none, pA, _, _, _, [], rfl, s5, epA, q5, npw, ewA, .nil, ?_, ?_, by simp⟩ ?_ ?_⟩
    · intro q' hq'
      rw [List.mem_singleton.mp hq', Nat.sub_zero, List.take_of_length_le (Nat.le_refl _)]
      exact ⟨by show (0 : Int) ≤ i; omega, by show (i : Int) < j; omega, by show (j : Int) < _; omega, Nat.le_refl _, Nat.le_refl _⟩
    · rw [Nat.sub_zero, List.take_of_length_le (Nat.le_refl _), List.nil_append, List.flatMap_cons, List.flatMap_nil, List.append_nil, sb_mk _ [] [] rfl rfl, map_nil]
      exact Par.refl _
    · rintro a σ G ha ⟨v5, v6, v7, v8, v9, v10, v11, v12, v13, v14, v15, v16, pA, ps, P, ws, W, rfl, sg, ep, qs, npw, ew, ww, hin, par, len⟩
      obtain ⟨T, hT⟩ : ∃ T : Nat, ((xs.length : Int) - 1 + (a : Int) * (-1)) = (T : Int) := ⟨ls.length - 1 - a, by omega⟩
      rw [hT]
      have eT1 : ls.length - a = T + 1 := by omega
      have eT0 : ls.length - (a + 1) = T := by omega
      rw [eT1] at hin par
      have pw : 2 ^ a ≤ 2 ^ 10 := Nat.pow_le_pow_right (by decide) (by omega)
      obtain ⟨x, hx'⟩ : ∃ x, xs[T]? = some x := ⟨xs[T]'(by omega), by simp⟩
      obtain ⟨⟨kd, kk⟩, q0, hp, rfl, etq⟩ := hL.get hx'
      obtain ⟨k0, ft⟩ := fit_at hW T _ hp
      dsimp only at k0 ft
      obtain ⟨kn, rfl⟩ := Int.eq_ofNat_of_zero_le k0
      rw [Int.toNat_natCast] at ft
      have hkd : kd = "born" ∨ kd = "cross" := by
        rcases ft with ⟨z, _⟩ | ⟨z, _⟩ | ⟨z, _⟩
        · exact .inl z
        · exact .inr z
        · exact absurd z (noE _ (List.mem_of_getElem? hp))
      have eqt : ls.take (T + 1) = ls.take T ++ [(kd, (kn : Int))] := by rw [List.take_add_one, hp]; rfl
      have lT : (ls.take T).length = T := by rw [List.length_take]; omega
      have eN : tN (ls.take (T + 1)) = nxN kd (tN (ls.take T)) := by rw [eqt, tN_snoc]
      have eF : tF (ls.take (T + 1)) = nxF kd kn (T : Int) (tF (ls.take T)) := by rw [eqt, tF_snoc, lT]; rfl
      rw [eN] at hin
      rw [eF] at par
      refine ⟨_, rfl, _, rfl, l, _, _, _, rfl, rfl, SqL.of (sg _ _ hl), atI_nat hx', q0, _, rfl, SqT.of (sg _ _ etq), rfl, _, _, rfl, _, _, rfl, rfl, z0, fun hA fhA => ?_⟩
      obtain ⟨G0, eG0⟩ : ∃ G0, upd G hA (.lst []) = G0 := ⟨_, rfl⟩
      have s0 : Same G G0 := by rw [← eG0]; exact Same.laid fhA
      have eh : G0 hA = some (.lst []) := by rw [← eG0]; exact upd_same
      dsimp only
      rw [eG0]
      have nhw : hA ≠ wA := fun z => by rw [z, ew] at fhA; cases fhA
      have nhp : pA ≠ hA := fun z => by rw [← z, ep] at fhA; cases fhA
      have lps : ps.length = P.length := Paired.length qs
      refine ⟨_, rfl, pA, rfl, ⟨_, SqL.of (s0 _ _ ep)⟩, for_list (K := K) (a := pA) (xs := ps) (fun b σ G' => ∃ (v9 v10 v11 v12 v13 v14 v15 v16 : Option V) (hs ws' : List V), σ = [some (.ref l), some (.int (i : Int)), some (.int (j : Int)), some (.ref pA), some (.ref wA), some (.int (T : Int)), some (.str kd), some (.int (kn : Int)), some (.ref hA), v9, v10, v11, v12, v13, v14, v15, v16] ∧ Same H G' ∧ G' pA = some (.lst ps) ∧ Quads G' ps P ∧ G' wA = some (.lst ws') ∧ Words G' ws' (W ++ (P.take b).flatMap (nxW kd kn)) ∧ G' hA = some (.lst hs) ∧ Quads G' hs ((P.take b).flatMap (nxP kd kn T)))
        ⟨_, _, _, _, _, _, _, _, [], ws, rfl, sg.trans s0, s0 _ _ ep, qs.same s0, s0 _ _ ew, by simpa using ww.same s0, eh, .nil⟩ (fun b σ G' _ ⟨_, _, _, _, _, _, _, _, _, _, _, _, e, _⟩ => SqL.of e) ?_ ?_⟩
      · rintro b x σ G1 hx ⟨v9, v10, v11, v12, v13, v14, v15, v16, hs, ws', rfl, sg1, ep1, qs1, ew1, ww1, eh1, qh1⟩
        obtain ⟨⟨u, l', a', b'⟩, hq, p, x', y', rfl, epq, wx, wy⟩ := pair_get qs1 hx
        have hmem := List.mem_of_getElem? hq
        have xin := hin _ hmem
        have tk : P.take (b + 1) = P.take b ++ [(u, l', a', b')] := by rw [List.take_add_one, hq]; rfl
        have fl := flat_len (A := P.take b) (f := nxW kd kn) (g := nxP kd kn T) fun r hr => nx_len (hin r (List.mem_of_mem_take hr)).lt
        have lh : hs.length = ((P.take b).flatMap (nxP kd kn T)).length := Paired.length qh1
        have lw : ws'.length = (W ++ (P.take b).flatMap (nxW kd kn)).length := ww1.len
        rw [List.length_append] at lw
        have lt' : (P.take b).length ≤ P.length := by rw [List.length_take]; omega
        have la := xin.la
        have lb := xin.lb
        dsimp only at epq wx wy la lb
        have tlw : ∀ t, G1 wA ≠ some (.tup t) := fun t z => by rw [ew1] at z; cases z
        have tlh : ∀ t, G1 hA ≠ some (.tup t) := fun t z => by rw [eh1] at z; cases z
        refine ⟨p, _, rfl, SqT.of epq, rfl, _, _, rfl, _, _, rfl, _, _, rfl, _, _, rfl, rfl, ?_⟩
        rw [tk, List.flatMap_append, List.flatMap_append, List.flatMap_cons, List.flatMap_nil, List.append_nil, List.flatMap_cons, List.flatMap_nil, List.append_nil]
        have w1 : Wst H G1 pA wA hA ps ws' hs P (W ++ (P.take b).flatMap (nxW kd kn)) ((P.take b).flatMap (nxP kd kn T)) := ⟨sg1, ep1, qs1, ew1, ww1, eh1, qh1⟩
        have z2 : 2 ≤ sizeLine := by decide
        have fhH : H hA = none := sg.free fhA
        have hs4 : hs.length + 10 < sizeLine := by rw [sizeLine_eq]; omega
        have ws4 : ws'.length < sizeLine := by rw [sizeLine_eq]; omega
        have ab : a'.length + b'.length ≤ sizeLine := by rw [sizeLine_eq]; omega
        rcases hkd with rfl | rfl
        · rw [nxW_born, nxP_born]
          dsimp only
          refine ⟨_, rfl, rfl, _, rfl, ite2 (fun z => absurd z (by decide)) (fun _ => iteF ?_)⟩
          refine ⟨_, rfl, rfl, _, rfl, iteT ⟨_, rfl, _, rfl, z2, fun q1 fq1 => ⟨_, rfl, _, rfl, _, _, rfl, rfl, z2, fun q2 fq2 => ?_⟩⟩⟩
          have sq : Same G1 (upd (upd G1 q1 (.tup [.int u, .int l'])) q2 (.tup [.int (kn : Int), .int ((kn : Int) + 1)])) := (Same.laid fq1).step fq2
          refine ⟨[u, l'], [(kn : Int), (kn : Int) + 1], ⟨q1, rfl, Same.laid fq2 _ _ upd_same⟩, ⟨q2, rfl, upd_same⟩, _, rfl, ?_⟩
          obtain ⟨G2, eG2⟩ : ∃ G2, upd (upd G1 q1 (.tup [.int u, .int l'])) q2 (.tup [.int (kn : Int), .int ((kn : Int) + 1)]) = G2 := ⟨_, rfl⟩
          rw [eG2] at sq ⊢
          have w2 := w1.same sq
          refine ite2 (fun c => ?_) (fun c => ?_)
          · have c' : u = (kn : Int) ∧ l' = (kn : Int) + 1 := by
              have := of_decide_eq_true c
              simpa using this
            rw [if_pos c', if_pos c']
            refine ⟨_, rfl, .inl ⟨rfl, _, SqL.of w2.ew⟩, _, rfl, _, rfl, catW_ok (wx.same sq) (wy.same sq) ab fun v G3 s3 wv => ?_⟩
            have w3 := (w2.same s3).pushW fwH npw nhw wv
            refine ⟨wA, _, _, rfl, rfl, (w2.same s3).ew, ws4, _, _, _, _, _, _, _, _, hs, ws' ++ [v], rfl, w3.sm, w3.ep, w3.qs, w3.ew, ?_, w3.eh, ?_⟩
            · rw [← List.append_assoc]; exact w3.ww
            · rw [List.append_nil]; exact w3.qh
          · have c' : ¬ (u = (kn : Int) ∧ l' = (kn : Int) + 1) := fun z => c (decide_eq_true (by rw [z.1, z.2]))
            rw [if_neg c', if_neg c', List.append_nil]
            refine ⟨_, rfl, rfl, _, rfl, iteT ⟨_, rfl, _, rfl, _, rfl, _, _, rfl, rfl, z2, fun q3 fq3 => ⟨q3, _, rfl, .inr (SqT.of upd_same), rfl, rfl, _, rfl, ?_⟩⟩⟩
            have s3 : Same G2 (upd G2 q3 (.tup [.int (kn : Int), .int ((kn : Int) + 1)])) := Same.laid fq3
            obtain ⟨G3, eG3⟩ : ∃ G3, upd G2 q3 (.tup [.int (kn : Int), .int ((kn : Int) + 1)]) = G3 := ⟨_, rfl⟩
            rw [eG3] at s3 ⊢
            have w3 := w2.same s3
            refine ite2 (fun c1 => ?_) (fun c1 => iteF ?_)
            · have n1 := inV_no c1
              refine ⟨_, rfl, _, rfl, _, rfl, _, _, rfl, rfl, z2, fun q4 fq4 => ⟨q4, _, rfl, .inr (SqT.of upd_same), rfl, rfl, _, rfl, ?_⟩⟩
              have s4 : Same G3 (upd G3 q4 (.tup [.int (kn : Int), .int ((kn : Int) + 1)])) := Same.laid fq4
              obtain ⟨G4, eG4⟩ : ∃ G4, upd G3 q4 (.tup [.int (kn : Int), .int ((kn : Int) + 1)]) = G4 := ⟨_, rfl⟩
              rw [eG4] at s4 ⊢
              have w4 := w3.same s4
              have S4 := (sq.trans s3).trans s4
              refine ite2 (fun c2 => ?_) (fun c2 => ?_)
              · have n2 := inV_no c2
                rw [if_pos ⟨n1.1, n1.2, n2.1, n2.2⟩]
                refine ⟨_, rfl, .inl ⟨rfl, _, SqL.of w4.eh⟩, _, rfl, _, rfl, _, rfl, _, _, rfl, rfl, .inr ⟨_, rfl, _, _, rfl, rfl, .inl ⟨by decide, by decide⟩, _, _, rfl, rfl, _, rfl, _, rfl, _, rfl, _, _, rfl, rfl, .inr ⟨_, rfl, _, _, rfl, rfl, .inl ⟨by decide, by decide⟩, _, _, rfl, rfl, _, rfl, _, rfl, (by show 4 ≤ sizeLine; decide), fun q5 fq5 => ?_⟩⟩⟩
                have e1 : ∀ x : Int, (x - 2 * (if decide ((kn : Int) < x) = true then 1 else 0)) = x - 2 * (if x > (kn : Int) then 1 else 0) := fun x => by
                  by_cases z : (kn : Int) < x
                  · rw [if_pos (decide_eq_true z), if_pos z]
                  · rw [if_neg (fun y => z (of_decide_eq_true y)), if_neg z]
                have w5 := (w4.same (Same.laid (o := .tup [.int (u - 2 * (if decide ((kn : Int) < u) = true then 1 else 0)), .int (l' - 2 * (if decide ((kn : Int) < l') = true then 1 else 0)), x', y']) fq5)).pushH fhH nhp nhw (v := .ref q5) (q := (u - 2 * (if u > (kn : Int) then 1 else 0), l' - 2 * (if l' > (kn : Int) then 1 else 0), a', b')) ⟨q5, x', y', rfl, by rw [upd_same, e1, e1], (wx.same S4).same (Same.laid fq5), (wy.same S4).same (Same.laid fq5)⟩
                exact ⟨hA, _, _, rfl, rfl, Same.laid fq5 _ _ w4.eh, by omega, _, _, _, _, _, _, _, _, _, ws', rfl, w5.sm, w5.ep, w5.qs, w5.ew, w5.ww, w5.eh, w5.qh⟩
              · have n2 := inV_yes c2
                rw [if_neg (by omega), List.append_nil]
                exact ⟨_, _, _, _, _, _, _, _, hs, ws', rfl, w4.sm, w4.ep, w4.qs, w4.ew, w4.ww, w4.eh, w4.qh⟩
            · have n1 := inV_yes c1
              rw [if_neg (by omega), List.append_nil]
              exact ⟨_, _, _, _, _, _, _, _, hs, ws', rfl, w3.sm, w3.ep, w3.qs, w3.ew, w3.ww, w3.eh, w3.qh⟩
        · rw [nxW_cross, nxP_cross, List.append_nil]
          dsimp only
          refine ⟨_, rfl, rfl, _, rfl, iteT ⟨_, rfl, _, rfl, z2, fun q1 fq1 => ⟨_, rfl, _, rfl, _, _, rfl, rfl, z2, fun q2 fq2 => ?_⟩⟩⟩
          have sq : Same G1 (upd (upd G1 q1 (.tup [.int u, .int l'])) q2 (.tup [.int (kn : Int), .int ((kn : Int) + 1)])) := (Same.laid fq1).step fq2
          refine ⟨[u, l'], [(kn : Int), (kn : Int) + 1], ⟨q1, rfl, Same.laid fq2 _ _ upd_same⟩, ⟨q2, rfl, upd_same⟩, _, rfl, ?_⟩
          obtain ⟨G2, eG2⟩ : ∃ G2, upd (upd G1 q1 (.tup [.int u, .int l'])) q2 (.tup [.int (kn : Int), .int ((kn : Int) + 1)]) = G2 := ⟨_, rfl⟩
          rw [eG2] at sq ⊢
          have w2 := w1.same sq
          refine ite2 (fun c => ?_) (fun c => ?_)
          · have c' : ¬ (u = (kn : Int) ∧ l' = (kn : Int) + 1) := fun z => (of_decide_eq_true c) (by rw [z.1, z.2])
            rw [if_neg c']
            refine ⟨_, rfl, _, rfl, _, rfl, _, rfl, (kn : Int), (T : Int), u, l', rfl, fun sA G3 ss fsA s3 es qss => ?_⟩
            have nsh : sA ≠ hA := fun z => by rw [z, w2.eh] at fsA; cases fsA
            have w3 := w2.same s3
            have sl := step_len (k := kn) (n := 0) (t := (T : Int)) xin.lt
            dsimp only at sl
            refine ⟨sA, rfl, ⟨_, SqL.of es⟩, for_list (K := K) (a := sA) (xs := ss) (fun c σ G' => ∃ (v13 v14 v15 v16 : Option V) (hs'' : List V), σ = [some (.ref l), some (.int (i : Int)), some (.int (j : Int)), some (.ref pA), some (.ref wA), some (.int (T : Int)), some (.str "cross"), some (.int (kn : Int)), some (.ref hA), some (.int u), some (.int l'), some x', some y', v13, v14, v15, v16] ∧ Wst H G' pA wA hA ps ws' hs'' P (W ++ (P.take b).flatMap (nxW "cross" kn)) ((P.take b).flatMap (nxP "cross" kn T) ++ ((stepF kn T u l').take c).map fun s => (s.1, s.2.1, a' ++ s.2.2.1, s.2.2.2 ++ b')) ∧ G' sA = some (.lst ss) ∧ Quads G' ss (stepF kn T u l') ∧ Word G' x' a' ∧ Word G' y' b' ∧ hs''.length ≤ hs.length + c)
              ⟨_, _, _, _, hs, rfl, by simpa using w3, es, qss, (wx.same sq).same s3, (wy.same sq).same s3, Nat.le_refl _⟩ (fun c σ G' _ ⟨_, _, _, _, _, _, _, e, _⟩ => SqL.of e) ?_ ?_⟩
            · rintro c x σ G4 hx4 ⟨v13, v14, v15, v16, hs'', rfl, w4, es4, qs4, wx4, wy4, lh4⟩
              obtain ⟨⟨u2, l2, a2, b2⟩, hq2, p2, x2, y2, rfl, ep2, wx2, wy2⟩ := pair_get qs4 hx4
              dsimp only at ep2 wx2 wy2
              have hc2 := (List.getElem?_eq_some_iff.mp hq2).1
              have hkn : kn + 1 < tN (ls.take T) := by
                rcases ft with ⟨z, _⟩ | ⟨_, z⟩ | ⟨z, _⟩
                · exact absurd z (by decide)
                · exact z
                · exact absurd z (by decide)
              have hn : nxN "cross" (tN (ls.take T)) = tN (ls.take T) := by unfold nxN; rw [if_neg (by decide), if_pos rfl]
              have xi := xin.hi
              rw [hn] at xi
              have y2in := step_in hkn xin.lo xi (List.mem_of_getElem? hq2)
              have la2 := y2in.la
              have lb2 := y2in.lb
              dsimp only at la2 lb2
              refine ⟨p2, _, rfl, SqT.of ep2, rfl, _, _, rfl, _, _, rfl, _, _, rfl, _, _, rfl, rfl, ?_⟩
              refine ⟨_, rfl, .inl ⟨rfl, _, SqL.of w4.eh⟩, _, rfl, _, rfl, _, rfl, _, rfl, catW_ok wx4 wx2 (by rw [sizeLine_eq]; omega) fun x5 G5 s5 wx5 => ⟨_, rfl, _, rfl, catW_ok (wy2.same s5) (wy4.same s5) (by rw [sizeLine_eq]; omega) fun y6 G6 s6 wy6 => ⟨(by show 4 ≤ sizeLine; decide), fun q7 fq7 => ?_⟩⟩⟩
              have s67 : Same G4 G6 := s5.trans s6
              have w6 := w4.same s67
              have w7 := (w6.same (Same.laid (o := .tup [.int u2, .int l2, x5, y6]) fq7)).pushH fhH nhp nhw (v := .ref q7) (q := (u2, l2, a' ++ a2, b2 ++ b')) ⟨q7, x5, y6, rfl, upd_same, (wx5.same s6).same (Same.laid fq7), wy6.same (Same.laid fq7)⟩
              refine ⟨hA, _, _, rfl, rfl, Same.laid fq7 _ _ w6.eh, by omega, _, _, _, _, hs'' ++ [.ref q7], rfl, ?_, ?_, ?_, ?_, ?_, by rw [List.length_append]; simp; omega⟩
              · rw [List.take_add_one, hq2, List.map_append, ← List.append_assoc]; exact w7
              · rw [upd_ne nsh]; exact Same.laid fq7 _ _ (s67 _ _ es4)
              · exact ((qs4.same s67).same (Same.laid fq7)).mono (upd_tups (Same.laid fq7 _ _ w6.eh))
              · exact ((wx4.same s67).same (Same.laid fq7)).mono (upd_tups (Same.laid fq7 _ _ w6.eh))
              · exact ((wy4.same s67).same (Same.laid fq7)).mono (upd_tups (Same.laid fq7 _ _ w6.eh))
            · rintro σ G4 ⟨v13, v14, v15, v16, hs'', rfl, w4, es4, qs4, wx4, wy4, lh4⟩
              rw [List.take_of_length_le (l := stepF kn T u l') (by have : ss.length = _ := Paired.length qss; omega)] at w4
              exact ⟨_, _, _, _, _, _, _, _, hs'', ws', rfl, w4.sm, w4.ep, w4.qs, w4.ew, w4.ww, w4.eh, w4.qh⟩
          · have c' : u = (kn : Int) ∧ l' = (kn : Int) + 1 := by
              have : [u, l'] = [(kn : Int), (kn : Int) + 1] := Classical.byContradiction fun z => c (decide_eq_true z)
              simpa using this
            rw [if_pos c', List.append_nil]
            refine ⟨_, rfl, rfl, _, rfl, ite2 (fun z => absurd z (by decide)) (fun _ => iteF ?_)⟩
            refine ⟨_, rfl, rfl, _, rfl, ite2 (fun z => absurd z (by decide)) (fun _ => iteF ?_)⟩
            exact ⟨_, _, _, _, _, _, _, _, hs, ws', rfl, w2.sm, w2.ep, w2.qs, w2.ew, w2.ww, w2.eh, w2.qh⟩
      · rintro σ G1 ⟨v9, v10, v11, v12, v13, v14, v15, v16, hs, ws', rfl, sg1, ep1, qs1, ew1, ww1, eh1, qh1⟩
        rw [List.take_of_length_le (by omega)] at ww1 qh1
        refine ⟨_, rfl, _, _, _, _, _, _, _, _, _, _, _, _, hA, hs, P.flatMap (nxP kd kn T), ws', W ++ P.flatMap (nxW kd kn), rfl, sg1, eh1, qh1, nhw, ew1, ww1, ?_, ?_, ?_⟩
        · intro r hr
          obtain ⟨q', hq', hr'⟩ := List.mem_flatMap.mp hr
          rw [eT0]
          exact nx_in ft hkd (hin q' hq') hr'
        · rw [eT0]
          refine Par.trans ?_ par
          rw [List.append_assoc]
          exact Par.app (Par.refl _) (Par.symm (by
            have := par_flat (A := P) (f := sb (nxF kd kn (T : Int) (tF (ls.take T)))) (g := nxW kd kn) (h := fun q => (nxP kd kn T q).flatMap (sb (tF (ls.take T)))) fun q hq => nx_par hkd (hin q hq)
            rw [List.flatMap_assoc]
            exact this))
        · have fl := flat_len (A := P) (f := nxW kd kn) (g := nxP kd kn T) fun r hr => nx_len (hin r hr).lt
          rw [List.length_append, Nat.pow_succ]
          omega
    · rintro σ G ⟨v5, v6, v7, v8, v9, v10, v11, v12, v13, v14, v15, v16, pA, ps, P, ws, W, rfl, sg, ep, qs, npw, ew, ww, hin, par, len⟩
      rw [lx, Nat.sub_self, List.take_zero] at par
      have lw := ww.len
      have p2 : 2 ^ xs.length ≤ 2 ^ 11 := Nat.pow_le_pow_right (by decide) (by omega)
      refine ⟨_, rfl, wA, W, rfl, ⟨ws, ew, ww⟩, by omega, fun p H' r fp sr wr od => ?_⟩
      have e0 : P.flatMap (sb (tF [])) = [] := List.flatMap_eq_nil_iff.mpr fun q _ => rfl
      rw [e0, List.append_nil] at par
      have := (od.par par).canon
      rw [canon_id (sr_run _ _ _)] at this
      subst this
      exact k p H' (sg.free fp) (sg.trans sr) wr
end
end Qk17

namespace Qk17
open PySem L2 PyProof.Rows
section
variable {P : Program} {w : World} {K : PySem.W.Frag} {mg : Str → Option Value} {base : Heap}
theorem cntP (x : Str) (ls : List (Str × Int)) : ((ls.map fun p => V.str p.1).countP fun z => eqV z (.str x)) = cnt x ls := by
  unfold cnt
  rw [← List.countP_eq_length_filter, List.countP_map]
  congr 1
def spLaw (K : PySem.W.Frag) : Sp := fun vs H Q _ => ∃ (a : Addr) (ns : List Int), vs = [.ref a] ∧ SqL K H a (ns.map V.int) ∧ ns.length ≤ 63 ∧ ∀ H', Q (.bl true) H'
abbrev s_law : Stmt := top 25
theorem sc_law : FnScope ["_law_script", "_law_at", "_law_letters", "_law_words", "_law_many", "_law_drawing", "_law_table", "_law_i", "_law_j"] ["_law_script"] (defScope s_law) := ⟨rfl, rfl, rfl, by decide +kernel, rfl, by decide +kernel, by decide +kernel⟩
theorem ok_law {f a_TooMany : Addr} {fd : FuncData} (F : Fun K "law" "law" s_law f fd) (g_TooMany : mg "TooMany" = some (.ref a_TooMany)) (x_TooMany : PySem.W.excIn K a_TooMany bmV "ValueError.__new__" = true) (m_TooMany : PySem.W.mroIn K a_TooMany (.ref a_TooMany) = some true)
    (h__law_bag : Has P w K mg base 1 "_law_bag" ["_law_script", "_law_at"] (spBag K)) (h__law_simple : Has P w K mg base 2 "_law_simple" ["_law_bag_here"] spSimple) (h_between : HasX P w K mg base 7 "between" ["drawing"] (spBtw a_TooMany)) (h__law_walked : Has P w K mg base 2 "_law_walked" ["_law_letters", "_law_i", "_law_j"] spWalked)
    (b_range : mg "range" = none) (b_len : mg "len" = none) (b_max : mg "max" = none) (b_min : mg "min" = none) : FnOk P w K mg base CX0 8 f fd ["_law_script"] (spLaw K) := by
  refine F.ok sc_law (fun vs H Q E h => ?_) (fun cdv A outer s H vs Q E hr h => ?_)
  · obtain ⟨a, ns, rfl, _⟩ := h
    rfl
  · obtain ⟨a, ns, rfl, hS, hlen, k⟩ := h
    let R_try : L2.St → Addr → Hp → Prop := fun σ C G => C = a_TooMany ∧ ∃ (at_ many : Int) (l wA dA : Addr) (v6 v7 v8 : Option V) (xs : List V) (ls : List (Str × Int)) (n : Int), σ = [some (.ref a), some (.int at_), some (.ref l), some (.ref wA), some (.int many), some (.ref dA), v6, v7, v8] ∧ Same H G ∧ G l = some (.lst xs) ∧ LetsV G xs ls ∧ Wk ls n ∧ (∀ p ∈ ls, p.1 ≠ "end") ∧ many = (tN ls : Int) ∧ ls.length ≤ 11 ∧ tN ls ≤ 8
    have hR_try : ∀ σ C H', R_try σ C H' → PySem.W.mroIn K C (.ref a_TooMany) = some true := fun σ C H' z => by rw [z.1]; exact m_TooMany
    refine ⟨_, (pss_cons (ps_for PassesOwn.never rfl (pi_range1 (by rfl) b_range (pa_cons (pe_callB (call_max2 rfl) (by rfl) b_max boot_max (pa_cons pe_int (pa_cons (pe_callB (call_min2 rfl) (by rfl) b_min boot_min (pa_cons (pe_callB (call_lenK (K := K) rfl) (by rfl) b_len PySem.boot_len (pa_cons (pv 0) pa_nil)) (pa_cons pe_int pa_nil))) pa_nil))) pa_nil)) (pg_name (i := 1) sc_law.nd rfl (Or.inl rfl)) (pss_cons (ps_set (i := 2) sc_law.nd rfl (Or.inl rfl) (pe_has h__law_simple (hr.mono (by decide)) (pa_cons (pe_has h__law_bag (hr.mono (by decide)) (pa_cons (pv 0) (pa_cons (pv 1) pa_nil))) pa_nil)))
      (pss_cons (ps_lc (i := 3) sc_law.nd rfl (Or.inl rfl) (Ls := ["_law_letter"]) (Fs := []) (fi := []) (LcScope.of (show lcLook ["_law_script", "_law_at", "_law_letters", "_law_words", "_law_many", "_law_drawing", "_law_table", "_law_i", "_law_j"] (defScope s_law) _ [] [] = true by decide +kernel)) rfl (pi_listK (K := K) rfl (pv 2)) (fun cl C s3 H3 ex => ⟨(pg_name (i := 0) (show ((["_law_letter"] : List Str) ++ ([] : List Str)).Nodup by decide +kernel) rfl (Or.inl rfl)), pts_nil, (pe_ix (ix_tupK (K := K) rfl) (pv 0) pe_int (fun _ _ => rfl))⟩))
      (pss_cons (ps_set (i := 4) sc_law.nd rfl (Or.inl rfl) (pe_op op_mul pe_int (pe_bmK (K := K) rfl (pe_bm PySem.F.plainAttrs_list PySem.F.slot_list_count PySem.F.type_list_count (mt_countK (K := K) rfl) (pv 3) (pa_cons pe_str pa_nil)))))
      (pss_cons (ps_set (i := 5) sc_law.nd rfl (Or.inl rfl) (pe_op op_cat (pv 2) (pe_lc (Ls := ["_law_k"]) (Fs := []) (fi := []) (LcScope.of (show lcLook ["_law_script", "_law_at", "_law_letters", "_law_words", "_law_many", "_law_drawing", "_law_table", "_law_i", "_law_j"] (defScope s_law) _ [] [] = true by decide +kernel)) rfl (pi_range1 (by rfl) b_range (pa_cons (pe_op op_fdiv (pv 4) pe_int) pa_nil)) (fun cl C s3 H3 ex => ⟨(pg_name (i := 0) (show ((["_law_k"] : List Str) ++ ([] : List Str)).Nodup by decide +kernel) rfl (Or.inl rfl)), pts_nil, (pe_tup (pa_cons pe_str (pa_cons pe_int pa_nil)))⟩))))
      (pss_cut (ps_tryN R_try (fun pins => (pss_one (ps_set (i := 6) sc_law.nd rfl (Or.inl rfl) (pe_ix (ix_listK (K := K) rfl) (pe_hasXS h_between (hr.mono (by decide)) (passS rfl) (pa_cons (pv 5) pa_nil)) (pe_callB (call_lenK (K := K) rfl) (by rfl) b_len PySem.boot_len (pa_cons (pv 2) pa_nil)) (fun _ _ => rfl))))) (fun pins a_x => (pss_one (ps_set (i := 6) sc_law.nd rfl (Or.inl rfl) pe_non))) (by rfl) g_TooMany x_TooMany hR_try)
      (pss_one (ps_for PassesOwn.never rfl (pi_range1 (by rfl) b_range (pa_cons (pv 4) pa_nil)) (pg_name (i := 7) sc_law.nd rfl (Or.inl rfl)) (pss_one (ps_for PassesOwn.never rfl (pi_range2 (by rfl) b_range (pa_cons (pe_op op_add (pv 7) pe_int) (pa_cons (pv 4) pa_nil))) (pg_name (i := 8) sc_law.nd rfl (Or.inl rfl)) (pss_one (ps_if (PW.pt (pw_and (pt_cmpR op_notN (pv 6) pe_non (nomark _)) (pw_and1 (pt_cmpR (op_neU (K := K) rfl hr.units) (pe_ix (ix_listK (K := K) rfl) (pe_ix (ix_listK (K := K) rfl) (pv 6) (pv 7) (fun _ _ => rfl)) (pv 8) (fun _ _ => rfl)) (pe_has h__law_walked (hr.mono (by decide)) (pa_cons (pv 2) (pa_cons (pv 7) (pa_cons (pv 8) pa_nil)))) (nomark _))))) (pss_one (ps_ret pe_bl)) pss_nil))))))))))))
      (pss_one (ps_ret pe_bl))), ?_⟩
    refine ⟨_, rfl, a, _, rfl, .inl hS, _, _, rfl, _, _, rfl, _, rfl, ?_, ?_, for_range (fun i σ H' => ∃ v1 v2 v3 v4 v5 v6 v7 v8 : Option V, σ = [some (.ref a), v1, v2, v3, v4, v5, v6, v7, v8] ∧ Same H H') ⟨none, none, none, none, none, none, none, none, rfl, Same.refl _⟩ ?_ ?_⟩
    · split <;> (try split) <;> omega
    · rw [List.length_map]
      split <;> (try split) <;> omega
    · rintro i σ H0 hi ⟨v1, v2, v3, v4, v5, v6, v7, v8, rfl, sm⟩
      have hi' : i < 900 := by
        rw [List.length_map] at hi
        revert hi
        split <;> (try split) <;> omega
      refine ⟨_, rfl, _, rfl, a, _, ns, rfl, sm.seq hS, by omega, by omega, fun b H1 hb s1 bg1 => ?_⟩
      refine ⟨b, rfl, bg1, fun l H2 xs ls c cc fl bg2 f2 el L2' gd c4 c10 l11 => ?_⟩
      have nlb : l ≠ b := bag_ne bg1 fl
      have lx := L2'.len
      have hk : ∀ p ∈ ls, Kd p.1 := fun p hp => gd.wk.kd p hp
      have tn := wk_tN gd.wk
      have kd2 := kd_of gd.wk
      have noE : ∀ p ∈ ls, p.1 ≠ "end" := fun p hp e => by
        have : 0 < cnt "end" ls := by
          unfold cnt
          exact List.length_pos_of_mem (List.mem_filter.mpr ⟨hp, decide_eq_true e⟩)
        have := gd.bo
        omega
      have S2 : Same H H2 := fun c' o e => f2 c' o (s1 c' o (sm c' o e)) (ne_of_none (sm c' o e) hb)
      refine ⟨_, rfl, l, rfl, ⟨_, SqL.of el⟩, lc_list (K := K) (xs := xs) (by rw [sizeLine_eq]; omega) (fun j zs G => Same H2 G ∧ zs = (ls.take j).map fun p => V.str p.1) ⟨Same.refl _, rfl⟩ (fun j zs G ⟨_, z⟩ => by rw [z, List.length_map, List.length_take]; exact Nat.min_le_left _ _) (fun j zs G ⟨s', _⟩ => SqL.of (s' _ _ el)) ?_ ?_⟩
      · rintro j x zs G hx ⟨sq, rfl⟩
        obtain ⟨p, ta, hp, rfl, hta⟩ := L2'.get hx
        refine lcG ?_
        refine ⟨_, rfl, ta, _, _, _, rfl, rfl, SqT.of (sq _ _ hta), atI_nat (j := 0) rfl, sq, ?_⟩
        rw [take_map_snoc _ hp]
      · rintro zs G ⟨sq, rfl⟩ wA fwA
        rw [lx, List.take_of_length_le (Nat.le_refl _)]
        obtain ⟨H3, eH3⟩ : ∃ H3, upd G wA (.lst (ls.map fun p => V.str p.1)) = H3 := ⟨_, rfl⟩
        have s3 : Same H2 H3 := by rw [← eH3]; exact sq.step fwA
        have ew : H3 wA = some (.lst (ls.map fun p => V.str p.1)) := by rw [← eH3]; exact upd_same
        dsimp only
        rw [eH3]
        have fs : (ls.map fun p => V.str p.1).all flatV = true := by
          rw [List.all_eq_true]
          intro x hx
          obtain ⟨p, _, rfl⟩ := List.mem_map.mp hx
          rfl
        refine ⟨_, rfl, .inl ⟨rfl, _, SqL.of ew⟩, wA, _, _, rfl, rfl, SqL.of ew, rfl, fs, _, _, rfl, rfl, .inl ⟨by decide, by decide⟩, ?_⟩
        rw [cntP]
        have ec : (2 * (cnt "born" ls : Int)) = (tN ls : Int) := by have := gd.bo; omega
        have ec2 : cnt "born" ls = c := gd.bo
        dsimp only
        rw [ec]
        have e3 := s3 _ _ el
        refine ⟨_, rfl, _, rfl, _, _, rfl, rfl, ⟨by decide, by decide⟩, _, rfl, by omega, by omega, ?_⟩
        rw [show ((tN ls : Int) / 2) = (c : Int) by omega, Int.toNat_natCast]
        refine lc_rng (n := c) (by rw [sizeLine_eq]; omega) (fun j ys G => Same H3 G ∧ LetsV G ys (List.replicate j ((("end" : Str), (0 : Int)) : Str × Int))) ⟨Same.refl _, .nil⟩ (fun j ys G p => by rw [p.2.len]; simp) (fun j ys G hj p => ?_) (fun ys G4 p eA feA => ?_)
        · refine lcG ?_
          refine ⟨(by show 2 ≤ sizeLine; decide), fun t ft => ⟨p.1.step ft, ?_⟩⟩
          rw [List.replicate_succ']
          exact LetsV.snoc (p.2.same (Same.laid ft)) upd_same
        · obtain ⟨s4, L4⟩ := p
          have S4 := S2.trans (s3.trans s4)
          have e4 : G4 l = some (.lst xs) := s4 _ _ e3
          have sE : Same G4 (upd G4 eA (.lst ys)) := Same.laid feA
          refine ⟨l, eA, _, _, rfl, rfl, sE _ _ e4, upd_same, by rw [lx, L4.len, List.length_replicate, sizeLine_eq]; omega, fun dA fdA => ?_⟩
          obtain ⟨G5, eG5⟩ : ∃ G5, upd (upd G4 eA (.lst ys)) dA (.lst (xs ++ ys)) = G5 := ⟨_, rfl⟩
          have s5 : Same G4 G5 := by rw [← eG5]; exact sE.step fdA
          have ed : G5 dA = some (.lst (xs ++ ys)) := by rw [← eG5]; exact upd_same
          rw [eG5]
          have LD : LetsV G5 (xs ++ ys) (ls ++ List.replicate c ((("end" : Str), (0 : Int)) : Str × Int)) := LetsV.append (((L2'.same s3).same s4).same s5) (L4.same s5)
          have gE := gd_ends c c4 gd c (Nat.le_refl _)
          rw [Nat.sub_self] at gE
          have S5 := S4.trans s5
          have e5 := s5 _ _ e4
          have L5 := ((L2'.same s3).same s4).same s5
          refine ⟨fun σ G => ∃ (v1 v7 v8 : Option V) (wA dA : Addr) (v6 : V) (l : Addr) (xs : List V) (ls : List (Str × Int)) (n : Int), σ = [some (.ref a), v1, some (.ref l), some (.ref wA), some (.int (tN ls : Int)), some (.ref dA), some v6, v7, v8] ∧ Same H G ∧ G l = some (.lst xs) ∧ LetsV G xs ls ∧ Wk ls n ∧ (∀ p ∈ ls, p.1 ≠ "end") ∧ ls.length ≤ 11 ∧ tN ls ≤ 8 ∧ (v6 = .non ∨ ∃ r, v6 = .ref r ∧ Tab G r (tN ls) (tF ls)), ⟨?_, ?_⟩, ?_⟩
          · refine ⟨_, rfl, dA, _, _, rfl, ed, LD, gE.wk, gd_in gE c4 (by omega), by rw [List.length_append, List.length_replicate]; omega, (fun few p H6 T RR fp s6 tbs lT te ne np lE fT => ?_), (fun nf H6 s6 => ⟨a_TooMany, rfl, rfl, _, _, l, wA, dA, _, _, _, xs, ls, _, rfl, S5.trans s6, s6 _ _ e5, L5.same s6, gd.wk, noE, rfl, l11, by omega⟩)⟩
            have hT : T[ls.length]? = some (T[ls.length]'(by rw [lT, List.length_append]; omega)) := by simp
            refine ⟨_, rfl, l, _, rfl, .inl (SqL.of (s6 _ _ e5)), p, _, _, _, rfl, rfl, SqL.of tbs.at_, atI_nat (j := xs.length) (by rw [lx, List.getElem?_map, hT]; rfl), ?_⟩
            have tb := (tbs.tab ls.length _ hT).1
            rw [List.take_left'] at tb
            · exact ⟨_, _, _, wA, dA, _, l, xs, ls, _, rfl, S5.trans s6, s6 _ _ e5, L5.same s6, gd.wk, noE, l11, by omega, .inr ⟨_, rfl, tb⟩⟩
            · rfl
          · rintro C σ' H6 ⟨rfl, at_, many, l, wA, dA, v6, v7, v8, xs, ls, n, rfl, S6, e6, L6, wk6, noE6, rfl, l116, h8⟩
            exact ⟨_, _, _, wA, dA, _, l, xs, ls, n, rfl, S6, e6, L6, wk6, noE6, l116, h8, .inl rfl⟩
          · rintro σ G ⟨v1, v7, v8, wA, dA, v6, l, xs, ls, n, rfl, SG, eG, LG, wk, noE, l11, t8, hv⟩
            refine ⟨_, rfl, _, rfl, by omega, by omega, for_range (n := tN ls) (fun i σ G => ∃ (v7 v8 : Option V), σ = [some (.ref a), v1, some (.ref l), some (.ref wA), some (.int (tN ls : Int)), some (.ref dA), some v6, v7, v8] ∧ Same H G ∧ G l = some (.lst xs) ∧ LetsV G xs ls ∧ (v6 = .non ∨ ∃ r, v6 = .ref r ∧ Tab G r (tN ls) (tF ls))) ⟨_, _, rfl, SG, eG, LG, hv⟩ ?_ ?_⟩
            · rintro i' σ G6 hi6 ⟨v7, v8, rfl, S6, e6, L6, hv6⟩
              refine ⟨_, rfl, _, _, rfl, rfl, _, rfl, _, _, rfl, ⟨by omega, by omega, by omega, by omega⟩, ?_⟩
              rw [show ((tN ls : Int) - (0 + (i' : Int) + 1)).toNat = tN ls - (i' + 1) by omega]
              refine for_range (n := tN ls - (i' + 1)) (fun d σ G => ∃ (v8 : Option V), σ = [some (.ref a), v1, some (.ref l), some (.ref wA), some (.int (tN ls : Int)), some (.ref dA), some v6, some (.int (0 + (i' : Int))), v8] ∧ Same H G ∧ G l = some (.lst xs) ∧ LetsV G xs ls ∧ (v6 = .non ∨ ∃ r, v6 = .ref r ∧ Tab G r (tN ls) (tF ls))) ⟨_, rfl, S6, e6, L6, hv6⟩ ?_ ?_
              · rintro d σ G7 hd ⟨v8, rfl, S7, e7, L7, hv7⟩
                rcases hv7 with rfl | ⟨r, rfl, tb⟩
                · refine ⟨_, rfl, rfl, _, rfl, ite2 (fun z => absurd z (by decide)) (fun _ => iteF ?_)⟩
                  exact ⟨_, rfl, S7, e7, L7, .inl rfl⟩
                · have hdt : (!decide (V.ref r = V.non)) = true := by rw [decide_eq_false (fun z => nomatch z)]; rfl
                  refine ⟨_, rfl, rfl, _, rfl, ite2 (fun _ => ?_) (fun z => absurd hdt z)⟩
                  obtain ⟨ys, r0, b1, _, b3, b4⟩ := tb.row (i := i') hi6
                  obtain ⟨us, e, c1, _, c3, c4⟩ := b4.at (j := i' + 1 + d) (by omega)
                  refine ⟨_, rfl, _, rfl, r, _, _, _, rfl, rfl, SqL.of b1, atI_at (j := i') (by omega) b3, _, rfl, r0, _, _, _, rfl, rfl, SqL.of c1, atI_at (j := i' + 1 + d) (by omega) c3, ?_⟩
                  refine ⟨_, rfl, _, rfl, _, rfl, l, xs, ls, n, i', i' + 1 + d, ?_, e7, L7, wk, noE, by omega, by omega, l11, fun p H8 fp s8 wl => ?_⟩
                  · simp
                  obtain ⟨zs, ez, wz⟩ := wl
                  obtain ⟨zs', ez', wz'⟩ := c4.same s8
                  refine .inr ⟨e, p, _, _, rfl, rfl, SqL.of ez', SqL.of ez, by rw [wz.len, wz'.len], fun i u v h1 h2 => ?_, _, rfl, iteF ?_⟩
                  · exact words_eqv wz' wz (by decide) i u v h1 h2
                  · exact ⟨_, rfl, S7.trans s8, s8 _ _ e7, L7.same s8, .inr ⟨r, rfl, tb.same s8⟩⟩
              · rintro σ G7 ⟨v8, rfl, S7, e7, L7, hv7⟩
                exact ⟨_, _, rfl, S7, e7, L7, hv7⟩
            · rintro σ G6 ⟨v7, v8, rfl, S6, e6, L6, hv6⟩
              exact ⟨_, _, _, _, _, _, _, _, rfl, S6⟩
    · rintro σ H0 ⟨v1, v2, v3, v4, v5, v6, v7, v8, rfl, sm⟩
      exact k H0
end
/-! ### what the top has written -/
theorem has_mk {P : Program} {w : World} {K : PySem.W.Frag} {mg : Str → Option Value} {base : Heap} {k : Nat} {x : Str} {ps : List Str} {sp : Sp} {f : Addr} {fd : FuncData} (G : FnOk P w K mg base CX0 k f fd ps sp) (m : mg x = some (.ref f)) (kp : PySem.W.keepIn K (.ref f) = true) (b : Binds K fd ps []) : Has P w K mg base k x ps sp := ⟨f, fd, G, m, kp, b⟩
theorem hasM_mk {P : Program} {w : World} {K : PySem.W.Frag} {mg : Str → Option Value} {base : Heap} {k : Nat} {C : Addr} {m : Str} {ps : List Str} {sp : Sp} {f : Addr} {fd : FuncData} (G : FnOk P w K mg base CX0 k f fd ps sp) (a : PySem.W.findIn K (.ref C) m = some (some (.ref f))) (fn : PySem.W.isFn K (.ref f) = true) (kp : PySem.W.keepIn K (.ref f) = true) (b : Binds K fd ps []) : HasM P w K mg base k C m ps sp := ⟨f, fd, G, ⟨a, fn, kp⟩, b⟩
theorem hasX_mk {P : Program} {w : World} {K : PySem.W.Frag} {mg : Str → Option Value} {base : Heap} {k : Nat} {x : Str} {ps : List Str} {sp : Sp} {f : Addr} {fd : FuncData} (G : FnOk P w K mg base (CX1 P w) k f fd ps sp) (m : mg x = some (.ref f)) (kp : PySem.W.keepIn K (.ref f) = true) (b : Binds K fd ps []) : HasX P w K mg base k x ps sp := ⟨f, fd, G, m, kp, b⟩
section
end
end Qk17

namespace Qk17
open PySem L2 PyProof.Rows
section
variable {P : Program} {w : World} {K : PySem.W.Frag} {mg : Str → Option Value} {base : Heap}
theorem all_mk {l : PySem.W.OpenLaw} {w : World} {K : PySem.W.Frag} {h : Heap} {mg : Str → Option Value} {fa : Addr} (X : K.In h) (G : h.Ns mainGlobals mg) (hfa : mg "law" = some (.ref fa))
    {f0 f1 f2 f3 f4 f5 f6 f7 f8 f9 f10 f11 f12 f13 f14 f15 f16 f17 f18 f19 f20 : Addr} {d0 d1 d2 d3 d4 d5 d6 d7 d8 d9 d10 d11 d12 d13 d14 d15 d16 d17 d18 d19 d20 : FuncData}
    {t_MOST_WORDS : Tok} (ag_MOST_WORDS : PySem.W.nsIn K mainGlobals "MOST_WORDS" = some (some (.int 200 t_MOST_WORDS)))
    {a_TooMany : Addr} (ag_TooMany : PySem.W.nsIn K mainGlobals "TooMany" = some (some (.ref a_TooMany)))
    {a_WordWay : Addr} (ag_WordWay : PySem.W.nsIn K mainGlobals "WordWay" = some (some (.ref a_WordWay)))
    (x_TooMany : PySem.W.excIn K a_TooMany [.type "ValueError", .type "Exception", .type "BaseException", .type "object"] "ValueError.__new__" = true)
    (c_way : L2.Cls K a_WordWay)
    (k_WordWay : L2.MkO K a_WordWay)
    (m_TooMany : PySem.W.mroIn K a_TooMany (.ref a_TooMany) = some true)
    (a0 : PySem.W.nsIn K mainGlobals "put" = some (some (.ref f0))) (l0 : Fun K "put" "put" s_put f0 d0)
    (a1 : PySem.W.nsIn K mainGlobals "added" = some (some (.ref f1))) (l1 : Fun K "added" "added" s_added f1 d1)
    (a2 : PySem.W.nsIn K mainGlobals "multiplied" = some (some (.ref f2))) (l2 : Fun K "multiplied" "multiplied" s_multiplied f2 d2)
    (a3 : PySem.W.findIn K (.ref a_WordWay) "nought" = some (some (.ref f3))) (l3 : Fun K "nought" "WordWay.nought" s_WordWay_nought f3 d3) (n3 : PySem.W.isFn K (.ref f3) = true)
    (a4 : PySem.W.findIn K (.ref a_WordWay) "unit" = some (some (.ref f4))) (l4 : Fun K "unit" "WordWay.unit" s_WordWay_unit f4 d4) (n4 : PySem.W.isFn K (.ref f4) = true)
    (a5 : PySem.W.findIn K (.ref a_WordWay) "plus" = some (some (.ref f5))) (l5 : Fun K "plus" "WordWay.plus" s_WordWay_plus f5 d5) (n5 : PySem.W.isFn K (.ref f5) = true)
    (a6 : PySem.W.findIn K (.ref a_WordWay) "times" = some (some (.ref f6))) (l6 : Fun K "times" "WordWay.times" s_WordWay_times f6 d6) (n6 : PySem.W.isFn K (.ref f6) = true)
    (a7 : PySem.W.nsIn K mainGlobals "behind_birth" = some (some (.ref f7))) (l7 : Fun K "behind_birth" "behind_birth" s_behind_birth f7 d7)
    (a8 : PySem.W.nsIn K mainGlobals "behind_crossing" = some (some (.ref f8))) (l8 : Fun K "behind_crossing" "behind_crossing" s_behind_crossing f8 d8)
    (a9 : PySem.W.nsIn K mainGlobals "behind_end" = some (some (.ref f9))) (l9 : Fun K "behind_end" "behind_end" s_behind_end f9 d9)
    (a10 : PySem.W.nsIn K mainGlobals "table_behind" = some (some (.ref f10))) (l10 : Fun K "table_behind" "table_behind" s_table_behind f10 d10)
    (a11 : PySem.W.nsIn K mainGlobals "check_words" = some (some (.ref f11))) (l11 : Fun K "check_words" "check_words" s_check_words f11 d11)
    (a12 : PySem.W.nsIn K mainGlobals "sum_tables" = some (some (.ref f12))) (l12 : Fun K "sum_tables" "sum_tables" s_sum_tables f12 d12)
    (a13 : PySem.W.nsIn K mainGlobals "between" = some (some (.ref f13))) (l13 : Fun K "between" "between" s_between f13 d13)
    (a14 : PySem.W.nsIn K mainGlobals "_law_bag" = some (some (.ref f14))) (l14 : Fun K "_law_bag" "_law_bag" s__law_bag f14 d14)
    (a15 : PySem.W.nsIn K mainGlobals "_law_take" = some (some (.ref f15))) (l15 : Fun K "_law_take" "_law_take" s__law_take f15 d15)
    (a16 : PySem.W.nsIn K mainGlobals "_law_odd" = some (some (.ref f16))) (l16 : Fun K "_law_odd" "_law_odd" s__law_odd f16 d16)
    (a17 : PySem.W.nsIn K mainGlobals "_law_simple" = some (some (.ref f17))) (l17 : Fun K "_law_simple" "_law_simple" s__law_simple f17 d17)
    (a18 : PySem.W.nsIn K mainGlobals "_law_steps" = some (some (.ref f18))) (l18 : Fun K "_law_steps" "_law_steps" s__law_steps f18 d18)
    (a19 : PySem.W.nsIn K mainGlobals "_law_walked" = some (some (.ref f19))) (l19 : Fun K "_law_walked" "_law_walked" s__law_walked f19 d19)
    (a20 : PySem.W.nsIn K mainGlobals "law" = some (some (.ref f20))) (l20 : Fun K "law" "law" s_law f20 d20)
    (z_len : PySem.W.nsIn K mainGlobals "len" = some none)
    (z_range : PySem.W.nsIn K mainGlobals "range" = some none)
    (z_abs : PySem.W.nsIn K mainGlobals "abs" = some none)
    (z_isinstance : PySem.W.nsIn K mainGlobals "isinstance" = some none)
    (z_int : PySem.W.nsIn K mainGlobals "int" = some none)
    (z_bool : PySem.W.nsIn K mainGlobals "bool" = some none)
    (z_all : PySem.W.nsIn K mainGlobals "all" = some none)
    (z_any : PySem.W.nsIn K mainGlobals "any" = some none)
    (z_sorted : PySem.W.nsIn K mainGlobals "sorted" = some none)
    (z_max : PySem.W.nsIn K mainGlobals "max" = some none)
    (z_min : PySem.W.nsIn K mainGlobals "min" = some none)
    (z_list : PySem.W.nsIn K mainGlobals "list" = some none)
    (z_zip : PySem.W.nsIn K mainGlobals "zip" = some none)
    (z_enumerate : PySem.W.nsIn K mainGlobals "enumerate" = some none)
    (z_ValueError : PySem.W.nsIn K mainGlobals "ValueError" = some none) :
    ∃ fd : FuncData, (∀ (s : Shared) (v : Value), BindsTo s fd ⟨[v], []⟩ [("_law_script", v)]) ∧ ∀ base : Heap, K.In base → base.Ns mainGlobals mg → FnOk l.prog w K mg base CX0 8 fa fd ["_law_script"] (spLaw K) := by
  have e := hfa.symm.trans (PySem.W.mg_of X G a20)
  cases e
  have b_len : mg "len" = none := PySem.W.mg_none_of X G z_len
  have b_range : mg "range" = none := PySem.W.mg_none_of X G z_range
  have b_abs : mg "abs" = none := PySem.W.mg_none_of X G z_abs
  have b_isinstance : mg "isinstance" = none := PySem.W.mg_none_of X G z_isinstance
  have b_int : mg "int" = none := PySem.W.mg_none_of X G z_int
  have b_bool : mg "bool" = none := PySem.W.mg_none_of X G z_bool
  have b_all : mg "all" = none := PySem.W.mg_none_of X G z_all
  have b_any : mg "any" = none := PySem.W.mg_none_of X G z_any
  have b_sorted : mg "sorted" = none := PySem.W.mg_none_of X G z_sorted
  have b_max : mg "max" = none := PySem.W.mg_none_of X G z_max
  have b_min : mg "min" = none := PySem.W.mg_none_of X G z_min
  have b_list : mg "list" = none := PySem.W.mg_none_of X G z_list
  have b_zip : mg "zip" = none := PySem.W.mg_none_of X G z_zip
  have b_enumerate : mg "enumerate" = none := PySem.W.mg_none_of X G z_enumerate
  have b_ValueError : mg "ValueError" = none := PySem.W.mg_none_of X G z_ValueError
  have g_MOST_WORDS := PySem.W.mg_of X G ag_MOST_WORDS
  have g_TooMany : mg "TooMany" = some (.ref a_TooMany) := PySem.W.mg_of X G ag_TooMany
  have g_WordWay : mg "WordWay" = some (.ref a_WordWay) := PySem.W.mg_of X G ag_WordWay
  have F_put := l0
  have B_put := F_put.binds (ps := ["odd", "words"]) fun _ _ _ _ _ _ us hl => match us, hl with | [_, _], _ => rfl
  have F_added := l1
  have B_added := F_added.binds (ps := ["one", "other"]) fun _ _ _ _ _ _ us hl => match us, hl with | [_, _], _ => rfl
  have F_multiplied := l2
  have B_multiplied := F_multiplied.binds (ps := ["one", "other"]) fun _ _ _ _ _ _ us hl => match us, hl with | [_, _], _ => rfl
  have F_WordWay_nought := l3
  have B_WordWay_nought := F_WordWay_nought.binds (ps := ["self"]) fun _ _ _ _ _ _ us hl => match us, hl with | [_], _ => rfl
  have F_WordWay_unit := l4
  have B_WordWay_unit := F_WordWay_unit.binds (ps := ["self"]) fun _ _ _ _ _ _ us hl => match us, hl with | [_], _ => rfl
  have F_WordWay_plus := l5
  have B_WordWay_plus := F_WordWay_plus.binds (ps := ["self", "one", "other"]) fun _ _ _ _ _ _ us hl => match us, hl with | [_, _, _], _ => rfl
  have F_WordWay_times := l6
  have B_WordWay_times := F_WordWay_times.binds (ps := ["self", "one", "other"]) fun _ _ _ _ _ _ us hl => match us, hl with | [_, _, _], _ => rfl
  have F_behind_birth := l7
  have B_behind_birth := F_behind_birth.binds (ps := ["table", "k", "way"]) fun _ _ _ _ _ _ us hl => match us, hl with | [_, _, _], _ => rfl
  have F_behind_crossing := l8
  have B_behind_crossing := F_behind_crossing.binds (ps := ["table", "k", "name", "way"]) fun _ _ _ _ _ _ us hl => match us, hl with | [_, _, _, _], _ => rfl
  have F_behind_end := l9
  have B_behind_end := F_behind_end.binds (ps := ["table", "k", "name", "way"]) fun _ _ _ _ _ _ us hl => match us, hl with | [_, _, _, _], _ => rfl
  have F_table_behind := l10
  have B_table_behind := F_table_behind.binds (ps := ["table", "letter", "name", "way"]) fun _ _ _ _ _ _ us hl => match us, hl with | [_, _, _, _], _ => rfl
  have F_check_words := l11
  have B_check_words := F_check_words.binds (ps := ["table"]) fun _ _ _ _ _ _ us hl => match us, hl with | [_], _ => rfl
  have F_sum_tables := l12
  have B_sum_tables := F_sum_tables.binds (ps := ["drawing"]) fun _ _ _ _ _ _ us hl => match us, hl with | [_], _ => rfl
  have F_between := l13
  have B_between := F_between.binds (ps := ["drawing"]) fun _ _ _ _ _ _ us hl => match us, hl with | [_], _ => rfl
  have F__law_bag := l14
  have B__law_bag := F__law_bag.binds (ps := ["_law_script", "_law_at"]) fun _ _ _ _ _ _ us hl => match us, hl with | [_, _], _ => rfl
  have F__law_take := l15
  have B__law_take := F__law_take.binds (ps := ["_law_bag_here", "_law_many"]) fun _ _ _ _ _ _ us hl => match us, hl with | [_, _], _ => rfl
  have F__law_odd := l16
  have B__law_odd := F__law_odd.binds (ps := ["_law_words"]) fun _ _ _ _ _ _ us hl => match us, hl with | [_], _ => rfl
  have F__law_simple := l17
  have B__law_simple := F__law_simple.binds (ps := ["_law_bag_here"]) fun _ _ _ _ _ _ us hl => match us, hl with | [_], _ => rfl
  have F__law_steps := l18
  have B__law_steps := F__law_steps.binds (ps := ["_law_k", "_law_name", "_law_i", "_law_j"]) fun _ _ _ _ _ _ us hl => match us, hl with | [_, _, _, _], _ => rfl
  have F__law_walked := l19
  have B__law_walked := F__law_walked.binds (ps := ["_law_letters", "_law_i", "_law_j"]) fun _ _ _ _ _ _ us hl => match us, hl with | [_, _, _], _ => rfl
  have F_law := l20
  have B_law := F_law.binds (ps := ["_law_script"]) fun _ _ _ _ _ _ us hl => match us, hl with | [_], _ => rfl
  obtain ⟨oc, od, kV, dc, pm, an, cd, ct, sl, rfl, _, _⟩ := l20.ex
  refine ⟨PySem.W.fnOf "law" "law" (defArgs s_law) (defBody s_law) (defScope s_law) .none kV dc pm an cd ct, fun s v => .of_eq rfl, fun base _ _ => ?_⟩
  have h_put : Has l.prog w K mg base 1 "put" ["odd", "words"] spPut := has_mk (ok_put F_put) (PySem.W.mg_of X G a0) l0.kp B_put
  have h_added : Has l.prog w K mg base 2 "added" ["one", "other"] spAdded := has_mk (ok_added F_added h_put b_sorted) (PySem.W.mg_of X G a1) l1.kp B_added
  have h_multiplied : Has l.prog w K mg base 2 "multiplied" ["one", "other"] spMult := has_mk (ok_mult F_multiplied h_put b_sorted) (PySem.W.mg_of X G a2) l2.kp B_multiplied
  have m_nought : HasM l.prog w K mg base 1 a_WordWay "nought" ["self"] (spNought a_WordWay) := hasM_mk (ok_nought F_WordWay_nought) a3 n3 l3.kp B_WordWay_nought
  have m_unit : HasM l.prog w K mg base 1 a_WordWay "unit" ["self"] (spUnit a_WordWay) := hasM_mk (ok_unit F_WordWay_unit) a4 n4 l4.kp B_WordWay_unit
  have m_plus : HasM l.prog w K mg base 3 a_WordWay "plus" ["self", "one", "other"] spPlusM := hasM_mk (ok_plusM F_WordWay_plus h_added) a5 n5 l5.kp B_WordWay_plus
  have m_times : HasM l.prog w K mg base 3 a_WordWay "times" ["self", "one", "other"] spTimesM := hasM_mk (ok_timesM F_WordWay_times h_multiplied) a6 n6 l6.kp B_WordWay_times
  have h_behind_birth : Has l.prog w K mg base 2 "behind_birth" ["table", "k", "way"] (spBirth a_WordWay) := has_mk (ok_birth F_behind_birth c_way m_nought m_unit b_range b_len) (PySem.W.mg_of X G a7) l7.kp B_behind_birth
  have h_behind_crossing : Has l.prog w K mg base 4 "behind_crossing" ["table", "k", "name", "way"] (spCross a_WordWay) := has_mk (ok_cross F_behind_crossing c_way m_nought m_plus m_times b_range b_len b_list) (PySem.W.mg_of X G a8) l8.kp B_behind_crossing
  have h_behind_end : Has l.prog w K mg base 4 "behind_end" ["table", "k", "name", "way"] (spEnd a_WordWay) := has_mk (ok_end F_behind_end c_way m_plus m_times b_range b_len b_zip) (PySem.W.mg_of X G a9) l9.kp B_behind_end
  have h_table_behind : Has l.prog w K mg base 5 "table_behind" ["table", "letter", "name", "way"] (spTB a_WordWay) := has_mk (ok_tb F_table_behind h_behind_birth h_behind_crossing h_behind_end) (PySem.W.mg_of X G a10) l10.kp B_table_behind
  have h_check_words : HasX l.prog w K mg base 1 "check_words" ["table"] (spCW a_TooMany) := hasX_mk (ok_cw F_check_words g_TooMany x_TooMany g_MOST_WORDS b_len) (PySem.W.mg_of X G a11) l11.kp B_check_words
  have h_sum_tables : HasX l.prog w K mg base 6 "sum_tables" ["drawing"] (spST a_TooMany a_WordWay) := hasX_mk (ok_st F_sum_tables g_WordWay k_WordWay h_table_behind h_check_words b_enumerate) (PySem.W.mg_of X G a12) l12.kp B_sum_tables
  have h_between : HasX l.prog w K mg base 7 "between" ["drawing"] (spBtw a_TooMany) := hasX_mk (ok_btw F_between h_sum_tables b_list) (PySem.W.mg_of X G a13) l13.kp B_between
  have h__law_bag : Has l.prog w K mg base 1 "_law_bag" ["_law_script", "_law_at"] (spBag K) := has_mk (ok_bag F__law_bag b_len b_abs) (PySem.W.mg_of X G a14) l14.kp B__law_bag
  have h__law_take : Has l.prog w K mg base 1 "_law_take" ["_law_bag_here", "_law_many"] spTake := has_mk (ok_take F__law_take) (PySem.W.mg_of X G a15) l15.kp B__law_take
  have h__law_odd : Has l.prog w K mg base 1 "_law_odd" ["_law_words"] spOdd := has_mk (ok_odd F__law_odd b_sorted) (PySem.W.mg_of X G a16) l16.kp B__law_odd
  have h__law_simple : Has l.prog w K mg base 2 "_law_simple" ["_law_bag_here"] spSimple := has_mk (ok_simple F__law_simple h__law_take b_range b_len) (PySem.W.mg_of X G a17) l17.kp B__law_simple
  have h__law_steps : Has l.prog w K mg base 1 "_law_steps" ["_law_k", "_law_name", "_law_i", "_law_j"] spSteps := has_mk (ok_steps F__law_steps) (PySem.W.mg_of X G a18) l18.kp B__law_steps
  have h__law_walked : Has l.prog w K mg base 2 "_law_walked" ["_law_letters", "_law_i", "_law_j"] spWalked := has_mk (ok_walked F__law_walked h__law_steps h__law_odd b_range b_len b_int) (PySem.W.mg_of X G a19) l19.kp B__law_walked
  exact ok_law F_law g_TooMany x_TooMany m_TooMany h__law_bag h__law_simple h_between h__law_walked b_range b_len b_max b_min
theorem walk {l : PySem.W.OpenLaw} {q : Program} {loose : List Str} {XP : (Str → Option Value) → Heap → Prop} {YP : World → Heap → Prop} {d : DefRec} {K : Params → PySem.W.Frag} (hn : l.most = some 63) (hdf : d.params.defaults = [])
    (hY : ∀ (w : World) (h : Heap), YP w h → (K w.params).In h)
    (F : ∀ (w : World) (mg : Str → Option Value) (fa : Addr) (h : Heap), (K w.params).In h → h.Ns mainGlobals mg → mg d.name = some (.ref fa) →
      ∃ fd : FuncData, (∀ (s : Shared) (u : Value), BindsTo s fd ⟨[u], []⟩ [("_law_script", u)]) ∧ ∀ base : Heap, (K w.params).In base → base.Ns mainGlobals mg → FnOk l.prog w (K w.params) mg base CX0 8 fa fd ["_law_script"] (spLaw (K w.params))) :
    PySem.W.WalkO q loose XP YP l.row.toRowW d [] (fun f vs => PySem.call f vs) :=
  L2.walk_of (n := 63) (k := 8) (x := "_law_script") (CX := fun _ => CX0) (sp := fun w => spLaw (K w.params)) hn (by decide) hdf ⟨rfl, by decide, by decide⟩ hY F (fun _ _ a ns hl _ hS => ⟨a, ns, rfl, hS, hl, fun _ => rfl⟩) fun _ _ _ _ _ z => z
end
end Qk17

namespace PySem.W.Fast
def tw16592928998855097472:=0
def tw14006041760521192672:=0
def tw11116499949032314304:=0
def tw2766177886719537600:=0
def tw13260042449790127584:=0
def tw15251988816461455936:=0
def tw10285403246112593600:=0
def tw6712435189645612832:=0
def tw9079993073440644257:=0
def tw17444219134410865889:=0
def tw13519337168364011809:=0
def tw2810159475033825793:=0
def tw12657780694495264673:=0
def tw2809632095255651265:=0
def tw16069935150105027650:=0
def tw675957332872861826:=0
def tw7330418099601210882:=0
def tw3093090727728414755:=0
def tw7256392678885712963:=0
def tw11947502759310062691:=0
def tw6369337289130078339:=0
def tw14255999610389040291:=0
def tw18045492000954590403:=0
def tw16471295882387130019:=0
def tw3630436834574841507:=0
def tw15567993901393392291:=0
def tw14785544301148426979:=0
def tw18275716768406645764:=0
def tw9363137435500501060:=0
def tw11615551887585419428:=0
def tw7243121774028933348:=0
def tw4029042738881022149:=0
def tw4770599543532708069:=0
def tw5090232917342238181:=0
def tw3465860278444575621:=0
def tw13856010040031491110:=0
def tw13940127696224874790:=0
def tw10748986493545831846:=0
def tw2521774375223487974:=0
def tw16731489991664793094:=0
def tw17282048732784693766:=0
def tw1363310587450366662:=0
def tw11456606362532620998:=0
def tw3708331333133629190:=0
def tw9787753979428072262:=0
def tw8466695131652617223:=0
def tw15180035689879482407:=0
def tw14896292158556381447:=0
def tw2791905948551964423:=0
def tw11171815850381374792:=0
def tw4721719477589436936:=0
def tw14184135593171614376:=0
def tw860779056202658600:=0
def tw6952747788984804585:=0
def tw16445491669202065801:=0
def tw426243927083328041:=0
def tw16828676015078563114:=0
def tw11883237995864657290:=0
def tw8117497476926113290:=0
def tw4011953133201822250:=0
def tw4771775713953752650:=0
def tw16835651259469525578:=0
def tw12236052865279978218:=0
def tw2654681384907388139:=0
def tw8277648178339115:=0
def tw1481424965488148811:=0
def tw3408656462254626219:=0
def tw10973958893487747659:=0
def tw1662572872465067947:=0
def tw14486682543482599788:=0
def tw14603876809882545740:=0
def tw6734939125066030732:=0
def tw13674880593919085196:=0
def tw13593926969172816684:=0
def tw14476512581303398252:=0
def tw14043992842037801868:=0
def tw3764869480271826093:=0
def tw11513622426533379214:=0
def tw8385849881616743982:=0
def tw4437377602867608270:=0
def tw17214080068879328174:=0
def tw17289669142959793102:=0
def tw9858451636434095311:=0
def tw12921117521102414063:=0
def tw5845958609119497711:=0
def tw15258768838903791984:=0
def tw2415735662295016944:=0
def tw2684130843166631472:=0
def tw3295771351099848304:=0
def tw2256458439133782832:=0
def tw3847743753347223376:=0
def tw1914025615102355440:=0
def tw1917113826169667601:=0
def tw3085682685216260113:=0
def tw4879668132938212785:=0
def tw3922789904299530833:=0
def tw12029822711022073617:=0
def tw7516389801862480817:=0
def tw9301718691680584882:=0
def tw18445794187029514610:=0
def tw7679734301068090930:=0
def tw8775167830935993459:=0
def tw13427201377607887059:=0
def tw16338996749295220147:=0
def tw10469938118682390003:=0
def tw3633840812236578419:=0
def tw3847254109659970291:=0
def tw12856768944450897875:=0
def tw11651087909094062292:=0
def tw17813781386598816180:=0
def tw9935363288110920180:=0
def tw841136164403304469:=0
def tw10094678853621878069:=0
def tw9864970524879191413:=0
def tw15857803943832673813:=0
def tw4773875350111604405:=0
def tw9329169426908242741:=0
def tw10235115007970637717:=0
def tw14595778948449742902:=0
def tw12361557572422399478:=0
def tw5763605952473725622:=0
def tw8619728250660658902:=0
def tw18014177170866406166:=0
def tw1545278944382584694:=0
def tw10481711996980807542:=0
def tw3625412248059162518:=0
def tw13950410071074288598:=0
def tw15249910996997056535:=0
def tw9544731741456276855:=0
def tw1491346446366542295:=0
def tw16046570840116108951:=0
def tw8017690178398354167:=0
def tw3913025606065943896:=0
def tw7997782654516135256:=0
def tw15143622332751501752:=0
def tw11699417307016315448:=0
def tw11305023870786485080:=0
def tw16164716415430232729:=0
def tw727222810064026329:=0
def tw14733136295915780314:=0
def tw4214282974713320250:=0
def tw3083115256103411610:=0
def tw5132757889598259227:=0
def tw1765357986892635195:=0
def tw17461458330510912635:=0
def tw18036083673799716443:=0
def tw17342628165551362683:=0
def tw11429311772455678971:=0
def tw4089318479062514716:=0
def tw14093021432445375676:=0
def tw11295150880909177340:=0
def tw2548220399717394012:=0
def tw12160849882498524028:=0
def tw10291178498946322589:=0
def tw2712238508335653437:=0
def tw14892939280424019549:=0
def tw8602892492304435869:=0
def tw2579331976224957149:=0
def tw4266521202147699485:=0
def tw12392625198177219581:=0
def tw14855027969031629886:=0
def tw10855230696332055710:=0
def tw18369253576916206014:=0
def tw2976871527453297150:=0
def tw3857868645220811518:=0
def tw6248422011687096511:=0
def tw4948647017555104063:=0
def tw15949173232744166943:=0
def tw6540407027754136127:=0
def tw8790405402921010783:=0
def tw2892233509239514783:=0
def tw7766231545369089983:=0
end PySem.W.Fast
open PySem PySem.W PyProof.Rows
set_option maxRecDepth 100000 in
set_option maxHeartbeats 0 in
theorem PySem.Challenge.cw_bendfronts_k17_left_walks_holds : PySem.Challenge.rw_bendfronts_k17_left_walks.Holds := by
  w_on; o_law; k_head; (case hw => w_witness2)
  k_fill
  refine Qk17.walk (l := PySem.Challenge.rw_bendfronts_k17_left_walks) rfl rfl (fun w h Y => PySem.W.kIn_of Y) ?F
  case F =>
    intro w mg fa h KX G hmg
    refine' Qk17.all_mk KX G hmg ?ag_MOST_WORDS ?ag_TooMany ?ag_WordWay ?x_TooMany ?c_way ?k_WordWay ?m_TooMany ?a0 ?l0 ?a1 ?l1 ?a2 ?l2 ?a3 ?l3 ?n3 ?a4 ?l4 ?n4 ?a5 ?l5 ?n5 ?a6 ?l6 ?n6 ?a7 ?l7 ?a8 ?l8 ?a9 ?l9 ?a10 ?l10 ?a11 ?l11 ?a12 ?l12 ?a13 ?l13 ?a14 ?l14 ?a15 ?l15 ?a16 ?l16 ?a17 ?l17 ?a18 ?l18 ?a19 ?l19 ?a20 ?l20 ?z_len ?z_range ?z_abs ?z_isinstance ?z_int ?z_bool ?z_all ?z_any ?z_sorted ?z_max ?z_min ?z_list ?z_zip ?z_enumerate ?z_ValueError
    (case ag_MOST_WORDS => first | k_is | rfl)
    (case ag_TooMany => k_is)
    (case ag_WordWay => k_is)
    (case x_TooMany => k_exc)
    (case c_way => exact ⟨by first | k_is | rfl | decide +kernel, by first | k_is | rfl | decide +kernel, by first | k_is | rfl | decide +kernel, by first | k_is | rfl | decide +kernel⟩)
    (case k_WordWay => exact ⟨by first | k_is | rfl | decide +kernel, by first | k_is | rfl | decide +kernel, by first | k_is | rfl | decide +kernel⟩)
    (case m_TooMany => first | k_is | rfl | decide +kernel)
    (case a0 => k_is)
    (case l0 => exact L2.fun_mk (by k_is) (by k_is) (by k_is))
    (case a1 => k_is)
    (case l1 => exact L2.fun_mk (by k_is) (by k_is) (by k_is))
    (case a2 => k_is)
    (case l2 => exact L2.fun_mk (by k_is) (by k_is) (by k_is))
    (case a3 => first | k_is | rfl | decide +kernel)
    (case l3 => exact L2.fun_mk (by k_is) (by k_is) (by k_is))
    (case n3 => first | k_is | rfl | decide +kernel)
    (case a4 => first | k_is | rfl | decide +kernel)
    (case l4 => exact L2.fun_mk (by k_is) (by k_is) (by k_is))
    (case n4 => first | k_is | rfl | decide +kernel)
    (case a5 => first | k_is | rfl | decide +kernel)
    (case l5 => exact L2.fun_mk (by k_is) (by k_is) (by k_is))
    (case n5 => first | k_is | rfl | decide +kernel)
    (case a6 => first | k_is | rfl | decide +kernel)
    (case l6 => exact L2.fun_mk (by k_is) (by k_is) (by k_is))
    (case n6 => first | k_is | rfl | decide +kernel)
    (case a7 => k_is)
    (case l7 => exact L2.fun_mk (by k_is) (by k_is) (by k_is))
    (case a8 => k_is)
    (case l8 => exact L2.fun_mk (by k_is) (by k_is) (by k_is))
    (case a9 => k_is)
    (case l9 => exact L2.fun_mk (by k_is) (by k_is) (by k_is))
    (case a10 => k_is)
    (case l10 => exact L2.fun_mk (by k_is) (by k_is) (by k_is))
    (case a11 => k_is)
    (case l11 => exact L2.fun_mk (by k_is) (by k_is) (by k_is))
    (case a12 => k_is)
    (case l12 => exact L2.fun_mk (by k_is) (by k_is) (by k_is))
    (case a13 => k_is)
    (case l13 => exact L2.fun_mk (by k_is) (by k_is) (by k_is))
    (case a14 => k_is)
    (case l14 => exact L2.fun_mk (by k_is) (by k_is) (by k_is))
    (case a15 => k_is)
    (case l15 => exact L2.fun_mk (by k_is) (by k_is) (by k_is))
    (case a16 => k_is)
    (case l16 => exact L2.fun_mk (by k_is) (by k_is) (by k_is))
    (case a17 => k_is)
    (case l17 => exact L2.fun_mk (by k_is) (by k_is) (by k_is))
    (case a18 => k_is)
    (case l18 => exact L2.fun_mk (by k_is) (by k_is) (by k_is))
    (case a19 => k_is)
    (case l19 => exact L2.fun_mk (by k_is) (by k_is) (by k_is))
    (case a20 => k_is)
    (case l20 => exact L2.fun_mk (by k_is) (by k_is) (by k_is))
    (case z_len => k_is)
    (case z_range => k_is)
    (case z_abs => k_is)
    (case z_isinstance => k_is)
    (case z_int => k_is)
    (case z_bool => k_is)
    (case z_all => k_is)
    (case z_any => k_is)
    (case z_sorted => k_is)
    (case z_max => k_is)
    (case z_min => k_is)
    (case z_list => k_is)
    (case z_zip => k_is)
    (case z_enumerate => k_is)
    (case z_ValueError => k_is)


import PyProof.Rows.All
import Wide.All
import OpenK.AllK
import Wide.FinOn
import Lean
import PyProof.EqAt
import PyProof.EqKinds
import PyProof.TupleCall
import PySem.Challenge.RW_bendfronts_k05_pieces
set_option Elab.async false
set_option linter.all false
set_option maxRecDepth 100000
/-! THE HAND LAYER, for ints, bools, texts, own classes, LISTS and tuples (index, slices, in, append, pop ..), calls, loops. Paste it whole ahead of your own text; what your proof does not reach may be deleted. -/
namespace L2
open PySem PySem.Spec PyProof.Rows

/-- a key: an int or a str -/
abbrev Key := Sum Int Str
def keyIs : Key → Value → Bool
  | .inl k, v => Value.isInt k v
  | .inr x, v => Value.isStrOf x v
def keyH (w : World) : Key → Int
  | .inl k => hashInt k
  | .inr x => hashStr w x
theorem keyIs_shape : ∀ {k : Key} {v : Value}, keyIs k v = true → (∃ i t, k = Sum.inl i ∧ v = Value.int i t) ∨ (∃ x t, k = Sum.inr x ∧ v = Value.str x t)
  | .inl i, v, h => by
    obtain ⟨t, e⟩ := Value.isInt_shape (k := i) (v := v) h
    exact .inl ⟨i, t, rfl, e⟩
  | .inr x, v, h => by
    obtain ⟨t, e⟩ := Value.isStrOf_shape (x := x) (v := v) h
    exact .inr ⟨x, t, rfl, e⟩
theorem key_ll (a b : Int) : decide ((Sum.inl a : Key) = Sum.inl b) = (a == b) := by
  by_cases e : a = b
  · subst e; simp
  · have h : ¬ (Sum.inl a : Key) = Sum.inl b := fun q => e (Sum.inl.inj q)
    rw [decide_eq_false h]
    exact (beq_eq_false_iff_ne.mpr e).symm
theorem key_rr (a b : Str) : decide ((Sum.inr a : Key) = Sum.inr b) = decide (a = b) := by
  by_cases e : a = b
  · subst e; simp
  · have h : ¬ (Sum.inr a : Key) = Sum.inr b := fun q => e (Sum.inr.inj q)
    rw [decide_eq_false h, decide_eq_false e]
theorem key_lr (a : Int) (b : Str) : decide ((Sum.inl a : Key) = Sum.inr b) = false := decide_eq_false (fun q => nomatch q)
theorem key_rl (a : Str) (b : Int) : decide ((Sum.inr a : Key) = Sum.inl b) = false := decide_eq_false (fun q => nomatch q)

def mixKind (prog : Program) (w : World) : PySem.KeyKind prog w Key where
  is := keyIs
  hash := keyH w
  inj := fun v a b ha hb => by
    rcases keyIs_shape ha with ⟨i, t, rfl, rfl⟩ | ⟨x, t, rfl, rfl⟩
    · rcases keyIs_shape hb with ⟨j, u, rfl, e⟩ | ⟨y, u, rfl, e⟩
      · injection e with e1 _; rw [e1]
      · exact nomatch e
    · rcases keyIs_shape hb with ⟨j, u, rfl, e⟩ | ⟨y, u, rfl, e⟩
      · exact nomatch e
      · injection e with e1 _; rw [e1]
  byValue := fun k v h => by
    rcases keyIs_shape h with ⟨i, t, rfl, rfl⟩ | ⟨x, t, rfl, rfl⟩ <;> rfl
  pyHash := fun hv h => by
    rcases keyIs_shape hv with ⟨i, t, rfl, rfl⟩ | ⟨x, t, rfl, rfl⟩
    · exact wpAny_pyHash_int h
    · exact wpAny_pyHash_str h
  eqBool := fun hu hv h => by
    rcases keyIs_shape hu with ⟨i, t, rfl, rfl⟩ | ⟨x, t, rfl, rfl⟩
    · rcases keyIs_shape hv with ⟨j, u, rfl, rfl⟩ | ⟨y, u, rfl, rfl⟩
      · rw [key_ll] at h; exact wpAny_eqBool_int h
      · rw [key_lr] at h; exact SeqAt.EqAt.int_str i t y u _ _ _ _ h
    · rcases keyIs_shape hv with ⟨j, u, rfl, rfl⟩ | ⟨y, u, rfl, rfl⟩
      · rw [key_rl] at h; exact SeqAt.EqAt.str_int x t j u _ _ _ _ h
      · rw [key_rr] at h; exact wpAny_eqBool_str h
  «strs» := fun k x t v h => by
    rcases keyIs_shape h with ⟨i, u, rfl, e⟩ | ⟨y, u, rfl, e⟩
    · exact nomatch e
    · injection e with e1 _
      subst e1
      cases v <;> rfl

end L2

namespace L2
open PySem PySem.Spec PyProof.Rows

/-- a value, without the heap -/
inductive V where
  | non | bl (b : Bool) | int (i : Int) | str (x : Str) | byt (b : Array UInt8) | flt (b : UInt64) | ref (a : Addr) | ty (n : String)
  deriving DecidableEq

def RelV : V → Value → Prop
  | .non, u => u = Value.none
  | .bl b, u => u = Value.bool b
  | .int i, u => ∃ t, u = Value.int i t
  | .str x, u => ∃ t, u = Value.str x t
  | .byt b, u => ∃ t, u = Value.bytes b t
  | .flt b, u => ∃ t, u = Value.float b t
  | .ref a, u => u = Value.ref a
  | .ty n, u => u = Value.type n

abbrev Vals : List V → List Value → Prop := Paired RelV
theorem Vals.length {xs : List V} {us : List Value} (r : Vals xs us) : xs.length = us.length := Paired.length r
theorem Vals.get : ∀ {xs : List V} {us : List Value} {i : Nat} {x : V}, Vals xs us → xs[i]? = some x → ∃ u, us[i]? = some u ∧ RelV x u
  | _, _, _, _, .nil, e => by simp at e
  | _, _, 0, _, .cons r _, e => by simp at e; subst e; exact ⟨_, rfl, r⟩
  | _, _, i + 1, x, .cons _ t, e => by
    obtain ⟨u, h1, h2⟩ := Vals.get (i := i) (x := x) t (by simpa using e)
    exact ⟨u, by simpa using h1, h2⟩
theorem Vals.set {x : V} {u : Value} (r : RelV x u) : ∀ {xs : List V} {us : List Value} (i : Nat), Vals xs us → Vals (xs.set i x) (us.set i u)
  | _, _, _, .nil => .nil
  | _, _, 0, .cons _ t => .cons r t
  | _, _, i + 1, .cons q t => .cons q (Vals.set r i t)
theorem Vals.append : ∀ {xs ys : List V} {us ws : List Value}, Vals xs us → Vals ys ws → Vals (xs ++ ys) (us ++ ws)
  | _, _, _, _, .nil, s => s
  | _, _, _, _, .cons r t, s => .cons r (Vals.append t s)
theorem Vals.take : ∀ {xs : List V} {us : List Value} (n : Nat), Vals xs us → Vals (xs.take n) (us.take n)
  | _, _, 0, _ => .nil
  | _, _, _ + 1, .nil => .nil
  | _, _, n + 1, .cons r t => .cons r (Vals.take n t)
theorem Vals.drop : ∀ {xs : List V} {us : List Value} (n : Nat), Vals xs us → Vals (xs.drop n) (us.drop n)
  | _, _, 0, r => r
  | _, _, _ + 1, .nil => .nil
  | _, _, n + 1, .cons _ t => Vals.drop n t
def RelO : Option V → Option Value → Prop
  | some v, some u => RelV v u
  | none, none => True
  | _, _ => False
def KV {κ : Type} : List (κ × V) → List (κ × Value) → Prop := Paired fun (p : κ × V) (q : κ × Value) => p.1 = q.1 ∧ RelV p.2 q.2

/-- a key of a dict (00_mix): an int or a text -/
def kV : Key → V
  | .inl i => .int i
  | .inr x => .str x

/-- what stands at a tracked address -/
inductive HO where
  /-- a list -/
  | lst (xs : List V)
  /-- a tuple (never changes) -/
  | tup (xs : List V)
  /-- a dict whose keys are ints and texts; one whose keys are tuples of ints and texts (the empty one is both) -/
  | dK (kvs : List (Key × V)) | dT (kvs : List (List Key × V))
  /-- a set of ints: its members, its size -/
  | set (S : Int → Bool) (n : Nat)
  /-- an instance of the class at C, its dict at dx, its attributes -/
  | ins (C dx : Addr) (fs : List (Str × V))
  /-- the dict of the instance at x -/
  | own (x : Addr)
  /-- the dict of an exception -/
  | xd (fs : List (Str × V))
  /-- a bound method, f of x -/
  | met (f x : Addr)
  /-- a range object lo, lo + 1, .. below hi -/
  | rng (lo hi : Int)
  /-- a thing that is known to the object (the script; a dict while a loop walks it): read, never written while it is so -/
  | frz (o : Obj) (u : HO)
  /-- a code object's table -/
  | tbl (ps : Array Value)
  /-- any other thing, by what is true of its one object (a def of one's own: SetO a S n := HO.ext fun h => ..) -/
  | ext (φ : Heap → Prop)

abbrev Hp := Addr → Option HO
def upd (H : Hp) (a : Addr) (o : HO) : Hp := fun b => if b = a then some o else H b
theorem upd_same {H : Hp} {a : Addr} {o : HO} : upd H a o a = some o := by unfold upd; rw [if_pos rfl]
theorem upd_ne {H : Hp} {a b : Addr} {o : HO} (h : b ≠ a) : upd H a o b = H b := by unfold upd; rw [if_neg h]
theorem upd_upd {H : Hp} {a : Addr} {o u : HO} : upd (upd H a o) a u = upd H a u := by
  funext b; unfold upd; split <;> rfl
/-- two objects of different content stand apart -/
theorem ne_of {H : Hp} {a b : Addr} {o u : HO} (h : H a = some o) (h' : H b = some u) (d : o ≠ u) : a ≠ b := by
  intro e; subst e; rw [h] at h'; exact d (Option.some.inj h')
theorem ne_of_none {H : Hp} {a b : Addr} {o : HO} (h : H a = some o) (h' : H b = none) : a ≠ b := by
  intro e; subst e; rw [h] at h'; cases h'

section
variable (P : Program) (w : World)
def ObjOk (H : Hp) (h : Heap) (a : Addr) : HO → Prop
  | .lst xs => xs.length ≤ sizeLine ∧ ∃ (its : List Value) (n : Nat), Vals xs its ∧ h.get? a = some { cls := .type "list", data := .seq its.toArray n }
  | .tup xs => xs.length ≤ sizeLine ∧ ∃ its : List Value, Vals xs its ∧ IsTup h a its.toArray
  | .dK kvs => kvs.length ≤ sizeLine ∧ (a == sysModules) = false ∧ ∃ vs, KV kvs vs ∧ h.DictOf (mixKind P w) a vs
  | .dT kvs => kvs.length ≤ sizeLine ∧ (a == sysModules) = false ∧ ∃ xs : List (List Key × Addr × Value),
      Paired (fun (p : List Key × V) (q : List Key × Addr × Value) => p.1 = q.1 ∧ H q.2.1 = some (.tup (p.1.map kV)) ∧ RelV p.2 q.2.2) kvs xs ∧
      ∃ o es ep, h.get? a = some o ∧ o.ExactDict ∧ o.data = .dict es ep ∧ es.toList = xs.map (entryOfKey (tupleKind (mixKind P w))) ∧ (xs.map (·.1)).Nodup
  | .set S n => h.SetOf (intKind P w) a S n
  | .ins C dx fs => H dx = some (.own a) ∧ fs.length ≤ 1000 ∧ dx ≠ a ∧ h.get? a = some (PySem.W.instObj C dx) ∧
      ∃ mA, h.Ns1 dx mA ∧ (∀ f, RelO (fs.lookup f) (mA f)) ∧ PySem.Within mA (fs.map (·.1))
  | .own _ => ∃ o, h.get? a = some o
  | .xd fs => ∃ mA, h.Ns1 a mA ∧ ∀ f, RelO (fs.lookup f) (mA f)
  | .rng lo hi => ∃ t u v, h.get? a = some { cls := .type "range", data := .fields #[.int lo t, .int hi u, .int 1 v] }
  | .frz o u => h.get? a = some o ∧ ObjOk H h a u
  | .tbl ps => h.get? a = some { cls := .none, data := .fields ps }
  | .met f x => h.get? a = some (PySem.W.methodObj (.ref f) (.ref x))
  | .ext φ => φ h ∧ (∃ o, h.get? a = some o) ∧ ∀ h1 h2 : Heap, φ h1 → (∀ o, h1.get? a = some o → h2.get? a = some o) → φ h2
/-- the abstract heap is held -/
def HOk (H : Hp) (h : Heap) : Prop := ∀ a o, H a = some o → ObjOk P w H h a o
end

section
variable {P : Program} {w : World} {H H' : Hp} {h h' : Heap} {a : Addr} {o : HO}
theorem ObjOk.lt (x : ObjOk P w H h a o) : a < h.objs.size := by
  cases o with
  | lst xs => obtain ⟨_, _, _, _, e⟩ := x; exact Heap.lt_size e
  | tup xs => obtain ⟨_, _, _, p⟩ := x; exact p.lt
  | dK kvs => obtain ⟨_, _, _, _, o, _, _, e, _⟩ := x; exact Heap.lt_size e
  | dT kvs => obtain ⟨_, _, _, _, o, _, _, e, _⟩ := x; exact Heap.lt_size e
  | set S n => obtain ⟨o, _, _, _, e, _⟩ := x; exact Heap.lt_size e
  | ins C dx fs => obtain ⟨_, _, _, e, _⟩ := x; exact Heap.lt_size e
  | own y => obtain ⟨_, e⟩ := x; exact Heap.lt_size e
  | xd fs => obtain ⟨_, ⟨_, _, _, e, _⟩, _⟩ := x; exact Heap.lt_size e
  | rng lo hi => obtain ⟨_, _, _, e⟩ := x; exact Heap.lt_size e
  | frz ob u => obtain ⟨e, _⟩ := x; exact Heap.lt_size e
  | tbl ps => exact Heap.lt_size (show h.get? a = some _ from x)
  | met f y => exact Heap.lt_size (show h.get? a = some _ from x)
  | ext φ => obtain ⟨_, ⟨_, e⟩, _⟩ := x; exact Heap.lt_size e
theorem Paired.mapP {α β : Type} {F G : α → β → Prop} : ∀ {l₁ : List α} {l₂ : List β}, Paired F l₁ l₂ → (∀ a b, F a b → G a b) → Paired G l₁ l₂
  | _, _, .nil, _ => .nil
  | _, _, .cons r t, f => .cons (f _ _ r) (Paired.mapP t f)
/-- what an object's description leans on: its own object, its own dict, the tuples -/
theorem ObjOk.stay (x : ObjOk P w H h a o) (k : ∀ b u, (b = a ∨ H b = some (.own a)) → h.get? b = some u → h'.get? b = some u)
    (ho : ∀ b, H b = some (.own a) → H' b = some (.own a)) (ht : ∀ b xs, H b = some (.tup xs) → H' b = some (.tup xs)) : ObjOk P w H' h' a o := by
  induction o with
  | lst xs => obtain ⟨z, its, n, r, e⟩ := x; exact ⟨z, its, n, r, k _ _ (.inl rfl) e⟩
  | tup xs => obtain ⟨z, its, r, ob, e, c⟩ := x; exact ⟨z, its, r, ob, k _ _ (.inl rfl) e, c⟩
  | dK kvs => obtain ⟨z, y, vs, r, ob, es, ep, e, c⟩ := x; exact ⟨z, y, vs, r, ob, es, ep, k _ _ (.inl rfl) e, c⟩
  | dT kvs =>
    obtain ⟨z, y, xs, r, ob, es, ep, e, c⟩ := x
    exact ⟨z, y, xs, Paired.mapP r fun p q z => ⟨z.1, ht _ _ z.2.1, z.2.2⟩, ob, es, ep, k _ _ (.inl rfl) e, c⟩
  | set S n => obtain ⟨ob, es, ep, t, e, c⟩ := x; exact ⟨ob, es, ep, t, k _ _ (.inl rfl) e, c⟩
  | ins C dx fs =>
    obtain ⟨d, z, ne, e, mA, ⟨od, es, ep, e2, c⟩, r⟩ := x
    exact ⟨ho _ d, z, ne, k _ _ (.inl rfl) e, mA, ⟨od, es, ep, k _ _ (.inr d) e2, c⟩, r⟩
  | own y => obtain ⟨ob, e⟩ := x; exact ⟨ob, k _ _ (.inl rfl) e⟩
  | xd fs => obtain ⟨mA, ⟨od, es, ep, e, c⟩, r⟩ := x; exact ⟨mA, ⟨od, es, ep, k _ _ (.inl rfl) e, c⟩, r⟩
  | rng lo hi => obtain ⟨t, u, v, e⟩ := x; exact ⟨t, u, v, k _ _ (.inl rfl) e⟩
  | frz ob u ih => obtain ⟨e, q⟩ := x; exact ⟨k _ _ (.inl rfl) e, ih q⟩
  | tbl ps =>
    have e : h.get? a = some { cls := .none, data := .fields ps } := x
    show h'.get? a = some { cls := .none, data := .fields ps }
    exact k a _ (.inl rfl) e
  | met f y =>
    have e : h.get? a = some (PySem.W.methodObj (.ref f) (.ref y)) := x
    show h'.get? a = some (PySem.W.methodObj (.ref f) (.ref y))
    exact k a _ (.inl rfl) e
  | ext φ => obtain ⟨p, ⟨o, e⟩, st⟩ := x; exact ⟨st _ _ p fun o q => k _ _ (.inl rfl) q, ⟨o, k _ _ (.inl rfl) e⟩, st⟩
theorem HOk.lt (x : HOk P w H h) (e : H a = some o) : a < h.objs.size := (x a o e).lt
theorem HOk.fresh (x : HOk P w H h) (e : h.objs.size ≤ a) : H a = none := by
  cases q : H a with
  | none => rfl
  | some u => exact absurd (Nat.lt_of_lt_of_le (x.lt q) e) (Nat.lt_irrefl _)
/-- every object of the heap is kept -/
theorem HOk.kept (x : HOk P w H h) (k : ∀ b u, h.get? b = some u → h'.get? b = some u) : HOk P w H h' := fun a o e =>
  (x a o e).stay (fun b u _ q => k b u q) (fun _ q => q) fun _ _ q => q
/-- a new object is laid and tracked -/
theorem HOk.laid (x : HOk P w H h) (k : ∀ b u, h.get? b = some u → h'.get? b = some u) (hp : h.objs.size ≤ a) (new : ObjOk P w (upd H a o) h' a o) : HOk P w (upd H a o) h' := fun b u e => by
  have hn := x.fresh hp
  by_cases hb : b = a
  · subst hb; rw [upd_same] at e; cases e; exact new
  · rw [upd_ne hb] at e
    exact (x b u e).stay (fun c v _ q => k c v q) (fun c q => by rw [upd_ne (ne_of_none q hn)]; exact q) fun c xs q => by rw [upd_ne (ne_of_none q hn)]; exact q
end

/-- what may be read as u: it is u, or a known u -/
def Rd (H : Hp) (a : Addr) (u : HO) : Prop := H a = some u ∨ ∃ o, H a = some (.frz o u)
theorem Rd.ok {P : Program} {w : World} {H : Hp} {h : Heap} {a : Addr} {u : HO} (r : Rd H a u) (x : HOk P w H h) : ObjOk P w H h a u := by
  rcases r with r | ⟨o, r⟩
  · exact x a u r
  · obtain ⟨_, q⟩ := x a _ r
    exact q
/-- what may be written -/
def Mut : Option HO → Prop
  | some (.lst _) => True
  | some (.dK _) => True
  | some (.dT _) => True
  | some (.set _ _) => True
  | some (.ins _ _ _) => True
  | some (.ext _) => True
  | _ => False
section
variable {P : Program} {w : World} {H : Hp} {h h' : Heap} {x e : Addr} {o' : HO}
/-- the object at e is changed: x itself, or the dict of the instance x -/
theorem HOk.write (ok : HOk P w H h) (mu : Mut (H x)) (he : e = x ∨ H e = some (.own x)) (k : ∀ b u, b ≠ e → h.get? b = some u → h'.get? b = some u) (heo : ∃ u, h'.get? e = some u)
    (new : ObjOk P w (upd H x o') h' x o') : HOk P w (upd H x o') h' := fun b u q => by
  have nown : ∀ c y, H c = some (.own y) → c ≠ x := fun c y r z => by subst z; rw [r] at mu; exact mu
  have ntup : ∀ c xs, H c = some (.tup xs) → c ≠ x := fun c xs r z => by subst z; rw [r] at mu; exact mu
  by_cases hb : b = x
  · subst hb; rw [upd_same] at q; cases q; exact new
  · rw [upd_ne hb] at q
    by_cases hbe : b = e
    · have q' : H b = some (.own x) := by
        rcases he with z | z
        · exact absurd (hbe.trans z) hb
        · rw [hbe]; exact z
      rw [q] at q'; cases q'
      obtain ⟨v, hv⟩ := heo
      exact ⟨v, by rw [hbe]; exact hv⟩
    · refine (ok b u q).stay (fun c v hc r => k c v ?_ r) (fun c r => by rw [upd_ne (nown c b r)]; exact r) fun c xs r => by rw [upd_ne (ntup c xs r)]; exact r
      rcases hc with rfl | hc
      · exact hbe
      · rintro rfl
        rcases he with z | z
        · exact nown c b hc z
        · rw [hc] at z; cases z; exact hb rfl
end

/-! ### kept unless tracked; of the frames at fs (the callers') the slots may change (an exception that passes writes there); of the records at ex (iterators) nothing is said -/
structure Un (fs ex : List Addr) (H H' : Hp) (h h' : Heap) : Prop where
  keep : ∀ b o, h.get? b = some o → H b = none → b ∉ fs → b ∉ ex → h'.get? b = some o
  slot : ∀ b o, h.get? b = some o → H b = none → b ∈ fs → b ∉ ex → ∃ sl, h'.get? b = some { o with slots := sl }
  free : ∀ b o, h.get? b = some o → H b = none → b ∉ ex → H' b = none
  there : ∀ b o, h.get? b = some o → b ∉ ex → ∃ o', h'.get? b = some o'
  tups : ∀ b xs, H b = some (.tup xs) → H' b = some (.tup xs)
  frzs : ∀ b o u, H b = some (.frz o u) → H' b = some (.frz o u)
  tbls : ∀ b ps, H b = some (.tbl ps) → ∃ more, H' b = some (.tbl (ps ++ more))
section
variable {fs fs' ex ex' : List Addr} {H H1 H2 : Hp} {h h1 h2 h' : Heap} {a x e : Addr} {o : HO}
theorem Un.any (u : Un fs ex H H1 h h1) {b : Addr} {ob : Obj} (q : h.get? b = some ob) (n : H b = none) (hx : b ∉ ex) : ∃ sl, h1.get? b = some { ob with slots := sl } := by
  by_cases hb : b ∈ fs
  · exact u.slot b ob q n hb hx
  · exact ⟨ob.slots, u.keep b ob q n hb hx⟩
theorem Un.kept (k : ∀ b u, h.get? b = some u → h'.get? b = some u) : Un fs ex H H h h' :=
  ⟨fun b ob q _ _ _ => k b ob q, fun b ob q _ _ _ => ⟨ob.slots, k b ob q⟩, fun _ _ _ n _ => n, fun b ob q _ => ⟨ob, k b ob q⟩, fun _ _ q => q, fun _ _ _ q => q, fun _ ps q => ⟨#[], by rw [q]; simp⟩⟩
theorem Un.refl : Un fs ex H H h h := Un.kept fun _ _ q => q
theorem Un.laid (k : ∀ b u, h.get? b = some u → h'.get? b = some u) (hp : h.objs.size ≤ a) (hn : H a = none) : Un fs ex H (upd H a o) h h' where
  keep := fun b u q _ _ _ => k b u q
  slot := fun b u q _ _ _ => ⟨u.slots, k b u q⟩
  free := fun b u q n _ => by rw [upd_ne (Nat.ne_of_lt (Nat.lt_of_lt_of_le (Heap.lt_size q) hp))]; exact n
  there := fun b u q _ => ⟨u, k b u q⟩
  tups := fun b xs q => by rw [upd_ne (ne_of_none q hn)]; exact q
  frzs := fun b u xs q => by rw [upd_ne (ne_of_none q hn)]; exact q
  tbls := fun b ps q => ⟨#[], by rw [upd_ne (ne_of_none q hn), q]; simp⟩
theorem Un.write (mu : Mut (H x)) (he : e = x ∨ H e = some (.own x)) (k : ∀ b u, b ≠ e → h.get? b = some u → h'.get? b = some u) (heo : ∃ u, h'.get? e = some u) : Un fs ex H (upd H x o) h h' := by
  have hx : ∀ b, H b = none → b ≠ x := fun b n z => by subst z; rw [n] at mu; exact mu
  have hb : ∀ b, H b = none → b ≠ e := fun b n z => by
    subst z
    rcases he with r | r
    · exact hx b n r
    · rw [n] at r; cases r
  have hm : ∀ b u, H b = some u → ¬ Mut (some u) → b ≠ x := fun b u q nm z => by subst z; rw [q] at mu; exact nm mu
  refine ⟨fun b u q n _ _ => k b u (hb b n) q, fun b u q n _ _ => ⟨u.slots, k b u (hb b n) q⟩, fun b u q n _ => by rw [upd_ne (hx b n)]; exact n, fun b u q _ => ?_,
    fun b xs q => by rw [upd_ne (hm b _ q fun z => z)]; exact q, fun b u xs q => by rw [upd_ne (hm b _ q fun z => z)]; exact q, fun b ps q => ⟨#[], by rw [upd_ne (hm b _ q fun z => z), q]; simp⟩⟩
  by_cases hbe : b = e
  · subst hbe; exact heo
  · exact ⟨u, k b u hbe q⟩
end

/-! ### the heap without what is tracked -/
def trk (h : Heap) (H : Hp) : List Addr := (List.range h.objs.size).filter fun a => (H a).isSome
def hidT (h : Heap) (H : Hp) : Heap := PySem.W.hideAll h (trk h H)
theorem hidT_size (h : Heap) (H : Hp) : (hidT h H).objs.size = h.objs.size := PySem.W.hideAll_size _ _
theorem hidT_get {h : Heap} {H : Hp} {b : Addr} {o : Obj} (e : h.get? b = some o) (n : H b = none) : (hidT h H).get? b = some o :=
  PySem.W.hideAll_get _ e fun hm => by
    have q : (H b).isSome = true := (List.mem_filter.mp hm).2
    rw [n] at q; simp at q
theorem of_hidT {h : Heap} {H : Hp} {b : Addr} {o : Obj} (e : (hidT h H).get? b = some o) : h.get? b = some o ∧ H b = none := by
  have e' : h.get? b = some o := PySem.W.of_hideAll (trk h H) e
  refine ⟨e', ?_⟩
  cases q : H b with
  | none => rfl
  | some x =>
    have hm : b ∈ trk h H := List.mem_filter.mpr ⟨List.mem_range.mpr (Heap.lt_size e'), by simp [q]⟩
    have z : (hidT h H).get? b = none := PySem.W.hideAll_none (trk h H) hm
    rw [z] at e; cases e

/-! ### OpenK's ledger, filled with every new object but one -/
def allNews (g h : Heap) (L : Addr) : List (Addr × Obj) := (List.range h.objs.size).filterMap fun a => if a = L ∨ (g.get? a).isSome = true then none else (h.get? a).map fun o => (a, o)
theorem mem_allNews {g h : Heap} {L a : Addr} {o : Obj} (h1 : a ≠ L) (h2 : g.get? a = none) (h3 : h.get? a = some o) : (a, o) ∈ allNews g h L :=
  List.mem_filterMap.mpr ⟨a, List.mem_range.mpr (Heap.lt_size h3), by simp [h1, h2, h3]⟩
theorem of_mem_allNews {g h : Heap} {L : Addr} {p : Addr × Obj} (hp : p ∈ allNews g h L) : p.1 ≠ L ∧ g.get? p.1 = none ∧ h.get? p.1 = some p.2 := by
  obtain ⟨b, _, e⟩ := List.mem_filterMap.mp hp
  split at e
  · cases e
  · rename_i hn
    cases q : h.get? b with
    | none => rw [q] at e; simp at e
    | some u =>
      rw [q] at e
      simp only [Option.map_some, Option.some.injEq] at e
      subst e
      refine ⟨fun z => hn (.inl z), ?_, q⟩
      show g.get? b = none
      cases r : g.get? b with
      | none => rfl
      | some v => exact (hn (.inr (by simp [r]))).elim
def rest (g h : Heap) (L d : Addr) : List (Addr × Obj) := (allNews g h L).filter fun p => decide (p.1 ≠ d)
theorem news_all {g h : Heap} {L : Addr} : News g L h (allNews g h L) := fun p hp => let ⟨a, b, c⟩ := of_mem_allNews hp; ⟨c, a, b⟩
end L2

namespace L2
open PySem PySem.Spec PyProof.Rows

/-- the module's facts, over the base: the heap at the law's entry without what is tracked there -/
structure Mod (K : PySem.W.Frag) (mg : Str → Option Value) (base : Heap) : Prop where
  kin : K.In base
  glob : base.Ns mainGlobals mg
  blt : ∃ mb, base.Ns builtinsNs mb ∧ ∀ x : Str, x ≠ "__name__" → mb x = bootBuiltins x
  nolimit : base.NoLimit

/-- the context: a def's body (or a comprehension's block) running. base: fixed through the whole law; s₀, H₀: the entry; outer: the frames whose slots others may change (a def's callers); stack: all frames that run;
   ex: iterators that were made ahead of the entry and are walked here (a comprehension's); fn: the names whose cells were made at the entry (a def: all; a comprehension's block: its own); calm: not within an except suite; pn: pins that every state bears; xe: what is wanted of an exception that leaves the code -/
structure Cx where
  prog : Program
  w : World
  K : PySem.W.Frag
  mg : Str → Option Value
  base : Heap
  A : Around
  N : List Str
  s₀ : Shared
  H₀ : Hp
  env : Env
  outer : List Env
  stack : List Env
  ex : List Addr
  fn : Str → Bool
  calm : Bool
  pn : List (Addr × Obj)
  xe : Value → Shared → Prop
/-- the callers' frames -/
def frs (l : List Env) : List Addr := l.filterMap (·.frame)
abbrev Cx.fs (X : Cx) : List Addr := frs X.outer

def Vis (sc : Scope) (x : Str) : Prop := sc.names.lookup x = some .local ∨ sc.names.lookup x = some .cell ∨ sc.names.lookup x = some .free
def Loc (sc : Scope) (x : Str) : Prop := sc.names.lookup x = some .local ∨ sc.names.lookup x = some .cell
def Look (env : Env) (h : Heap) (m : Str → Option Value) (x : Str) (u : Value) : Prop :=
  (env.kindOf x = some .local ∧ m x = some u) ∨ ((env.kindOf x = some .cell ∨ env.kindOf x = some .free) ∧ ∃ c, env.cells.lookup x = some c ∧ h.IsCell c (some u))

structure Cx.Ok (X : Cx) : Prop where
  mod : Mod X.K X.mg X.base
  kind : X.env.scope.kind = .function
  glob : X.env.globals = mainGlobals
  blt : X.env.builtins = builtinsNs
  above : X.s₀.heap.objs.size ≤ X.env.locals
  inj : ∀ x y c, X.env.cells.lookup x = some c → X.env.cells.lookup y = some c → x = y
  has : ∀ x, (X.env.kindOf x = some .cell ∨ X.env.kindOf x = some .free) → ∃ c, X.env.cells.lookup x = some c
  cab : ∀ x c, X.fn x = true → X.env.cells.lookup x = some c → X.s₀.heap.objs.size ≤ c
  hd : X.calm = true → X.A.handled = none
  frames : X.A.frames = some X.stack
  stk : X.stack = X.outer ∨ (X.stack = X.env :: X.outer ∧ X.env.frame = some X.env.locals)
  exf : ∀ b ∈ X.ex, b ≠ X.env.locals ∧ ∀ x c, X.env.cells.lookup x = some c → c ≠ b
  bs : ∀ b o, X.base.get? b = some o → X.s₀.heap.get? b = some o ∧ X.H₀ b = none
  bsz : X.base.objs.size ≤ X.s₀.heap.objs.size
  noex : ∀ b o, X.base.get? b = some o → b ∉ X.ex
  exfs : ∀ b ∈ X.ex, b ∉ X.fs
  funs : X.s₀.heap.FunFrames X.base X.outer
  frf : ∀ b ∈ X.fs, X.H₀ b = none

structure Inv (X : Cx) (pins : List (Addr × Obj)) (σ : List (Option V)) (H : Hp) (s : Shared) : Prop where
  ok : X.Ok
  os : s.os = X.s₀.os
  bare : AllBare s.gens
  base : Un X.fs X.ex X.H₀ H X.s₀.heap s.heap
  loc : ∃ m, s.heap.Ns X.env.locals m ∧ ∀ (i : Nat) (x : Str) (v : V), X.N[i]? = some x → σ[i]? = some (some v) → Vis X.env.scope x → ∃ u, RelV v u ∧ Look X.env s.heap m x u
  cell : ∀ x c, X.env.cells.lookup x = some c → ∃ v, s.heap.IsCell c v
  free : H X.env.locals = none
  freeC : ∀ x c, X.env.cells.lookup x = some c → H c = none
  pin : ∀ p ∈ X.pn ++ pins, s.heap.get? p.1 = some p.2 ∧ H p.1 = none ∧ p.1 ≠ X.env.locals ∧ p.1 ∉ X.fs ∧ ∀ v, p.2.data ≠ .cell v
  hok : HOk X.prog X.w H s.heap
  len : σ.length = X.N.length

section
variable {X : Cx} {pins : List (Addr × Obj)} {σ : List (Option V)} {H H' : Hp} {s : Shared} {h' : Heap}

theorem Cx.Ok.nofr (ok : X.Ok) {b : Addr} {o : Obj} (e : X.base.get? b = some o) : b ∉ X.fs := fun hb => by
  have := (ok.funs.mem hb).1
  rw [e] at this; cases this
theorem Inv.bs (I : Inv X pins σ H s) : ∀ b o, X.base.get? b = some o → s.heap.get? b = some o ∧ H b = none := fun b o e =>
  ⟨I.base.keep b o (I.ok.bs b o e).1 (I.ok.bs b o e).2 (I.ok.nofr e) (I.ok.noex b o e), I.base.free b o (I.ok.bs b o e).1 (I.ok.bs b o e).2 (I.ok.noex b o e)⟩
theorem Inv.bk (I : Inv X pins σ H s) : ∀ b o, X.base.get? b = some o → s.heap.get? b = some o := fun b o e => (I.bs b o e).1
theorem Inv.mod (I : Inv X pins σ H s) : Mod X.K X.mg X.base := I.ok.mod
theorem Inv.kIn (I : Inv X pins σ H s) : X.K.In s.heap := I.ok.mod.kin.keeps I.bk
/-- the frame over the base: for OpenK's rules (K.In X.base is I.mod.kin) -/
theorem Inv.fr (I : Inv X pins σ H s) : ∃ m, Fr X.base X.env.locals s.heap m :=
  let ⟨m, hn, _⟩ := I.loc
  ⟨m, hn, I.bk, Nat.le_trans I.ok.bsz I.ok.above⟩
theorem Inv.lt (I : Inv X pins σ H s) : X.env.locals < s.heap.objs.size := let ⟨_, hn, _⟩ := I.loc; hn.lt
theorem Inv.sz (I : Inv X pins σ H s) : X.s₀.heap.objs.size ≤ s.heap.objs.size := Nat.le_trans I.ok.above (Nat.le_of_lt I.lt)
theorem Inv.nofs (I : Inv X pins σ H s) {a : Addr} (h : s.heap.objs.size ≤ a) : a ∉ X.fs := fun hb => by
  obtain ⟨_, o, ho, _⟩ := I.ok.funs.mem hb
  exact absurd (Nat.lt_of_lt_of_le (Heap.lt_size ho) (Nat.le_trans I.sz h)) (Nat.lt_irrefl _)
theorem Inv.cne (I : Inv X pins σ H s) : ∀ x c, X.env.cells.lookup x = some c → c ≠ X.env.locals := fun x c e z => by
  obtain ⟨v, o, ho, hd⟩ := I.cell x c e
  obtain ⟨m, ⟨o', es, ep, ho', hd', _⟩, _⟩ := I.loc
  rw [z, ho'] at ho; cases ho; rw [hd'] at hd; cases hd
theorem Inv.funs (I : Inv X pins σ H s) : s.heap.FunFrames X.base X.outer := by
  have all : ∀ (l : List Env), (∀ b ∈ frs l, b ∈ X.fs) → X.s₀.heap.FunFrames X.base l → s.heap.FunFrames X.base l := by
    intro l
    induction l with
    | nil => intro _ _; trivial
    | cons env r ih =>
      intro hs hl
      obtain ⟨hk, ⟨L, o, hf, hn, ho, hd⟩, hr⟩ := hl
      have hL : L ∈ X.fs := hs L (by unfold frs; rw [List.filterMap_cons, hf]; exact List.mem_cons_self)
      obtain ⟨sl, e⟩ := I.base.slot L o ho (I.ok.frf L hL) hL fun z => I.ok.exfs L z hL
      exact ⟨hk, ⟨L, _, hf, hn, e, hd⟩, ih (fun b hb => hs b (by unfold frs; rw [List.filterMap_cons, hf]; exact List.mem_cons_of_mem _ hb)) hr⟩
  exact all X.outer (fun _ hb => hb) I.ok.funs

/-- the frames that run, for a call -/
theorem Inv.stack (I : Inv X pins σ H s) : s.heap.FunFrames X.base X.stack := by
  rcases I.ok.stk with e | ⟨e, hf⟩
  · rw [e]; exact I.funs
  · rw [e]
    obtain ⟨m, hn, _⟩ := I.loc
    refine .cons (by rw [I.ok.kind]; decide) hf hn ?_ I.funs
    exact Heap.get?_none_of_le (Nat.le_trans I.ok.bsz I.ok.above)
theorem Inv.stkSub (I : Inv X pins σ H s) : ∀ b ∈ frs X.stack, b ∈ X.env.locals :: X.fs := fun b hb => by
  rcases I.ok.stk with e | ⟨e, hf⟩
  · rw [e] at hb; exact List.mem_cons_of_mem _ hb
  · rw [e] at hb
    unfold frs at hb
    rw [List.filterMap_cons, hf] at hb
    exact hb
theorem Inv.stkFree (I : Inv X pins σ H s) : ∀ b ∈ frs X.stack, H b = none := fun b hb => by
  rcases List.mem_cons.mp (I.stkSub b hb) with e | hb
  · rw [e]; exact I.free
  · obtain ⟨_, o, ho, _⟩ := I.ok.funs.mem hb
    exact I.base.free b o ho (I.ok.frf b hb) fun z => I.ok.exfs b z hb

/-- THE STEP: the untracked objects but the frame and the records at ch are kept (the callers' frames up to slots), the frame's map is kept, the new abstract heap is held -/
theorem Inv.step {g' : Array GenState} {t' : Nat} {d' : Drawn} {ch : List Addr} (I : Inv X pins σ H s)
    (hch : ∀ b ∈ ch, (b ∈ X.ex ∨ X.s₀.heap.objs.size ≤ b) ∧ b ≠ X.env.locals ∧ (∀ x c, X.env.cells.lookup x = some c → c ≠ b) ∧ ∀ p ∈ X.pn ++ pins, p.1 ≠ b)
    (keep : ∀ b o, b ≠ X.env.locals → b ∉ X.fs → b ∉ ch → s.heap.get? b = some o → H b = none → h'.get? b = some o)
    (slot : ∀ b o, b ≠ X.env.locals → b ∈ X.fs → b ∉ ch → s.heap.get? b = some o → H b = none → ∃ sl, h'.get? b = some { o with slots := sl }) (free : ∀ b o, b ∉ ch → s.heap.get? b = some o → H b = none → H' b = none)
    (there : ∀ b o, b ∉ ch → s.heap.get? b = some o → ∃ o', h'.get? b = some o')
    (tups : ∀ b xs, H b = some (.tup xs) → H' b = some (.tup xs)) (frzs : ∀ b o u, H b = some (.frz o u) → H' b = some (.frz o u)) (tbls : ∀ b ps, H b = some (.tbl ps) → ∃ more, H' b = some (.tbl (ps ++ more)))
    (ns : ∀ m, s.heap.Ns X.env.locals m → h'.Ns X.env.locals m) (hok : HOk X.prog X.w H' h') (hg : AllBare g') :
    Inv X pins σ H' { s with heap := h', gens := g', drawn := d', toks := t' } := by
  have neL : ∀ b o, X.s₀.heap.get? b = some o → b ≠ X.env.locals := fun b o e => Nat.ne_of_lt (Nat.lt_of_lt_of_le (Heap.lt_size e) I.ok.above)
  have neC : ∀ b o, X.s₀.heap.get? b = some o → b ∉ X.ex → b ∉ ch := fun b o e hx hb => by
    rcases (hch b hb).1 with z | z
    · exact hx z
    · exact absurd (Nat.lt_of_lt_of_le (Heap.lt_size e) z) (Nat.lt_irrefl _)
  have cellK : ∀ x c, X.env.cells.lookup x = some c → ∀ v, s.heap.IsCell c v → h'.IsCell c v := fun x c e v ⟨o, ho, hd⟩ => by
    have nch : c ∉ ch := fun z => (hch c z).2.2.1 x c e rfl
    by_cases hc : c ∈ X.fs
    · obtain ⟨sl, q⟩ := slot c o (I.cne x c e) hc nch ho (I.freeC x c e)
      exact ⟨_, q, hd⟩
    · exact ⟨o, keep c o (I.cne x c e) hc nch ho (I.freeC x c e), hd⟩
  refine ⟨I.ok, I.os, hg, ⟨fun b o e n hb hx => ?_, fun b o e n hb hx => ?_, fun b o e n hx => ?_, fun b o e hx => ?_, fun b xs e => tups b xs (I.base.tups b xs e), fun b o xs e => frzs b o xs (I.base.frzs b o xs e), fun b ps e => ?_⟩, ?_, fun x c e => ?_, ?_, fun x c e => ?_, fun p hp => ?_, hok, I.len⟩
  · exact keep b o (neL b o e) hb (neC b o e hx) (I.base.keep b o e n hb hx) (I.base.free b o e n hx)
  · obtain ⟨sl, e1⟩ := I.base.slot b o e n hb hx
    obtain ⟨sl', e2⟩ := slot b _ (neL b o e) hb (neC b o e hx) e1 (I.base.free b o e n hx)
    exact ⟨sl', e2⟩
  · obtain ⟨o', e1⟩ := I.base.there b o e hx
    exact free b o' (neC b o e hx) e1 (I.base.free b o e n hx)
  · obtain ⟨o', e1⟩ := I.base.there b o e hx
    exact there b o' (neC b o e hx) e1
  · obtain ⟨m1, e1⟩ := I.base.tbls b ps e
    obtain ⟨m2, e2⟩ := tbls b _ e1
    exact ⟨m1 ++ m2, by rw [e2, Array.append_assoc]⟩
  · obtain ⟨m, hn, hl⟩ := I.loc
    refine ⟨m, ns m hn, fun i x v e1 e2 e3 => ?_⟩
    obtain ⟨u, r, l⟩ := hl i x v e1 e2 e3
    refine ⟨u, r, ?_⟩
    rcases l with l | ⟨k, c, e, z⟩
    · exact .inl l
    · exact .inr ⟨k, c, e, cellK x c e _ z⟩
  · obtain ⟨v, z⟩ := I.cell x c e
    exact ⟨v, cellK x c e v z⟩
  · obtain ⟨m, ⟨o, _, _, ho, _⟩, _⟩ := I.loc
    exact free _ o (fun z => (hch _ z).2.1 rfl) ho I.free
  · obtain ⟨v, o, ho, hd⟩ := I.cell x c e
    exact free c o (fun z => (hch c z).2.2.1 x c e rfl) ho (I.freeC x c e)
  · obtain ⟨e, n, ne, nf, d⟩ := I.pin p hp
    have nch : p.1 ∉ ch := fun z => (hch p.1 z).2.2.2 p hp rfl
    exact ⟨keep p.1 p.2 ne nf nch e n, free p.1 p.2 nch e n, ne, nf, d⟩
/-- .. where the frame's own object is kept too -/
theorem Inv.un {t' : Nat} (I : Inv X pins σ H s) (u : Un X.fs [] H H' s.heap h') (hok : HOk X.prog X.w H' h') : Inv X pins σ H' { s with heap := h', toks := t' } := by
  obtain ⟨m, ⟨o, es, ep, ho, r⟩, _⟩ := id I.loc
  obtain ⟨sl, hL⟩ := u.any ho I.free (by simp)
  exact I.step (g' := s.gens) (d' := s.drawn) (ch := []) (fun _ z => nomatch z) (fun b o _ hb _ e n => u.keep b o e n hb (by simp)) (fun b o _ hb _ e n => u.slot b o e n hb (by simp)) (fun b o _ e n => u.free b o e n (by simp)) (fun b o _ e => u.there b o e (by simp)) u.tups u.frzs u.tbls (fun m' hm => by
    obtain ⟨o', es', ep', ho', r'⟩ := hm
    rw [ho] at ho'; cases ho'
    exact ⟨_, es', ep', hL, r'⟩) hok I.bare
/-- behind a call (or a comprehension's block): the slots of this frame may have changed too, the records at ch may have turned -/
theorem Inv.call {g' : Array GenState} {t' : Nat} {d' : Drawn} {ch : List Addr} (I : Inv X pins σ H s) (u : Un (frs X.stack) ch H H' s.heap h') (hok : HOk X.prog X.w H' h') (hg : AllBare g')
    (hch : ∀ b ∈ ch, (b ∈ X.ex ∨ X.s₀.heap.objs.size ≤ b) ∧ b ≠ X.env.locals ∧ (∀ x c, X.env.cells.lookup x = some c → c ≠ b) ∧ ∀ p ∈ X.pn ++ pins, p.1 ≠ b) :
    Inv X pins σ H' { s with heap := h', gens := g', drawn := d', toks := t' } := by
  obtain ⟨m, ⟨o, es, ep, ho, r⟩, _⟩ := id I.loc
  obtain ⟨sl, hL⟩ := u.any ho I.free fun z => (hch _ z).2.1 rfl
  exact I.step (ch := ch) hch (fun b o hL hb hc e n => u.keep b o e n (fun z => (List.mem_cons.mp (I.stkSub b z)).elim hL hb) hc) (fun b o _ _ hc e n => u.any e n hc) (fun b o hc e n => u.free b o e n hc) (fun b o hc e => u.there b o e hc) u.tups u.frzs u.tbls (fun m' hm => by
    obtain ⟨o', es', ep', ho', r'⟩ := hm
    rw [ho] at ho'; cases ho'
    exact ⟨_, es', ep', hL, r'⟩) hok hg
/-- an untracked record of ours (an iterator) has turned -/
theorem Inv.turned {t' : Nat} {it : Addr} (I : Inv X pins σ H s) (k : ∀ b o, b ≠ it → s.heap.get? b = some o → h'.get? b = some o) (hn : H it = none) (hL : it ≠ X.env.locals)
    (h1 : it ∈ X.ex ∨ X.s₀.heap.objs.size ≤ it) (h2 : ∀ x c, X.env.cells.lookup x = some c → c ≠ it) (h3 : ∀ p ∈ X.pn ++ pins, p.1 ≠ it) : Inv X pins σ H { s with heap := h', toks := t' } := by
  have nit : ∀ b u, H b = some u → b ≠ it := fun b u e z => by rw [z, hn] at e; cases e
  refine I.step (g' := s.gens) (d' := s.drawn) (ch := [it]) (fun b hb => ?_) (fun b o _ _ hc e _ => k b o (fun z => hc (by simp [z])) e) (fun b o _ _ hc e _ => ⟨o.slots, k b o (fun z => hc (by simp [z])) e⟩) (fun _ _ _ _ n => n)
    (fun b o hc e => ⟨o, k b o (fun z => hc (by simp [z])) e⟩) (fun _ _ e => e) (fun _ _ _ e => e) (fun b ps e => ⟨#[], by rw [e]; simp⟩) (fun m hm => ?_) (fun b u e => ?_) I.bare
  · have e : b = it := by simpa using hb
    subst e
    exact ⟨h1, hL, h2, h3⟩
  · obtain ⟨o, es, ep, ho, r⟩ := hm
    exact ⟨o, es, ep, k _ o (Ne.symm hL) ho, r⟩
  · refine (I.hok b u e).stay (fun c v hc q => k c v ?_ q) (fun _ q => q) fun _ _ q => q
    rcases hc with z | z
    · rw [z]; exact nit b u e
    · exact nit c _ z
theorem Inv.tok (I : Inv X pins σ H s) (t : Nat) : Inv X pins σ H { s with toks := t } := I.un (h' := s.heap) (t' := t) Un.refl I.hok
/-- all objects kept -/
theorem Inv.kept {t' : Nat} (I : Inv X pins σ H s) (k : ∀ b u, s.heap.get? b = some u → h'.get? b = some u) : Inv X pins σ H { s with heap := h', toks := t' } := I.un (Un.kept k) (I.hok.kept k)
/-- a new object laid and tracked -/
theorem Inv.laid {a : Addr} {o : HO} {t' : Nat} (I : Inv X pins σ H s) (k : ∀ b u, s.heap.get? b = some u → h'.get? b = some u) (hp : s.heap.objs.size ≤ a) (new : ObjOk X.prog X.w (upd H a o) h' a o) :
    Inv X pins σ (upd H a o) { s with heap := h', toks := t' } := I.un (Un.laid k hp (I.hok.fresh hp)) (I.hok.laid k hp new)
/-- an object written -/
theorem Inv.write {x e : Addr} {o : HO} {t' : Nat} (I : Inv X pins σ H s) (mu : Mut (H x)) (he : e = x ∨ H e = some (.own x)) (k : ∀ b u, b ≠ e → s.heap.get? b = some u → h'.get? b = some u) (heo : ∃ u, h'.get? e = some u)
    (new : ObjOk X.prog X.w (upd H x o) h' x o) : Inv X pins σ (upd H x o) { s with heap := h', toks := t' } := I.un (Un.write mu he k heo) (I.hok.write mu he k heo new)
theorem Inv.pins_of {pins' : List (Addr × Obj)} (I : Inv X pins σ H s) (h : ∀ p ∈ pins', s.heap.get? p.1 = some p.2 ∧ H p.1 = none ∧ p.1 ≠ X.env.locals ∧ p.1 ∉ X.fs ∧ ∀ v, p.2.data ≠ .cell v) : Inv X pins' σ H s :=
  ⟨I.ok, I.os, I.bare, I.base, I.loc, I.cell, I.free, I.freeC, fun p hp => (List.mem_append.mp hp).elim (fun z => I.pin p (List.mem_append_left _ z)) (h p), I.hok, I.len⟩

theorem nodup_ix {N : List Str} (hN : N.Nodup) {i j : Nat} {x : Str} (a : N[i]? = some x) (b : N[j]? = some x) : i = j := by
  obtain ⟨h1, e1⟩ := List.getElem?_eq_some_iff.mp a
  obtain ⟨h2, e2⟩ := List.getElem?_eq_some_iff.mp b
  exact (List.getElem_inj hN).mp (e1.trans e2.symm)

/-- a name is stored; what changed -/
theorem store_ok2 {M : Model} {A : Around} {E : Value → Shared → Prop} {i : Nat} {x : Str} {v : V} {u : Value} {Q : Unit → Shared → Prop} (I : Inv X pins σ H s) (hN : X.N.Nodup) (hi : X.N[i]? = some x) (hx : Loc X.env.scope x) (r : RelV v u)
    (h : ∀ s', Inv X pins (σ.set i (some v)) H s' → (∃ a, Heap.SameBut a s.heap s'.heap ∧ (a = X.env.locals ∨ X.env.cells.lookup x = some a)) → Q () s') (hf : X.fn x = true ∨ X.env.scope.names.lookup x = some .local := by first | exact .inl rfl | exact .inr rfl | assumption) : wpAny M A (storeName X.env x u) Q E s := by
  obtain ⟨m, hn, hl⟩ := id I.loc
  have hcls : (X.env.scope.kind == .class || (X.env.scope.kind == .module && X.env.locals != X.env.globals)) = false := by rw [I.ok.kind]; rfl
  have hiσ : i < σ.length := by rw [I.len]; exact (List.getElem?_eq_some_iff.mp hi).1
  have cne := I.cne
  have tracked : ∀ {a : Addr} {h' : Heap}, (∃ o, s.heap.get? a = some o ∧ H a = none) → Heap.SameBut a s.heap h' → HOk X.prog X.w H h' := fun {a h'} ha hs b ob e => by
    obtain ⟨_, _, hfree⟩ := ha
    refine (I.hok b ob e).stay (fun c w' hc q => (hs.2 c ?_).trans q) (fun _ q => q) fun _ _ q => q
    rintro rfl
    rcases hc with rfl | hc
    · rw [hfree] at e; cases e
    · rw [hfree] at hc; cases hc
  rcases hx with hk | hk
  · refine wpAny_storeName_local hk hn (fun h' hn' hs => ?_) hcls
    obtain ⟨oL, _, _, hoL, _⟩ := id hn
    refine h _ ⟨I.ok, I.os, I.bare, ⟨fun b o e n hb hx => ?_, fun b o e n hb hx => ?_, I.base.free, fun b o e hx => ?_, I.base.tups, I.base.frzs, I.base.tbls⟩, ⟨_, hn', fun j y v' e1 e2 e3 => ?_⟩, fun y c e => ?_, I.free, I.freeC, fun p hp => ?_, tracked ⟨oL, hoL, I.free⟩ hs, by simpa using I.len⟩ ⟨_, hs, .inl rfl⟩
    · exact (hs.2 b (Nat.ne_of_lt (Nat.lt_of_lt_of_le (Heap.lt_size e) I.ok.above))).trans (I.base.keep b o e n hb hx)
    · obtain ⟨sl, e1⟩ := I.base.slot b o e n hb hx
      exact ⟨sl, (hs.2 b (Nat.ne_of_lt (Nat.lt_of_lt_of_le (Heap.lt_size e) I.ok.above))).trans e1⟩
    · obtain ⟨o', e1⟩ := I.base.there b o e hx
      exact ⟨o', (hs.2 b (Nat.ne_of_lt (Nat.lt_of_lt_of_le (Heap.lt_size e) I.ok.above))).trans e1⟩
    · by_cases hj : j = i
      · subst hj
        rw [hi] at e1; cases e1
        rw [List.getElem?_set_self hiσ] at e2
        cases e2
        exact ⟨u, r, .inl ⟨hk, by simp⟩⟩
      · rw [List.getElem?_set_ne (Ne.symm hj)] at e2
        obtain ⟨u', r', q⟩ := hl j y v' e1 e2 e3
        refine ⟨u', r', ?_⟩
        rcases q with ⟨k, e⟩ | ⟨k, c, e, z⟩
        · refine .inl ⟨k, ?_⟩
          have : y ≠ x := fun e => hj (nodup_ix hN e1 (e ▸ hi))
          simp [this, e]
        · exact .inr ⟨k, c, e, z.sameBut hs (cne y c e)⟩
    · obtain ⟨w', z⟩ := I.cell y c e
      exact ⟨w', z.sameBut hs (cne y c e)⟩
    · obtain ⟨e, n, ne, nf, d⟩ := I.pin p hp
      exact ⟨(hs.2 p.1 ne).trans e, n, ne, nf, d⟩
  · have hfn : X.fn x = true := by
      rcases hf with z | z
      · exact z
      · rw [z] at hk; cases hk
    obtain ⟨c, hc⟩ := I.ok.has x (.inl hk)
    obtain ⟨w', z⟩ := I.cell x c hc
    refine wpAny_storeName_cell I.ok.kind hk hc z (fun h' hc' hs => ?_)
    obtain ⟨oc, hoc, hocd⟩ := id z
    refine h { s with heap := h' } ⟨I.ok, I.os, I.bare, ⟨fun b o e n hb hx => ?_, fun b o e n hb hx => ?_, I.base.free, fun b o e hx => ?_, I.base.tups, I.base.frzs, I.base.tbls⟩, ⟨m, hn.sameBut hs (Ne.symm (cne x c hc)), fun j y v' e1 e2 e3 => ?_⟩, fun y c' e => ?_, I.free, I.freeC, fun p hp => ?_, tracked ⟨oc, hoc, I.freeC x c hc⟩ hs, by simpa using I.len⟩ ⟨c, hs, .inr hc⟩
    · exact (hs.2 b (Nat.ne_of_lt (Nat.lt_of_lt_of_le (Heap.lt_size e) (I.ok.cab x c hfn hc)))).trans (I.base.keep b o e n hb hx)
    · obtain ⟨sl, e1⟩ := I.base.slot b o e n hb hx
      exact ⟨sl, (hs.2 b (Nat.ne_of_lt (Nat.lt_of_lt_of_le (Heap.lt_size e) (I.ok.cab x c hfn hc)))).trans e1⟩
    · obtain ⟨o', e1⟩ := I.base.there b o e hx
      exact ⟨o', (hs.2 b (Nat.ne_of_lt (Nat.lt_of_lt_of_le (Heap.lt_size e) (I.ok.cab x c hfn hc)))).trans e1⟩
    · by_cases hj : j = i
      · subst hj
        rw [hi] at e1; cases e1
        rw [List.getElem?_set_self hiσ] at e2
        cases e2
        exact ⟨u, r, .inr ⟨.inl hk, c, hc, hc'⟩⟩
      · rw [List.getElem?_set_ne (Ne.symm hj)] at e2
        obtain ⟨u', r', q⟩ := hl j y v' e1 e2 e3
        refine ⟨u', r', ?_⟩
        rcases q with q | ⟨k, c', e, z'⟩
        · exact .inl q
        · refine .inr ⟨k, c', e, z'.sameBut hs ?_⟩
          rintro rfl
          exact hj (nodup_ix hN e1 (I.ok.inj _ _ _ e hc ▸ hi))
    · by_cases hcc : c' = c
      · subst hcc; exact ⟨_, hc'⟩
      · obtain ⟨w2, z2⟩ := I.cell y c' e
        exact ⟨w2, z2.sameBut hs hcc⟩
    · obtain ⟨e, n, ne, nf, d⟩ := I.pin p hp
      refine ⟨(hs.2 p.1 ?_).trans e, n, ne, nf, d⟩
      intro q
      rw [q, hoc] at e
      have q' : oc = p.2 := Option.some.inj e
      exact d w' (by rw [← q']; exact hocd)
theorem store_ok {M : Model} {A : Around} {E : Value → Shared → Prop} {i : Nat} {x : Str} {v : V} {u : Value} {Q : Unit → Shared → Prop} (I : Inv X pins σ H s) (hN : X.N.Nodup) (hi : X.N[i]? = some x) (hx : Loc X.env.scope x) (r : RelV v u)
    (h : ∀ s', Inv X pins (σ.set i (some v)) H s' → Q () s') (hf : X.fn x = true ∨ X.env.scope.names.lookup x = some .local := by first | exact .inl rfl | exact .inr rfl | assumption) : wpAny M A (storeName X.env x u) Q E s :=
  store_ok2 I hN hi hx r (fun s' I' _ => h s' I') hf
/-- behind a call or a block, the state as it is -/
theorem Inv.call' {s' : Shared} {ch : List Addr} (I : Inv X pins σ H s) (ho : s'.os = s.os) (u : Un (frs X.stack) ch H H' s.heap s'.heap) (hok : HOk X.prog X.w H' s'.heap) (hg : AllBare s'.gens)
    (hch : ∀ b ∈ ch, (b ∈ X.ex ∨ X.s₀.heap.objs.size ≤ b) ∧ b ≠ X.env.locals ∧ (∀ x c, X.env.cells.lookup x = some c → c ≠ b) ∧ ∀ p ∈ X.pn ++ pins, p.1 ≠ b) : Inv X pins σ H' s' := by
  obtain ⟨h', g', d', t', o'⟩ := s'
  have e : o' = s.os := ho
  subst e
  exact I.call (g' := g') (t' := t') (d' := d') u hok hg hch
end

/-! ### the judgements -/
/-- an exception: its class, its own dict's address (where it has one), the abstract heap behind it -/
abbrev XK := Value → Option Addr → Hp → Prop
abbrev St := List (Option V)
abbrev VK := V → Hp → Prop
/-- an expression's reading; a test's; an argument list's -/
abbrev TE := St → Hp → VK → Prop
abbrev TT := St → Hp → (Bool → Hp → Prop) → Prop
abbrev TA := St → Hp → (List V → Hp → Prop) → Prop
/-- what is wanted behind a statement -/
structure Ends where
  nx : St → Hp → Prop
  rt : VK
  bk : St → Hp → Prop := fun _ _ => False
  ct : St → Hp → Prop := fun _ _ => False
abbrev TS := Ends → St → Hp → Prop

def EP (X : Cx) (pins : List (Addr × Obj)) (σ : St) (Q : VK) (u : Value) (s' : Shared) : Prop := ∃ v H', Inv X pins σ H' s' ∧ RelV v u ∧ Q v H'
def TP (X : Cx) (pins : List (Addr × Obj)) (σ : St) (Q : Bool → Hp → Prop) (b : Bool) (s' : Shared) : Prop := ∃ H', Inv X pins σ H' s' ∧ Q b H'
def AP (X : Cx) (pins : List (Addr × Obj)) (σ : St) (Q : List V → Hp → Prop) (us : List Value) (s' : Shared) : Prop := ∃ vs H', Inv X pins σ H' s' ∧ Vals vs us ∧ Q vs H'
def SP (X : Cx) (pins : List (Addr × Obj)) (D : Ends) (f : Flow) (s' : Shared) : Prop :=
  match f with
  | .next => ∃ σ' H', Inv X pins σ' H' s' ∧ D.nx σ' H'
  | .brk => ∃ σ' H', Inv X pins σ' H' s' ∧ D.bk σ' H'
  | .cont => ∃ σ' H', Inv X pins σ' H' s' ∧ D.ct σ' H'
  | .ret u => ∃ v σ' H', Inv X pins σ' H' s' ∧ RelV v u ∧ D.rt v H'

def PE (X : Cx) (e : Expr) (t : TE) : Prop :=
  ∀ (pins : List (Addr × Obj)) (s : Shared) (σ : St) (H : Hp) (Q : VK), Inv X pins σ H s → t σ H Q → wpAny (model X.prog X.w) X.A (eval e X.env) (EP X pins σ Q) X.xe s
def PT (X : Cx) (e : Expr) (t : TT) : Prop :=
  ∀ (pins : List (Addr × Obj)) (s : Shared) (σ : St) (H : Hp) (Q : Bool → Hp → Prop), Inv X pins σ H s → t σ H Q → wpAny (model X.prog X.w) X.A (isTrue e X.env (eval e X.env)) (TP X pins σ Q) X.xe s
/-- a test whatever its 'whole' is (and, or) -/
def PW (X : Cx) (e : Expr) (t : TT) : Prop :=
  ∀ (whole : Sem Value) (pins : List (Addr × Obj)) (s : Shared) (σ : St) (H : Hp) (Q : Bool → Hp → Prop), Inv X pins σ H s → t σ H Q → wpAny (model X.prog X.w) X.A (isTrue e X.env whole) (TP X pins σ Q) X.xe s
theorem PW.pt {X : Cx} {e : Expr} {t : TT} (h : PW X e t) : PT X e t := h _
/-- an argument list (no star), from the left -/
def PA (X : Cx) (es : List Expr) (t : TA) : Prop :=
  ∀ (pos : Pos) (pins : List (Addr × Obj)) (s : Shared) (σ : St) (H : Hp) (Q : List V → Hp → Prop), Inv X pins σ H s → t σ H Q → wpAny (model X.prog X.w) X.A (spliced (backTo pos (starEach es X.env))) (AP X pins σ Q) X.xe s
def PS (X : Cx) (st : Stmt) (t : TS) : Prop :=
  ∀ (pins : List (Addr × Obj)) (s : Shared) (σ : St) (H : Hp) (D : Ends), Inv X pins σ H s → t D σ H → wpAny (model X.prog X.w) X.A (exec st X.env) (SP X pins D) X.xe s
def PSs (X : Cx) (st : List Stmt) (t : TS) : Prop :=
  ∀ (pins : List (Addr × Obj)) (s : Shared) (σ : St) (H : Hp) (D : Ends), Inv X pins σ H s → t D σ H → wpAny (model X.prog X.w) X.A (execs st X.env) (SP X pins D) X.xe s
/-- weaken the end -/
theorem thn {α : Type} {t : Sem α} {Q Q' : α → Shared → Prop} {M : Model} {A : Around} {E : Value → Shared → Prop} {s : Shared} (h : wpAny M A t Q E s) (hQ : ∀ a s, Q a s → Q' a s) : wpAny M A t Q' E s := wpAny_mono h hQ fun _ _ x => x
end L2

namespace L2
open PySem PySem.Spec PyProof.Rows
section
variable {X : Cx}

/-! ### names and constants -/
def tVar (i : Nat) : TE := fun σ H Q => ∃ v, σ[i]? = some (some v) ∧ Q v H
def tC (v : V) : TE := fun _ H Q => Q v H
theorem pe_var {i : Nat} {x : Str} {pos : Pos} (hN : X.N[i]? = some x) (hv : Vis X.env.scope x) (hd : (x == ("__debug__" : Str)) = false := by decide) (hcd : (x == ("__classdict__" : Str)) = false := by decide) : PE X (.Name x pos) (tVar i) := by
  intro pins s σ H Q I h
  obtain ⟨v, e, h⟩ := h
  obtain ⟨m, hn, hl⟩ := I.loc
  obtain ⟨u, r, l⟩ := hl i x v hN e hv
  have fin : EP X pins σ Q u s := ⟨v, H, I, r, h⟩
  rcases l with ⟨hk, hm⟩ | ⟨hk, c, hc, hcell⟩
  · exact wpAny_Name (wpAny_loadName_local I.ok.kind hk hn hm fin) hd
  · rcases hk with hk | hk
    · exact wpAny_Name (wpAny_loadName_cell I.ok.kind hk hc hcell fin) hd
    · exact wpAny_Name (wpAny_loadName_free I.ok.kind hk hc hcell fin hcd) hd
theorem pe_int {i j pos} : PE X (.Constant (.int i) j pos) (tC (.int i)) := fun _ _ _ H _ I h => wpAny_Constant_int ⟨.int i, H, I.tok _, ⟨_, rfl⟩, h⟩
theorem pe_bl {b j pos} : PE X (.Constant (.bool b) j pos) (tC (.bl b)) := fun _ _ _ H _ I h => Constant_bool ⟨.bl b, H, I, rfl, h⟩
theorem pe_str {x j pos} : PE X (.Constant (.str x) j pos) (tC (.str x)) := fun _ _ _ H _ I h => Calls.Constant_str ⟨.str x, H, I.tok _, ⟨_, rfl⟩, h⟩

/-- a global name of the def -/
def Gl (X : Cx) (x : Str) : Prop := X.env.kindOf x = some .globalImplicit
theorem ld_glob {E : Value → Shared → Prop} {pins : List (Addr × Obj)} {s : Shared} {σ : St} {H : Hp} {x : Str} {u : Value} {pos : Pos} {Q : Value → Shared → Prop} (I : Inv X pins σ H s) (hg : Gl X x) (hm : X.mg x = some u) (h : Q u s)
    (hd : (x == ("__debug__" : Str)) = false := by decide) : wpAny (model X.prog X.w) X.A (eval (.Name x pos) X.env) Q E s :=
  Calls.Name_function_global I.ok.kind hg (Calls.loadGlobal_global (by rw [I.ok.glob]; exact I.mod.glob.keeps I.bk) hm h) hd
theorem ld_blt {E : Value → Shared → Prop} {pins : List (Addr × Obj)} {s : Shared} {σ : St} {H : Hp} {x : Str} {u : Value} {pos : Pos} {Q : Value → Shared → Prop} (I : Inv X pins σ H s) (hg : Gl X x) (hm : X.mg x = none) (hv : bootBuiltins x = some u) (h : Q u s)
    (hn : x ≠ "__name__" := by decide) (hd : (x == ("__debug__" : Str)) = false := by decide) : wpAny (model X.prog X.w) X.A (eval (.Name x pos) X.env) Q E s := by
  obtain ⟨mb, h1, h2⟩ := I.mod.blt
  exact Calls.Name_function_global I.ok.kind hg (Calls.loadGlobal_builtin (by rw [I.ok.glob]; exact I.mod.glob.keeps I.bk) hm (by rw [I.ok.blt]; exact h1.keeps I.bk) ((h2 x hn).trans hv) h) hd
theorem pe_bltn {x : Str} {v : V} {u : Value} {pos : Pos} (hg : Gl X x) (hm : X.mg x = none) (hv : bootBuiltins x = some u) (r : RelV v u) (hn : x ≠ "__name__" := by decide) (hd : (x == ("__debug__" : Str)) = false := by decide) : PE X (.Name x pos) (tC v) :=
  fun _ _ _ H _ I h => ld_blt I hg hm hv ⟨v, H, I, r, h⟩ hn hd

/-! ### arithmetic -/
variable {a b : Expr} {ta tb : TE} {pos : Pos}
/-! ### comparisons -/
/-- a comparison as a value, as a test -/
def tB (t : TE) : TT := fun σ H Q => t σ H fun x H1 => ∃ c, x = .bl c ∧ Q c H1
/-- an expression whose value is a bool, as a test -/
theorem pt_val {e : Expr} {t : TE} (h : PE X e t) (he : ∀ whole, isTrue e X.env whole = (do let v ← whole; standAt e.pos; holding [v] (truthy v)) := by intro _; rfl) : PT X e (tB t) := by
  intro pins s σ H Q I hw
  refine isTrue_plain (thn (h pins s σ H _ I hw) fun v s1 ⟨x, H1, I1, r1, q1⟩ => ?_) (he _)
  obtain ⟨d, rfl, q⟩ := q1
  cases r1
  exact wpAny_truthy_bool ⟨H1, I1, q⟩

/-! ### and, or, not -/
variable {tA tB' : TT} {rest : List Expr}
def tAnd (t u : TT) : TT := fun σ H Q => t σ H fun c H1 => if c = true then u σ H1 Q else Q false H1
def tOr (t u : TT) : TT := fun σ H Q => t σ H fun c H1 => if c = true then Q true H1 else u σ H1 Q
def tNot (t : TT) : TT := fun σ H Q => t σ H fun c H1 => Q (!c) H1
theorem pw_and1 (ha : PT X a tA) : PW X (.BoolOp .And [a] pos) tA := by
  intro wh pins s σ H Q I h
  refine isTrue_and (thn (ha pins s σ H Q I h) fun c s1 e => ?_)
  cases c with
  | true => exact isTrue_and_nil e
  | false => exact e
theorem pw_or1 (ha : PT X a tA) : PW X (.BoolOp .Or [a] pos) tA := by
  intro wh pins s σ H Q I h
  refine isTrue_or (thn (ha pins s σ H Q I h) fun c s1 e => ?_)
  cases c with
  | false => exact isTrue_or_nil e
  | true => exact e
theorem pw_and (ha : PT X a tA) (hb : PW X (.BoolOp .And (b :: rest) pos) tB') : PW X (.BoolOp .And (a :: b :: rest) pos) (tAnd tA tB') := by
  intro wh pins s σ H Q I h
  refine isTrue_and (thn (ha pins s σ H _ I h) fun c s1 ⟨H1, I1, q1⟩ => ?_)
  cases c with
  | true => exact hb wh pins s1 σ H1 Q I1 q1
  | false => exact ⟨H1, I1, q1⟩
theorem pw_or (ha : PT X a tA) (hb : PW X (.BoolOp .Or (b :: rest) pos) tB') : PW X (.BoolOp .Or (a :: b :: rest) pos) (tOr tA tB') := by
  intro wh pins s σ H Q I h
  refine isTrue_or (thn (ha pins s σ H _ I h) fun c s1 ⟨H1, I1, q1⟩ => ?_)
  cases c with
  | true => exact ⟨H1, I1, q1⟩
  | false => exact hb wh pins s1 σ H1 Q I1 q1
theorem pt_not (ha : PT X a tA) : PT X (.UnaryOp .Not a pos) (tNot tA) := by
  intro pins s σ H Q I h
  exact isTrue_not (ha pins s σ H (fun c H1 => Q (!c) H1) I h)
/-- .. as values (bools) -/
def tAndV (ta tb : TE) : TE := fun σ H Q => ta σ H fun x H1 => ∃ c, x = .bl c ∧ if c = true then tb σ H1 Q else Q (.bl false) H1
def tNotV (ta : TE) : TE := fun σ H Q => ta σ H fun x H1 => ∃ c, x = .bl c ∧ Q (.bl (!c)) H1
theorem pe_one {op} {t : TE} (h : PE X a t) : PE X (.BoolOp op [a] pos) t := fun pins s σ H Q I hw => BoolOp_one (h pins s σ H Q I hw)
theorem pe_and (ha : PE X a ta) (hb : PE X (.BoolOp .And (b :: rest) pos) tb) : PE X (.BoolOp .And (a :: b :: rest) pos) (tAndV ta tb) := by
  intro pins s σ H Q I h
  refine BoolOp_and (thn (ha pins s σ H _ I h) fun v s1 ⟨x, H1, I1, r1, q1⟩ => ?_)
  obtain ⟨c, rfl, q1⟩ := q1
  cases r1
  refine wpAny_truthy_bool ?_
  cases c with
  | true => exact hb pins s1 σ H1 Q I1 q1
  | false => exact ⟨.bl false, H1, I1, rfl, q1⟩
theorem pe_not (ha : PE X a ta) : PE X (.UnaryOp .Not a pos) (tNotV ta) := by
  intro pins s σ H Q I h
  refine UnaryOp_ (thn (ha pins s σ H _ I h) fun v s1 ⟨x, H1, I1, r1, q1⟩ => ?_)
  obtain ⟨c, rfl, q1⟩ := q1
  cases r1
  exact not_of (wpAny_truthy_bool ⟨.bl (!c), H1, I1, rfl, q1⟩)
end
end L2

namespace L2
open PySem PySem.Spec PyProof.Rows

/-! ### a list, a tuple that is read: tracked, frozen, or an object of the module -/
def SqL (K : PySem.W.Frag) (H : Hp) (a : Addr) (xs : List V) : Prop :=
  Rd H a (.lst xs) ∨
    ∃ (o : Obj) (its : Array Value) (n : Nat), K.lookup a = some o ∧ o.cls = .type "list" ∧ o.dict = none ∧ o.data = .seq its n ∧ its.size ≤ sizeLine ∧ Vals xs its.toList
def SqT (K : PySem.W.Frag) (H : Hp) (a : Addr) (xs : List V) : Prop :=
  Rd H a (.tup xs) ∨
    ∃ (o : Obj) (its : Array Value) (n : Nat), K.lookup a = some o ∧ o.cls = .type "tuple" ∧ o.data = .seq its n ∧ its.size ≤ sizeLine ∧ Vals xs its.toList
def absV : Value → Option V
  | .none => some .non
  | .bool b => some (.bl b)
  | .int i _ => some (.int i)
  | .str x _ => some (.str x)
  | .bytes b _ => some (.byt b)
  | .float b _ => some (.flt b)
  | .ref a => some (.ref a)
  | .type n => some (.ty n)
  | _ => none
theorem RelV.abs {x : V} {u : Value} (r : RelV x u) : absV u = some x := by
  cases x with
  | non => cases r; rfl
  | bl _ => cases r; rfl
  | int _ => obtain ⟨t, rfl⟩ := r; rfl
  | str _ => obtain ⟨t, rfl⟩ := r; rfl
  | byt _ => obtain ⟨t, rfl⟩ := r; rfl
  | flt _ => obtain ⟨t, rfl⟩ := r; rfl
  | ref _ => cases r; rfl
  | ty _ => cases r; rfl
theorem RelV.inj {x y : V} {u : Value} (r : RelV x u) (q : RelV y u) : x = y := Option.some.inj (r.abs.symm.trans q.abs)
theorem Vals.inj : ∀ {xs ys : List V} {us : List Value}, Vals xs us → Vals ys us → xs = ys
  | _, _, _, .nil, .nil => rfl
  | _, _, _, .cons r t, .cons r' t' => by rw [r.inj r', Vals.inj t t']
section
variable {X : Cx} {pins : List (Addr × Obj)} {σ : St} {H : Hp} {s : Shared} {a : Addr} {xs ys : List V}
theorem SqL.of {K : PySem.W.Frag} (h : H a = some (.lst xs)) : SqL K H a xs := .inl (.inl h)
theorem SqT.of {K : PySem.W.Frag} (h : H a = some (.tup xs)) : SqT K H a xs := .inl (.inl h)
theorem Inv.list (I : Inv X pins σ H s) (h : SqL X.K H a xs) : ∃ its : List Value, Vals xs its ∧ PlainL s.heap a its.toArray ∧ xs.length ≤ sizeLine := by
  rcases h with h | ⟨o, its, n, hk, hc, hd, hs, hz, r⟩
  · obtain ⟨z, its, n, r, e⟩ := h.ok I.hok
    exact ⟨its, r, ⟨_, n, e, rfl, rfl, rfl⟩, z⟩
  · refine ⟨its.toList, r, ⟨o, n, I.kIn a o hk, hc, hd, by simpa using hs⟩, ?_⟩
    have e := r.length
    simp only [Array.length_toList] at e
    omega
theorem Inv.tuple (I : Inv X pins σ H s) (h : SqT X.K H a xs) : ∃ its : List Value, Vals xs its ∧ IsTup s.heap a its.toArray ∧ xs.length ≤ sizeLine := by
  rcases h with h | ⟨o, its, n, hk, hc, hs, hz, r⟩
  · obtain ⟨z, its, r, p⟩ := h.ok I.hok
    exact ⟨its, r, p, z⟩
  · refine ⟨its.toList, r, ⟨o, I.kIn a o hk, hc, n, by simpa using hs⟩, ?_⟩
    have e := r.length
    simp only [Array.length_toList] at e
    omega
theorem Inv.list_inj (I : Inv X pins σ H s) (h : SqL X.K H a xs) (h' : SqL X.K H a ys) : xs = ys := by
  obtain ⟨its, r, ⟨o, n, e, _, _, d⟩, _⟩ := I.list h
  obtain ⟨its', r', ⟨o', n', e', _, _, d'⟩, _⟩ := I.list h'
  rw [e] at e'; cases e'
  rw [d] at d'
  injection d' with d1 _
  have : its = its' := by simpa using congrArg Array.toList d1
  subst this
  exact r.inj r'
end

/-! ### another wish about exceptions -/
abbrev Cx.wish (X : Cx) (E : Value → Shared → Prop) : Cx := { X with xe := E }
/-- no exception leaves -/
abbrev Cx.nox (X : Cx) : Cx := X.wish fun _ _ => False
theorem Cx.Ok.wish {X : Cx} (ok : X.Ok) (E : Value → Shared → Prop) : (X.wish E).Ok :=
  ⟨ok.mod, ok.kind, ok.glob, ok.blt, ok.above, ok.inj, ok.has, ok.cab, ok.hd, ok.frames, ok.stk, ok.exf, ok.bs, ok.bsz, ok.noex, ok.exfs, ok.funs, ok.frf⟩
theorem Cx.Ok.unwish {X : Cx} {E : Value → Shared → Prop} (ok : (X.wish E).Ok) : X.Ok :=
  ⟨ok.mod, ok.kind, ok.glob, ok.blt, ok.above, ok.inj, ok.has, ok.cab, ok.hd, ok.frames, ok.stk, ok.exf, ok.bs, ok.bsz, ok.noex, ok.exfs, ok.funs, ok.frf⟩
section
variable {X : Cx} {pins : List (Addr × Obj)} {σ : St} {H : Hp} {s : Shared} {E : Value → Shared → Prop}
theorem Inv.wish (I : Inv X pins σ H s) (E : Value → Shared → Prop) : Inv (X.wish E) pins σ H s := ⟨I.ok.wish E, I.os, I.bare, I.base, I.loc, I.cell, I.free, I.freeC, I.pin, I.hok, I.len⟩
theorem Inv.unwish (I : Inv (X.wish E) pins σ H s) : Inv X pins σ H s := ⟨I.ok.unwish, I.os, I.bare, I.base, I.loc, I.cell, I.free, I.freeC, I.pin, I.hok, I.len⟩
theorem SP.unwish {D : Ends} {f : Flow} {s' : Shared} (h : SP (X.wish E) pins D f s') : SP X pins D f s' := by
  cases f with
  | next => obtain ⟨σ', H', I, q⟩ := h; exact ⟨σ', H', I.unwish, q⟩
  | brk => obtain ⟨σ', H', I, q⟩ := h; exact ⟨σ', H', I.unwish, q⟩
  | cont => obtain ⟨σ', H', I, q⟩ := h; exact ⟨σ', H', I.unwish, q⟩
  | ret u => obtain ⟨v, σ', H', I, r, q⟩ := h; exact ⟨v, σ', H', I.unwish, r, q⟩
theorem PSs.nox {st : List Stmt} {t : TS} (h : PSs X.nox st t) : PSs X st t := fun pins s σ H D I hw =>
  wpAny_mono (h pins s σ H D (I.wish _) hw) (fun _ _ q => q.unwish) fun _ _ z => False.elim z
end

/-! ### blocks and small statements -/
section
variable {X : Cx} {st : Stmt} {rest : List Stmt} {t u : TS} {e : Expr} {te : TE} {pos : Pos}
def tNext : TS := fun D σ H => D.nx σ H
def tSeq (t u : TS) : TS := fun D σ H => t { D with nx := u D } σ H
theorem pss_nil : PSs X [] tNext := fun _ _ σ H _ I h => wpAny_execs_nil ⟨σ, H, I, h⟩
theorem pss_cons (h1 : PS X st t) (h2 : PSs X rest u) : PSs X (st :: rest) (tSeq t u) := by
  intro pins s σ H D I h
  refine wpAny_execs_cons (thn (h1 pins s σ H { D with nx := u D } I h) fun f s1 q => ?_)
  cases f with
  | next =>
    obtain ⟨σ', H', I', q⟩ := q
    exact h2 pins s1 σ' H' D I' q
  | ret v => exact q
  | brk => exact q
  | cont => exact q
theorem pss_one (h1 : PS X st t) : PSs X [st] t := by
  intro pins s σ H D I h
  refine wpAny_execs_cons (thn (h1 pins s σ H D I h) fun f s1 q => ?_)
  cases f with
  | next => exact wpAny_execs_nil q
  | ret v => exact q
  | brk => exact q
  | cont => exact q
/-- in a def's body nothing is shown -/
theorem Inv.quiet {pins : List (Addr × Obj)} {σ : St} {H : Hp} {s : Shared} (I : Inv X pins σ H s) : interactive X.env = false := by simp [interactive, I.ok.kind]
/-- an expression whose value is dropped -/
def tDrop (te : TE) : TS := fun D σ H => te σ H fun _ H1 => D.nx σ H1
theorem ps_expr (he : PE X e te) (hs : swapsWith e none pos.line X.env = pure false := by rfl) : PS X (.Expr e pos) (tDrop te) := by
  intro pins s σ H D I h
  exact wpAny_Expr_any (thn (he pins s σ H _ I h) fun v s1 ⟨x, H1, I1, r1, q1⟩ => ⟨σ, H1, I1, q1⟩) I.quiet hs
def tRet (te : TE) : TS := fun D σ H => te σ H D.rt
theorem ps_ret (he : PE X e te) : PS X (.Return (some e) pos) (tRet te) := by
  intro pins s σ H D I h
  exact wpAny_Return_some (thn (he pins s σ H _ I h) fun v s1 ⟨x, H1, I1, r1, q1⟩ => ⟨x, σ, H1, I1, r1, q1⟩)
def tIfS (c : TT) (t u : TS) : TS := fun D σ H => c σ H fun b H1 => if b = true then t D σ H1 else u D σ H1
theorem ps_if {c : Expr} {a b : List Stmt} {tc : TT} (hc : PT X c tc) (ha : PSs X a t) (hb : PSs X b u) : PS X (.If c a b pos) (tIfS tc t u) := by
  intro pins s σ H D I h
  refine wpAny_If (thn (hc pins s σ H _ I h) fun d s1 ⟨H1, I1, q1⟩ => ?_)
  cases d with
  | true => exact ha pins s1 σ H1 D I1 q1
  | false => exact hb pins s1 σ H1 D I1 q1
end

/-! ### targets -/
abbrev TG := V → St → Hp → (St → Hp → Prop) → Prop
abbrev TGs := List V → St → Hp → (St → Hp → Prop) → Prop
def PG (X : Cx) (target : Expr) (t : TG) : Prop :=
  ∀ (pins : List (Addr × Obj)) (s : Shared) (σ : St) (H : Hp) (v : V) (u : Value) (Q : St → Hp → Prop), Inv X pins σ H s → RelV v u → t v σ H Q →
    wpAny (model X.prog X.w) X.A (assign target X.env u) (fun _ s' => ∃ σ' H', Inv X pins σ' H' s' ∧ Q σ' H') X.xe s
/-- several targets, one after another -/
def PGs (X : Cx) (ts : List Expr) (t : TGs) : Prop :=
  ∀ (pins : List (Addr × Obj)) (s : Shared) (σ : St) (H : Hp) (vs : List V) (us : List Value) (Q : St → Hp → Prop), Inv X pins σ H s → Vals vs us → t vs σ H Q →
    wpAny (model X.prog X.w) X.A (assignInOrder ((assignEach ts X.env).map (·.2)) us) (fun _ s' => ∃ σ' H', Inv X pins σ' H' s' ∧ Q σ' H') X.xe s
/-- o[i] = v, by values -/
abbrev TSet := V → V → V → Hp → (Hp → Prop) → Prop
def PSet (X : Cx) (t : TSet) : Prop :=
  ∀ (pins : List (Addr × Obj)) (s : Shared) (σ : St) (H : Hp) (o i v : V) (ov iv u : Value) (Q : Hp → Prop), Inv X pins σ H s → RelV o ov → RelV i iv → RelV v u → t o i v H Q →
    wpAny (model X.prog X.w) X.A (setItem ov iv u) (fun _ s' => ∃ H', Inv X pins σ H' s' ∧ Q H') X.xe s
/-- a op= b, by values -/
abbrev TIp := V → V → Hp → VK → Prop
def PIp (X : Cx) (op : Operator) (t : TIp) : Prop :=
  ∀ (pins : List (Addr × Obj)) (s : Shared) (σ : St) (H : Hp) (x y : V) (v u : Value) (Q : VK), Inv X pins σ H s → RelV x v → RelV y u → t x y H Q →
    wpAny (model X.prog X.w) X.A (inplaceOp op v u) (EP X pins σ Q) X.xe s
section
variable {X : Cx} {pos : Pos}
def gName (i : Nat) : TG := fun v σ H Q => Q (σ.set i (some v)) H
theorem pg_name {i : Nat} {x : Str} (hN : X.N.Nodup) (hi : X.N[i]? = some x) (hx : Loc X.env.scope x) (hf : X.fn x = true ∨ X.env.scope.names.lookup x = some .local := by first | exact .inl rfl | exact .inr rfl | assumption) : PG X (.Name x pos) (gName i) := by
  intro pins s σ H v u Q I r h
  exact wpAny_assign_Name (store_ok I hN hi hx r (fun s' I' => ⟨_, H, I', h⟩) hf)
def gNil : TGs := fun vs σ H Q => vs = [] ∧ Q σ H
def gCons (t : TG) (u : TGs) : TGs := fun vs σ H Q => ∃ v r, vs = v :: r ∧ t v σ H fun σ' H' => u r σ' H' Q
theorem pgs_nil : PGs X [] gNil := by
  intro pins s σ H vs us Q I r h
  obtain ⟨e, h⟩ := h
  subst e
  cases r
  exact assignInOrder_nil ⟨σ, H, I, h⟩
theorem pgs_cons {e : Expr} {es : List Expr} {t : TG} {u : TGs} (h1 : PG X e t) (h2 : PGs X es u)
    (hs : (assignEach (e :: es) X.env).map (·.2) = assign e X.env :: (assignEach es X.env).map (·.2) := by rfl) : PGs X (e :: es) (gCons t u) := by
  intro pins s σ H vs us Q I r h
  obtain ⟨v, vr, e1, h⟩ := h
  subst e1
  cases r with
  | cons r rr =>
    rw [hs]
    refine assignInOrder_cons (thn (h1 pins s σ H _ _ _ I r h) fun _ s1 ⟨σ1, H1, I1, q1⟩ => ?_)
    exact h2 pins s1 σ1 H1 _ _ Q I1 rr q1
/-- (a, b, ..) = a tuple of that length -/
def gTup (K : PySem.W.Frag) (n : Nat) (t : TGs) : TG := fun v σ H Q => ∃ a xs, v = .ref a ∧ SqT K H a xs ∧ xs.length = n ∧ t xs σ H Q
theorem pg_tup {es : List Expr} {k : Nat} {t : TGs} {n : Nat} (hc : X.calm = true) (h : PGs X es t)
    (hn : (assignEach es X.env).length = n := by rfl) (hst : (assignEach es X.env).findIdx? (·.1) = none := by rfl) : PG X (.Tuple es k pos) (gTup X.K n t) := by
  intro pins s σ H v u Q I r hw
  obtain ⟨a, xs, e1, hq, hl, hw⟩ := hw
  subst e1
  cases r
  obtain ⟨its, rv, ht, hz⟩ := I.tuple hq
  refine assign_Tuple_tuple (I.ok.hd hc) ht (by simp [hn, ← hl, rv.length]) hst fun h' hx => ?_
  have I1 : Inv X pins σ H { s with heap := h' } := I.kept (t' := s.toks) fun b o e => hx b o (Nat.ne_of_lt (Heap.lt_size e)) e
  exact h pins _ σ H xs _ Q I1 (by simpa using rv) hw
/-- o[i] = .. -/
def gSub (to ti : TE) (t : TSet) : TG := fun v σ H Q => to σ H fun o H1 => ti σ H1 fun i H2 => t o i v H2 fun H3 => Q σ H3
theorem pg_sub {o i : Expr} {to ti : TE} {t : TSet} (ho : PE X o to) (hi : PE X i ti) (hs : PSet X t)
    (ha : ∀ v, assign (.Subscript o i pos) X.env v = (do
      let ov ← holding [v] (eval o X.env)
      let iv ← holding [v, ov] (eval i X.env)
      standAt pos
      holding [v, ov, iv] (setItem ov iv v)
      release [v, ov, iv] []) := by intro _; rfl) : PG X (.Subscript o i pos) (gSub to ti t) := by
  intro pins s σ H v u Q I r h
  rw [ha]
  refine wpAny_bind (wpAny_holding (thn (ho pins s σ H _ I h) fun ov s1 ⟨x, H1, I1, r1, q1⟩ => ?_))
  refine wpAny_bind (wpAny_holding (thn (hi pins s1 σ H1 _ I1 q1) fun iv s2 ⟨y, H2, I2, r2, q2⟩ => ?_))
  refine wpAny_bind (wpAny_standAt (wpAny_bind (wpAny_holding (thn (hs pins s2 σ H2 x y v ov iv u _ I2 r1 r2 r q2) fun _ s3 ⟨H3, I3, q3⟩ => ?_))))
  exact wpAny_release ⟨σ, H3, I3, q3⟩
/-- target = value -/
def tAsg (te : TE) (g : TG) : TS := fun D σ H => te σ H fun x H1 => g x σ H1 D.nx
theorem ps_asg {tg e : Expr} {te : TE} {g : TG} (he : PE X e te) (hg : PG X tg g) (hs : swapsWithSole [tg] e pos.line X.env = pure false := by rfl) (hw : swappedStores [tg] e X.env = pure none := by rfl)
    (h1 : (assignEach [tg] X.env).map (·.2) = [assign tg X.env] := by rfl) : PS X (.Assign [tg] e pos) (tAsg te g) := by
  intro pins s σ H D I h
  refine wpAny_Assign_stores (thn (he pins s σ H _ I h) fun v s1 ⟨x, H1, I1, r1, q1⟩ => ?_) hs hw
  rw [h1]
  exact thn (hg pins s1 σ H1 x v _ I1 r1 q1) fun _ s2 q => q
/-- name = value -/
theorem ps_set {i : Nat} {x : Str} {e : Expr} {te : TE} {pos' : Pos} (hN : X.N.Nodup) (hi : X.N[i]? = some x) (hx : Loc X.env.scope x) (he : PE X e te) (hs : swapsWith e (some (.Name x pos')) pos.line X.env = pure false := by rfl) (hf : X.fn x = true ∨ X.env.scope.names.lookup x = some .local := by first | exact .inl rfl | exact .inr rfl | assumption) :
    PS X (.Assign [.Name x pos'] e pos) (tAsg te (gName i)) := by
  intro pins s σ H D I h
  refine wpAny_Assign_Name (thn (he pins s σ H _ I h) fun v s1 ⟨y, H1, I1, r1, q1⟩ => ?_) hs
  exact store_ok I1 hN hi hx r1 (fun s2 I2 => ⟨_, H1, I2, q1⟩) hf
/-- name op= e -/
def tAug (i : Nat) (te : TE) (ti : TIp) : TS := fun D σ H => ∃ x, σ[i]? = some (some x) ∧ te σ H fun y H1 => ti x y H1 fun z H2 => D.nx (σ.set i (some z)) H2
theorem ps_aug {i : Nat} {x : Str} {e : Expr} {te : TE} {op : Operator} {ti : TIp} {pos' : Pos} (hN : X.N.Nodup) (hi : X.N[i]? = some x) (hx : Loc X.env.scope x) (he : PE X e te) (ho : PIp X op ti) (hf : X.fn x = true ∨ X.env.scope.names.lookup x = some .local := by first | exact .inl rfl | exact .inr rfl | assumption) :
    PS X (.AugAssign (.Name x pos') op e pos) (tAug i te ti) := by
  intro pins s σ H D I h
  obtain ⟨v, e1, h⟩ := h
  obtain ⟨m, hn, hl⟩ := I.loc
  have vis : Vis X.env.scope x := by rcases hx with k | k; exact .inl k; exact .inr (.inl k)
  obtain ⟨u, r, l⟩ := hl i x v hi e1 vis
  refine wpAny_AugAssign_Name ?_
  have go : wpAny (model X.prog X.w) X.A (eval e X.env) (fun w s₂ => wpAny (model X.prog X.w) X.A (inplaceOp op u w) (fun r s₃ => wpAny (model X.prog X.w) X.A (storeName X.env x r) (fun _ => SP X pins D .next) X.xe s₃) X.xe s₂) X.xe s := by
    refine thn (he pins s σ H _ I h) fun w s1 ⟨y, H1, I1, r1, q1⟩ => ?_
    refine thn (ho pins s1 σ H1 v y u w _ I1 r r1 q1) fun z s2 ⟨zv, H2, I2, r2, q2⟩ => ?_
    exact store_ok I2 hN hi hx r2 (fun s3 I3 => ⟨_, H2, I3, q2⟩) hf
  rcases l with ⟨hk, hm⟩ | ⟨hk, c, hc, hcell⟩
  · exact wpAny_loadName_local I.ok.kind hk hn hm go
  · rcases hk with hk | hk
    · exact wpAny_loadName_cell I.ok.kind hk hc hcell go
    · rcases hx with k | k
      · have : X.env.scope.names.lookup x = some .free := hk
        rw [k] at this; cases this
      · have : X.env.scope.names.lookup x = some .free := hk
        rw [k] at this; cases this
/-- ints -/
def ipI (f : Int → Int → Int) : TIp := fun x y H Q => ∃ i j, x = .int i ∧ y = .int j ∧ Q (.int (f i j)) H
theorem ip_add : PIp X .Add (ipI fun i j => i + j) := by
  intro pins s σ H x y v u Q I r1 r2 h
  obtain ⟨i, j, e1, e2, q⟩ := h
  subst e1; subst e2
  obtain ⟨t, rfl⟩ := r1
  obtain ⟨t', rfl⟩ := r2
  exact iadd_int ⟨.int _, H, I.tok _, ⟨_, rfl⟩, q⟩
end

/-! ### while -/
section
variable {X : Cx} {pos : Pos}
/-- the invariant W with its measure -/
def tWhile (c : TT) (tb : TS) : TS := fun D σ H => ∃ W : Nat → St → Hp → Prop, (∃ m, W m σ H) ∧ ∀ m σ H, W m σ H →
  c σ H fun b H1 => if b = true then ∃ N : St → Hp → Prop, (∀ σ' H', N σ' H' → ∃ m', m' < m ∧ W m' σ' H') ∧ tb { D with nx := N, ct := N, bk := D.nx } σ H1 else D.nx σ H1
theorem ps_while {c : Expr} {body : List Stmt} {tc : TT} {tb : TS} (hp : PassesOwn (model X.prog X.w) X.A X.env X.xe) (hc : PT X c tc) (hb : PSs X body tb) : PS X (.While c body [] pos) (tWhile tc tb) := by
  intro pins s σ H D I h
  obtain ⟨W, ⟨m0, w0⟩, turn⟩ := h
  refine wpAny_While (codeAny_whileLoop (fun n s' => ∃ σ' H', Inv X pins σ' H' s' ∧ W n σ' H') ?_ m0 ⟨σ, H, I, w0⟩)
  rintro n s1 ⟨σ1, H1, I1, w1⟩
  refine wpAny_passesOwn hp (thn (hc pins s1 σ1 H1 _ I1 (turn n σ1 H1 w1)) fun b s2 ⟨H2, I2, q2⟩ => ?_)
  cases b with
  | true =>
    obtain ⟨N, hN, q2⟩ := q2
    rw [if_pos rfl]
    refine wpAny_passesOwn hp (thn (hb pins s2 σ1 H2 _ I2 q2) fun f s3 q3 => ?_)
    cases f with
    | next =>
      obtain ⟨σ3, H3, I3, n3⟩ := q3
      obtain ⟨m', hm, w3⟩ := hN σ3 H3 n3
      exact ⟨m', hm, σ3, H3, I3, w3⟩
    | cont =>
      obtain ⟨σ3, H3, I3, n3⟩ := q3
      obtain ⟨m', hm, w3⟩ := hN σ3 H3 n3
      exact ⟨m', hm, σ3, H3, I3, w3⟩
    | brk => exact q3
    | ret v => exact q3
  | false =>
    rw [if_neg Bool.false_ne_true]
    exact wpAny_execs_nil ⟨σ1, H2, I2, q2⟩
end

/-! ### what a loop or a comprehension walks -/
/-- at turn i: it yields x (the heap may grow), or it stops -/
structure It where
  go : Nat → Hp → Prop
  yld : Nat → Hp → V → Hp → Prop
  stop : Nat → Hp → Prop
/-- the iterator's own objects may turn: they are not the frame's, not pinned, younger than the entry (or a comprehension's own) -/
def FpOk (X : Cx) (pins : List (Addr × Obj)) (H : Hp) (b : Addr) : Prop :=
  H b = none ∧ b ≠ X.env.locals ∧ b ∉ X.fs ∧ (b ∈ X.ex ∨ X.s₀.heap.objs.size ≤ b) ∧ (∀ x c, X.env.cells.lookup x = some c → c ≠ b) ∧ ∀ p ∈ X.pn ++ pins, p.1 ≠ b
theorem Inv.fpOk {X : Cx} {pins : List (Addr × Obj)} {σ : St} {H H' : Hp} {s : Shared} {b : Addr} (I : Inv X pins σ H s) (hb : s.heap.objs.size ≤ b) (hn : H' b = none) : FpOk X pins H' b := by
  refine ⟨hn, Nat.ne_of_gt (Nat.lt_of_lt_of_le I.lt hb), I.nofs hb, .inr (Nat.le_trans I.sz hb), fun x c e z => ?_, fun p hp z => ?_⟩
  · obtain ⟨v, q⟩ := I.cell x c e
    exact absurd (Nat.lt_of_lt_of_le q.lt (by rw [z]; exact hb)) (Nat.lt_irrefl _)
  · exact absurd (Nat.lt_of_lt_of_le (Heap.lt_size (I.pin p hp).1) (by rw [z]; exact hb)) (Nat.lt_irrefl _)
structure Turn (P : Program) (w : World) (K : PySem.W.Frag) (tg : Expr) (J : It) (fp : List Addr) (it : Addr) (tn : Nat → Heap → Prop) : Prop where
  mem : it ∈ fp
  obj : ∀ i h, tn i h → ∀ b ∈ fp, ∃ o, h.get? b = some o ∧ ∀ v, o.data ≠ .cell v
  keep : ∀ i h h', tn i h → (∀ b ∈ fp, ∀ o, h.get? b = some o → h'.get? b = some o) → tn i h'
  item : ∀ (X : Cx), X.prog = P → X.w = w → X.K = K → X.calm = true → ∀ (i : Nat) (pins : List (Addr × Obj)) (s : Shared) (σ : St) (H : Hp) (E : Value → Shared → Prop), Inv X pins σ H s → (∀ b ∈ fp, FpOk X pins H b) → tn i s.heap → J.go i H →
    wpAny (model P w) X.A (pyNext (.ref it)) (fun r s1 => ∃ u, r = some u ∧
      wpAny (model P w) X.A (letOwnedTupleGo tg (.ref it) u) (fun _ s2 => ∃ x H', Inv X pins σ H' s2 ∧ RelV x u ∧ J.yld i H x H' ∧ tn (i + 1) s2.heap ∧ ∀ b ∈ fp, H' b = none) E s1) E s
  done : ∀ (X : Cx), X.prog = P → X.w = w → X.K = K → X.calm = true → ∀ (i : Nat) (pins : List (Addr × Obj)) (s : Shared) (σ : St) (H : Hp) (E : Value → Shared → Prop), Inv X pins σ H s → (∀ b ∈ fp, FpOk X pins H b) → tn i s.heap → J.stop i H →
    wpAny (model P w) X.A (pyNext (.ref it)) (fun r s1 => r = none ∧ Inv X pins σ H s1) E s
  self : ∀ (A : Around) (i : Nat) (s : Shared) (Q : Value → Shared → Prop) (E : Value → Shared → Prop), tn i s.heap → Q (.ref it) s → wpAny (model P w) A (pyIter (.ref it)) Q E s
abbrev TI := St → Hp → (It → Hp → Prop) → Prop
/-- an iterator has come -/
def PIE (X : Cx) (pins : List (Addr × Obj)) (σ : St) (tg : Expr) (R : It → Hp → Prop) (itv : Value) (s2 : Shared) : Prop :=
  ∃ (it : Addr) (fp : List Addr) (tn : Nat → Heap → Prop) (J : It) (H' : Hp), itv = .ref it ∧ Inv X pins σ H' s2 ∧ Turn X.prog X.w X.K tg J fp it tn ∧ tn 0 s2.heap ∧ (∀ b ∈ fp, FpOk X pins H' b) ∧ R J H'
def PI (X : Cx) (tg iter : Expr) (wi : TI) : Prop :=
  ∀ (pins : List (Addr × Obj)) (s : Shared) (σ : St) (H : Hp) (R : It → Hp → Prop), Inv X pins σ H s → wi σ H R →
    wpAny (model X.prog X.w) X.A (eval iter X.env) (fun v s1 => wpAny (model X.prog X.w) X.A (pyIter v) (PIE X pins σ tg R) X.xe s1) X.xe s

/-- the step ahead of the store is nothing for an iterator that keeps no tuple -/
theorem go_of {M : Model} {A : Around} {E : Value → Shared → Prop} {s : Shared} {tg : Expr} {it : Addr} {u : Value} {o : Obj} {n : String} {vs : Array Value} {Q : Unit → Shared → Prop} (ho : s.heap.get? it = some o) (hc : o.cls = .type n) (hd : o.data = .fields vs)
    (hn : ["enumerate", "zip", "dict_itemiterator", "dict_reverseitemiterator", "odict_iterator", "itertools.zip_longest", "itertools.pairwise"].contains n = false) (hQ : Q () s) : wpAny M A (letOwnedTupleGo tg (.ref it) u) Q E s := by
  unfold letOwnedTupleGo
  cases tg <;> first
    | exact wpAny_pure hQ
    | (cases u <;> first
        | exact wpAny_pure hQ
        | (refine wpAny_bind (wpAny_load ho ?_)
           rw [hc, hd]
           show wpAny M A (if (["enumerate", "zip", "dict_itemiterator", "dict_reverseitemiterator", "odict_iterator", "itertools.zip_longest", "itertools.pairwise"].contains n && vs[0]? == some (rawInt _)) = true then _ else _) Q E s
           rw [if_neg (by intro h; rw [hn, Bool.false_and] at h; cases h)]
           exact wpAny_pure hQ))

/-- the list at a, as it stands at each turn (a loop may append to it) -/
def Itl (K : PySem.W.Frag) (a : Addr) : It :=
  ⟨fun i H => ∃ xs x, SqL K H a xs ∧ xs[i]? = some x, fun i H x H' => H' = H ∧ ∀ xs, SqL K H a xs → xs[i]? = some x, fun i H => ∃ xs, SqL K H a xs ∧ xs.length ≤ i⟩
/-- lo, lo + 1, .. (n of them) -/
def Itr (lo : Int) (n : Nat) : It := ⟨fun i _ => i < n, fun i H x H' => H' = H ∧ x = .int (lo + i), fun i _ => n ≤ i⟩
theorem turn_list {P : Program} {w : World} {K : PySem.W.Frag} {tg : Expr} (a it : Addr) : Turn P w K tg (Itl K a) [it] it (fun i h => h.IsListIter it a i) where
  mem := by simp
  obj := fun i h st b hb => by
    have e : b = it := by simpa using hb
    subst e
    obtain ⟨o, e, c, d⟩ := st
    exact ⟨o, e, fun v z => by rw [d] at z; cases z⟩
  keep := fun i h h' st k => st.at fun o e => k it (by simp) o e
  item := by
    intro X hP hw hK hc i pins s σ H E I hf st hg
    subst hP hw hK
    obtain ⟨xs, x, hq, hx⟩ := hg
    obtain ⟨its, rv, p, hz⟩ := I.list hq
    obtain ⟨u, hu, ru⟩ := rv.get hx
    obtain ⟨f0, f1, f2, f3, f4, f5⟩ := hf it (by simp)
    refine wpAny_pyNext_list_item st p.isList (x := u) (by simpa using hu) fun h' st' sb => ?_
    have I1 : Inv X pins σ H { s with heap := h' } := I.turned (t' := s.toks) (fun b o hb e => (sb.2 b hb).trans e) f0 f1 f3 f4 f5
    obtain ⟨o, e, c, d⟩ := id st'
    exact ⟨u, rfl, go_of (s := { s with heap := h' }) e c d (by decide) ⟨x, H, I1, ru, ⟨rfl, fun ys hy => by rw [I.list_inj hy hq]; exact hx⟩, st', fun b hb => (hf b hb).1⟩⟩
  done := by
    intro X hP hw hK hc i pins s σ H E I hf st hg
    subst hP hw hK
    obtain ⟨xs, hq, hx⟩ := hg
    obtain ⟨its, rv, p, hz⟩ := I.list hq
    obtain ⟨f0, f1, f2, f3, f4, f5⟩ := hf it (by simp)
    have hl := rv.length
    exact wpAny_pyNext_list_end (I.ok.hd hc) st p.isList (by simp; omega) fun h' eb => ⟨rfl, I.turned (t' := s.toks) (fun b o hb e => eb b o hb e) f0 f1 f3 f4 f5⟩
  self := fun _ _ _ _ _ st h => wpAny_pyIter_listiter st h
theorem turn_range {P : Program} {w : World} {K : PySem.W.Frag} {tg : Expr} (it : Addr) (lo : Int) (n : Nat) : Turn P w K tg (Itr lo n) [it] it (fun i h => IsRangeIter h it (lo + (i : Nat) * 1) ((n : Int) - (i : Nat)) 1) where
  mem := by simp
  obj := fun i h st b hb => by
    have e : b = it := by simpa using hb
    subst e
    exact ⟨_, st, fun v z => by
      have z' : Data.fields _ = Data.cell v := z
      cases z'⟩
  keep := fun i h h' st k => k it (by simp) _ st
  item := by
    intro X hP hw hK hc i pins s σ H E I hf st hg
    subst hP hw hK
    obtain ⟨f0, f1, f2, f3, f4, f5⟩ := hf it (by simp)
    have W := Walks.range (prog := X.prog) (w := X.w) (I.ok.hd hc) it lo 1 n
    refine W.item i s _ _ hg st fun v h' tk hv st' kk => ?_
    obtain ⟨t, rfl⟩ := hv
    have I1 : Inv X pins σ H { s with heap := h', toks := tk } := I.turned (fun b o hb e => kk b o (by simpa using hb) e) f0 f1 f3 f4 f5
    refine ⟨_, rfl, go_of (s := { s with heap := h', toks := tk }) (n := "range_iterator") st' rfl rfl (by decide) ⟨.int (lo + i), H, I1, ⟨t, ?_⟩, ⟨rfl, rfl⟩, st', fun b hb => (hf b hb).1⟩⟩
    rw [Int.mul_one]
  done := by
    intro X hP hw hK hc i pins s σ H E I hf st hg
    subst hP hw hK
    obtain ⟨f0, f1, f2, f3, f4, f5⟩ := hf it (by simp)
    exact wpAny_pyNext_range_end (I.ok.hd hc) st (by have : n ≤ i := hg; omega) fun h' eb => ⟨rfl, I.turned (t' := s.toks) (fun b o hb e => eb b o hb e) f0 f1 f3 f4 f5⟩
  self := fun _ _ _ _ _ st h => wpAny_pyIter_rangeiter st h
end L2

namespace L2
open PySem PySem.Spec PyProof.Rows
section
variable {X : Cx} {tg : Expr}
def iList (K : PySem.W.Frag) (tl : TE) : TI := fun σ H R => tl σ H fun x H1 => ∃ a, x = .ref a ∧ (∃ xs, SqL K H1 a xs) ∧ R (Itl K a) H1
theorem pi_list {l : Expr} {tl : TE} (hl : PE X l tl) : PI X tg l (iList X.K tl) := by
  intro pins s σ H R I h
  refine thn (hl pins s σ H _ I h) fun v s1 ⟨x, H1, I1, r1, q1⟩ => ?_
  obtain ⟨a, e, ⟨xs, hq⟩, q⟩ := q1
  subst e
  cases r1
  obtain ⟨its, rv, p, hz⟩ := I1.list hq
  refine wpAny_pyIter_list p.isList ?_
  refine ⟨s1.heap.objs.size, [s1.heap.objs.size], _, _, H1, rfl, I1.kept (t' := s1.toks) fun b o e => Heap.get?_push_of_some _ e, turn_list a _, ⟨_, Heap.get?_push_size _ rfl, rfl, rfl⟩, fun b hb => ?_, q⟩
  have e : b = s1.heap.objs.size := by simpa using hb
  subst e
  exact I1.fpOk (Nat.le_refl _) (I1.hok.fresh (Nat.le_refl _))
/-- a range object just made, walked -/
theorem range_it {pins : List (Addr × Obj)} {σ : St} {H : Hp} {s : Shared} {R : It → Hp → Prop} {E : Value → Shared → Prop} {lo hi : Int} {t u v : Tok} {tk : Nat} (I : Inv X pins σ H s) (h1 : -(2 ^ 62) ≤ lo) (h2 : lo < 2 ^ 62) (h3 : -(2 ^ 62) ≤ hi) (h4 : hi < 2 ^ 62)
    (q : R (Itr lo (hi - lo).toNat) H) : wpAny (model X.prog X.w) X.A (pyIter (.ref s.heap.objs.size)) (PIE X pins σ tg R) E { s with heap := s.heap.push { cls := .type "range", data := .fields #[.int lo t, .int hi u, .int 1 v] }, toks := tk } := by
  refine wpAny_pyIter_range (IsRange.new ..) (small_one h1 h2 h3 h4) ?_
  have I1 : Inv X pins σ H { s with heap := s.heap.push { cls := .type "range", data := .fields #[.int lo t, .int hi u, .int 1 v] }, toks := tk } := I.kept fun b o e => Heap.get?_push_of_some _ e
  refine ⟨(s.heap.push { cls := .type "range", data := .fields #[.int lo t, .int hi u, .int 1 v] }).objs.size, [(s.heap.push { cls := .type "range", data := .fields #[.int lo t, .int hi u, .int 1 v] }).objs.size], _, _, H, rfl,
    I1.kept (t' := tk) fun b o e => Heap.get?_push_of_some _ e, turn_range _ lo (hi - lo).toNat, ?_, fun b hb => ?_, q⟩
  · have e1 : lo + ((0 : Nat) : Int) * 1 = lo := by simp
    have e2 : (((hi - lo).toNat : Nat) : Int) - ((0 : Nat) : Int) = Builtin.Range.rangeSize lo hi 1 := by rw [rangeSize_one]; split <;> omega
    show IsRangeIter _ _ (lo + ((0 : Nat) : Int) * 1) ((((hi - lo).toNat : Nat) : Int) - ((0 : Nat) : Int)) 1
    rw [e1, e2]
    exact Heap.get?_push_size _ rfl
  · have e : b = (s.heap.push { cls := .type "range", data := .fields #[.int lo t, .int hi u, .int 1 v] }).objs.size := by simpa using hb
    subst e
    exact I1.fpOk (Nat.le_refl _) (I1.hok.fresh (Nat.le_refl _))
def iRng1 (ta : TA) : TI := fun σ H R => ta σ H fun vs H1 => ∃ j : Int, vs = [.int j] ∧ -(2 ^ 62) ≤ j ∧ j < 2 ^ 62 ∧ R (Itr 0 j.toNat) H1
theorem pi_range1 {a : Expr} {ta : TA} {p pos : Pos} (hg : Gl X "range") (hm : X.mg "range" = none) (ha : PA X [a] ta) (hs : starEach [a] X.env = [(false, eval a X.env)] := by rfl) : PI X tg (.Call (.Name "range" p) [a] [] pos) (iRng1 ta) := by
  intro pins s σ H R I h
  refine Call_ (ld_blt I hg hm boot_range (PyProof.Rows.callWith_type1 (thn (ha pos pins s σ H _ I h) fun us s1 ⟨vs, H1, I1, r1, q1⟩ => ?_) hs rfl))
  obtain ⟨j, e, q1, q2, q⟩ := q1
  subst e
  cases r1 with
  | cons r rr =>
    cases rr
    obtain ⟨t, rfl⟩ := r
    exact call_range_1 (range_it I1 (by omega) (by omega) q1 q2 (by simpa using q))
/-! ### for -/
/-- W: the invariant by the turn and a measure; N: what the body is to reach -/
def tFor (wi : TI) (g : TG) (tb : TS) : TS := fun D σ H => wi σ H fun J H1 => ∃ W : Nat → Nat → St → Hp → Prop, (∃ m, W 0 m σ H1) ∧ ∀ i m σ H, W i m σ H →
  (J.stop i H ∧ D.nx σ H) ∨ (J.go i H ∧ ∃ N : St → Hp → Prop, (∀ σ' H', N σ' H' → ∃ m', m' < m ∧ W (i + 1) m' σ' H') ∧ ∀ x H', J.yld i H x H' → g x σ H' fun σ2 H2 => tb { D with nx := N, ct := N, bk := D.nx } σ2 H2)
/-- the records at fp as they stand -/
def pinsAt (fp : List Addr) (h : Heap) : List (Addr × Obj) := fp.filterMap fun b => (h.get? b).map fun o => (b, o)
theorem mem_pinsAt {fp : List Addr} {h : Heap} {b : Addr} {o : Obj} (hb : b ∈ fp) (e : h.get? b = some o) : (b, o) ∈ pinsAt fp h := List.mem_filterMap.mpr ⟨b, hb, by rw [e]; rfl⟩
theorem of_pinsAt {fp : List Addr} {h : Heap} {p : Addr × Obj} (hp : p ∈ pinsAt fp h) : p.1 ∈ fp ∧ h.get? p.1 = some p.2 := by
  obtain ⟨b, hb, e⟩ := List.mem_filterMap.mp hp
  cases q : h.get? b with
  | none => rw [q] at e; cases e
  | some o =>
    rw [q] at e
    have e' : (b, o) = p := Option.some.inj e
    subst e'
    exact ⟨hb, q⟩
theorem Inv.pinned {pins : List (Addr × Obj)} {σ : St} {H : Hp} {s : Shared} {fp : List Addr} (I : Inv X pins σ H s) (hf : ∀ b ∈ fp, FpOk X pins H b) (ho : ∀ b ∈ fp, ∃ o, s.heap.get? b = some o ∧ ∀ v, o.data ≠ .cell v) : Inv X (pins ++ pinsAt fp s.heap) σ H s :=
  I.pins_of fun p hp => (List.mem_append.mp hp).elim (fun z => I.pin p (List.mem_append_right _ z)) fun z => by
    obtain ⟨hb, e⟩ := of_pinsAt z
    obtain ⟨f0, f1, f2, _⟩ := hf p.1 hb
    obtain ⟨o, e', d⟩ := ho p.1 hb
    rw [e] at e'; cases e'
    exact ⟨e, f0, f1, f2, d⟩
theorem Inv.unpinned {pins pl : List (Addr × Obj)} {σ : St} {H : Hp} {s : Shared} (I : Inv X (pins ++ pl) σ H s) : Inv X pins σ H s := I.pins_of fun p hp => I.pin p (List.mem_append_right _ (List.mem_append_left _ hp))
theorem ps_for {iter : Expr} {body : List Stmt} {wi : TI} {g : TG} {tb : TS} {pos : Pos} (hp : PassesOwn (model X.prog X.w) X.A X.env X.xe) (hc : X.calm = true) (hi : PI X tg iter wi) (hg : PG X tg g) (hb : PSs X body tb)
    (hs : ∀ x, foldedSetIterable iter X.env x = pure x := by intro _; rfl) : PS X (.For tg iter body [] pos) (tFor wi g tb) := by
  intro pins s σ H D I h
  refine wpAny_For (thn (hi pins s σ H _ I h) fun v s1 h1 => thn h1 fun itv s2 h2 => ?_) hs
  obtain ⟨it, fp, tn, J, H2, e, I2, T, st2, f2, W, ⟨m0, w0⟩, turn⟩ := h2
  subst e
  -- what stays true of the iterator's objects through the loop
  have stat : ∀ {H' : Hp}, (∀ b ∈ fp, H' b = none) → ∀ b ∈ fp, FpOk X pins H' b := fun hn b hb => ⟨hn b hb, (f2 b hb).2⟩
  refine codeAny_forLoop_any (fun n s' => ∃ i σ' H', Inv X pins σ' H' s' ∧ tn i s'.heap ∧ (∀ b ∈ fp, H' b = none) ∧ W i n σ' H') ?_ m0 ⟨0, σ, H2, I2, st2, fun b hb => (f2 b hb).1, w0⟩
  rintro n s3 ⟨i, σ3, H3, I3, st3, fr3, w3⟩
  rcases turn i n σ3 H3 w3 with ⟨stop, qn⟩ | ⟨go, N, hN, step⟩
  · refine wpAny_passesOwn hp (thn (T.done X rfl rfl rfl hc i pins s3 σ3 H3 X.xe I3 (stat fr3) st3 stop) fun r s4 ⟨hr, I4⟩ => ?_)
    subst hr
    exact wpAny_execs_nil ⟨σ3, H3, I4, qn⟩
  · refine wpAny_passesOwn hp (thn (T.item X rfl rfl rfl hc i pins s3 σ3 H3 X.xe I3 (stat fr3) st3 go) fun r s4 ⟨u, hr, h4⟩ => ?_)
    subst hr
    refine wpAny_passesOwn hp (thn h4 fun _ s5 ⟨x, H5, I5, r5, y5, st5, fr5⟩ => ?_)
    have I5' := I5.pinned (stat fr5) (T.obj _ _ st5)
    refine wpAny_passesOwn hp (thn (hg _ s5 σ3 H5 x u _ I5' r5 (step x H5 y5)) fun _ s6 ⟨σ6, H6, I6, q6⟩ => ?_)
    refine wpAny_passesOwn hp (thn (hb _ s6 σ6 H6 _ I6 q6) fun f s7 q7 => ?_)
    have again : ∀ {σ7 : St} {H7 : Hp}, Inv X (pins ++ pinsAt fp s5.heap) σ7 H7 s7 → N σ7 H7 → ∃ m, m < n ∧ ∃ i σ' H', Inv X pins σ' H' s7 ∧ tn i s7.heap ∧ (∀ b ∈ fp, H' b = none) ∧ W i m σ' H' := fun {σ7 H7} I7 n7 => by
      obtain ⟨m', hm, w7⟩ := hN σ7 H7 n7
      refine ⟨m', hm, i + 1, σ7, H7, I7.unpinned, T.keep _ _ _ st5 fun b hb o e => (I7.pin (b, o) (List.mem_append_right _ (List.mem_append_right _ (mem_pinsAt hb e)))).1, fun b hb => ?_, w7⟩
      obtain ⟨o, e, d⟩ := T.obj _ _ st5 b hb
      exact (I7.pin (b, o) (List.mem_append_right _ (List.mem_append_right _ (mem_pinsAt hb e)))).2.1
    cases f with
    | next => obtain ⟨σ7, H7, I7, n7⟩ := q7; exact again I7 n7
    | cont => obtain ⟨σ7, H7, I7, n7⟩ := q7; exact again I7 n7
    | brk => obtain ⟨σ7, H7, I7, q7⟩ := q7; exact ⟨σ7, H7, I7.unpinned, q7⟩
    | ret v => obtain ⟨x7, σ7, H7, I7, r7, q7⟩ := q7; exact ⟨x7, σ7, H7, I7.unpinned, r7, q7⟩
end

/-! ### the forms one uses -/
/-- over a list that the body leaves as it is -/
theorem for_list {K : PySem.W.Frag} {a : Addr} {xs : List V} {g : TG} {tb : TS} {D : Ends} {σ : St} {H : Hp} (Pv : Nat → St → Hp → Prop) (h0 : Pv 0 σ H) (hl : ∀ i σ H, i ≤ xs.length → Pv i σ H → SqL K H a xs)
    (hs : ∀ i x σ H, xs[i]? = some x → Pv i σ H → g x σ H fun σ2 H2 => tb { D with nx := Pv (i + 1), ct := Pv (i + 1), bk := D.nx } σ2 H2) (hd : ∀ σ H, Pv xs.length σ H → D.nx σ H) :
    ∃ W : Nat → Nat → St → Hp → Prop, (∃ m, W 0 m σ H) ∧ ∀ i m σ H, W i m σ H →
      ((Itl K a).stop i H ∧ D.nx σ H) ∨ ((Itl K a).go i H ∧ ∃ N : St → Hp → Prop, (∀ σ' H', N σ' H' → ∃ m', m' < m ∧ W (i + 1) m' σ' H') ∧ ∀ x H', (Itl K a).yld i H x H' → g x σ H' fun σ2 H2 => tb { D with nx := N, ct := N, bk := D.nx } σ2 H2) := by
  refine ⟨fun i m σ H => m = xs.length - i ∧ i ≤ xs.length ∧ Pv i σ H, ⟨xs.length, by simp, Nat.zero_le _, h0⟩, ?_⟩
  rintro i m σ H ⟨rfl, hi, p⟩
  have q := hl i σ H hi p
  by_cases hlt : i < xs.length
  · refine .inr ⟨⟨xs, xs[i], q, by simp [hlt]⟩, Pv (i + 1), fun σ' H' p' => ⟨xs.length - (i + 1), by omega, rfl, hlt, p'⟩, fun x H' y => ?_⟩
    obtain ⟨e, y⟩ := y
    subst e
    exact hs i x σ _ (y xs q) p
  · have e : i = xs.length := by omega
    subst e
    exact .inl ⟨⟨xs, q, Nat.le_refl _⟩, hd σ H p⟩
theorem for_range {lo : Int} {n : Nat} {g : TG} {tb : TS} {D : Ends} {σ : St} {H : Hp} (Pv : Nat → St → Hp → Prop) (h0 : Pv 0 σ H)
    (hs : ∀ i σ H, i < n → Pv i σ H → g (.int (lo + i)) σ H fun σ2 H2 => tb { D with nx := Pv (i + 1), ct := Pv (i + 1), bk := D.nx } σ2 H2) (hd : ∀ σ H, Pv n σ H → D.nx σ H) :
    ∃ W : Nat → Nat → St → Hp → Prop, (∃ m, W 0 m σ H) ∧ ∀ i m σ H, W i m σ H →
      ((Itr lo n).stop i H ∧ D.nx σ H) ∨ ((Itr lo n).go i H ∧ ∃ N : St → Hp → Prop, (∀ σ' H', N σ' H' → ∃ m', m' < m ∧ W (i + 1) m' σ' H') ∧ ∀ x H', (Itr lo n).yld i H x H' → g x σ H' fun σ2 H2 => tb { D with nx := N, ct := N, bk := D.nx } σ2 H2) := by
  refine ⟨fun i m σ H => m = n - i ∧ i ≤ n ∧ Pv i σ H, ⟨n, by simp, Nat.zero_le _, h0⟩, ?_⟩
  rintro i m σ H ⟨rfl, hi, p⟩
  by_cases hlt : i < n
  · refine .inr ⟨hlt, Pv (i + 1), fun σ' H' p' => ⟨n - (i + 1), by omega, rfl, hlt, p'⟩, fun x H' y => ?_⟩
    obtain ⟨e, y⟩ := y
    subst e y
    exact hs i σ _ hlt p
  · have e : i = n := by omega
    subst e
    exact .inl ⟨Nat.le_refl _, hd σ H p⟩
/-- while, by a word and a measure of the state -/
theorem while_by {c : TT} {tb : TS} {D : Ends} {σ : St} {H : Hp} (Pv : St → Hp → Prop) (μ : St → Hp → Nat) (h0 : Pv σ H)
    (hs : ∀ σ H, Pv σ H → c σ H fun b H1 => if b = true then tb { D with nx := fun σ' H' => Pv σ' H' ∧ μ σ' H' < μ σ H, ct := fun σ' H' => Pv σ' H' ∧ μ σ' H' < μ σ H, bk := D.nx } σ H1 else D.nx σ H1)
    (mono : ∀ σ H Q Q', (∀ b H1, Q b H1 → Q' b H1) → c σ H Q → c σ H Q') : tWhile c tb D σ H := by
  refine ⟨fun m σ H => m = μ σ H ∧ Pv σ H, ⟨_, rfl, h0⟩, ?_⟩
  rintro m σ H ⟨rfl, p⟩
  refine mono σ H _ _ (fun b H1 q => ?_) (hs σ H p)
  cases b with
  | true => exact ⟨_, fun σ' H' ⟨p', l⟩ => ⟨_, l, rfl, p'⟩, q⟩
  | false => exact q
end L2

namespace L2
open PySem PySem.Spec PyProof.Rows

abbrev R2 := V → V → Hp → VK → Prop
/-- a two-place operation on values: f is binaryOp op, inplaceOp op or compareOp op -/
def OpR (X : Cx) (f : Value → Value → Sem Value) (r : R2) : Prop :=
  ∀ (pins : List (Addr × Obj)) (s : Shared) (σ : St) (H : Hp) (x y : V) (v u : Value) (Q : VK), Inv X pins σ H s → RelV x v → RelV y u → r x y H Q →
    wpAny (model X.prog X.w) X.A (f v u) (EP X pins σ Q) X.xe s
/-- a one-place operation -/
def UnR (X : Cx) (f : Value → Sem Value) (r : V → Hp → VK → Prop) : Prop :=
  ∀ (pins : List (Addr × Obj)) (s : Shared) (σ : St) (H : Hp) (x : V) (v : Value) (Q : VK), Inv X pins σ H s → RelV x v → r x H Q →
    wpAny (model X.prog X.w) X.A (f v) (EP X pins σ Q) X.xe s
/-- a call of a value that is known (a builtin, a type) with values -/
def CallR (X : Cx) (f : Value) (r : List V → Hp → VK → Prop) : Prop :=
  ∀ (pins : List (Addr × Obj)) (s : Shared) (σ : St) (H : Hp) (xs : List V) (us : List Value) (Q : VK), Inv X pins σ H s → Vals xs us → r xs H Q →
    wpAny (model X.prog X.w) X.A (call f us) (EP X pins σ Q) X.xe s
def tOp (r : R2) (ta tb : TE) : TE := fun σ H Q => ta σ H fun x H1 => tb σ H1 fun y H2 => r x y H2 Q
def tUn (r : V → Hp → VK → Prop) (ta : TE) : TE := fun σ H Q => ta σ H fun x H1 => r x H1 Q
/-- ints in, under C, and a value out -/
def rI (C : Int → Int → Prop) (g : Int → Int → V) : R2 := fun x y H Q => ∃ i j, x = .int i ∧ y = .int j ∧ C i j ∧ Q (g i j) H
def rI0 (g : Int → Int → V) : R2 := fun x y H Q => ∃ i j, x = .int i ∧ y = .int j ∧ Q (g i j) H
def rU (g : Int → V) : V → Hp → VK → Prop := fun x H Q => ∃ i, x = .int i ∧ Q (g i) H

section
variable {X : Cx} {a b c : Expr} {ta tb tc : TE} {pos : Pos}

theorem binT (ha : PE X a ta) (hb : PE X b tb) {pins : List (Addr × Obj)} {s : Shared} {σ : St} {H : Hp} {R : V → V → Hp → Prop} (I : Inv X pins σ H s)
    (h : ta σ H fun x H1 => tb σ H1 fun y H2 => R x y H2) {Q : Value → Shared → Prop} {f : Value → Value → Sem Value}
    (hf : ∀ v u s2 x y H2, Inv X pins σ H2 s2 → RelV x v → RelV y u → R x y H2 → wpAny (model X.prog X.w) X.A (f v u) Q X.xe s2) :
    wpAny (model X.prog X.w) X.A (eval a X.env) (fun v s₁ => wpAny (model X.prog X.w) X.A (eval b X.env) (fun u s₂ => wpAny (model X.prog X.w) X.A (f v u) Q X.xe s₂) X.xe s₁) X.xe s := by
  refine thn (ha pins s σ H _ I h) fun v s1 ⟨x, H1, I1, r1, q1⟩ => ?_
  refine thn (hb pins s1 σ H1 _ I1 q1) fun u s2 ⟨y, H2, I2, r2, q2⟩ => ?_
  exact hf v u s2 x y H2 I2 r1 r2 q2

theorem pe_op {op : Operator} {r : R2} (ho : OpR X (binaryOp op) r) (ha : PE X a ta) (hb : PE X b tb) : PE X (.BinOp a op b pos) (tOp r ta tb) := by
  intro pins s σ H Q I h
  exact wpAny_BinOp (binT ha hb I h fun v u s2 x y H2 I2 rx ry q => ho pins s2 σ H2 x y v u Q I2 rx ry q)
theorem pe_un {op : UnaryOp} {r : V → Hp → VK → Prop} (ho : UnR X (unaryOp op) r) (ha : PE X a ta) : PE X (.UnaryOp op a pos) (tUn r ta) := by
  intro pins s σ H Q I h
  exact UnaryOp_ (thn (ha pins s σ H _ I h) fun v s1 ⟨x, H1, I1, r1, q1⟩ => ho pins s1 σ H1 x v Q I1 r1 q1)
/-! ### ints -/
theorem opI {f : Value → Value → Sem Value} {C : Int → Int → Prop} {g : Int → Int → Int}
    (rule : ∀ (i j : Int) (t u : Tok) (s : Shared) (Q : Value → Shared → Prop) (E : Value → Shared → Prop), C i j → Q (.int (g i j) s.toks) { s with toks := s.toks + 1 } → wpAny (model X.prog X.w) X.A (f (.int i t) (.int j u)) Q E s) :
    OpR X f (rI C fun i j => .int (g i j)) := by
  intro pins s σ H x y v u Q I rx ry h
  obtain ⟨i, j, rfl, rfl, hc, q⟩ := h
  obtain ⟨t, rfl⟩ := rx
  obtain ⟨t', rfl⟩ := ry
  exact rule i j t t' s _ _ hc ⟨.int (g i j), H, I.tok _, ⟨_, rfl⟩, q⟩
theorem opI0 {f : Value → Value → Sem Value} {g : Int → Int → Int}
    (rule : ∀ (i j : Int) (t u : Tok) (s : Shared) (Q : Value → Shared → Prop) (E : Value → Shared → Prop), Q (.int (g i j) s.toks) { s with toks := s.toks + 1 } → wpAny (model X.prog X.w) X.A (f (.int i t) (.int j u)) Q E s) :
    OpR X f (rI0 fun i j => .int (g i j)) := by
  intro pins s σ H x y v u Q I rx ry h
  obtain ⟨i, j, rfl, rfl, q⟩ := h
  obtain ⟨t, rfl⟩ := rx
  obtain ⟨t', rfl⟩ := ry
  exact rule i j t t' s _ _ ⟨.int (g i j), H, I.tok _, ⟨_, rfl⟩, q⟩
theorem opB0 {f : Value → Value → Sem Value} {g : Int → Int → Bool}
    (rule : ∀ (i j : Int) (t u : Tok) (s : Shared) (Q : Value → Shared → Prop) (E : Value → Shared → Prop), Q (.bool (g i j)) s → wpAny (model X.prog X.w) X.A (f (.int i t) (.int j u)) Q E s) :
    OpR X f (rI0 fun i j => .bl (g i j)) := by
  intro pins s σ H x y v u Q I rx ry h
  obtain ⟨i, j, rfl, rfl, q⟩ := h
  obtain ⟨t, rfl⟩ := rx
  obtain ⟨t', rfl⟩ := ry
  exact rule i j t t' s _ _ ⟨.bl (g i j), H, I, rfl, q⟩

def CDiv (i j : Int) : Prop := 0 < j ∧ j < 1073741824
def CPow (i j : Int) : Prop := 0 ≤ j ∧ j ≤ 1000000 ∧ i.natAbs < 2 ^ 64
def CMul (i j : Int) : Prop := (-(2 ^ 64) < i ∧ i < 2 ^ 64) ∨ (-(2 ^ 64) < j ∧ j < 2 ^ 64)
theorem CMul.ok {i j : Int} (h : CMul i j) : IntMulOk i j := by
  rcases h with ⟨h1, h2⟩ | ⟨h1, h2⟩
  · exact .of_left (intBits_le_64 h1 h2)
  · exact .of_right (intBits_le_64 h1 h2)
theorem op_add : OpR X (binaryOp .Add) (rI0 fun i j => .int (i + j)) := opI0 fun _ _ _ _ _ _ _ q => add_int q
theorem op_sub : OpR X (binaryOp .Sub) (rI0 fun i j => .int (i - j)) := opI0 fun _ _ _ _ _ _ _ q => sub_int q
theorem op_mul : OpR X (binaryOp .Mult) (rI CMul fun i j => .int (i * j)) := opI fun _ _ _ _ _ _ _ hc q => mul_int q hc.ok
/-- // by a positive divisor -/
theorem op_fdiv : OpR X (binaryOp .FloorDiv) (rI CDiv fun i j => .int (i / j)) := opI fun i j _ _ _ _ _ hc q => by
  have h1 : (0 : Int) < j := hc.1
  have h2 : j < 1073741824 := hc.2
  exact floordiv_int (by omega) (by rw [Int.fdiv_eq_ediv_of_nonneg i (by omega)]; exact q) (.inl (PyProof.noPylong_small (by omega)))
/-- % by a positive divisor of any size -/
theorem op_mod : OpR X (binaryOp .Mod) (rI (fun _ j => 0 < j) fun i j => .int (i % j)) := opI fun i j _ _ _ _ _ hc q => by
  have h1 : (0 : Int) < j := hc
  exact mod_int' (by omega) (by rw [Int.fmod_eq_emod_of_nonneg i (by omega)]; exact q)
theorem op_pow : OpR X (binaryOp .Pow) (rI CPow fun i j => .int (i ^ j.toNat)) := opI fun _ _ _ _ _ _ _ hc q => pow_int_small hc.1 hc.2.1 hc.2.2 q
theorem op_xor : OpR X (binaryOp .BitXor) (rI0 fun i j => .int (Builtin.bitXor i j)) := opI0 fun _ _ _ _ _ _ _ q => xor_int q

theorem unI {f : Value → Sem Value} {g : Int → Int}
    (rule : ∀ (i : Int) (t : Tok) (s : Shared) (Q : Value → Shared → Prop) (E : Value → Shared → Prop), Q (.int (g i) s.toks) { s with toks := s.toks + 1 } → wpAny (model X.prog X.w) X.A (f (.int i t)) Q E s) :
    UnR X f (rU fun i => .int (g i)) := by
  intro pins s σ H x v Q I rx h
  obtain ⟨i, rfl, q⟩ := h
  obtain ⟨t, rfl⟩ := rx
  exact rule i t s _ _ ⟨.int (g i), H, I.tok _, ⟨_, rfl⟩, q⟩
theorem un_neg : UnR X (unaryOp .USub) (rU fun i => .int (-i)) := unI fun _ _ _ _ _ q => neg_int q
/-! ### bools among ints: n += (a < b) -/
end

/-! ### comparisons -/
/-- the scalars that == tells apart as data does -/
def scal : V → V → Bool
  | .non, .non => true | .non, .int _ => true | .int _, .non => true | .non, .bl _ => true | .bl _, .non => true | .non, .str _ => true | .str _, .non => true
  | .int _, .int _ => true | .bl _, .bl _ => true | .str _, .str _ => true | .byt _, .byt _ => true
  | .int _, .str _ => true | .str _, .int _ => true | .bl _, .str _ => true | .str _, .bl _ => true
  | _, _ => false
def rEq : R2 := fun x y H Q => scal x y = true ∧ Q (.bl (decide (x = y))) H
def rNe : R2 := fun x y H Q => scal x y = true ∧ Q (.bl (!decide (x = y))) H

theorem dec_int {i j : Int} : decide (V.int i = V.int j) = (i == j) := by
  rw [Bool.eq_iff_iff]
  simp
theorem dec_bl {i j : Bool} : decide (V.bl i = V.bl j) = (i == j) := by
  rw [Bool.eq_iff_iff]
  simp
theorem dec_str {i j : Str} : decide (V.str i = V.str j) = (i == j) := by
  rw [Bool.eq_iff_iff]
  simp
theorem dec_byt {i j : Array UInt8} : decide (V.byt i = V.byt j) = (i.toList == j.toList) := by
  rw [Bool.eq_iff_iff]
  cases i
  cases j
  simp

section
variable {X : Cx} {a b c : Expr} {ta tb tc : TE} {pos : Pos}
theorem fin_bl {pins : List (Addr × Obj)} {σ : St} {H : Hp} {s : Shared} {Q : VK} {k k' : Bool} (I : Inv X pins σ H s) (q : Q (.bl k) H) (e : k = k') : EP X pins σ Q (.bool k') s := by
  subst e
  exact ⟨.bl k, H, I, rfl, q⟩
theorem op_eq : OpR X (compareOp .Eq) rEq := by
  intro pins s σ H x y v u Q I rx ry h
  obtain ⟨hs, q⟩ := h
  cases x with
  | non =>
    cases rx
    cases y with
    | non => cases ry; exact PySem.EqNone.eq_none_none (fin_bl I q (by simp))
    | bl j => cases ry; exact PySem.EqNone.eq_none_bool (fin_bl I q (by simp))
    | int j => obtain ⟨t', rfl⟩ := ry; exact PySem.EqNone.eq_none_int (fin_bl I q (by simp))
    | str j => obtain ⟨t', rfl⟩ := ry; exact PySem.EqNone.eq_none_str (fin_bl I q (by simp))
    | _ => exact absurd (show false = true from hs) Bool.false_ne_true
  | bl i =>
    cases rx
    cases y with
    | non => cases ry; exact PySem.EqNone.eq_bool_none (fin_bl I q (by simp))
    | bl j => cases ry; exact eq_bool (fin_bl I q dec_bl)
    | str j => obtain ⟨t', rfl⟩ := ry; exact PySem.EqMixed.eq_bool_str (fin_bl I q (by simp))
    | _ => exact absurd (show false = true from hs) Bool.false_ne_true
  | int i =>
    obtain ⟨t, rfl⟩ := rx
    cases y with
    | non => cases ry; exact PySem.EqNone.eq_int_none (fin_bl I q (by simp))
    | int j => obtain ⟨t', rfl⟩ := ry; exact eq_int (fin_bl I q dec_int)
    | str j => obtain ⟨t', rfl⟩ := ry; exact PySem.EqMixed.eq_int_str (fin_bl I q (by simp))
    | _ => exact absurd (show false = true from hs) Bool.false_ne_true
  | str i =>
    obtain ⟨t, rfl⟩ := rx
    cases y with
    | non => cases ry; exact PySem.EqNone.eq_str_none (fin_bl I q (by simp))
    | bl j => cases ry; exact PySem.EqMixed.eq_str_bool (fin_bl I q (by simp))
    | int j => obtain ⟨t', rfl⟩ := ry; exact PySem.EqMixed.eq_str_int (fin_bl I q (by simp))
    | str j => obtain ⟨t', rfl⟩ := ry; exact eq_str (fin_bl I q dec_str)
    | _ => exact absurd (show false = true from hs) Bool.false_ne_true
  | byt i =>
    obtain ⟨t, rfl⟩ := rx
    cases y with
    | byt j => obtain ⟨t', rfl⟩ := ry; exact PySem.W.eq_bytes (fin_bl I q dec_byt)
    | _ => exact absurd (show false = true from hs) Bool.false_ne_true
  | _ => cases y <;> exact absurd (show false = true from hs) Bool.false_ne_true
theorem op_ne : OpR X (compareOp .NotEq) rNe := by
  intro pins s σ H x y v u Q I rx ry h
  obtain ⟨hs, q⟩ := h
  cases x with
  | non =>
    cases rx
    cases y with
    | non => cases ry; exact PySem.EqNone.ne_none_none (fin_bl I q (by simp))
    | bl j => cases ry; exact PySem.EqNone.ne_none_bool (fin_bl I q (by simp))
    | int j => obtain ⟨t', rfl⟩ := ry; exact PySem.EqNone.ne_none_int (fin_bl I q (by simp))
    | str j => obtain ⟨t', rfl⟩ := ry; exact PySem.EqNone.ne_none_str (fin_bl I q (by simp))
    | _ => exact absurd (show false = true from hs) Bool.false_ne_true
  | bl i =>
    cases rx
    cases y with
    | non => cases ry; exact PySem.EqNone.ne_bool_none (fin_bl I q (by simp))
    | bl j => cases ry; exact ne_bool (fin_bl I q (congrArg not dec_bl))
    | str j => obtain ⟨t', rfl⟩ := ry; exact PySem.EqMixed.ne_bool_str (fin_bl I q (by simp))
    | _ => exact absurd (show false = true from hs) Bool.false_ne_true
  | int i =>
    obtain ⟨t, rfl⟩ := rx
    cases y with
    | non => cases ry; exact PySem.EqNone.ne_int_none (fin_bl I q (by simp))
    | int j => obtain ⟨t', rfl⟩ := ry; exact ne_int (fin_bl I q (congrArg not dec_int))
    | str j => obtain ⟨t', rfl⟩ := ry; exact PySem.EqMixed.ne_int_str (fin_bl I q (by simp))
    | _ => exact absurd (show false = true from hs) Bool.false_ne_true
  | str i =>
    obtain ⟨t, rfl⟩ := rx
    cases y with
    | non => cases ry; exact PySem.EqNone.ne_str_none (fin_bl I q (by simp))
    | bl j => cases ry; exact PySem.EqMixed.ne_str_bool (fin_bl I q (by simp))
    | int j => obtain ⟨t', rfl⟩ := ry; exact PySem.EqMixed.ne_str_int (fin_bl I q (by simp))
    | str j => obtain ⟨t', rfl⟩ := ry; exact ne_str (fin_bl I q (congrArg not dec_str))
    | _ => exact absurd (show false = true from hs) Bool.false_ne_true
  | byt i =>
    obtain ⟨t, rfl⟩ := rx
    cases y with
    | byt j => obtain ⟨t', rfl⟩ := ry; exact PySem.W.ne_bytes (fin_bl I q (congrArg not dec_byt))
    | _ => exact absurd (show false = true from hs) Bool.false_ne_true
  | _ => cases y <;> exact absurd (show false = true from hs) Bool.false_ne_true

theorem op_lt : OpR X (compareOp .Lt) (rI0 fun i j => .bl (decide (i < j))) := opB0 fun _ _ _ _ _ _ _ q => lt_int q
theorem op_gt : OpR X (compareOp .Gt) (rI0 fun i j => .bl (decide (j < i))) := opB0 fun _ _ _ _ _ _ _ q => gt_int q
theorem op_ge : OpR X (compareOp .GtE) (rI0 fun i j => .bl (decide (j ≤ i))) := opB0 fun _ _ _ _ _ _ _ q => ge_int q
theorem nomark (b : Expr) {op : CmpOp} (h : op ≠ .In := by decide) (h2 : op ≠ .NotIn := by decide) : behindInMarks op b = false := by
  have e1 : (op == CmpOp.In) = false := by cases op <;> first | rfl | exact absurd rfl h
  have e2 : (op == CmpOp.NotIn) = false := by cases op <;> first | rfl | exact absurd rfl h2
  cases b <;> simp [behindInMarks, e1, e2]
/-- a comparison as a value; hm: nomark b, or (for in, not in) by with_unfolding_all rfl -/
theorem pe_cmpR {op : CmpOp} {r : R2} (ho : OpR X (compareOp op) r) (ha : PE X a ta) (hb : PE X b tb) (hm : behindInMarks op b = false) : PE X (.Compare a [op] [b] pos) (tOp r ta tb) := by
  intro pins s σ H Q I h
  exact wpAny_Compare1 (binT ha hb I h fun v u s2 x y H2 I2 rx ry q => ho pins s2 σ H2 x y v u Q I2 rx ry q) hm
/-- a reading of a value as a test -/
def tTest (t : TE) : TT := fun σ H Q => t σ H fun x H' => ∃ k, x = .bl k ∧ Q k H'
theorem pt_cmpR {op : CmpOp} {r : R2} (ho : OpR X (compareOp op) r) (ha : PE X a ta) (hb : PE X b tb) (hm : behindInMarks op b = false) : PT X (.Compare a [op] [b] pos) (tTest (tOp r ta tb)) := by
  intro pins s σ H Q I h
  refine wpAny_isTrue_Compare1 (thn (ha pins s σ H _ I h) fun v s1 ⟨x, H1, I1, r1, q1⟩ => thn (hb pins s1 σ H1 _ I1 q1) fun u s2 ⟨y, H2, I2, r2, q2⟩ =>
    thn (ho pins s2 σ H2 x y v u _ I2 r1 r2 q2) fun c s3 ⟨z, H3, I3, r3, k, e, q3⟩ => ?_) hm
  subst e
  cases r3
  exact wpAny_truthy_bool ⟨H3, I3, q3⟩
/-! ### truth -/
theorem line63 : (sizeLine : Nat) < 2 ^ 63 := by rw [sizeLine_eq]; decide
/-! ### strs and bytes -/
/-! ### scalar builtins, by CallR -/
theorem vals1 {x : V} {us : List Value} (r : Vals [x] us) : ∃ u, us = [u] ∧ RelV x u := by
  cases r with
  | cons r1 r2 => cases r2; exact ⟨_, rfl, r1⟩
theorem vals2 {x y : V} {us : List Value} (r : Vals [x, y] us) : ∃ u w', us = [u, w'] ∧ RelV x u ∧ RelV y w' := by
  cases r with
  | cons r1 r2 =>
    cases r2 with
    | cons r3 r4 => cases r4; exact ⟨_, _, rfl, r1, r3⟩
theorem call_abs : CallR X (.builtin "abs") (fun xs H Q => ∃ i, xs = [.int i] ∧ Q (.int (if i < 0 then -i else i)) H) := by
  intro pins s σ H xs us Q I r h
  obtain ⟨i, rfl, q⟩ := h
  obtain ⟨u, rfl, t, rfl⟩ := vals1 r
  exact call_abs_int fun u tk => ⟨.int (if i < 0 then -i else i), H, I.tok _, ⟨_, rfl⟩, q⟩
theorem call_max2 (hc : X.calm = true) : CallR X (.builtin "max") (fun xs H Q => ∃ i j, xs = [.int i, .int j] ∧ Q (.int (if j > i then j else i)) H) := by
  intro pins s σ H xs us Q I r h
  obtain ⟨i, j, rfl, q⟩ := h
  obtain ⟨u, w', rfl, ⟨t, rfl⟩, ⟨t', rfl⟩⟩ := vals2 r
  refine max_two_ints (I.ok.hd hc) fun h' tk k => ⟨_, H, I.kept k, ?_, q⟩
  by_cases hj : j > i
  · rw [if_pos hj, if_pos hj]; exact ⟨_, rfl⟩
  · rw [if_neg hj, if_neg hj]; exact ⟨_, rfl⟩
theorem call_min2 (hc : X.calm = true) : CallR X (.builtin "min") (fun xs H Q => ∃ i j, xs = [.int i, .int j] ∧ Q (.int (if j < i then j else i)) H) := by
  intro pins s σ H xs us Q I r h
  obtain ⟨i, j, rfl, q⟩ := h
  obtain ⟨u, w', rfl, ⟨t, rfl⟩, ⟨t', rfl⟩⟩ := vals2 r
  refine min_two_ints (I.ok.hd hc) fun h' tk k => ⟨_, H, I.kept k, ?_, q⟩
  by_cases hj : j < i
  · rw [if_pos hj, if_pos hj]; exact ⟨_, rfl⟩
  · rw [if_neg hj, if_neg hj]; exact ⟨_, rfl⟩
theorem call_int1 : CallR X (.type "int") (fun xs H Q => (∃ i, xs = [.int i] ∧ Q (.int i) H) ∨ ∃ k, xs = [.bl k] ∧ Q (.int (if k then 1 else 0)) H) := by
  intro pins s σ H xs us Q I r h
  rcases h with ⟨i, rfl, q⟩ | ⟨k, rfl, q⟩
  · obtain ⟨u, rfl, t, rfl⟩ := vals1 r
    exact call_int_int ⟨.int i, H, I, ⟨_, rfl⟩, q⟩
  · obtain ⟨u, rfl, r1⟩ := vals1 r
    cases r1
    exact call_int_bool ⟨.int (if k then 1 else 0), H, I.tok _, ⟨_, rfl⟩, q⟩
end
end L2

namespace L2
open PySem PySem.Spec PyProof.Rows

/-! ### an instance, its attributes a map -/
structure ObjM (h : Heap) (x dx C : Addr) (mA : Str → Option Value) : Prop where
  obj : h.get? x = some (PySem.W.instObj C dx)
  ns : h.Ns1 dx mA
  ne : dx ≠ x

theorem lookIn_ns {h : Heap} {dx : Addr} {mA : Str → Option Value} (n : h.Ns1 dx mA) : ∃ od, h.get? dx = some od ∧ ∀ name, PySem.W.lookIn name od = some (mA name) := by
  obtain ⟨o, es, ep, ho, hd, hk, _, hm⟩ := n
  refine ⟨o, ho, fun name => ?_⟩
  have e := hm name
  unfold nsFind findBy at e
  rw [← Array.find?_toList] at e
  unfold PySem.W.lookIn
  rw [hd]
  dsimp only
  split
  · rename_i y q
    rw [q] at e
    exact congrArg some e
  · rename_i q
    rw [q] at e
    have a : es.toList.any (·.refKey) = false := by
      rw [List.any_eq_false]
      intro y hy
      obtain ⟨z, t, hkey⟩ := hk y (Array.mem_toList_iff.mp hy)
      simp [DictEntry.refKey, hkey]
    have a' : ¬ es.toList.any (·.refKey) = true := by rw [a]; exact Bool.false_ne_true
    rw [if_neg a']
    exact congrArg some e

theorem ObjM.look {h : Heap} {x dx C : Addr} {mA : Str → Option Value} (I : ObjM h x dx C mA) : ∃ od, PySem.W.InstAt h x (PySem.W.instObj C dx) C (some od) ∧ ∀ name, PySem.W.lookIn name od = some (mA name) :=
  let ⟨od, ho, hl⟩ := lookIn_ns I.ns
  ⟨od, ⟨I.obj, rfl, rfl, ho⟩, hl⟩

section
variable {prog : Program} {w : World} {A : Around} {E : Value → Shared → Prop} {s : Shared} {K : PySem.W.Frag} {x dx C f : Addr} {mA : Str → Option Value} {name : Str} {v : Value}

end

/-! ### the attributes as a list of pairs -/
section
variable {P : Program} {w : World} {H H' : Hp} {h h' : Heap} {a C dx : Addr} {fs fs' : List (Str × V)}
theorem ins_get (hok : HOk P w H h) (e : H a = some (.ins C dx fs)) : ∃ mA, ObjM h a dx C mA ∧ (∀ f, RelO (fs.lookup f) (mA f)) ∧ PySem.Within mA (fs.map (·.1)) ∧ fs.length ≤ 1000 ∧ H dx = some (.own a) := by
  obtain ⟨d, z, ne, ob, mA, n, r, q⟩ := (show ObjOk P w H h a (.ins C dx fs) from hok a _ e)
  exact ⟨mA, ⟨ob, n, ne⟩, r, q, z, d⟩
end

/-! ### what of the text a class must have -/
structure Cls (K : PySem.W.Frag) (C : Addr) : Prop where
  pg : PySem.W.plainGet K C Str.empty = true
  hd : PySem.W.hasDictIn K C = true
  po : PySem.W.plainOver K C = true
  sa : PySem.W.findIn K (.ref C) "__setattr__" = some (some (.builtin "object.__setattr__"))
theorem Cls.get {K : PySem.W.Frag} {C : Addr} (c : Cls K C) (f : Str) : PySem.W.plainGet K C f = true := c.pg
/-- a constant of the class -/
structure Con (K : PySem.W.Frag) (C : Addr) (f : Str) (v : V) (u : Value) : Prop where
  at_ : PySem.W.findIn K (.ref C) f = some (some u)
  rel : RelV v u
  get : PySem.W.specialIn K u "__get__" = some none
  cp : PySem.W.copiedNames.contains f = false
/-- a method: a plain def of the class or of one above it -/
structure Meth (K : PySem.W.Frag) (C : Addr) (m : Str) (f : Addr) : Prop where
  at_ : PySem.W.findIn K (.ref C) m = some (some (.ref f))
  fn : PySem.W.isFn K (.ref f) = true
  kp : PySem.W.keepIn K (.ref f) = true

section
variable {X : Cx} {pins : List (Addr × Obj)} {σ : St} {H : Hp} {s : Shared} {a C dx : Addr} {fs : List (Str × V)} {f : Str} {v : V} {A : Around} {E : Value → Shared → Prop}

end

/-! ### readings and rules -/
section
variable {X : Cx} {o e value : Expr} {f : Str} {pos pos' tpos : Pos} {ta tv : TE}
end

/-! ### isinstance -/
section
variable {X : Cx} {pins : List (Addr × Obj)} {σ : St} {H : Hp} {s : Shared} {A : Around} {E : Value → Shared → Prop} {Q : Value → Shared → Prop} {c : Value} {b : Bool}
/-- the type of a value, as the fragment's deciders take it; for an instance its class -/
inductive TyOf (K : PySem.W.Frag) (H : Hp) : V → Value → Prop where
  | non : TyOf K H .non (.type "NoneType")
  | bl (x : Bool) : TyOf K H (.bl x) (.type "bool")
  | int (i : Int) : TyOf K H (.int i) (.type "int")
  | str (x : Str) : TyOf K H (.str x) (.type "str")
  | flt (x : UInt64) : TyOf K H (.flt x) (.type "float")
  | lst {a : Addr} {xs : List V} (e : H a = some (.lst xs)) : TyOf K H (.ref a) (.type "list")
  | frz {a : Addr} {o : Obj} {xs : List V} (e : H a = some (.frz o (.lst xs))) : TyOf K H (.ref a) (.type "list")
  | tup {a : Addr} {xs : List V} (e : H a = some (.tup xs)) : TyOf K H (.ref a) (.type "tuple")
  | dK {a : Addr} {kvs : List (Key × V)} (e : H a = some (.dK kvs)) : TyOf K H (.ref a) (.type "dict")
  | dT {a : Addr} {kvs : List (List Key × V)} (e : H a = some (.dT kvs)) : TyOf K H (.ref a) (.type "dict")
  | ins {a C dx : Addr} {fs : List (Str × V)} (e : H a = some (.ins C dx fs)) (cl : Cls K C) (ha : PySem.W.findIn K (.ref C) "__class__" = some (some (.builtin "object.__class__")))
      (hn : PySem.W.specialIn K (.builtin "object.__class__") "__get__" = some (some (.builtin "getset_descriptor.__get__"))) (htk : PySem.W.takesIn K (.builtin "object.__class__") = some true)
      (hm : PySem.W.mroIn K C (.type "object") = some true) : TyOf K H (.ref a) (.ref C)
/-- isinstance(x, c) for one class c, a built-in or an own one: kitOne's answer -/
theorem isinst_ok {x : V} {u t : Value} (I : Inv X pins σ H s) (rx : RelV x u) (ty : TyOf X.K H x t) (e : PySem.W.kitOne X.K t c = some b) (h : ∀ tk, Q (.bool b) { s with toks := tk }) :
    wpAny (model X.prog X.w) A (call (.builtin "isinstance") [u, c]) Q E s := by
  cases ty with
  | non => cases (show u = Value.none from rx); exact PySem.W.kia_one PySem.W.kitx_none I.kIn True.intro e (fun z => nomatch z) h
  | bl y => cases (show u = Value.bool y from rx); exact PySem.W.kia_one PySem.W.kitx_bool I.kIn True.intro e (fun z => nomatch z) h
  | int i => obtain ⟨t, q⟩ := (show ∃ t, u = Value.int i t from rx); cases q; exact PySem.W.kia_one PySem.W.kitx_int I.kIn True.intro e (fun z => nomatch z) h
  | str y => obtain ⟨t, q⟩ := (show ∃ t, u = Value.str y t from rx); cases q; exact PySem.W.kia_one PySem.W.kitx_str I.kIn True.intro e (fun z => nomatch z) h
  | flt y => obtain ⟨t, q⟩ := (show ∃ t, u = Value.float y t from rx); cases q; exact PySem.W.kia_one PySem.W.kitx_float I.kIn True.intro e (fun z => nomatch z) h
  | @lst a xs ea =>
    cases (show u = Value.ref a from rx)
    obtain ⟨_, _, n, _, h1⟩ := (show ObjOk X.prog X.w H s.heap a (.lst xs) from I.hok a _ ea)
    exact PySem.W.kia_one PySem.W.kitx_list I.kIn ⟨_, h1, rfl⟩ e (fun z => nomatch z) h
  | @frz a ob xs ea =>
    cases (show u = Value.ref a from rx)
    obtain ⟨_, _, _, n, _, h1⟩ := (show ObjOk X.prog X.w H s.heap a (.frz ob (.lst xs)) from I.hok a _ ea)
    exact PySem.W.kia_one PySem.W.kitx_list I.kIn ⟨_, h1, rfl⟩ e (fun z => nomatch z) h
  | @tup a xs ea =>
    cases (show u = Value.ref a from rx)
    obtain ⟨_, _, _, p⟩ := (show ObjOk X.prog X.w H s.heap a (.tup xs) from I.hok a _ ea)
    obtain ⟨o, h1, h2, _⟩ := p
    exact PySem.W.kia_one PySem.W.kitx_tuple I.kIn ⟨o, h1, h2⟩ e (fun z => nomatch z) h
  | @dK a kvs ea =>
    cases (show u = Value.ref a from rx)
    obtain ⟨_, _, vs, _, p⟩ := (show ObjOk X.prog X.w H s.heap a (.dK kvs) from I.hok a _ ea)
    obtain ⟨o, es, ep, h1, h2, _⟩ := p
    exact PySem.W.kia_one PySem.W.kitx_dict I.kIn ⟨o, h1, h2.1⟩ e (fun z => nomatch z) h
  | @dT a kvs ea =>
    cases (show u = Value.ref a from rx)
    obtain ⟨_, _, xs, _, o, es, ep, h1, h2, _⟩ := (show ObjOk X.prog X.w H s.heap a (.dT kvs) from I.hok a _ ea)
    exact PySem.W.kia_one PySem.W.kitx_dict I.kIn ⟨o, h1, h2.1⟩ e (fun z => nomatch z) h
  | @ins a C dx fs ea cl ha hn htk hm =>
    cases (show u = Value.ref a from rx)
    obtain ⟨mA, O, _⟩ := ins_get I.hok ea
    obtain ⟨od, J, _⟩ := O.look
    exact PySem.W.kia_one (PySem.W.kitx_own (cl.get _) cl.hd ha hn htk hm) I.kIn J e (fun z => nomatch z) h
end
end L2

namespace L2
open PySem PySem.Spec PyProof.Rows

/-! ### room -/
structure Room (k : Nat) (A : Around) : Prop where
  hd : A.handled = none
  dp : A.depth + 3 * k + 5 < recursionLimit
  un : A.units + 16 * k + 200 < cLine
theorem Room.mono {j k : Nat} {A : Around} (r : Room k A) (h : j ≤ k) : Room j A := ⟨r.hd, by have := r.dp; omega, by have := r.un; omega⟩
theorem Room.deeper {k : Nat} {A : Around} (r : Room (k + 1) A) (env : Env) : Room k (A.deeper env) :=
  ⟨r.hd, by have := r.dp; show A.depth + 1 + 3 * k + 5 < _; omega, by have := r.un; show A.units + 3 + 16 * k + 200 < _; omega⟩
theorem Room.depth {k : Nat} {A : Around} (r : Room k A) : A.depth < recursionLimit := by have := r.dp; omega
theorem Room.units {k : Nat} {A : Around} (r : Room k A) : A.units + 64 < cLine := by have := r.un; omega
/-! ### argument lists and displays -/
def tNil : TA := fun _ H Q => Q [] H
def tCons (ta : TE) (tr : TA) : TA := fun σ H Q => ta σ H fun x H1 => tr σ H1 fun xs H2 => Q (x :: xs) H2
section
variable {X : Cx} {e : Expr} {es : List Expr} {te : TE} {t : TA} {pos : Pos}
theorem pa_nil : PA X [] tNil := fun _ _ _ _ H Q I h => Calls.spliced_nil ⟨[], H, I, .nil, h⟩
theorem pa_cons (ha : PE X e te) (hr : PA X es t) (hs : starEach (e :: es) X.env = (false, eval e X.env) :: starEach es X.env := by rfl) : PA X (e :: es) (tCons te t) := by
  intro pos pins s σ H Q I h
  rw [hs]
  show wpAny _ _ (spliced ((false, eval e X.env) :: backTo pos (starEach es X.env))) _ _ s
  refine Calls.spliced_cons (thn (ha pins s σ H _ I h) fun u s1 ⟨x, H1, I1, r1, q1⟩ => ?_)
  exact thn (hr pos pins s1 σ H1 _ I1 q1) fun us s2 ⟨xs, H2, I2, r2, q2⟩ => ⟨x :: xs, H2, I2, .cons r1 r2, q2⟩

/-- a tuple, a list of written items -/
def tTup (t : TA) : TE := fun σ H Q => t σ H fun xs H1 => xs.length ≤ sizeLine ∧ ∀ p, H1 p = none → Q (.ref p) (upd H1 p (.tup xs))
def tLst (t : TA) : TE := fun σ H Q => t σ H fun xs H1 => xs.length ≤ sizeLine ∧ ∀ p, H1 p = none → Q (.ref p) (upd H1 p (.lst xs))
theorem pe_tup {x1} (h : PA X es t) : PE X (.Tuple es x1 pos) (tTup t) := by
  intro pins s σ H Q I hq
  refine wpAny_Tuple_spliced (thn (h pos pins s σ H _ I hq) fun us s1 ⟨xs, H1, I1, r, z, q⟩ => ⟨by rw [← r.length]; exact z, ?_⟩)
  have hf : H1 s1.heap.objs.size = none := I1.hok.fresh (Nat.le_refl _)
  refine ⟨.ref s1.heap.objs.size, upd H1 s1.heap.objs.size (.tup xs), I1.laid (t' := s1.toks) (fun b u e => Heap.get?_push_of_some _ e) (Nat.le_refl _) ?_, rfl, q _ hf⟩
  exact ⟨z, us, r, ⟨_, Heap.get?_push_size _ rfl, rfl, _, rfl⟩⟩
theorem pe_lst (h : PA X es t) : PE X (.List es pos) (tLst t) := by
  intro pins s σ H Q I hq
  refine wpAny_List_spliced (thn (h pos pins s σ H _ I hq) fun us s1 ⟨xs, H1, I1, r, z, q⟩ => ⟨by rw [← r.length]; exact z, ?_⟩)
  have hf : H1 s1.heap.objs.size = none := I1.hok.fresh (Nat.le_refl _)
  refine ⟨.ref s1.heap.objs.size, upd H1 s1.heap.objs.size (.lst xs), I1.laid (t' := s1.toks) (fun b u e => Heap.get?_push_of_some _ e) (Nat.le_refl _) ?_, rfl, q _ hf⟩
  exact ⟨z, us, 0, r, Heap.get?_push_size _ rfl⟩
end

/-! ### what a def promises -/
/-- a def's promise: the bound arguments in the parameters' order, the heap, the wanted end, the wanted exception -/
abbrev Sp := List V → Hp → VK → XK → Prop
/-- how an exception lies behind a call (file 08 gives it): the callers' frames, abstract heap and state ahead of the call, the wish, the exception, the state -/
abbrev CXT := List Env → Hp → Shared → XK → Value → Shared → Prop

/-- the state at a call -/
structure Env0 (P : Program) (w : World) (K : PySem.W.Frag) (mg : Str → Option Value) (base : Heap) (A : Around) (outer : List Env) (s : Shared) (H : Hp) : Prop where
  frames : A.frames = some outer
  mod : Mod K mg base
  bs : ∀ b o, base.get? b = some o → s.heap.get? b = some o ∧ H b = none
  bsz : base.objs.size ≤ s.heap.objs.size
  funs : s.heap.FunFrames base outer
  frf : ∀ b ∈ frs outer, H b = none
  hok : HOk P w H s.heap
  bare : AllBare s.gens
/-- a call's end -/
def CE (outer : List Env) (P : Program) (w : World) (H : Hp) (s : Shared) (Q : VK) (u : Value) (s' : Shared) : Prop :=
  ∃ v H', s'.os = s.os ∧ AllBare s'.gens ∧ Un (frs outer) [] H H' s.heap s'.heap ∧ HOk P w H' s'.heap ∧ RelV v u ∧ Q v H'
def CR (CX : CXT) (outer : List Env) (P : Program) (w : World) (H : Hp) (s : Shared) (Q : VK) (E : XK) (r : Result) (s' : Shared) : Prop :=
  match r with
  | .ok (.ret u) => CE outer P w H s Q u s'
  | .ok _ => False
  | .error e => CX outer H s E e s'
structure FnOk (P : Program) (w : World) (K : PySem.W.Frag) (mg : Str → Option Value) (base : Heap) (CX : CXT) (k : Nat) (f : Addr) (fd : FuncData) (ps : List Str) (sp : Sp) : Prop where
  len : ∀ vs H Q E, sp vs H Q E → vs.length = ps.length
  run : ∀ (A : Around) (outer : List Env) (s : Shared) (H : Hp) (args : Args) (us : List Value) (vs : List V) (Q : VK) (E : XK), Room k A → Env0 P w K mg base A outer s H → BindsTo s fd args (ps.zip us) → Vals vs us → sp vs H Q E →
    codeAny (model P w) A (.call (.ref f) args) (CR CX outer P w H s Q E) s
section
variable {X : Cx} {pins : List (Addr × Obj)} {σ : St} {H : Hp} {s s' : Shared}
/-- from a body: what a callee wants -/
theorem Inv.env0 (I : Inv X pins σ H s) : Env0 X.prog X.w X.K X.mg X.base X.A X.stack s H :=
  ⟨I.ok.frames, I.ok.mod, I.bs, Nat.le_trans I.ok.bsz I.sz, I.stack, I.stkFree, I.hok, I.bare⟩
/-- behind a call -/
theorem Inv.after {Q : VK} {u : Value} (I : Inv X pins σ H s) (h : CE X.stack X.prog X.w H s Q u s') : EP X pins σ Q u s' := by
  obtain ⟨v, H', os, bare, un, hok, r, q⟩ := h
  obtain ⟨hh, g, d, t, os'⟩ := s'
  obtain rfl : os' = s.os := os
  exact ⟨v, H', I.call (h' := hh) (g' := g) (d' := d) (t' := t) (ch := []) un hok bare (fun b z => absurd z (by simp)), r, q⟩
end

/-! ### calls -/
/-- f(..): the written arguments, then the defaults dvs; E: what is wanted of an exception -/
def tCall (sp : Sp) (dvs : List V) (E : XK) (t : TA) : TE := fun σ H Q => t σ H fun vs H1 => sp (vs ++ dvs) H1 Q E
/-- how the parameters are bound: us the positional arguments, kw the keywords' values by name, ds the defaults that fill up -/
def Binds (K : PySem.W.Frag) (fd : FuncData) (ps : List Str) (ds : List Value) : Prop :=
  ∀ (s : Shared) (us : List Value), K.In s.heap → (us ++ ds).length = ps.length → BindsTo s fd ⟨us, []⟩ (ps.zip (us ++ ds))
/-- every parameter is given -/
theorem Binds.all {K : PySem.W.Frag} {fd : FuncData} {ps : List Str} (h : ∀ us : List Value, us.length = ps.length → bindArgs fd ⟨us, []⟩ = pure (ps.zip us)) : Binds K fd ps [] := fun s us _ hl => by
  rw [List.append_nil] at hl ⊢
  exact .of_eq (h us hl)

/-- an exception of a callee reaches what this body wants of exceptions -/
def Passes (CX : CXT) (X : Cx) (E : XK) : Prop := ∀ (pins : List (Addr × Obj)) (σ : St) (H : Hp) (s : Shared) (e : Value) (s' : Shared), Inv X pins σ H s → CX X.stack H s E e s' → X.xe e s'

section
variable {X : Cx} {CX : CXT} {k : Nat} {f C : Addr} {fd : FuncData} {ps : List Str} {sp : Sp} {dvs : List V} {ds : List Value} {E : XK} {x m : Str} {p pos apos : Pos} {e o : Expr} {es : List Expr} {ta : TE} {t : TA}

/-- the callee runs -/
theorem run_fn {pins : List (Addr × Obj)} {σ : St} {H : Hp} {s : Shared} {Q : VK} {us : List Value} {vs : List V} (F : FnOk X.prog X.w X.K X.mg X.base CX k f fd ps sp) (hr : Room k X.A) (hb : Binds X.K fd ps ds) (hd : Vals dvs ds) (hx : Passes CX X E)
    (I : Inv X pins σ H s) (r : Vals vs us) (h : sp (vs ++ dvs) H Q E) : wpAny (model X.prog X.w) X.A (call (.ref f) us) (EP X pins σ Q) X.xe s := by
  have r2 : Vals (vs ++ dvs) (us ++ ds) := r.append hd
  have hl : (us ++ ds).length = ps.length := by rw [← r2.length]; exact F.len _ _ _ _ h
  refine wpAny_call (codeAny_mono (F.run X.A X.stack s H ⟨us, []⟩ (us ++ ds) (vs ++ dvs) Q E hr I.env0 (hb s us I.kIn hl) r2 h) fun r s' hq => ?_)
  cases r with
  | error e => exact hx pins σ H s e s' I hq
  | ok fl =>
    cases fl with
    | ret u => exact I.after hq
    | next => exact False.elim hq
    | brk => exact False.elim hq
    | cont => exact False.elim hq

theorem pe_call (F : FnOk X.prog X.w X.K X.mg X.base CX k f fd ps sp) (hr : Room k X.A) (hg : Gl X x) (hm : X.mg x = some (.ref f)) (hk : PySem.W.keepIn X.K (.ref f) = true) (hb : Binds X.K fd ps ds) (hd : Vals dvs ds) (hx : Passes CX X E)
    (ha : PA X (e :: es) t) (hdb : (x == ("__debug__" : Str)) = false := by decide) (he : starEach (e :: es) X.env = (false, eval e X.env) :: starEach es X.env := by rfl) (hpl : (backTo pos (starEach es X.env)).any (·.1) = false := by rfl) :
    PE X (.Call (.Name x p) (e :: es) [] pos) (tCall sp dvs E t) := by
  intro pins s σ H Q I h
  refine wpAny_Call_Name_kw (ld_glob I hg hm ?_ hdb)
  refine PySem.W.callWith_K (h₀ := X.base) I.ok.mod.kin hk (thn (ha pos pins s σ H _ I h) fun us s1 ⟨vs, H1, I1, r, q⟩ => ⟨I1.kIn, ?_⟩) he hpl
  exact run_fn F hr hb hd hx I1 r q
/-- what a class must have to be made -/
structure Mk (K : PySem.W.Frag) (C f : Addr) : Prop where
  makes : PySem.W.makesIn K C = true
  init : PySem.W.findIn K (.ref C) "__init__" = some (some (.ref f))
  fn : PySem.W.isFn K (.ref f) = true
  kp : PySem.W.keepIn K (.ref C) = true

end

/-! ### keywords -/
section
variable {X : Cx} {CX : CXT} {k : Nat} {f C : Addr} {fd : FuncData} {ps ks : List Str} {sp : Sp} {E : XK} {x m : Str} {p pos apos kpos : Pos} {e o : Expr} {es : List Expr} {kws : List Keyword} {te ta : TE} {t tk : TA} {nm : Option Str}
/-- how a call with keywords binds: g puts the positional values us and the keywords' values ws (names ks) in the parameters' order, defaults among them -/
structure KBinds (K : PySem.W.Frag) (fd : FuncData) (ps ks : List Str) (g : List Value → List Value → List Value) (gV : List V → List V → List V) : Prop where
  to : ∀ (s : Shared) (us ws : List Value), K.In s.heap → (g us ws).length = ps.length → BindsTo s fd ⟨us, ks.zip ws⟩ (ps.zip (g us ws))
  rel : ∀ {vs : List V} {us : List Value} {zs : List V} {ws : List Value}, Vals vs us → Vals zs ws → Vals (gV vs zs) (g us ws)
variable {g : List Value → List Value → List Value} {gV : List V → List V → List V}
end

/-! ### a def's body keeps its promise -/
/-- names: the parameters first -/
structure FnScope (N P : List Str) (sc : Scope) : Prop where
  kind : sc.kind = .function
  co : sc.isCoroutine = false
  gen : sc.isGenerator = false
  nd : N.Nodup
  pre : N.take P.length = P
  par : ∀ x ∈ P, sc.names.lookup x = some .local ∨ sc.names.lookup x = some .cell
  nofree : ∀ y ∈ sc.names, y.2 ≠ .free

theorem bindL_out {kindOf : Str → Option NameKind} {x : Str} : ∀ {binds : List (Str × Value)} {m : Str → Option Value}, (∀ v, (x, v) ∉ binds) → bindL kindOf binds m x = m x
  | [], _, _ => rfl
  | (n, v) :: r, m, h => by
    unfold bindL
    rw [bindL_out fun w hw => h w (List.mem_cons_of_mem _ hw)]
    split
    · have : x ≠ n := by rintro rfl; exact h v List.mem_cons_self
      simp [this]
    · rfl
theorem bindC_out {kindOf : Str → Option NameKind} {x : Str} : ∀ {binds : List (Str × Value)} {m : Str → Option Value}, (∀ v, (x, v) ∉ binds) → bindC kindOf binds m x = m x
  | [], _, _ => rfl
  | (n, v) :: r, m, h => by
    unfold bindC
    rw [bindC_out fun w hw => h w (List.mem_cons_of_mem _ hw)]
    split
    · rfl
    · have : x ≠ n := by rintro rfl; exact h v List.mem_cons_self
      simp [this]
theorem bindL_get {kindOf : Str → Option NameKind} {x : Str} {v : Value} : ∀ {P : List Str} {vs : List Value} {i : Nat} {m : Str → Option Value}, P.Nodup → P[i]? = some x → vs[i]? = some v → kindOf x = some .local →
    bindL kindOf (P.zip vs) m x = some v
  | [], _, _, _, _, h, _, _ => by simp at h
  | _ :: _, [], _, _, _, _, h, _ => by simp at h
  | p :: P, w :: vs, 0, m, nd, h1, h2, hk => by
    simp at h1 h2; subst h1; subst h2
    show bindL kindOf ((p, w) :: P.zip vs) m p = _
    unfold bindL
    rw [bindL_out fun v hv => (List.nodup_cons.mp nd).1 (List.of_mem_zip hv).1, if_pos hk]
    simp
  | p :: P, w :: vs, i + 1, m, nd, h1, h2, hk => by
    show bindL kindOf ((p, w) :: P.zip vs) m x = _
    unfold bindL
    exact bindL_get (i := i) (List.nodup_cons.mp nd).2 (by simpa using h1) (by simpa using h2) hk
theorem bindC_get {kindOf : Str → Option NameKind} {x : Str} {v : Value} : ∀ {P : List Str} {vs : List Value} {i : Nat} {m : Str → Option Value}, P.Nodup → P[i]? = some x → vs[i]? = some v → kindOf x ≠ some .local →
    bindC kindOf (P.zip vs) m x = some v
  | [], _, _, _, _, h, _, _ => by simp at h
  | _ :: _, [], _, _, _, _, h, _ => by simp at h
  | p :: P, w :: vs, 0, m, nd, h1, h2, hk => by
    simp at h1 h2; subst h1; subst h2
    show bindC kindOf ((p, w) :: P.zip vs) m p = _
    unfold bindC
    rw [bindC_out fun v hv => (List.nodup_cons.mp nd).1 (List.of_mem_zip hv).1, if_neg hk]
    simp
  | p :: P, w :: vs, i + 1, m, nd, h1, h2, hk => by
    show bindC kindOf ((p, w) :: P.zip vs) m x = _
    unfold bindC
    exact bindC_get (i := i) (List.nodup_cons.mp nd).2 (by simpa using h1) (by simpa using h2) hk

/-- the names' values at the entry -/
def start (N : List Str) (vs : List V) : St := vs.map some ++ List.replicate (N.length - vs.length) none

/-- the context of a def's body, at its entry; an exception leaves the frame, then lies as CX says -/
def cxOf (CX : CXT) (P : Program) (w : World) (K : PySem.W.Frag) (mg : Str → Option Value) (base : Heap) (N : List Str) (qual : Str) (scope : Scope) (f : Addr) (cd : Value) (A : Around) (outer : List Env) (s : Shared) (H : Hp) (E : XK) : Cx where
  prog := P
  w := w
  K := K
  mg := mg
  base := base
  A := A.deeper (envOfC qual scope s.heap.objs.size f cd)
  N := N
  s₀ := s
  H₀ := H
  env := envOfC qual scope s.heap.objs.size f cd
  outer := outer
  stack := envOfC qual scope s.heap.objs.size f cd :: outer
  ex := []
  calm := true
  fn := fun _ => true
  pn := []
  xe := fun e s' => wpAny (model P w) (A.deeper (envOfC qual scope s.heap.objs.size f cd)) (leaving (envOfC qual scope s.heap.objs.size f cd) e) (fun _ s'' => CX outer H s E e s'') (fun e' s'' => CX outer H s E e' s'') s'

theorem cell_has {sc : Scope} {n : Nat} {x : Str} (h : sc.names.lookup x = some .cell) : ∃ c, (cellsFrom n sc.names []).lookup x = some c := by
  have q := PySem.W.cellsFrom_some sc.names n [] (.inl h)
  exact Option.isSome_iff_exists.mp q

theorem inv_start {CX : CXT} {P : Program} {w : World} {K : PySem.W.Frag} {mg : Str → Option Value} {base : Heap} {N ps : List Str} {qual : Str} {scope : Scope} {f : Addr} {cd : Value} {A : Around} {outer : List Env} {s s1 : Shared} {H : Hp} {E : XK} {us : List Value} {vs : List V}
    (S : FnScope N ps scope) (hd : A.handled = none) (e0 : Env0 P w K mg base A outer s H) (hl : vs.length = ps.length) (r : Vals vs us)
    (x : InCallC s s.heap.objs.size (bindL (envOfC qual scope s.heap.objs.size f cd).kindOf (ps.zip us) fun _ => none) (cellsFrom (s.heap.objs.size + 1) scope.names []) (bindC (envOfC qual scope s.heap.objs.size f cd).kindOf (ps.zip us) fun _ => none) s1) :
    Inv (cxOf CX P w K mg base N qual scope f cd A outer s H E) [] (start N vs) H s1 := by
  have hpl : ps.length ≤ N.length := by have := congrArg List.length S.pre; rw [List.length_take] at this; omega
  obtain ⟨h1, tk, rfl, hk⟩ := x.done
  have noA : ∀ b : Addr, b ∉ (cxOf CX P w K mg base N qual scope f cd A outer s H E).ex := fun b z => absurd (show b ∈ ([] : List Addr) from z) (by simp)
  refine ⟨⟨e0.mod, S.kind, rfl, rfl, Nat.le_refl _, fun y z c h1 h2 => ?_, fun y hy => ?_, fun y c _ h => ?_, fun _ => hd, Around.frames_deeper e0.frames, .inr ⟨rfl, rfl⟩, fun b z => absurd z (noA b), e0.bs, e0.bsz, fun b _ _ => noA b, fun b z => absurd z (noA b), e0.funs, e0.frf⟩,
    rfl, e0.bare, Un.kept hk, ⟨_, x.toInCall.ns, fun i y v h1 h2 h3 => ?_⟩, fun y c h => ⟨_, x.cell y c h⟩, e0.hok.fresh (Nat.le_refl _), fun y c h => ?_, fun p hp => absurd (show p ∈ ([] : List (Addr × Obj)) from hp) (by simp), e0.hok.kept hk, ?_⟩
  · exact name_of_addr x.apart (PySem.mem_of_lookup h1) (PySem.mem_of_lookup h2)
  · have hy : scope.names.lookup y = some .cell ∨ scope.names.lookup y = some .free := hy
    rcases hy with hy | hy
    · exact cell_has hy
    · exact absurd rfl (S.nofree _ (PySem.mem_of_lookup hy))
  · exact Nat.le_of_lt (x.above y c (PySem.mem_of_lookup h))
  · have hi : i < vs.length := by
      unfold start at h2
      by_cases hi : i < vs.length
      · exact hi
      · rw [List.getElem?_append_right (by simpa using hi)] at h2
        rw [List.getElem?_replicate] at h2
        split at h2 <;> cases h2
    have ha : vs[i]? = some v := by
      unfold start at h2
      rw [List.getElem?_append_left (by simpa using hi), List.getElem?_map] at h2
      cases e : vs[i]? with
      | none => rw [e] at h2; cases h2
      | some a => rw [e] at h2; cases h2; rfl
    obtain ⟨u, hu, rv⟩ := r.get ha
    have hp : ps[i]? = some y := by
      rw [← S.pre, List.getElem?_take_of_lt (by omega)]; exact h1
    have ndP : ps.Nodup := by rw [← S.pre]; exact S.nd.sublist (List.take_sublist _ _)
    refine ⟨u, rv, ?_⟩
    rcases S.par y (List.mem_of_getElem? hp) with k | k
    · exact .inl ⟨k, bindL_get ndP hp hu k⟩
    · obtain ⟨c, e⟩ := cell_has (n := s.heap.objs.size + 1) k
      refine .inr ⟨.inl k, c, e, ?_⟩
      have q := x.cell y c e
      rw [bindC_get ndP hp hu (by show scope.names.lookup y ≠ _; rw [k]; decide)] at q
      exact q
  · exact e0.hok.fresh (Nat.le_of_lt (x.above y c (PySem.mem_of_lookup h)))
  · unfold start
    show _ = N.length
    rw [List.length_append, List.length_map, List.length_replicate]
    omega

/-- THE RULE: a def (or a method) of the text, by its body. The body's reading t is chosen for each entry; it is run at the parameters' values -/
theorem fn_of {CX : CXT} {P : Program} {w : World} {K : PySem.W.Frag} {mg : Str → Option Value} {base : Heap} {k : Nat} {f : Addr} {name qual : Str} {params : Arguments} {body : List Stmt} {scope : Scope} {dV kV doc pm cdv ct oc : Value} {an od : Option Addr}
    {osl : Array (Option Value)} {N ps : List Str} {sp : Sp} (lk : K.lookup f = some ⟨oc, od, .func (PySem.W.fnOf name qual params body scope dV kV doc pm an cdv ct), osl⟩) (hcd : PySem.W.codeIn K cdv qual = true) (S : FnScope N ps scope)
    (len : ∀ vs H Q E, sp vs H Q E → vs.length = ps.length)
    (hbody : ∀ (A : Around) (outer : List Env) (s : Shared) (H : Hp) (vs : List V) (Q : VK) (E : XK), Room k (A.deeper (envOfC qual scope s.heap.objs.size f cdv)) → sp vs H Q E →
      ∃ t, PSs (cxOf CX P w K mg base N qual scope f cdv A outer s H E) body t ∧ t { nx := fun _ H' => Q .non H', rt := Q } (start N vs) H) :
    FnOk P w K mg base CX (k + 1) f (PySem.W.fnOf name qual params body scope dV kV doc pm an cdv ct) ps sp := by
  refine ⟨len, fun A outer s H args us vs Q E hr e0 hb r hsp => ?_⟩
  have hl := len _ _ _ _ hsp
  have KX : K.In s.heap := e0.mod.kin.keeps fun b o e => (e0.bs b o e).1
  have lim : s.heap.NoLimit := e0.mod.nolimit.keeps fun b o e => (e0.bs b o e).1
  have hkind : ∀ y ∈ ps.zip us, scope.names.lookup y.1 = some .local ∨ (scope.names.lookup y.1 = some .cell ∧ ((cellsFrom (s.heap.objs.size + 1) scope.names []).lookup y.1).isSome = true) := fun ⟨n, v⟩ hy => by
    rcases S.par n (List.of_mem_zip hy).1 with q | q
    · exact .inl q
    · exact .inr ⟨q, PySem.W.cellsFrom_some _ _ _ (.inl q)⟩
  refine codeAny_call_function hr.depth (KX _ _ lk) rfl S.co S.gen rfl (PySem.W.codeRec_of KX hcd) (hb _ _ _ _ ?_)
  refine wpAny_newFunctionEnv_cells S.kind hkind fun env he s1 x => ?_
  subst he
  refine ⟨lim.keeps x.toInCall.keep, codeAny_func ?_⟩
  obtain ⟨t, ht, hq⟩ := hbody A outer s H vs Q E (hr.deeper _) hsp
  have I : Inv (cxOf CX P w K mg base N qual scope f cdv A outer s H E) [] (start N vs) H s1 := inv_start S hr.hd e0 hl r x
  refine wpAny_mono (ht [] s1 (start N vs) H _ I hq) (fun fl s' hs => ?_) fun e s' hs => hs
  have fin : ∀ {σ' : St} {H' : Hp} {v : V} {u : Value}, Inv (cxOf CX P w K mg base N qual scope f cdv A outer s H E) [] σ' H' s' → RelV v u → Q v H' → CE outer P w H s Q u s' :=
    fun {σ' H' v u} J rv q => ⟨v, H', J.os, J.bare, J.base, J.hok, rv, q⟩
  cases fl with
  | ret u =>
    obtain ⟨v, σ', H', J, rv, q⟩ := hs
    exact fin J rv q
  | next =>
    obtain ⟨σ', H', J, q⟩ := hs
    exact fin (v := V.non) (u := Value.none) J rfl q
  | brk =>
    obtain ⟨_, _, _, q⟩ := hs
    exact False.elim q
  | cont =>
    obtain ⟨_, _, _, q⟩ := hs
    exact False.elim q
end L2

namespace L2
open PySem PySem.Spec PyProof.Rows
section
variable {X : Cx} {x : Str} {p pos : Pos} {e : Expr} {es : List Expr} {t : TA} {id T : String} {r : List V → Hp → VK → Prop}

def tCB (r : List V → Hp → VK → Prop) (t : TA) : TE := fun σ H Q => t σ H fun vs H1 => r vs H1 Q
/-- f(e, ..), f a built-in function -/
theorem pe_callB (hc : CallR X (.builtin id) r) (hg : Gl X x) (hm : X.mg x = none) (hv : bootBuiltins x = some (.builtin id)) (ha : PA X (e :: es) t) (hn : x ≠ "__name__" := by decide) (hdb : (x == ("__debug__" : Str)) = false := by decide)
    (he : starEach (e :: es) X.env = (false, eval e X.env) :: starEach es X.env := by rfl) (hpl : (backTo pos (starEach es X.env)).any (·.1) = false := by rfl) : PE X (.Call (.Name x p) (e :: es) [] pos) (tCB r t) := by
  intro pins s σ H Q I h
  refine wpAny_Call_Name_kw (ld_blt I hg hm hv ?_ hn hdb)
  exact PyProof.Rows.callWith_builtin1 (thn (ha pos pins s σ H _ I h) fun us s1 ⟨vs, H1, I1, r1, q1⟩ => hc pins s1 σ H1 vs us Q I1 r1 q1) he hpl
/-- T(e, ..), T a built-in type -/
theorem pe_callTy (hc : CallR X (.type T) r) (hg : Gl X x) (hm : X.mg x = none) (hv : bootBuiltins x = some (.type T)) (ha : PA X (e :: es) t) (hn : x ≠ "__name__" := by decide) (hdb : (x == ("__debug__" : Str)) = false := by decide)
    (he : starEach (e :: es) X.env = (false, eval e X.env) :: starEach es X.env := by rfl) (hpl : (backTo pos (starEach es X.env)).any (·.1) = false := by rfl) : PE X (.Call (.Name x p) (e :: es) [] pos) (tCB r t) := by
  intro pins s σ H Q I h
  refine wpAny_Call_Name_kw (ld_blt I hg hm hv ?_ hn hdb)
  exact PyProof.Rows.callWith_type1 (thn (ha pos pins s σ H _ I h) fun us s1 ⟨vs, H1, I1, r1, q1⟩ => hc pins s1 σ H1 vs us Q I1 r1 q1) he hpl
end
end L2

namespace HT
open PySem PyProof.Rows

section
open PySem.SeqAt
open PySem.AutoSeq1 (wpAny_loadPart')
open PySem.MeetsSeq PySem.MeetsSeq2 PySem.MeetsSeq3

end

section
variable {prog : Program} {w : World} {A : Around} {E : Value → Shared → Prop} {s : Shared}

/-! ### t[a:b], not the whole -/
end
end HT

namespace L2
open PySem PySem.Spec PyProof.Rows

/-! ### the parts of a slice -/
abbrev TO := St → Hp → (Option Int → Hp → Prop) → Prop
/-- a slice's part (left out, or an int) -/
def PO (X : Cx) (e : Option Expr) (t : TO) : Prop :=
  ∀ (pins : List (Addr × Obj)) (s : Shared) (σ : St) (H : Hp) (Q : Option Int → Hp → Prop), Inv X pins σ H s → t σ H Q →
    wpAny (model X.prog X.w) X.A (evalPart e X.env) (fun u s' => ∃ o H', Inv X pins σ H' s' ∧ IsPart u o ∧ Q o H') X.xe s
def tPart (t : TE) : TO := fun σ H Q => t σ H fun x H1 => ∃ i, x = .int i ∧ Q (some i) H1

section
variable {X : Cx} {e : Expr} {te : TE} {lo hi : Option Expr} {tl th : TO} {pos p2 : Pos}

theorem po_some (h : PE X e te) : PO X (some e) (tPart te) := by
  intro pins s σ H Q I hw
  rw [evalPart_some]
  refine thn (h pins s σ H _ I hw) fun u s1 ⟨x, H1, I1, r1, q1⟩ => ?_
  obtain ⟨i, rfl, q⟩ := q1
  obtain ⟨t, rfl⟩ := r1
  exact ⟨some i, H1, I1, .int i t, q⟩

/-! ### t < u, t + u -/
end
end L2

namespace L2
open PySem PySem.Spec PyProof.Rows

/-! ### places -/
/-- the place that an index of any sign means -/
def ixN (n : Nat) (i : Int) : Option Nat := if 0 ≤ i then (if i < n then some i.toNat else none) else if -(n : Int) ≤ i then some (i + n).toNat else none
def atI {α : Type} (xs : List α) (i : Int) : Option α := (ixN xs.length i).bind fun j => xs[j]?
theorem ixN_seq {n : Nat} {i : Int} {j : Nat} (h : ixN n i = some j) : seqIndex? i n = some j ∧ j < n ∧ -(n : Int) ≤ i ∧ i < n := by
  unfold ixN at h
  by_cases h0 : 0 ≤ i
  · rw [if_pos h0] at h
    by_cases h1 : i < n
    · rw [if_pos h1] at h
      have e : i.toNat = j := Option.some.inj h
      exact ⟨by rw [seqIndex_of h0 h1, e], by omega, by omega, h1⟩
    · rw [if_neg h1] at h; cases h
  · rw [if_neg h0] at h
    by_cases h1 : -(n : Int) ≤ i
    · rw [if_pos h1] at h
      have e : (i + n).toNat = j := Option.some.inj h
      exact ⟨by rw [seqIndex_neg (by omega) h1, e], by omega, h1, by omega⟩
    · rw [if_neg h1] at h; cases h
theorem atI_get {α : Type} {xs : List α} {i : Int} {v : α} (h : atI xs i = some v) : ∃ j, seqIndex? i xs.length = some j ∧ xs[j]? = some v ∧ j < xs.length ∧ -(xs.length : Int) ≤ i ∧ i < xs.length := by
  unfold atI at h
  cases e : ixN xs.length i with
  | none => rw [e] at h; cases h
  | some j =>
    rw [e] at h
    obtain ⟨h1, h2, h3, h4⟩ := ixN_seq e
    exact ⟨j, h1, h, h2, h3, h4⟩
theorem atI_nat {α : Type} {xs : List α} {j : Nat} {v : α} (h : xs[j]? = some v) : atI xs (j : Int) = some v := by
  have hj : j < xs.length := (List.getElem?_eq_some_iff.mp h).1
  have e : ixN xs.length (j : Int) = some j := by
    unfold ixN
    rw [if_pos (by omega), if_pos (by omega)]; simp
  unfold atI; rw [e]; exact h
theorem atI_last {α : Type} (xs : List α) (v : α) : atI (xs ++ [v]) (-1) = some v := by
  have hl : (xs ++ [v]).length = xs.length + 1 := by simp
  have e : ixN (xs ++ [v]).length (-1) = some xs.length := by
    unfold ixN
    rw [hl, if_neg (by decide), if_pos (by omega)]
    congr 1
    omega
  unfold atI
  rw [e]
  show (xs ++ [v])[xs.length]? = some v
  simp

/-! ### what may be subscripted -/
/-- what stands as an index of a plain subscript -/
def PlainIx (b : Expr) : Prop := ∀ o i, subscripted b false o i = operate [o, i] (getItem o i)
/-- a subscript by values -/
def IxR (X : Cx) (r : R2) : Prop :=
  ∀ (value slice : Expr) (pins : List (Addr × Obj)) (s : Shared) (σ : St) (H : Hp) (x y : V) (v u : Value) (Q : VK), Inv X pins σ H s → RelV x v → RelV y u → r x y H Q →
    subscripted slice false v u = operate [v, u] (getItem v u) → wpAny (model X.prog X.w) X.A (subscriptTail value slice v u) (EP X pins σ Q) X.xe s
/-- a call of a builtin's method by values: the receiver, the arguments -/
def MtR (X : Cx) (id : String) (r : V → List V → Hp → VK → Prop) : Prop :=
  ∀ (pins : List (Addr × Obj)) (s : Shared) (σ : St) (H : Hp) (x : V) (xs : List V) (v : Value) (us : List Value) (Q : VK), Inv X pins σ H s → RelV x v → Vals xs us → r x xs H Q →
    wpAny (model X.prog X.w) X.A (call (.builtin id) (v :: us)) (EP X pins σ Q) X.xe s
section
variable {X : Cx} {a b : Expr} {ta tb : TE} {pos : Pos}
/-- a[b] -/
theorem pe_ix {r : R2} (hr : IxR X r) (ha : PE X a ta) (hb : PE X b tb) (hs : PlainIx b) : PE X (.Subscript a b pos) (tOp r ta tb) := by
  intro pins s σ H Q I h
  exact Subscript_ (binT ha hb I h fun v u s2 x y H2 I2 rx ry q => hr a b pins s2 σ H2 x y v u Q I2 rx ry q (hs _ _))

def rIxL (K : PySem.W.Frag) : R2 := fun x y H Q => ∃ p xs i v, x = .ref p ∧ y = .int i ∧ SqL K H p xs ∧ atI xs i = some v ∧ Q v H
def rIxT (K : PySem.W.Frag) : R2 := fun x y H Q => ∃ p xs i v, x = .ref p ∧ y = .int i ∧ SqT K H p xs ∧ atI xs i = some v ∧ Q v H
theorem ix_list : IxR X (rIxL X.K) := by
  intro value slice pins s σ H x y v u Q I rx ry h hs
  obtain ⟨p, xs, i, z, rfl, rfl, hq, he, q⟩ := h
  cases rx
  obtain ⟨t, rfl⟩ := ry
  obtain ⟨its, r, pl, hz⟩ := I.list hq
  obtain ⟨j, h1, h2, h3, h4, h5⟩ := atI_get he
  obtain ⟨w, ew, rw'⟩ := r.get h2
  have hl := r.length
  have hn := line63
  have fin : EP X pins σ Q w s := ⟨z, H, I, rw', q⟩
  by_cases h0 : 0 ≤ i
  · have hj : i.toNat = j := by
      rw [seqIndex_of h0 h5] at h1
      exact Option.some.inj h1
    exact item_listR pl.isList h0 (by omega) (by rw [hj]; simpa using ew) fin hs
  · have hj : (i + (its.toArray.size : Int)).toNat = j := by
      rw [seqIndex_neg (by omega) h4] at h1
      rw [List.size_toArray, ← hl]
      exact Option.some.inj h1
    exact subscriptTail_builtinR (x := w) pl.isList.typeIs slot_list_getitem.lookup
      (wpAny_getItem_list_neg (Q := fun r s' => r = w ∧ EP X pins σ Q r s') pl.isList (by omega) (by rw [List.size_toArray] <;> omega) (by omega) (by rw [hj]; simpa using ew) ⟨rfl, fin⟩) hs
theorem ix_tup : IxR X (rIxT X.K) := by
  intro value slice pins s σ H x y v u Q I rx ry h hs
  obtain ⟨p, xs, i, z, rfl, rfl, hq, he, q⟩ := h
  cases rx
  obtain ⟨t, rfl⟩ := ry
  obtain ⟨its, r, pl, hz⟩ := I.tuple hq
  obtain ⟨j, h1, h2, h3, h4, h5⟩ := atI_get he
  obtain ⟨w, ew, rw'⟩ := r.get h2
  have hl := r.length
  have hn := line63
  have fin : EP X pins σ Q w s := ⟨z, H, I, rw', q⟩
  exact subscriptTail_builtinR (x := w) pl.typeIs slot_tuple_getitem.lookup
    (getItem_tuple (j := j) (Q := fun r s' => r = w ∧ EP X pins σ Q r s') pl (by omega) (by omega) (by rw [List.size_toArray, ← hl]; exact h1) (by simpa using ew) ⟨rfl, fin⟩) hs
/-! ### xs[i] = v, any sign -/
/-- the list's object behind a store -/
theorem mapSeq_set (its : List Value) (n j : Nat) (u : Value) : Obj.mapSeq (·.setIfInBounds j u) { cls := .type "list", data := .seq its.toArray n } = { cls := .type "list", data := .seq (its.set j u).toArray n } := by
  simp [Obj.mapSeq]
theorem Inv.lst {pins : List (Addr × Obj)} {σ : St} {H : Hp} {s : Shared} {p : Addr} {xs : List V} (I : Inv X pins σ H s) (h : H p = some (.lst xs)) :
    ∃ (its : List Value) (n : Nat), Vals xs its ∧ s.heap.get? p = some { cls := .type "list", data := .seq its.toArray n } ∧ xs.length ≤ sizeLine := by
  obtain ⟨z, its, n, r, e⟩ := I.hok p _ h
  exact ⟨its, n, r, e, z⟩
/-- the list at p is written by an update of its object -/
theorem Inv.lstUpd {pins : List (Addr × Obj)} {σ : St} {H : Hp} {s : Shared} {p : Addr} {xs ys : List V} {its its' : List Value} {n n' : Nat} {f : Obj → Obj} (I : Inv X pins σ H s) (h : H p = some (.lst xs))
    (ho : s.heap.get? p = some { cls := .type "list", data := .seq its.toArray n }) (hf : f { cls := .type "list", data := .seq its.toArray n } = { cls := .type "list", data := .seq its'.toArray n' }) (r : Vals ys its') (hz : ys.length ≤ sizeLine) (t : Nat) :
    Inv X pins σ (upd H p (.lst ys)) { s with heap := s.heap.update p f, toks := t } := by
  have e : (s.heap.update p f).get? p = some { cls := .type "list", data := .seq its'.toArray n' } := by
    rw [Heap.get?_update_self f ho (by rw [hf] <;> rfl), hf]
  refine I.write (x := p) (e := p) (by rw [h]; trivial) (.inl rfl) (fun b u hb q => (Heap.get?_update_other _ _ (Ne.symm hb)).trans q) ⟨_, e⟩ ?_
  exact ⟨hz, its', n', r, e⟩
def rSetL : V → V → V → Hp → (Hp → Prop) → Prop := fun o i v H Q => ∃ p xs k j, o = .ref p ∧ i = .int k ∧ H p = some (.lst xs) ∧ ixN xs.length k = some j ∧ Q (upd H p (.lst (xs.set j v)))
theorem set_list : PSet X rSetL := by
  intro pins s σ H o i v ov iv u Q I ro ri rv h
  obtain ⟨p, xs, k, j, rfl, rfl, hp, hj, q⟩ := h
  cases ro
  obtain ⟨t, rfl⟩ := ri
  obtain ⟨its, n, r, ho, hz⟩ := I.lst hp
  obtain ⟨h1, h2, h3, h4⟩ := ixN_seq hj
  have hl := r.length
  have hn := line63
  have I' : Inv X pins σ (upd H p (.lst (xs.set j v))) { s with heap := s.heap.update p (Obj.mapSeq (·.setIfInBounds j u)) } :=
    I.lstUpd hp ho (mapSeq_set its n j u) (r.set rv j) (by rw [List.length_set]; exact hz) s.toks
  by_cases h0 : 0 ≤ k
  · have hk : k.toNat = j := by
      rw [seqIndex_of h0 h4] at h1
      exact Option.some.inj h1
    exact PySem.W.ki_setAt ho h0 (by omega) (by rw [List.size_toArray, ← hl]; exact h4) (by rw [hk]; exact ⟨_, I', q⟩)
  · have hk : (k + (its.toArray.size : Int)).toNat = j := by
      rw [seqIndex_neg (by omega) h3] at h1
      rw [List.size_toArray, ← hl]
      exact Option.some.inj h1
    exact PySem.W.ki_setBack ho (by omega) (by rw [List.size_toArray, ← hl]; exact h3) (by omega) (by rw [hk]; exact ⟨_, I', q⟩)

/-! ### slices -/
/-! ### in, not in: flat items -/
def flatV : V → Bool
  | .non => true
  | .bl _ => true
  | .int _ => true
  | .str _ => true
  | _ => false
/-- == of flat values -/
def eqV : V → V → Bool
  | .non, .non => true
  | .bl a, .bl b => a == b
  | .bl a, .int b => (if a then 1 else 0) == b
  | .int a, .bl b => a == (if b then 1 else 0)
  | .int a, .int b => a == b
  | .str a, .str b => a == b
  | _, _ => false
theorem eqAt_V {A : Around} {s : Shared} {y x : V} {u v : Value} (ry : RelV y u) (rx : RelV x v) (fy : flatV y = true) (fx : flatV x = true) : SeqAt.EqAt A s u v (eqV y x) := by
  cases y with
  | non =>
    cases ry
    cases x with
    | non => cases rx; exact SeqAt.EqAt.same _
    | bl b => cases rx; exact SeqAt.EqAt.none_bool b
    | int b => obtain ⟨t, rfl⟩ := rx; exact SeqAt.EqAt.none_int b t
    | str b => obtain ⟨t, rfl⟩ := rx; exact SeqAt.EqAt.none_str b t
    | _ => exact absurd (show false = true from fx) Bool.false_ne_true
  | bl a =>
    cases ry
    cases x with
    | non => cases rx; exact SeqAt.EqAt.bool_none a
    | bl b => cases rx; exact SeqAt.EqAt.bool_bool a b
    | int b => obtain ⟨t, rfl⟩ := rx; exact SeqAt.EqAt.bool_int a b t
    | str b => obtain ⟨t, rfl⟩ := rx; exact SeqAt.EqAt.bool_str a b t
    | _ => exact absurd (show false = true from fx) Bool.false_ne_true
  | int a =>
    obtain ⟨t', rfl⟩ := ry
    cases x with
    | non => cases rx; exact SeqAt.EqAt.int_none a t'
    | bl b => cases rx; exact SeqAt.EqAt.int_bool a t' b
    | int b => obtain ⟨t, rfl⟩ := rx; exact SeqAt.EqAt.int_int a t' b t
    | str b => obtain ⟨t, rfl⟩ := rx; exact SeqAt.EqAt.int_str a t' b t
    | _ => exact absurd (show false = true from fx) Bool.false_ne_true
  | str a =>
    obtain ⟨t', rfl⟩ := ry
    cases x with
    | non => cases rx; exact SeqAt.EqAt.str_none a t'
    | bl b => cases rx; exact SeqAt.EqAt.str_bool a t' b
    | int b => obtain ⟨t, rfl⟩ := rx; exact SeqAt.EqAt.str_int a t' b t
    | str b => obtain ⟨t, rfl⟩ := rx; exact SeqAt.EqAt.str_str a t' b t
    | _ => exact absurd (show false = true from fx) Bool.false_ne_true
  | _ => exact absurd (show false = true from fy) Bool.false_ne_true
/-- the items' answers, read off the values (a value's own answer does not lean on its token) -/
def eqU (x : V) (u : Value) : Bool := match u with
  | .none => eqV .non x
  | .bool b => eqV (.bl b) x
  | .int i _ => eqV (.int i) x
  | .str z _ => eqV (.str z) x
  | _ => false
theorem eqU_of {x y : V} {u : Value} (r : RelV y u) (f : flatV y = true) : eqU x u = eqV y x := by
  cases y with
  | non => cases r; rfl
  | bl b => cases r; rfl
  | int i => obtain ⟨t, rfl⟩ := r; rfl
  | str z => obtain ⟨t, rfl⟩ := r; rfl
  | _ => exact absurd (show false = true from f) Bool.false_ne_true
theorem mem_eqAt {A : Around} {s : Shared} {x : V} {v : Value} (rx : RelV x v) (fx : flatV x = true) : ∀ {xs : List V} {us : List Value}, Vals xs us → xs.all flatV = true → ∀ u ∈ us, SeqAt.EqAt A s u v (eqU x u)
  | _, _, .nil, _ => fun u hu => by cases hu
  | y :: xs, u :: us, .cons r t, f => fun u' hu => by
    rw [List.all_cons, Bool.and_eq_true] at f
    rcases List.mem_cons.mp hu with rfl | hu
    · rw [eqU_of r f.1]; exact eqAt_V r rx f.1 fx
    · exact mem_eqAt rx fx t f.2 u' hu
/-! ### len, list(x), tuple(x) of any list or tuple that is read -/
theorem call_len_seq : CallR X (.builtin "len") (fun xs H Q => ∃ p ys, xs = [.ref p] ∧ (SqL X.K H p ys ∨ SqT X.K H p ys) ∧ Q (.int ys.length) H) := by
  intro pins s σ H xs us Q I r h
  obtain ⟨p, ys, rfl, hq, q⟩ := h
  obtain ⟨u, rfl, rx⟩ := vals1 r
  cases rx
  have hn := line63
  rcases hq with hq | hq
  · obtain ⟨its, r', pl, hz⟩ := I.list hq
    have hlen := r'.length
    exact Calls.call_len_list pl.isList (by simp only [List.size_toArray] <;> omega) ⟨.int ys.length, H, I.tok _, ⟨s.toks + 1, by rw [List.size_toArray, hlen]⟩, q⟩
  · obtain ⟨its, r', pl, hz⟩ := I.tuple hq
    have hlen := r'.length
    exact len_tuple pl (by simp only [List.size_toArray] <;> omega) ⟨.int ys.length, H, I.tok _, ⟨s.toks + 1, by rw [List.size_toArray, hlen]⟩, q⟩
theorem call_list_of : CallR X (.type "list") (fun xs H Q => ∃ p ys, xs = [.ref p] ∧ (SqL X.K H p ys ∨ SqT X.K H p ys) ∧ ∀ l, H l = none → Q (.ref l) (upd H l (.lst ys))) := by
  intro pins s σ H xs us Q I r h
  obtain ⟨p, ys, rfl, hq, q⟩ := h
  obtain ⟨u, rfl, rx⟩ := vals1 r
  cases rx
  have fin : ∀ (its : List Value), Vals ys its → ys.length ≤ sizeLine → ∀ (h' : Heap) (c' : Nat), (∀ b o', s.heap.get? b = some o' → h'.get? b = some o') →
      h'.get? s.heap.objs.size = some { cls := .type "list", dict := none, data := .seq its.toArray c', slots := #[] } → EP X pins σ Q (.ref s.heap.objs.size) { s with heap := h' } := fun its r' hz h' c' kp e =>
    ⟨.ref s.heap.objs.size, _, I.laid (t' := s.toks) kp (Nat.le_refl _) (show ObjOk X.prog X.w _ h' _ (.lst ys) from ⟨hz, its, c', r', e⟩), rfl, q _ (I.hok.fresh (Nat.le_refl _))⟩
  rcases hq with hq | hq
  · obtain ⟨its, r', pl, hz⟩ := I.list hq
    have hlen := r'.length
    obtain ⟨o, ho, hc, n, hd⟩ := pl.isList
    exact call_list_seq p (.inl rfl) ho hc hd (fun h' c' kp e => fin its r' hz h' c' kp e) (by simp only [List.size_toArray] <;> omega)
  · obtain ⟨its, r', pl, hz⟩ := I.tuple hq
    have hlen := r'.length
    obtain ⟨o, ho, hc, n, hd⟩ := pl
    exact call_list_seq p (.inr rfl) ho hc hd (fun h' c' kp e => fin its r' hz h' c' kp e) (by simp only [List.size_toArray] <;> omega)
/-! ### the call of a builtin's method: o.m(..) -/
/-- the value is of that builtin type -/
def tyV (K : PySem.W.Frag) (T : String) (x : V) (H : Hp) : Prop := match x with
  | .str _ => T = "str"
  | .int _ => T = "int"
  | .ref p => (T = "list" ∧ ∃ xs, SqL K H p xs) ∨ (T = "tuple" ∧ ∃ o, K.lookup p = some o ∧ o.cls = .type "tuple" ∧ o.dict = none) ∨
      (T = "dict" ∧ ((∃ kvs, H p = some (.dK kvs)) ∨ ∃ kvs, H p = some (.dT kvs))) ∨ (T = "set" ∧ ∃ S n, H p = some (.set S n))
  | _ => False
theorem tyV_is {pins : List (Addr × Obj)} {σ : St} {H : Hp} {s : Shared} {T : String} {x : V} {v : Value} (I : Inv X pins σ H s) (r : RelV x v) (ty : tyV X.K T x H) :
    s.TypeIs v T ∧ ∀ a, v = .ref a → ∃ ob, s.heap.get? a = some ob ∧ ob.dict = none := by
  cases x with
  | str z =>
    obtain ⟨t, rfl⟩ := r
    cases (show T = "str" from ty)
    exact ⟨typeIs_str s z t, fun _ e => nomatch e⟩
  | int i =>
    obtain ⟨t, rfl⟩ := r
    cases (show T = "int" from ty)
    exact ⟨typeIs_int s i t, fun _ e => nomatch e⟩
  | ref p =>
    cases r
    rcases ty with ⟨rfl, xs, hq⟩ | ⟨rfl, o, hk, hc, hd⟩ | ⟨rfl, hk⟩ | ⟨rfl, S, n, hk⟩
    · obtain ⟨its, _, pl, _⟩ := I.list hq
      refine ⟨pl.isList.typeIs, fun a e => ?_⟩
      cases e
      obtain ⟨o, n, e, c, hd, _⟩ := pl
      exact ⟨o, e, hd⟩
    · refine ⟨⟨o, I.kIn p o hk, hc⟩, fun a e => ?_⟩
      cases e
      exact ⟨o, I.kIn _ o hk, hd⟩
    · have z : ∃ o, s.heap.get? p = some o ∧ o.ExactDict := by
        rcases hk with ⟨kvs, hk⟩ | ⟨kvs, hk⟩
        · obtain ⟨_, _, _, _, o, _, _, e, ex, _⟩ := I.hok p _ hk
          exact ⟨o, e, ex⟩
        · obtain ⟨_, _, _, _, o, _, _, e, ex, _⟩ := I.hok p _ hk
          exact ⟨o, e, ex⟩
      obtain ⟨o, e, ex⟩ := z
      refine ⟨⟨o, e, ex.1⟩, fun a e2 => ?_⟩
      cases e2
      exact ⟨o, e, ex.2.1⟩
    · obtain ⟨o, _, _, _, e, ex, _⟩ := I.hok p _ hk
      refine ⟨⟨o, e, ex.1⟩, fun a e2 => ?_⟩
      cases e2
      exact ⟨o, e, ex.2.1⟩
  | _ => exact False.elim ty
def tBM0 (K : PySem.W.Frag) (T : String) (r : V → List V → Hp → VK → Prop) (to : TE) : TE := fun σ H Q => to σ H fun x H1 => tyV K T x H1 ∧ r x [] H1 Q
def tBM (K : PySem.W.Frag) (T : String) (r : V → List V → Hp → VK → Prop) (to : TE) (t : TA) : TE := fun σ H Q => to σ H fun x H1 => tyV K T x H1 ∧ t σ H1 fun xs H2 => r x xs H2 Q
variable {o e : Expr} {es : List Expr} {to : TE} {t : TA} {name : Str} {apos cpos : Pos} {T id : String} {r : V → List V → Hp → VK → Prop}
theorem pe_bm0 (pa : PlainAttrs T) (slot : Slot T name id) (hty : typeOf (.builtin id) = pure (.type "method_descriptor")) (hm : MtR X id r) (ho : PE X o to)
    (hbase : attributeBase o name X.env (eval o X.env) = eval o X.env := by rfl) (hline : (apos.endLine == cpos.line) = true := by rfl) : PE X (.Call (.Attribute o name apos) [] [] cpos) (tBM0 X.K T r to) := by
  intro pins s σ H Q I h
  refine wpAny_Call_method0_late hbase hline (thn (ho pins s σ H _ I h) fun v s1 ⟨x, H1, I1, r1, ty, q1⟩ => ?_)
  obtain ⟨h1, h2⟩ := tyV_is I1 r1 ty
  exact ⟨T, id, pa, slot, hty, h1, h2, Calls.callWith_builtin rfl (PySem.evalArgs_none (hm pins s1 σ H1 x [] v [] Q I1 r1 .nil q1))⟩
theorem pe_bm (pa : PlainAttrs T) (slot : Slot T name id) (hty : typeOf (.builtin id) = pure (.type "method_descriptor")) (hm : MtR X id r) (ho : PE X o to) (ha : PA X (e :: es) t)
    (hbase : attributeBase o name X.env (eval o X.env) = eval o X.env := by rfl)
    (hfew : ((backTo cpos (starEach (e :: es) X.env)).all (fun x => !x.1) && (backToKw cpos (keywordEach [] X.env)).all (fun x => x.1.isSome)
      && decide ((e :: es).length + ([] : List Keyword).length + (if ([] : List Keyword).isEmpty then 0 else 1) < 30)) = true := by rfl)
    (hline : (apos.endLine == cpos.line) = true := by rfl) (hs : starEach (e :: es) X.env = (false, eval e X.env) :: starEach es X.env := by rfl) (hplain : (backTo cpos (starEach es X.env)).any (·.1) = false := by rfl) :
    PE X (.Call (.Attribute o name apos) (e :: es) [] cpos) (tBM X.K T r to t) := by
  intro pins s σ H Q I h
  refine wpAny_Call_method_late hbase hfew hline rfl (thn (ho pins s σ H _ I h) fun v s1 ⟨x, H1, I1, r1, ty, q1⟩ => ?_)
  obtain ⟨h1, h2⟩ := tyV_is I1 r1 ty
  refine ⟨T, id, pa, slot, hty, h1, h2, ?_⟩
  have hA := ha cpos pins s1 σ H1 _ I1 q1
  rw [hs] at hA ⊢
  refine Calls.callWith_builtin (by show (false || (backTo cpos (starEach es X.env)).any (·.1)) = false; rw [hplain] <;> rfl) (Calls.evalArgs_plain ?_)
  exact thn hA fun us s2 ⟨vs, H2, I2, r2, q2⟩ => hm pins s2 σ H2 x vs v us Q I2 r1 r2 q2
/- xs.append(e), list.index on a module's tuple .. are MtR facts of 06m -/
end
end L2

namespace L2
open PySem PySem.Spec PyProof.Rows

def MtM (X : Cx) (id : String) (r : V → List V → Hp → VK → Prop) : Prop :=
  ∀ (pins : List (Addr × Obj)) (s : Shared) (σ : St) (H : Hp) (x : V) (xs : List V) (v : Value) (us : List Value) (Q : VK), Inv X pins σ H s → RelV x v → Vals xs us → r x xs H Q →
    wpAny (model X.prog X.w) X.A (call (.builtin id) (v :: us)) (EP X pins σ Q) X.xe s

/-! ### lists of values -/
theorem Vals.one : ∀ {x : V} {us : List Value}, Vals [x] us → ∃ u, us = [u] ∧ RelV x u
  | _, _, .cons r .nil => ⟨_, rfl, r⟩
theorem Vals.two : ∀ {x y : V} {us : List Value}, Vals [x, y] us → ∃ u v, us = [u, v] ∧ RelV x u ∧ RelV y v
  | _, _, _, .cons r (.cons q .nil) => ⟨_, _, rfl, r, q⟩
theorem Vals.zero : ∀ {us : List Value}, Vals [] us → us = []
  | _, .nil => rfl
theorem Vals.eraseIdx : ∀ {xs : List V} {us : List Value} (i : Nat), Vals xs us → Vals (xs.eraseIdx i) (us.eraseIdx i)
  | _, _, _, .nil => .nil
  | _, _, 0, .cons _ t => t
  | _, _, i + 1, .cons r t => .cons r (Vals.eraseIdx i t)
theorem Vals.reverse {xs : List V} {us : List Value} (h : Vals xs us) : Vals xs.reverse us.reverse := by
  induction h with
  | nil => exact .nil
  | cons r t ih => rw [List.reverse_cons, List.reverse_cons]; exact Vals.append ih (.cons r .nil)
theorem Vals.rep {xs : List V} {us : List Value} (h : Vals xs us) : ∀ k : Nat, Vals (List.replicate k xs).flatten (List.replicate k us).flatten
  | 0 => .nil
  | k + 1 => by
    rw [List.replicate_succ, List.replicate_succ, List.flatten_cons, List.flatten_cons]
    exact Vals.append h (Vals.rep h k)
theorem len_erase {α : Type} : ∀ (l : List α) (i : Nat), (l.eraseIdx i).length ≤ l.length
  | [], _ => Nat.le_refl _
  | _ :: _, 0 => Nat.le_succ _
  | _ :: r, i + 1 => Nat.succ_le_succ (len_erase r i)
theorem foldl_rep (its : List Value) : ∀ (k : Nat) (acc : List Value),
    List.foldl (fun x1 x2 => x1 ++ x2) acc.toArray (List.replicate k its.toArray) = (acc ++ (List.replicate k its).flatten).toArray
  | 0, acc => by simp
  | k + 1, acc => by
    have e : acc.toArray ++ its.toArray = (acc ++ its).toArray := by simp
    have e2 : (acc ++ its) ++ (List.replicate k its).flatten = acc ++ (List.replicate (k + 1) its).flatten := by
      rw [List.replicate_succ, List.flatten_cons, List.append_assoc]
    rw [← e2, ← foldl_rep its k (acc ++ its), ← e, List.replicate_succ, List.foldl_cons]

section
variable {X : Cx} {pins : List (Addr × Obj)} {σ : St} {H : Hp} {s : Shared} {l b : Addr} {xs ys zs : List V}

/-! ### the two steps: a tracked list is rewritten, a new list is laid -/
theorem Inv.lset {its its' : List Value} {n : Nat} {f : Array Value → Array Value} {t' : Nat} (I : Inv X pins σ H s) (hH : H l = some (.lst xs))
    (e : s.heap.get? l = some { cls := .type "list", data := .seq its.toArray n }) (hf : f its.toArray = its'.toArray) (hv : Vals ys its') (hz : ys.length ≤ sizeLine) :
    Inv X pins σ (upd H l (.lst ys)) { s with heap := s.heap.update l (Obj.mapSeq f), toks := t' } := by
  have q := PySem.IsL.update e f
  rw [hf] at q
  refine I.write (x := l) (e := l) (by rw [hH]; exact trivial) (.inl rfl) (fun b' u hb hu => (Heap.get?_update_other s.heap (Obj.mapSeq f) (Ne.symm hb)).trans hu) ⟨_, q⟩ ?_
  exact ⟨hz, its', _, hv, q⟩
theorem Inv.lnew {its : List Value} {t' : Nat} (I : Inv X pins σ H s) (hv : Vals ys its) (hz : ys.length ≤ sizeLine) :
    Inv X pins σ (upd H s.heap.objs.size (.lst ys)) { s with heap := s.heap.push { cls := .type "list", data := .seq its.toArray }, toks := t' } :=
  I.laid (fun _ _ q => Heap.get?_push_of_some _ q) (Nat.le_refl _) ⟨hz, its, 0, hv, Heap.get?_push_size _ rfl⟩
theorem Inv.fresh (I : Inv X pins σ H s) : H s.heap.objs.size = none := I.hok.fresh (Nat.le_refl _)
theorem Inv.lstM (I : Inv X pins σ H s) (hH : H l = some (.lst xs)) : xs.length ≤ sizeLine ∧ ∃ (its : List Value) (n : Nat), Vals xs its ∧ xs.length = its.length ∧ s.heap.get? l = some { cls := .type "list", data := .seq its.toArray n } := by
  obtain ⟨z, its, n, r, e⟩ := I.hok l _ hH
  exact ⟨z, its, n, r, r.length, e⟩

theorem notLongL {n : Nat} (h : n ≤ sizeLine) : Builtin.List.listTooLong n = false := by
  unfold Builtin.List.listTooLong
  exact decide_eq_false (by omega)
end

section
variable {X : Cx}

/-! ### methods -/
def rAppend : V → List V → Hp → VK → Prop := fun x vs H Q => ∃ l xs y, x = .ref l ∧ vs = [y] ∧ H l = some (.lst xs) ∧ xs.length < sizeLine ∧ Q .non (upd H l (.lst (xs ++ [y])))
theorem mt_append : MtM X "list.append" rAppend := by
  intro pins s σ H x vs v us Q I rx rv h
  obtain ⟨l, xs, y, rfl, rfl, hH, hz, q⟩ := h
  cases rx
  obtain ⟨u, rfl, ru⟩ := rv.one
  obtain ⟨z, its, n, r, hl, e⟩ := I.lstM hH
  refine call_meets F.slot_list_append ⟨_, e, rfl⟩ F.entry_list_append (F.args_list_append_2 _ _) (PySem.list_append l its.toArray n u (by rw [List.size_toArray]; omega)) ⟨e, ?_⟩
  refine ⟨.non, _, I.lset (its' := its ++ [u]) hH e (by simp) (r.append (.cons ru .nil)) ?_, rfl, q⟩
  rw [List.length_append, List.length_singleton]
  omega

def rPopAt : V → List V → Hp → VK → Prop := fun x vs H Q => ∃ l xs i k y, x = .ref l ∧ vs = [.int i] ∧ H l = some (.lst xs) ∧ -(2 ^ 63) ≤ i ∧ i < 2 ^ 63 ∧ seqIndex? i xs.length = some k ∧ xs[k]? = some y ∧ Q y (upd H l (.lst (xs.eraseIdx k)))
theorem mt_popAt : MtM X "list.pop" rPopAt := by
  intro pins s σ H x vs v us Q I rx rv h
  obtain ⟨l, xs, i, k, y, rfl, rfl, hH, h1, h2, hk, hy, q⟩ := h
  cases rx
  obtain ⟨u, rfl, ru⟩ := rv.one
  obtain ⟨t, rfl⟩ := ru
  obtain ⟨z, its, n, r, hl, e⟩ := I.lstM hH
  obtain ⟨w, hw, rw'⟩ := r.get hy
  refine call_meets F.slot_list_pop ⟨_, e, rfl⟩ F.entry_list_pop (F.args_list_pop_2 _ _)
    (MeetsSeq.list_pop_at l its.toArray n i t k w (fitsIndex_both h1 h2) (by rw [List.size_toArray, ← hl]; exact hk) (by rw [← Array.getElem?_toList]; exact hw) (by rw [List.size_toArray]; omega)) ⟨e, ?_⟩
  refine ⟨y, _, I.lset (its' := its.eraseIdx k) hH e ?_ (r.eraseIdx k) ?_, rw', q⟩
  · show its.toArray.eraseIdxIfInBounds k = (its.eraseIdx k).toArray
    rw [List.eraseIdxIfInBounds_toArray]
  · have := len_erase xs k
    omega

def rReverse : V → List V → Hp → VK → Prop := fun x vs H Q => ∃ l xs, x = .ref l ∧ vs = [] ∧ H l = some (.lst xs) ∧ Q .non (upd H l (.lst xs.reverse))
theorem mt_reverse : MtM X "list.reverse" rReverse := by
  intro pins s σ H x vs v us Q I rx rv h
  obtain ⟨l, xs, rfl, rfl, hH, q⟩ := h
  cases rx
  have hus := rv.zero
  subst hus
  obtain ⟨z, its, n, r, hl, e⟩ := I.lstM hH
  refine call_meets F.slot_list_reverse ⟨_, e, rfl⟩ F.entry_list_reverse (F.args_list_reverse_1 _) (AutoSeq1.list_reverse_list_0 l its.toArray n (by rw [List.size_toArray]; omega)) ⟨e, ?_⟩
  refine ⟨.non, _, I.lset (its' := its.reverse) hH e (by simp) r.reverse ?_, rfl, q⟩
  rw [List.length_reverse]
  omega

/-! ### list + list, list += list, list * int -/
def rCat : R2 := fun x y H Q => ∃ l b xs zs, x = .ref l ∧ y = .ref b ∧ H l = some (.lst xs) ∧ H b = some (.lst zs) ∧ xs.length + zs.length ≤ sizeLine ∧ ∀ p, H p = none → Q (.ref p) (upd H p (.lst (xs ++ zs)))
theorem op_cat : OpR X (binaryOp .Add) rCat := by
  intro pins s σ H x y v u Q I rx ry h
  obtain ⟨l, b, xs, zs, rfl, rfl, hH, hB, hz, q⟩ := h
  cases rx
  cases ry
  obtain ⟨z, its, n, r, hl, e⟩ := I.lstM hH
  obtain ⟨z2, its2, n2, r2, hl2, e2⟩ := I.lstM hB
  refine PySem.P.add_list e e2 ?_ (by rw [List.size_toArray, List.size_toArray]; omega)
  have ea : its.toArray ++ its2.toArray = (its ++ its2).toArray := by simp
  rw [ea]
  exact ⟨.ref _, _, I.lnew (t' := s.toks) (r.append r2) (by rw [List.length_append]; omega), rfl, q _ I.fresh⟩
/-- a list times an int (a negative one is nothing) -/
def rRep : R2 := fun x y H Q => ∃ l k xs, x = .ref l ∧ y = .int k ∧ H l = some (.lst xs) ∧ -(2 ^ 63) ≤ k ∧ k < 2 ^ 63 ∧ xs.length * k.toNat ≤ sizeLine ∧
  ∀ p, H p = none → Q (.ref p) (upd H p (.lst (List.replicate k.toNat xs).flatten))
theorem len_rep {α : Type} (xs : List α) (k : Nat) : (List.replicate k xs).flatten.length = k * xs.length := by
  induction k with
  | zero => simp
  | succ k ih => rw [List.replicate_succ, List.flatten_cons, List.length_append, ih, Nat.succ_mul, Nat.add_comm]
theorem op_rep : OpR X (binaryOp .Mult) rRep := by
  intro pins s σ H x y v u Q I rx ry h
  obtain ⟨l, k, xs, rfl, rfl, hH, h1, h2, hz, q⟩ := h
  cases rx
  obtain ⟨t, rfl⟩ := ry
  obtain ⟨z, its, n, r, hl, e⟩ := I.lstM hH
  have hlen : its.toArray.size * k.toNat ≤ sizeLine := by rw [List.size_toArray, ← hl]; exact hz
  have hcap : ¬ its.toArray.size * k.toNat > (2 ^ 63 - 1) / 8 := by
    have : (sizeLine : Nat) ≤ (2 ^ 63 - 1) / 8 := by decide
    omega
  have hfit : ¬ (!Builtin.List.listFitsIndex k) = true := by
    rw [fitsIndex_both h1 h2]
    exact Bool.false_ne_true
  have hlong : ¬ Builtin.List.listTooLong (its.toArray.size * k.toNat) = true := by
    rw [notLongL hlen]
    exact Bool.false_ne_true
  have hnew : List.foldl (fun x1 x2 => x1 ++ x2) #[] (List.replicate (if its.toArray.isEmpty = true then 0 else k.toNat) its.toArray) = (List.replicate k.toNat its).flatten.toArray := by
    have f0 : ∀ m : Nat, List.foldl (fun x1 x2 => x1 ++ x2) #[] (List.replicate m its.toArray) = (List.replicate m its).flatten.toArray := fun m => by
      have := foldl_rep its m []
      rw [List.nil_append] at this
      exact this
    rw [f0]
    cases its with
    | nil => simp
    | cons a r' => rw [if_neg (by simp)]
  refine wpAny_binaryOp_repeat_ref (T := "list") (U := "int") (by decide) ⟨_, e, rfl⟩ (fun s' => typeIs_int s' k t) noFill_list_mul F.fills_int_mul F.slot_int_rmul repeat_list F.slot_int_index.lookup
    (call_meets F.slot_int_rmul (typeIs_int s k t) F.entry_int_rmul (F.args_int_rmul_2 _ _) (int___rmul___int_list k t l its.toArray n)
      ⟨e, rfl, ⟨_, e, rfl⟩, call_meets F.slot_list_mul ⟨_, e, rfl⟩ F.entry_list_mul (F.args_list_mul_2 _ _) (AutoListH.list___mul___list_int_3 l its.toArray n k t hfit hcap hlong) ⟨e, ?_⟩⟩)
  rw [hnew]
  exact ⟨.ref _, _, I.lnew (t' := s.toks) (r.rep k.toNat) (by rw [len_rep, Nat.mul_comm]; exact hz), rfl, q _ I.fresh⟩

/-! ### del xs[i] -/
end

/-! ### xs[a:b] = ys -/
section
variable {prog : Program} {w : World} {A : Around} {E : Value → Shared → Prop} {s : Shared}
theorem splice_eq (its its2 : List Value) (a c : Nat) : its.toArray.extract 0 a ++ its2.toArray ++ its.toArray.extract c its.toArray.size = (its.take a ++ its2 ++ its.drop c).toArray := by
  apply Array.toList_inj.mp
  first
    | (simp
       exact List.take_of_length_le (by simp))
    | simp [List.take_of_length_le]
    | simp
theorem bounds_run {a c n : Nat} (hac : a ≤ c) (hc : c ≤ n) : sliceBounds (some (a : Int)) (some (c : Int)) none n = ((a : Int), (c : Int), 1) := by
  simp only [sliceBounds, Option.getD_none]
  have h1 : ¬ ((a : Int) < 0) := by omega
  have h2 : ¬ ((c : Int) < 0) := by omega
  simp only [h1, h2, if_false, show (1 : Int) > 0 by decide, if_true]
  congr 1
  · omega
  · congr 1; omega
set_option maxRecDepth 100000 in
/-- list.__setitem__ with a slice of step one and another list -/
theorem setItem_slice {l b sl : Addr} {items new : Array Value} {n n2 : Nat} {vl vu : Value} {a c : Nat} {Q : Unit → Shared → Prop}
    (e : s.heap.get? l = some { cls := .type "list", data := .seq items n }) (e2 : s.heap.get? b = some { cls := .type "list", data := .seq new n2 }) (hne : l ≠ b)
    (hs : s.heap.IsSliceOf sl vl vu .none) (pl : IsPart vl (some (a : Int))) (pu : IsPart vu (some (c : Int))) (hac : a ≤ c) (hc : c ≤ items.size)
    (hsz : items.size + new.size ≤ sizeLine) (h : Q () { s with heap := s.heap.update l (Obj.mapSeq fun xs => xs.extract 0 a ++ new ++ xs.extract c xs.size) }) :
    wpAny (model prog w) A (setItem (.ref l) (.ref sl) (.ref b)) Q E s := by
  have hl : s.heap.IsList l items := PySem.IsL.isList e
  have hb : s.heap.IsList b new := PySem.IsL.isList e2
  obtain ⟨os, hos, hcs, hds⟩ := id hs
  have hTs : s.TypeIs (.ref sl) "slice" := ⟨os, hos, hcs⟩
  have hstep : ¬ ((rawPart none == rawInt 0) = true) := Bool.false_ne_true
  have hsame : Builtin.List.listSameRef (.ref l) (.ref b) = false := by
    unfold Builtin.List.listSameRef
    exact beq_eq_false_iff_ne.mpr hne
  have hmax : (max (a : Int) (c : Int)).toNat = c := by omega
  have hz' : ((fun xs : Array Value => xs.extract 0 a ++ new ++ xs.extract c xs.size) items).size ≤ sizeLine + 1 := by
    simp only [Array.size_append, Array.size_extract]
    omega
  unfold setItem
  try with_reducible refine wpAny_holding ?_
  first | refine wpAny_bind (wpAny_pure ?_) | skip
  refine wpAny_bind (wpAny_sequenceKey hl.typeIs (by decide) ?_)
  refine wpAny_bind (wpAny_callSpecial?_slot (name := Str.ofString "__setitem__") hl.typeIs slot_list_setitem
    (wpAny_call_entry slot_list_setitem hl.typeIs entry_list_setitem ?_ (args_list_setitem _ _ _)))
  show wpAny _ _ (Builtin.List.listSubscript? (.ref sl) >>= _) _ _ s
  refine wpAny_bind ?_
  unfold Builtin.List.listSubscript?
  refine wpAny_bind (wpAny_specialOf hTs slice_no_index ?_)
  simp only [Option.isNone_none, if_true]
  refine wpAny_pure ?_
  show wpAny _ _ (typeOf (.ref sl) >>= _) _ _ s
  refine wpAny_bind (wpAny_typeOf hTs ?_)
  first
    | rw [if_neg (by decide)]
    | refine PySem.W.KFB.if_not (by decide) ?_
  rw [listSliceParts_eq]
  refine wpAny_bind (wpAny_bind (wpAny_field hos hds (x := .none) rfl (wpAny_bind (wpAny_listPart .none ?_))))
  rw [if_neg hstep]
  refine wpAny_bind (wpAny_field hos hds (x := vl) rfl (wpAny_bind (wpAny_listPart pl ?_)))
  refine wpAny_bind (wpAny_field hos hds (x := vu) rfl (wpAny_bind (wpAny_listPart pu (wpAny_pure ?_))))
  first
    | simp only [hsame, Bool.false_eq_true, if_false]
    | refine PySem.W.KFB.if_not hsame ?_
    | (dsimp only
       rw [if_neg (by rw [hsame]; exact Bool.false_ne_true)])
  refine wpAny_bind (m := Builtin.List.listAllItems (.ref b) "must assign iterable to extended slice") ?_
  unfold Builtin.List.listAllItems
  refine wpAny_bind (wpAny_typeOf hb.typeIs ?_)
  first
    | refine PySem.W.KFB.if_so (by decide) ?_
    | rw [if_pos (by decide)]
    | simp only [beq_self_eq_true, Bool.true_or, if_true]
  unfold Builtin.List.listItems
  refine wpAny_bind (wpAny_seqItems e2 rfl (wpAny_pure ?_))
  refine wpAny_bind (wpAny_bind (wpAny_seqItems e rfl (wpAny_pure ?_)))
  refine wpAny_bind (wpAny_of_eq ((sliceIndices_raw (some (a : Int)) (some (c : Int)) none items.size (by simp)).trans (congrArg (pure : Int × Int × Int → Sem (Int × Int × Int)) (bounds_run hac hc))) ?_)
  show wpAny _ _ (if ((1 : Int) == 1) = true then _ else _) _ _ s
  rw [if_pos (by decide)]
  refine wpAny_bind (wpAny_rule ?_)
  first
    | simp only [notLongL hsz, Bool.false_eq_true, if_false]
    | refine PySem.W.KFB.if_not (notLongL hsz) ?_
  first | refine wpAny_bind (wpAny_pure ?_) | skip
  show wpAny _ _ (updateSeq l (fun xs => xs.extract 0 ((a : Int)).toNat ++ new ++ xs.extract (max (a : Int) (c : Int)).toNat xs.size) >>= _) _ _ s
  rw [hmax, Int.toNat_natCast]
  refine wpAny_bind (wpAny_updateSeq (hz := Nat.le_trans (Nat.le_add_right _ _) hsz) (_hz' := hz') e rfl ?_)
  refine wpAny_bind (wpAny_letGo ?_)
  first
    | exact wpAny_bind (wpAny_pure (wpAny_pure ⟨.none, rfl, wpAny_pure h⟩))
    | exact wpAny_pure ⟨.none, rfl, wpAny_pure h⟩
end

section
variable {X : Cx}
/-- xs[a:c] = ys of another list, at the value level: sl is the slice object that was just made -/
theorem set_slice {pins : List (Addr × Obj)} {s : Shared} {σ : St} {H : Hp} {l b sl : Addr} {xs ys : List V} {a c : Int} {vl vu : Value} {Q : Unit → Shared → Prop} (I : Inv X pins σ H s)
    (hH : H l = some (.lst xs)) (hB : H b = some (.lst ys)) (hne : l ≠ b) (hs : s.heap.IsSliceOf sl vl vu .none) (ra : RelV (.int a) vl) (rc : RelV (.int c) vu) (h0 : 0 ≤ a) (hac : a ≤ c) (hc : c ≤ xs.length)
    (hz : xs.length + ys.length ≤ sizeLine) (h : ∀ s', Inv X pins σ (upd H l (.lst (xs.take a.toNat ++ ys ++ xs.drop c.toNat))) s' → Q () s') :
    wpAny (model X.prog X.w) X.A (setItem (.ref l) (.ref sl) (.ref b)) Q X.xe s := by
  obtain ⟨ta, rfl⟩ := ra
  obtain ⟨tc, rfl⟩ := rc
  obtain ⟨z, its, n, r, hl, e⟩ := I.lstM hH
  obtain ⟨z2, its2, n2, r2, hl2, e2⟩ := I.lstM hB
  obtain ⟨a', rfl⟩ := Int.eq_ofNat_of_zero_le h0
  obtain ⟨c', rfl⟩ := Int.eq_ofNat_of_zero_le (Int.le_trans h0 hac)
  simp only [Int.toNat_natCast] at h
  refine setItem_slice (a := a') (c := c') e e2 hne hs (.int _ _) (.int _ _) (by omega) (by rw [List.size_toArray]; omega) (by rw [List.size_toArray, List.size_toArray]; omega) (h _ ?_)
  refine I.lset (its' := its.take a' ++ its2 ++ its.drop c') (t' := s.toks) hH e ?_ (Vals.append (Vals.append (r.take _) r2) (r.drop _)) ?_
  · exact splice_eq its its2 a' c'
  · rw [List.length_append, List.length_append, List.length_take, List.length_drop]
    omega
end
end L2

namespace Att
open PySem PySem.W PySem.Calls PyProof.Rows

/-! ### the script -/
theorem ints_of_wellAll {P : Params} {h : Heap} : ∀ (ns : List Int) (vs : List Value), WellAll P h vs (ns.map WData.int) → IntsAre vs ns := by
  intro ns
  induction ns with
  | nil =>
    intro vs w
    rw [List.map_nil] at w
    cases w
    exact .nil
  | cons n ns ih =>
    intro vs w
    rw [List.map_cons] at w
    cases w with
    | cons a b =>
      cases a
      exact .cons _ _ (ih _ b)

theorem script_of {l : OpenLaw} {n : Nat} (hn : l.most = some n) {P : Params} {h : Heap} {args : List WData} {vals : List Value}
    (hpre : l.row.toRowW.claim.pre args = true) (hwl : WellAll P h vals args) :
    ∃ a vs ns, vals = [Value.ref a] ∧ args = [WData.list (ns.map WData.int)] ∧ h.get? a = some { cls := .type "list", data := .seq vs.toArray } ∧ IntsAre vs ns ∧ ns.length ≤ n := by
  have hsh : WShape.hasAll [] args [.list .int] = true := (pre_splitW hpre).1
  have hc : l.pre.holds [] { args := args } = true := (pre_splitW hpre).2
  obtain ⟨d, r, rfl, h1, h2⟩ := hasAllW_cons hsh
  obtain rfl := hasAllW_nil h2
  obtain ⟨xs, rfl, h3⟩ := hasW_list h1
  obtain ⟨ns, rfl⟩ := items_int h3
  have hlen : ns.length ≤ n := by
    unfold OpenLaw.pre at hc
    have h4 : (WTm.not (.lt (.lit (.int (n : Int))) (.len (.arg 0)))).holds [] { args := [.list (ns.map .int)] } = true := by
      have h4 := (holds_andW hc).1
      rw [hn] at h4
      exact h4
    have h5 := condW_of h4 (w_not (w_lt w_lit (w_len_list (w_arg rfl))))
    rw [List.length_map] at h5
    refine Nat.le_of_not_lt fun q => ?_
    have q' : (n : Int) < ((ns.length : Nat) : Int) := by omega
    first
      | (rw [decide_eq_true q'] at h5; exact absurd h5 (by decide))
      | (simp at h5; omega)
  cases hwl with
  | cons w1 w2 =>
    cases w2
    cases w1 with
    | list ho hall => exact ⟨_, _, ns, rfl, rfl, ho, ints_of_wellAll ns _ hall, hlen⟩

theorem post_true (l : OpenLaw) (args : List WData) : l.row.toRowW.claim.post args (.bool true) args = true :=
  postW_of (r := l.row.toRowW) (X := (true == true))
    (show WShape.has [] (.bool true) .bool = true by first | rfl | decide | simp [WShape.has, WShape.arms, WShape.armsAll])
    (show (WTm.eq .res (.lit (.bool true))).value [] { args := args, res := some (.bool true), after := args } = some (.bool (true == true)) from w_eq_bool (w_res rfl) w_lit) rfl

/-! ### the attachment: holds_open's last premise (the goal 'hc' behind k_head) from a wpAny of the law's body -/
/-- the same from a codeAny of the CALL (for a layer whose function contracts speak of calls) -/
theorem attach_call {l : OpenLaw} {n : Nat} {q : Program} {loose : List Str} {XP : (Str → Option Value) → Heap → Prop} {YP : World → Heap → Prop} {d : DefRec}
    (hn : l.most = some n) (hdf : d.params.defaults = [])
    (call : ∀ (w : World) (s₀ s₁ : Shared) (mg mb : Str → Option Value) (fa : Addr) (o : Obj) (pm cd doc : Value) (a : Addr) (vs : List Value) (ns : List Int),
      Ground q loose [] XP w s₀ mg mb s₁.heap → YP w s₁.heap →
      s₁.heap.get? fa = some o → o.data = .func (docDef d.name d.params d.body d.scope pm cd doc) → s₁.heap.CodeRec cd d.name → mg d.name = some (.ref fa) →
      s₁.heap.get? a = some { cls := .type "list", data := .seq vs.toArray } → IntsAre vs ns → ns.length ≤ n → s₁.gens = #[] →
      codeAny (model l.prog w) callerA (.call (.ref fa) ⟨[.ref a], []⟩) (fun r s' => r = .ok (.ret (.bool true)) ∧ OldK s₁.heap s'.heap ∧ s'.os = s₁.os ∧ AllBare s'.gens) s₁) :
    WalkO q loose XP YP l.row.toRowW d [] (fun f vs => PySem.call f vs) := by
  intro w s₀ s₁ mg mb G Y fa o pm cd doc dV kV ho hd hcd hD hmg hg args vals as hpre hlay hrd hwl hlo
  obtain rfl : dV = .none := Dflts.none hD hdf
  obtain rfl : kV = .none := Dflts.noKw hD
  obtain ⟨a, vs, ns, rfl, rfl, hobj, hints, hlen⟩ := script_of hn hpre hwl
  refine enter_call (codeAny_mono (call w s₀ s₁ mg mb fa o pm cd doc a vs ns G Y ho (fd_plain hd) hcd hmg hobj hints hlen hg) fun r s' hq => ?_)
  obtain ⟨rfl, h2, h3, h4⟩ := hq
  exact ⟨.inl ⟨.bool true, .bool true, [], rfl, fun _ => rfl, .bool true, post_true l _, fun _ => ⟨List.Pairwise.nil, fun _ hm => (nomatch hm)⟩⟩, h2, h3, h4⟩

/-! ### rules over ANY heap (no ledger) from facts about the written part K: the library's own take a ledger (News) for what they write -/
section
variable {prog : Program} {w : World} {A : Around} {E : Value → Shared → Prop} {s : Shared} {K : Frag}

/-! the whole heap as the ledger: makes every rule that writes through a ledger a rule over any heap -/
def ledger (h : Heap) (L d : Addr) : List (Addr × Obj) := (List.range h.objs.size).filterMap fun a => if a = L ∨ a = d then none else (h.get? a).map fun o => (a, o)
end
end Att

namespace L2
open PySem PySem.Spec PyProof.Rows

theorem vals_ints : ∀ {vs : List Value} {ns : List Int}, IntsAre vs ns → Vals (ns.map V.int) vs
  | _, _, .nil => .nil
  | _, _, .cons n t h => .cons ⟨t, rfl⟩ (vals_ints h)

/-- nothing is tracked but the script, known to the object (or it is an object of the module) -/
def Only (H : Hp) : Prop := ∀ b, H b = none ∨ ∃ o xs, H b = some (.frz o (.lst xs))

/-- THE HEAD: the law's promise, at the heap behind the top. F, the promise of the law's def, may use that base is part of the heap (so K.In base, base.Ns mainGlobals mg stand in Mod) -/
theorem law_call {P : Program} {w : World} {K : PySem.W.Frag} {mg mb : Str → Option Value} {CX : CXT} {k : Nat} {fa a : Addr} {fd : FuncData} {x : Str} {sp : Sp} {s₁ : Shared} {vs : List Value} {ns : List Int}
    (KX : K.In s₁.heap) (hns : s₁.heap.Ns mainGlobals mg) (hb : s₁.heap.Ns builtinsNs mb) (hbb : ∀ x : Str, x ≠ "__name__" → mb x = bootBuiltins x) (hlim : s₁.heap.NoLimit) (hg : s₁.gens = #[])
    (ha : s₁.heap.get? a = some { cls := .type "list", data := .seq vs.toArray }) (hi : IntsAre vs ns) (hl : ns.length ≤ sizeLine) (hr : Room k callerA)
    (F : ∀ base : Heap, K.In base → base.Ns mainGlobals mg → FnOk P w K mg base CX k fa fd [x] sp) (hbind : ∀ (s : Shared) (u : Value), BindsTo s fd ⟨[u], []⟩ [(x, u)])
    (hsp : ∀ H : Hp, Only H → SqL K H a (ns.map V.int) → sp [.ref a] H (fun v _ => v = .bl true) fun _ _ _ => False)
    (hCX : ∀ H e s', CX [] H s₁ (fun _ _ _ => False) e s' → False) :
    codeAny (model P w) callerA (.call (.ref fa) ⟨[.ref a], []⟩) (fun r s' => r = .ok (.ret (.bool true)) ∧ OldK s₁.heap s'.heap ∧ s'.os = s₁.os ∧ AllBare s'.gens) s₁ := by
  have rv := vals_ints hi
  have lenV := hi.length
  -- from an abstract heap in which nothing but the script may be tracked
  have core : ∀ H : Hp, Only H → SqL K H a (ns.map V.int) → HOk P w H s₁.heap → (∀ b, H b ≠ none → b = a) → (H a ≠ none → K.lookup a = none) →
      codeAny (model P w) callerA (.call (.ref fa) ⟨[.ref a], []⟩) (fun r s' => r = .ok (.ret (.bool true)) ∧ OldK s₁.heap s'.heap ∧ s'.os = s₁.os ∧ AllBare s'.gens) s₁ := by
    intro H hO hS hok hA hK
    have base_of : ∀ {b : Addr} {o : Obj}, s₁.heap.get? b = some o → H b = none → (hidT s₁.heap H).get? b = some o := fun e n => hidT_get e n
    have noA : ∀ {b : Addr} {o : Obj} {es : Array DictEntry} {ep : Nat}, s₁.heap.get? b = some o → o.data = .dict es ep → H b = none := fun {b o es ep} e d => by
      cases q : H b with
      | none => rfl
      | some u =>
        have e' : b = a := hA b (by rw [q]; simp)
        subst e'
        rw [ha] at e; cases e
        have d' : Data.seq vs.toArray _ = Data.dict es ep := d
        cases d'
    have nsK : ∀ {b : Addr} {m : Str → Option Value}, s₁.heap.Ns b m → (hidT s₁.heap H).Ns b m := fun {b m} ⟨o, es, ep, e, d, r⟩ => ⟨o, es, ep, base_of e (noA e d), d, r⟩
    have hKb : K.In (hidT s₁.heap H) := fun b o e => base_of (KX b o e) (by
      cases q : H b with
      | none => rfl
      | some u =>
        have e' : b = a := hA b (by rw [q]; simp)
        subst e'
        rw [hK (by rw [q]; simp)] at e; cases e)
    have hM : Mod K mg (hidT s₁.heap H) := ⟨hKb, nsK hns, ⟨mb, nsK hb, hbb⟩, let ⟨mc, h1, h2⟩ := hlim; ⟨mc, nsK h1, h2⟩⟩
    have e0 : Env0 P w K mg (hidT s₁.heap H) callerA [] s₁ H := ⟨rfl, hM, fun b o e => of_hidT e, Nat.le_of_eq (hidT_size _ _), trivial, fun b hb => absurd (show b ∈ ([] : List Addr) from hb) (by simp), hok, .of_eq hg⟩
    refine codeAny_mono ((F _ hKb (nsK hns)).run callerA [] s₁ H ⟨[.ref a], []⟩ [.ref a] [.ref a] _ _ hr e0 (hbind s₁ (.ref a)) (.cons rfl .nil) (hsp H hO hS)) fun r s' h => ?_
    cases r with
    | error e => exact (hCX H e s' h).elim
    | ok fl =>
      cases fl with
      | next => exact False.elim h
      | brk => exact False.elim h
      | cont => exact False.elim h
      | ret u =>
        obtain ⟨v, H', os, bare, un, hok', r', q⟩ := h
        have q' : v = .bl true := q
        subst q'
        obtain rfl : u = Value.bool true := r'
        refine ⟨rfl, OldK.of_keep fun b o e => ?_, os, bare⟩
        cases q : H b with
        | none => exact un.keep b o e q (by intro z; exact absurd (show b ∈ ([] : List Addr) from z) (by simp)) (by simp)
        | some u =>
          rcases hO b with z | ⟨ob, xs, z⟩
          · rw [q] at z; cases z
          · have z2 := un.frzs b ob _ z
            obtain ⟨e1, _⟩ := hok b _ z
            obtain ⟨e2, _⟩ := hok' b _ z2
            rw [e] at e1; cases e1
            exact e2
  cases hk : K.lookup a with
  | some o =>
    -- the script is one of the module's own objects
    have e := KX a o hk
    rw [ha] at e
    cases e
    refine core (fun _ => none) (fun _ => .inl rfl) (.inr ⟨_, vs.toArray, _, hk, rfl, rfl, rfl, by rw [List.size_toArray, lenV]; exact hl, by simpa using rv⟩) (fun b u z => by have z' : (none : Option HO) = some u := z; cases z') (fun b z => absurd rfl z) fun z => absurd rfl z
  | none =>
    refine core (fun b => if b = a then some (.frz { cls := .type "list", data := .seq vs.toArray } (.lst (ns.map V.int))) else none) (fun b => ?_) (.inl (.inr ⟨{ cls := .type "list", data := .seq vs.toArray }, if_pos rfl⟩)) (fun b u z => ?_) (fun b z => ?_) fun _ => hk
    · by_cases hb : b = a
      · exact .inr ⟨_, _, if_pos hb⟩
      · exact .inl (if_neg hb)
    · by_cases hb : b = a
      · have z' := (if_pos hb).symm.trans z
        cases z'
        subst hb
        exact ⟨ha, by rw [List.length_map]; exact hl, vs, _, rv, ha⟩
      · have z' := (if_neg hb).symm.trans z
        cases z'
    · by_cases hb : b = a
      · exact hb
      · exact absurd (if_neg hb) z
end L2

namespace L2
open PySem PySem.Spec PyProof.Rows

abbrev KOf {K : PySem.W.Frag} {h : Heap} (_ : K.In h) : PySem.W.Frag := K

/-- the goal that k_head leaves (case hc), from the law's promise. F gives the function object fd (K's own) once, then the promise over every base -/
theorem walk_of {l : PySem.W.OpenLaw} {n k : Nat} {q : Program} {loose : List Str} {XP : (Str → Option Value) → Heap → Prop} {YP : World → Heap → Prop} {d : DefRec} {K : Params → PySem.W.Frag} {CX : World → CXT} {sp : World → Sp} {x : Str}
    (hn : l.most = some n) (hn2 : n ≤ sizeLine) (hdf : d.params.defaults = []) (hr : Room k callerA)
    (hY : ∀ (w : World) (h : Heap), YP w h → (K w.params).In h)
    (F : ∀ (w : World) (mg : Str → Option Value) (fa : Addr) (h : Heap), (K w.params).In h → h.Ns mainGlobals mg → mg d.name = some (.ref fa) →
      ∃ fd : FuncData, (∀ (s : Shared) (u : Value), BindsTo s fd ⟨[u], []⟩ [(x, u)]) ∧
        ∀ base : Heap, (K w.params).In base → base.Ns mainGlobals mg → FnOk l.prog w (K w.params) mg base (CX w) k fa fd [x] (sp w))
    (hsp : ∀ (w : World) (H : Hp) (a : Addr) (ns : List Int), ns.length ≤ n → Only H → SqL (K w.params) H a (ns.map V.int) → sp w [.ref a] H (fun v _ => v = .bl true) fun _ _ _ => False)
    (hCX : ∀ (w : World) (H : Hp) (s : Shared) (e : Value) (s' : Shared), CX w [] H s (fun _ _ _ => False) e s' → False) :
    PySem.W.WalkO q loose XP YP l.row.toRowW d [] (fun f vs => PySem.call f vs) := by
  refine Att.attach_call hn hdf fun w s₀ s₁ mg mb fa o pm cd doc a vs ns G Y ho hd hcd hmg hobj hints hlen hg => ?_
  have KX := hY w _ Y
  obtain ⟨fd, hb, hF⟩ := F w mg fa _ KX G.T.g hmg
  exact law_call KX G.T.g G.T.b G.T.builtins G.T.nolimit hg hobj hints (Nat.le_trans hlen hn2) hr hF hb (fun H hO hS => hsp w H a ns hlen hO hS) fun H e s' => hCX w H s₁ e s'
end L2

/- THE LAST THEOREM (shape; LID, My.* are yours):
   My.Adr: a structure of the addresses that your layer names (classes, functions); My.Txt K t: a structure (Prop) of the equations over K;
   My.txt_mk : {K} {implicit addresses ..} (e1 : nsIn K mainGlobals "law" = some (some (.ref f))) (e2 : K.lookup f = some ⟨oc, od, .func (fnOf "law" "law" params body scope dV kV doc pm an cdv ct), sl⟩) (e3 : codeIn K cdv "law" = true) .. : ∃ t, My.Txt K t

set_option maxRecDepth 100000 in
set_option maxHeartbeats 0 in
theorem PySem.Challenge.cw_LID_holds : PySem.Challenge.rw_LID.Holds := by
  w_on; o_law; k_head; (case hw => w_witness2)
  k_fill
  refine L2.walk_of (l := PySem.Challenge.rw_LID) (n := 63) (k := 40) (x := "script") (CX := fun w => ..) (sp := fun _ => My.sp_law) rfl (by decide) rfl ⟨rfl, by decide, by decide⟩ (fun w h Y => PySem.W.kIn_of Y) ?F ?S ?C
  case F =>
    intro w mg fa h KX G hmg
    have T : ∃ t, My.Txt (L2.KOf KX) t := by
      dsimp only [L2.KOf]                          -- K must stand as «<heap const> w.params» for k_is
      refine' My.txt_mk ?e1 ?e2 ?e3 ..
      (case e1 => PySem.W.k_is)                    -- in the order: a name -> its address -> its object -> its parts
      (case e2 => PySem.W.k_is)
      ..
    obtain ⟨t, T⟩ := T
    have e0 := hmg.symm.trans (PySem.W.mg_of KX G T.law)
    cases e0                                       -- fa is the law's own address
    exact ⟨_, fun s u => .of_eq rfl, fun base kb nb => My.law_fn T kb nb⟩     -- if «.of_eq rfl» comes too early: refine' ⟨_, ?b, fun base kb nb => My.law_fn T kb nb⟩; exact fun s u => .of_eq rfl
  case S => exact fun w H a ns hl hO hS => ..
  case C => exact ..
(the tactic k_is has no namespace: write k_is) -/

/-! SHORT WORDS over the layer: a def of the text, its body, what a loop and a test want. -/
namespace L2
open PySem PySem.Spec PyProof.Rows

/-! ### the text by places -/
def defArgs (s : Stmt) : Arguments := match s with
  | .FunctionDef _ a _ _ _ _ _ _ _ _ => a
  | _ => { posonlyargs := [], args := [], vararg := none, kwonlyargs := [], kw_defaults := [], kwarg := none, defaults := [] }
def defBody (s : Stmt) : List Stmt := match s with
  | .FunctionDef _ _ b _ _ _ _ _ _ _ => b
  | _ => []
def defScope (s : Stmt) : Scope := match s with
  | .FunctionDef _ _ _ _ _ _ sc _ _ _ => sc
  | _ => { kind := .function, names := [], isGenerator := false, isCoroutine := false }

/-! ### no exception leaves a def -/
abbrev CX0 : CXT := fun _ _ _ _ _ _ => False
abbrev E0 : XK := fun _ _ _ => False
theorem pass0 {X : Cx} : Passes CX0 X E0 := fun _ _ _ _ _ _ _ h => h.elim

/-! ### a def (or method) of the text as it stands behind the top -/
structure Fun (K : PySem.W.Frag) (x qual : Str) (st : Stmt) (f : Addr) (fd : FuncData) : Prop where
  ex : ∃ (oc : Value) (od : Option Addr) (kV doc pm : Value) (an : Option Addr) (cdv ct : Value) (osl : Array (Option Value)),
    fd = PySem.W.fnOf x qual (defArgs st) (defBody st) (defScope st) .none kV doc pm an cdv ct ∧ K.lookup f = some ⟨oc, od, .func fd, osl⟩ ∧ PySem.W.codeIn K cdv qual = true
  kp : PySem.W.keepIn K (.ref f) = true
section
variable {P : Program} {w : World} {K : PySem.W.Frag} {mg : Str → Option Value} {base : Heap}
/-- THE RULE for a def: its body as a term of rules, and the reading of that term -/
theorem Fun.ok {x qual : Str} {st : Stmt} {f : Addr} {fd : FuncData} {N ps : List Str} {k : Nat} {sp : Sp} (F : Fun K x qual st f fd) (S : FnScope N ps (defScope st)) (len : ∀ vs H Q E, sp vs H Q E → vs.length = ps.length)
    (hbody : ∀ (cdv : Value) (A : Around) (outer : List Env) (s : Shared) (H : Hp) (vs : List V) (Q : VK) (E : XK), Room k (A.deeper (envOfC qual (defScope st) s.heap.objs.size f cdv)) → sp vs H Q E →
      ∃ t, PSs (cxOf CX0 P w K mg base N qual (defScope st) f cdv A outer s H E).nox (defBody st) t ∧ t { nx := fun _ H' => Q .non H', rt := Q } (start N vs) H) : FnOk P w K mg base CX0 (k + 1) f fd ps sp := by
  obtain ⟨oc, od, kV, doc, pm, an, cdv, ct, osl, rfl, lk, hcd⟩ := F.ex
  refine fn_of lk hcd S len fun A outer s H vs Q E hr hsp => ?_
  obtain ⟨t, h, q⟩ := hbody cdv A outer s H vs Q E hr hsp
  exact ⟨t, h.nox, q⟩
/-- how its arguments bind (no defaults): h is «fun _ _ _ _ _ _ us hl => match us, hl with | [_, _], _ => rfl», one _ a parameter -/
theorem Fun.binds {x qual : Str} {st : Stmt} {f : Addr} {fd : FuncData} {ps : List Str} (F : Fun K x qual st f fd)
    (h : ∀ (kV doc pm : Value) (an : Option Addr) (cdv ct : Value) (us : List Value), us.length = ps.length → bindArgs (PySem.W.fnOf x qual (defArgs st) (defBody st) (defScope st) .none kV doc pm an cdv ct) ⟨us, []⟩ = pure (ps.zip us)) : Binds K fd ps [] := by
  obtain ⟨oc, od, kV, doc, pm, an, cdv, ct, osl, rfl, lk, hcd⟩ := F.ex
  exact .all (h kV doc pm an cdv ct)
theorem fun_mk {x qual : Str} {st : Stmt} {f : Addr} {oc : Value} {od an : Option Addr} {osl : Array (Option Value)} {kV doc pm cdv ct : Value} (l : K.lookup f = some ⟨oc, od, .func (PySem.W.fnOf x qual (defArgs st) (defBody st) (defScope st) .none kV doc pm an cdv ct), osl⟩)
    (c : PySem.W.codeIn K cdv qual = true) (k : PySem.W.keepIn K (.ref f) = true) : Fun K x qual st f (PySem.W.fnOf x qual (defArgs st) (defBody st) (defScope st) .none kV doc pm an cdv ct) := ⟨⟨oc, od, kV, doc, pm, an, cdv, ct, osl, rfl, l, c⟩, k⟩
end
theorem small1000 {n : Nat} (h : n ≤ 1000) : n < sizeLine := Nat.lt_of_le_of_lt h (by decide)

/-! ### expressions in short: the name that stands in the i-th slot -/
section
variable {X : Cx}
theorem pv (i : Nat) {x : Str} {pos : Pos} (hN : X.N[i]? = some x := by rfl) (hv : Vis X.env.scope x := by first | exact Or.inl rfl | exact Or.inr (Or.inl rfl) | exact Or.inr (Or.inr rfl)) (hd : (x == ("__debug__" : Str)) = false := by decide)
    (hcd : (x == ("__classdict__" : Str)) = false := by decide) : PE X (.Name x pos) (tVar i) := pe_var hN hv hd hcd
end

/-! ### tests -/
theorem iteF {A B : Prop} (h : B) : if false = true then A else B := by
  rw [if_neg Bool.false_ne_true]
  exact h
theorem iteT {A B : Prop} (h : A) : if true = true then A else B := by
  rw [if_pos rfl]
  exact h
theorem ite2 {c A B : Prop} [Decidable c] (h1 : c → A) (h2 : ¬ c → B) : if c then A else B := by
  by_cases h : c
  · rw [if_pos h]
    exact h1 h
  · rw [if_neg h]
    exact h2 h
/-! ### heaps -/
/-- all that was tracked is as it was -/
def Same (H H' : Hp) : Prop := ∀ b o, H b = some o → H' b = some o
theorem Same.refl (H : Hp) : Same H H := fun _ _ h => h
theorem Same.trans {H H1 H2 : Hp} (a : Same H H1) (b : Same H1 H2) : Same H H2 := fun c o h => b c o (a c o h)
theorem Same.free {H H' : Hp} (e : Same H H') {l : Addr} (h : H' l = Option.none) : H l = Option.none := by
  cases q : H l with
  | none => rfl
  | some o =>
    rw [e l o q] at h
    cases h
theorem Same.seq {K : PySem.W.Frag} {H H' : Hp} {a : Addr} {xs : List V} (e : Same H H') (h : SqL K H a xs) : SqL K H' a xs := by
  rcases h with (h | ⟨o, h⟩) | h
  · exact .inl (.inl (e _ _ h))
  · exact .inl (.inr ⟨o, e _ _ h⟩)
  · exact .inr h

end L2

set_option maxHeartbeats 4000000
/-! Comprehensions over the hand layer: a list by one clause, its tests, its block's own context. -/
namespace L2
open PySem PySem.Spec PyProof.Rows

section
variable {prog : Program} {w : World} {A : Around} {R : Result → Shared → Prop} {s : Shared}
theorem comp_loop {elt target iter : Expr} {ifs : List Expr} {scope : Scope} {pos : Pos} {it acc : Value} {env : Env} (I : Nat → Shared → Prop)
    (turn : ∀ n s, I n s → wpAny (model prog w) A (pyNext it) (fun r s₁ => match r with
      | none => R (.ok .next) s₁
      | some v => wpAny (model prog w) A (letOwnedTupleGo target it v) (fun _ s₁' => wpAny (model prog w) A (assign target env v) (fun _ s₂ =>
          wpAny (model prog w) A (forIn ifs true fun c r => if r = true then do let ok ← isTrue c env (eval c env); pure (ForInStep.yield ok) else pure (ForInStep.yield r)) (fun ok s₃ =>
            if ok = true then wpAny (model prog w) A (eval elt env) (fun x s₄ =>
              wpAny (model prog w) A (call (.builtin "list.append") [acc, x]) (fun _ s₅ => ∃ m, m < n ∧ I m s₅) (fun _ _ => False) s₄) (fun _ _ => False) s₃
            else ∃ m, m < n ∧ I m s₃) (fun _ _ => False) s₂) (fun _ _ => False) s₁') (fun _ _ => False) s₁) (fun _ _ => False) s)
    (n : Nat) (h : I n s) : codeAny (model prog w) A (.compLoop (.ListComp elt [⟨target, iter, ifs, 0⟩] scope pos) 0 it acc env) R s := by
  refine codeAny_loop rfl I (fun n s hI => ?_) n h
  show wpAny _ A ((compTurn (.ListComp elt [⟨target, iter, ifs, 0⟩] scope pos) 0 it acc env).onRaise (fun x => do noteFrame x env; theTreesLotGoes x)) _ _ s
  refine wpAny_noted ?_
  rw [compTurn_list]
  refine wpAny_bind (wpAny_standAt (wpAny_bind (wpAny_mono (turn n s hI) (fun r s₁ h₁ => ?_) fun _ _ h' => h'.elim)))
  cases r with
  | none => exact wpAny_pure h₁
  | some v =>
    refine wpAny_bind (wpAny_mono h₁ (fun _ s₁' h₁' => ?_) fun _ _ h' => h'.elim)
    refine wpAny_bind (wpAny_mono h₁' (fun _ s₂ h₂ => wpAny_bind (wpAny_mono h₂ (fun ok s₃ h₃ => ?_) fun _ _ h' => h'.elim)) fun _ _ h' => h'.elim)
    cases ok with
    | false => exact wpAny_pure ⟨rfl, h₃⟩
    | true =>
      exact wpAny_bind (wpAny_bind (wpAny_mono h₃ (fun x s₄ h₄ => wpAny_bind (wpAny_mono h₄ (fun _ s₅ h₅ => wpAny_pure (wpAny_pure ⟨rfl, h₅⟩)) fun _ _ h' => h'.elim)) fun _ _ h' => h'.elim))
end

/-! ### the cells that a block reads -/
theorem clos_go (env : Env) (f : Str × NameKind → List (Str × Addr) → Sem (ForInStep (List (Str × Addr))))
    (hf : ∀ n k r, f (n, k) r = if (k == NameKind.free) = true then (do let a ← cellOf env n; pure (ForInStep.yield ((n, a) :: r))) else pure (ForInStep.yield r)) :
    ∀ (ns : List (Str × NameKind)) (acc : List (Str × Addr)), (∀ y ∈ ns, y.2 = .free → ∃ c, env.cells.lookup y.1 = some c) → (∀ x c, acc.lookup x = some c → env.cells.lookup x = some c) →
      ∃ cl, forIn ns acc f = pure cl ∧ (∀ x c, cl.lookup x = some c → env.cells.lookup x = some c) ∧ (∀ y ∈ ns, y.2 = .free → ∃ c, cl.lookup y.1 = some c) ∧ (∀ x c, acc.lookup x = some c → ∃ c', cl.lookup x = some c')
  | [], acc, _, ha => ⟨acc, by rw [List.forIn_nil], ha, fun _ h => (nomatch h), fun x c h => ⟨c, h⟩⟩
  | (n, k) :: r, acc, hn, ha => by
    rw [List.forIn_cons, hf]
    by_cases hk : k = .free
    · subst hk
      obtain ⟨c, hc⟩ := hn (n, .free) List.mem_cons_self rfl
      have hc' : env.cells.lookup n = some c := hc
      have e1 : cellOf env n = pure c := by unfold cellOf; rw [hc']
      obtain ⟨cl, h1, h2, h3, h4⟩ := clos_go env f hf r ((n, c) :: acc) (fun y hy => hn y (List.mem_cons_of_mem _ hy)) (fun x c' hx => by
        rw [List.lookup_cons] at hx
        cases e : x == n with
        | true =>
          rw [e] at hx
          have : x = n := by simpa using e
          subst this
          rw [← Option.some.inj hx]; exact hc'
        | false => rw [e] at hx; exact ha x c' hx)
      refine ⟨cl, ?_, h2, fun y hy hyf => ?_, fun x c' hx => ?_⟩
      · rw [if_pos (by rfl), e1]
        exact h1
      · rcases List.mem_cons.mp hy with e | hy
        · subst e
          exact h4 n c (by simp)
        · exact h3 y hy hyf
      · cases e : x == n with
        | true => exact h4 x c (by rw [List.lookup_cons, e])
        | false => exact h4 x c' (by rw [List.lookup_cons, e]; exact hx)
    · have hk' : (k == NameKind.free) = false := by simpa using hk
      obtain ⟨cl, h1, h2, h3, h4⟩ := clos_go env f hf r acc (fun y hy => hn y (List.mem_cons_of_mem _ hy)) ha
      refine ⟨cl, ?_, h2, fun y hy hyf => ?_, h4⟩
      · rw [hk', if_neg Bool.false_ne_true]
        exact h1
      · rcases List.mem_cons.mp hy with e | hy
        · subst e
          exact absurd hyf hk
        · exact h3 y hy hyf
theorem clos_ok {scope : Scope} {env : Env} (h : ∀ y ∈ scope.names, y.2 = .free → ∃ c, env.cells.lookup y.1 = some c) :
    ∃ cl, closureFor scope env = pure cl ∧ (∀ x c, cl.lookup x = some c → env.cells.lookup x = some c) ∧ (∀ y ∈ scope.names, y.2 = .free → ∃ c, cl.lookup y.1 = some c) := by
  obtain ⟨cl, h1, h2, h3, _⟩ := clos_go env (fun x r => match x with
    | (n, k) => if (k == NameKind.free) = true then (do let a ← cellOf env n; pure (ForInStep.yield ((n, a) :: r))) else pure (ForInStep.yield r)) (fun _ _ _ => rfl) scope.names [] h (fun x c q => by simp at q)
  refine ⟨cl, ?_, h2, h3⟩
  unfold closureFor
  refine Eq.trans ?_ h1
  have e : ∀ (m : Sem (List (Str × Addr))), (m >>= fun r => (pure r >>= fun r => pure r)) = m := fun m => by simp only [pure_bind, bind_pure]
  exact e _

/-! ### the block's names and tests -/
def capt (n : Nat) (fi : List Nat) (σ : St) : St := List.replicate n none ++ fi.map fun i => σ.getD i none
def tTrue : TT := fun _ H Q => Q true H
def PTs (X : Cx) (ifs : List Expr) (t : TT) : Prop :=
  ∀ (pins : List (Addr × Obj)) (s : Shared) (σ : St) (H : Hp) (Q : Bool → Hp → Prop), Inv X pins σ H s → t σ H Q →
    wpAny (model X.prog X.w) X.A (forIn ifs true fun c r => if r = true then do let ok ← isTrue c X.env (eval c X.env); pure (ForInStep.yield ok) else pure (ForInStep.yield r)) (TP X pins σ Q) X.xe s
theorem pts_nil {X : Cx} : PTs X [] tTrue := fun pins s σ H Q I h => wpAny_tests_nil ⟨H, I, h⟩
theorem pts_one {X : Cx} {c : Expr} {t : TT} (h : PT X c t) : PTs X [c] t := fun pins s σ H Q I q => wpAny_tests_one (h pins s σ H Q I q)

/-- the block: Ls its own names, Fs the names that it reads of the def's, fi their places there -/
structure LcScope (N : List Str) (osc scope : Scope) (Ls Fs : List Str) (fi : List Nat) : Prop where
  kind : scope.kind = .function
  cells : ∀ y ∈ scope.names, y.2 ≠ .cell
  names : ∀ y ∈ scope.names, y.2 = .local → scope.names.lookup y.1 = some .local
  fre : ∀ x ∈ Fs, scope.names.lookup x = some .free
  all : ∀ y ∈ scope.names, y.2 = .free → osc.names.lookup y.1 = some .cell ∨ osc.names.lookup y.1 = some .free
  ix : fi.map (fun i => N[i]?) = Fs.map some
def blk (X : Cx) (scope : Scope) (N : List Str) (cl : List (Str × Addr)) (C : Addr) (s3 : Shared) (H3 : Hp) (ex : List Addr) : Cx :=
  { X with N := N, s₀ := s3, H₀ := H3, env := compEnvC scope cl C X.env, outer := X.stack, stack := X.stack, ex := ex, fn := fun _ => false, pn := [], xe := fun _ _ => False }

theorem relabel_free {env : Env} : ∀ {names : List (Str × NameKind)} {x : Str}, (∀ y ∈ names, y.2 ≠ .cell) →
    ((names.map fun (n, k) => if (k == NameKind.free && env.scope.kind == .function && env.kindOf n == some .cell) then (n, NameKind.cell) else (n, k)).lookup x = some .cell ∨
     (names.map fun (n, k) => if (k == NameKind.free && env.scope.kind == .function && env.kindOf n == some .cell) then (n, NameKind.cell) else (n, k)).lookup x = some .free) → ∃ y ∈ names, y.1 = x ∧ y.2 = .free
  | [], _, _, h => by simp at h
  | (n, k) :: r, x, hc, h => by
    have ih := @relabel_free env r x (fun y hy => hc y (List.mem_cons_of_mem _ hy))
    cases hx : x == n with
    | true =>
      have e : x = n := by simpa using hx
      subst e
      by_cases hb : (k == NameKind.free && env.scope.kind == .function && env.kindOf x == some .cell) = true
      · have : k = .free := by
          simp only [Bool.and_eq_true, beq_iff_eq] at hb
          exact hb.1.1
        exact ⟨(x, k), List.mem_cons_self, rfl, this⟩
      · simp only [List.map_cons, if_neg hb, List.lookup_cons, hx] at h
        rcases h with h | h
        · exact absurd (Option.some.inj h) (hc (x, k) List.mem_cons_self)
        · exact ⟨(x, k), List.mem_cons_self, rfl, Option.some.inj h⟩
    | false =>
      have h' : ((r.map fun (n, k) => if (k == NameKind.free && env.scope.kind == .function && env.kindOf n == some .cell) then (n, NameKind.cell) else (n, k)).lookup x = some .cell ∨
        (r.map fun (n, k) => if (k == NameKind.free && env.scope.kind == .function && env.kindOf n == some .cell) then (n, NameKind.cell) else (n, k)).lookup x = some .free) := by
        by_cases hb : (k == NameKind.free && env.scope.kind == .function && env.kindOf n == some .cell) = true
        · simpa only [List.map_cons, if_pos hb, List.lookup_cons, hx] using h
        · simpa only [List.map_cons, if_neg hb, List.lookup_cons, hx] using h
      obtain ⟨y, hy, z⟩ := ih h'
      exact ⟨y, List.mem_cons_of_mem _ hy, z⟩
theorem relabel_look {env : Env} {x : Str} : ∀ {names : List (Str × NameKind)}, names.lookup x = some .free →
    ((names.map fun (n, k) => if (k == NameKind.free && env.scope.kind == .function && env.kindOf n == some .cell) then (n, NameKind.cell) else (n, k)).lookup x = some .cell ∨
     (names.map fun (n, k) => if (k == NameKind.free && env.scope.kind == .function && env.kindOf n == some .cell) then (n, NameKind.cell) else (n, k)).lookup x = some .free)
  | [], h => by simp at h
  | (n, k) :: r, h => by
    cases hx : x == n with
    | true =>
      have e : x = n := by simpa using hx
      subst e
      rw [List.lookup_cons, hx] at h
      have hk : k = .free := Option.some.inj h
      subst hk
      by_cases hb : (NameKind.free == NameKind.free && env.scope.kind == .function && env.kindOf x == some .cell) = true
      · left; simp only [List.map_cons, if_pos hb, List.lookup_cons, hx]
      · right; simp only [List.map_cons, if_neg hb, List.lookup_cons, hx]
    | false =>
      rw [List.lookup_cons, hx] at h
      have ih := @relabel_look env x r h
      by_cases hb : (k == NameKind.free && env.scope.kind == .function && env.kindOf n == some .cell) = true
      · simpa only [List.map_cons, if_pos hb, List.lookup_cons, hx] using ih
      · simpa only [List.map_cons, if_neg hb, List.lookup_cons, hx] using ih

theorem aLt {h : Heap} {b : Addr} {o : Obj} (e : h.get? b = some o) : @LT.lt Nat _ b h.objs.size := Heap.lt_size e
/-! ### the rule -/
/-- W: by the turn, a measure, the items so far, the heap; N: what a turn is to reach -/
def LcW (J : It) (σ : St) (g : TG) (tc : TT) (te : TE) (H : Hp) (Q : VK) : Prop :=
  ∃ W : Nat → Nat → List V → Hp → Prop, (∃ m, W 0 m [] H) ∧ ∀ i m ys H, W i m ys H →
    (J.stop i H ∧ ys.length ≤ sizeLine ∧ ∀ D, H D = none → Q (.ref D) (upd H D (.lst ys))) ∨
    (J.go i H ∧ ys.length ≤ sizeLine ∧ ∃ N : List V → Hp → Prop, (∀ ys' H', N ys' H' → ∃ m', m' < m ∧ W (i + 1) m' ys' H') ∧ ∀ x H', J.yld i H x H' → g x σ H' fun σ2 H2 =>
      tc σ2 H2 fun b H3 => if b = true then te σ2 H3 fun y H4 => N (ys ++ [y]) H4 else N ys H3)
def tLc (n : Nat) (fi : List Nat) (wi : TI) (g : TG) (tc : TT) (te : TE) : TE := fun σ H Q => wi σ H fun J H1 => LcW J (capt n fi σ) g tc te H1 Q

section
variable {X : Cx} {pins : List (Addr × Obj)} {σ : St} {tg elt iter : Expr} {ifs : List Expr} {scope : Scope} {pos : Pos} {Ls Fs : List Str} {fi : List Nat} {g : TG} {tc : TT} {te : TE}

theorem lc_block {H2 : Hp} {s2 : Shared} {it : Addr} {fp : List Addr} {tn : Nat → Heap → Prop} {J : It} {cl : List (Str × Addr)} {Q : VK} {E : Value → Shared → Prop} {RR : Value → Addr → Result → Shared → Prop}
    (S : LcScope X.N X.env.scope scope Ls Fs fi) (hc : X.calm = true)
    (hb : ∀ C s3 H3 ex, PG (blk X scope (Ls ++ Fs) cl C s3 H3 ex) tg g ∧ PTs (blk X scope (Ls ++ Fs) cl C s3 H3 ex) ifs tc ∧ PE (blk X scope (Ls ++ Fs) cl C s3 H3 ex) elt te)
    (hcl1 : ∀ x c, cl.lookup x = some c → X.env.cells.lookup x = some c) (hcl2 : ∀ y ∈ scope.names, y.2 = .free → ∃ c, cl.lookup y.1 = some c)
    (I2 : Inv X pins σ H2 s2) (T : Turn X.prog X.w X.K tg J fp it tn) (st2 : tn 0 s2.heap) (f2 : ∀ b ∈ fp, FpOk X pins H2 b)
    (hW : ∃ W : Nat → Nat → List V → Hp → Prop, (∃ m, W 0 m [] H2) ∧ ∀ i m ys H, W i m ys H →
      (J.stop i H ∧ ys.length ≤ sizeLine ∧ ∀ D, H D = none → Q (.ref D) (upd H D (.lst ys))) ∨
      (J.go i H ∧ ys.length ≤ sizeLine ∧ ∃ N : List V → Hp → Prop, (∀ ys' H', N ys' H' → ∃ m', m' < m ∧ W (i + 1) m' ys' H') ∧ ∀ x H', J.yld i H x H' → g x (capt Ls.length fi σ) H' fun σ2 H2 =>
        tc σ2 H2 fun b H3 => if b = true then te σ2 H3 fun y H4 => N (ys ++ [y]) H4 else N ys H3))
    (fin : ∀ D C H' s' m, Inv X pins σ H' s' → Q (.ref D) H' → s'.heap.Ns C m → FpOk X pins H' C → RR (.ref D) C (.ok .next) s') :
    wpAny (model X.prog X.w) X.A (newList []) (fun acc s₃ => wpAny (model X.prog X.w) X.A (newFunctionEnv scope X.env.globals cl [] X.env.qual none .none (some X.env)) (fun cenv s₄ =>
      codeAny (model X.prog X.w) X.A (.compStart (.ListComp elt [⟨tg, iter, ifs, 0⟩] scope pos) 0 (.ref it) acc { cenv with scope := relabel scope X.env }) (RR acc cenv.locals) s₄) E s₃) E s2 := by
  refine wpAny_newObj_type (wpAny_newFunctionEnv S.cells (by intro y hy; simp at hy) (fun h₁ hns₁ hsb₁ => ?_) S.kind)
  dsimp only at hns₁ hsb₁ ⊢
  generalize hH3 : s2.heap.push { cls := .type "list", dict := none, data := .seq ([] : List Value).toArray } = h3 at hns₁ hsb₁ ⊢
  generalize hC : h3.objs.size = C at hns₁ hsb₁ ⊢
  generalize hD : s2.heap.objs.size = D
  have hCD : C = D + 1 := by rw [← hC, ← hH3, Heap.size_push, hD]
  have k23 : ∀ b o, s2.heap.get? b = some o → h3.get? b = some o := fun b o e => by rw [← hH3]; exact Heap.get?_push_of_some _ e
  have k34 : ∀ b o, h3.get? b = some o → h₁.get? b = some o := fun b o e => hsb₁.extBut b o (Nat.ne_of_lt (by have := aLt e; omega)) (Heap.get?_push_of_some _ e)
  have hDo : h3.get? D = some { cls := .type "list", data := .seq ([] : List Value).toArray } := by rw [← hH3, ← hD]; exact Heap.get?_push_size _ rfl
  obtain ⟨W, ⟨m0, w0⟩, turn⟩ := hW
  -- the state where the block begins
  have I3 : Inv X pins σ H2 { s2 with heap := h3 } := I2.kept (t' := s2.toks) k23
  have frD : H2 D = none := by rw [← hD]; exact I2.fresh
  have frC : H2 C = none := I2.hok.fresh (by omega)
  have DL : D ≠ X.env.locals := Nat.ne_of_gt (by have : @LT.lt Nat _ X.env.locals s2.heap.objs.size := I2.lt; omega)
  have CL : C ≠ X.env.locals := Nat.ne_of_gt (by have : @LT.lt Nat _ X.env.locals s2.heap.objs.size := I2.lt; omega)
  have cellLt : ∀ x c, X.env.cells.lookup x = some c → @LT.lt Nat _ c D := fun x c e => by
    obtain ⟨v, q⟩ := I2.cell x c e
    have : @LT.lt Nat _ c s2.heap.objs.size := q.lt
    omega
  have fpLt : ∀ b ∈ fp, @LT.lt Nat _ b D := fun b hb => by
    obtain ⟨o, e, _⟩ := T.obj _ _ st2 b hb
    have := aLt e
    omega
  have exLoc : ∀ b ∈ D :: fp, b ≠ C ∧ (∀ x c, X.env.cells.lookup x = some c → c ≠ b) := fun b hb => by
    rcases List.mem_cons.mp hb with e | hb
    · subst e
      exact ⟨Nat.ne_of_lt (by omega), fun x c e => Nat.ne_of_lt (cellLt x c e)⟩
    · exact ⟨Nat.ne_of_lt (by have := fpLt b hb; omega), (f2 b hb).2.2.2.2.1⟩
  have ok' : (blk X scope (Ls ++ Fs) cl C { s2 with heap := h3 } H2 (D :: fp)).Ok := by
    refine ⟨I2.ok.mod, S.kind, I2.ok.glob, I2.ok.blt, ?_, fun x y c e1 e2 => I2.ok.inj x y c (hcl1 x c e1) (hcl1 y c e2), fun x hx => ?_, fun x c hx => absurd hx Bool.false_ne_true, I2.ok.hd, I2.ok.frames, .inl rfl,
      fun b hb => ⟨(exLoc b hb).1, fun x c e => (exLoc b hb).2 x c (hcl1 x c e)⟩, I3.bs, Nat.le_trans I2.ok.bsz I3.sz, fun b o e hb => ?_, fun b hb => ?_, I3.stack, I3.stkFree⟩
    · show h3.objs.size ≤ C
      omega
    · obtain ⟨y, hy, e1, e2⟩ := relabel_free S.cells hx
      obtain ⟨c, q⟩ := hcl2 y hy e2
      exact ⟨c, e1 ▸ q⟩
    · rcases List.mem_cons.mp hb with z | hb
      · exact absurd z (Nat.ne_of_lt (by have := aLt (I2.bk b o e); omega))
      · rcases (f2 b hb).2.2.2.1 with z | z
        · exact I2.ok.noex b o e z
        · have h1 : @LT.lt Nat _ b X.base.objs.size := aLt e
          have h2 : @LE.le Nat _ X.base.objs.size X.s₀.heap.objs.size := I2.ok.bsz
          have h3 : @LE.le Nat _ X.s₀.heap.objs.size b := z
          omega
    · intro hz
      have hz' := I2.stkSub b hz
      rcases List.mem_cons.mp hb with e | hb
      · subst e
        rcases List.mem_cons.mp hz' with z | z
        · exact DL z
        · exact I2.nofs (by omega) z
      · rcases List.mem_cons.mp hz' with z | z
        · exact (f2 b hb).2.1 z
        · exact (f2 b hb).2.2.1 z
  obtain ⟨m2, hn2, hl2⟩ := id I2.loc
  -- the captured values lie in cells that no one changes
  have cap : ∀ (i : Nat) (x : Str) (v : V), (Ls ++ Fs)[i]? = some x → (capt Ls.length fi σ)[i]? = some (some v) → ∃ u c, RelV v u ∧ ((relabel scope X.env).names.lookup x = some .cell ∨ (relabel scope X.env).names.lookup x = some .free) ∧
      cl.lookup x = some c ∧ X.env.cells.lookup x = some c ∧ s2.heap.IsCell c (some u) := by
    intro i x v e1 e2
    unfold capt at e2
    by_cases hi : i < Ls.length
    · rw [List.getElem?_append_left (by simpa using hi), List.getElem?_replicate, if_pos hi] at e2
      cases e2
    · have hi' : Ls.length ≤ i := Nat.le_of_not_lt hi
      rw [List.getElem?_append_right hi'] at e1
      rw [List.getElem?_append_right (by simpa using hi'), List.length_replicate, List.getElem?_map] at e2
      cases e3 : fi[i - Ls.length]? with
      | none => rw [e3] at e2; cases e2
      | some j =>
        rw [e3] at e2
        have e4 : σ.getD j none = some v := Option.some.inj e2
        have e5 : X.N[j]? = some x := by
          have q := congrArg (fun l => l[i - Ls.length]?) S.ix
          simp only [List.getElem?_map, e3, e1, Option.map_some] at q
          exact Option.some.inj q
        have e6 : σ[j]? = some (some v) := by
          rw [List.getD_eq_getElem?_getD] at e4
          cases e7 : σ[j]? with
          | none => rw [e7] at e4; cases e4
          | some z => rw [e7] at e4; exact congrArg some e4
        have fx := S.fre x (List.mem_of_getElem? e1)
        have al := S.all (x, .free) (PySem.mem_of_lookup fx) rfl
        have vis : Vis X.env.scope x := by
          rcases al with z | z
          · exact .inr (.inl z)
          · exact .inr (.inr z)
        obtain ⟨u, ru, lk⟩ := hl2 j x v e5 e6 vis
        rcases lk with ⟨k, _⟩ | ⟨k, c, ec, hcell⟩
        · have k' : X.env.scope.names.lookup x = some .local := k
          rcases al with z | z
          · rw [show X.env.scope.names.lookup x = some .cell from z] at k'; cases k'
          · rw [show X.env.scope.names.lookup x = some .free from z] at k'; cases k'
        · obtain ⟨c', ec'⟩ := hcl2 (x, .free) (PySem.mem_of_lookup fx) rfl
          have : c' = c := Option.some.inj ((hcl1 x c' ec').symm.trans ec)
          subst this
          exact ⟨u, c', ru, relabel_look fx, ec', ec, hcell⟩
  have capLen : (capt Ls.length fi σ).length = (Ls ++ Fs).length := by
    unfold capt
    have q := congrArg List.length S.ix
    simp only [List.length_map] at q
    rw [List.length_append, List.length_replicate, List.length_map, List.length_append, q]
  -- whatever the block's names hold, the captured ones hold what they held
  have re : ∀ {ps : List (Addr × Obj)} {σ' : St} {H' : Hp} {s' : Shared}, Inv (blk X scope (Ls ++ Fs) cl C { s2 with heap := h3 } H2 (D :: fp)) ps σ' H' s' → Inv (blk X scope (Ls ++ Fs) cl C { s2 with heap := h3 } H2 (D :: fp)) ps (capt Ls.length fi σ) H' s' := by
    intro ps σ' H' s' J'
    refine ⟨J'.ok, J'.os, J'.bare, J'.base, ?_, J'.cell, J'.free, J'.freeC, J'.pin, J'.hok, capLen⟩
    obtain ⟨m, hn, _⟩ := J'.loc
    refine ⟨m, hn, fun i x v e1 e2 _ => ?_⟩
    obtain ⟨u, c, ru, kk, ec, ec2, o, ho, hd⟩ := cap i x v e1 e2
    obtain ⟨sl, q⟩ := J'.base.any (k23 c o ho) (I2.freeC x c ec2) fun z => (exLoc c z).2 x c ec2 rfl
    exact ⟨u, ru, .inr ⟨kk, c, ec, _, q, hd⟩⟩
  have I4 : Inv (blk X scope (Ls ++ Fs) cl C { s2 with heap := h3 } H2 (D :: fp)) [(D, { cls := .type "list", data := .seq ([] : List Value).toArray })] (capt Ls.length fi σ) H2 { s2 with heap := h₁, toks := s2.toks + ([] : List (Str × Value)).length } := by
    refine ⟨ok', rfl, I2.bare, Un.kept k34, ⟨_, hns₁, fun i x v e1 e2 _ => ?_⟩, fun x c e => ?_, frC, fun x c e => I2.freeC x c (hcl1 x c e), fun p hp => ?_, I2.hok.kept fun b o e => k34 b o (k23 b o e), capLen⟩
    · obtain ⟨u, c, ru, kk, ec, ec2, o, ho, hd⟩ := cap i x v e1 e2
      exact ⟨u, ru, .inr ⟨kk, c, ec, o, k34 c o (k23 c o ho), hd⟩⟩
    · obtain ⟨v, o, ho, hd⟩ := I2.cell x c (hcl1 x c e)
      exact ⟨v, o, k34 c o (k23 c o ho), hd⟩
    · have hp' : p = (D, { cls := .type "list", data := .seq ([] : List Value).toArray }) := by
        have : p ∈ ([] : List (Addr × Obj)) ++ [(D, { cls := .type "list", data := .seq ([] : List Value).toArray })] := hp
        simpa using this
      subst hp'
      refine ⟨k34 D _ hDo, frD, Nat.ne_of_lt (show @LT.lt Nat _ D C by omega), fun z => ?_, fun v z => by cases z⟩
      rcases List.mem_cons.mp (I2.stkSub D z) with z | z
      · exact DL z
      · exact I2.nofs (by omega) z
  obtain ⟨hg, ht, he⟩ := hb C { s2 with heap := h3 } H2 (D :: fp)
  -- behind the block: what the def's own context knows
  have back : ∀ {ps : List (Addr × Obj)} {σ' : St} {H' : Hp} {s' : Shared} {ys : List V} {its : List Value} {n : Nat}, Inv (blk X scope (Ls ++ Fs) cl C { s2 with heap := h3 } H2 (D :: fp)) ps σ' H' s' → s'.heap.get? D = some { cls := .type "list", data := .seq its.toArray n } →
      H' D = none → Vals ys its → ys.length ≤ sizeLine → Inv X pins σ (upd H' D (.lst ys)) s' ∧ FpOk X pins (upd H' D (.lst ys)) C := by
    intro ps σ' H' s' ys its n J' hDs hDn rv hz
    have neD : ∀ b o, s2.heap.get? b = some o → b ≠ D := fun b o e => Nat.ne_of_lt (by have := aLt e; omega)
    have nex : ∀ b, b ∉ fp → b ≠ D → b ∉ D :: fp := fun b h1 h2 z => (List.mem_cons.mp z).elim h2 h1
    have U : Un (frs X.stack) fp H2 (upd H' D (.lst ys)) s2.heap s'.heap := by
      refine ⟨fun b o e n hb hx => J'.base.keep b o (k23 b o e) n hb (nex b hx (neD b o e)), fun b o e n hb hx => J'.base.slot b o (k23 b o e) n hb (nex b hx (neD b o e)), fun b o e n hx => ?_, fun b o e hx => J'.base.there b o (k23 b o e) (nex b hx (neD b o e)), fun b xs e => ?_, fun b o u e => ?_, fun b ps e => ?_⟩
      · rw [upd_ne (neD b o e)]
        exact J'.base.free b o (k23 b o e) n (nex b hx (neD b o e))
      · rw [upd_ne (ne_of_none e frD)]
        exact J'.base.tups b xs e
      · rw [upd_ne (ne_of_none e frD)]
        exact J'.base.frzs b o u e
      · obtain ⟨more, q⟩ := J'.base.tbls b ps e
        exact ⟨more, by rw [upd_ne (ne_of_none e frD)]; exact q⟩
    have hok' : HOk X.prog X.w (upd H' D (.lst ys)) s'.heap := fun b u q => by
      by_cases hbD : b = D
      · subst hbD
        rw [upd_same] at q
        cases q
        exact ⟨hz, its, n, rv, hDs⟩
      · rw [upd_ne hbD] at q
        exact (J'.hok b u q).stay (fun c v _ r => r) (fun c r => by rw [upd_ne (ne_of_none r hDn)]; exact r) fun c xs r => by rw [upd_ne (ne_of_none r hDn)]; exact r
    refine ⟨I2.call' J'.os U hok' J'.bare fun b hb => ⟨(f2 b hb).2.2.2.1, (f2 b hb).2.1, (f2 b hb).2.2.2.2.1, (f2 b hb).2.2.2.2.2⟩, ?_⟩
    refine ⟨by rw [upd_ne (Nat.ne_of_gt (by omega))]; exact J'.free, CL, I2.nofs (by omega), .inr (by have := I2.sz; omega), fun x c e => Nat.ne_of_lt (by have := cellLt x c e; omega), fun p hp => ?_⟩
    have := aLt (I2.pin p hp).1
    exact Nat.ne_of_lt (by omega)
  have loop : codeAny (model X.prog X.w) X.A (.compLoop (.ListComp elt [⟨tg, iter, ifs, 0⟩] scope pos) 0 (.ref it) (.ref D) (compEnvC scope cl C X.env)) (RR (.ref D) C) { s2 with heap := h₁, toks := s2.toks + ([] : List (Str × Value)).length } := by
    refine comp_loop (fun n s' => ∃ (i : Nat) (ys : List V) (H' : Hp) (its : List Value) (k : Nat), Inv (blk X scope (Ls ++ Fs) cl C { s2 with heap := h3 } H2 (D :: fp)) [(D, { cls := .type "list", data := .seq its.toArray k })] (capt Ls.length fi σ) H' s' ∧
      Vals ys its ∧ tn i s'.heap ∧ (∀ b ∈ fp, H' b = none) ∧ W i n ys H') ?_ m0 ⟨0, [], H2, [], 0, I4, .nil, T.keep _ _ _ st2 fun b _ o e => k34 b o (k23 b o e), fun b hb => (f2 b hb).1, w0⟩
    rintro n s5 ⟨i, ys, H5, its, k, I5, rv, st5, fr5, w5⟩
    have stat : ∀ {H' : Hp} {its' : List Value} {k' : Nat}, (∀ b ∈ fp, H' b = none) → ∀ b ∈ fp, FpOk (blk X scope (Ls ++ Fs) cl C { s2 with heap := h3 } H2 (D :: fp)) [(D, { cls := .type "list", data := .seq its'.toArray k' })] H' b := fun hn b hb => by
      refine ⟨hn b hb, (exLoc b (List.mem_cons_of_mem _ hb)).1, fun z => ok'.exfs b (List.mem_cons_of_mem _ hb) z, .inl (List.mem_cons_of_mem _ hb), fun x c e => (exLoc b (List.mem_cons_of_mem _ hb)).2 x c (hcl1 x c e), fun p hp => ?_⟩
      have hp' : p = _ := List.mem_singleton.mp hp
      rw [hp']
      have := fpLt b hb
      show D ≠ b
      exact Nat.ne_of_gt this
    have pinD := I5.pin (D, { cls := .type "list", data := .seq its.toArray k }) (List.mem_singleton.mpr rfl)
    rcases turn i n ys H5 w5 with ⟨stop, hz, qn⟩ | ⟨go, hz, N, hN, step⟩
    · refine wpAny_mono (T.done (blk X scope (Ls ++ Fs) cl C { s2 with heap := h3 } H2 (D :: fp)) rfl rfl rfl hc i _ s5 _ H5 _ I5 (stat fr5) st5 stop) (fun r s6 ⟨hr, I6⟩ => ?_) fun _ _ h => h
      subst hr
      have pin6 := I6.pin (D, { cls := .type "list", data := .seq its.toArray k }) (List.mem_singleton.mpr rfl)
      obtain ⟨b1, b2⟩ := back I6 pin6.1 pin6.2.1 rv hz
      obtain ⟨m, hn, _⟩ := I6.loc
      exact fin D C _ s6 m b1 (qn D pin6.2.1) hn b2
    · refine wpAny_mono (T.item (blk X scope (Ls ++ Fs) cl C { s2 with heap := h3 } H2 (D :: fp)) rfl rfl rfl hc i _ s5 _ H5 _ I5 (stat fr5) st5 go) (fun r s6 ⟨u, hr, h6⟩ => ?_) fun _ _ h => h
      subst hr
      refine wpAny_mono h6 (fun _ s7 ⟨x, H7, I7, r7, y7, st7, fr7⟩ => ?_) fun _ _ h => h
      have I7' := I7.pinned (stat fr7) (T.obj _ _ st7)
      refine wpAny_mono (hg _ s7 _ H7 x u _ I7' r7 (step x H7 y7)) (fun _ s8 ⟨σ8, H8, I8, q8⟩ => ?_) fun _ _ h => h
      refine wpAny_mono (ht _ s8 σ8 H8 _ I8 q8) (fun ok s9 ⟨H9, I9, q9⟩ => ?_) fun _ _ h => h
      have keepT : ∀ {σ' : St} {H' : Hp} {s' : Shared}, Inv (blk X scope (Ls ++ Fs) cl C { s2 with heap := h3 } H2 (D :: fp)) ([(D, { cls := .type "list", data := .seq its.toArray k })] ++ pinsAt fp s7.heap) σ' H' s' → tn (i + 1) s'.heap ∧ ∀ b ∈ fp, H' b = none := by
        intro σ' H' s' J'
        refine ⟨T.keep _ _ _ st7 fun b hb o e => (J'.pin (b, o) (List.mem_append_right _ (List.mem_append_right _ (mem_pinsAt hb e)))).1, fun b hb => ?_⟩
        obtain ⟨o, e, d⟩ := T.obj _ _ st7 b hb
        exact (J'.pin (b, o) (List.mem_append_right _ (List.mem_append_right _ (mem_pinsAt hb e)))).2.1
      cases ok with
      | false =>
        rw [if_neg Bool.false_ne_true] at q9 ⊢
        obtain ⟨m', hm, w'⟩ := hN _ _ q9
        exact ⟨m', hm, i + 1, ys, H9, its, k, re I9.unpinned, rv, (keepT I9).1, (keepT I9).2, w'⟩
      | true =>
        rw [if_pos rfl] at q9 ⊢
        refine wpAny_mono (he _ s9 σ8 H9 _ I9 q9) (fun v s10 ⟨y, H10, I10, r10, q10⟩ => ?_) fun _ _ h => h
        obtain ⟨m', hm, w'⟩ := hN _ _ q10
        obtain ⟨k10, f10⟩ := keepT I10
        have I11 : Inv (blk X scope (Ls ++ Fs) cl C { s2 with heap := h3 } H2 (D :: fp)) [(D, { cls := .type "list", data := .seq its.toArray k })] (capt Ls.length fi σ) H10 s10 := re I10.unpinned
        have pin11 := I11.pin (D, { cls := .type "list", data := .seq its.toArray k }) (List.mem_singleton.mpr rfl)
        refine wpAny_list_append_plain ⟨k, pin11.1⟩ (fun h' hp' sb => ?_) (by rw [List.size_toArray, ← rv.length]; exact hz)
        obtain ⟨k', hk'⟩ := hp'
        have e1 : its.toArray.push v = (its ++ [v]).toArray := by simp
        rw [e1] at hk'
        have I12 : Inv (blk X scope (Ls ++ Fs) cl C { s2 with heap := h3 } H2 (D :: fp)) [] (capt Ls.length fi σ) H10 { s10 with heap := h', toks := s10.toks } :=
          (I11.pins_of (pins' := []) fun p hp => (nomatch hp)).turned (it := D) (fun b o hb e => (sb.2 b hb).trans e) pin11.2.1 pin11.2.2.1 (.inl List.mem_cons_self) (fun x c e => (exLoc D List.mem_cons_self).2 x c (hcl1 x c e)) fun p hp => (nomatch hp)
        have I13 : Inv (blk X scope (Ls ++ Fs) cl C { s2 with heap := h3 } H2 (D :: fp)) [(D, { cls := .type "list", data := .seq (its ++ [v]).toArray k' })] (capt Ls.length fi σ) H10 { s10 with heap := h', toks := s10.toks } := I12.pins_of fun p hp => by
          have hp' : p = _ := List.mem_singleton.mp hp
          subst hp'
          exact ⟨hk', pin11.2.1, pin11.2.2.1, pin11.2.2.2.1, fun v z => by cases z⟩
        refine ⟨m', hm, i + 1, ys ++ [y], H10, its ++ [v], k', I13, rv.append (.cons r10 .nil), ?_, f10, w'⟩
        exact T.keep _ _ _ k10 fun b hb o e => (sb.2 b (Nat.ne_of_lt (fpLt b hb))).trans e
  exact codeAny_compStart_list loop (T.self _ 0 _ _ _ (T.keep _ _ _ st2 fun b _ o e => k34 b o (k23 b o e)) loop)

/-- [elt for tg in iter if ..], as a value -/
theorem pe_lc {wi : TI} (S : LcScope X.N X.env.scope scope Ls Fs fi) (hc : X.calm = true) (hi : PI X tg iter wi)
    (hb : ∀ cl C s3 H3 ex, PG (blk X scope (Ls ++ Fs) cl C s3 H3 ex) tg g ∧ PTs (blk X scope (Ls ++ Fs) cl C s3 H3 ex) ifs tc ∧ PE (blk X scope (Ls ++ Fs) cl C s3 H3 ex) elt te)
    (hs : ∀ x, foldedSetIterable iter X.env x = pure x := by intro _; rfl) : PE X (.ListComp elt [⟨tg, iter, ifs, 0⟩] scope pos) (tLc Ls.length fi wi g tc te) := by
  intro pins s σ H Q I h
  rw [eval_ListComp]
  obtain ⟨cl, hcl, hcl1, hcl2⟩ := clos_ok (scope := scope) (env := X.env) fun y hy hf => I.ok.has y.1 (S.all y hy hf)
  refine wpAny_comprehension_free (use := none) rfl hs hcl S.kind S.names (wpAny_mono (hi pins s σ H _ I h) (fun v s1 h1 => wpAny_mono h1 (fun itv s2 h2 => ?_) fun _ _ e => e) fun _ _ e => e)
  obtain ⟨it, fp, tn, J, H2, e, I2, T, st2, f2, hW⟩ := h2
  subst e
  refine lc_block (RR := fun acc C => compPost (model X.prog X.w) X.A X.xe none (EP X pins σ Q) acc C) S hc (hb cl) hcl1 hcl2 I2 T st2 f2 hW fun D C H' s' m I' q hn f => ?_
  obtain ⟨f0, f1, f2, f3, f4, f5⟩ := f
  exact ⟨m, hn, fun h' hs' => ⟨.ref D, H', I'.turned (it := C) (t' := s'.toks) (fun b o hb e => (hs'.2 b hb).trans e) f0 f1 f3 f4 f5, rfl, q⟩⟩

/-- x = [elt for tg in iter if ..] on one row: the name is stored ahead of the block's own names going -/
theorem ps_lc {wi : TI} {i : Nat} {x : Str} {pos' spos : Pos} (hN : X.N.Nodup) (hi' : X.N[i]? = some x) (hx : Loc X.env.scope x) (S : LcScope X.N X.env.scope scope Ls Fs fi) (hc : X.calm = true) (hi : PI X tg iter wi)
    (hb : ∀ cl C s3 H3 ex, PG (blk X scope (Ls ++ Fs) cl C s3 H3 ex) tg g ∧ PTs (blk X scope (Ls ++ Fs) cl C s3 H3 ex) ifs tc ∧ PE (blk X scope (Ls ++ Fs) cl C s3 H3 ex) elt te)
    (hsw : swapsWith (.ListComp elt [⟨tg, iter, ifs, 0⟩] scope pos) (some (.Name x pos')) spos.line X.env = pure true := by rfl)
    (hs : ∀ x, foldedSetIterable iter X.env x = pure x := by intro _; rfl) (hf : X.fn x = true ∨ X.env.scope.names.lookup x = some .local := by first | exact .inl rfl | exact .inr rfl | assumption) :
    PS X (.Assign [.Name x pos'] (.ListComp elt [⟨tg, iter, ifs, 0⟩] scope pos) spos) (tAsg (tLc Ls.length fi wi g tc te) (gName i)) := by
  intro pins s σ H D' I h
  rw [exec_Assign_Name_used _ _ _ _ hsw]
  obtain ⟨cl, hcl, hcl1, hcl2⟩ := clos_ok (scope := scope) (env := X.env) fun y hy hf => I.ok.has y.1 (S.all y hy hf)
  refine wpAny_bind (wpAny_standAt (wpAny_bind ?_))
  show wpAny _ X.A (do let _ ← comprehension (.ListComp elt [⟨tg, iter, ifs, 0⟩] scope pos) scope X.env _ (newList []) false (eval iter X.env) (some (assign (.Name x pos') X.env))) _ _ s
  refine wpAny_bind (wpAny_mono (wpAny_comprehension_free (use := some (assign (.Name x pos') X.env)) (Q := fun _ s' => SP X pins D' .next s') rfl hs hcl S.kind S.names
    (wpAny_mono (hi pins s σ H _ I h) (fun v s1 h1 => wpAny_mono h1 (fun itv s2 h2 => ?_) fun _ _ e => e) fun _ _ e => e)) (fun _ s' hq => wpAny_pure (wpAny_pure hq)) fun _ _ e => e)
  obtain ⟨it, fp, tn, J, H2, e, I2, T, st2, f2, hW⟩ := h2
  subst e
  refine lc_block (RR := fun acc C => compPost (model X.prog X.w) X.A X.xe (some (assign (.Name x pos') X.env)) (fun _ s' => SP X pins D' .next s') acc C) (Q := fun x H1 => gName i x σ H1 D'.nx) S hc (hb cl) hcl1 hcl2 I2 T st2 f2 hW fun D C H' s' m I' q hn f => ?_
  obtain ⟨f0, f1, f2, f3, f4, f5⟩ := f
  show wpAny _ X.A (assign (.Name x pos') X.env (.ref D)) _ _ _
  refine wpAny_assign_Name (store_ok2 I' hN hi' hx (v := .ref D) rfl (fun s'' I'' hch => ?_) hf)
  obtain ⟨a, sb, ha⟩ := hch
  have hCa : C ≠ a := by
    rcases ha with z | z
    · rw [z]; exact f1
    · exact (f4 x a z).symm
  exact ⟨m, hn.sameBut sb hCa, fun h' hs' => ⟨_, H', I''.turned (it := C) (t' := s''.toks) (fun b o hb e => (hs'.2 b hb).trans e) f0 f1 f3 f4 f5, q⟩⟩
end
end L2

/-! More of the language over the hand layer: enumerate, isinstance, all, sorted, deep == and !=, count, a dict of the module's. -/
namespace L2
open PySem PySem.Spec PyProof.Rows PyProof.V

/-! ### enumerate -/
def Ite (K : PySem.W.Frag) (a : Addr) : It :=
  ⟨fun i H => ∃ xs x, SqL K H a xs ∧ xs[i]? = some x, fun i H v H' => ∃ p x, v = .ref p ∧ H p = none ∧ H' = upd H p (.tup [.int i, x]) ∧ ∀ xs, SqL K H a xs → xs[i]? = some x, fun i H => ∃ xs, SqL K H a xs ∧ xs.length ≤ i⟩
theorem turn_enum {P : Program} {w : World} {K : PySem.W.Frag} {es : List Expr} {k : Nat} {pos : Pos} (a e it : Addr) (hei : e ≠ it) :
    Turn P w K (.Tuple es k pos) (Ite K a) [e, it] e (fun i h => (∃ old, IsEnum h e it i old) ∧ h.IsListIter it a i) where
  mem := by simp
  obj := fun i h st b hb => by
    obtain ⟨⟨old, he⟩, o, ho, c, d⟩ := st
    rcases List.mem_cons.mp hb with z | z
    · subst z
      exact ⟨_, he, fun v z => by
        have z' : Data.fields _ = Data.cell v := z
        cases z'⟩
    · have z' : b = it := by simpa using z
      subst z'
      exact ⟨o, ho, fun v z => by rw [d] at z; cases z⟩
  keep := fun i h h' st k => by
    obtain ⟨⟨old, he⟩, hi⟩ := st
    exact ⟨⟨old, k e (by simp) _ he⟩, hi.at fun o x => k it (by simp) o x⟩
  item := by
    intro X hP hw hK hc i pins s σ H E I hf st hg
    subst hP hw hK
    obtain ⟨xs, x, hq, hx⟩ := hg
    obtain ⟨its, rv, p, hz⟩ := I.list hq
    obtain ⟨u, hu, ru⟩ := rv.get hx
    obtain ⟨⟨old, he⟩, hi⟩ := st
    obtain ⟨e0, e1, e2, e3, e4, e5⟩ := hf e (by simp)
    obtain ⟨f0, f1, f2, f3, f4, f5⟩ := hf it (by simp)
    refine wpAny_pyNext_enum_item he hi p.isList (x := u) (by simpa using hu) hei fun h' ho hit ht hsz kk => ⟨_, rfl, ?_⟩
    refine wpAny_letOwnedTupleGo_enum (s := { s with heap := h', toks := s.toks + 1 }) ho fun h'' he'' hs'' => ?_
    have Tn : @LT.lt Nat _ e s.heap.objs.size := aLt he
    have kk2 : ∀ b o, b ≠ e → b ≠ it → s.heap.get? b = some o → h''.get? b = some o := fun b o h1 h2 q => (hs''.2 b h1).trans (kk b o h1 h2 q)
    have nne : ∀ b u, H b = some u → b ≠ e ∧ b ≠ it := fun b u q => ⟨fun z => by (rw [z, e0] at q; cases q), fun z => by (rw [z, f0] at q; cases q)⟩
    have fr : H s.heap.objs.size = none := I.hok.fresh (Nat.le_refl _)
    have hT : h''.get? s.heap.objs.size = some { cls := .type "tuple", data := .seq #[.int i s.toks, u] } := (hs''.2 _ (Nat.ne_of_gt Tn)).trans ht
    have nT : ∀ b o, s.heap.get? b = some o → b ≠ s.heap.objs.size := fun b o q => Nat.ne_of_lt (aLt q)
    have ok' : HOk X.prog X.w (upd H s.heap.objs.size (.tup [.int i, x])) h'' := fun b o q => by
      by_cases hb : b = s.heap.objs.size
      · subst hb
        rw [upd_same] at q
        cases q
        exact ⟨show 2 ≤ sizeLine by decide, [.int i s.toks, u], .cons ⟨_, rfl⟩ (.cons ru .nil), ⟨_, hT, rfl, _, rfl⟩⟩
      · rw [upd_ne hb] at q
        refine (I.hok b o q).stay (fun c v hc r => ?_) (fun c r => by rw [upd_ne (ne_of_none r fr)]; exact r) fun c xs r => by rw [upd_ne (ne_of_none r fr)]; exact r
        rcases hc with z | z
        · subst z
          exact kk2 c v (nne c o q).1 (nne c o q).2 r
        · exact kk2 c v (nne c _ z).1 (nne c _ z).2 r
    have I1 : Inv X pins σ (upd H s.heap.objs.size (.tup [.int i, x])) { s with heap := h'', gens := s.gens, drawn := s.drawn, toks := s.toks + 1 } := by
      refine I.step (ch := [e, it]) (fun b hb => ?_) (fun b o _ _ hc q _ => kk2 b o (fun z => hc (by simp [z])) (fun z => hc (by simp [z])) q) (fun b o _ _ hc q _ => ⟨o.slots, kk2 b o (fun z => hc (by simp [z])) (fun z => hc (by simp [z])) q⟩)
        (fun b o _ q n => by rw [upd_ne (nT b o q)]; exact n) (fun b o hc q => ⟨o, kk2 b o (fun z => hc (by simp [z])) (fun z => hc (by simp [z])) q⟩) (fun b xs q => by rw [upd_ne (ne_of_none q fr)]; exact q) (fun b o u q => by rw [upd_ne (ne_of_none q fr)]; exact q)
        (fun b ps q => ⟨#[], by rw [upd_ne (ne_of_none q fr), q]; simp⟩) (fun m hm => ?_) ok' I.bare
      · rcases List.mem_cons.mp hb with z | z
        · subst z; exact ⟨e3, e1, e4, e5⟩
        · have z' : b = it := by simpa using z
          subst z'; exact ⟨f3, f1, f4, f5⟩
      · obtain ⟨o, es, ep, ho, r⟩ := hm
        exact ⟨o, es, ep, kk2 _ o (Ne.symm e1) (Ne.symm f1) ho, r⟩
    refine ⟨.ref s.heap.objs.size, _, I1, rfl, ⟨s.heap.objs.size, x, rfl, fr, rfl, fun ys hy => by rw [I.list_inj hy hq]; exact hx⟩, ⟨⟨_, by simpa using he''⟩, hit.at fun o q => (hs''.2 it (Ne.symm hei)).trans q⟩, fun b hb => ?_⟩
    have hbo : ∃ o, s.heap.get? b = some o := by
      rcases List.mem_cons.mp hb with z | z
      · subst z; exact ⟨_, he⟩
      · have z' : b = it := by simpa using z
        subst z'
        obtain ⟨o, ho, _⟩ := hi
        exact ⟨o, ho⟩
    obtain ⟨o, hbo⟩ := hbo
    rw [upd_ne (nT b o hbo)]
    exact (hf b hb).1
  done := by
    intro X hP hw hK hc i pins s σ H E I hf st hg
    subst hP hw hK
    obtain ⟨xs, hq, hx⟩ := hg
    obtain ⟨its, rv, p, hz⟩ := I.list hq
    obtain ⟨⟨old, he⟩, hi⟩ := st
    obtain ⟨f0, f1, f2, f3, f4, f5⟩ := hf it (by simp)
    have hl := rv.length
    exact wpAny_pyNext_enum_end (I.ok.hd hc) he hi p.isList (by simp; omega) fun h' eb => ⟨rfl, I.turned (t' := s.toks) (fun b o hb e => eb b o hb e) f0 f1 f3 f4 f5⟩
  self := fun _ _ _ _ _ st h => by
    obtain ⟨⟨old, he⟩, _⟩ := st
    exact wpAny_pyIter_enum he h
section
variable {X : Cx}
def iEnum (K : PySem.W.Frag) (ta : TA) : TI := fun σ H R => ta σ H fun vs H1 => ∃ a, vs = [.ref a] ∧ (∃ xs, SqL K H1 a xs) ∧ R (Ite K a) H1
theorem pi_enum {a : Expr} {ta : TA} {p pos tpos : Pos} {es : List Expr} {k : Nat} (hg : Gl X "enumerate") (hm : X.mg "enumerate" = none) (ha : PA X [a] ta) (hs : starEach [a] X.env = [(false, eval a X.env)] := by rfl) :
    PI X (.Tuple es k tpos) (.Call (.Name "enumerate" p) [a] [] pos) (iEnum X.K ta) := by
  intro pins s σ H R I h
  refine Call_ (ld_blt I hg hm boot_enumerate (PyProof.Rows.callWith_type1 (thn (ha pos pins s σ H _ I h) fun us s1 ⟨vs, H1, I1, r1, q1⟩ => ?_) hs rfl))
  obtain ⟨l, e, ⟨xs, hq⟩, q⟩ := q1
  subst e
  cases r1 with
  | cons r rr =>
    cases rr
    cases r
    obtain ⟨its, rv, pl, hz⟩ := I1.list hq
    refine call_enumerate_list pl.isList fun h' he hi hsz kk => ?_
    have I2 : Inv X pins σ H1 { s1 with heap := h' } := I1.kept (t' := s1.toks) kk
    refine wpAny_pyIter_enum (s := { s1 with heap := h' }) he ?_
    refine ⟨_, [s1.heap.objs.size + 1, s1.heap.objs.size], _, _, H1, rfl, I2, turn_enum l _ _ (Nat.succ_ne_self _), ⟨⟨_, he⟩, hi⟩, fun b hb => ?_, q⟩
    have hb' : s1.heap.objs.size ≤ b := by
      rcases List.mem_cons.mp hb with z | z
      · subst z; exact Nat.le_succ _
      · have z' : b = s1.heap.objs.size := by simpa using z
        subst z'; exact Nat.le_refl _
    exact I1.fpOk hb' (I1.hok.fresh hb')
end

/-! ### isinstance, all, sorted, count -/
section
variable {X : Cx}
theorem call_isinst : CallR X (.builtin "isinstance") (fun xs H Q => ∃ x T t b, xs = [x, .ty T] ∧ TyOf X.K H x t ∧ PySem.W.kitOne X.K t (.type T) = some b ∧ Q (.bl b) H) := by
  intro pins s σ H xs us Q I r h
  obtain ⟨x, T, t, b, rfl, ty, e, q⟩ := h
  obtain ⟨u, v, rfl, ru, rv⟩ := r.two
  cases rv
  exact isinst_ok I ru ty e fun tk => ⟨.bl b, H, I.tok _, rfl, q⟩
theorem range_all (bs : List Bool) : (List.range bs.length).all (fun i => bs.getD i false) = bs.all id := by
  rw [Bool.eq_iff_iff, List.all_eq_true, List.all_eq_true]
  constructor
  · intro h b hb
    obtain ⟨i, hi, rfl⟩ := List.mem_iff_getElem.mp hb
    have := h i (List.mem_range.mpr hi)
    simpa [hi] using this
  · intro h i hi
    have hi' : i < bs.length := List.mem_range.mp hi
    have := h bs[i] (List.getElem_mem hi')
    simpa [hi'] using this
theorem call_all (hc : X.calm = true) : CallR X (.builtin "all") (fun xs H Q => ∃ (p : Addr) (bs : List Bool), xs = [.ref p] ∧ SqL X.K H p (bs.map V.bl) ∧ Q (.bl (bs.all id)) H) := by
  intro pins s σ H xs us Q I r h
  obtain ⟨p, bs, rfl, hq, q⟩ := h
  obtain ⟨u, rfl, ru⟩ := r.one
  cases ru
  obtain ⟨its, rv, pl, hz⟩ := I.list hq
  have hlen : bs.length = its.length := by simpa using rv.length
  have hh : X.A.in1.handled = none := I.ok.hd hc
  have hp : p < s.heap.objs.size := by
    obtain ⟨o, ho, _⟩ := pl.isList
    exact Heap.lt_size ho
  refine call_all_walk (wpAny_pyIter_list pl.isList ?_)
  refine ⟨s.heap.objs.size, _, _, _, _, _, fun i => bs.getD i false, rfl, Walks.list hh s.heap.objs.size p (Nat.ne_of_lt hp) its.toArray, ⟨⟨_, Heap.get?_push_size _ rfl, rfl, rfl⟩, ?_⟩, fun i v s2 Q2 E2 hv hq2 => ?_, fun h' tk kk => ?_⟩
  · obtain ⟨o, ho, r⟩ := pl.isList
    exact ⟨o, Heap.get?_push_of_some _ ho, r⟩
  · have hv' : its[i]? = some v := by simpa using hv
    have hi : i < bs.length := by rw [hlen]; exact (List.getElem?_eq_some_iff.mp hv').1
    obtain ⟨w, hw, rw'⟩ := rv.get (i := i) (x := .bl bs[i]) (by simp [hi])
    rw [hv'] at hw
    cases hw
    cases rw'
    refine wpAny_truthy_bool ?_
    have e : bs.getD i false = bs[i] := by simp [hi]
    rw [← e]
    exact hq2
  · have hk : ∀ b o, s.heap.get? b = some o → h'.get? b = some o := fun b o e => kk b o (fun z => by
      have z' : b = s.heap.objs.size := by simpa using z
      exact Nat.lt_irrefl _ (z' ▸ Heap.lt_size e)) (Heap.get?_push_of_some _ e)
    refine ⟨.bl (bs.all id), H, I.kept (t' := tk) hk, ?_, q⟩
    have e : its.toArray.size = bs.length := by rw [List.size_toArray, hlen]
    rw [e, range_all]
    rfl
theorem ints_of_vals : ∀ {ns : List Int} {vs : List Value}, Vals (ns.map V.int) vs → IntsAre vs ns
  | [], _, r => by cases r; exact .nil
  | n :: ns, _, r => by
    cases r with
    | cons r rr =>
      obtain ⟨t, rfl⟩ := r
      exact .cons n t (ints_of_vals rr)
theorem call_sorted : CallR X (.builtin "sorted") (fun xs H Q => ∃ (p : Addr) (ns : List Int), xs = [.ref p] ∧ SqL X.K H p (ns.map V.int) ∧ ns.length < 64 ∧ ∀ (l : Addr) (ns' : List Int), H l = none → ns'.Perm ns → ns'.Pairwise (· ≤ ·) → Q (.ref l) (upd H l (.lst (ns'.map V.int)))) := by
  intro pins s σ H xs us Q I r h
  obtain ⟨p, ns, rfl, hq, h64, q⟩ := h
  obtain ⟨u, rfl, ru⟩ := r.one
  cases ru
  obtain ⟨its, rv, pl, hz⟩ := I.list hq
  have hlen : ns.length = its.length := by simpa using rv.length
  refine sorted_ints pl.isList (ints_of_vals rv) (by omega) fun out ns' a1 a2 a3 => ?_
  obtain ⟨e, he⟩ := sortedAll_at s.heap its out
  have fr : H (s.heap.objs.size + 1) = none := I.hok.fresh (Nat.le_succ _)
  have hl' : ns'.length = ns.length := a2.length_eq
  refine ⟨.ref (s.heap.objs.size + 1), _, I.laid (a := s.heap.objs.size + 1) (o := .lst (ns'.map V.int)) (t' := s.toks) (fun b o q => sortedAll_old q) (Nat.le_succ _) ⟨?_, out.toList, e, vals_ints a1, ?_⟩, rfl, q _ _ fr a2 a3⟩
  · rw [List.length_map]
    have : (ns.map V.int).length ≤ sizeLine := hz
    rw [List.length_map] at this
    omega
  · simpa [seqObj] using he
end

/-! ### == and != of what is built of lists, tuples and plain values -/
inductive Eqv (K : PySem.W.Frag) (H : Hp) : Nat → V → V → Prop
  | flat {n : Nat} {x : V} : flatV x = true → Eqv K H n x x
  | same {n : Nat} {a : Addr} : Eqv K H n (.ref a) (.ref a)
  | lst {n : Nat} {a b : Addr} {xs ys : List V} : SqL K H a xs → SqL K H b ys → xs.length = ys.length → (∀ (i : Nat) (x y : V), xs[i]? = some x → ys[i]? = some y → Eqv K H n x y) → Eqv K H (n + 1) (.ref a) (.ref b)
  | tup {n : Nat} {a b : Addr} {xs ys : List V} : SqT K H a xs → SqT K H b ys → xs.length = ys.length → (∀ (i : Nat) (x y : V), xs[i]? = some x → ys[i]? = some y → Eqv K H n x y) → Eqv K H (n + 1) (.ref a) (.ref b)
theorem all_true (n : Nat) : ((List.range n).all fun _ => true) = true := by rw [List.all_eq_true]; intro _ _; rfl
theorem eqV_self {x : V} (h : flatV x = true) : eqV x x = true := by
  cases x <;> simp_all [eqV, flatV]
theorem Eqv.at {X : Cx} {pins : List (Addr × Obj)} {σ : St} {H : Hp} {s : Shared} (I : Inv X pins σ H s) : ∀ {n : Nat} {x y : V} {u v : Value} {A : Around}, Eqv X.K H n x y → RelV x u → RelV y v → A.units + n < cLine → SeqAt.EqAt A s u v true := by
  intro n x y u v A h
  induction h generalizing u v A with
  | flat f =>
    intro ru rv _
    have := eqAt_V (A := A) (s := s) ru rv f f
    rw [eqV_self f] at this
    exact this
  | same =>
    intro ru rv _
    cases ru
    cases rv
    exact SeqAt.EqAt.same _
  | @lst n a b xs ys ha hb hl _ ih =>
    intro ru rv hu
    cases ru
    cases rv
    by_cases e : a = b
    · subst e; exact SeqAt.EqAt.same _
    · obtain ⟨its, r1, p1, _⟩ := I.list ha
      obtain ⟨its2, r2, p2, _⟩ := I.list hb
      have l1 := r1.length
      have l2 := r2.length
      refine SeqAt.EqAt.of_refs e ?_
      have q := SeqAt.RcAt.lists (A := A) (e := fun _ => true) p1.isList p2.isList (by simp only [List.size_toArray]; omega) (by omega) fun j h1 h2 => by
        simp only [List.size_toArray] at h1 h2
        obtain ⟨u1, e1, s1⟩ := r1.get (i := j) (x := xs[j]'(by omega)) (by simp)
        obtain ⟨u2, e2, s2⟩ := r2.get (i := j) (x := ys[j]'(by omega)) (by simp)
        have z1 : its.toArray[j] = u1 := by
          have : its[j]? = some its[j] := by simp [h1]
          rw [this] at e1
          simpa using Option.some.inj e1
        have z2 : its2.toArray[j] = u2 := by
          have : its2[j]? = some its2[j] := by simp [h2]
          rw [this] at e2
          simpa using Option.some.inj e2
        rw [z1, z2]
        exact ih j _ _ (by simp) (by simp) s1 s2 (by show A.units + 1 + n < cLine; omega)
      rw [all_true] at q
      exact q
  | @tup n a b xs ys ha hb hl _ ih =>
    intro ru rv hu
    cases ru
    cases rv
    by_cases e : a = b
    · subst e; exact SeqAt.EqAt.same _
    · obtain ⟨its, r1, p1, _⟩ := I.tuple ha
      obtain ⟨its2, r2, p2, _⟩ := I.tuple hb
      have l1 := r1.length
      have l2 := r2.length
      refine SeqAt.EqAt.of_refs e ?_
      have q := SeqAt.RcAt.tuples (A := A) (s := s) (l := a) (b := b) (items := its.toArray) (items2 := its2.toArray) (e := fun _ => true) p1 p2 (by omega) fun j h1 h2 => by
        simp only [List.size_toArray] at h1 h2
        obtain ⟨u1, e1, s1⟩ := r1.get (i := j) (x := xs[j]'(by omega)) (by simp)
        obtain ⟨u2, e2, s2⟩ := r2.get (i := j) (x := ys[j]'(by omega)) (by simp)
        have z1 : its.toArray[j] = u1 := by
          have : its[j]? = some its[j] := by simp [h1]
          rw [this] at e1
          simpa using Option.some.inj e1
        have z2 : its2.toArray[j] = u2 := by
          have : its2[j]? = some its2[j] := by simp [h2]
          rw [this] at e2
          simpa using Option.some.inj e2
        rw [z1, z2]
        exact ih j _ _ (by simp) (by simp) s1 s2 (by show A.units + 1 + n < cLine; omega)
      have e3 : (its.toArray.size == its2.toArray.size) = true := by
        rw [beq_iff_eq]; simp only [List.size_toArray]; omega
      rw [e3, all_true] at q
      exact q
section
variable {X : Cx}
/-- two lists whose items are alike: == tells True, != tells False -/
def rEqv (K : PySem.W.Frag) (b : Bool) : R2 := fun x y H Q => ∃ (p q : Addr) (xs ys : List V), x = .ref p ∧ y = .ref q ∧ SqL K H p xs ∧ SqL K H q ys ∧ xs.length = ys.length ∧ (∀ (i : Nat) (x y : V), xs[i]? = some x → ys[i]? = some y → Eqv K H 60 x y) ∧ Q (.bl b) H
theorem eqv_items {pins : List (Addr × Obj)} {σ : St} {H : Hp} {s : Shared} {xs ys : List V} {its its2 : List Value} {A : Around} (I : Inv X pins σ H s) (r1 : Vals xs its) (r2 : Vals ys its2) (hl : xs.length = ys.length) (h : ∀ (i : Nat) (x y : V), xs[i]? = some x → ys[i]? = some y → Eqv X.K H 60 x y) (hu : A.units + 62 < cLine) :
    ∀ j (h1 : j < its.toArray.size) (h2 : j < its2.toArray.size), SeqAt.EqAt A.in1 s its.toArray[j] its2.toArray[j] ((fun _ => true) j) := fun j h1 h2 => by
  have l1 := r1.length
  have l2 := r2.length
  simp only [List.size_toArray] at h1 h2
  obtain ⟨u1, e1, s1⟩ := r1.get (i := j) (x := xs[j]'(by omega)) (by simp)
  obtain ⟨u2, e2, s2⟩ := r2.get (i := j) (x := ys[j]'(by omega)) (by simp)
  have z1 : its.toArray[j] = u1 := by
    have : its[j]? = some its[j] := by simp [h1]
    rw [this] at e1
    simpa using Option.some.inj e1
  have z2 : its2.toArray[j] = u2 := by
    have : its2[j]? = some its2[j] := by simp [h2]
    rw [this] at e2
    simpa using Option.some.inj e2
  rw [z1, z2]
  exact Eqv.at I (h j _ _ (by simp) (by simp)) s1 s2 (by show A.units + 1 + 60 < cLine; omega)
theorem op_nev (hu : X.A.units + 64 < cLine) : OpR X (compareOp .NotEq) (rEqv X.K false) := by
  intro pins s σ H x y v u Q I rx ry h
  obtain ⟨p, q, xs, ys, rfl, rfl, hp, hq, hl, he, hQ⟩ := h
  cases rx
  cases ry
  obtain ⟨its, r1, p1, _⟩ := I.list hp
  obtain ⟨its2, r2, p2, _⟩ := I.list hq
  have l1 := r1.length
  have l2 := r2.length
  refine SeqAt.RcNeAt.lists (e := fun _ => true) p1.isList p2.isList (by simp only [List.size_toArray]; omega) (by omega) (eqv_items I r1 r2 hl he (by omega)) X.prog X.w _ _ ⟨.bl false, H, I, ?_, hQ⟩
  show Value.bool _ = Value.bool false
  simp

/-! ### a dict of the module's: texts to ints -/
theorem ix_listK {K : PySem.W.Frag} (h : X.K = K) : IxR X (rIxL K) := h ▸ ix_list
theorem ix_tupK {K : PySem.W.Frag} (h : X.K = K) : IxR X (rIxT K) := h ▸ ix_tup
theorem op_nevK {K : PySem.W.Frag} (h : X.K = K) (hu : X.A.units + 64 < cLine) : OpR X (compareOp .NotEq) (rEqv K false) := h ▸ op_nev hu
theorem call_lenK {K : PySem.W.Frag} (h : X.K = K) : CallR X (.builtin "len") (fun xs H Q => ∃ p ys, xs = [.ref p] ∧ (SqL K H p ys ∨ SqT K H p ys) ∧ Q (.int ys.length) H) := h ▸ call_len_seq
theorem call_isinstK {K : PySem.W.Frag} (h : X.K = K) : CallR X (.builtin "isinstance") (fun xs H Q => ∃ x T t b, xs = [x, .ty T] ∧ TyOf K H x t ∧ PySem.W.kitOne K t (.type T) = some b ∧ Q (.bl b) H) := h ▸ call_isinst
theorem call_allK {K : PySem.W.Frag} (h : X.K = K) (hc : X.calm = true) : CallR X (.builtin "all") (fun xs H Q => ∃ (p : Addr) (bs : List Bool), xs = [.ref p] ∧ SqL K H p (bs.map V.bl) ∧ Q (.bl (bs.all id)) H) := h ▸ call_all hc
theorem call_sortedK {K : PySem.W.Frag} (h : X.K = K) : CallR X (.builtin "sorted") (fun xs H Q => ∃ (p : Addr) (ns : List Int), xs = [.ref p] ∧ SqL K H p (ns.map V.int) ∧ ns.length < 64 ∧ ∀ (l : Addr) (ns' : List Int), H l = none → ns'.Perm ns → ns'.Pairwise (· ≤ ·) → Q (.ref l) (upd H l (.lst (ns'.map V.int)))) := h ▸ call_sorted
theorem call_listK {K : PySem.W.Frag} (h : X.K = K) : CallR X (.type "list") (fun xs H Q => ∃ p ys, xs = [.ref p] ∧ (SqL K H p ys ∨ SqT K H p ys) ∧ ∀ l, H l = none → Q (.ref l) (upd H l (.lst ys))) := h ▸ call_list_of
theorem pg_tupK {K : PySem.W.Frag} {es : List Expr} {k : Nat} {t : TGs} {n : Nat} {pos : Pos} (hk : X.K = K) (hc : X.calm = true) (h : PGs X es t) (hn : (assignEach es X.env).length = n := by rfl) (hst : (assignEach es X.env).findIdx? (·.1) = none := by rfl) : PG X (.Tuple es k pos) (gTup K n t) := hk ▸ pg_tup hc h hn hst
theorem pe_bmK {K : PySem.W.Frag} {T : String} {name : Str} {r : V → List V → Hp → VK → Prop} {o e : Expr} {es : List Expr} {to : TE} {t : TA} {apos pos : Pos} (hk : X.K = K) (h : PE X (.Call (.Attribute o name apos) (e :: es) [] pos) (tBM X.K T r to t)) : PE X (.Call (.Attribute o name apos) (e :: es) [] pos) (tBM K T r to t) := hk ▸ h
theorem pe_bm0K {K : PySem.W.Frag} {T : String} {name : Str} {r : V → List V → Hp → VK → Prop} {o : Expr} {to : TE} {apos pos : Pos} (hk : X.K = K) (h : PE X (.Call (.Attribute o name apos) [] [] pos) (tBM0 X.K T r to)) : PE X (.Call (.Attribute o name apos) [] [] pos) (tBM0 K T r to) := hk ▸ h
theorem pi_listK {K : PySem.W.Frag} {l tg : Expr} {tl : TE} (hk : X.K = K) (hl : PE X l tl) : PI X tg l (iList K tl) := hk ▸ pi_list hl
theorem pi_enumK {K : PySem.W.Frag} {a : Expr} {ta : TA} {p pos tpos : Pos} {es : List Expr} {k : Nat} (hk : X.K = K) (hg : Gl X "enumerate") (hm : X.mg "enumerate" = none) (ha : PA X [a] ta) (hs : starEach [a] X.env = [(false, eval a X.env)] := by rfl) :
    PI X (.Tuple es k tpos) (.Call (.Name "enumerate" p) [a] [] pos) (iEnum K ta) := hk ▸ pi_enum hg hm ha hs
end
end L2

/-! Forms for comprehensions, callees by name, drawings as data. -/
namespace L2
open PySem PySem.Spec PyProof.Rows

/-! ### comprehensions by an invariant -/
section
variable {g : TG} {tc : TT} {te : TE} {σ : St} {H : Hp} {Q : VK} {K : PySem.W.Frag} {a : Addr} {xs : List V}
theorem lc_gen {J : It} {n : Nat} (hn : n ≤ sizeLine) (Pv : Nat → List V → Hp → Prop) (h0 : Pv 0 [] H) (hlen : ∀ i ys H, Pv i ys H → ys.length ≤ i) (go : ∀ i ys H, i < n → Pv i ys H → J.go i H) (stop : ∀ ys H, Pv n ys H → J.stop n H)
    (hs : ∀ i ys H, i < n → Pv i ys H → ∀ x H', J.yld i H x H' → g x σ H' fun σ2 H2 => tc σ2 H2 fun b H3 => if b = true then te σ2 H3 fun y H4 => Pv (i + 1) (ys ++ [y]) H4 else Pv (i + 1) ys H3)
    (hd : ∀ ys H, Pv n ys H → ∀ D, H D = none → Q (.ref D) (upd H D (.lst ys))) : LcW J σ g tc te H Q := by
  unfold LcW
  refine ⟨fun i m ys H => m = n - i ∧ i ≤ n ∧ Pv i ys H, ⟨n, by simp, Nat.zero_le _, h0⟩, ?_⟩
  rintro i m ys H ⟨rfl, hi, p⟩
  have hy := hlen i ys H p
  by_cases hlt : i < n
  · exact .inr ⟨go i ys H hlt p, by omega, Pv (i + 1), fun ys' H' h2 => ⟨n - (i + 1), by omega, rfl, hlt, h2⟩, fun x H' y => hs i ys H hlt p x H' y⟩
  · have e : i = n := by omega
    subst e
    exact .inl ⟨stop ys H p, by omega, hd ys H p⟩
theorem lc_list (hn : xs.length ≤ sizeLine) (Pv : Nat → List V → Hp → Prop) (h0 : Pv 0 [] H) (hlen : ∀ i ys H, Pv i ys H → ys.length ≤ i) (hS : ∀ i ys H, Pv i ys H → SqL K H a xs)
    (hs : ∀ i x ys H, xs[i]? = some x → Pv i ys H → g x σ H fun σ2 H2 => tc σ2 H2 fun b H3 => if b = true then te σ2 H3 fun y H4 => Pv (i + 1) (ys ++ [y]) H4 else Pv (i + 1) ys H3)
    (hd : ∀ ys H, Pv xs.length ys H → ∀ D, H D = none → Q (.ref D) (upd H D (.lst ys))) : LcW (Itl K a) σ g tc te H Q :=
  lc_gen hn Pv h0 hlen (fun i ys H hi p => ⟨xs, xs[i], hS i ys H p, by simp [hi]⟩) (fun ys H p => ⟨xs, hS _ ys H p, Nat.le_refl _⟩) (fun i ys H hi p x H' y => by
    obtain ⟨e, y⟩ := y
    subst e
    exact hs i x ys _ (y xs (hS i ys _ p)) p) hd
theorem lc_rng {lo : Int} {n : Nat} (hn : n ≤ sizeLine) (Pv : Nat → List V → Hp → Prop) (h0 : Pv 0 [] H) (hlen : ∀ i ys H, Pv i ys H → ys.length ≤ i)
    (hs : ∀ i ys H, i < n → Pv i ys H → g (.int (lo + i)) σ H fun σ2 H2 => tc σ2 H2 fun b H3 => if b = true then te σ2 H3 fun y H4 => Pv (i + 1) (ys ++ [y]) H4 else Pv (i + 1) ys H3)
    (hd : ∀ ys H, Pv n ys H → ∀ D, H D = none → Q (.ref D) (upd H D (.lst ys))) : LcW (Itr lo n) σ g tc te H Q :=
  lc_gen hn Pv h0 hlen (fun i ys H hi p => hi) (fun ys H p => Nat.le_refl _) (fun i ys H hi p x H' y => by
    obtain ⟨e, y⟩ := y
    subst e y
    exact hs i ys _ hi p) hd
theorem lc_enm (hn : xs.length ≤ sizeLine) (Pv : Nat → List V → Hp → Prop) (h0 : Pv 0 [] H) (hlen : ∀ i ys H, Pv i ys H → ys.length ≤ i) (hS : ∀ i ys H, Pv i ys H → SqL K H a xs)
    (hs : ∀ i x p ys H, xs[i]? = some x → Pv i ys H → H p = none → g (.ref p) σ (upd H p (.tup [.int i, x])) fun σ2 H2 => tc σ2 H2 fun b H3 => if b = true then te σ2 H3 fun y H4 => Pv (i + 1) (ys ++ [y]) H4 else Pv (i + 1) ys H3)
    (hd : ∀ ys H, Pv xs.length ys H → ∀ D, H D = none → Q (.ref D) (upd H D (.lst ys))) : LcW (Ite K a) σ g tc te H Q :=
  lc_gen hn Pv h0 hlen (fun i ys H hi p => ⟨xs, xs[i], hS i ys H p, by simp [hi]⟩) (fun ys H p => ⟨xs, hS _ ys H p, Nat.le_refl _⟩) (fun i ys H hi p x H' y => by
    obtain ⟨q, z, e1, e2, e3, y⟩ := y
    subst e1 e3
    exact hs i z q ys _ (y xs (hS i ys _ p)) p e2) hd
end
/-! ### the block's scope, by one look -/
def lcLook (N : List Str) (osc scope : Scope) (Fs : List Str) (fi : List Nat) : Bool :=
  (scope.kind == .function) && scope.names.all (fun y => y.2 != .cell) && scope.names.all (fun y => y.2 != .local || scope.names.lookup y.1 == some .local) && Fs.all (fun x => scope.names.lookup x == some .free) &&
    scope.names.all (fun y => y.2 != .free || osc.names.lookup y.1 == some .cell || osc.names.lookup y.1 == some .free) && (fi.map (fun i => N[i]?) == Fs.map some)
theorem LcScope.of {N : List Str} {osc scope : Scope} {Ls Fs : List Str} {fi : List Nat} (h : lcLook N osc scope Fs fi = true) : LcScope N osc scope Ls Fs fi := by
  simp only [lcLook, Bool.and_eq_true, List.all_eq_true, Bool.or_eq_true, bne_iff_ne, beq_iff_eq] at h
  obtain ⟨⟨⟨⟨⟨h1, h2⟩, h3⟩, h4⟩, h5⟩, h6⟩ := h
  refine ⟨h1, h2, fun y hy hl => (h3 y hy).elim (fun z => absurd hl z) id, h4, fun y hy hf => ?_, h6⟩
  rcases h5 y hy with (z | z) | z
  · exact absurd hf z
  · exact .inl z
  · exact .inr z

/-! ### callees by name -/
def Has (P : Program) (w : World) (K : PySem.W.Frag) (mg : Str → Option Value) (base : Heap) (k : Nat) (x : Str) (ps : List Str) (sp : Sp) : Prop :=
  ∃ (f : Addr) (fd : FuncData), FnOk P w K mg base CX0 k f fd ps sp ∧ mg x = some (.ref f) ∧ PySem.W.keepIn K (.ref f) = true ∧ Binds K fd ps []
theorem pe_has {X : Cx} {k : Nat} {x : Str} {ps : List Str} {sp : Sp} {p pos : Pos} {e : Expr} {es : List Expr} {t : TA} (h : Has X.prog X.w X.K X.mg X.base k x ps sp) (hr : Room k X.A) (ha : PA X (e :: es) t) (hg : Gl X x := by rfl) (hdb : (x == ("__debug__" : Str)) = false := by decide)
    (he : starEach (e :: es) X.env = (false, eval e X.env) :: starEach es X.env := by rfl) (hpl : (backTo pos (starEach es X.env)).any (·.1) = false := by rfl) : PE X (.Call (.Name x p) (e :: es) [] pos) (tCall sp [] E0 t) := by
  obtain ⟨f, fd, G, hm, hk, hb⟩ := h
  exact pe_call G hr hg hm hk hb .nil pass0 ha hdb he hpl
/-- one frame: all that was tracked but b is as it was -/
def Frm (b : Addr) (H H' : Hp) : Prop := ∀ c o, H c = some o → c ≠ b → H' c = some o
theorem Frm.refl (b : Addr) (H : Hp) : Frm b H H := fun _ _ h _ => h
theorem Frm.trans {b : Addr} {H H1 H2 : Hp} (x : Frm b H H1) (y : Frm b H1 H2) : Frm b H H2 := fun c o h n => y c o (x c o h n) n
theorem Same.frm {b : Addr} {H H' : Hp} (x : Same H H') : Frm b H H' := fun c o h _ => x c o h
theorem Same.laid {H : Hp} {p : Addr} {o : HO} (h : H p = none) : Same H (upd H p o) := fun c u e => by rw [upd_ne (ne_of_none e h)]; exact e
theorem Same.step {H H' : Hp} {p : Addr} {o : HO} (s : Same H H') (h : H' p = none) : Same H (upd H' p o) := s.trans (.laid h)
theorem Frm.upd {b : Addr} {H : Hp} {o : HO} : Frm b H (upd H b o) := fun c u e n => by rw [upd_ne n]; exact e
theorem Frm.new {b p : Addr} {H H' : Hp} {o : HO} (s : Frm b H H') (h : H' p = none) : Frm b H (L2.upd H' p o) := s.trans (Same.laid h).frm
/-- a new object that is changed: of what was there all stays -/
theorem Same.put {H H' : Hp} {p : Addr} {o : HO} (s : Same H H') (h : H p = none) : Same H (upd H' p o) := fun c u e => by rw [upd_ne (ne_of_none e h)]; exact s c u e
def Bag (H : Hp) (b : Addr) : Prop := ∃ g r : Int, 0 ≤ g ∧ H b = some (.lst [.int g, .int r])
theorem Frm.free {b : Addr} {H H' : Hp} (f : Frm b H H') (hb : Bag H' b) {p : Addr} (h : H' p = none) : H p = none := by
  cases q : H p with
  | none => rfl
  | some o =>
    by_cases e : p = b
    · subst e
      obtain ⟨g, r, _, z⟩ := hb
      rw [h] at z; cases z
    · rw [f p o q e] at h; cases h

/-! ### letters as data -/
def LetsV (H : Hp) (xs : List V) (ls : List (Str × Int)) : Prop := Paired (fun x (p : Str × Int) => ∃ t, x = V.ref t ∧ H t = some (.tup [.str p.1, .int p.2])) xs ls
theorem LetsV.mono {H H' : Hp} (h : ∀ t p, H t = some (.tup p) → H' t = some (.tup p)) : ∀ {xs : List V} {ls : List (Str × Int)}, LetsV H xs ls → LetsV H' xs ls
  | _, _, .nil => .nil
  | _, _, .cons ⟨t, e, q⟩ r => .cons ⟨t, e, h t _ q⟩ (LetsV.mono h r)
theorem LetsV.same {H H' : Hp} (s : Same H H') {xs : List V} {ls : List (Str × Int)} (h : LetsV H xs ls) : LetsV H' xs ls := h.mono fun t p e => s t _ e
theorem LetsV.frm {b : Addr} {H H' : Hp} (s : Frm b H H') (hb : Bag H b) {xs : List V} {ls : List (Str × Int)} (h : LetsV H xs ls) : LetsV H' xs ls := h.mono fun t p e => s t _ e (fun z => by
  obtain ⟨g, r, _, q⟩ := hb
  rw [z, q] at e; cases e)
theorem LetsV.len {H : Hp} {xs : List V} {ls : List (Str × Int)} (h : LetsV H xs ls) : xs.length = ls.length := Paired.length h
theorem LetsV.get {H : Hp} : ∀ {xs : List V} {ls : List (Str × Int)} {i : Nat} {x : V}, LetsV H xs ls → xs[i]? = some x → ∃ p t, ls[i]? = some p ∧ x = .ref t ∧ H t = some (.tup [.str p.1, .int p.2])
  | _, _, _, _, .nil, e => by simp at e
  | _, _, 0, _, .cons ⟨t, e1, q⟩ _, e => by simp at e; subst e; exact ⟨_, t, rfl, e1, q⟩
  | _, _, i + 1, x, .cons _ r, e => by
    obtain ⟨p, t, h1, h2⟩ := LetsV.get (i := i) (x := x) r (by simpa using e)
    exact ⟨p, t, by simpa using h1, h2⟩
theorem LetsV.snoc {H : Hp} {xs : List V} {ls : List (Str × Int)} {t : Addr} {x : Str} {k : Int} (h : LetsV H xs ls) (e : H t = some (.tup [.str x, .int k])) : LetsV H (xs ++ [.ref t]) (ls ++ [(x, k)]) := Paired.snoc h ⟨t, rfl, e⟩
theorem LetsV.append {H : Hp} : ∀ {xs ys : List V} {ls ms : List (Str × Int)}, LetsV H xs ls → LetsV H ys ms → LetsV H (xs ++ ys) (ls ++ ms)
  | _, _, _, _, .nil, s => s
  | _, _, _, _, .cons r t, s => .cons r (LetsV.append t s)
/-- the letters lead from no strand to n strands -/
inductive Wk : List (Str × Int) → Int → Prop
  | nil : Wk [] 0
  | born {ls : List (Str × Int)} {n k : Int} : Wk ls n → 0 ≤ k → k ≤ n → Wk (ls ++ [((("born" : Str), k) : Str × Int)]) (n + 2)
  | cross {ls : List (Str × Int)} {n k : Int} : Wk ls n → 0 ≤ k → k + 1 < n → Wk (ls ++ [((("cross" : Str), k) : Str × Int)]) n
  | fin {ls : List (Str × Int)} {n k : Int} : Wk ls n → 0 ≤ k → k + 1 < n → Wk (ls ++ [((("end" : Str), k) : Str × Int)]) (n - 2)
def Kd (x : Str) : Prop := x = "born" ∨ x = "cross" ∨ x = "end"
theorem Wk.kd {ls : List (Str × Int)} {n : Int} (h : Wk ls n) : ∀ p ∈ ls, Kd p.1 := by
  induction h with
  | nil => intro p hp; cases hp
  | born _ _ _ ih => intro p hp; rcases List.mem_append.mp hp with z | z; exact ih p z; rw [List.mem_singleton.mp z]; exact .inl rfl
  | cross _ _ _ ih => intro p hp; rcases List.mem_append.mp hp with z | z; exact ih p z; rw [List.mem_singleton.mp z]; exact .inr (.inl rfl)
  | fin _ _ _ ih => intro p hp; rcases List.mem_append.mp hp with z | z; exact ih p z; rw [List.mem_singleton.mp z]; exact .inr (.inr rfl)
/-- a drawing's list at l -/
def Drw (H : Hp) (l : Addr) (ls : List (Str × Int)) : Prop := ∃ xs, H l = some (.lst xs) ∧ LetsV H xs ls ∧ Wk ls 0 ∧ ls.length ≤ 60
end L2

/-! Tests by their truth; a letter put to a list. -/
namespace L2
open PySem PySem.Spec PyProof.Rows
/-- a test that tells β and changes nothing -/
def Ev (t : TT) (σ : St) (H : Hp) (β : Bool) : Prop := ∀ Q : Bool → Hp → Prop, Q β H → t σ H Q
theorem ev_and {t u : TT} {σ : St} {H : Hp} {β γ : Bool} (h1 : Ev t σ H β) (h2 : β = true → Ev u σ H γ) : Ev (tAnd t u) σ H (β && γ) := fun Q q => h1 _ (by
  cases β with
  | true => rw [if_pos rfl]; exact h2 rfl _ q
  | false => rw [if_neg Bool.false_ne_true]; exact q)
theorem ev_or {t u : TT} {σ : St} {H : Hp} {β γ : Bool} (h1 : Ev t σ H β) (h2 : β = false → Ev u σ H γ) : Ev (tOr t u) σ H (β || γ) := fun Q q => h1 _ (by
  cases β with
  | true => rw [if_pos rfl]; exact q
  | false => rw [if_neg Bool.false_ne_true]; exact h2 rfl _ q)
theorem ev_if {t : TT} {σ : St} {H : Hp} {β : Bool} {T U : Hp → Prop} (h : Ev t σ H β) (h1 : β = true → T H) (h2 : β = false → U H) : t σ H fun b H1 => if b = true then T H1 else U H1 := h _ (by
  cases β with
  | true => rw [if_pos rfl]; exact h1 rfl
  | false => rw [if_neg Bool.false_ne_true]; exact h2 rfl)
theorem ev_ifS {tc : TT} {t u : TS} {D : Ends} {σ : St} {H : Hp} {β : Bool} (h : Ev tc σ H β) (h1 : β = true → t D σ H) (h2 : β = false → u D σ H) : tIfS tc t u D σ H := ev_if h h1 h2
theorem app_step {H H1 H2 : Hp} {b l t : Addr} {xs : List V} {ls : List (Str × Int)} (x : Str) (k : Int) (f0 : Frm b H H1) (hb1 : Bag H1 b) (hl : H1 l = some (.lst xs)) (hL : LetsV H1 xs ls) (hlb : l ≠ b) (hlf : H l = none) (f2 : Frm b H1 H2) (bag2 : Bag H2 b) (ht : H2 t = none) :
    (upd H2 t (.tup [.str x, .int k])) l = some (.lst xs) ∧ Bag (upd (upd H2 t (.tup [.str x, .int k])) l (.lst (xs ++ [.ref t]))) b ∧ Frm b H (upd (upd H2 t (.tup [.str x, .int k])) l (.lst (xs ++ [.ref t]))) ∧
      (upd (upd H2 t (.tup [.str x, .int k])) l (.lst (xs ++ [.ref t]))) l = some (.lst (xs ++ [.ref t])) ∧ LetsV (upd (upd H2 t (.tup [.str x, .int k])) l (.lst (xs ++ [.ref t]))) (xs ++ [.ref t]) (ls ++ [(x, k)]) := by
  have hl2 : H2 l = some (.lst xs) := f2 l _ hl hlb
  have hlt : l ≠ t := ne_of_none hl2 ht
  have hbt : b ≠ t := by
    obtain ⟨g, r, _, e⟩ := bag2
    exact ne_of_none e ht
  refine ⟨by rw [upd_ne hlt]; exact hl2, ?_, fun c o e n => ?_, upd_same, ?_⟩
  · obtain ⟨g, r, h0, e⟩ := bag2
    exact ⟨g, r, h0, by rw [upd_ne (Ne.symm hlb), upd_ne hbt]; exact e⟩
  · have e2 := f2 c o (f0 c o e n) n
    rw [upd_ne (ne_of_none e hlf), upd_ne (ne_of_none e2 ht)]
    exact e2
  · refine LetsV.snoc ?_ (by rw [upd_ne (Ne.symm hlt)]; exact upd_same)
    refine (hL.frm f2 hb1).mono fun t' p e => ?_
    rw [upd_ne (ne_of e hl2 (by intro z; cases z)), upd_ne (ne_of_none e ht)]
    exact e
end L2

/-! Numbers of letters by their kind; strands counted. -/
namespace L2
open PySem PySem.Spec PyProof.Rows
theorem lcG {i : Nat} {v : V} {σ : St} {H : Hp} {A B : St → Hp → Prop} (h : A (σ.set i (some v)) H) : gName i v σ H fun σ2 H2 => tTrue σ2 H2 fun b H3 => if b = true then A σ2 H3 else B σ2 H3 := by
  show if true = true then A (σ.set i (some v)) H else B (σ.set i (some v)) H
  exact iteT h
def isK (ls : List (Str × Int)) (pr : Str → Bool) (i : Nat) : Bool := ((ls[i]?).map fun q => pr q.1) == some true
def locI (ls : List (Str × Int)) (pr : Str → Bool) (n : Nat) : List Int := (List.range n).filterMap fun i => if isK ls pr i = true then some (i : Int) else none
theorem locI_succ (ls : List (Str × Int)) (pr : Str → Bool) (n : Nat) : locI ls pr (n + 1) = locI ls pr n ++ (if isK ls pr n = true then [(n : Int)] else []) := by
  unfold locI
  rw [List.range_succ, List.filterMap_append]
  by_cases h : isK ls pr n = true <;> simp [h]
theorem locI_yes {ls : List (Str × Int)} {pr : Str → Bool} {n : Nat} {q : Str × Int} (h : ls[n]? = some q) (hp : pr q.1 = true) : (locI ls pr n).map V.int ++ [V.int n] = (locI ls pr (n + 1)).map V.int := by
  have : isK ls pr n = true := by unfold isK; rw [h]; simp [hp]
  rw [locI_succ, this]
  simp
theorem locI_no {ls : List (Str × Int)} {pr : Str → Bool} {n : Nat} {q : Str × Int} (h : ls[n]? = some q) (hp : pr q.1 = false) : (locI ls pr n).map V.int = (locI ls pr (n + 1)).map V.int := by
  have : isK ls pr n = false := by unfold isK; rw [h]; simp [hp]
  rw [locI_succ, this]
  simp
theorem locI_len (ls : List (Str × Int)) (pr : Str → Bool) (n : Nat) : (locI ls pr n).length ≤ n := by
  unfold locI
  exact Nat.le_trans (List.length_filterMap_le _ _) (by simp)
theorem sorted_one : ∀ {a b : List Int}, a.Perm b → a.Pairwise (· ≤ ·) → b.Pairwise (· ≤ ·) → a = b
  | [], b, p, _, _ => (List.nil_perm.mp p).symm
  | x :: a, [], p, _, _ => absurd p.length_eq (by simp)
  | x :: a, y :: b, p, ha, hb => by
    have hx : x ∈ y :: b := p.mem_iff.mp List.mem_cons_self
    have hy : y ∈ x :: a := p.mem_iff.mpr List.mem_cons_self
    have h1 : y ≤ x := by
      rcases List.mem_cons.mp hx with e | h
      · omega
      · exact (List.pairwise_cons.mp hb).1 x h
    have h2 : x ≤ y := by
      rcases List.mem_cons.mp hy with e | h
      · omega
      · exact (List.pairwise_cons.mp ha).1 y h
    have e : x = y := by omega
    subst e
    rw [sorted_one (List.perm_cons x |>.mp p) (List.pairwise_cons.mp ha).2 (List.pairwise_cons.mp hb).2]
/-- how many strands more behind a letter -/
def gain (x : Str) : Int := if x = "born" then 2 else if x = "end" then -2 else 0
def sumG (ls : List (Str × Int)) : Int := (ls.map fun p => gain p.1).sum
theorem sumG_snoc (ls : List (Str × Int)) (p : Str × Int) : sumG (ls ++ [p]) = sumG ls + gain p.1 := by
  unfold sumG
  simp
theorem flat_ints (ns : List Int) : (ns.map V.int).all flatV = true := by
  rw [List.all_eq_true]
  intro x hx
  obtain ⟨n, _, rfl⟩ := List.mem_map.mp hx
  rfl
end L2

/-! xs[a:c] = ys, del xs[a:c], xs.insert(i, y), for over enumerate. -/
namespace L2
open PySem PySem.Spec PyProof.Rows
section
variable {X : Cx}
theorem part_rel {v : Value} {a : Int} (h : IsPart v (some a)) : RelV (.int a) v := by
  cases h with
  | int _ t => exact ⟨t, rfl⟩
def gSlc (to : TE) (tl th : TO) : TG := fun v σ H Q => to σ H fun x H1 => tl σ H1 fun lo H2 => th σ H2 fun hi H3 => ∃ (l b : Addr) (xs ys : List V) (a c : Int), x = .ref l ∧ v = .ref b ∧ lo = some a ∧ hi = some c ∧ H3 l = some (.lst xs) ∧ H3 b = some (.lst ys) ∧ l ≠ b ∧
  0 ≤ a ∧ a ≤ c ∧ c ≤ xs.length ∧ xs.length + ys.length ≤ sizeLine ∧ Q σ (upd H3 l (.lst (xs.take a.toNat ++ ys ++ xs.drop c.toNat)))
theorem pg_slc {o : Expr} {lo hi : Option Expr} {to : TE} {tl th : TO} {p2 pos : Pos} (ho : PE X o to) (hl : PO X lo tl) (hu : PO X hi th) : PG X (.Subscript o (.Slice lo hi none p2) pos) (gSlc to tl th) := by
  intro pins s σ H v u Q I r h
  show wpAny _ _ (do
      let ov ← holding [u] (eval o X.env)
      let iv ← holding [u, ov] (eval (.Slice lo hi none p2) X.env)
      standAt pos
      holding [u, ov, iv] (setItem ov iv u)
      release [iv, u, ov] []) _ _ s
  refine wpAny_bind (wpAny_holding (thn (ho pins s σ H _ I h) fun ov s1 ⟨x, H1, I1, r1, q1⟩ => ?_))
  refine wpAny_bind (wpAny_holding (wpAny_Slice (thn (hl pins s1 σ H1 _ I1 q1) fun vl s2 ⟨l', H2, I2, pl, q2⟩ => thn (hu pins s2 σ H2 _ I2 q2) fun vu s3 ⟨u', H3, I3, pu, q3⟩ => ?_)))
  rw [evalPart_none]
  refine wpAny_pure ?_
  have I4 : Inv X pins σ H3 { s3 with heap := s3.heap.push { cls := .type "slice", data := .fields #[vl, vu, .none] } } := I3.kept (t' := s3.toks) fun b ob q => Heap.get?_push_of_some _ q
  obtain ⟨l, b, xs, ys, a, c, rfl, rfl, rfl, rfl, hx, hy, hne, h0, hac, hc, hz, q⟩ := q3
  cases r1
  cases r
  refine wpAny_bind (wpAny_standAt (wpAny_bind (wpAny_holding (set_slice I4 hx hy hne (Heap.IsSliceOf.new ..) (part_rel pl) (part_rel pu) h0 hac hc hz fun s5 I5 => ?_))))
  exact wpAny_release ⟨σ, _, I5, q⟩
/-! insert -/
def rInsert : V → List V → Hp → VK → Prop := fun x vs H Q => ∃ (l : Addr) (xs : List V) (i : Int) (y : V), x = .ref l ∧ vs = [.int i, y] ∧ H l = some (.lst xs) ∧ 0 ≤ i ∧ i ≤ xs.length ∧ xs.length < sizeLine ∧ xs.length < 2 ^ 62 ∧ Q .non (upd H l (.lst (xs.take i.toNat ++ y :: xs.drop i.toNat)))
theorem mt_insert : MtM X "list.insert" rInsert := by
  intro pins s σ H x vs v us Q I rx rv h
  obtain ⟨l, xs, i, y, rfl, rfl, hH, h0, h1, hz, hb, q⟩ := h
  cases rx
  obtain ⟨u1, u, rfl, ri, ru⟩ := rv.two
  obtain ⟨t, rfl⟩ := ri
  obtain ⟨z, its, n, r, hl, e⟩ := I.lstM hH
  have hfit : ¬ (!Builtin.List.listFitsIndex i) = true := by
    unfold Builtin.List.listFitsIndex
    simp
    omega
  refine call_meets F.slot_list_insert ⟨_, e, rfl⟩ F.entry_list_insert (F.args_list_insert_3 _ _ _) (AutoSeq1.list_insert_list_int_val_1 l its.toArray n i t u hfit (by rw [List.size_toArray]; omega)) ⟨e, ?_⟩
  refine ⟨.non, _, I.lset (its' := its.take i.toNat ++ u :: its.drop i.toNat) hH e ?_ (Vals.append (r.take _) (.cons ru (r.drop _))) ?_, rfl, q⟩
  · have hi : ¬ i < 0 := by omega
    have hm : min i.toNat its.toArray.size = i.toNat := by rw [List.size_toArray]; omega
    simp only [if_neg hi, hm]
    simp
    rw [List.take_of_length_le (by simp)]
  · rw [List.length_append, List.length_cons, List.length_take, List.length_drop]
    omega
end
/-! the list without its items from a to c -/
theorem cut_out (a c : Nat) (hac : a ≤ c) : ∀ (its : List Value) (i : Nat), ((its.zipIdx i).filterMap fun (p : Value × Nat) => if (a ≤ p.2 ∧ p.2 < c) then none else some p.1) = its.take (a - i) ++ its.drop (c - i)
  | [], i => by simp
  | x :: r, i => by
    have ih := cut_out a c hac r (i + 1)
    rw [List.zipIdx_cons, List.filterMap_cons]
    by_cases h1 : i < a
    · have e1 : a - i = (a - (i + 1)) + 1 := by omega
      have e2 : c - i = (c - (i + 1)) + 1 := by omega
      rw [if_neg (show ¬ (a ≤ (x, i).2 ∧ (x, i).2 < c) by show ¬ (a ≤ i ∧ i < c); omega)]
      simp only [ih]
      rw [e1, e2]
      simp
    · by_cases h2 : i < c
      · have e1 : a - i = 0 := by omega
        have e1' : a - (i + 1) = 0 := by omega
        have e2 : c - i = (c - (i + 1)) + 1 := by omega
        rw [if_pos (show (a ≤ (x, i).2 ∧ (x, i).2 < c) by show (a ≤ i ∧ i < c); omega)]
        simp only [ih]
        rw [e1, e1', e2]
        simp
      · have e1 : a - i = 0 := by omega
        have e1' : a - (i + 1) = 0 := by omega
        have e2 : c - i = 0 := by omega
        have e2' : c - (i + 1) = 0 := by omega
        rw [if_neg (show ¬ (a ≤ (x, i).2 ∧ (x, i).2 < c) by show ¬ (a ≤ i ∧ i < c); omega)]
        simp only [ih]
        rw [e1, e1', e2, e2']
        simp
section
variable {prog : Program} {w : World} {A : Around} {E : Value → Shared → Prop} {s : Shared}
theorem delItem_slice {l sl : Addr} {its : List Value} {n : Nat} {vl vu : Value} {a c : Nat} {Q : Unit → Shared → Prop}
    (e : s.heap.get? l = some { cls := .type "list", data := .seq its.toArray n }) (hs : s.heap.IsSliceOf sl vl vu .none) (pl : IsPart vl (some (a : Int))) (pu : IsPart vu (some (c : Int))) (hac : a ≤ c) (hc : c ≤ its.length)
    (hsz : its.length ≤ sizeLine) (h : ∀ f : Array Value → Array Value, f its.toArray = (its.take a ++ its.drop c).toArray → Q () { s with heap := s.heap.update l (Obj.mapSeq f) }) :
    wpAny (model prog w) A (delItem (.ref l) (.ref sl)) Q E s := by
  have hl : s.heap.IsList l its.toArray := PySem.IsL.isList e
  obtain ⟨os, hos, hcs, hds⟩ := id hs
  have hTs : s.TypeIs (.ref sl) "slice" := ⟨os, hos, hcs⟩
  have hstep : ¬ ((rawPart none == rawInt 0) = true) := Bool.false_ne_true
  refine wpAny_delItem_slot hl.typeIs (by decide) F.slot_list_delitem (wpAny_call_entry F.slot_list_delitem hl.typeIs F.entry_list_delitem ?_ (F.args_list_delitem_2 _ _))
  show wpAny _ _ (Builtin.List.listSubscript? (.ref sl) >>= _) _ _ s
  refine wpAny_bind ?_
  unfold Builtin.List.listSubscript?
  refine wpAny_bind (wpAny_specialOf hTs slice_no_index ?_)
  simp only [Option.isNone_none, if_true]
  refine wpAny_pure ?_
  show wpAny _ _ (typeOf (.ref sl) >>= _) _ _ s
  refine wpAny_bind (wpAny_typeOf hTs ?_)
  first
    | rw [if_neg (by decide)]
    | refine PySem.W.KFB.if_not (by decide) ?_
  rw [listSliceParts_eq]
  refine wpAny_bind (wpAny_bind (wpAny_field hos hds (x := .none) rfl (wpAny_bind (wpAny_listPart .none ?_))))
  rw [if_neg hstep]
  refine wpAny_bind (wpAny_field hos hds (x := vl) rfl (wpAny_bind (wpAny_listPart pl ?_)))
  refine wpAny_bind (wpAny_field hos hds (x := vu) rfl (wpAny_bind (wpAny_listPart pu (wpAny_pure ?_))))
  unfold Builtin.List.listItems
  refine wpAny_bind (wpAny_bind (wpAny_seqItems e rfl (wpAny_pure ?_)))
  refine wpAny_bind (wpAny_of_eq ((sliceIndices_raw (some (a : Int)) (some (c : Int)) none its.toArray.size (by simp)).trans (congrArg (pure : Int × Int × Int → Sem (Int × Int × Int)) (bounds_run hac (by rw [List.size_toArray]; exact hc)))) ?_)
  refine wpAny_bind (wpAny_rule ?_)
  have key : ∀ (F : Array Value → Array Value), F its.toArray = (its.take a ++ its.drop c).toArray → ∀ (g : Sem Fin), (∀ s', Q () s' → wpAny (model prog w) A.in1 g (fun fin s' => ∃ v, fin = .done (.ret v) ∧ Q () s') E s') →
      wpAny (model prog w) A.in1 (Builtin.List.listUpdate (.ref l) F >>= fun _ => g) (fun fin s' => ∃ v, fin = .done (.ret v) ∧ Q () s') E s := fun F hF g hg => by
    show wpAny (model prog w) A.in1 (updateSeq l F >>= fun _ => g) _ E s
    refine wpAny_bind (wpAny_updateSeq (hz := by rw [List.size_toArray]; exact hsz) (_hz' := ?_) e rfl (hg _ (h F hF)))
    rw [hF, List.size_toArray, List.length_append, List.length_take, List.length_drop]
    omega
  refine key _ ?_ _ ?_
  · refine congrArg List.toArray ((congrArg (fun f => List.filterMap f its.zipIdx) (funext fun p => ?_)).trans (cut_out a c hac its 0))
    obtain ⟨x, k⟩ := p
    show (if (if (1 : Int) > 0 then decide ((a : Int) ≤ (k : Int)) && decide ((k : Int) < (c : Int)) && (((k : Int) - (a : Int)) % 1 == 0) else _) = true then none else some x) = if (a ≤ k ∧ k < c) then none else some x
    rw [if_pos (show (1 : Int) > 0 by decide)]
    have e0 : ((k : Int) - (a : Int)) % 1 = 0 := Int.emod_one _
    by_cases h1 : a ≤ k ∧ k < c
    · rw [if_pos h1, if_pos (by rw [e0]; simp; omega)]
    · rw [if_neg h1, if_neg (by rw [e0]; simp; omega)]
  · intro s' hq
    exact wpAny_bind (wpAny_letGo (wpAny_pure ⟨.none, rfl, hq⟩))
end
section
variable {X : Cx}
/-- del xs[lo:hi] -/
def sDelSl (to : TE) (tl th : TO) : TS := fun D σ H => to σ H fun x H1 => tl σ H1 fun lo H2 => th σ H2 fun hi H3 => ∃ (l : Addr) (xs : List V) (a c : Int), x = .ref l ∧ lo = some a ∧ hi = some c ∧ H3 l = some (.lst xs) ∧ 0 ≤ a ∧ a ≤ c ∧ c ≤ xs.length ∧ D.nx σ (upd H3 l (.lst (xs.take a.toNat ++ xs.drop c.toNat)))
theorem ps_delsl {o : Expr} {lo hi : Option Expr} {to : TE} {tl th : TO} {p2 p3 pos : Pos} (ho : PE X o to) (hl : PO X lo tl) (hu : PO X hi th) : PS X (.Delete [.Subscript o (.Slice lo hi none p2) p3] pos) (sDelSl to tl th) := by
  intro pins s σ H D I h
  refine wpAny_Delete (wpAny_deleteEach_cons ?_)
  rw [arm_delete_Subscript]
  refine wpAny_bind (thn (ho pins s σ H _ I h) fun ov s1 ⟨x, H1, I1, r1, q1⟩ => ?_)
  refine wpAny_bind (wpAny_holding (wpAny_Slice (thn (hl pins s1 σ H1 _ I1 q1) fun vl s2 ⟨l', H2, I2, pl, q2⟩ => thn (hu pins s2 σ H2 _ I2 q2) fun vu s3 ⟨u', H3, I3, pu, q3⟩ => ?_)))
  rw [evalPart_none]
  refine wpAny_pure ?_
  have I4 : Inv X pins σ H3 { s3 with heap := s3.heap.push { cls := .type "slice", data := .fields #[vl, vu, .none] } } := I3.kept (t' := s3.toks) fun b ob q => Heap.get?_push_of_some _ q
  obtain ⟨l, xs, a, c, rfl, rfl, rfl, hx, h0, hac, hc, q⟩ := q3
  cases r1
  obtain ⟨z, its, n, r, hlen, e⟩ := I4.lstM hx
  obtain ⟨a', rfl⟩ := Int.eq_ofNat_of_zero_le h0
  obtain ⟨c', rfl⟩ := Int.eq_ofNat_of_zero_le (Int.le_trans h0 hac)
  simp only [Int.toNat_natCast] at q
  refine wpAny_bind (wpAny_standAt (wpAny_bind (wpAny_holding (delItem_slice (a := a') (c := c') e (Heap.IsSliceOf.new ..) pl pu (by omega) (by omega) (by omega) fun f hf => ?_))))
  refine wpAny_release (wpAny_deleteEach_nil ?_)
  refine ⟨σ, _, I4.lset (its' := its.take a' ++ its.drop c') (t' := s3.toks) hx e hf (Vals.append (r.take _) (r.drop _)) ?_, q⟩
  rw [List.length_append, List.length_take, List.length_drop]
  omega
end
/-! for over enumerate, the list left as it is by the body -/
theorem for_enm {K : PySem.W.Frag} {a : Addr} {xs : List V} {g : TG} {tb : TS} {D : Ends} {σ : St} {H : Hp} (Pv : Nat → St → Hp → Prop) (h0 : Pv 0 σ H) (hl : ∀ i σ H, i ≤ xs.length → Pv i σ H → SqL K H a xs)
    (hs : ∀ i x p σ H, xs[i]? = some x → Pv i σ H → H p = none → g (.ref p) σ (upd H p (.tup [.int i, x])) fun σ2 H2 => tb { D with nx := Pv (i + 1), ct := Pv (i + 1), bk := D.nx } σ2 H2) (hd : ∀ σ H, Pv xs.length σ H → D.nx σ H) :
    ∃ W : Nat → Nat → St → Hp → Prop, (∃ m, W 0 m σ H) ∧ ∀ i m σ H, W i m σ H →
      ((Ite K a).stop i H ∧ D.nx σ H) ∨ ((Ite K a).go i H ∧ ∃ N : St → Hp → Prop, (∀ σ' H', N σ' H' → ∃ m', m' < m ∧ W (i + 1) m' σ' H') ∧ ∀ x H', (Ite K a).yld i H x H' → g x σ H' fun σ2 H2 => tb { D with nx := N, ct := N, bk := D.nx } σ2 H2) := by
  refine ⟨fun i m σ H => m = xs.length - i ∧ i ≤ xs.length ∧ Pv i σ H, ⟨xs.length, by simp, Nat.zero_le _, h0⟩, ?_⟩
  rintro i m σ H ⟨rfl, hi, p⟩
  have q := hl i σ H hi p
  by_cases hlt : i < xs.length
  · refine .inr ⟨⟨xs, xs[i], q, by simp [hlt]⟩, Pv (i + 1), fun σ' H' p' => ⟨xs.length - (i + 1), by omega, rfl, hlt, p'⟩, fun x H' y => ?_⟩
    obtain ⟨r, z, e1, e2, e3, y⟩ := y
    subst e1 e3
    exact hs i z r σ _ (y xs q) p e2
  · have e : i = xs.length := by omega
    subst e
    exact .inl ⟨⟨xs, q, Nat.le_refl _⟩, hd σ H p⟩
end L2

/-! Threads at each place, as lists of ints. -/
namespace L2
open PySem PySem.Spec PyProof.Rows
def swp (r : List Int) (k : Nat) : List Int := (r.set k (r.getD (k + 1) 0)).set (k + 1) (r.getD k 0)
def stp (s : List Int × Int) (p : Str × Int) : List Int × Int :=
  if p.1 = "born" then (s.1.take p.2.toNat ++ [s.2, s.2 + 1] ++ s.1.drop p.2.toNat, s.2 + 2) else if p.1 = "cross" then (swp s.1 p.2.toNat, s.2) else (s.1.take p.2.toNat ++ s.1.drop (p.2.toNat + 2), s.2)
def rb (ls : List (Str × Int)) : List Int × Int := ls.foldl stp ([], 0)
theorem rb_snoc (ls : List (Str × Int)) (p : Str × Int) : rb (ls ++ [p]) = stp (rb ls) p := by
  unfold rb
  rw [List.foldl_append]
  rfl
theorem stp_born {s : List Int × Int} {k : Int} : stp s ("born", k) = (s.1.take k.toNat ++ [s.2, s.2 + 1] ++ s.1.drop k.toNat, s.2 + 2) := if_pos rfl
theorem nb1 : ¬ (("cross" : Str) = "born") := by decide +kernel
theorem nb2 : ¬ (("end" : Str) = "born") := by decide +kernel
theorem nb3 : ¬ (("end" : Str) = "cross") := by decide +kernel
theorem stp_cross {s : List Int × Int} {k : Int} : stp s ("cross", k) = (swp s.1 k.toNat, s.2) := (if_neg nb1).trans (if_pos rfl)
theorem stp_end {s : List Int × Int} {k : Int} : stp s ("end", k) = (s.1.take k.toNat ++ s.1.drop (k.toNat + 2), s.2) := (if_neg nb2).trans (if_neg nb3)
theorem wk_len {ls : List (Str × Int)} {n : Int} (h : Wk ls n) : ((rb ls).1.length : Int) = n := by
  induction h with
  | nil => rfl
  | born h h0 h1 ih =>
    rw [rb_snoc, stp_born]
    simp only [List.length_append, List.length_take, List.length_drop, List.length_cons, List.length_nil]
    omega
  | cross h h0 h1 ih =>
    rw [rb_snoc, stp_cross]
    simp only [swp, List.length_set]
    exact ih
  | fin h h0 h1 ih =>
    rw [rb_snoc, stp_end]
    simp only [List.length_append, List.length_take, List.length_drop]
    omega
theorem snoc_inj {α : Type} {a b : List α} {x y : α} (h : a ++ [x] = b ++ [y]) : a = b ∧ x = y := by
  have h1 := List.append_inj' h rfl
  exact ⟨h1.1, by simpa using h1.2⟩
theorem wk_inv {l : List (Str × Int)} {p : Str × Int} {m : Int} (h : Wk (l ++ [p]) m) : ∃ n, Wk l n ∧ ((p.1 = "born" ∧ 0 ≤ p.2 ∧ p.2 ≤ n) ∨ (p.1 = "cross" ∧ 0 ≤ p.2 ∧ p.2 + 1 < n) ∨ (p.1 = "end" ∧ 0 ≤ p.2 ∧ p.2 + 1 < n)) := by
  generalize hq : l ++ [p] = q at h
  cases h with
  | nil => exact absurd hq (by simp)
  | born h h0 h1 => obtain ⟨rfl, rfl⟩ := snoc_inj hq; exact ⟨_, h, .inl ⟨rfl, h0, h1⟩⟩
  | cross h h0 h1 => obtain ⟨rfl, rfl⟩ := snoc_inj hq; exact ⟨_, h, .inr (.inl ⟨rfl, h0, h1⟩)⟩
  | fin h h0 h1 => obtain ⟨rfl, rfl⟩ := snoc_inj hq; exact ⟨_, h, .inr (.inr ⟨rfl, h0, h1⟩)⟩
theorem wk_take {ls : List (Str × Int)} {n : Int} (h : Wk ls n) : ∀ i, ∃ m, Wk (ls.take i) m := by
  induction h with
  | nil => intro i; exact ⟨0, by simpa using Wk.nil⟩
  | @born l n k h h0 h1 ih =>
    intro i
    by_cases hi : i ≤ l.length
    · rw [List.take_append_of_le_length hi]; exact ih i
    · rw [List.take_of_length_le (by rw [List.length_append, List.length_singleton]; omega)]; exact ⟨_, Wk.born h h0 h1⟩
  | @cross l n k h h0 h1 ih =>
    intro i
    by_cases hi : i ≤ l.length
    · rw [List.take_append_of_le_length hi]; exact ih i
    · rw [List.take_of_length_le (by rw [List.length_append, List.length_singleton]; omega)]; exact ⟨_, Wk.cross h h0 h1⟩
  | @fin l n k h h0 h1 ih =>
    intro i
    by_cases hi : i ≤ l.length
    · rw [List.take_append_of_le_length hi]; exact ih i
    · rw [List.take_of_length_le (by rw [List.length_append, List.length_singleton]; omega)]; exact ⟨_, Wk.fin h h0 h1⟩
/-- the letter i, with what it may be where it stands -/
theorem wk_at {ls : List (Str × Int)} {n : Int} (h : Wk ls n) {i : Nat} {p : Str × Int} (hp : ls[i]? = some p) :
    ls.take (i + 1) = ls.take i ++ [p] ∧ ((p.1 = "born" ∧ 0 ≤ p.2 ∧ p.2 ≤ ((rb (ls.take i)).1.length : Int)) ∨ (p.1 = "cross" ∧ 0 ≤ p.2 ∧ p.2 + 1 < ((rb (ls.take i)).1.length : Int)) ∨ (p.1 = "end" ∧ 0 ≤ p.2 ∧ p.2 + 1 < ((rb (ls.take i)).1.length : Int))) := by
  have e : ls.take (i + 1) = ls.take i ++ [p] := by rw [List.take_add_one, hp]; rfl
  refine ⟨e, ?_⟩
  obtain ⟨m, hm⟩ := wk_take h (i + 1)
  rw [e] at hm
  obtain ⟨n', hn, c⟩ := wk_inv hm
  rw [wk_len hn]
  exact c
/-- rows of ints at addresses of their own -/
def RowsV (H : Hp) (xs : List V) (rs : List (List Int)) : Prop := Paired (fun x (r : List Int) => ∃ t, x = V.ref t ∧ H t = some (.lst (r.map V.int))) xs rs
theorem RowsV.mono {H H' : Hp} (h : ∀ t o, V.ref t ∈ xs → H t = some o → H' t = some o) {rs : List (List Int)} (r : RowsV H xs rs) : RowsV H' xs rs := by
  unfold RowsV at *
  induction r with
  | nil => exact .nil
  | cons a t ih =>
    obtain ⟨q, e, hq⟩ := a
    subst e
    exact .cons ⟨q, rfl, h q _ List.mem_cons_self hq⟩ (ih fun t o ht => h t o (List.mem_cons_of_mem _ ht))
def rowsOf (ls : List (Str × Int)) (i : Nat) : List (List Int) := (List.range i).map fun j => (rb (ls.take j)).1
theorem rowsOf_succ (ls : List (Str × Int)) (i : Nat) : rowsOf ls (i + 1) = rowsOf ls i ++ [(rb (ls.take i)).1] := by
  unfold rowsOf
  rw [List.range_succ, List.map_append]
  rfl
end L2

namespace L2
open PySem PySem.Spec PyProof.Rows
theorem RowsV.mem {H : Hp} {xs : List V} {rs : List (List Int)} (r : RowsV H xs rs) {t : Addr} (h : V.ref t ∈ xs) : ∃ q : List Int, H t = some (.lst (q.map V.int)) := by
  unfold RowsV at r
  induction r with
  | nil => cases h
  | cons a _ ih =>
    obtain ⟨q, e, hq⟩ := a
    rcases List.mem_cons.mp h with z | z
    · rw [e] at z
      have : t = q := V.ref.inj z
      subst this
      exact ⟨_, hq⟩
    · exact ih z
theorem RowsV.last {H : Hp} {rs : List (List Int)} {r : List Int} : ∀ {xs : List V} , RowsV H xs (rs ++ [r]) → ∃ ys t, xs = ys ++ [V.ref t] ∧ H t = some (.lst (r.map V.int)) := by
  induction rs with
  | nil =>
    intro xs h
    cases h with
    | cons a b =>
      cases b
      obtain ⟨t, e, q⟩ := a
      exact ⟨[], t, by rw [e]; rfl, q⟩
  | cons q rs ih =>
    intro xs h
    cases h with
    | @cons x _ l _ a b =>
      obtain ⟨ys, t, e, q⟩ := ih b
      exact ⟨x :: ys, t, by rw [e]; rfl, q⟩
theorem RowsV.snoc {H : Hp} {xs : List V} {rs : List (List Int)} {t : Addr} {r : List Int} (h : RowsV H xs rs) (e : H t = some (.lst (r.map V.int))) : RowsV H (xs ++ [.ref t]) (rs ++ [r]) := Paired.snoc h ⟨t, rfl, e⟩
theorem RowsV.len {H : Hp} {xs : List V} {rs : List (List Int)} (h : RowsV H xs rs) : xs.length = rs.length := Paired.length h
theorem rows_step {H H' G : Hp} {R w : Addr} {ys : List V} {ls : List (Str × Int)} {i : Nat} (hR : H R = none) (sm : Same H H') (rv : RowsV H' ys (rowsOf ls (i + 1))) (ap : ∀ t, V.ref t ∈ ys → H t = none ∧ t ≠ R) (nd : ys.Nodup) (hw : H' w = none) (hwR : w ≠ R)
    (k : ∀ c o, H' c = some o → c ≠ R → G c = some o) (gw : G w = some (.lst ((rb (ls.take (i + 1))).1.map V.int))) :
    Same H G ∧ RowsV G (ys ++ [.ref w]) (rowsOf ls (i + 2)) ∧ (∀ t, V.ref t ∈ ys ++ [V.ref w] → H t = none ∧ t ≠ R) ∧ (ys ++ [V.ref w]).Nodup := by
  refine ⟨fun c o e => k c o (sm c o e) (ne_of_none e hR), ?_, fun t ht => ?_, ?_⟩
  · rw [rowsOf_succ]
    exact RowsV.snoc (rv.mono fun t o ht e => k t o e (ap t ht).2) gw
  · rcases List.mem_append.mp ht with z | z
    · exact ap t z
    · have : t = w := V.ref.inj (List.mem_singleton.mp z)
      subst this
      exact ⟨sm.free hw, hwR⟩
  · rw [List.nodup_append]
    refine ⟨nd, by simp, fun a ha b hb => ?_⟩
    rw [List.mem_singleton.mp hb]
    intro z
    subst z
    obtain ⟨q, e⟩ := rv.mem ha
    rw [hw] at e
    cases e
theorem wk_len2 {ls : List (Str × Int)} {n : Int} (h : Wk ls n) : n ≤ 2 * (ls.length : Int) := by
  induction h with
  | nil => decide
  | born _ _ _ ih => rw [List.length_append, List.length_singleton]; omega
  | cross _ _ _ ih => rw [List.length_append, List.length_singleton]; omega
  | fin _ _ _ ih => rw [List.length_append, List.length_singleton]; omega
theorem ixN_nat {n j : Nat} (h : j < n) : ixN n (j : Int) = some j := by
  unfold ixN
  rw [if_pos (by omega), if_pos (by omega)]
  simp
theorem map_swp (r : List Int) (k : Nat) : ((r.map V.int).set k (V.int (r.getD (k + 1) 0))).set (k + 1) (V.int (r.getD k 0)) = (swp r k).map V.int := by
  unfold swp
  rw [List.map_set, List.map_set]
theorem map_getD (r : List Int) {k : Nat} (h : k < r.length) : (r.map V.int)[k]? = some (V.int (r.getD k 0)) := by
  rw [List.getElem?_map]
  simp [h]
def spRows : Sp := fun vs H Q _ => ∃ (l : Addr) (xs : List V) (ls : List (Str × Int)), vs = [.ref l] ∧ H l = some (.lst xs) ∧ LetsV H xs ls ∧ ls.length ≤ 60 ∧ Wk ls 0 ∧ ∀ (p : Addr) (H' : Hp) (ys : List V), H p = none → Same H H' → H' p = some (.lst ys) → RowsV H' ys (rowsOf ls (ls.length + 1)) → (∀ t, V.ref t ∈ ys → H t = none ∧ t ≠ p) → ys.Nodup → Q (.ref p) H'
end L2

namespace L2
open PySem PySem.Spec PyProof.Rows
theorem ins_two {α : Type} (r : List α) (k : Nat) (x y : α) (h : k ≤ r.length) : (r.take k ++ y :: r.drop k).take k ++ x :: (r.take k ++ y :: r.drop k).drop k = r.take k ++ [x, y] ++ r.drop k := by
  have hl : (r.take k).length = k := by rw [List.length_take]; omega
  have e1 : (r.take k ++ y :: r.drop k).take k = r.take k := by
    have := List.take_left' (l₂ := y :: r.drop k) hl
    exact this
  have e2 : (r.take k ++ y :: r.drop k).drop k = y :: r.drop k := List.drop_left' hl
  rw [e1, e2]
  simp
theorem pop_two {α : Type} (r : List α) (k : Nat) : (r.eraseIdx k).eraseIdx k = r.take k ++ r.drop (k + 2) := by
  induction r generalizing k with
  | nil => simp
  | cons x r ih =>
    cases k with
    | zero => cases r <;> simp
    | succ k =>
      rw [List.eraseIdx_cons_succ, List.eraseIdx_cons_succ, ih]
      simp
theorem seqIx_nat {n j : Nat} (h : j < n) : seqIndex? (j : Int) n = some j := by
  unfold seqIndex?
  have h0 : ¬ ((j : Int) < 0) := by omega
  simp [h0, h]
end L2

namespace L2
open PySem PySem.Spec PyProof.Rows

/-! ### lists of pairs as tables -/
section
variable {κ : Type} [DecidableEq κ]
end


/-! ### a tracked dict, its keys ints and texts or tuples of these -/
section
variable {P : Program} {w : World} {H : Hp} {h : Heap} {a : Addr}
end

section
variable {X : Cx} {pins : List (Addr × Obj)} {σ : St} {H : Hp} {s : Shared} {a : Addr} {y v : V} {u r : Value} {o : Option V} {A : Around} {E : Value → Shared → Prop}

end

section
variable {X : Cx} {pins : List (Addr × Obj)} {σ : St} {H : Hp} {s : Shared} {a : Addr} {kvs : List (Key × V)} {k : Key} {u : Value} {A : Around} {E : Value → Shared → Prop}
end


/-! ### readings and rules -/
section
variable {X : Cx} {o i e value : Expr} {pos pos' tpos : Pos} {td ty tv : TE}
end


/-! ### displays -/
section
variable {X : Cx} {pos : Pos}
end
end L2

/-! sorted(a dict), d[k] as a target and as a value, a, b = a list, xs[::2], xs != []. -/
namespace L2
open PySem PySem.Spec PyProof.Rows
theorem ObjOk.there {P : Program} {w : World} {H : Hp} {h : Heap} {a : Addr} {o : HO} (x : ObjOk P w H h a o) : ∃ ob, h.get? a = some ob := by
  cases o with
  | lst xs => obtain ⟨_, _, _, _, e⟩ := x; exact ⟨_, e⟩
  | tup xs => obtain ⟨_, _, _, _, e, _⟩ := x; exact ⟨_, e⟩
  | dK kvs => obtain ⟨_, _, _, _, o, _, _, e, _⟩ := x; exact ⟨_, e⟩
  | dT kvs => obtain ⟨_, _, _, _, o, _, _, e, _⟩ := x; exact ⟨_, e⟩
  | set S n => obtain ⟨o, _, _, _, e, _⟩ := x; exact ⟨_, e⟩
  | ins C dx fs => obtain ⟨_, _, _, e, _⟩ := x; exact ⟨_, e⟩
  | own y => obtain ⟨_, e⟩ := x; exact ⟨_, e⟩
  | xd fs => obtain ⟨_, ⟨_, _, _, e, _⟩, _⟩ := x; exact ⟨_, e⟩
  | rng lo hi => obtain ⟨_, _, _, e⟩ := x; exact ⟨_, e⟩
  | frz ob u => obtain ⟨e, _⟩ := x; exact ⟨_, e⟩
  | tbl ps => exact ⟨_, x⟩
  | met f y => exact ⟨_, x⟩
  | ext φ => obtain ⟨_, ⟨_, e⟩, _⟩ := x; exact ⟨_, e⟩
theorem ns_inj {h : Heap} {a : Addr} {m m' : Str → Option Value} (x : h.Ns a m) (y : h.Ns a m') : m = m' := by
  obtain ⟨o, es, ep, ho, hd, _, hm⟩ := x
  obtain ⟨o', es', ep', ho', hd', _, hm'⟩ := y
  rw [ho] at ho'
  cases ho'
  rw [hd] at hd'
  cases hd'
  exact funext fun n => (hm n).symm.trans (hm' n)
section
variable {X : Cx} {pins : List (Addr × Obj)} {σ : St} {H : Hp} {s : Shared}
/-- a new object at D, all else kept but the frame's own object, whose map is kept -/
theorem Inv.laidN {h' : Heap} {D : Addr} {o : HO} {t' : Nat} {m : Str → Option Value} (I : Inv X pins σ H s) (F : Fr X.base X.env.locals s.heap m) (F' : Fr X.base X.env.locals h' m)
    (N' : News X.base X.env.locals h' (allNews X.base s.heap X.env.locals)) (hD : s.heap.get? D = none) (hn : H D = none) (new : ObjOk X.prog X.w (upd H D o) h' D o) : Inv X pins σ (upd H D o) { s with heap := h', toks := t' } := by
  have kp : ∀ b u, b ≠ X.env.locals → s.heap.get? b = some u → h'.get? b = some u := fun b u hb e => by
    cases q : X.base.get? b with
    | some v =>
      have e1 := F'.keep b v q
      have e2 := F.keep b v q
      rw [e] at e2
      cases e2
      exact e1
    | none => exact (N' (b, u) (mem_allNews hb q e)).1
  have neL : ∀ b u, H b = some u → b ≠ X.env.locals := fun b u e z => by rw [z, I.free] at e; cases e
  refine I.step (g' := s.gens) (d' := s.drawn) (ch := []) (fun _ z => nomatch z) (fun b ob hb _ _ e _ => kp b ob hb e) (fun b ob hb _ _ e _ => ⟨ob.slots, kp b ob hb e⟩) (fun b ob _ e n => ?_) (fun b ob _ e => ?_) (fun b xs e => ?_) (fun b ob u e => ?_) (fun b ps e => ⟨#[], ?_⟩) (fun m' hm => ?_) (fun b u e => ?_) I.bare
  · rw [upd_ne (fun z => by subst z; rw [hD] at e; cases e)]
    exact n
  · by_cases hb : b = X.env.locals
    · subst hb
      obtain ⟨ob', _, _, z, _⟩ := F'.ns
      exact ⟨ob', z⟩
    · exact ⟨ob, kp b ob hb e⟩
  · rw [upd_ne (ne_of_none e hn)]; exact e
  · rw [upd_ne (ne_of_none e hn)]; exact e
  · rw [upd_ne (ne_of_none e hn), e]; simp
  · rw [ns_inj hm F.ns]; exact F'.ns
  · by_cases hb : b = D
    · subst hb; rw [upd_same] at e; cases e; exact new
    · rw [upd_ne hb] at e
      refine (I.hok b u e).stay (fun c v hc q => kp c v ?_ q) (fun c q => by rw [upd_ne (ne_of_none q hn)]; exact q) fun c xs q => by rw [upd_ne (ne_of_none q hn)]; exact q
      rcases hc with z | z
      · subst z; exact neL _ u e
      · exact neL c _ z
end
section
variable {X : Cx}
end
/-! xs[::2] -/
section
variable {X : Cx}
end
end L2

/-! Going along a piece: partners at ends and at births, orbits, tours. -/
namespace L2
open PySem PySem.Spec PyProof.Rows
def bw (x : Int) : Int := if x % 2 = 0 then x + 1 else x - 1
theorem bw_bw (x : Int) : bw (bw x) = x := by unfold bw; split <;> split <;> omega
theorem bw_ne (x : Int) : bw x ≠ x := by unfold bw; split <;> omega
structure Mates (m : Int → Int) (N : Int) : Prop where
  lo : ∀ x, 0 ≤ x → x < N → 0 ≤ m x
  hi : ∀ x, 0 ≤ x → x < N → m x < N
  inv : ∀ x, 0 ≤ x → x < N → m (m x) = x
  ne : ∀ x, 0 ≤ x → x < N → m x ≠ x
  ev : N % 2 = 0
theorem bw_dom {N x : Int} (e : N % 2 = 0) (h0 : 0 ≤ x) (h1 : x < N) : 0 ≤ bw x ∧ bw x < N := by unfold bw; split <;> omega
def gt (m : Int → Int) (f : Int) : Nat → Int
  | 0 => f
  | i + 1 => bw (m (gt m f i))
def orb (m : Int → Int) (f : Int) : Nat → List Int
  | 0 => []
  | i + 1 => orb m f i ++ [gt m f i, m (gt m f i)]
theorem orb_len (m : Int → Int) (f : Int) : ∀ i, (orb m f i).length = 2 * i
  | 0 => rfl
  | i + 1 => by
    simp only [orb, List.length_append, orb_len m f i, List.length_cons, List.length_nil]
    omega
theorem mem_orb {m : Int → Int} {f x : Int} : ∀ {i : Nat}, x ∈ orb m f i ↔ ∃ j, j < i ∧ (x = gt m f j ∨ x = m (gt m f j))
  | 0 => by simp [orb]
  | i + 1 => by
    simp only [orb, List.mem_append, mem_orb (i := i), List.mem_cons, List.not_mem_nil, or_false]
    constructor
    · rintro (⟨j, h, e⟩ | h)
      · exact ⟨j, by omega, e⟩
      · exact ⟨i, by omega, h⟩
    · rintro ⟨j, h, e⟩
      by_cases hj : j = i
      · subst hj; exact .inr e
      · exact .inl ⟨j, by omega, e⟩
section
variable {m : Int → Int} {N f : Int}
theorem gt_dom (M : Mates m N) (h0 : 0 ≤ f) (h1 : f < N) : ∀ i, 0 ≤ gt m f i ∧ gt m f i < N
  | 0 => ⟨h0, h1⟩
  | i + 1 => by
    obtain ⟨a, b⟩ := gt_dom M h0 h1 i
    exact bw_dom M.ev (M.lo _ a b) (M.hi _ a b)
theorem gt_no (M : Mates m N) (h0 : 0 ≤ f) (h1 : f < N) : ∀ d j, gt m f (j + d) ≠ m (gt m f j)
  | 0, j => fun e => M.ne _ (gt_dom M h0 h1 j).1 (gt_dom M h0 h1 j).2 e.symm
  | 1, j => bw_ne _
  | d + 2, j => fun e => by
    refine gt_no M h0 h1 d (j + 1) ?_
    have e1 : bw (m (gt m f (j + d + 1))) = m (gt m f j) := e
    have e2 : m (gt m f (j + d + 1)) = bw (m (gt m f j)) := by rw [← e1, bw_bw]
    have e3 : gt m f (j + 1) = m (gt m f (j + d + 1)) := e2.symm
    have dm := gt_dom M h0 h1 (j + d + 1)
    rw [e3, M.inv _ dm.1 dm.2]
    congr 1
    omega
theorem gt_ne (M : Mates m N) (h0 : 0 ≤ f) (h1 : f < N) (i j : Nat) : gt m f i ≠ m (gt m f j) := by
  by_cases h : j ≤ i
  · have := gt_no M h0 h1 (i - j) j
    rwa [show j + (i - j) = i by omega] at this
  · intro e
    refine gt_no M h0 h1 (j - i) i ?_
    rw [show i + (j - i) = j by omega, e]
    exact (M.inv _ (gt_dom M h0 h1 j).1 (gt_dom M h0 h1 j).2).symm
theorem m_inj (M : Mates m N) {x y : Int} (hx : 0 ≤ x ∧ x < N) (hy : 0 ≤ y ∧ y < N) (e : m x = m y) : x = y := by
  rw [← M.inv x hx.1 hx.2, e, M.inv y hy.1 hy.2]
theorem gt_back (M : Mates m N) (h0 : 0 ≤ f) (h1 : f < N) : ∀ j d, gt m f (j + d) = gt m f j → gt m f d = f
  | 0, d, e => by simpa [gt] using e
  | j + 1, d, e => by
    refine gt_back M h0 h1 j d (m_inj M (gt_dom M h0 h1 _) (gt_dom M h0 h1 _) ?_)
    have e1 : bw (m (gt m f (j + d))) = bw (m (gt m f j)) := by
      have : j + 1 + d = j + d + 1 := by omega
      rw [this] at e
      exact e
    rw [← bw_bw (m (gt m f (j + d))), e1, bw_bw]
theorem gt_diff (M : Mates m N) (h0 : 0 ≤ f) (h1 : f < N) {i j : Nat} (hj : j < i) (e : gt m f i = gt m f j) : gt m f (i - j) = f := by
  refine gt_back M h0 h1 j (i - j) ?_
  rw [show j + (i - j) = i by omega]
  exact e
theorem orb_nodup (M : Mates m N) (h0 : 0 ≤ f) (h1 : f < N) : ∀ i, (∀ j, 1 ≤ j → j < i → gt m f j ≠ f) → (orb m f i).Nodup
  | 0, _ => by simp [orb]
  | i + 1, h => by
    have ih := orb_nodup M h0 h1 i fun j a b => h j a (by omega)
    show (orb m f i ++ [gt m f i, m (gt m f i)]).Nodup
    rw [List.nodup_append]
    refine ⟨ih, by simp [gt_ne M h0 h1 i i], fun a ha b hb => ?_⟩
    obtain ⟨j, hj, e⟩ := mem_orb.mp ha
    have hb : b = gt m f i ∨ b = m (gt m f i) := by simpa using hb
    intro z
    subst z
    rcases e with e | e <;> rcases hb with z | z
    · exact h (i - j) (by omega) (by omega) (gt_diff M h0 h1 hj (z.symm.trans e))
    · exact gt_ne M h0 h1 j i (e.symm.trans z)
    · exact gt_ne M h0 h1 i j (z.symm.trans e)
    · exact h (i - j) (by omega) (by omega) (gt_diff M h0 h1 hj (m_inj M (gt_dom M h0 h1 _) (gt_dom M h0 h1 _) (z.symm.trans e)))
theorem orb_dom (M : Mates m N) (h0 : 0 ≤ f) (h1 : f < N) {i : Nat} {x : Int} (hx : x ∈ orb m f i) : 0 ≤ x ∧ x < N := by
  obtain ⟨j, _, e | e⟩ := mem_orb.mp hx
  · rw [e]; exact gt_dom M h0 h1 j
  · rw [e]; exact ⟨M.lo _ (gt_dom M h0 h1 j).1 (gt_dom M h0 h1 j).2, M.hi _ (gt_dom M h0 h1 j).1 (gt_dom M h0 h1 j).2⟩
theorem nodup_short : ∀ (n : Nat) (l : List Int), l.Nodup → (∀ x ∈ l, 0 ≤ x ∧ x < (n : Int)) → l.length ≤ n
  | 0, l, _, h => by
    cases l with
    | nil => simp
    | cons x _ => have := h x List.mem_cons_self; omega
  | n + 1, l, nd, h => by
    by_cases hn : (n : Int) ∈ l
    · have h1 := nodup_short n (l.erase (n : Int)) (nd.erase _) fun x hx => by
        have h2 := (nd.mem_erase_iff).mp hx
        have := h x h2.2
        have := h2.1
        omega
      rw [List.length_erase_of_mem hn] at h1
      omega
    · have h1 := nodup_short n l nd fun x hx => by
        have := h x hx
        have h3 : x ≠ (n : Int) := fun z => hn (z ▸ hx)
        omega
      omega
theorem orb_short (M : Mates m N) (h0 : 0 ≤ f) (h1 : f < N) {i : Nat} (h : ∀ j, 1 ≤ j → j < i → gt m f j ≠ f) : 2 * (i : Int) ≤ N := by
  have := nodup_short N.toNat (orb m f i) (orb_nodup M h0 h1 i h) fun x hx => by
    have := orb_dom M h0 h1 hx
    omega
  rw [orb_len] at this
  omega
end
/-- the tour from f: till one comes back -/
def IsTour (m : Int → Int) (f : Int) (T : List Int) : Prop := ∃ L, 1 ≤ L ∧ gt m f L = f ∧ (∀ j, 1 ≤ j → j < L → gt m f j ≠ f) ∧ T = orb m f L
theorem IsTour.uniq {m : Int → Int} {f : Int} {T T' : List Int} (a : IsTour m f T) (b : IsTour m f T') : T = T' := by
  obtain ⟨L, h1, e1, n1, rfl⟩ := a
  obtain ⟨L', h2, e2, n2, rfl⟩ := b
  have : L = L' := by
    rcases Nat.lt_trichotomy L L' with z | z | z
    · exact absurd e1 (n2 L h1 z)
    · exact z
    · exact absurd e2 (n1 L' h2 z)
  rw [this]
theorem IsTour.self {m : Int → Int} {f : Int} {T : List Int} (a : IsTour m f T) : f ∈ T := by
  obtain ⟨L, h1, e1, n1, rfl⟩ := a
  exact mem_orb.mpr ⟨0, by omega, .inl rfl⟩
theorem IsTour.dom {m : Int → Int} {N f : Int} {T : List Int} (M : Mates m N) (h0 : 0 ≤ f) (h1 : f < N) (a : IsTour m f T) : ∀ x ∈ T, 0 ≤ x ∧ x < N := by
  obtain ⟨L, _, _, _, rfl⟩ := a
  exact fun x hx => orb_dom M h0 h1 hx
theorem IsTour.nodup {m : Int → Int} {N f : Int} {T : List Int} (M : Mates m N) (h0 : 0 ≤ f) (h1 : f < N) (a : IsTour m f T) : T.Nodup := by
  obtain ⟨L, _, _, n, rfl⟩ := a
  exact orb_nodup M h0 h1 L n
theorem IsTour.len {m : Int → Int} {N f : Int} {T : List Int} (M : Mates m N) (h0 : 0 ≤ f) (h1 : f < N) (a : IsTour m f T) : (T.length : Int) ≤ N := by
  obtain ⟨L, _, _, n, rfl⟩ := a
  have := orb_short M h0 h1 n
  rw [orb_len]
  omega
theorem IsTour.closed {m : Int → Int} {N f : Int} {T : List Int} (M : Mates m N) (h0 : 0 ≤ f) (h1 : f < N) (a : IsTour m f T) : ∀ x ∈ T, m x ∈ T ∧ bw x ∈ T := by
  obtain ⟨L, hL, eL, n, rfl⟩ := a
  intro x hx
  obtain ⟨j, hj, e | e⟩ := mem_orb.mp hx
  · subst e
    refine ⟨mem_orb.mpr ⟨j, hj, .inr rfl⟩, ?_⟩
    cases j with
    | zero =>
      refine mem_orb.mpr ⟨L - 1, by omega, .inr ?_⟩
      have : gt m f (L - 1 + 1) = f := by rw [show L - 1 + 1 = L by omega]; exact eL
      have e2 : bw (m (gt m f (L - 1))) = f := this
      show bw f = _
      rw [← e2, bw_bw, e2]
    | succ j => exact mem_orb.mpr ⟨j, by omega, .inr (bw_bw _)⟩
  · subst e
    refine ⟨?_, ?_⟩
    · rw [M.inv _ (gt_dom M h0 h1 j).1 (gt_dom M h0 h1 j).2]
      exact mem_orb.mpr ⟨j, hj, .inl rfl⟩
    · by_cases z : j + 1 = L
      · refine mem_orb.mpr ⟨0, by omega, .inl ?_⟩
        show gt m f (j + 1) = f
        rw [z, eL]
      · exact mem_orb.mpr ⟨j + 1, by omega, .inl rfl⟩
theorem orb_apart {m : Int → Int} {N f : Int} (M : Mates m N) (h0 : 0 ≤ f) (h1 : f < N) {S : List Int} (cl : ∀ x ∈ S, m x ∈ S ∧ bw x ∈ S) (hf : f ∉ S) : ∀ i, gt m f i ∉ S ∧ m (gt m f i) ∉ S
  | 0 => ⟨hf, fun h => hf (by
    have : m (m f) ∈ S := (cl _ h).1
    rwa [M.inv _ h0 h1] at this)⟩
  | i + 1 => by
    have ih := orb_apart M h0 h1 cl hf i
    have a : gt m f (i + 1) ∉ S := fun h => ih.2 (by
      have := (cl _ h).2
      rwa [show bw (gt m f (i + 1)) = m (gt m f i) from bw_bw _] at this)
    refine ⟨a, fun h => a ?_⟩
    have := (cl _ h).1
    rwa [M.inv _ (gt_dom M h0 h1 (i + 1)).1 (gt_dom M h0 h1 (i + 1)).2] at this
inductive Trs (m : Int → Int) : Nat → List (List Int) → Prop
  | nil : Trs m 0 []
  | add {i : Nat} {ts : List (List Int)} {T : List Int} : Trs m i ts → (i : Int) ∉ ts.flatten → IsTour m (i : Int) T → Trs m (i + 1) (ts ++ [T])
  | skip {i : Nat} {ts : List (List Int)} : Trs m i ts → (i : Int) ∈ ts.flatten → Trs m (i + 1) ts
theorem Trs.uniq {m : Int → Int} {i : Nat} {ts : List (List Int)} (a : Trs m i ts) : ∀ {ts' : List (List Int)}, Trs m i ts' → ts = ts' := by
  induction a with
  | nil => intro ts' b; cases b; rfl
  | add a h t ih =>
    intro ts' b
    cases b with
    | add b h' t' => rw [ih b, t.uniq t']
    | skip b h' => rw [ih b] at h; exact absurd h' h
  | skip a h ih =>
    intro ts' b
    cases b with
    | add b h' t' => rw [ih b] at h; exact absurd h h'
    | skip b h' => exact ih b
theorem Trs.mem {m : Int → Int} {i : Nat} {ts : List (List Int)} (a : Trs m i ts) : ∀ j : Nat, j < i → (j : Int) ∈ ts.flatten := by
  induction a with
  | nil => intro j hj; omega
  | @add i ts T a h t ih =>
    intro j hj
    rw [List.flatten_append, List.mem_append]
    by_cases e : j = i
    · subst e; exact .inr (by simpa using t.self)
    · exact .inl (ih j (by omega))
  | @skip i ts a h ih =>
    intro j hj
    by_cases e : j = i
    · subst e; exact h
    · exact ih j (by omega)
theorem Trs.good {m : Int → Int} {N : Int} (M : Mates m N) {i : Nat} {ts : List (List Int)} (a : Trs m i ts) (hi : (i : Int) ≤ N) : ts.flatten.Nodup ∧ (∀ x ∈ ts.flatten, 0 ≤ x ∧ x < N) ∧ (∀ x ∈ ts.flatten, m x ∈ ts.flatten ∧ bw x ∈ ts.flatten) := by
  induction a with
  | nil => simp
  | @add i ts T a h t ih =>
    obtain ⟨n, d, c⟩ := ih (by omega)
    have h0 : (0 : Int) ≤ (i : Int) := by omega
    have h1 : (i : Int) < N := by omega
    rw [List.flatten_append]
    have e : [T].flatten = T := by simp
    rw [e]
    refine ⟨?_, fun x hx => ?_, fun x hx => ?_⟩
    · rw [List.nodup_append]
      refine ⟨n, t.nodup M h0 h1, fun a ha b hb z => ?_⟩
      subst z
      obtain ⟨L, _, _, _, rfl⟩ := t
      obtain ⟨j, _, e | e⟩ := mem_orb.mp hb
      · exact (orb_apart M h0 h1 c h j).1 (e ▸ ha)
      · exact (orb_apart M h0 h1 c h j).2 (e ▸ ha)
    · rcases List.mem_append.mp hx with z | z
      · exact d x z
      · exact t.dom M h0 h1 x z
    · rw [List.mem_append, List.mem_append]
      rcases List.mem_append.mp hx with z | z
      · exact ⟨.inl (c x z).1, .inl (c x z).2⟩
      · exact ⟨.inr (t.closed M h0 h1 x z).1, .inr (t.closed M h0 h1 x z).2⟩
  | skip a h ih => exact ih (by omega)
theorem Trs.len {m : Int → Int} {N : Int} (M : Mates m N) {i : Nat} {ts : List (List Int)} (a : Trs m i ts) (hi : (i : Int) ≤ N) : ts.length ≤ i := by
  induction a with
  | nil => simp
  | add a h t ih => have := ih (by omega); simp; omega
  | skip a h ih => have := ih (by omega); omega
end L2

/-! The threads at letters; who ends with whom. -/
namespace L2
open PySem PySem.Spec PyProof.Rows
def rowAt (ls : List (Str × Int)) (t : Nat) : List Int := (rb (ls.take t)).1
def prAt (ls : List (Str × Int)) (t : Nat) : Int × Int := ((rowAt ls t).getD ((ls.getD t ("", 0)).2.toNat) 0, (rowAt ls t).getD ((ls.getD t ("", 0)).2.toNat + 1) 0)
def isE : Str → Bool := fun x => decide (x = "end")
def epsI (ls : List (Str × Int)) (i : Nat) : List (Int × Int) := (locI ls isE i).map fun t => prAt ls t.toNat
def flatP (ps : List (Int × Int)) : List Int := ps.flatMap fun p => [p.1, p.2]
theorem flatP_append (a b : List (Int × Int)) : flatP (a ++ b) = flatP a ++ flatP b := by simp [flatP]
theorem flatP_len (ps : List (Int × Int)) : (flatP ps).length = 2 * ps.length := by
  induction ps with
  | nil => rfl
  | cons p r ih =>
    have : flatP (p :: r) = [p.1, p.2] ++ flatP r := by simp [flatP]
    rw [this, List.length_append, ih]
    simp
    omega
theorem epsI_succ (ls : List (Str × Int)) (i : Nat) : epsI ls (i + 1) = epsI ls i ++ (if isK ls isE i = true then [prAt ls i] else []) := by
  unfold epsI
  rw [locI_succ, List.map_append]
  by_cases h : isK ls isE i = true <;> simp [h]
def upto (n : Nat) : List Int := (List.range n).map fun (x : Nat) => (x : Int)
theorem ints_two (n : Nat) : upto (n + 2) = upto n ++ [(n : Int), (n : Int) + 1] := by
  unfold upto
  rw [List.range_succ, List.range_succ]
  simp
theorem mem_ints {n : Nat} {x : Int} : x ∈ upto n ↔ 0 ≤ x ∧ x < (n : Int) := by
  unfold upto
  rw [List.mem_map]
  constructor
  · rintro ⟨a, h, rfl⟩
    have := List.mem_range.mp h
    omega
  · rintro ⟨h0, h1⟩
    exact ⟨x.toNat, List.mem_range.mpr (by omega), by omega⟩
theorem ints_nodup (n : Nat) : (upto n).Nodup := by
  unfold upto
  rw [List.nodup_iff_pairwise_ne, List.pairwise_map]
  exact (List.nodup_iff_pairwise_ne.mp List.nodup_range).imp fun h e => h (by omega)
theorem ints_len (n : Nat) : (upto n).length = n := by simp [upto]
theorem cut2 (r : List Int) (k : Nat) (h : k + 1 < r.length) : r = r.take k ++ [r.getD k 0, r.getD (k + 1) 0] ++ r.drop (k + 2) := by
  have e1 : r.drop k = r[k] :: r.drop (k + 1) := List.drop_eq_getElem_cons (by omega)
  have e2 : r.drop (k + 1) = r[k + 1] :: r.drop (k + 2) := List.drop_eq_getElem_cons h
  have e : r.take k ++ r.drop k = r := List.take_append_drop k r
  rw [e1, e2] at e
  have h1 : r.getD k 0 = r[k] := by simp [show k < r.length by omega]
  have h2 : r.getD (k + 1) 0 = r[k + 1] := by simp [h]
  rw [h1, h2]
  simpa using e.symm
theorem swp_cut (r : List Int) (k : Nat) (h : k + 1 < r.length) : swp r k = r.take k ++ [r.getD (k + 1) 0, r.getD k 0] ++ r.drop (k + 2) := by
  have hl : (r.take k).length = k := by rw [List.length_take]; omega
  unfold swp
  generalize ha : r.getD k 0 = a
  generalize hb : r.getD (k + 1) 0 = b
  have e := cut2 r k h
  rw [ha, hb] at e
  generalize r.take k = p at e hl ⊢
  generalize r.drop (k + 2) = q at e ⊢
  subst e
  rw [List.append_assoc, List.set_append_right _ _ (by omega), hl, List.set_append_right _ _ (by omega), hl]
  simp
theorem perm_at {ls : List (Str × Int)} (hW : Wk ls 0) : ∀ i, i ≤ ls.length → 0 ≤ (rb (ls.take i)).2 ∧ (rb (ls.take i)).2 % 2 = 0 ∧ (rowAt ls i ++ flatP (epsI ls i)).Perm (upto (rb (ls.take i)).2.toNat)
  | 0, _ => by
    refine ⟨Int.le_refl _, rfl, ?_⟩
    exact List.Perm.refl _
  | i + 1, hi => by
    obtain ⟨ih0, ih1, ih⟩ := perm_at hW i (by omega)
    have hq : ls[i]? = some ls[i] := by simp [show i < ls.length by omega]
    obtain ⟨tk, c⟩ := wk_at hW hq
    have gd : ls.getD i ("", 0) = ls[i] := by simp [show i < ls.length by omega]
    unfold rowAt at ih ⊢
    generalize hp : ls[i] = p at *
    obtain ⟨px, pk⟩ := p
    rw [tk, rb_snoc, epsI_succ]
    have kk : ∀ pr : Str → Bool, isK ls pr i = pr px := fun pr => by
      unfold isK
      rw [hq]
      cases h : pr px <;> simp [h]
    rw [kk]
    rcases c with ⟨e, b0, b1⟩ | ⟨e, b0, b1⟩ | ⟨e, b0, b1⟩
    · have e : px = "born" := e
      subst e
      rw [stp_born]
      have hf : isE "born" = false := by unfold isE; decide +kernel
      rw [hf]
      simp only [Bool.false_eq_true, if_false, List.append_nil]
      generalize hr : rb (ls.take i) = s at *
      obtain ⟨r, b⟩ := s
      refine ⟨by omega, by omega, ?_⟩
      have e2 : (b + 2).toNat = b.toNat + 2 := by omega
      rw [e2, ints_two]
      have e3 : ((b.toNat : Nat) : Int) = b := by omega
      rw [e3]
      have p1 : (r.take pk.toNat ++ [b, b + 1] ++ r.drop pk.toNat).Perm (r ++ [b, b + 1]) := by
        rw [List.append_assoc]
        refine (List.Perm.append_left _ List.perm_append_comm).trans ?_
        rw [← List.append_assoc, List.take_append_drop]
      refine (p1.append_right _).trans ?_
      rw [List.append_assoc]
      refine (List.Perm.append_left _ List.perm_append_comm).trans ?_
      rw [← List.append_assoc]
      exact ih.append_right _
    · have e : px = "cross" := e
      subst e
      rw [stp_cross]
      have hf : isE "cross" = false := by unfold isE; decide +kernel
      rw [hf]
      simp only [Bool.false_eq_true, if_false, List.append_nil]
      refine ⟨ih0, ih1, ?_⟩
      have hk : pk.toNat + 1 < (rb (ls.take i)).1.length := by
        have b1 : pk + 1 < _ := b1
        have b0 : 0 ≤ pk := b0
        omega
      refine List.Perm.trans ?_ ih
      refine List.Perm.append_right _ ?_
      rw [swp_cut _ _ hk]
      conv => rhs; rw [cut2 _ _ hk]
      exact List.Perm.append_right _ (List.Perm.append_left _ (List.Perm.swap _ _ _))
    · have e : px = "end" := e
      subst e
      rw [stp_end]
      have hf : isE "end" = true := by unfold isE; simp
      rw [hf]
      simp only [if_true]
      refine ⟨ih0, ih1, ?_⟩
      have hk : pk.toNat + 1 < (rb (ls.take i)).1.length := by
        have b1 : pk + 1 < _ := b1
        have b0 : 0 ≤ pk := b0
        omega
      refine List.Perm.trans ?_ ih
      rw [flatP_append]
      have pr : flatP [prAt ls i] = [(rb (ls.take i)).1.getD pk.toNat 0, (rb (ls.take i)).1.getD (pk.toNat + 1) 0] := by
        unfold prAt rowAt
        rw [gd]
        simp [flatP]
      rw [pr]
      conv => rhs; rw [cut2 _ _ hk]
      generalize (rb (ls.take i)).1.take pk.toNat = A
      generalize (rb (ls.take i)).1.drop (pk.toNat + 2) = B
      generalize [(rb (ls.take i)).1.getD pk.toNat 0, (rb (ls.take i)).1.getD (pk.toNat + 1) 0] = C
      generalize flatP (epsI ls i) = F
      rw [List.append_assoc, List.append_assoc, List.append_assoc]
      refine List.Perm.append_left _ ?_
      rw [← List.append_assoc]
      exact List.perm_append_comm
/-- the pairs at the ends of a drawing -/
def eps (ls : List (Str × Int)) : List (Int × Int) := epsI ls ls.length
def nTh (ls : List (Str × Int)) : Nat := 2 * (eps ls).length
theorem eps_perm {ls : List (Str × Int)} (hW : Wk ls 0) : (flatP (eps ls)).Perm (upto (nTh ls)) := by
  obtain ⟨h0, h1, h2⟩ := perm_at hW ls.length (Nat.le_refl _)
  have e : rowAt ls ls.length = [] := by
    unfold rowAt
    rw [List.take_of_length_le (Nat.le_refl _)]
    have := wk_len hW
    exact List.length_eq_zero_iff.mp (by omega)
  rw [e, List.nil_append] at h2
  have hl := h2.length_eq
  rw [ints_len, flatP_len] at hl
  show (flatP (epsI ls ls.length)).Perm (upto (2 * (epsI ls ls.length).length))
  rw [hl]
  exact h2
def mOf : List (Int × Int) → Int → Int
  | [], _ => 0
  | p :: r, x => if x = p.1 then p.2 else if x = p.2 then p.1 else mOf r x
theorem mOf_at : ∀ {ps : List (Int × Int)} {u l : Int}, (flatP ps).Nodup → (u, l) ∈ ps → mOf ps u = l ∧ mOf ps l = u
  | [], _, _, _, h => by cases h
  | p :: r, u, l, nd, h => by
    have e : flatP (p :: r) = p.1 :: p.2 :: flatP r := by simp [flatP]
    rw [e] at nd
    obtain ⟨n1, nd2⟩ := List.nodup_cons.mp nd
    obtain ⟨n2, nd3⟩ := List.nodup_cons.mp nd2
    rcases List.mem_cons.mp h with z | z
    · subst z
      refine ⟨by simp [mOf], ?_⟩
      have : l ≠ u := fun z => n1 (by simp [z])
      simp [mOf, this]
    · have m1 : u ∈ flatP r := List.mem_flatMap.mpr ⟨(u, l), z, by simp⟩
      have m2 : l ∈ flatP r := List.mem_flatMap.mpr ⟨(u, l), z, by simp⟩
      have ih := mOf_at nd3 z
      have a1 : u ≠ p.1 := fun z => n1 (List.mem_cons_of_mem _ (z ▸ m1))
      have a2 : u ≠ p.2 := fun z => n2 (z ▸ m1)
      have a3 : l ≠ p.1 := fun z => n1 (List.mem_cons_of_mem _ (z ▸ m2))
      have a4 : l ≠ p.2 := fun z => n2 (z ▸ m2)
      simp only [mOf, a1, a2, a3, a4, if_false]
      exact ih
theorem flatP_pair {ps : List (Int × Int)} (nd : (flatP ps).Nodup) {u l : Int} (h : (u, l) ∈ ps) : u ≠ l := by
  induction ps with
  | nil => cases h
  | cons p r ih =>
    have e : flatP (p :: r) = p.1 :: p.2 :: flatP r := by simp [flatP]
    rw [e] at nd
    obtain ⟨n1, nd2⟩ := List.nodup_cons.mp nd
    obtain ⟨n2, nd3⟩ := List.nodup_cons.mp nd2
    rcases List.mem_cons.mp h with z | z
    · subst z; intro z; exact n1 (by simp [z])
    · exact ih nd3 z
theorem eps_mates {ls : List (Str × Int)} (hW : Wk ls 0) : Mates (mOf (eps ls)) (nTh ls) := by
  have pm := eps_perm hW
  have nd : (flatP (eps ls)).Nodup := pm.nodup_iff.mpr (ints_nodup _)
  have get : ∀ x : Int, 0 ≤ x → x < (nTh ls : Int) → ∃ u l, (u, l) ∈ eps ls ∧ (x = u ∨ x = l) := fun x h0 h1 => by
    have : x ∈ flatP (eps ls) := pm.mem_iff.mpr (mem_ints.mpr ⟨h0, h1⟩)
    obtain ⟨p, hp, hx⟩ := List.mem_flatMap.mp this
    exact ⟨p.1, p.2, hp, by simpa using hx⟩
  have dom : ∀ u l, (u, l) ∈ eps ls → (0 ≤ u ∧ u < (nTh ls : Int)) ∧ (0 ≤ l ∧ l < (nTh ls : Int)) := fun u l h =>
    ⟨mem_ints.mp (pm.mem_iff.mp (List.mem_flatMap.mpr ⟨(u, l), h, by simp⟩)), mem_ints.mp (pm.mem_iff.mp (List.mem_flatMap.mpr ⟨(u, l), h, by simp⟩))⟩
  refine ⟨fun x h0 h1 => ?_, fun x h0 h1 => ?_, fun x h0 h1 => ?_, fun x h0 h1 => ?_, by unfold nTh; omega⟩
  all_goals
    obtain ⟨u, l, hm, rfl | rfl⟩ := get x h0 h1
    all_goals
      obtain ⟨a, b⟩ := mOf_at nd hm
      obtain ⟨d1, d2⟩ := dom _ _ hm
      have ne := flatP_pair nd hm
      first
        | (rw [a]; exact d2.1)
        | (rw [b]; exact d1.1)
        | (rw [a]; exact d2.2)
        | (rw [b]; exact d1.2)
        | (rw [a, b])
        | (rw [b, a])
        | (rw [a]; exact Ne.symm ne)
        | (rw [b]; exact ne)
theorem xor_bw {x : Int} (h : 0 ≤ x) : Builtin.bitXor x 1 = bw x := by
  obtain ⟨n, rfl⟩ := Int.eq_ofNat_of_zero_le h
  unfold bw
  have ho : Builtin.bitOr (n : Int) 1 = ((n ||| 1 : Nat) : Int) := by
    have e1 : decide (0 ≤ Builtin.bitNot (n : Int)) = false := by unfold Builtin.bitNot; rw [decide_eq_false_iff_not]; omega
    have e2 : decide (0 ≤ Builtin.bitNot (1 : Int)) = false := by decide
    have e3 : (Builtin.bitNot (Builtin.bitNot (n : Int))).toNat = n := by unfold Builtin.bitNot; omega
    have e4 : (Builtin.bitNot (Builtin.bitNot (1 : Int))).toNat = 1 := by decide
    unfold Builtin.bitOr Builtin.bitAnd
    rw [e1, e2]
    simp only [e3, e4]
    unfold Builtin.bitNot
    omega
  have ha : Builtin.bitAnd (n : Int) 1 = ((n &&& 1 : Nat) : Int) := by
    unfold Builtin.bitAnd
    simp
  unfold Builtin.bitXor
  rw [ho, ha]
  have h1 : n &&& 1 = n % 2 := Nat.and_one_is_mod n
  have h2 : n ||| 1 = n + 1 - n % 2 := by
    have d : (n ||| 1) / 2 = n / 2 := by rw [Nat.or_div_two]; simp
    have m : (n ||| 1) % 2 = 1 := Nat.or_mod_two_eq_one.mpr (.inr rfl)
    omega
  rw [h1, h2]
  split <;> omega
end L2

/-! xs != [], in and not in within blocks, pairs as data. -/
namespace L2
open PySem PySem.Spec PyProof.Rows
section
variable {X : Cx}
def rNeNil (K : PySem.W.Frag) : R2 := fun x y H Q => ∃ (p q : Addr) (xs : List V), x = .ref p ∧ y = .ref q ∧ SqL K H p xs ∧ SqL K H q [] ∧ Q (.bl (!xs.isEmpty)) H
theorem op_neNil (hu : X.A.units + 64 < cLine) : OpR X (compareOp .NotEq) (rNeNil X.K) := by
  intro pins s σ H x y v u Q I rx ry h
  obtain ⟨p, q, xs, rfl, rfl, hp, hq, hQ⟩ := h
  cases rx
  cases ry
  obtain ⟨its, r1, p1, _⟩ := I.list hp
  obtain ⟨its2, r2, p2, _⟩ := I.list hq
  have l1 := r1.length
  have l2 := r2.length
  cases xs with
  | nil =>
    refine SeqAt.RcNeAt.lists (e := fun _ => true) p1.isList p2.isList (by simp only [List.size_toArray]; omega) (by omega) (fun j h1 h2 => ?_) X.prog X.w _ _ ⟨.bl false, H, I, ?_, hQ⟩
    · rw [List.size_toArray] at h1
      have : its.length = 0 := by simpa using l1.symm
      omega
    · show Value.bool _ = Value.bool false
      simp
  | cons z zs =>
    refine SeqAt.RcNeAt.lists_lengths p1.isList p2.isList (by simp only [List.size_toArray]; rw [bne_iff_ne]; simp at l1 l2; omega) (by omega) X.prog X.w _ _ ⟨.bl true, H, I, rfl, hQ⟩
theorem op_neNilK {K : PySem.W.Frag} (h : X.K = K) (hu : X.A.units + 64 < cLine) : OpR X (compareOp .NotEq) (rNeNil K) := h ▸ op_neNil hu
end
/-! pairs of ints in tuples -/
def PairsV (H : Hp) (ys : List V) (ps : List (Int × Int)) : Prop := Paired (fun v (p : Int × Int) => ∃ a, v = V.ref a ∧ H a = some (.tup [.int p.1, .int p.2])) ys ps
theorem PairsV.mono {H H' : Hp} (h : ∀ t p, H t = some (.tup p) → H' t = some (.tup p)) : ∀ {xs : List V} {ps : List (Int × Int)}, PairsV H xs ps → PairsV H' xs ps
  | _, _, .nil => .nil
  | _, _, .cons ⟨t, e, q⟩ r => .cons ⟨t, e, h t _ q⟩ (PairsV.mono h r)
theorem PairsV.len {H : Hp} {xs : List V} {ps : List (Int × Int)} (h : PairsV H xs ps) : xs.length = ps.length := Paired.length h
theorem PairsV.get {H : Hp} : ∀ {xs : List V} {ps : List (Int × Int)} {i : Nat} {x : V}, PairsV H xs ps → xs[i]? = some x → ∃ p t, ps[i]? = some p ∧ x = .ref t ∧ H t = some (.tup [.int p.1, .int p.2])
  | _, _, _, _, .nil, e => by simp at e
  | _, _, 0, _, .cons ⟨t, e1, q⟩ _, e => by simp at e; subst e; exact ⟨_, t, rfl, e1, q⟩
  | _, _, i + 1, x, .cons _ r, e => by
    obtain ⟨p, t, h1, h2⟩ := PairsV.get (i := i) (x := x) r (by simpa using e)
    exact ⟨p, t, by simpa using h1, h2⟩
theorem PairsV.snoc {H : Hp} {xs : List V} {ps : List (Int × Int)} {t : Addr} {p : Int × Int} (h : PairsV H xs ps) (e : H t = some (.tup [.int p.1, .int p.2])) : PairsV H (xs ++ [.ref t]) (ps ++ [p]) := Paired.snoc h ⟨t, rfl, e⟩
/-! rows by their numbers -/
theorem RowsV.at {H : Hp} : ∀ {xs : List V} {rs : List (List Int)} {i : Nat} {r : List Int}, RowsV H xs rs → rs[i]? = some r → ∃ p, xs[i]? = some (.ref p) ∧ H p = some (.lst (r.map V.int))
  | _, _, _, _, .nil, e => by simp at e
  | _, _, 0, _, .cons ⟨t, e1, q⟩ _, e => by simp at e; subst e; exact ⟨t, by simp [e1], q⟩
  | _, _, i + 1, r, .cons _ rr, e => by
    obtain ⟨p, h1, h2⟩ := RowsV.at (i := i) (r := r) rr (by simpa using e)
    exact ⟨p, by simpa using h1, h2⟩
theorem RowsV.atX {H : Hp} : ∀ {xs : List V} {rs : List (List Int)} {i : Nat} {x : V}, RowsV H xs rs → xs[i]? = some x → ∃ (p : Addr) (r : List Int), rs[i]? = some r ∧ x = .ref p ∧ H p = some (.lst (r.map V.int))
  | _, _, _, _, .nil, e => by simp at e
  | _, _, 0, _, .cons ⟨t, e1, q⟩ _, e => by simp at e; subst e; exact ⟨t, _, rfl, e1, q⟩
  | _, _, i + 1, x, .cons _ r, e => by
    obtain ⟨p, q, h1, h2⟩ := RowsV.atX (i := i) (x := x) r (by simpa using e)
    exact ⟨p, q, by simpa using h1, h2⟩
theorem rowsOf_at (ls : List (Str × Int)) {i n : Nat} (h : i < n) : (rowsOf ls n)[i]? = some (rowAt ls i) := by
  unfold rowsOf rowAt
  rw [List.getElem?_map]
  simp [h]
/-- a letter that is no birth takes two strands that are there -/
theorem nb_at {ls : List (Str × Int)} (hW : Wk ls 0) {t : Nat} {q : Str × Int} (hq : ls[t]? = some q) (hb : q.1 ≠ "born") : 0 ≤ q.2 ∧ q.2.toNat + 1 < (rowAt ls t).length ∧ prAt ls t = ((rowAt ls t).getD q.2.toNat 0, (rowAt ls t).getD (q.2.toNat + 1) 0) := by
  obtain ⟨_, c⟩ := wk_at hW hq
  have gd : ls.getD t ("", 0) = q := by simp [hq]
  have e : prAt ls t = ((rowAt ls t).getD q.2.toNat 0, (rowAt ls t).getD (q.2.toNat + 1) 0) := by unfold prAt; rw [gd]
  rcases c with ⟨z, _⟩ | ⟨_, b0, b1⟩ | ⟨_, b0, b1⟩
  · exact absurd z hb
  · exact ⟨b0, by unfold rowAt; omega, e⟩
  · exact ⟨b0, by unfold rowAt; omega, e⟩
theorem map_int_at {ns : List Int} {i : Nat} {x : V} (h : (ns.map V.int)[i]? = some x) : ∃ t, ns[i]? = some t ∧ x = V.int t := by
  rw [List.getElem?_map] at h
  cases e : ns[i]? with
  | none => rw [e] at h; cases h
  | some z => rw [e] at h; exact ⟨z, rfl, (Option.some.inj h).symm⟩
theorem take_map_snoc {α β : Type} {ns : List α} {i : Nat} {t : α} (f : α → β) (h : ns[i]? = some t) : (ns.take (i + 1)).map f = (ns.take i).map f ++ [f t] := by
  rw [List.take_add_one, h]
  simp
theorem locI_mem {ls : List (Str × Int)} {pr : Str → Bool} {n : Nat} {x : Int} (h : x ∈ locI ls pr n) : 0 ≤ x ∧ x.toNat < n ∧ ∃ q, ls[x.toNat]? = some q ∧ pr q.1 = true := by
  unfold locI at h
  obtain ⟨i, hi, e⟩ := List.mem_filterMap.mp h
  have hi' := List.mem_range.mp hi
  by_cases hk : isK ls pr i = true
  · rw [if_pos hk] at e
    have e : (i : Int) = x := Option.some.inj e
    subst e
    refine ⟨by omega, by simpa using hi', ?_⟩
    unfold isK at hk
    cases hq : ls[i]? with
    | none => rw [hq] at hk; cases hk
    | some q =>
      rw [hq] at hk
      refine ⟨q, by simpa using hq, by simpa using hk⟩
  · rw [if_neg hk] at e; cases e
theorem nTh_short {ls : List (Str × Int)} (hl : ls.length ≤ 60) : nTh ls ≤ 120 := by
  unfold nTh eps epsI
  rw [List.length_map]
  have := locI_len ls isE ls.length
  omega
end L2

/-! sum of a list of ints. -/
namespace L2
open PySem PySem.Spec PyProof.Rows
section
variable {X : Cx} {pins : List (Addr × Obj)} {σ : St} {H : Hp} {s : Shared}
/-- all kept but the frame's own object, whose map is kept -/
theorem Inv.keptN {h' : Heap} {t' : Nat} {m : Str → Option Value} (I : Inv X pins σ H s) (F : Fr X.base X.env.locals s.heap m) (F' : Fr X.base X.env.locals h' m)
    (N' : News X.base X.env.locals h' (allNews X.base s.heap X.env.locals)) : Inv X pins σ H { s with heap := h', toks := t' } := by
  have kp : ∀ b u, b ≠ X.env.locals → s.heap.get? b = some u → h'.get? b = some u := fun b u hb e => by
    cases q : X.base.get? b with
    | some v =>
      have e1 := F'.keep b v q
      have e2 := F.keep b v q
      rw [e] at e2
      cases e2
      exact e1
    | none => exact (N' (b, u) (mem_allNews hb q e)).1
  have neL : ∀ b u, H b = some u → b ≠ X.env.locals := fun b u e z => by rw [z, I.free] at e; cases e
  refine I.step (g' := s.gens) (d' := s.drawn) (ch := []) (fun _ z => nomatch z) (fun b ob hb _ _ e _ => kp b ob hb e) (fun b ob hb _ _ e _ => ⟨ob.slots, kp b ob hb e⟩) (fun b ob _ e n => n) (fun b ob _ e => ?_) (fun b xs e => e) (fun b ob u e => e) (fun b ps e => ⟨#[], by rw [e]; simp⟩) (fun m' hm => ?_) (fun b u e => ?_) I.bare
  · by_cases hb : b = X.env.locals
    · subst hb
      obtain ⟨ob', _, _, z, _⟩ := F'.ns
      exact ⟨ob', z⟩
    · exact ⟨ob, kp b ob hb e⟩
  · rw [ns_inj hm F.ns]; exact F'.ns
  · refine (I.hok b u e).stay (fun c v hc q => kp c v ?_ q) (fun c q => q) fun c xs q => q
    rcases hc with z | z
    · subst z; exact neL _ u e
    · exact neL c _ z
end
section
variable {X : Cx}
end
end L2

/-! zip of two lists; max of a list; list.index; x is True. -/
namespace L2
open PySem PySem.Spec PyProof.Rows PyProof.V
section
variable {X : Cx}
/-! max of a list of ints -/
theorem call_maxL (hc : X.calm = true) : CallR X (.builtin "max") (fun xs H Q => ∃ (p : Addr) (ns : List Int), xs = [.ref p] ∧ SqL X.K H p (ns.map V.int) ∧ 0 < ns.length ∧ ∀ M : Int, M ∈ ns → (∀ a ∈ ns, a ≤ M) → Q (.int M) H) := by
  intro pins s σ H xs us Q I r h
  obtain ⟨p, ns, rfl, hq, hl, q⟩ := h
  obtain ⟨u, rfl, ru⟩ := r.one
  cases ru
  obtain ⟨its, rv, pl, hz⟩ := I.list hq
  obtain ⟨m, fr⟩ := I.fr
  refine max_list_N (I.ok.hd hc) fr (news := allNews X.base s.heap X.env.locals) news_all pl.isList (ints_of_vals rv) hl fun h' M t tk fr' nw' hm hle => ?_
  exact ⟨.int M, H, I.keptN fr fr' nw', ⟨t, rfl⟩, q M hm hle⟩
theorem call_maxLK {K : PySem.W.Frag} (h : X.K = K) (hc : X.calm = true) : CallR X (.builtin "max") (fun xs H Q => ∃ (p : Addr) (ns : List Int), xs = [.ref p] ∧ SqL K H p (ns.map V.int) ∧ 0 < ns.length ∧ ∀ M : Int, M ∈ ns → (∀ a ∈ ns, a ≤ M) → Q (.int M) H) := h ▸ call_maxL hc
end
end L2

/-! x is not True; a text in a dict of the module's. -/
namespace L2
open PySem PySem.Spec PyProof.Rows PyProof.V
section
variable {X : Cx}
end
end L2

/-! what is never come to -/
namespace L2
open PySem PySem.Spec PyProof.Rows
section
variable {X : Cx}
end
end L2

/-! xs[a:c] = ys where c may lie past the end; tuple + tuple within a def; things of all kinds. -/
namespace L2
open PySem PySem.Spec PyProof.Rows PyProof.V
section
variable {prog : Program} {w : World} {A : Around} {E : Value → Shared → Prop} {s : Shared}
end
section
variable {X : Cx}
end
/-! things -/
inductive Sim (H : Hp) : V → Prop
  | non : Sim H .non
  | bl (b : Bool) : Sim H (.bl b)
  | int (i : Int) : Sim H (.int i)
  | str (x : Str) : Sim H (.str x)
  | lst {a : Addr} {xs : List V} (e : H a = some (.lst xs)) : Sim H (.ref a)
  | tup {a : Addr} {xs : List V} (e : H a = some (.tup xs)) : Sim H (.ref a)
def isStr : V → Bool
  | .str _ => true
  | _ => false
def isIn : V → Bool
  | .int _ => true
  | _ => false
/-- a letter's place: a letter's tuple, or another thing -/
inductive LetR (H : Hp) : V → Option (Str × Int) → Prop
  | yes {a : Addr} {x : Str} {k : Int} (e : H a = some (.tup [.str x, .int k])) : LetR H (.ref a) (some (x, k))
  | non : LetR H .non none
  | bl (b : Bool) : LetR H (.bl b) none
  | int (i : Int) : LetR H (.int i) none
  | str (x : Str) : LetR H (.str x) none
  | lst {a : Addr} {xs : List V} (e : H a = some (.lst xs)) : LetR H (.ref a) none
  | len {a : Addr} {xs : List V} (e : H a = some (.tup xs)) (n : xs.length ≠ 2) : LetR H (.ref a) none
  | fst {a : Addr} {u w : V} (e : H a = some (.tup [u, w])) (s : Sim H u) (n : isStr u = false) : LetR H (.ref a) none
  | snd {a : Addr} {x : Str} {w : V} (e : H a = some (.tup [.str x, w])) (s : Sim H w) (n : isIn w = false) : LetR H (.ref a) none
end L2

/-! the arguments of a display, one by one: no star -/
namespace L2
open PySem PySem.Spec PyProof.Rows
section
variable {env : Env} {r : List Expr}
end
end L2

/-! the rules of displays, closed: what stands within is not looked into -/
namespace L2
open PySem PySem.Spec PyProof.Rows
section
variable {X : Cx} {e a b : Expr} {es : List Expr} {te ta tb : TE} {t : TA} {pos : Pos} {st : Stmt} {rest : List Stmt} {ts us : TS}
structure PEc (X : Cx) (e : Expr) (t : TE) : Prop where
  out : PE X e t
structure PAc (X : Cx) (es : List Expr) (t : TA) : Prop where
  out : PA X es t
structure PSc (X : Cx) (st : Stmt) (t : TS) : Prop where
  out : PS X st t
structure PSsc (X : Cx) (st : List Stmt) (t : TS) : Prop where
  out : PSs X st t
end
end L2

/-! displays of constants, as trees: one rule for a whole display -/
namespace L2
open PySem PySem.Spec PyProof.Rows
inductive Lit
  | non | bl (b : Bool) | int (i : Int) | str (x : Str) | tup (l : List Lit) | lst (l : List Lit)
mutual
inductive RepL (H : Hp) : V → Lit → Prop
  | non : RepL H .non .non
  | bl (b : Bool) : RepL H (.bl b) (.bl b)
  | int (i : Int) : RepL H (.int i) (.int i)
  | str (x : Str) : RepL H (.str x) (.str x)
  | tup {a : Addr} {xs : List V} {l : List Lit} (e : H a = some (.tup xs)) (r : RepLs H xs l) : RepL H (.ref a) (.tup l)
  | lst {a : Addr} {xs : List V} {l : List Lit} (e : H a = some (.lst xs)) (r : RepLs H xs l) : RepL H (.ref a) (.lst l)
inductive RepLs (H : Hp) : List V → List Lit → Prop
  | nil : RepLs H [] []
  | cons {v : V} {vs : List V} {l : Lit} {ls : List Lit} (a : RepL H v l) (r : RepLs H vs ls) : RepLs H (v :: vs) (l :: ls)
end
section
variable {X : Cx} {G : St → Hp → Prop} {e a b : Expr} {es : List Expr} {pos : Pos} {l : Lit} {ls la lb : List Lit}
def tL (G : St → Hp → Prop) (l : Lit) : TE := fun σ H Q => G σ H ∧ ∀ v H', Same H H' → RepL H' v l → Q v H'
def tLs (G : St → Hp → Prop) (l : List Lit) : TA := fun σ H Q => G σ H ∧ ∀ v H', Same H H' → RepLs H' v l → Q v H'
structure PL (X : Cx) (G : St → Hp → Prop) (e : Expr) (l : Lit) : Prop where
  out : PE X e (tL G l)
structure PLs (X : Cx) (G : St → Hp → Prop) (es : List Expr) (l : List Lit) : Prop where
  out : PA X es (tLs G l)
end
end L2
namespace L2
open PySem PySem.Spec PyProof.Rows
end L2
namespace L2
open PySem PySem.Spec PyProof.Rows
section
variable {X : Cx} {G : St → Hp → Prop} {es : List Expr} {pos : Pos} {ls : List Lit}
end
end L2

/-! a statement with a word of one's own between it and the rest -/
namespace L2
open PySem PySem.Spec PyProof.Rows
section
variable {X : Cx} {st : Stmt} {rest : List Stmt} {t u : TS}
end
end L2

/-! exceptions over the layer: how one lies behind a call, how it leaves a frame -/
namespace L2
open PySem PySem.Spec PyProof.Rows
section
variable {M : Model} {A : Around} {E : Value → Shared → Prop} {s : Shared} {env : Env} {outer : List Env} {L a T : Addr} {C : Value} {base h : Heap} {Q : Unit → Shared → Prop}
end
end L2

/-! an exception behind a call, within the layer's promise of a def -/
namespace L2
open PySem PySem.Spec PyProof.Rows
section
variable {P : Program} {w : World} {K : PySem.W.Frag} {mg : Str → Option Value} {base : Heap} {N : List Str} {qual : Str} {scope : Scope} {f : Addr} {cd : Value} {A : Around} {outer : List Env} {s₀ s : Shared} {H₀ H : Hp} {E : XK} {CX : CXT} {pins : List (Addr × Obj)} {σ : L2.St}
end
end L2

/-! raise C(..) of an own class -/
namespace L2
open PySem PySem.Spec PyProof.Rows
section
variable {P : Program} {w : World} {K : PySem.W.Frag} {mg : Str → Option Value} {base : Heap} {N : List Str} {qual : Str} {scope : Scope} {f : Addr} {cd : Value} {A : Around} {outer : List Env} {s₀ : Shared} {H₀ : Hp} {E : XK}
end
end L2

/-! isinstance of an exception of an own class -/
namespace L2
open PySem PySem.Spec PyProof.Rows
structure XLook (M : Model) (h : Heap) (C : Addr) : Prop where
  ga : PySem.W.Looks M h (typeLookup (.ref C) "__getattribute__") (some (.builtin "BaseException.__getattribute__"))
  ca : PySem.W.Looks M h (typeLookup (.ref C) "__class__") (some (.builtin "object.__class__"))
  ob : PySem.W.Looks M h (isSubtype (.ref C) (.type "object")) true
  be : PySem.W.Looks M h (isSubtype (.ref C) (.type "BaseException")) true
  gn : PySem.W.Looks M h (typeLookup (.ref C) "__getattr__") none
section
variable {prog : Program} {w : World} {A : Around} {E : Value → Shared → Prop} {h : Heap} {g : Array GenState} {d : Drawn} {t : Nat} {os : OsState} {a C : Addr} {o : Obj}
end
end L2

/-! try: body; except C as n: suite -/
namespace L2
open PySem PySem.Spec PyProof.Rows
section
variable {M : Model} {A : Around} {E : Value → Shared → Prop} {h : Heap} {g : Array GenState} {d : Drawn} {t : Nat} {os : OsState}
variable {nm q nmD qD : Str} {C N D ND : Addr} {bs bm bsD bmD : List Value} {hdct hdD : Bool} {sn snD : List Str} {sub subD : List Value} {ab abD : Bool} {col colD : Option Bool} {dd ddD : Option Addr} {k0 k1 k2 k3 k5 j0 j1 j2 j3 j5 : Option Value} {newId newD : String}
end
section
variable {X : Cx} {pins ps : List (Addr × Obj)} {σ : L2.St} {H : Hp} {s : Shared}
end
end L2

/-! the rule for try -/
namespace L2
open PySem PySem.Spec PyProof.Rows
section
variable {X : Cx} {pins : List (Addr × Obj)} {σ : L2.St} {H : Hp} {s : Shared} {R : Addr → Hp → Prop}
/-- within an except suite -/
abbrev Cx.suite (X : Cx) (pins : List (Addr × Obj)) (a : Addr) : Cx := { X with pn := X.pn ++ pins, A := X.A.mark (some (.ref a)), calm := false, xe := fun _ _ => False }
end
end L2

/-! defs that raise; calls of them; calls of other defs within an except suite; isinstance there -/
namespace L2
open PySem PySem.Spec PyProof.Rows
section
variable {P : Program} {w : World} {K : PySem.W.Frag} {mg : Str → Option Value} {base : Heap}
structure RoomS (k : Nat) (A : Around) : Prop where
  dp : A.depth + 3 * k + 5 < recursionLimit
  un : A.units + 16 * k + 200 < cLine
/-- a def that may be called within an except suite, too -/
structure FnOkS (P : Program) (w : World) (K : PySem.W.Frag) (mg : Str → Option Value) (base : Heap) (k : Nat) (f : Addr) (fd : FuncData) (ps : List Str) (sp : Sp) : Prop where
  len : ∀ vs H Q E, sp vs H Q E → vs.length = ps.length
  run : ∀ (A : Around) (outer : List Env) (s : Shared) (H : Hp) (args : Args) (us : List Value) (vs : List V) (Q : VK), RoomS k A → Env0 P w K mg base A outer s H → BindsTo s fd args (ps.zip us) → Vals vs us → sp vs H Q E0 →
    codeAny (model P w) A (.call (.ref f) args) (CR CX0 outer P w H s Q E0) s
end
end L2

/-! isinstance(an exception, a class) -/
namespace L2
open PySem PySem.Spec PyProof.Rows
structure XCls (K : PySem.W.Frag) (C : Addr) : Prop where
  ga : PySem.W.findIn K (.ref C) "__getattribute__" = some (some (.builtin "BaseException.__getattribute__"))
  gn : PySem.W.findIn K (.ref C) "__getattr__" = some none
  ca : PySem.W.findIn K (.ref C) "__class__" = some (some (.builtin "object.__class__"))
  ob : PySem.W.mroIn K C (.type "object") = some true
  be : PySem.W.mroIn K C (.type "BaseException") = some true
  cl : (PySem.W.clsIn K C).isSome = true
end L2

namespace L2
open PySem PySem.Spec PyProof.Rows

end L2

/-! range(a, b, 2) and zip walked by for -/
namespace L2
open PySem PySem.Spec PyProof.Rows
section
variable {X : Cx} {tg : Expr}
end
end L2

/-! == of two lists of ints, alike or not; != of what is plain or alike; list.index -/
namespace L2
open PySem PySem.Spec PyProof.Rows PyProof.V
section
variable {X : Cx}
def rIndex (K : PySem.W.Frag) : V → List V → Hp → VK → Prop := fun x vs H Q => ∃ (l : Addr) (xs : List V) (y : V) (j : Nat), x = .ref l ∧ vs = [y] ∧ SqL K H l xs ∧ flatV y = true ∧ xs.all flatV = true ∧ j < 1000 ∧ (∃ z, xs[j]? = some z ∧ eqV z y = true) ∧ (∀ i z, i < j → xs[i]? = some z → eqV z y = false) ∧ Q (.int j) H
theorem mt_index : MtM X "list.index" (rIndex X.K) := by
  intro pins s σ H x vs v us Q I rx rv h
  obtain ⟨l, xs, y, j, rfl, rfl, hq, fy, fx, j1, ⟨z, hz, ez⟩, no, q⟩ := h
  cases rx
  obtain ⟨u, rfl, ru⟩ := rv.one
  obtain ⟨its, r, pl, hsz⟩ := I.list hq
  obtain ⟨⟨c, dd, dt, sl⟩, ho, hc, n, hd⟩ := pl.isList
  simp only at hc hd
  subst hc hd
  have lr := r.length
  have val : ∀ i w (hi : i < its.toArray.size), xs[i]? = some w → eqU y its.toArray[i] = eqV w y := fun i w hi e => by
    obtain ⟨u', e', rw'⟩ := r.get e
    have hi' : i < its.length := by simpa using hi
    have e2 : its[i]? = some its[i] := by simp [hi']
    rw [e2] at e'
    have e3 : its.toArray[i] = u' := by simpa using Option.some.inj e'
    rw [e3]
    exact eqU_of rw' (List.all_eq_true.mp fx w (List.mem_of_getElem? e))
  have hj : j < its.toArray.size := by
    have := (List.getElem?_eq_some_iff.mp hz).1
    simp only [List.size_toArray]
    omega
  refine call_meets F.slot_list_index ⟨_, ho, rfl⟩ F.entry_list_index (F.args_list_index_2 _ _) (SeqAt.list_indexAt l its.toArray n dd sl u (eqU y) j hj (by omega) ?_ ?_) ⟨ho, fun w hw => mem_eqAt ru fy r fx w (by simpa using hw), ?_⟩
  · rw [val j z hj hz]; exact ez
  · intro m hm hmj
    have hx : xs[m]? = some (xs[m]'(by simp only [List.size_toArray] at hm; omega)) := by simp
    rw [val m _ hm hx]
    exact no m _ hmj hx
  · exact ⟨.int j, H, I.tok _, ⟨_, rfl⟩, q⟩
theorem mt_indexK {K : PySem.W.Frag} (h : X.K = K) : MtM X "list.index" (rIndex K) := h ▸ mt_index
end
end L2

/-! Sets of some of 0, 1, 2, 3: set(a list of such), sorted(such a set). -/
namespace L2
open PySem PySem.Spec PyProof.Rows
def sub4 (b : Nat → Bool) : List Nat := (bif b 0 then [0] else []) ++ ((bif b 1 then [1] else []) ++ ((bif b 2 then [2] else []) ++ (bif b 3 then [3] else [])))
def tab4 (b : Nat → Bool) (led : Bool) (f m : Nat) : SetTable := { mask := 7, place := (sub4 b).toArray, dummies := #[], finger := f, led := led, moves := m, plain := true }
def add4 (b : Nat → Bool) (k : Nat) : Nat → Bool := fun j => b j || decide (j = k)
/-- how many of them lie below -/
def pos4 (b : Nat → Bool) (k : Nat) : Nat := ((sub4 b).filter (decide <| · < k)).length
theorem lt4 {k : Nat} (h : k < 4) : k = 0 ∨ k = 1 ∨ k = 2 ∨ k = 3 := by omega
theorem sub4_len (b : Nat → Bool) : (sub4 b).length ≤ 4 := by
  unfold sub4
  cases b 0 <;> cases b 1 <;> cases b 2 <;> cases b 3 <;> decide
theorem mem_sub4 {b : Nat → Bool} {j : Nat} : j ∈ sub4 b ↔ j < 4 ∧ b j = true := by
  unfold sub4
  constructor
  · intro h
    cases h0 : b 0 <;> cases h1 : b 1 <;> cases h2 : b 2 <;> cases h3 : b 3 <;> simp [h0, h1, h2, h3] at h <;> (first | (rcases h with rfl | rfl | rfl | rfl <;> simp [h0, h1, h2, h3]) | (rcases h with rfl | rfl | rfl <;> simp [h0, h1, h2, h3]) | (rcases h with rfl | rfl <;> simp [h0, h1, h2, h3]) | (subst h; simp [h0, h1, h2, h3]))
  · rintro ⟨h, hb⟩
    rcases lt4 h with rfl | rfl | rfl | rfl <;> simp [hb]
theorem sub4_sorted (b : Nat → Bool) : (sub4 b).Pairwise (· < ·) := by
  unfold sub4
  cases b 0 <;> cases b 1 <;> cases b 2 <;> cases b 3 <;> decide
theorem sub4_congr {b c : Nat → Bool} (h : ∀ j, j < 4 → b j = c j) : sub4 b = sub4 c := by
  unfold sub4; rw [h 0 (by omega), h 1 (by omega), h 2 (by omega), h 3 (by omega)]
theorem free4 {b : Nat → Bool} {k : Nat} (led : Bool) (f m : Nat) (hk : k < 4) (hb : b k = false) : (tab4 b led f m).freeSlot (k : Int) = some (k, false) := by
  unfold tab4 sub4
  rcases lt4 hk with rfl | rfl | rfl | rfl <;> rw [hb]
  · cases b 1 <;> cases b 2 <;> cases b 3 <;> kernel_rfl
  · cases b 0 <;> cases b 2 <;> cases b 3 <;> kernel_rfl
  · cases b 0 <;> cases b 1 <;> cases b 3 <;> kernel_rfl
  · cases b 0 <;> cases b 1 <;> cases b 2 <;> kernel_rfl
theorem put4 {b : Nat → Bool} {k : Nat} (led : Bool) (f m : Nat) (hk : k < 4) (hb : b k = false) : (tab4 b led f m).put k = (tab4 (add4 b k) led f m, pos4 b k) := by
  unfold tab4 pos4 sub4 add4
  rcases lt4 hk with rfl | rfl | rfl | rfl <;> rw [hb]
  · cases b 1 <;> cases b 2 <;> cases b 3 <;> kernel_rfl
  · cases b 0 <;> cases b 2 <;> cases b 3 <;> kernel_rfl
  · cases b 0 <;> cases b 1 <;> cases b 3 <;> kernel_rfl
  · cases b 0 <;> cases b 1 <;> cases b 2 <;> kernel_rfl
theorem ins4 {b : Nat → Bool} {k : Nat} (hk : k < 4) (hb : b k = false) : (sub4 b).take (pos4 b k) ++ k :: (sub4 b).drop (pos4 b k) = sub4 (add4 b k) := by
  unfold pos4 sub4 add4
  rcases lt4 hk with rfl | rfl | rfl | rfl <;> rw [hb]
  · cases b 1 <;> cases b 2 <;> cases b 3 <;> kernel_rfl
  · cases b 0 <;> cases b 2 <;> cases b 3 <;> kernel_rfl
  · cases b 0 <;> cases b 1 <;> cases b 3 <;> kernel_rfl
  · cases b 0 <;> cases b 1 <;> cases b 2 <;> kernel_rfl
/-- the slot that is looked at next, behind i items -/
def slt4 (b : Nat → Bool) : Nat → Nat
  | 0 => 0
  | i + 1 => (sub4 b).getD i 0 + 1
theorem below4 (b : Nat → Bool) {i : Nat} (h : i ≤ (sub4 b).length) : SetTable.below (sub4 b).toArray (slt4 b i) = i := by
  have h4 := sub4_len b
  have : i = 0 ∨ i = 1 ∨ i = 2 ∨ i = 3 ∨ i = 4 := by omega
  unfold slt4 sub4 at *
  revert h
  rcases this with rfl | rfl | rfl | rfl | rfl <;> cases b 0 <;> cases b 1 <;> cases b 2 <;> cases b 3 <;> decide
theorem hash4 {k : Nat} (h : k < 4) : hashInt (k : Int) = (k : Int) := by
  rcases lt4 h with rfl | rfl | rfl | rfl <;> decide
theorem full4 (b : Nat → Bool) (led : Bool) (f m : Nat) : (tab4 b led f m).tooFull = false := by
  unfold tab4 sub4
  cases b 0 <;> cases b 1 <;> cases b 2 <;> cases b 3 <;> kernel_rfl
theorem fits4 (b : Nat → Bool) (led : Bool) (f m : Nat) : (tab4 b led f m).fits (sub4 b).length = true := by
  unfold tab4 sub4
  cases b 0 <;> cases b 1 <;> cases b 2 <;> cases b 3 <;> kernel_rfl
theorem erase_perm {α : Type} : ∀ {l : List α} {i : Nat} (h : i < l.length), ([l[i]] ++ l.eraseIdx i).Perm l
  | _ :: _, 0, _ => .refl _
  | x :: l, i + 1, h => by
    have := erase_perm (l := l) (i := i) (by simpa using h)
    exact (List.Perm.swap _ _ _).trans (this.cons x)
/-- one order is as good as another -/
theorem pick_perm {α : Type} (nx : Nat → Nat) : ∀ (n k : Nat) (left : List α) (out : Array α), left.length = n → (pickOrder.go nx n k left out).toList.Perm (out.toList ++ left)
  | 0, k, left, out, h => by
    cases left with
    | nil => simp [pickOrder.go]
    | cons _ _ => cases h
  | n + 1, k, left, out, h => by
    have hi : nx k % left.length < left.length := Nat.mod_lt _ (by omega)
    unfold pickOrder.go
    rw [List.getElem?_eq_getElem hi]
    dsimp only
    refine (pick_perm nx n (k + 1) _ _ (by rw [List.length_eraseIdx_of_lt hi]; omega)).trans ?_
    rw [Array.toList_push, List.append_assoc]
    exact List.Perm.append_left _ (erase_perm hi)
theorem pick_ok {α : Type} (nx : Nat → Nat) (xs : Array α) : (pickOrder nx xs).toList.Perm xs.toList := by
  have := pick_perm nx xs.size 0 xs.toList #[] (by simp)
  simpa [pickOrder] using this
theorem paired_ins {α β : Type} {F : α → β → Prop} {x : α} {y : β} (hxy : F x y) : ∀ (p : Nat) {l : List α} {r : List β}, Paired F l r → Paired F (l.take p ++ x :: l.drop p) (r.take p ++ y :: r.drop p)
  | 0, _, _, h => .cons hxy h
  | p + 1, _, _, .nil => .cons hxy .nil
  | p + 1, _, _, .cons a t => .cons a (paired_ins hxy p t)
end L2

namespace L2
open PySem PySem.Spec PyProof.Rows
def EK : Int × Value → Nat → Prop := fun e k => e.1 = hashInt (k : Int) ∧ ∃ t, e.2 = .int (k : Int) t
/-- at a stands the set of those of 0, 1, 2, 3 that b tells, which only grew -/
def SO (w : World) (a : Addr) (b : Nat → Bool) (ep : Nat) (es : Array (Int × Value)) (h : Heap) : Prop :=
  ∃ o led f m, h.get? a = some o ∧ o.ExactSet ∧ o.data = .set es ep (tab4 b led f m) ∧ (w.params.followText "set-order" = true ∨ led = true) ∧ Paired EK es.toList (sub4 b)
theorem SO.kept {w : World} {a : Addr} {b : Nat → Bool} {ep : Nat} {es : Array (Int × Value)} {h h' : Heap} (x : SO w a b ep es h) (k : ∀ o, h.get? a = some o → h'.get? a = some o) : SO w a b ep es h' :=
  let ⟨o, led, f, m, e, r⟩ := x; ⟨o, led, f, m, k o e, r⟩
theorem SO.congr {w : World} {a : Addr} {b c : Nat → Bool} {ep : Nat} {es : Array (Int × Value)} {h : Heap} (x : SO w a b ep es h) (q : ∀ j, j < 4 → b j = c j) : SO w a c ep es h := by
  obtain ⟨o, led, f, m, e, e2, e3, e4, e5⟩ := x
  have z := sub4_congr q
  exact ⟨o, led, f, m, e, e2, by rw [e3]; unfold tab4; rw [z], e4, z ▸ e5⟩
section
variable {prog : Program} {w : World} {A : Around} {E : Value → Shared → Prop} {s : Shared} {a : Addr} {b : Nat → Bool} {ep : Nat} {es : Array (Int × Value)}
theorem ek_elems {l : List (Int × Value)} {ks : List Nat} (h : Paired EK l ks) : ElemsOf (intKind prog w) l := by
  induction h with
  | nil => intro e he; cases he
  | cons q _ ih =>
    intro e he
    rename_i k' _ _ _
    obtain ⟨q1, t, q2⟩ := q
    rcases List.mem_cons.mp he with rfl | he
    · exact ⟨⟨(k' : Int), by rw [q2]; exact intKind_is _ _ _ _, q1⟩, by rw [q2]; rfl⟩
    · exact ih e he
theorem ek_find {k : Nat} {l : List (Int × Value)} {ks : List Nat} (h : Paired EK l ks) : (l.findIdx? fun e => (intKind prog w).is (k : Int) e.2) = ks.findIdx? (decide <| · = k) := by
  induction h with
  | nil => rfl
  | cons q _ ih =>
    obtain ⟨q1, t, q2⟩ := q
    rename_i e k' _ _ _
    have : (intKind prog w).is (k : Int) e.2 = decide (k' = k) := by
      have hi : (intKind prog w).is (k' : Int) e.2 = true := by rw [q2]; exact intKind_is _ _ _ _
      rw [KeyKind.is_eq_decide hi (k : Int)]
      exact decide_eq_decide.mpr ⟨fun z => by omega, fun z => by omega⟩
    rw [List.findIdx?_cons, List.findIdx?_cons, this, ih]
theorem add_4 {k : Nat} {tk : Nat} {Q : Bool → Shared → Prop} (hk : k < 4) (hS : SO w a b ep es s.heap)
    (h : ∀ h' ep' es', Heap.SameBut a s.heap h' → SO w a (add4 b k) ep' es' h' → Q (!b k) { s with heap := h' }) :
    wpAny (model prog w) A (setAddHashed a (.int (k : Int) tk) (hashInt (k : Int))) Q E s := by
  obtain ⟨o, led, f, m, ho, hex, hd, hl, hp⟩ := id hS
  have el := ek_elems (prog := prog) (w := w) hp
  have len : es.size = (sub4 b).length := by rw [← Array.length_toList]; exact Paired.length hp
  have l4 := sub4_len b
  have ft : (tab4 b led f m).fits es.size = true := by rw [len]; exact fits4 _ _ _ _
  unfold setAddHashed setAddHashedIn
  refine wpAny_holding (wpAny_bind (wpAny_setState_of ho hd ft ?_))
  dsimp only
  rw [byScan_of (knd := intKind prog w) (x := .int (k : Int) tk) rfl (by unfold scanBound; omega) el, if_pos rfl]
  unfold setAddByScan
  refine wpAny_bind (wpAny_bind (wpAny_rule ?_))
  refine wpAny_bind (wpAny_setScan_of (knd := intKind prog w) (intKind_is _ _ _ _) ho hd ft el ?_)
  rw [ek_find hp]
  cases hb : b k with
  | true =>
    have : ∃ j, (sub4 b).findIdx? (decide <| · = k) = some j := by
      cases q : (sub4 b).findIdx? (decide <| · = k) with
      | some j => exact ⟨j, rfl⟩
      | none =>
        have := List.findIdx?_eq_none_iff.mp q k (mem_sub4.mpr ⟨hk, hb⟩)
        simp at this
    obtain ⟨j, ej⟩ := this
    rw [ej]
    refine wpAny_pure (wpAny_pure ?_)
    have q := h s.heap ep es (Heap.SameBut.refl a s.heap) (hS.congr fun j _ => by
      unfold add4
      by_cases z : j = k
      · subst z; simp [hb]
      · simp [z])
    rw [hb] at q
    cases s; exact q
  | false =>
    have : (sub4 b).findIdx? (decide <| · = k) = none := List.findIdx?_eq_none_iff.mpr fun x hx => by
      have := mem_sub4.mp hx
      by_cases z : x = k
      · subst z; rw [hb] at this; cases this.2
      · simp [z]
    rw [this]
    dsimp only
    have lay : layNew (tab4 b led f m) es (hashInt (k : Int)) (.int (k : Int) tk) = (SetTable.insertAt es (pos4 b k) (hashInt (k : Int), .int (k : Int) tk), tab4 (add4 b k) led f m, false, false) := by
      have hz : (SetTable.insertAt es (pos4 b k) (hashInt (k : Int), Value.int (k : Int) tk)).size = (sub4 (add4 b k)).length := by
        rw [← Array.length_toList, SetTable.toList_insertAt, ← ins4 hk hb]
        simp [len]
      unfold layNew
      rw [show (tab4 b led f m).freeSlot (hashInt (k : Int)) = some (k, false) from by rw [hash4 hk]; exact free4 led f m hk hb]
      dsimp only
      rw [put4 led f m hk hb]
      dsimp only
      rw [hz]
      unfold SetTable.orStandIn
      rw [fits4]
      rfl
    rw [lay]
    dsimp only
    have hp' : Paired EK (SetTable.insertAt es (pos4 b k) (hashInt (k : Int), Value.int (k : Int) tk)).toList (sub4 (add4 b k)) := by
      rw [SetTable.toList_insertAt, ← ins4 hk hb]
      exact paired_ins ⟨rfl, tk, rfl⟩ _ hp
    have hz : (SetTable.insertAt es (pos4 b k) (hashInt (k : Int), Value.int (k : Int) tk)).size ≤ 4 := by
      rw [← Array.length_toList, Paired.length hp']; exact sub4_len _
    refine wpAny_bind (wpAny_pure ?_)
    rw [show (tab4 (add4 b k) led f m).plain = true from rfl, if_pos rfl]
    refine wpAny_bind (wpAny_of_eq (hashByValue_scannable 8 (x := .int (k : Int) tk) rfl) ?_)
    rw [show plainKind (.int (k : Int) tk) = true from rfl, if_pos rfl]
    refine wpAny_bind (wpAny_storeSet_of ho hd ?_ (by rw [sizeLine_eq]; omega))
    rw [full4]
    refine wpAny_pure (wpAny_pure ?_)
    have q := h (s.heap.update a (Obj.putSet (SetTable.insertAt es (pos4 b k) (hashInt (k : Int), Value.int (k : Int) tk)) (tab4 (add4 b k) led f m))) (ep + 1) _ (Heap.SameBut.update s.heap a _)
      ⟨{ o with data := .set (SetTable.insertAt es (pos4 b k) (hashInt (k : Int), Value.int (k : Int) tk)) (ep + 1) (tab4 (add4 b k) led f m) }, led, f, m, by
        have := Heap.get?_update_self (Obj.putSet (SetTable.insertAt es (pos4 b k) (hashInt (k : Int), Value.int (k : Int) tk)) (tab4 (add4 b k) led f m)) ho (by rw [putSet_of _ _ hd]; rfl)
        rw [putSet_of _ _ hd] at this
        exact this, hex, rfl, hl, hp'⟩
    rw [hb] at q
    exact q
/-- those that came so far -/
def cm4 (val : Nat → Nat) (i : Nat) : Nat → Bool := fun j => (List.range i).any fun x => decide (j = val x)
theorem cm4_succ (val : Nat → Nat) (i : Nat) : cm4 val (i + 1) = add4 (cm4 val i) (val i) := by
  funext j
  simp [cm4, add4, List.range_succ]
/-! set(a list): what holds of the set while it grows is told by J -/
abbrev set0 (led : Bool) : Obj := { cls := .type "set", dict := none, data := .set #[] 0 (.fresh 0 0 led) }
abbrev Led (w : World) (led : Bool) : Prop := w.params.followText "set-order" = true ∨ led = true
def Adds (prog : Program) (w : World) (u : Nat) (S : Addr) (J : Nat → Heap → Prop) (i : Nat) (v : Value) : Prop :=
  ∀ (A : Around) (E : Value → Shared → Prop) (s : Shared) (Q : Bool → Shared → Prop), A.units ≤ u → J i s.heap →
    (∀ b h' tk, s.toks ≤ tk → J (i + 1) h' → Heap.SameBut S s.heap h' → Q b { s with heap := h', toks := tk }) → wpAny (model prog w) A (setAdd S v) Q E s
theorem grow {R : Result → Shared → Prop} {I : Addr} {fp wr : List Addr} {G : Array GenState → Array GenState → Prop} {n : Nat} {P : Nat → Value → Prop} {St : Nat → Shared → Prop}
    (W : WalksS prog w A.in1 I fp wr G n P St) {S : Addr} (hS : S ∉ fp) {J : Nat → Heap → Prop} (jk : ∀ i h h', J i h → (∀ c o, c ∉ wr → h.get? c = some o → h'.get? c = some o) → J i h') (ja : ∀ i v, P i v → Adds prog w A.in1.units S J i v) :
    ∀ (k i : Nat) (s : Shared), i + k = n → St i s → J i s.heap → (∀ s', Moved (S :: wr) G s s' → J n s'.heap → R (.ok (.ret .none)) s') → codeAny (model prog w) A (.builtin "set.update.loop" ⟨[.ref S, .ref I], []⟩) R s := by
  have sub : ∀ c ∈ wr, c ∈ S :: wr := fun c hc => .tail _ hc
  intro k
  induction k with
  | zero =>
    rintro i s e st j hR
    obtain rfl : i = n := e
    refine codeAny_builtin F.entry_set_update_loop ?_
    rw [Around.under_plainId F.plain_set_update_loop _]
    wp_walk using W.done s _ _ st
    intro s' m
    wp_walk
    exact hR s' (m.mono sub) (jk _ _ _ j m.heap)
  | succ k ih =>
    rintro i s rfl st j hR
    refine codeAny_builtin F.entry_set_update_loop ?_
    rw [Around.under_plainId F.plain_set_update_loop _]
    wp_walk using W.item i s _ _ (by omega) st
    intro v s' p st' m
    have j' := jk _ _ s'.heap j m.heap
    refine wpAny_bind (wpAny_holding (ja i v p _ _ s' _ (Nat.le_refl _) j' fun b h' tk le j2 sb => ?_))
    wp_walk
    refine ⟨plainId_quiet F.plain_set_update_loop _, ih (i + 1) _ (by omega) (W.frame _ s' _ _ st' le fun c hc o e => (sb.2 c fun z => hS (z ▸ hc)).trans e) j2 fun s2 m2 j3 => hR s2 (Moved.trans W.gtrans ((m.mono sub).then_heap le fun c o hc e => (sb.2 c fun z => hc (z ▸ .head _)).trans e) m2) j3⟩
theorem run_ret {M : Model} {c : Code} {R : Result → Shared → Prop} {Q : Value → Shared → Prop} (x : codeAny M A c (wants Q E) s) (ok : ∀ v s1, Q v s1 → R (.ok (.ret v)) s1) (er : ∀ e s1, E e s1 → R (.error e) s1) : codeAny M A c R s :=
  codeAny_mono x fun r s1 h => match r, h with
    | .ok (.ret v), h => ok v s1 h
    | .error e, h => er e s1 h
/-- set(x): a new set, then its __init__ -/
theorem set_called {x : Value} {Q : Value → Shared → Prop}
    (h : ∀ led : Bool, Led w led → wpAny (model prog w) A.in1.in1 (Builtin.«set.__init__» ⟨[.ref s.heap.objs.size, x], []⟩) (fun f s1 => f = .done (.ret .none) ∧ Q (.ref s.heap.objs.size) s1) E { s with heap := s.heap.push (set0 led) }) :
    wpAny (model prog w) A (call (.type "set") [x]) Q E s := by
  have ⟨c, tl, m⟩ := F.called_set.mro
  have := F.called_set.made
  have := F.called_set.sub
  have := F.called_set.notType
  have := F.called_set.canCreate
  have := F.typeCall_set_1 x
  have := sub_set_self
  refine wpAny_call (codeAny_of_tree (wpAny_pure ⟨Code.quiet_builtin _ (by decide +kernel), codeAny_builtin F.entry_type_call ?_⟩))
  rw [Around.under_plain (weight_type_call_type "set" [x] []) rfl]
  wp_walk
  refine run_ret (Q := fun v s1 => ∃ led, Led w led ∧ v = .ref s.heap.objs.size ∧ s1 = { s with heap := s.heap.push (set0 led) }) (E := E) (codeAny_call_builtin F.plain_set_new F.entry_set_new (wpAny_of_eq (F.newCall_set_1 x) ?_)) ?_ fun _ _ e => e
  · obtain ⟨hp, g, d, tk, os⟩ := s
    wp_walk using wpAny_askSetting
    refine ⟨_, ?_, rfl, rfl⟩
    show _ ∨ (!w.params.followText "set-order") = true
    cases w.params.followText "set-order" <;> simp
  · rintro _ _ ⟨led, hl, rfl, rfl⟩
    have ty : Shared.TypeIs { s with heap := s.heap.push (set0 led) } (.ref s.heap.objs.size) "set" := ⟨_, Heap.get?_push_size _ rfl, rfl⟩
    have := F.called_set.init.lookup
    have := F.called_set.init.bind (.ref s.heap.objs.size)
    wp_walk
    refine run_ret (Q := fun r s1 => r = .none ∧ Q (.ref s.heap.objs.size) s1) (E := E) (codeAny_call_builtin F.called_set.init.plain F.entry_set_init (check_set_init_1 ty (wpAny_mono (h led hl) ?_ fun _ _ e => e))) ?_ fun _ _ e => e
    · rintro _ s1 ⟨rfl, q⟩
      exact ⟨rfl, q⟩
    · rintro _ s1 ⟨rfl, q⟩
      wp_walk
      exact q
/-- set(a list) -/
theorem set_run {l : Addr} {its : Array Value} {J : Nat → Heap → Prop} {Q : Value → Shared → Prop} (hh : A.handled = none) (hl : s.heap.IsList l its)
    (jk : ∀ i h h', J i h → (∀ c o, c ≤ s.heap.objs.size → h.get? c = some o → h'.get? c = some o) → J i h') (j0 : ∀ led, Led w led → J 0 (s.heap.push (set0 led))) (ja : ∀ (i : Nat) (v : Value), its[i]? = some v → Adds prog w (A.units + 3) s.heap.objs.size J i v)
    (h : ∀ h' tk, J its.size h' → (∀ c o, c < s.heap.objs.size → s.heap.get? c = some o → h'.get? c = some o) → Q (.ref s.heap.objs.size) { s with heap := h', toks := tk }) : wpAny (model prog w) A (call (.type "set") [.ref l]) Q E s := by
  refine set_called fun led hled => ?_
  have gs : (s.heap.push (set0 led)).get? s.heap.objs.size = some (set0 led) := Heap.get?_push_size _ rfl
  have hl1 := hl.push (set0 led)
  obtain ⟨⟨cls, dd, dat, sl⟩, g1, g2, n, g3⟩ := id hl
  cases g2
  cases g3
  have g1' := Heap.get?_push_of_some (set0 led) g1
  have := F.sub_list_set
  have := F.sub_list_frozenset
  have : (Value.type "list" == Value.type "dict") = false := by decide
  wp_walk using wpAny_pyIter_list hl1
  have sz : (s.heap.push (set0 led)).objs.size = s.heap.objs.size + 1 := Heap.size_push ..
  have ll : l < s.heap.objs.size := Heap.lt_size g1
  have out : ∀ c : Nat, c ≤ s.heap.objs.size → c ∉ [(s.heap.push (set0 led)).objs.size] := fun c hc z => by
    have := List.mem_singleton.mp z
    omega
  refine grow (Walks.list (by simp [hh]) _ l (fun z => out l (Nat.le_of_lt ll) (z ▸ .head _)) its).toS (fun z => ?_) (fun i h h' j k => jk i h h' j fun c o hc e => k c o (out c hc) e) ja its.size 0 _ (Nat.zero_add _) ⟨⟨_, Heap.get?_push_size _ rfl, rfl, rfl⟩, hl1.push _⟩ (jk _ _ _ (j0 led hled) fun c o _ e => Heap.get?_push_of_some _ e) fun s' m j => ?_
  · rcases List.mem_cons.mp z with z | z
    · exact out _ (Nat.le_refl _) (z ▸ .head _)
    · exact Nat.ne_of_gt ll (List.mem_singleton.mp z)
  · wp_walk
    rw [Moved.eq_with m]
    exact ⟨rfl, h _ _ j fun c o hc e => m.heap c o (fun z => (List.mem_cons.mp z).elim (Nat.ne_of_lt hc) (out c (Nat.le_of_lt hc))) (Heap.get?_push_of_some _ (Heap.get?_push_of_some _ e))⟩
/-- set(a list of some of 0, 1, 2, 3) -/
theorem set_4 {l : Addr} {its : Array Value} {val : Nat → Nat} {Q : Value → Shared → Prop} (hh : A.handled = none) (hl : s.heap.IsList l its) (hv : ∀ i v, its[i]? = some v → val i < 4 ∧ ∃ t, v = .int (val i : Int) t)
    (h : ∀ (h' : Heap) (tk ep : Nat) (es : Array (Int × Value)), SO w s.heap.objs.size (cm4 val its.size) ep es h' → (∀ c o, c < s.heap.objs.size → s.heap.get? c = some o → h'.get? c = some o) → Q (.ref s.heap.objs.size) { s with heap := h', toks := tk }) :
    wpAny (model prog w) A (call (.type "set") [.ref l]) Q E s := by
  refine set_run (J := fun i h => ∃ ep es, SO w s.heap.objs.size (cm4 val i) ep es h) hh hl (fun i h h' ⟨ep, es, x⟩ k => ⟨ep, es, x.kept fun o e => k _ o (Nat.le_refl _) e⟩) (fun led q => ⟨0, #[], _, led, 0, 0, Heap.get?_push_size _ rfl, ⟨rfl, rfl, rfl⟩, rfl, q, .nil⟩) (fun i v e A E s1 Q _ ⟨ep, es, x⟩ hQ => ?_) fun h' tk ⟨ep, es, x⟩ k => h h' tk ep es x k
  obtain ⟨lt, t, rfl⟩ := hv i v e
  unfold setAdd
  refine wpAny_holding (wpAny_bind ((intKind prog w).pyHash (k := (val i : Int)) (intKind_is _ _ _ _) (add_4 (s := { s1 with toks := s1.toks + 1 }) lt x fun h' ep' es' sb x' => hQ _ h' _ (Nat.le_succ _) ⟨ep', es', ?_⟩ sb)))
  rw [cm4_succ]
  exact x'
end
end L2

namespace L2
open PySem PySem.Spec PyProof.Rows
theorem sit_next : Slot "set_iterator" "__next__" "set_iterator.__next__" := .of (owner := "set_iterator") (n := "__next__") (by rw [typeLookup_type, builtinLookup_eq_fast]; kernel_rfl) (by decide +kernel) (by decide +kernel) (by decide +kernel) (by first | exact .inl (by decide +kernel) | exact .inr (by decide +kernel)) (by rw [isSubtype_type]; kernel_rfl)
theorem sit_iter : Slot "set_iterator" "__iter__" "set_iterator.__iter__" := .of (owner := "set_iterator") (n := "__iter__") (by rw [typeLookup_type, builtinLookup_eq_fast]; kernel_rfl) (by decide +kernel) (by decide +kernel) (by decide +kernel) (by first | exact .inl (by decide +kernel) | exact .inr (by decide +kernel)) (by rw [isSubtype_type]; kernel_rfl)
theorem sit_en : entryFor table "set_iterator.__next__" = some Builtin.«set_iterator.__next__» := entryFor_of_tree (by kernel_rfl)
theorem sit_ei : entryFor table "set_iterator.__iter__" = some Builtin.«dict_keyiterator.__iter__» := entryFor_alias (id' := "dict_keyiterator.__iter__") (by kernel_rfl) rfl (by decide +kernel) (by kernel_rfl)
theorem set_ei : entryFor table "set.__iter__" = some Builtin.«frozenset.__iter__» := entryFor_alias (id' := "frozenset.__iter__") (by kernel_rfl) rfl (by decide +kernel) (by kernel_rfl)
theorem sit_own : Manifest.owners.lookup (String.ofList ['r', 'o', 't', 'a', 'r', 'e', 't', 'i', '_', 't', 'e', 's'].reverse) = some Manifest.sig_set_iterator := by kernel_rfl
theorem sit_an (a : Value) : argsOk "set_iterator.__next__" ⟨[a], []⟩ := by
  unfold argsOk; rw [signature?_of (id := "set_iterator.__next__") (n := ['_', '_', 't', 'x', 'e', 'n', '_', '_']) (o := ['r', 'o', 't', 'a', 'r', 'e', 't', 'i', '_', 't', 'e', 's']) (by kernel_rfl) sit_own]; kernel_rfl
theorem sit_ai (a : Value) : argsOk "set_iterator.__iter__" ⟨[a], []⟩ := by
  unfold argsOk; rw [signature?_of (id := "set_iterator.__iter__") (n := ['_', '_', 'r', 'e', 't', 'i', '_', '_']) (o := ['r', 'o', 't', 'a', 'r', 'e', 't', 'i', '_', 't', 'e', 's']) (by kernel_rfl) sit_own]; kernel_rfl
/-- a walker over the set at a, behind i of n -/
def Wkr (h : Heap) (it : Addr) (f i : Nat) (a : Addr) (n ep : Nat) : Prop := ∃ o, h.get? it = some o ∧ o.cls = .type "set_iterator" ∧ o.data = .fields #[.int f 0, .int i 0, .ref a, .int n 0, .int ep 0]
theorem Wkr.kept {h h' : Heap} {it a : Addr} {f i n ep : Nat} (x : Wkr h it f i a n ep) (k : ∀ o, h.get? it = some o → h'.get? it = some o) : Wkr h' it f i a n ep :=
  let ⟨o, e, r⟩ := x; ⟨o, k o e, r⟩
/-- the order in which the set at a is walked -/
def ord4 (w : World) (a : Addr) (ep : Nat) (es : Array (Int × Value)) : Array (Int × Value) := if w.params.followText "set-order" = true then pickOrder (w.params.setOrder a ep) es else es
theorem ord4_perm (w : World) (a : Addr) (ep : Nat) (es : Array (Int × Value)) : (ord4 w a ep es).toList.Perm es.toList := by
  unfold ord4; split
  · exact pick_ok _ _
  · exact .refl _
def fst4 (w : World) (b : Nat → Bool) (i : Nat) : Nat := if w.params.followText "set-order" = true then 0 else slt4 b i
section
variable {prog : Program} {w : World} {A : Around} {E : Value → Shared → Prop} {s : Shared} {a it : Addr} {b : Nat → Bool} {ep i : Nat} {es : Array (Int × Value)}
theorem SO.size (x : SO w a b ep es s.heap) : es.size = (sub4 b).length := by
  obtain ⟨_, _, _, _, _, _, _, _, p⟩ := x
  rw [← Array.length_toList]; exact Paired.length p
theorem ord4_size (w : World) (a : Addr) (ep : Nat) (es : Array (Int × Value)) : (ord4 w a ep es).size = es.size := by
  have := (ord4_perm w a ep es).length_eq
  simpa using this
/-- what the set tells next -/
theorem nxt_4 {Q : Option (Value × Nat) → Shared → Prop} (x : SO w a b ep es s.heap) (hi : i ≤ es.size) (h : Q (((ord4 w a ep es)[i]?).map fun e => (e.2, fst4 w b (i + 1))) s) : wpAny (model prog w) A (setNext a (fst4 w b i) i ep) Q E s := by
  have sz := x.size
  obtain ⟨o, led, f, m, ho, hex, hd, hl, hp⟩ := id x
  have ft : (tab4 b led f m).fits es.size = true := by rw [sz]; exact fits4 _ _ _ _
  unfold setNext
  refine wpAny_bind (wpAny_setState_of ho hd ft ?_)
  dsimp only
  unfold setsByText
  refine wpAny_bind (wpAny_bind (wpAny_askSetting (wpAny_pure ?_)))
  show wpAny _ _ (if w.params.followText "set-order" = true then _ else _) _ _ s
  by_cases ht : w.params.followText "set-order" = true
  · rw [if_pos ht]
    unfold ord4 fst4 at h
    rw [if_pos ht, if_pos ht] at h
    rw [if_neg (by simp)]
    refine wpAny_bind ?_
    unfold setWalk setsByText
    refine wpAny_bind (wpAny_setState_of ho hd ft ?_)
    dsimp only
    refine wpAny_bind (wpAny_bind (wpAny_askSetting (wpAny_pure ?_)))
    show wpAny _ _ (if w.params.followText "set-order" = true then _ else _) _ _ s
    rw [if_pos ht]
    refine wpAny_bind (wpAny_askSetting (wpAny_pure (wpAny_pure ?_)))
    unfold fst4
    rw [if_pos ht]
    exact h
  · rw [if_neg ht]
    unfold ord4 fst4 at h
    rw [if_neg ht, if_neg ht] at h
    have hl2 : led = true := by
      rcases hl with q | q
      · exact absurd q ht
      · exact q
    subst hl2
    refine wpAny_ite_split (fun q => absurd q Bool.false_ne_true) fun _ => ?_
    refine wpAny_bind (wpAny_of_eq (a := ()) rfl ?_)
    unfold fst4
    rw [if_neg ht]
    refine wpAny_pure ?_
    have e1 : SetTable.below (tab4 b true f m).place (slt4 b i) = i := below4 b (by omega)
    rw [e1]
    have e2 : (tab4 b true f m).place[i]? = (sub4 b)[i]? := by simp [tab4]
    rw [e2]
    by_cases hlt : i < es.size
    · rw [Array.getElem?_eq_getElem hlt] at h ⊢
      rw [List.getElem?_eq_getElem (by omega : i < (sub4 b).length)]
      dsimp only
      have e3 : slt4 b (i + 1) = (sub4 b)[i]'(by omega) + 1 := by
        show (sub4 b).getD i 0 + 1 = _
        rw [List.getD_eq_getElem?_getD, List.getElem?_eq_getElem (by omega : i < (sub4 b).length)]; rfl
      rw [← e3]
      exact h
    · rw [Array.getElem?_eq_none (by omega)] at h ⊢
      exact h
end
end L2

namespace L2
open PySem PySem.Spec PyProof.Rows
section
variable {prog : Program} {w : World} {A : Around} {E : Value → Shared → Prop} {s : Shared} {a it : Addr} {b : Nat → Bool} {ep i : Nat} {es : Array (Int × Value)}
theorem Wkr.typeIs {f n : Nat} (x : Wkr s.heap it f i a n ep) : s.TypeIs (.ref it) "set_iterator" := let ⟨o, e, c, _⟩ := x; ⟨o, e, c⟩
theorem stop_up {α : Type} {Q : α → Shared → Prop} (hh : A.handled = none) (h : ∀ h' a, (∀ b o, s.heap.get? b = some o → h'.get? b = some o) → Shared.TypeIs { s with heap := h' } (.ref a) "StopIteration" → E (.ref a) { s with heap := h' }) :
    wpAny (model prog w) A ((newExc (.type "StopIteration") [] >>= raiseNew : Sem α)) Q E s := by
  wp_walk using wpAny_newObj_type, wpAny_raiseNew_none hh
  · exact h _ _ (fun b o e => Heap.get?_push_of_some _ (Heap.get?_push_of_some _ e)) ⟨_, Heap.get?_push_size _ rfl, rfl⟩
  all_goals size_fits
theorem fld_put {M : Model} {x : Addr} {o : Obj} {vs : Array Value} {k : Nat} {v : Value} {Q : Unit → Shared → Prop} (ho : s.heap.get? x = some o) (hd : o.data = .fields vs) (hk : k < vs.size)
    (h : ∀ h', (∃ o', h'.get? x = some o' ∧ o'.cls = o.cls ∧ o'.data = .fields (vs.setIfInBounds k v)) → Heap.SameBut x s.heap h' → Q () { s with heap := h' }) : wpAny M A (setField (.ref x) k v) Q E s :=
  wpAny_setField ho hd hk (h _ ⟨_, Heap.get?_update_self _ ho (Obj.isFreed_of_fields (Obj.data_mapFields hd _)), Obj.cls_mapFields .., Obj.data_mapFields hd _⟩ (Heap.SameBut.update ..))
/-- C tells of a set at a that can be walked; f tells where the next one is looked for -/
structure Wlk (prog : Program) (w : World) (a : Addr) (ep : Nat) (es : Array (Int × Value)) (f : Nat → Nat) (C : Heap → Prop) : Prop where
  there : ∀ {h}, C h → ∃ o t, h.get? a = some o ∧ o.ExactSet ∧ o.data = .set es ep t ∧ t.fits es.size = true ∧ t.plain = true
  kept : ∀ {h h'}, C h → (∀ o, h.get? a = some o → h'.get? a = some o) → C h'
  first : f 0 = 0
  next : ∀ {A E s i} {Q : Option (Value × Nat) → Shared → Prop}, C s.heap → i ≤ es.size → Q (((ord4 w a ep es)[i]?).map fun e => (e.2, f (i + 1))) s → wpAny (model prog w) A (setNext a (f i) i ep) Q E s
theorem hint_4 {Q : Bool → Shared → Prop} (hT : s.TypeIs (.ref a) "set") (h : Q false s) : wpAny (model prog w) A (Builtin.List.listLengthHint (.ref a)) Q E s := by
  unfold Builtin.List.listLengthHint
  refine wpAny_bind (wpAny_specialOf hT PySem.F.slot_set_len.lookup ?_)
  generalize hid : ("set.__len__" : String) = id0
  wp_delta
  rw [show splitId id0 = some ("set", "__len__") from by subst hid; decide +kernel]
  subst hid
  refine wpAny_bind (wpAny_isInstance (T := "set") (b := true) hT (by rw [isSubtype_type]; kernel_rfl) ?_)
  refine wpAny_ite_split (fun q => absurd q (by decide)) fun _ => wpAny_ite_split (fun _ => wpAny_bind (wpAny_typeOf hT (wpAny_pure h))) fun q => absurd (by decide +kernel) q
section
variable {f : Nat → Nat} {C : Heap → Prop} (N : Wlk prog w a ep es f C)
include N
theorem Wlk.typeIs (x : C s.heap) : s.TypeIs (.ref a) "set" := let ⟨o, _, e, c, _⟩ := N.there x; ⟨o, e, c.1⟩
theorem Wlk.go {Q : Option Value → Shared → Prop} (hh : A.handled = none) (k : Wkr s.heap it (f i) i a es.size ep) (x : C s.heap) (hi : i ≤ es.size)
    (h1' : ∀ e h', (ord4 w a ep es)[i]? = some e → Wkr h' it (f (i + 1)) (i + 1) a es.size ep → Heap.SameBut it s.heap h' → Q (some e.2) { s with heap := h' })
    (h2 : (ord4 w a ep es)[i]? = none → ∀ h', Heap.ExtBut it s.heap h' → Q none { s with heap := h' }) : wpAny (model prog w) A (pyNext (.ref it)) Q E s := by
  obtain ⟨oi, k1, k2, k3⟩ := id k
  obtain ⟨o, t, ho, hx, hd, ft, pl⟩ := N.there x
  have ty := k.typeIs
  unfold pyNext
  refine wpAny_bind (wpAny_attempt (wpAny_callSpecial?_slot (name := Str.ofString "__next__") ty sit_next (wpAny_call_entry sit_next ty sit_en ?_ (sit_an _))))
  have nx : ∀ {E Q}, Q (((ord4 w a ep es)[i]?).map fun e => (e.2, f (i + 1))) s → wpAny (model prog w) A.in1 (setNext a (Int.toNat (f i : Int)) (Int.toNat (i : Int)) (Int.toNat (ep : Int))) Q E s := fun q => N.next x hi q
  wp_walk using wpAny_fieldsOf k1 k3, wpAny_setEntries_of ho hd ft, nx
  cases e : (ord4 w a ep es)[i]? with
  | some y =>
    wp_walk using fld_put k1 k3
    · show 0 < 5
      decide
    rintro h1 ⟨o1, m1, m2, m3⟩ sb1
    wp_walk using fld_put (s := { s with heap := h1 }) m1 m3
    · show 1 < 5
      decide
    rintro h2 ⟨o2, n1, n2, n3⟩ sb2
    wp_walk
    exact ⟨_, rfl, wpAny_pure (h1' y h2 e ⟨o2, n1, n2.trans (m2.trans k2), by rw [n3]; simp [rawInt]⟩ (sb1.trans sb2))⟩
  | none =>
    wp_walk using fld_put k1 k3
    · show 2 < 5
      decide
    rintro h1 _ sb
    refine stop_up hh fun h' z kp ty => ?_
    wp_walk using wpAny_isInstance (T := "StopIteration") (b := true) ty isSubtype_stop
    exact h2 e h' fun c o hc g => kp c o ((sb.2 c hc).trans g)
theorem Wlk.walks (hh : A.handled = none) (I : Addr) (hne : a ≠ I) : Walks prog w A I [I, a] [I] es.size (fun i v => ∃ e, (ord4 w a ep es)[i]? = some e ∧ v = e.2) (fun i h => i ≤ es.size ∧ Wkr h I (f i) i a es.size ep ∧ C h) where
  sub := fun c hc => by simp at hc; simp [hc]
  frame := fun _ _ _ st hk => ⟨st.1, st.2.1.kept fun o => hk I (by simp) o, N.kept st.2.2 fun o => hk a (by simp) o⟩
  item := fun i s Q E lt ⟨le, wk, x⟩ hQ => N.go hh wk x le (fun e h' ge wk' sb => hQ _ h' s.toks ⟨e, ge, rfl⟩ ⟨lt, wk', N.kept x fun o => sb.extBut a o hne⟩ fun c o hc => sb.extBut c o fun z => hc (by simp [z])) fun q => absurd (Array.getElem?_eq_none_iff.mp q) (by rw [ord4_size]; omega)
  done := fun s Q E ⟨le, wk, x⟩ hQ => N.go hh wk x le (fun e h' ge => absurd (Array.getElem?_eq_some_iff.mp ge).1 (by rw [ord4_size]; omega)) fun _ h' ex => hQ h' s.toks fun c o hc => ex c o fun z => hc (by simp [z])
  self := fun _ s _ _ ⟨_, wk, _⟩ hQ => wpAny_pyIter_slot wk.typeIs sit_iter (wpAny_call_entry sit_iter wk.typeIs sit_ei (wpAny_pure ⟨_, rfl, _, _, wk.typeIs, sit_next.lookup, hQ⟩) (sit_ai _))
theorem Wlk.iter {Q : Value → Shared → Prop} (x : C s.heap) (h : Q (.ref s.heap.objs.size) { s with heap := s.heap.push { cls := .type "set_iterator", data := .fields #[.int (f 0) 0, .int 0 0, .ref a, .int es.size 0, .int ep 0] } }) : wpAny (model prog w) A (pyIter (.ref a)) Q E s := by
  obtain ⟨o, t, ho, hx, hd, ft, pl⟩ := N.there x
  rw [N.first] at h
  have ty := N.typeIs x
  refine wpAny_pyIter_slot ty F.slot_set_iter (wpAny_call_entry F.slot_set_iter ty set_ei ?_ (F.args_set_iter_1 _))
  wp_walk using wpAny_setEntries_of ho hd ft, wpAny_setEpoch_of ho hd ft, wpAny_setState_of ho hd ft, wpAny_askSetting, wpAny_newObj_type
  refine wpAny_ite_split (fun q => absurd q ?_) fun _ => ?_
  · show ¬ ((!w.params.followText "set-order") && (!t.plain && _)) = true
    rw [pl]
    cases w.params.followText "set-order" <;> simp
  wp_walk using wpAny_setEpoch_of ho hd ft, wpAny_newObj_type
  · exact ⟨_, rfl, _, _, ⟨_, Heap.get?_push_size _ rfl, rfl⟩, sit_next.lookup, by simpa [rawInt] using h⟩
  · size_fits
theorem Wlk.src : PySem.W.KdlSrc prog w "set" a a es.size (fun i v => ∃ e, (ord4 w a ep es)[i]? = some e ∧ v = e.2) C where
  type := fun _ x => N.typeIs x
  there := fun _ x => let ⟨_, _, e, _⟩ := N.there x; ⟨Heap.lt_size e, Heap.lt_size e⟩
  keep := fun _ _ x k => N.kept x fun o => k a (.inl rfl) o
  notList := by decide
  notTuple := by decide
  hint := fun _ _ _ _ x q => hint_4 (N.typeIs x) q
  iter := fun _ s hh x => ⟨_, _, (fun _ _ q => N.iter x q), N.walks hh _ (let ⟨_, _, e, _⟩ := N.there x; Nat.ne_of_lt (Heap.lt_size e)), ⟨Nat.zero_le _, ⟨_, Heap.get?_push_size _ rfl, rfl, rfl⟩, N.kept x fun _ e => Heap.get?_push_of_some _ e⟩⟩
end
theorem src_4 : PySem.W.KdlSrc prog w "set" a a es.size (fun i v => ∃ e, (ord4 w a ep es)[i]? = some e ∧ v = e.2) (fun h => SO w a b ep es h) :=
  Wlk.src (f := fst4 w b) ⟨fun {h} x => by
    obtain ⟨o, led, f, m, ho, hx, hd, _, hp⟩ := x
    refine ⟨o, _, ho, hx, hd, ?_, rfl⟩
    rw [show es.size = (sub4 b).length from by rw [← Array.length_toList]; exact Paired.length hp]
    exact fits4 _ _ _ _, fun x k => x.kept k, by unfold fst4; split <;> rfl, fun x hi q => nxt_4 x hi q⟩
end
end L2

namespace L2
open PySem PySem.Spec PyProof.Rows
/-- a set of those of 0, 1, 2, 3 -/
def SetO (w : World) (a : Addr) (ks : List Nat) : HO := .ext fun h => ∃ b ep es, sub4 b = ks ∧ SO w a b ep es h
theorem setO_ok {prog : Program} {w : World} {H : Hp} {h : Heap} {a : Addr} {b : Nat → Bool} {ep : Nat} {es : Array (Int × Value)} (x : SO w a b ep es h) : ObjOk prog w H h a (SetO w a (sub4 b)) :=
  ⟨⟨b, ep, es, rfl, x⟩, let ⟨o, _, _, _, e, _⟩ := x; ⟨o, e⟩, fun _ _ ⟨b, ep, es, q, y⟩ k => ⟨b, ep, es, q, y.kept k⟩⟩
theorem vals_at : ∀ {ns : List Int} {us : List Value}, Vals (ns.map V.int) us → us.length = ns.length ∧ ∀ (i : Nat) (v : Value), us[i]? = some v → ∃ t, v = .int (ns.getD i 0) t
  | [], _, .nil => ⟨rfl, fun i v h => by simp at h⟩
  | n :: ns, u :: us, .cons r t => by
    obtain ⟨q1, q2⟩ := vals_at t
    refine ⟨by simp [q1], fun i v h => ?_⟩
    cases i with
    | zero =>
      simp at h
      subst h
      obtain ⟨t, e⟩ := r
      exact ⟨t, e⟩
    | succ i => simpa using q2 i v (by simpa using h)
section
variable {X : Cx}
/-- set(xs), xs a list of some of 0, 1, 2, 3 -/
theorem call_set4 (hc : X.calm = true) : CallR X (.type "set") (fun xs H Q => ∃ (p : Addr) (ns : List Int), xs = [.ref p] ∧ H p = some (.lst (ns.map V.int)) ∧ (∀ n ∈ ns, 0 ≤ n ∧ n < 4) ∧
    ∀ a, H a = none → Q (.ref a) (upd H a (SetO X.w a (sub4 fun j => decide ((j : Int) ∈ ns))))) := by
  intro pins s σ H xs us Q I r h
  obtain ⟨p, ns, rfl, hp, h4, q⟩ := h
  obtain ⟨u, rfl, ru⟩ := r.one
  cases ru
  obtain ⟨_, its, n, vs, e⟩ : _ ∧ ∃ (its : List Value) (n : Nat), _ ∧ _ := I.hok p _ hp
  obtain ⟨len, at_⟩ := vals_at vs
  have hl : s.heap.IsList p its.toArray := ⟨_, e, rfl, n, rfl⟩
  have gd : ∀ i, i < ns.length → 0 ≤ ns.getD i 0 ∧ ns.getD i 0 < 4 := fun i hi => by
    rw [List.getD_eq_getElem?_getD, List.getElem?_eq_getElem hi]
    exact h4 _ (List.getElem_mem hi)
  refine set_4 (val := fun i => (ns.getD i 0).toNat) (I.ok.hd hc) hl (fun i v hv => ?_) fun h' tk ep es x keep => ?_
  · have hv' : its[i]? = some v := by simpa using hv
    have hi : i < ns.length := by rw [← len]; exact (List.getElem?_eq_some_iff.mp hv').1
    obtain ⟨t, rfl⟩ := at_ i v hv'
    have := gd i hi
    exact ⟨by omega, t, by rw [Int.toNat_of_nonneg this.1]⟩
  · have eb : sub4 (cm4 (fun i => (ns.getD i 0).toNat) its.toArray.size) = sub4 (fun j => decide ((j : Int) ∈ ns)) := sub4_congr fun j hj => by
      rw [Bool.eq_iff_iff]
      unfold cm4
      rw [List.any_eq_true, decide_eq_true_eq]
      constructor
      · rintro ⟨i, hi, ei⟩
        have hi' : i < ns.length := by have := List.mem_range.mp hi; simpa [len] using this
        have := gd i hi'
        have z : (j : Int) = ns.getD i 0 := by have := of_decide_eq_true ei; dsimp only at this; omega
        rw [z, List.getD_eq_getElem?_getD, List.getElem?_eq_getElem hi']
        exact List.getElem_mem hi'
      · intro hm
        obtain ⟨i, hi, ei⟩ := List.getElem_of_mem hm
        refine ⟨i, List.mem_range.mpr (by simpa [len] using hi), ?_⟩
        refine decide_eq_true (show j = (ns.getD i 0).toNat from ?_)
        rw [List.getD_eq_getElem?_getD, List.getElem?_eq_getElem hi]
        simp [ei]
    have I2 := I.laid (a := s.heap.objs.size) (o := SetO X.w s.heap.objs.size (sub4 fun j => decide ((j : Int) ∈ ns))) (h' := h') (t' := tk) (fun c o z => keep c o (Heap.lt_size z) z) (Nat.le_refl _) (eb ▸ setO_ok x)
    exact ⟨.ref s.heap.objs.size, _, I2, rfl, q _ (I.hok.fresh (Nat.le_refl _))⟩
def ev4 : Int × Value → Int := fun e => match e.2 with
  | .int n _ => n
  | _ => 0
theorem ek_ev {l : List (Int × Value)} {ks : List Nat} (h : Paired EK l ks) : l.map ev4 = ks.map (fun (k : Nat) => (k : Int)) ∧ ∀ e ∈ l, ∃ t, e.2 = .int (ev4 e) t := by
  induction h with
  | nil => exact ⟨rfl, fun e he => by cases he⟩
  | cons q _ ih =>
    rename_i e k _ _ _
    obtain ⟨q1, t, q2⟩ := q
    have z : ev4 e = (k : Int) := by unfold ev4; rw [q2]
    refine ⟨by rw [List.map_cons, List.map_cons, ih.1, z], fun y hy => ?_⟩
    rcases List.mem_cons.mp hy with rfl | hy
    · exact ⟨t, by rw [z]; exact q2⟩
    · exact ih.2 y hy
theorem ints_of : ∀ (ws : List Value) (ns : List Int), ws.length = ns.length → (∀ (j : Nat) (v : Value) (n : Int), ws[j]? = some v → ns[j]? = some n → ∃ t, v = .int n t) → IntsAre ws ns
  | [], [], _, _ => .nil
  | [], _ :: _, h, _ => by cases h
  | _ :: _, [], h, _ => by cases h
  | w :: ws, n :: ns, hl, h => by
    obtain ⟨t, rfl⟩ := h 0 w n rfl rfl
    exact .cons n t (ints_of ws ns (by simpa using hl) fun j v n' e1 e2 => h (j + 1) v n' (by simpa using e1) (by simpa using e2))
/-- sorted(such a set) -/
theorem call_sorted4 (hc : X.calm = true) : CallR X (.builtin "sorted") (fun xs H Q => ∃ (p : Addr) (ks : List Nat), xs = [.ref p] ∧ H p = some (SetO X.w p ks) ∧
    ∀ l, H l = none → Q (.ref l) (upd H l (.lst (ks.map fun (k : Nat) => V.int (k : Int))))) := by
  intro pins s σ H xs us Q I r h
  obtain ⟨p, ks, rfl, hp, q⟩ := h
  obtain ⟨u, rfl, ru⟩ := r.one
  cases ru
  obtain ⟨⟨b, ep, es, rfl, x⟩, _⟩ := I.hok p _ hp
  obtain ⟨m, fr⟩ := I.fr
  have sz := x.size
  have s4 := sub4_len b
  refine W.kdu_sorted (src_4 (b := b) (es := es) (ep := ep)) (I.ok.hd hc) fr (news := allNews X.base s.heap X.env.locals) news_all x (by rw [sizeLine_eq]; omega) fun D h' tk ws fr' nw' lt' hlen hP => ?_
  obtain ⟨_, _, _, _, _, _, _, _, hpair⟩ := id x
  obtain ⟨v1, v2⟩ := ek_ev hpair
  have pm := ord4_perm X.w p ep es
  have ia : IntsAre ws ((ord4 X.w p ep es).toList.map ev4) := by
    refine ints_of _ _ (by rw [hlen, List.length_map, pm.length_eq, Array.length_toList]) fun j v n e1 e2 => ?_
    obtain ⟨e, e3, rfl⟩ := hP j v e1
    rw [← Array.getElem?_toList] at e3
    rw [List.getElem?_map, e3] at e2
    cases e2
    exact v2 e (pm.mem_iff.mp (List.mem_of_getElem? e3))
  refine W.ksk_lsort (vs := ws) (its := ws.toArray) (n := 0) fr' nw' (news' := fun o => (D, o) :: allNews X.base s.heap X.env.locals) (fun o => .head fun q hq => Nat.ne_of_lt (lt' q hq)) rfl ia (by rw [List.length_map, pm.length_eq, Array.length_toList]; omega) fun vs' ns' c h'' fr'' nw'' ia' hl' perm pw _ => ?_
  have en : ns' = (sub4 b).map fun (k : Nat) => (k : Int) := by
    refine sorted_one (perm.trans ((pm.map ev4).trans (by rw [v1]))) pw ?_
    rw [List.pairwise_map]
    exact (sub4_sorted b).imp fun h => by omega
  have hD : s.heap.get? D = none := by
    have nb : X.base.get? D = none := (nw' (D, W.listOf ws.toArray 0) List.mem_cons_self).2.2
    have nL : D ≠ X.env.locals := (nw' (D, W.listOf ws.toArray 0) List.mem_cons_self).2.1
    cases e : s.heap.get? D with
    | none => rfl
    | some o => exact absurd (lt' (D, o) (mem_allNews nL nb e)) (Nat.lt_irrefl _)
  have fresh : H D = none := by
    cases e : H D with
    | none => rfl
    | some o =>
      obtain ⟨ob, e2⟩ := (I.hok D o e).there
      rw [hD] at e2
      cases e2
  have I2 := I.laidN (o := .lst (ns'.map V.int)) (D := D) (h' := h'') (t' := tk) fr fr'' (fun q hq => nw'' q (List.mem_cons_of_mem _ hq)) hD fresh ⟨by
    rw [en]
    simp only [List.length_map]
    rw [sizeLine_eq]; omega, vs', c, vals_ints ia', (nw'' _ List.mem_cons_self).1⟩
  refine ⟨.ref D, _, I2, rfl, ?_⟩
  rw [en, List.map_map]
  exact q D fresh
end
end L2

namespace L2
open PySem PySem.Spec PyProof.Rows
theorem call_set4W {X : Cx} {w : World} (h : X.w = w) (hc : X.calm = true) : CallR X (.type "set") (fun xs H Q => ∃ (p : Addr) (ns : List Int), xs = [.ref p] ∧ H p = some (.lst (ns.map V.int)) ∧ (∀ n ∈ ns, 0 ≤ n ∧ n < 4) ∧
    ∀ a, H a = none → Q (.ref a) (upd H a (SetO w a (sub4 fun j => decide ((j : Int) ∈ ns))))) := h ▸ call_set4 hc
theorem call_sorted4W {X : Cx} {w : World} (h : X.w = w) (hc : X.calm = true) : CallR X (.builtin "sorted") (fun xs H Q => ∃ (p : Addr) (ks : List Nat), xs = [.ref p] ∧ H p = some (SetO w p ks) ∧
    ∀ l, H l = none → Q (.ref l) (upd H l (.lst (ks.map fun (k : Nat) => V.int (k : Int))))) := h ▸ call_sorted4 hc
end L2

namespace Qk05
open PySem L2 PyProof.Rows
def top (i : Nat) : Stmt := PySem.Challenge.pw_bendfronts_k05_pieces.main.body.getD i (.Pass ⟨0, 0, 0, 0⟩)
section
variable {P : Program} {w : World} {K : PySem.W.Frag} {mg : Str → Option Value} {base : Heap}
/-! ### bag and take -/
def spTake : Sp := fun vs H Q _ => ∃ (b : Addr) (m : Int), vs = [.ref b, .int m] ∧ Bag H b ∧ 1 ≤ m ∧ m < 1073741824 ∧ ∀ (d : Int) (H' : Hp), 0 ≤ d → d < m → Bag H' b → Frm b H H' → Q (.int d) H'
abbrev s__law_take : Stmt := top 14
theorem sc__law_take : FnScope ["_law_bag_here", "_law_many", "_law_digit"] ["_law_bag_here", "_law_many"] (defScope s__law_take) := ⟨rfl, rfl, rfl, by decide +kernel, rfl, by decide +kernel, by decide +kernel⟩
theorem ok_take {f : Addr} {fd : FuncData} (F : Fun K "_law_take" "_law_take" s__law_take f fd) : FnOk P w K mg base CX0 1 f fd ["_law_bag_here", "_law_many"] spTake := by
  refine F.ok sc__law_take (fun vs H Q E h => ?_) (fun cdv A outer s H vs Q E hr h => ?_)
  · obtain ⟨b, m, rfl, _⟩ := h
    rfl
  · obtain ⟨b, m, rfl, ⟨g, r, hg, hb⟩, h1, h2, k⟩ := h
    refine ⟨_, (pss_cons (ps_if (pt_cmpR op_gt (pe_ix (ix_listK (K := K) rfl) (pv 0) pe_int (fun _ _ => rfl)) pe_int (nomark _)) (pss_cons (ps_set (i := 2) sc__law_take.nd rfl (Or.inl rfl) (pe_op op_mod (pe_ix (ix_listK (K := K) rfl) (pv 0) pe_int (fun _ _ => rfl)) (pv 1)))
      (pss_cons (ps_asg (pe_op op_fdiv (pe_ix (ix_listK (K := K) rfl) (pv 0) pe_int (fun _ _ => rfl)) (pv 1)) (pg_sub (pv 0) pe_int set_list))
      (pss_one (ps_ret (pv 2))))) pss_nil)
      (pss_cons (ps_asg (pe_op op_mod (pe_op op_add (pe_op op_mul (pe_ix (ix_listK (K := K) rfl) (pv 0) pe_int (fun _ _ => rfl)) pe_int) pe_int) pe_int) (pg_sub (pv 0) pe_int set_list))
      (pss_one (ps_ret (pe_op op_mod (pe_op op_mod (pe_op op_pow (pe_op op_fdiv (pe_ix (ix_listK (K := K) rfl) (pv 0) pe_int (fun _ _ => rfl)) pe_int) pe_int) pe_int) (pv 1)))))), ?_⟩
    refine ⟨_, rfl, b, _, _, _, rfl, rfl, SqL.of hb, atI_nat (j := 0) rfl, _, _, rfl, rfl, _, rfl, ?_⟩
    refine ite2 (fun hp => ?_) (fun hp => ?_)
    · have hp' : 0 < g := of_decide_eq_true hp
      refine ⟨_, rfl, b, _, _, _, rfl, rfl, SqL.of hb, atI_nat (j := 0) rfl, _, rfl, _, _, rfl, rfl, (by omega : 0 < m), ?_⟩
      refine ⟨_, rfl, b, _, _, _, rfl, rfl, SqL.of hb, atI_nat (j := 0) rfl, _, rfl, _, _, rfl, rfl, ⟨by omega, by omega⟩, _, rfl, b, _, _, 0, rfl, rfl, hb, rfl, ?_⟩
      refine ⟨_, rfl, k _ _ (Int.emod_nonneg _ (by omega)) (Int.emod_lt_of_pos _ (by omega)) ⟨g / m, r, Int.ediv_nonneg (by omega) (by omega), upd_same⟩ Frm.upd⟩
    · refine ⟨_, rfl, b, _, _, _, rfl, rfl, SqL.of hb, atI_nat (j := 1) rfl, _, _, rfl, rfl, .inr ⟨by decide, by decide⟩, _, _, rfl, rfl, _, _, rfl, rfl, (show (0 : Int) < 2147483647 by decide), _, rfl, b, _, _, 1, rfl, rfl, hb, rfl, ?_⟩
      have e1 : 0 ≤ (r * 48271 + 11) % 2147483647 := Int.emod_nonneg _ (by decide)
      have e2 : (r * 48271 + 11) % 2147483647 < 2147483647 := Int.emod_lt_of_pos _ (by decide)
      refine ⟨_, rfl, b, _, _, _, rfl, rfl, SqL.of upd_same, atI_nat (j := 1) rfl, _, _, rfl, rfl, ⟨by decide, by decide⟩, _, _, rfl, rfl, ⟨by decide, by decide, by omega⟩, _, _, rfl, rfl, (show (0 : Int) < 2147483629 by decide), _, rfl, _, _, rfl, rfl, (by omega : 0 < m), ?_⟩
      exact k _ _ (Int.emod_nonneg _ (by omega)) (Int.emod_lt_of_pos _ (by omega)) ⟨g, _, hg, upd_same⟩ Frm.upd
def spBag (K : PySem.W.Frag) : Sp := fun vs H Q _ => ∃ (a : Addr) (i : Int) (ns : List Int), vs = [.ref a, .int i] ∧ SqL K H a (ns.map V.int) ∧ 0 ≤ i ∧ i < 1000 ∧ ∀ (l : Addr) (H' : Hp), H l = none → Same H H' → Bag H' l → Q (.ref l) H'
abbrev s__law_bag : Stmt := top 13
theorem sc__law_bag : FnScope ["_law_script", "_law_at", "_law_cell", "_law_great", "_law_primes"] ["_law_script", "_law_at"] (defScope s__law_bag) := ⟨rfl, rfl, rfl, by decide +kernel, rfl, by decide +kernel, by decide +kernel⟩
theorem ok_bag {f : Addr} {fd : FuncData} (F : Fun K "_law_bag" "_law_bag" s__law_bag f fd) (b_len : mg "len" = none) (b_abs : mg "abs" = none) : FnOk P w K mg base CX0 1 f fd ["_law_script", "_law_at"] (spBag K) := by
  refine F.ok sc__law_bag (fun vs H Q E h => ?_) (fun cdv A outer s H vs Q E hr h => ?_)
  · obtain ⟨a, i, ns, rfl, _⟩ := h
    rfl
  · obtain ⟨a, i, ns, rfl, hS, h0, h1, k⟩ := h
    refine ⟨_, (pss_cons (ps_set (i := 2) sc__law_bag.nd rfl (Or.inl rfl) pe_int)
      (pss_cons (ps_if (pt_cmpR op_lt (pv 1) (pe_callB (call_lenK (K := K) rfl) (by rfl) b_len PySem.boot_len (pa_cons (pv 0) pa_nil)) (nomark _)) (pss_one (ps_set (i := 2) sc__law_bag.nd rfl (Or.inl rfl) (pe_ix (ix_listK (K := K) rfl) (pv 0) (pv 1) (fun _ _ => rfl)))) pss_nil)
      (pss_cons (ps_set (i := 3) sc__law_bag.nd rfl (Or.inl rfl) pe_int)
      (pss_cons (ps_if (pt_cmpR op_ge (pe_callB call_abs (by rfl) b_abs boot_abs (pa_cons (pv 2) pa_nil)) (pe_op op_pow pe_int pe_int) (nomark _)) (pss_one (ps_set (i := 3) sc__law_bag.nd rfl (Or.inl rfl) (pe_callB call_abs (by rfl) b_abs boot_abs (pa_cons (pv 2) pa_nil)))) pss_nil)
      (pss_cons (ps_set (i := 4) sc__law_bag.nd rfl (Or.inl rfl) (pe_lst (pa_cons pe_int (pa_cons pe_int (pa_cons pe_int (pa_cons pe_int (pa_cons pe_int (pa_cons pe_int (pa_cons pe_int (pa_cons pe_int pa_nil))))))))))
      (pss_one (ps_ret (pe_lst (pa_cons (pv 3) (pa_cons (pe_op op_mod (pe_op op_pow (pe_op op_add (pe_op op_add (pe_op op_mod (pv 2) pe_int) (pe_op op_mul pe_int (pv 1))) pe_int) pe_int) (pe_ix (ix_listK (K := K) rfl) (pv 4) (pe_op op_mod (pv 1) pe_int) (fun _ _ => rfl))) pa_nil)))))))))), ?_⟩
    refine ⟨_, rfl, _, rfl, a, _, rfl, .inl hS, _, _, rfl, rfl, _, rfl, ?_⟩
    have last : ∀ (c : Int), 0 ≤ c % 2147483647 ∧ c % 2147483647 < 2147483647 := fun c => ⟨Int.emod_nonneg _ (by decide), Int.emod_lt_of_pos _ (by decide)⟩
    have e3 : 0 ≤ i % 8 := Int.emod_nonneg _ (by decide)
    have e4 : i % 8 < 8 := Int.emod_lt_of_pos _ (by decide)
    obtain ⟨j, hj⟩ : ∃ j : Nat, i % 8 = (j : Int) := ⟨(i % 8).toNat, by omega⟩
    have hj8 : j < 8 := by omega
    obtain ⟨q, hq, hq0⟩ : ∃ q : Int, ([V.int 2147483629, .int 2147483587, .int 2147483579, .int 2147483563, .int 2147483549, .int 2147483543, .int 2147483497, .int 2147483489] : List V)[j]? = some (.int q) ∧ 0 < q := by
      match j, hj8 with
      | 0, _ => exact ⟨_, rfl, by decide⟩
      | 1, _ => exact ⟨_, rfl, by decide⟩
      | 2, _ => exact ⟨_, rfl, by decide⟩
      | 3, _ => exact ⟨_, rfl, by decide⟩
      | 4, _ => exact ⟨_, rfl, by decide⟩
      | 5, _ => exact ⟨_, rfl, by decide⟩
      | 6, _ => exact ⟨_, rfl, by decide⟩
      | 7, _ => exact ⟨_, rfl, by decide⟩
    have two : ∀ (c : Int) (B : Prop), B → (c = 0 ∨ ∃ j : Nat, i = (j : Int) ∧ ns[j]? = some c) → B := fun _ _ b _ => b
    refine ite2 (fun hp => ?_) (fun hp => ?_)
    · have hp' : i < ((ns.map V.int).length : Int) := of_decide_eq_true hp
      rw [List.length_map] at hp'
      obtain ⟨n, hn⟩ : ∃ n : Nat, i = (n : Int) := ⟨i.toNat, by omega⟩
      have hnl : n < ns.length := by omega
      refine ⟨_, rfl, _, rfl, a, _, _, _, rfl, rfl, hS, (by rw [hn]; exact atI_nat (v := V.int ns[n]) (by simp [hnl])), ?_⟩
      refine ⟨_, rfl, _, rfl, _, _, rfl, rfl, ⟨by decide, by decide, by decide⟩, _, _, rfl, rfl, _, rfl, ?_⟩
      refine ite2 (fun hp => ?_) (fun hp => ?_)
      · refine ⟨_, rfl, _, rfl, ?_⟩
        have l0 := last ns[n]
        refine ⟨(by show 8 ≤ sizeLine; decide), fun pl hpl => ?_⟩
        refine ⟨_, rfl, _, rfl, _, _, rfl, rfl, (show (0 : Int) < 2147483647 by decide), _, rfl, _, _, rfl, rfl, .inl ⟨by decide, by decide⟩, _, _, rfl, rfl, _, _, rfl, rfl, _, _, rfl, rfl, ⟨by decide, by decide, by omega⟩, _, rfl, _, rfl, _, _, rfl, rfl, (show (0 : Int) < 8 by decide), pl, _, _, _, rfl, rfl, SqL.of upd_same, (by rw [hj]; exact atI_nat hq), _, _, rfl, rfl, hq0, (by show 2 ≤ sizeLine; decide), fun l hl => ?_⟩
        have hl0 : H l = none := (Same.laid hpl).free hl
        exact k l _ hl0 ((Same.laid hpl).step hl) ⟨_, _, (by split <;> omega), upd_same⟩
      · have l0 := last ns[n]
        refine ⟨(by show 8 ≤ sizeLine; decide), fun pl hpl => ?_⟩
        refine ⟨_, rfl, _, rfl, _, _, rfl, rfl, (show (0 : Int) < 2147483647 by decide), _, rfl, _, _, rfl, rfl, .inl ⟨by decide, by decide⟩, _, _, rfl, rfl, _, _, rfl, rfl, _, _, rfl, rfl, ⟨by decide, by decide, by omega⟩, _, rfl, _, rfl, _, _, rfl, rfl, (show (0 : Int) < 8 by decide), pl, _, _, _, rfl, rfl, SqL.of upd_same, (by rw [hj]; exact atI_nat hq), _, _, rfl, rfl, hq0, (by show 2 ≤ sizeLine; decide), fun l hl => ?_⟩
        have hl0 : H l = none := (Same.laid hpl).free hl
        exact k l _ hl0 ((Same.laid hpl).step hl) ⟨0, _, Int.le_refl _, upd_same⟩
    · refine ⟨_, rfl, _, rfl, _, _, rfl, rfl, ⟨by decide, by decide, by decide⟩, _, _, rfl, rfl, _, rfl, ?_⟩
      refine ite2 (fun hp => ?_) (fun hp => ?_)
      · exact absurd hp (by decide)
      · have l0 := last 0
        refine ⟨(by show 8 ≤ sizeLine; decide), fun pl hpl => ?_⟩
        refine ⟨_, rfl, _, rfl, _, _, rfl, rfl, (show (0 : Int) < 2147483647 by decide), _, rfl, _, _, rfl, rfl, .inl ⟨by decide, by decide⟩, _, _, rfl, rfl, _, _, rfl, rfl, _, _, rfl, rfl, ⟨by decide, by decide, by omega⟩, _, rfl, _, rfl, _, _, rfl, rfl, (show (0 : Int) < 8 by decide), pl, _, _, _, rfl, rfl, SqL.of upd_same, (by rw [hj]; exact atI_nat hq), _, _, rfl, rfl, hq0, (by show 2 ≤ sizeLine; decide), fun l hl => ?_⟩
        have hl0 : H l = none := (Same.laid hpl).free hl
        exact k l _ hl0 ((Same.laid hpl).step hl) ⟨0, _, Int.le_refl _, upd_same⟩
end
end Qk05

namespace Qk05
open PySem L2 PyProof.Rows
section
variable {P : Program} {w : World} {K : PySem.W.Frag} {mg : Str → Option Value} {base : Heap}
theorem isK_at {ls : List (Str × Int)} {i : Nat} {q : Str × Int} (hq : ls[i]? = some q) (pr : Str → Bool) : isK ls pr i = pr q.1 := by
  unfold isK
  rw [hq]
  cases h : pr q.1 <;> simp [h]
theorem wk_sum {ls : List (Str × Int)} {n : Int} (h : Wk ls n) : sumG ls = n := by
  have g1 : gain "born" = 2 := by decide +kernel
  have g2 : gain "cross" = 0 := by decide +kernel
  have g3 : gain "end" = -2 := by decide +kernel
  induction h with
  | nil => rfl
  | born _ _ _ ih => rw [sumG_snoc, ih, g1]
  | cross _ _ _ ih => rw [sumG_snoc, ih, g2]; omega
  | fin _ _ _ ih => rw [sumG_snoc, ih, g3]; omega
/-- within the bounds of a drawing -/
def InB (ls : List (Str × Int)) : Prop := (∀ i, sumG (ls.take i) ≤ 8) ∧ (locI ls (fun x => decide (x = "born")) ls.length).length ≤ 4 ∧ (locI ls (fun x => decide (x = "cross")) ls.length).length ≤ 12
def cnt (x : Str) (ls : List (Str × Int)) : Nat := (ls.filter fun p => decide (p.1 = x)).length
theorem cnt_snoc (x : Str) (ls : List (Str × Int)) (p : Str × Int) : cnt x (ls ++ [p]) = cnt x ls + if p.1 = x then 1 else 0 := by
  unfold cnt
  rw [List.filter_append, List.length_append]
  by_cases e : p.1 = x <;> simp [e]
theorem loc_cnt (x : Str) (ls : List (Str × Int)) : (locI ls (fun y => decide (y = x)) ls.length).length = cnt x ls := by
  have key : ∀ n, n ≤ ls.length → (locI ls (fun y => decide (y = x)) n).length = cnt x (ls.take n) := by
    intro n
    induction n with
    | zero => intro _; rfl
    | succ n ih =>
      intro hn
      have hq : ls[n]? = some ls[n] := by simp [show n < ls.length by omega]
      rw [locI_succ, List.length_append, ih (by omega), List.take_add_one, hq]
      show _ = cnt x (ls.take n ++ [ls[n]])
      rw [cnt_snoc, isK_at hq]
      by_cases e : ls[n].1 = x <;> simp [e]
  have := key ls.length (Nat.le_refl _)
  rwa [List.take_of_length_le (Nat.le_refl _)] at this
/-- the letters so far: n strands, never more than eight, b births, c crossings -/
structure Gd (ls : List (Str × Int)) (n : Int) (b c : Nat) : Prop where
  wk : Wk ls n
  mx : ∀ i, sumG (ls.take i) ≤ 8
  bo : cnt "born" ls = b
  cr : cnt "cross" ls = c
theorem mx_snoc {ls : List (Str × Int)} {p : Str × Int} (h : ∀ i, sumG (ls.take i) ≤ 8) (h2 : sumG (ls ++ [p]) ≤ 8) : ∀ i, sumG ((ls ++ [p]).take i) ≤ 8 := fun i => by
  by_cases hi : i ≤ ls.length
  · rw [List.take_append_of_le_length hi]; exact h i
  · rw [List.take_of_length_le (by rw [List.length_append, List.length_singleton]; omega)]; exact h2
theorem gd_nil : Gd [] 0 0 0 := ⟨.nil, fun i => by simp [sumG], rfl, rfl⟩
theorem gd_born {ls : List (Str × Int)} {n k : Int} {b c : Nat} (h : Gd ls n b c) (h0 : 0 ≤ k) (h1 : k ≤ n) (h2 : n + 2 ≤ 8) : Gd (ls ++ [(("born" : Str), k)]) (n + 2) (b + 1) c := by
  have wk := Wk.born (k := k) h.wk h0 h1
  refine ⟨wk, mx_snoc h.mx (by rw [wk_sum wk]; exact h2), ?_, ?_⟩
  · rw [cnt_snoc, h.bo]; simp
  · rw [cnt_snoc, h.cr, if_neg (fun z => nb1 z.symm)]; rfl
theorem gd_cross {ls : List (Str × Int)} {n k : Int} {b c : Nat} (h : Gd ls n b c) (h0 : 0 ≤ k) (h1 : k + 1 < n) (h2 : n ≤ 8) : Gd (ls ++ [(("cross" : Str), k)]) n b (c + 1) := by
  have wk := Wk.cross (k := k) h.wk h0 h1
  refine ⟨wk, mx_snoc h.mx (by rw [wk_sum wk]; exact h2), ?_, ?_⟩
  · rw [cnt_snoc, h.bo, if_neg (fun z => nb1 z)]; rfl
  · rw [cnt_snoc, h.cr]; simp
theorem gd_end {ls : List (Str × Int)} {n k : Int} {b c : Nat} (h : Gd ls n b c) (h0 : 0 ≤ k) (h1 : k + 1 < n) (h2 : n ≤ 10) : Gd (ls ++ [(("end" : Str), k)]) (n - 2) b c := by
  have wk := Wk.fin (k := k) h.wk h0 h1
  refine ⟨wk, mx_snoc h.mx (by rw [wk_sum wk]; omega), ?_, ?_⟩
  · rw [cnt_snoc, h.bo, if_neg (fun z => nb2 z)]; rfl
  · rw [cnt_snoc, h.cr, if_neg (fun z => nb3 z)]; rfl
theorem gd_in {ls : List (Str × Int)} {n : Int} {b c : Nat} (h : Gd ls n b c) (hb : b ≤ 4) (hc : c ≤ 12) : InB ls := by
  refine ⟨h.mx, ?_, ?_⟩
  · rw [loc_cnt, h.bo]; exact hb
  · rw [loc_cnt, h.cr]; exact hc
theorem gd_births : ∀ (n : Nat), n ≤ 4 → Gd ((List.range n).map fun (k : Nat) => ((("born" : Str), 2 * (k : Int)) : Str × Int)) (2 * (n : Int)) n 0
  | 0, _ => by simpa using gd_nil
  | n + 1, h => by
    rw [List.range_succ, List.map_append]
    have e : (2 * ((n + 1 : Nat) : Int)) = 2 * (n : Int) + 2 := by omega
    rw [e]
    exact gd_born (gd_births n (by omega)) (by omega) (by omega) (by omega)
theorem gd_ends {ls : List (Str × Int)} {b c : Nat} : ∀ (n : Nat), n ≤ 4 → Gd ls (2 * (n : Int)) b c → ∀ m, m ≤ n → Gd (ls ++ List.replicate m ((("end" : Str), 0) : Str × Int)) (2 * ((n - m : Nat) : Int)) b c
  | n, _, h, 0, _ => by simpa using h
  | n, h4, h, m + 1, hm => by
    have ih := gd_ends n h4 h m (by omega)
    rw [List.replicate_succ', ← List.append_assoc]
    have e : (2 * ((n - (m + 1) : Nat) : Int)) = 2 * ((n - m : Nat) : Int) - 2 := by omega
    rw [e]
    exact gd_end ih (by decide) (by omega) (by omega)
end
end Qk05

namespace Qk05
open PySem L2 PyProof.Rows
section
variable {P : Program} {w : World} {K : PySem.W.Frag} {mg : Str → Option Value} {base : Heap}
/-! ### drawings drawn -/
def spDraw (lo : Int) : Sp := fun vs H Q _ => ∃ (b : Addr) (m n : Int), vs = [.ref b, .int m, .int n] ∧ Bag H b ∧ 1 ≤ m ∧ m ≤ 4 ∧ 0 ≤ n ∧ n ≤ 12 ∧ ∀ (l : Addr) (H' : Hp) (ls : List (Str × Int)), H l = none → Bag H' b → Frm b H H' → Drw H' l ls → InB ls → ls.length ≤ 50 → Q (.ref l) H'
def spAny : Sp := fun vs H Q _ => ∃ (b : Addr) (n : Int), vs = [.ref b, .int n] ∧ Bag H b ∧ 0 ≤ n ∧ n ≤ 12 ∧ ∀ (l : Addr) (H' : Hp) (ls : List (Str × Int)), H l = none → Bag H' b → Frm b H H' → Drw H' l ls → InB ls → ls.length ≤ 50 → Q (.ref l) H'
abbrev s__law_drawing : Stmt := top 15
theorem sc__law_drawing : FnScope ["_law_bag_here", "_law_births", "_law_most", "_law_letters", "_law_many", "_law_left", "_law_crosses", "_law_turn", "_law_way"] ["_law_bag_here", "_law_births", "_law_most"] (defScope s__law_drawing) := ⟨rfl, rfl, rfl, by decide +kernel, rfl, by decide +kernel, by decide +kernel⟩
theorem ok_draw {f : Addr} {fd : FuncData} (F : Fun K "_law_drawing" "_law_drawing" s__law_drawing f fd) (h__law_take : Has P w K mg base 1 "_law_take" ["_law_bag_here", "_law_many"] spTake) (b_range : mg "range" = none) :
    FnOk P w K mg base CX0 2 f fd ["_law_bag_here", "_law_births", "_law_most"] (spDraw 0) := by
  refine F.ok sc__law_drawing (fun vs H Q E h => ?_) (fun cdv A outer s H vs Q E hr h => ?_)
  · obtain ⟨b, m, n, rfl, _⟩ := h
    rfl
  · obtain ⟨b, m, n, rfl, hbag, m1, m2, n1, n2, k⟩ := h
    refine ⟨_, (pss_cons (ps_set (i := 3) sc__law_drawing.nd rfl (Or.inl rfl) (pe_lst pa_nil))
      (pss_cons (ps_set (i := 4) sc__law_drawing.nd rfl (Or.inl rfl) pe_int)
      (pss_cons (ps_set (i := 5) sc__law_drawing.nd rfl (Or.inl rfl) (pe_op op_add pe_int (pe_has h__law_take (hr.mono (by decide)) (pa_cons (pv 0) (pa_cons (pv 1) pa_nil)))))
      (pss_cons (ps_set (i := 6) sc__law_drawing.nd rfl (Or.inl rfl) (pe_has h__law_take (hr.mono (by decide)) (pa_cons (pv 0) (pa_cons (pe_op op_add (pv 2) pe_int) pa_nil))))
      (pss_cons (ps_for PassesOwn.never rfl (pi_range1 (by rfl) b_range (pa_cons pe_int pa_nil)) (pg_name (i := 7) sc__law_drawing.nd rfl (Or.inl rfl)) (pss_cons (ps_set (i := 8) sc__law_drawing.nd rfl (Or.inl rfl) (pe_has h__law_take (hr.mono (by decide)) (pa_cons (pv 0) (pa_cons pe_int pa_nil))))
      (pss_one (ps_if (PW.pt (pw_and (pt_cmpR op_gt (pv 5) pe_int (nomark _)) (pw_and (pt_cmpR op_lt (pv 4) pe_int (nomark _)) (pw_and1 (PW.pt (pw_or (pt_cmpR op_eq (pv 4) pe_int (nomark _)) (pw_or1 (pt_cmpR op_eq (pv 8) pe_int (nomark _))))))))) (pss_cons (ps_expr (pe_bmK (K := K) rfl (pe_bm PySem.F.plainAttrs_list PySem.F.slot_list_append PySem.F.type_list_append mt_append (pv 3) (pa_cons (pe_tup (pa_cons pe_str (pa_cons (pe_has h__law_take (hr.mono (by decide)) (pa_cons (pv 0) (pa_cons (pe_op op_add (pv 4) pe_int) pa_nil))) pa_nil))) pa_nil))))
      (pss_cons (ps_set (i := 4) sc__law_drawing.nd rfl (Or.inl rfl) (pe_op op_add (pv 4) pe_int))
      (pss_one (ps_set (i := 5) sc__law_drawing.nd rfl (Or.inl rfl) (pe_op op_sub (pv 5) pe_int))))) (pss_one (ps_if (PW.pt (pw_and (pt_cmpR op_gt (pv 4) pe_int (nomark _)) (pw_and1 (pt_cmpR op_eq (pv 8) pe_int (nomark _))))) (pss_cons (ps_expr (pe_bmK (K := K) rfl (pe_bm PySem.F.plainAttrs_list PySem.F.slot_list_append PySem.F.type_list_append mt_append (pv 3) (pa_cons (pe_tup (pa_cons pe_str (pa_cons (pe_has h__law_take (hr.mono (by decide)) (pa_cons (pv 0) (pa_cons (pe_op op_sub (pv 4) pe_int) pa_nil))) pa_nil))) pa_nil))))
      (pss_one (ps_set (i := 4) sc__law_drawing.nd rfl (Or.inl rfl) (pe_op op_sub (pv 4) pe_int)))) (pss_one (ps_if (PW.pt (pw_and (pt_cmpR op_gt (pv 4) pe_int (nomark _)) (pw_and1 (pt_cmpR op_gt (pv 6) pe_int (nomark _))))) (pss_cons (ps_expr (pe_bmK (K := K) rfl (pe_bm PySem.F.plainAttrs_list PySem.F.slot_list_append PySem.F.type_list_append mt_append (pv 3) (pa_cons (pe_tup (pa_cons pe_str (pa_cons (pe_has h__law_take (hr.mono (by decide)) (pa_cons (pv 0) (pa_cons (pe_op op_sub (pv 4) pe_int) pa_nil))) pa_nil))) pa_nil))))
      (pss_one (ps_set (i := 6) sc__law_drawing.nd rfl (Or.inl rfl) (pe_op op_sub (pv 6) pe_int)))) pss_nil))))))))
      (pss_cons (ps_while PassesOwn.never (pt_cmpR op_gt (pv 4) pe_int (nomark _)) (pss_cons (ps_expr (pe_bmK (K := K) rfl (pe_bm PySem.F.plainAttrs_list PySem.F.slot_list_append PySem.F.type_list_append mt_append (pv 3) (pa_cons (pe_tup (pa_cons pe_str (pa_cons (pe_has h__law_take (hr.mono (by decide)) (pa_cons (pv 0) (pa_cons (pe_op op_sub (pv 4) pe_int) pa_nil))) pa_nil))) pa_nil))))
      (pss_one (ps_set (i := 4) sc__law_drawing.nd rfl (Or.inl rfl) (pe_op op_sub (pv 4) pe_int)))))
      (pss_one (ps_ret (pv 3))))))))), ?_⟩
    -- letters = []; many = 0
    refine ⟨(by show 0 ≤ sizeLine; decide), fun l hl => ?_⟩
    obtain ⟨g0, r0, hg0, hb0⟩ := id hbag
    have hlb : l ≠ b := (ne_of_none hb0 hl).symm
    have bag1 : Bag (upd H l (.lst [])) b := ⟨g0, r0, hg0, by rw [upd_ne (Ne.symm hlb)]; exact hb0⟩
    -- left, crosses
    refine ⟨_, rfl, _, rfl, b, m, rfl, bag1, m1, by omega, fun d1 H1 p1 q1 bg1 f1 => ?_⟩
    refine ⟨_, _, rfl, rfl, ?_⟩
    refine ⟨_, rfl, _, rfl, _, _, rfl, rfl, b, _, rfl, bg1, by omega, by omega, fun d2 H2 p2 q2 bg2 f2 => ?_⟩
    have hl2 : H2 l = some (.lst []) := f2 l _ (f1 l _ upd_same hlb) hlb
    have fr2 : Frm b H H2 := fun c o e nb => f2 c o (f1 c o (by rw [upd_ne (ne_of_none e hl)]; exact e) nb) nb
    -- the loop
    refine ⟨30, rfl, by decide, by decide, for_range (n := 30) (fun i σ H' => ∃ (xs : List V) (ls : List (Str × Int)) (c : Nat) (lf cr : Int) (tv wv : Option V), σ = [some (.ref b), some (.int m), some (.int n), some (.ref l), some (.int (2 * (c : Int))), some (.int lf), some (.int cr), tv, wv] ∧ c ≤ 4 ∧ Bag H' b ∧ Frm b H H' ∧ H' l = some (.lst xs) ∧ LetsV H' xs ls ∧ (∃ bo cc : Nat, Gd ls (2 * (c : Int)) bo cc ∧ (bo : Int) + lf ≤ m ∧ (cc : Int) + cr ≤ n ∧ 0 ≤ lf ∧ 0 ≤ cr) ∧ ls.length ≤ i)
      ⟨[], [], 0, _, _, none, none, rfl, by decide, bg2, fr2, hl2, .nil, ⟨0, 0, by simpa using gd_nil, by omega, by omega, by omega, by omega⟩, Nat.le_refl _⟩ ?_ ?_⟩
    · rintro i σ H3 hi ⟨xs, ls, c, lf, cr, tv, wv, rfl, hc, bg3, fr3, hl3, hL, ⟨bo, cc, gd, hbo, hcc, hlf, hcr⟩, hlen⟩
      have hxl : xs.length < sizeLine := by
        rw [hL.len]
        exact small1000 (by omega)
      -- way = take(bag, 8)
      refine ⟨_, rfl, b, 8, rfl, bg3, by decide, by decide, fun wy H4 _ _ bg4 f4 => ?_⟩
      have hl4 : H4 l = some (.lst xs) := f4 l _ hl3 hlb
      have fr4 : Frm b H H4 := fr3.trans f4
      have hL4 : LetsV H4 xs ls := hL.frm f4 bg3
      dsimp only [gName]
      refine ev_ifS (ev_and (β := decide (0 < lf)) (fun Q q => ⟨_, rfl, _, _, rfl, rfl, _, rfl, q⟩) fun _ => ev_and (β := decide (2 * (c : Int) < 7)) (fun Q q => ⟨_, rfl, _, _, rfl, rfl, _, rfl, q⟩) fun _ => ev_or (fun Q q => ⟨_, rfl, rfl, _, rfl, q⟩) fun _ => (fun Q q => ⟨_, rfl, rfl, _, rfl, q⟩)) (fun hp => ?_) (fun _ => ?_)
      · -- born
        have hp1 : 2 * (c : Int) < 7 := by
          simp only [Bool.and_eq_true, decide_eq_true_eq] at hp
          exact hp.2.1
        have hp0 : 0 < lf := by
          simp only [Bool.and_eq_true, decide_eq_true_eq] at hp
          exact hp.1
        refine ⟨_, rfl, .inl ⟨rfl, _, SqL.of hl4⟩, _, rfl, _, rfl, _, _, rfl, rfl, b, _, rfl, bg4, by omega, by omega, fun d H5 hd0 hd1 bg5 f5 => ⟨(by show 2 ≤ sizeLine; decide), fun t ht => ?_⟩⟩
        obtain ⟨a1, a2, a3, a4, a5⟩ := app_step "born" d fr4 bg4 hl4 hL4 hlb hl f5 bg5 ht
        refine ⟨l, _, _, rfl, rfl, a1, hxl, _, rfl, _, _, rfl, rfl, _, rfl, _, _, rfl, rfl, ?_⟩
        refine ⟨xs ++ [.ref t], ls ++ [((("born" : Str), d) : Str × Int)], c + 1, lf - 1, cr, some (.int (0 + (i : Int))), some (.int wy), ?_, by omega, a2, a3, a4, a5, ?_, by rw [List.length_append, List.length_singleton]; omega⟩
        · have e : 2 * ((c + 1 : Nat) : Int) = 2 * (c : Int) + 2 := by omega
          rw [e]
          rfl
        · have e : 2 * ((c + 1 : Nat) : Int) = 2 * (c : Int) + 2 := by omega
          rw [e]
          exact ⟨bo + 1, cc, gd_born gd hd0 (by omega) (by omega), by omega, by omega, by omega, by omega⟩
      · refine ev_ifS (ev_and (β := decide (1 < 2 * (c : Int))) (fun Q q => ⟨_, rfl, _, _, rfl, rfl, _, rfl, q⟩) fun _ => (fun Q q => ⟨_, rfl, rfl, _, rfl, q⟩)) (fun hp => ?_) (fun _ => ?_)
        · -- end
          have hp1 : 1 < 2 * (c : Int) := by
            simp only [Bool.and_eq_true, decide_eq_true_eq] at hp
            exact hp.1
          refine ⟨_, rfl, .inl ⟨rfl, _, SqL.of hl4⟩, _, rfl, _, rfl, _, _, rfl, rfl, b, _, rfl, bg4, by omega, by omega, fun d H5 hd0 hd1 bg5 f5 => ⟨(by show 2 ≤ sizeLine; decide), fun t ht => ?_⟩⟩
          obtain ⟨a1, a2, a3, a4, a5⟩ := app_step "end" d fr4 bg4 hl4 hL4 hlb hl f5 bg5 ht
          refine ⟨l, _, _, rfl, rfl, a1, hxl, _, rfl, _, _, rfl, rfl, ?_⟩
          have e : 2 * ((c - 1 : Nat) : Int) = 2 * (c : Int) - 2 := by omega
          refine ⟨xs ++ [.ref t], ls ++ [((("end" : Str), d) : Str × Int)], c - 1, lf, cr, some (.int (0 + (i : Int))), some (.int wy), ?_, by omega, a2, a3, a4, a5, ?_, by rw [List.length_append, List.length_singleton]; omega⟩
          · rw [e]
            rfl
          · rw [e]
            exact ⟨bo, cc, gd_end gd hd0 (by omega) (by omega), by omega, by omega, by omega, by omega⟩
        · refine ev_ifS (ev_and (β := decide (1 < 2 * (c : Int))) (fun Q q => ⟨_, rfl, _, _, rfl, rfl, _, rfl, q⟩) fun _ => (fun Q q => ⟨_, rfl, _, _, rfl, rfl, _, rfl, q⟩)) (fun hp => ?_) (fun _ => ?_)
          · -- cross
            have hp1 : 1 < 2 * (c : Int) := by
              simp only [Bool.and_eq_true, decide_eq_true_eq] at hp
              exact hp.1
            have hp2 : 0 < cr := by
              simp only [Bool.and_eq_true, decide_eq_true_eq] at hp
              exact hp.2
            refine ⟨_, rfl, .inl ⟨rfl, _, SqL.of hl4⟩, _, rfl, _, rfl, _, _, rfl, rfl, b, _, rfl, bg4, by omega, by omega, fun d H5 hd0 hd1 bg5 f5 => ⟨(by show 2 ≤ sizeLine; decide), fun t ht => ?_⟩⟩
            obtain ⟨a1, a2, a3, a4, a5⟩ := app_step "cross" d fr4 bg4 hl4 hL4 hlb hl f5 bg5 ht
            refine ⟨l, _, _, rfl, rfl, a1, hxl, _, rfl, _, _, rfl, rfl, ?_⟩
            exact ⟨xs ++ [.ref t], ls ++ [((("cross" : Str), d) : Str × Int)], c, _, _, _, _, rfl, hc, a2, a3, a4, a5, ⟨bo, cc + 1, gd_cross gd hd0 (by omega) (by omega), by omega, by omega, by omega, by omega⟩, by rw [List.length_append, List.length_singleton]; omega⟩
          · exact ⟨xs, ls, c, _, _, _, _, rfl, hc, bg4, fr4, hl4, hL4, ⟨bo, cc, gd, by omega, by omega, by omega, by omega⟩, by omega⟩
    · -- the rest ends
      rintro σ H3 ⟨xs, ls, c, lf, cr, tv, wv, rfl, hc, bg3, fr3, hl3, hL, ⟨bo, cc, gd, hbo, hcc, hlf, hcr⟩, hlen⟩
      refine while_by (fun σ H' => ∃ (xs : List V) (ls : List (Str × Int)) (c : Nat), σ = [some (.ref b), some (.int m), some (.int n), some (.ref l), some (.int (2 * (c : Int))), some (.int lf), some (.int cr), tv, wv] ∧ c ≤ 4 ∧ Bag H' b ∧ Frm b H H' ∧ H' l = some (.lst xs) ∧ LetsV H' xs ls ∧ Gd ls (2 * (c : Int)) bo cc ∧ ls.length + c ≤ 34)
        (fun (σ : L2.St) _ => match σ[4]? with | some (some (V.int m)) => m.toNat | _ => 0) ⟨xs, ls, c, rfl, hc, bg3, fr3, hl3, hL, gd, by omega⟩ ?_ ?_
      · rintro σ H4 ⟨xs, ls, c, rfl, hc, bg4, fr4, hl4, hL4, gd, hlen⟩
        have hxl : xs.length < sizeLine := by
          rw [hL4.len]
          exact small1000 (by omega)
        refine ⟨_, rfl, _, _, rfl, rfl, _, rfl, ?_⟩
        refine ite2 (fun hp => ?_) (fun hp => ?_)
        · have hp1 : 0 < 2 * (c : Int) := of_decide_eq_true hp
          refine ⟨_, rfl, .inl ⟨rfl, _, SqL.of hl4⟩, _, rfl, _, rfl, _, _, rfl, rfl, b, _, rfl, bg4, by omega, by omega, fun d H5 hd0 hd1 bg5 f5 => ⟨(by show 2 ≤ sizeLine; decide), fun t ht => ?_⟩⟩
          obtain ⟨a1, a2, a3, a4, a5⟩ := app_step "end" d fr4 bg4 hl4 hL4 hlb hl f5 bg5 ht
          refine ⟨l, _, _, rfl, rfl, a1, hxl, _, rfl, _, _, rfl, rfl, ?_⟩
          have e : 2 * ((c - 1 : Nat) : Int) = 2 * (c : Int) - 2 := by omega
          refine ⟨⟨xs ++ [.ref t], ls ++ [((("end" : Str), d) : Str × Int)], c - 1, ?_, by omega, a2, a3, a4, a5, ?_, by rw [List.length_append, List.length_singleton]; omega⟩, ?_⟩
          · rw [e]
            rfl
          · rw [e]
            exact gd_end gd hd0 (by omega) (by omega)
          · show (2 * (c : Int) - 2).toNat < (2 * (c : Int)).toNat
            omega
        · have hp1 : ¬ 0 < 2 * (c : Int) := fun z => hp (decide_eq_true z)
          have hc0 : c = 0 := by omega
          subst hc0
          have gd' : Gd ls 0 bo cc := by simpa using gd
          refine ⟨_, rfl, k l H4 ls hl bg4 fr4 ⟨xs, hl4, hL4, gd'.wk, by omega⟩ (gd_in gd' (by omega) (by omega)) (by omega)⟩
      · rintro σ H Q Q' f ⟨v, e, i, j, e1, e2, kk, e3, q⟩
        exact ⟨v, e, i, j, e1, e2, kk, e3, f _ _ q⟩
end
end Qk05

namespace Qk05
open PySem L2 PyProof.Rows
section
variable {P : Program} {w : World} {K : PySem.W.Frag} {mg : Str → Option Value} {base : Heap}
/-! ### plat, any, whole -/
abbrev s__law_plat : Stmt := top 16
theorem sc__law_plat : FnScope ["_law_bag_here", "_law_most", "_law_births", "_law_letters", "_law_turn", "_law_k"] ["_law_bag_here", "_law_most"] (defScope s__law_plat) := ⟨rfl, rfl, rfl, by decide +kernel, rfl, by decide +kernel, by decide +kernel⟩
theorem ok_plat {f : Addr} {fd : FuncData} (F : Fun K "_law_plat" "_law_plat" s__law_plat f fd) (h__law_take : Has P w K mg base 1 "_law_take" ["_law_bag_here", "_law_many"] spTake) (b_range : mg "range" = none) :
    FnOk P w K mg base CX0 2 f fd ["_law_bag_here", "_law_most"] spAny := by
  refine F.ok sc__law_plat (fun vs H Q E h => ?_) (fun cdv A outer s H vs Q E hr h => ?_)
  · obtain ⟨b, n, rfl, _⟩ := h
    rfl
  · obtain ⟨b, n, rfl, hbag, n1, n2, k⟩ := h
    refine ⟨_, (pss_cons (ps_set (i := 2) sc__law_plat.nd rfl (Or.inl rfl) (pe_op op_add pe_int (pe_has h__law_take (hr.mono (by decide)) (pa_cons (pv 0) (pa_cons pe_int pa_nil)))))
      (pss_cons (ps_lc (i := 3) sc__law_plat.nd rfl (Or.inl rfl) (Ls := ["_law_k"]) (Fs := []) (fi := []) (LcScope.of (show lcLook ["_law_bag_here", "_law_most", "_law_births", "_law_letters", "_law_turn", "_law_k"] (defScope s__law_plat) _ [] [] = true by decide +kernel)) rfl (pi_range1 (by rfl) b_range (pa_cons (pv 2) pa_nil)) (fun cl C s3 H3 ex => ⟨(pg_name (i := 0) (show ((["_law_k"] : List Str) ++ ([] : List Str)).Nodup by decide +kernel) rfl (Or.inl rfl)), pts_nil, (pe_tup (pa_cons pe_str (pa_cons (pe_op op_mul pe_int (pv 0)) pa_nil)))⟩))
      (pss_cons (ps_for PassesOwn.never rfl (pi_range1 (by rfl) b_range (pa_cons (pe_has h__law_take (hr.mono (by decide)) (pa_cons (pv 0) (pa_cons (pe_op op_add (pv 1) pe_int) pa_nil))) pa_nil)) (pg_name (i := 4) sc__law_plat.nd rfl (Or.inl rfl)) (pss_cons (ps_set (i := 5) sc__law_plat.nd rfl (Or.inl rfl) (pe_has h__law_take (hr.mono (by decide)) (pa_cons (pv 0) (pa_cons (pe_op op_sub (pe_op op_mul pe_int (pv 2)) pe_int) pa_nil))))
      (pss_cons (ps_if (PW.pt (pw_and (pt_cmpR op_gt (pv 2) pe_int (nomark _)) (pw_and1 (pt_cmpR op_eq (pe_has h__law_take (hr.mono (by decide)) (pa_cons (pv 0) (pa_cons pe_int pa_nil))) pe_int (nomark _))))) (pss_one (ps_set (i := 5) sc__law_plat.nd rfl (Or.inl rfl) (pe_op op_add (pe_op op_mul pe_int (pe_op op_mod (pe_op op_fdiv (pv 5) pe_int) (pe_op op_sub (pv 2) pe_int))) pe_int))) pss_nil)
      (pss_one (ps_expr (pe_bmK (K := K) rfl (pe_bm PySem.F.plainAttrs_list PySem.F.slot_list_append PySem.F.type_list_append mt_append (pv 3) (pa_cons (pe_tup (pa_cons pe_str (pa_cons (pv 5) pa_nil))) pa_nil))))))))
      (pss_one (ps_ret (pe_op op_cat (pv 3) (pe_lc (Ls := ["_law_k"]) (Fs := []) (fi := []) (LcScope.of (show lcLook ["_law_bag_here", "_law_most", "_law_births", "_law_letters", "_law_turn", "_law_k"] (defScope s__law_plat) _ [] [] = true by decide +kernel)) rfl (pi_range1 (by rfl) b_range (pa_cons (pv 2) pa_nil)) (fun cl C s3 H3 ex => ⟨(pg_name (i := 0) (show ((["_law_k"] : List Str) ++ ([] : List Str)).Nodup by decide +kernel) rfl (Or.inl rfl)), pts_nil, (pe_tup (pa_cons pe_str (pa_cons pe_int pa_nil)))⟩)))))))), ?_⟩
    refine ⟨_, rfl, b, 3, rfl, hbag, by decide, by decide, fun d H1 hd0 hd1 bg1 f1 => ?_⟩
    refine ⟨_, _, rfl, rfl, ?_⟩
    have hc1 : 1 ≤ (1 + d).toNat := by omega
    have hc2 : (1 + d).toNat ≤ 3 := by omega
    refine ⟨_, rfl, _, rfl, by omega, by omega, lc_rng (n := (1 + d).toNat) (Nat.le_of_lt (small1000 (by omega))) (fun i ys H' => Same H1 H' ∧ LetsV H' ys ((List.range i).map fun (j : Nat) => (("born", 2 * (j : Int)) : Str × Int))) ⟨Same.refl _, .nil⟩
      (fun i ys H' p => by rw [p.2.len]; simp) (fun i ys H' hi p => ?_) (fun ys H2 p l hl => ?_)⟩
    · refine lcG ?_
      refine ⟨_, rfl, _, _, rfl, rfl, .inl ⟨by decide, by decide⟩, (by show 2 ≤ sizeLine; decide), fun t ht => ⟨p.1.step ht, ?_⟩⟩
      rw [List.range_succ, List.map_append]
      have e : (2 * (0 + (i : Int))) = 2 * (i : Int) := by omega
      refine LetsV.snoc (p.2.same (Same.laid ht)) ?_
      rw [← e]
      exact upd_same
    · -- letters stand
      obtain ⟨sm, hL0⟩ := p
      obtain ⟨g0, r0, hg0, hb0⟩ := id bg1
      have hb2 : H2 b = some (.lst [.int g0, .int r0]) := sm b _ hb0
      have hlb : l ≠ b := (ne_of_none hb2 hl).symm
      have bg2 : Bag (upd H2 l (.lst ys)) b := ⟨g0, r0, hg0, by rw [upd_ne (Ne.symm hlb)]; exact hb2⟩
      have hlH : H l = none := f1.free bg1 (sm.free hl)
      have fr2 : Frm b H (upd H2 l (.lst ys)) := (f1.trans sm.frm).new hl
      have hL2 : LetsV (upd H2 l (.lst ys)) ys ((List.range (1 + d).toNat).map fun (j : Nat) => (("born", 2 * (j : Int)) : Str × Int)) := hL0.same (Same.laid hl)
      refine ⟨_, rfl, _, rfl, _, _, rfl, rfl, b, _, rfl, bg2, by omega, by omega, fun d2 H3 he0 he1 bg3 f3 => ?_⟩
      refine ⟨_, rfl, by omega, by omega, for_range (n := d2.toNat) (fun i σ H' => ∃ (xs : List V) (ls : List (Str × Int)) (tv kv : Option V), σ = [some (.ref b), some (.int n), some (.int (1 + d)), some (.ref l), tv, kv] ∧ Bag H' b ∧ Frm b H H' ∧ H' l = some (.lst xs) ∧ LetsV H' xs ls ∧ Gd ls (2 * ((1 + d).toNat : Int)) (1 + d).toNat i ∧ ls.length ≤ 3 + i)
        ⟨ys, _, none, none, rfl, bg3, fr2.trans f3, f3 l _ upd_same hlb, hL2.frm f3 bg2, gd_births _ (by omega), by rw [List.length_map, List.length_range]; omega⟩ ?_ ?_⟩
      · rintro i σ H4 hi ⟨xs, ls, tv, kv, rfl, bg4, fr4, hl4, hL4, hW, hlen⟩
        have hxl : xs.length < sizeLine := by
          rw [hL4.len]
          exact small1000 (by omega)
        refine ⟨_, rfl, _, rfl, _, _, rfl, rfl, .inl ⟨by decide, by decide⟩, _, _, rfl, rfl, b, _, rfl, bg4, by omega, by omega, fun k1 H5 hk0 hk1 bg5 f5 => ?_⟩
        have hl5 : H5 l = some (.lst xs) := f5 l _ hl4 hlb
        have fr5 : Frm b H H5 := fr4.trans f5
        have hL5 : LetsV H5 xs ls := hL4.frm f5 bg4
        refine ⟨_, rfl, _, _, rfl, rfl, _, rfl, ?_⟩
        refine ite2 (fun hp => ?_) (fun hp => ?_)
        · have hp1 : 1 < 1 + d := of_decide_eq_true hp
          refine ⟨_, rfl, b, 2, rfl, bg5, by decide, by decide, fun d3 H6 _ _ bg6 f6 => ⟨rfl, _, rfl, ?_⟩⟩
          have hl6 : H6 l = some (.lst xs) := f6 l _ hl5 hlb
          have fr6 : Frm b H H6 := fr5.trans f6
          have hL6 : LetsV H6 xs ls := hL5.frm f6 bg5
          refine ite2 (fun hq => ?_) (fun hq => ?_)
          · refine ⟨_, rfl, _, _, rfl, rfl, ⟨by decide, by decide⟩, _, rfl, _, _, rfl, rfl, _, _, rfl, rfl, (show (0 : Int) < 1 + d - 1 by omega), _, _, rfl, rfl, .inl ⟨by decide, by decide⟩, _, _, rfl, rfl, ?_⟩
            have z0 : 0 ≤ k1 / 2 % (1 + d - 1) := Int.emod_nonneg _ (by omega)
            have z1 : k1 / 2 % (1 + d - 1) < 1 + d - 1 := Int.emod_lt_of_pos _ (by omega)
            refine ⟨_, rfl, .inl ⟨rfl, _, SqL.of hl6⟩, _, rfl, (by show 2 ≤ sizeLine; decide), fun t ht => ?_⟩
            obtain ⟨a1, a2, a3, a4, a5⟩ := app_step "cross" (2 * (k1 / 2 % (1 + d - 1)) + 1) fr6 bg6 hl6 hL6 hlb hlH (Frm.refl b H6) bg6 ht
            refine ⟨l, _, _, rfl, rfl, a1, hxl, ?_⟩
            exact ⟨xs ++ [.ref t], _, _, _, rfl, a2, a3, a4, a5, gd_cross hW (by omega) (by omega) (by omega), by rw [List.length_append, List.length_singleton]; omega⟩
          · refine ⟨_, rfl, .inl ⟨rfl, _, SqL.of hl6⟩, _, rfl, (by show 2 ≤ sizeLine; decide), fun t ht => ?_⟩
            obtain ⟨a1, a2, a3, a4, a5⟩ := app_step "cross" k1 fr6 bg6 hl6 hL6 hlb hlH (Frm.refl b H6) bg6 ht
            refine ⟨l, _, _, rfl, rfl, a1, hxl, ?_⟩
            exact ⟨xs ++ [.ref t], _, _, _, rfl, a2, a3, a4, a5, gd_cross hW (by omega) (by omega) (by omega), by rw [List.length_append, List.length_singleton]; omega⟩
        · refine ⟨_, rfl, .inl ⟨rfl, _, SqL.of hl5⟩, _, rfl, (by show 2 ≤ sizeLine; decide), fun t ht => ?_⟩
          obtain ⟨a1, a2, a3, a4, a5⟩ := app_step "cross" k1 fr5 bg5 hl5 hL5 hlb hlH (Frm.refl b H5) bg5 ht
          refine ⟨l, _, _, rfl, rfl, a1, hxl, ?_⟩
          exact ⟨xs ++ [.ref t], _, _, _, rfl, a2, a3, a4, a5, gd_cross hW (by omega) (by omega) (by omega), by rw [List.length_append, List.length_singleton]; omega⟩
      · rintro σ H4 ⟨xs, ls, tv, kv, rfl, bg4, fr4, hl4, hL4, hW, hlen⟩
        refine ⟨_, rfl, _, rfl, _, rfl, by omega, by omega, lc_rng (n := (1 + d).toNat) (Nat.le_of_lt (small1000 (by omega))) (fun i ys H' => Same H4 H' ∧ LetsV H' ys (List.replicate i ((("end" : Str), 0) : Str × Int))) ⟨Same.refl _, .nil⟩
          (fun i ys H' p => by rw [p.2.len]; simp) (fun i ys H' hi p => ?_) (fun zs H5 p D hD => ?_)⟩
        · refine lcG ?_
          refine ⟨(by show 2 ≤ sizeLine; decide), fun t ht => ⟨p.1.step ht, ?_⟩⟩
          rw [List.replicate_succ']
          exact LetsV.snoc (p.2.same (Same.laid ht)) upd_same
        · obtain ⟨sm5, hZ⟩ := p
          have hl5 : H5 l = some (.lst xs) := sm5 l _ hl4
          have hZl := hZ.len
          rw [List.length_replicate] at hZl
          have hXl := hL4.len
          refine ⟨l, D, xs, zs, rfl, rfl, (by rw [upd_ne (ne_of_none hl5 hD)]; exact hl5), upd_same, Nat.le_of_lt (small1000 (by omega)), fun p hp => ?_⟩
          have sm6 : Same H4 (upd (upd H5 D (.lst zs)) p (.lst (xs ++ zs))) := (sm5.step hD).step hp
          have hpH : H p = none := fr4.free bg4 ((sm5.step hD).free hp)
          obtain ⟨g4, r4, hg4, hb4⟩ := id bg4
          refine k p _ (ls ++ List.replicate (1 + d).toNat ((("end" : Str), 0) : Str × Int)) hpH ⟨g4, r4, hg4, sm6 b _ hb4⟩ (fr4.trans sm6.frm) ⟨xs ++ zs, upd_same, ?_, ?_, ?_⟩ ?_ ?_
          · exact (hL4.same sm6).append (hZ.same ((Same.laid hD).step hp))
          · have := (gd_ends _ (by omega) hW (1 + d).toNat (Nat.le_refl _)).wk
            simpa using this
          · rw [List.length_append, List.length_replicate]
            omega
          · exact gd_in (gd_ends _ (by omega) hW (1 + d).toNat (Nat.le_refl _)) (by omega) (by omega)
          · rw [List.length_append, List.length_replicate]
            omega
abbrev s__law_any : Stmt := top 17
theorem sc__law_any : FnScope ["_law_bag_here", "_law_most"] ["_law_bag_here", "_law_most"] (defScope s__law_any) := ⟨rfl, rfl, rfl, by decide +kernel, rfl, by decide +kernel, by decide +kernel⟩
theorem ok_any {f : Addr} {fd : FuncData} (F : Fun K "_law_any" "_law_any" s__law_any f fd) (h__law_take : Has P w K mg base 1 "_law_take" ["_law_bag_here", "_law_many"] spTake) (h__law_plat : Has P w K mg base 2 "_law_plat" ["_law_bag_here", "_law_most"] spAny)
    (h__law_drawing : Has P w K mg base 2 "_law_drawing" ["_law_bag_here", "_law_births", "_law_most"] (spDraw 0)) : FnOk P w K mg base CX0 3 f fd ["_law_bag_here", "_law_most"] spAny := by
  refine F.ok sc__law_any (fun vs H Q E h => ?_) (fun cdv A outer s H vs Q E hr h => ?_)
  · obtain ⟨b, n, rfl, _⟩ := h
    rfl
  · obtain ⟨b, n, rfl, hbag, n1, n2, k⟩ := h
    refine ⟨_, (pss_cons (ps_if (pt_cmpR op_eq (pe_has h__law_take (hr.mono (by decide)) (pa_cons (pv 0) (pa_cons pe_int pa_nil))) pe_int (nomark _)) (pss_one (ps_ret (pe_has h__law_plat (hr.mono (by decide)) (pa_cons (pv 0) (pa_cons (pv 1) pa_nil))))) pss_nil)
      (pss_one (ps_ret (pe_has h__law_drawing (hr.mono (by decide)) (pa_cons (pv 0) (pa_cons pe_int (pa_cons (pv 1) pa_nil))))))), ?_⟩
    refine ⟨_, rfl, b, 3, rfl, hbag, by decide, by decide, fun d H1 _ _ bg1 f1 => ⟨rfl, _, rfl, ?_⟩⟩
    refine ite2 (fun _ => ?_) (fun _ => ?_)
    · exact ⟨_, rfl, _, rfl, b, n, rfl, bg1, n1, n2, fun l H2 ls hl bg2 f2 dr ib ll => k l H2 ls (f1.free bg1 hl) bg2 (f1.trans f2) dr ib ll⟩
    · exact ⟨_, rfl, _, rfl, b, 4, n, rfl, bg1, by decide, by decide, n1, by omega, fun l H2 ls hl bg2 f2 dr ib ll => k l H2 ls (f1.free bg1 hl) bg2 (f1.trans f2) dr ib ll⟩
end
end Qk05

namespace Qk05
open PySem L2 PyProof.Rows
section
variable {P : Program} {w : World} {K : PySem.W.Frag} {mg : Str → Option Value} {base : Heap}
def spWhole : Sp := fun vs H Q _ => ∃ i : Int, vs = [.int i] ∧ Q (.bl true) H
abbrev s__law_whole : Stmt := top 19
theorem sc__law_whole : FnScope ["_law_thing"] ["_law_thing"] (defScope s__law_whole) := ⟨rfl, rfl, rfl, by decide +kernel, rfl, by decide +kernel, by decide +kernel⟩
theorem ok_whole {f : Addr} {fd : FuncData} (F : Fun K "_law_whole" "_law_whole" s__law_whole f fd) (b_isinstance : mg "isinstance" = none) (b_int : mg "int" = none) (b_bool : mg "bool" = none) : FnOk P w K mg base CX0 1 f fd ["_law_thing"] spWhole := by
  refine F.ok sc__law_whole (fun vs H Q E h => ?_) (fun cdv A outer s H vs Q E hr h => ?_)
  · obtain ⟨i, rfl, _⟩ := h
    rfl
  · obtain ⟨i, rfl, k⟩ := h
    refine ⟨_, (pss_one (ps_ret (pe_and (pe_callB (call_isinstK (K := K) rfl) (by rfl) b_isinstance boot_isinstance (pa_cons (pv 0) (pa_cons (pe_bltn (v := .ty "int") (by rfl) b_int boot_int rfl) pa_nil))) (pe_one (pe_not (pe_callB (call_isinstK (K := K) rfl) (by rfl) b_isinstance boot_isinstance (pa_cons (pv 0) (pa_cons (pe_bltn (v := .ty "bool") (by rfl) b_bool boot_bool rfl) pa_nil)))))))), ?_⟩
    refine ⟨_, rfl, _, "int", _, true, rfl, .int i, by rfl, true, rfl, iteT ?_⟩
    exact ⟨_, rfl, _, "bool", _, false, rfl, .int i, by rfl, false, rfl, k⟩
def spNumbers : Sp := fun vs H Q _ => ∃ (l : Addr) (ns : List Int), vs = [.ref l] ∧ H l = some (.lst (ns.map V.int)) ∧ ns.length ≤ 900 ∧ ∀ H', Same H H' → Q (.bl true) H'
abbrev s__law_numbers : Stmt := top 20
theorem sc__law_numbers : FnScope ["_law_thing"] ["_law_thing"] (defScope s__law_numbers) := ⟨rfl, rfl, rfl, by decide +kernel, rfl, by decide +kernel, by decide +kernel⟩
theorem ok_numbers {f : Addr} {fd : FuncData} (F : Fun K "_law_numbers" "_law_numbers" s__law_numbers f fd) (h__law_whole : Has P w K mg base 1 "_law_whole" ["_law_thing"] spWhole) (b_isinstance : mg "isinstance" = none) (b_list : mg "list" = none) (b_all : mg "all" = none) :
    FnOk P w K mg base CX0 2 f fd ["_law_thing"] spNumbers := by
  refine F.ok sc__law_numbers (fun vs H Q E h => ?_) (fun cdv A outer s H vs Q E hr h => ?_)
  · obtain ⟨l, ns, rfl, _⟩ := h
    rfl
  · obtain ⟨l, ns, rfl, hl, hlen, k⟩ := h
    refine ⟨_, (pss_one (ps_ret (pe_and (pe_callB (call_isinstK (K := K) rfl) (by rfl) b_isinstance boot_isinstance (pa_cons (pv 0) (pa_cons (pe_bltn (v := .ty "list") (by rfl) b_list boot_list rfl) pa_nil))) (pe_one (pe_callB (call_allK (K := K) rfl rfl) (by rfl) b_all boot_all (pa_cons (pe_lc (Ls := ["_law_one"]) (Fs := []) (fi := []) (LcScope.of (show lcLook ["_law_thing"] (defScope s__law_numbers) _ [] [] = true by decide +kernel)) rfl (pi_listK (K := K) rfl (pv 0)) (fun cl C s3 H3 ex => ⟨(pg_name (i := 0) (show ((["_law_one"] : List Str) ++ ([] : List Str)).Nodup by decide +kernel) rfl (Or.inl rfl)), pts_nil, (pe_has h__law_whole (hr.mono (by decide)) (pa_cons (pv 0) pa_nil))⟩)) pa_nil)))))), ?_⟩
    refine ⟨_, rfl, _, "list", _, true, rfl, .lst hl, by rfl, true, rfl, iteT ?_⟩
    refine ⟨_, rfl, l, rfl, ⟨_, SqL.of hl⟩, lc_list (xs := ns.map V.int) (by rw [List.length_map]; exact Nat.le_of_lt (small1000 (by omega))) (fun i ys H' => Same H H' ∧ ys = (List.replicate i true).map V.bl) ⟨Same.refl _, rfl⟩
      (fun i ys H' p => by rw [p.2]; simp) (fun i ys H' p => SqL.of (p.1 l _ hl)) (fun i x ys H' hx p => ?_) (fun ys H' p D hD => ?_)⟩
    · obtain ⟨sm, rfl⟩ := p
      obtain ⟨z, rfl⟩ : ∃ z, x = V.int z := by
        rw [List.getElem?_map] at hx
        cases e : ns[i]? with
        | none => rw [e] at hx; cases hx
        | some z => rw [e] at hx; exact ⟨z, (Option.some.inj hx).symm⟩
      refine lcG ?_
      refine ⟨_, rfl, z, rfl, sm, ?_⟩
      rw [List.replicate_succ', List.map_append]
      rfl
    · obtain ⟨sm, rfl⟩ := p
      refine ⟨D, _, rfl, SqL.of upd_same, ?_⟩
      have e : (List.replicate (ns.map V.int).length true).all id = true := by simp
      rw [e]
      exact k _ (sm.step hD)
end
end Qk05

namespace Qk05
open PySem L2 PyProof.Rows
section
variable {P : Program} {w : World} {K : PySem.W.Frag} {mg : Str → Option Value} {base : Heap}
abbrev s_threads : Stmt := top 4
theorem sc_threads : FnScope ["drawing", "rows", "born", "kind", "k", "row"] ["drawing"] (defScope s_threads) := ⟨rfl, rfl, rfl, by decide +kernel, rfl, by decide +kernel, by decide +kernel⟩
theorem ok_threads {f : Addr} {fd : FuncData} (F : Fun K "threads" "threads" s_threads f fd) (b_list : mg "list" = none) : FnOk P w K mg base CX0 1 f fd ["drawing"] spRows := by
  refine F.ok sc_threads (fun vs H Q E h => ?_) (fun cdv A outer s H vs Q E hr h => ?_)
  · obtain ⟨l, xs, ls, rfl, _⟩ := h
    rfl
  · obtain ⟨l, xs, ls, rfl, hl, hL, hlen, hW, k⟩ := h
    refine ⟨_, (pss_cons (ps_set (i := 1) sc_threads.nd rfl (Or.inl rfl) (pe_lst (pa_cons (pe_lst pa_nil) pa_nil)))
      (pss_cons (ps_set (i := 2) sc_threads.nd rfl (Or.inl rfl) pe_int)
      (pss_cons (ps_for PassesOwn.never rfl (pi_listK (K := K) rfl (pv 0)) (pg_tupK (K := K) (n := 2) rfl rfl (pgs_cons (pg_name (i := 3) sc_threads.nd rfl (Or.inl rfl)) (pgs_cons (pg_name (i := 4) sc_threads.nd rfl (Or.inl rfl)) pgs_nil))) (pss_cons (ps_set (i := 5) sc_threads.nd rfl (Or.inl rfl) (pe_callTy (call_listK (K := K) rfl) (by rfl) b_list boot_list (pa_cons (pe_ix (ix_listK (K := K) rfl) (pv 1) (pe_un un_neg pe_int) (fun _ _ => rfl)) pa_nil)))
      (pss_cons (ps_if (pt_cmpR op_eq (pv 3) pe_str (nomark _)) (pss_cons (ps_asg (pe_lst (pa_cons (pv 2) (pa_cons (pe_op op_add (pv 2) pe_int) pa_nil))) (pg_slc (pv 5) (po_some (pv 4)) (po_some (pv 4))))
      (pss_one (ps_aug (i := 2) sc_threads.nd rfl (Or.inl rfl) pe_int ip_add))) (pss_one (ps_if (pt_cmpR op_eq (pv 3) pe_str (nomark _)) (pss_one (ps_asg (pe_tup (pa_cons (pe_ix (ix_listK (K := K) rfl) (pv 5) (pe_op op_add (pv 4) pe_int) (fun _ _ => rfl)) (pa_cons (pe_ix (ix_listK (K := K) rfl) (pv 5) (pv 4) (fun _ _ => rfl)) pa_nil))) (pg_tupK (K := K) (n := 2) rfl rfl (pgs_cons (pg_sub (pv 5) (pv 4) set_list) (pgs_cons (pg_sub (pv 5) (pe_op op_add (pv 4) pe_int) set_list) pgs_nil))))) (pss_one (ps_delsl (pv 5) (po_some (pv 4)) (po_some (pe_op op_add (pv 4) pe_int)))))))
      (pss_one (ps_expr (pe_bmK (K := K) rfl (pe_bm PySem.F.plainAttrs_list PySem.F.slot_list_append PySem.F.type_list_append mt_append (pv 1) (pa_cons (pv 5) pa_nil))))))))
      (pss_one (ps_ret (pv 1)))))), ?_⟩
    have hxl := hL.len
    refine ⟨(by show 0 ≤ sizeLine; decide), fun e0 he0 => ⟨(by show 1 ≤ sizeLine; decide), fun R hR => ?_⟩⟩
    have hRH : H R = none := (Same.laid he0).free hR
    have hRe : e0 ≠ R := ne_of_none (upd_same (H := H) (a := e0) (o := .lst [])) hR
    have sm0 : Same H (upd (upd H e0 (.lst [])) R (.lst [.ref e0])) := (Same.laid he0).step hR
    refine ⟨_, rfl, l, rfl, ⟨_, SqL.of (sm0 l _ hl)⟩, for_list (K := K) (a := l) (xs := xs) (fun i σ H' => ∃ (ys : List V) (v3 v4 v5 : Option V), σ = [some (.ref l), some (.ref R), some (.int (rb (ls.take i)).2), v3, v4, v5] ∧ Same H H' ∧ H' R = some (.lst ys) ∧ RowsV H' ys (rowsOf ls (i + 1)) ∧ (∀ t, V.ref t ∈ ys → H t = none ∧ t ≠ R) ∧ ys.Nodup)
      ⟨[.ref e0], none, none, none, rfl, sm0, upd_same, ?_, ?_, by simp⟩ (fun i σ H' _ ⟨_, _, _, _, _, sm, _⟩ => SqL.of (sm l _ hl)) ?_ ?_⟩
    · refine Paired.cons ⟨e0, rfl, ?_⟩ .nil
      rw [upd_ne hRe, upd_same]
      rfl
    · intro t ht
      have : t = e0 := V.ref.inj (List.mem_singleton.mp ht)
      subst this
      exact ⟨he0, hRe⟩
    · rintro i x σ H' hx ⟨ys, v3, v4, v5, rfl, sm, hR', rv, ap, nd⟩
      obtain ⟨⟨qx, qk⟩, tl, hq, rfl, htl⟩ := hL.get hx
      have htl' := sm tl _ htl
      have hi : i < ls.length := (List.getElem?_eq_some_iff.mp hq).1
      obtain ⟨ztk, cases3⟩ := wk_at hW hq
      have rv' := rv
      rw [rowsOf_succ] at rv'
      obtain ⟨ys0, t, rfl, ht⟩ := rv'.last
      have hyl : (ys0 ++ [V.ref t]).length < sizeLine := by
        rw [rv.len]
        unfold rowsOf
        rw [List.length_map, List.length_range]
        exact small1000 (by omega)
      have rl : ((rb (ls.take i)).1.map V.int).length = (rb (ls.take i)).1.length := List.length_map _
      obtain ⟨m, hm⟩ := wk_take hW i
      have r8 : (rb (ls.take i)).1.length ≤ 900 := by
        have z1 := wk_len hm
        have z2 := wk_len2 hm
        rw [List.length_take] at z2
        omega
      refine ⟨tl, _, rfl, SqT.of htl', rfl, _, _, rfl, _, _, rfl, rfl, ?_⟩
      refine ⟨_, rfl, 1, rfl, R, _, _, _, rfl, rfl, SqL.of hR', atI_last _ _, t, _, rfl, .inl (SqL.of ht), fun w hw => ?_⟩
      have hwR : w ≠ R := (ne_of_none hR' hw).symm
      refine ⟨_, rfl, rfl, _, rfl, ?_⟩
      rcases cases3 with ⟨e, b0, b1⟩ | ⟨e, b0, b1⟩ | ⟨e, b0, b1⟩
      · have e : qx = "born" := e
        subst e
        refine ite2 (fun _ => ?_) (fun hn => absurd (by simp) hn)
        refine ⟨_, rfl, _, rfl, _, _, rfl, rfl, (by show 2 ≤ sizeLine; decide), fun nl hnl => ?_⟩
        have hwn : w ≠ nl := ne_of_none (upd_same (H := H') (a := w)) hnl
        refine ⟨_, rfl, _, rfl, _, rfl, _, rfl, _, rfl, w, nl, _, _, qk, qk, rfl, rfl, rfl, rfl, (by rw [upd_ne hwn]; exact upd_same), upd_same, hwn, b0, Int.le_refl _, (by rw [rl]; exact b1), (by rw [rl]; exact Nat.le_of_lt (small1000 (by show _ + 2 ≤ 1000; omega))), ?_⟩
        refine ⟨_, rfl, _, _, rfl, rfl, ?_⟩
        have hR2 : (upd (upd (upd H' w (.lst ((rb (ls.take i)).1.map V.int))) nl (.lst [.int (rb (ls.take i)).2, .int ((rb (ls.take i)).2 + 1)])) w (.lst (((rb (ls.take i)).1.map V.int).take qk.toNat ++ [.int (rb (ls.take i)).2, .int ((rb (ls.take i)).2 + 1)] ++ ((rb (ls.take i)).1.map V.int).drop qk.toNat))) R = some (.lst (ys0 ++ [.ref t])) := by
          rw [upd_ne (Ne.symm hwR)]
          exact (Same.laid hnl) R _ ((Same.laid hw) R _ hR')
        refine ⟨_, rfl, .inl ⟨rfl, _, SqL.of hR2⟩, _, rfl, R, _, _, rfl, rfl, hR2, hyl, ?_⟩
        obtain ⟨z1, z2, z3, z4⟩ := rows_step (G := upd (upd (upd (upd H' w (.lst ((rb (ls.take i)).1.map V.int))) nl (.lst [.int (rb (ls.take i)).2, .int ((rb (ls.take i)).2 + 1)])) w (.lst (((rb (ls.take i)).1.map V.int).take qk.toNat ++ [.int (rb (ls.take i)).2, .int ((rb (ls.take i)).2 + 1)] ++ ((rb (ls.take i)).1.map V.int).drop qk.toNat))) R (.lst ((ys0 ++ [.ref t]) ++ [.ref w]))) hRH sm rv ap nd hw hwR (fun c o e n => by
            rw [upd_ne n, upd_ne (ne_of_none e hw)]
            exact (Same.laid hnl) c _ ((Same.laid hw) c _ e)) (by
            rw [upd_ne hwR, upd_same, ztk, rb_snoc, stp_born]
            simp [List.map_append, List.map_take, List.map_drop])
        refine ⟨ys0 ++ [.ref t] ++ [.ref w], some (.str "born"), some (.int qk), some (.ref w), ?_, z1, upd_same, z2, z3, z4⟩
        rw [ztk, rb_snoc, stp_born]
        rfl
      · have e : qx = "cross" := e
        subst e
        refine ite2 (fun hn => absurd (V.str.inj (of_decide_eq_true hn)) nb1) (fun _ => ?_)
        refine ⟨_, rfl, rfl, _, rfl, ?_⟩
        refine ite2 (fun _ => ?_) (fun hn => absurd (by simp) hn)
        obtain ⟨kk, rfl⟩ := Int.eq_ofNat_of_zero_le b0
        have k1 : kk + 1 < (rb (ls.take i)).1.length := by have b1 : (kk : Int) + 1 < _ := b1; omega
        have ec : ((kk : Int) + 1) = ((kk + 1 : Nat) : Int) := by omega
        have a1 : atI ((rb (ls.take i)).1.map V.int) ((kk : Int) + 1) = some (V.int ((rb (ls.take i)).1.getD (kk + 1) 0)) := by rw [ec]; exact atI_nat (map_getD _ k1)
        have a0 : atI ((rb (ls.take i)).1.map V.int) (kk : Int) = some (V.int ((rb (ls.take i)).1.getD kk 0)) := atI_nat (map_getD _ (by omega))
        refine ⟨_, rfl, _, rfl, _, _, rfl, rfl, w, _, _, _, rfl, rfl, SqL.of upd_same, a1, _, rfl, _, rfl, w, _, _, _, rfl, rfl, SqL.of upd_same, a0, (by show 2 ≤ sizeLine; decide), fun tt htt => ?_⟩
        have hwt : w ≠ tt := ne_of_none (upd_same (H := H') (a := w)) htt
        refine ⟨tt, _, rfl, SqT.of upd_same, rfl, _, _, rfl, _, rfl, _, rfl, w, _, _, kk, rfl, rfl, (by rw [upd_ne hwt]; exact upd_same), (by rw [rl]; exact ixN_nat (by omega)), ?_⟩
        refine ⟨_, _, rfl, _, rfl, _, rfl, _, _, rfl, rfl, w, _, _, kk + 1, rfl, rfl, upd_same, (by rw [List.length_set, rl, ec]; exact ixN_nat k1), rfl, ?_⟩
        rw [upd_upd, map_swp]
        have hR2 : (upd (upd (upd H' w (.lst ((rb (ls.take i)).1.map V.int))) tt (.tup [.int ((rb (ls.take i)).1.getD (kk + 1) 0), .int ((rb (ls.take i)).1.getD kk 0)])) w (.lst ((swp (rb (ls.take i)).1 kk).map V.int))) R = some (.lst (ys0 ++ [.ref t])) := by
          rw [upd_ne (Ne.symm hwR)]
          exact (Same.laid htt) R _ ((Same.laid hw) R _ hR')
        refine ⟨_, rfl, .inl ⟨rfl, _, SqL.of hR2⟩, _, rfl, R, _, _, rfl, rfl, hR2, hyl, ?_⟩
        obtain ⟨z1, z2, z3, z4⟩ := rows_step (G := upd (upd (upd (upd H' w (.lst ((rb (ls.take i)).1.map V.int))) tt (.tup [.int ((rb (ls.take i)).1.getD (kk + 1) 0), .int ((rb (ls.take i)).1.getD kk 0)])) w (.lst ((swp (rb (ls.take i)).1 kk).map V.int))) R (.lst ((ys0 ++ [.ref t]) ++ [.ref w]))) hRH sm rv ap nd hw hwR (fun c o e n => by
            rw [upd_ne n, upd_ne (ne_of_none e hw)]
            exact (Same.laid htt) c _ ((Same.laid hw) c _ e)) (by
            rw [upd_ne hwR, upd_same, ztk, rb_snoc, stp_cross]
            rfl)
        refine ⟨ys0 ++ [.ref t] ++ [.ref w], some (.str "cross"), some (.int kk), some (.ref w), ?_, z1, upd_same, z2, z3, z4⟩
        rw [ztk, rb_snoc, stp_cross]
        rfl
      · have e : qx = "end" := e
        subst e
        refine ite2 (fun hn => absurd (V.str.inj (of_decide_eq_true hn)) nb2) (fun _ => ?_)
        refine ⟨_, rfl, rfl, _, rfl, ?_⟩
        refine ite2 (fun hn => absurd (V.str.inj (of_decide_eq_true hn)) nb3) (fun _ => ?_)
        have b1' : qk + 1 < ((rb (ls.take i)).1.length : Int) := b1
        refine ⟨_, rfl, _, rfl, _, rfl, _, rfl, _, _, rfl, rfl, _, rfl, w, _, qk, qk + 2, rfl, rfl, rfl, upd_same, b0, by omega, (by rw [rl]; omega), ?_⟩
        rw [upd_upd]
        have hR2 : (upd H' w (.lst (((rb (ls.take i)).1.map V.int).take qk.toNat ++ ((rb (ls.take i)).1.map V.int).drop (qk + 2).toNat))) R = some (.lst (ys0 ++ [.ref t])) := (Same.laid hw) R _ hR'
        refine ⟨_, rfl, .inl ⟨rfl, _, SqL.of hR2⟩, _, rfl, R, _, _, rfl, rfl, hR2, hyl, ?_⟩
        have e2 : (qk + 2).toNat = qk.toNat + 2 := by have b0' : 0 ≤ qk := b0; omega
        obtain ⟨z1, z2, z3, z4⟩ := rows_step (G := upd (upd H' w (.lst (((rb (ls.take i)).1.map V.int).take qk.toNat ++ ((rb (ls.take i)).1.map V.int).drop (qk + 2).toNat))) R (.lst ((ys0 ++ [.ref t]) ++ [.ref w]))) hRH sm rv ap nd hw hwR (fun c o e n => by
            rw [upd_ne n]
            exact (Same.laid hw) c _ e) (by
            rw [upd_ne hwR, upd_same, ztk, rb_snoc, stp_end, e2, List.map_append, List.map_take, List.map_drop])
        refine ⟨ys0 ++ [.ref t] ++ [.ref w], some (.str "end"), some (.int qk), some (.ref w), ?_, z1, upd_same, z2, z3, z4⟩
        rw [ztk, rb_snoc, stp_end]
        rfl
    · rintro σ H' ⟨ys, v3, v4, v5, rfl, sm, hR', rv, ap, nd⟩
      rw [hxl] at rv
      exact ⟨_, rfl, k R H' ys hRH sm hR' rv ap nd⟩
end
end Qk05

namespace Qk05
open PySem L2 PyProof.Rows
section
variable {P : Program} {w : World} {K : PySem.W.Frag} {mg : Str → Option Value} {base : Heap}
abbrev s__law_rows : Stmt := top 18
theorem sc__law_rows : FnScope ["_law_drawing_here", "_law_rows_here", "_law_born", "_law_word", "_law_k", "_law_row"] ["_law_drawing_here"] (defScope s__law_rows) := ⟨rfl, rfl, rfl, by decide +kernel, rfl, by decide +kernel, by decide +kernel⟩
theorem ok_rows {f : Addr} {fd : FuncData} (F : Fun K "_law_rows" "_law_rows" s__law_rows f fd) (b_list : mg "list" = none) : FnOk P w K mg base CX0 1 f fd ["_law_drawing_here"] spRows := by
  refine F.ok sc__law_rows (fun vs H Q E h => ?_) (fun cdv A outer s H vs Q E hr h => ?_)
  · obtain ⟨l, xs, ls, rfl, _⟩ := h
    rfl
  · obtain ⟨l, xs, ls, rfl, hl, hL, hlen, hW, k⟩ := h
    refine ⟨_, (pss_cons (ps_set (i := 1) sc__law_rows.nd rfl (Or.inl rfl) (pe_lst (pa_cons (pe_lst pa_nil) pa_nil)))
      (pss_cons (ps_set (i := 2) sc__law_rows.nd rfl (Or.inl rfl) pe_int)
      (pss_cons (ps_for PassesOwn.never rfl (pi_listK (K := K) rfl (pv 0)) (pg_tupK (K := K) (n := 2) rfl rfl (pgs_cons (pg_name (i := 3) sc__law_rows.nd rfl (Or.inl rfl)) (pgs_cons (pg_name (i := 4) sc__law_rows.nd rfl (Or.inl rfl)) pgs_nil))) (pss_cons (ps_set (i := 5) sc__law_rows.nd rfl (Or.inl rfl) (pe_callTy (call_listK (K := K) rfl) (by rfl) b_list boot_list (pa_cons (pe_ix (ix_listK (K := K) rfl) (pv 1) (pe_un un_neg pe_int) (fun _ _ => rfl)) pa_nil)))
      (pss_cons (ps_if (pt_cmpR op_eq (pv 3) pe_str (nomark _)) (pss_cons (ps_expr (pe_bmK (K := K) rfl (pe_bm PySem.F.plainAttrs_list PySem.F.slot_list_insert PySem.F.type_list_insert mt_insert (pv 5) (pa_cons (pv 4) (pa_cons (pe_op op_add (pv 2) pe_int) pa_nil)))))
      (pss_cons (ps_expr (pe_bmK (K := K) rfl (pe_bm PySem.F.plainAttrs_list PySem.F.slot_list_insert PySem.F.type_list_insert mt_insert (pv 5) (pa_cons (pv 4) (pa_cons (pv 2) pa_nil)))))
      (pss_one (ps_set (i := 2) sc__law_rows.nd rfl (Or.inl rfl) (pe_op op_add (pv 2) pe_int))))) (pss_one (ps_if (pt_cmpR op_eq (pv 3) pe_str (nomark _)) (pss_one (ps_asg (pe_tup (pa_cons (pe_ix (ix_listK (K := K) rfl) (pv 5) (pe_op op_add (pv 4) pe_int) (fun _ _ => rfl)) (pa_cons (pe_ix (ix_listK (K := K) rfl) (pv 5) (pv 4) (fun _ _ => rfl)) pa_nil))) (pg_tupK (K := K) (n := 2) rfl rfl (pgs_cons (pg_sub (pv 5) (pv 4) set_list) (pgs_cons (pg_sub (pv 5) (pe_op op_add (pv 4) pe_int) set_list) pgs_nil))))) (pss_cons (ps_expr (pe_bmK (K := K) rfl (pe_bm PySem.F.plainAttrs_list PySem.F.slot_list_pop PySem.F.type_list_pop mt_popAt (pv 5) (pa_cons (pv 4) pa_nil))))
      (pss_one (ps_expr (pe_bmK (K := K) rfl (pe_bm PySem.F.plainAttrs_list PySem.F.slot_list_pop PySem.F.type_list_pop mt_popAt (pv 5) (pa_cons (pv 4) pa_nil)))))))))
      (pss_one (ps_expr (pe_bmK (K := K) rfl (pe_bm PySem.F.plainAttrs_list PySem.F.slot_list_append PySem.F.type_list_append mt_append (pv 1) (pa_cons (pv 5) pa_nil))))))))
      (pss_one (ps_ret (pv 1)))))), ?_⟩
    have hxl := hL.len
    refine ⟨(by show 0 ≤ sizeLine; decide), fun e0 he0 => ⟨(by show 1 ≤ sizeLine; decide), fun R hR => ?_⟩⟩
    have hRH : H R = none := (Same.laid he0).free hR
    have hRe : e0 ≠ R := ne_of_none (upd_same (H := H) (a := e0) (o := .lst [])) hR
    have sm0 : Same H (upd (upd H e0 (.lst [])) R (.lst [.ref e0])) := (Same.laid he0).step hR
    refine ⟨_, rfl, l, rfl, ⟨_, SqL.of (sm0 l _ hl)⟩, for_list (K := K) (a := l) (xs := xs) (fun i σ H' => ∃ (ys : List V) (v3 v4 v5 : Option V), σ = [some (.ref l), some (.ref R), some (.int (rb (ls.take i)).2), v3, v4, v5] ∧ Same H H' ∧ H' R = some (.lst ys) ∧ RowsV H' ys (rowsOf ls (i + 1)) ∧ (∀ t, V.ref t ∈ ys → H t = none ∧ t ≠ R) ∧ ys.Nodup)
      ⟨[.ref e0], none, none, none, rfl, sm0, upd_same, ?_, ?_, by simp⟩ (fun i σ H' _ ⟨_, _, _, _, _, sm, _⟩ => SqL.of (sm l _ hl)) ?_ ?_⟩
    · refine Paired.cons ⟨e0, rfl, ?_⟩ .nil
      rw [upd_ne hRe, upd_same]
      rfl
    · intro t ht
      have : t = e0 := V.ref.inj (List.mem_singleton.mp ht)
      subst this
      exact ⟨he0, hRe⟩
    · rintro i x σ H' hx ⟨ys, v3, v4, v5, rfl, sm, hR', rv, ap, nd⟩
      obtain ⟨⟨qx, qk⟩, tl, hq, rfl, htl⟩ := hL.get hx
      have htl' := sm tl _ htl
      have hi : i < ls.length := (List.getElem?_eq_some_iff.mp hq).1
      obtain ⟨ztk, cases3⟩ := wk_at hW hq
      have rv' := rv
      rw [rowsOf_succ] at rv'
      obtain ⟨ys0, t, rfl, ht⟩ := rv'.last
      have hyl : (ys0 ++ [V.ref t]).length < sizeLine := by
        rw [rv.len]
        unfold rowsOf
        rw [List.length_map, List.length_range]
        exact small1000 (by omega)
      have rl : ((rb (ls.take i)).1.map V.int).length = (rb (ls.take i)).1.length := List.length_map _
      obtain ⟨m, hm⟩ := wk_take hW i
      have r8 : (rb (ls.take i)).1.length ≤ 900 := by
        have z1 := wk_len hm
        have z2 := wk_len2 hm
        rw [List.length_take] at z2
        omega
      refine ⟨tl, _, rfl, SqT.of htl', rfl, _, _, rfl, _, _, rfl, rfl, ?_⟩
      refine ⟨_, rfl, 1, rfl, R, _, _, _, rfl, rfl, SqL.of hR', atI_last _ _, t, _, rfl, .inl (SqL.of ht), fun w hw => ?_⟩
      have hwR : w ≠ R := (ne_of_none hR' hw).symm
      refine ⟨_, rfl, rfl, _, rfl, ?_⟩
      rcases cases3 with ⟨e, b0, b1⟩ | ⟨e, b0, b1⟩ | ⟨e, b0, b1⟩
      · have e : qx = "born" := e
        subst e
        refine ite2 (fun _ => ?_) (fun hn => absurd (by simp) hn)
        have b0' : 0 ≤ qk := b0
        have b1' : qk ≤ ((rb (ls.take i)).1.length : Int) := b1
        refine ⟨_, rfl, .inl ⟨rfl, _, SqL.of upd_same⟩, _, rfl, _, rfl, _, _, rfl, rfl, w, _, qk, _, rfl, rfl, upd_same, b0', (by rw [rl]; exact b1'), (by rw [rl]; exact small1000 (by omega)), (by rw [rl]; omega), ?_⟩
        have rl2 : (((rb (ls.take i)).1.map V.int).take qk.toNat ++ V.int ((rb (ls.take i)).2 + 1) :: ((rb (ls.take i)).1.map V.int).drop qk.toNat).length = (rb (ls.take i)).1.length + 1 := by
          rw [List.length_append, List.length_cons, List.length_take, List.length_drop, rl]
          omega
        refine ⟨_, rfl, .inl ⟨rfl, _, SqL.of upd_same⟩, _, rfl, _, rfl, w, _, qk, _, rfl, rfl, upd_same, b0', (by rw [rl2]; omega), (by rw [rl2]; exact small1000 (by omega)), (by rw [rl2]; omega), ?_⟩
        refine ⟨_, rfl, _, _, rfl, rfl, ?_⟩
        rw [upd_upd, upd_upd, ins_two _ _ _ _ (by rw [rl]; omega)]
        have hR2 : (upd H' w (.lst (((rb (ls.take i)).1.map V.int).take qk.toNat ++ [.int (rb (ls.take i)).2, .int ((rb (ls.take i)).2 + 1)] ++ ((rb (ls.take i)).1.map V.int).drop qk.toNat))) R = some (.lst (ys0 ++ [.ref t])) := (Same.laid hw) R _ hR'
        refine ⟨_, rfl, .inl ⟨rfl, _, SqL.of hR2⟩, _, rfl, R, _, _, rfl, rfl, hR2, hyl, ?_⟩
        obtain ⟨z1, z2, z3, z4⟩ := rows_step (G := upd (upd H' w (.lst (((rb (ls.take i)).1.map V.int).take qk.toNat ++ [.int (rb (ls.take i)).2, .int ((rb (ls.take i)).2 + 1)] ++ ((rb (ls.take i)).1.map V.int).drop qk.toNat))) R (.lst ((ys0 ++ [.ref t]) ++ [.ref w]))) hRH sm rv ap nd hw hwR (fun c o e n => by
            rw [upd_ne n]
            exact (Same.laid hw) c _ e) (by
            rw [upd_ne hwR, upd_same, ztk, rb_snoc, stp_born]
            simp [List.map_append, List.map_take, List.map_drop])
        refine ⟨ys0 ++ [.ref t] ++ [.ref w], some (.str "born"), some (.int qk), some (.ref w), ?_, z1, upd_same, z2, z3, z4⟩
        rw [ztk, rb_snoc, stp_born]
        rfl
      · have e : qx = "cross" := e
        subst e
        refine ite2 (fun hn => absurd (V.str.inj (of_decide_eq_true hn)) nb1) (fun _ => ?_)
        refine ⟨_, rfl, rfl, _, rfl, ?_⟩
        refine ite2 (fun _ => ?_) (fun hn => absurd (by simp) hn)
        obtain ⟨kk, rfl⟩ := Int.eq_ofNat_of_zero_le b0
        have k1 : kk + 1 < (rb (ls.take i)).1.length := by have b1 : (kk : Int) + 1 < _ := b1; omega
        have ec : ((kk : Int) + 1) = ((kk + 1 : Nat) : Int) := by omega
        have a1 : atI ((rb (ls.take i)).1.map V.int) ((kk : Int) + 1) = some (V.int ((rb (ls.take i)).1.getD (kk + 1) 0)) := by rw [ec]; exact atI_nat (map_getD _ k1)
        have a0 : atI ((rb (ls.take i)).1.map V.int) (kk : Int) = some (V.int ((rb (ls.take i)).1.getD kk 0)) := atI_nat (map_getD _ (by omega))
        refine ⟨_, rfl, _, rfl, _, _, rfl, rfl, w, _, _, _, rfl, rfl, SqL.of upd_same, a1, _, rfl, _, rfl, w, _, _, _, rfl, rfl, SqL.of upd_same, a0, (by show 2 ≤ sizeLine; decide), fun tt htt => ?_⟩
        have hwt : w ≠ tt := ne_of_none (upd_same (H := H') (a := w)) htt
        refine ⟨tt, _, rfl, SqT.of upd_same, rfl, _, _, rfl, _, rfl, _, rfl, w, _, _, kk, rfl, rfl, (by rw [upd_ne hwt]; exact upd_same), (by rw [rl]; exact ixN_nat (by omega)), ?_⟩
        refine ⟨_, _, rfl, _, rfl, _, rfl, _, _, rfl, rfl, w, _, _, kk + 1, rfl, rfl, upd_same, (by rw [List.length_set, rl, ec]; exact ixN_nat k1), rfl, ?_⟩
        rw [upd_upd, map_swp]
        have hR2 : (upd (upd (upd H' w (.lst ((rb (ls.take i)).1.map V.int))) tt (.tup [.int ((rb (ls.take i)).1.getD (kk + 1) 0), .int ((rb (ls.take i)).1.getD kk 0)])) w (.lst ((swp (rb (ls.take i)).1 kk).map V.int))) R = some (.lst (ys0 ++ [.ref t])) := by
          rw [upd_ne (Ne.symm hwR)]
          exact (Same.laid htt) R _ ((Same.laid hw) R _ hR')
        refine ⟨_, rfl, .inl ⟨rfl, _, SqL.of hR2⟩, _, rfl, R, _, _, rfl, rfl, hR2, hyl, ?_⟩
        obtain ⟨z1, z2, z3, z4⟩ := rows_step (G := upd (upd (upd (upd H' w (.lst ((rb (ls.take i)).1.map V.int))) tt (.tup [.int ((rb (ls.take i)).1.getD (kk + 1) 0), .int ((rb (ls.take i)).1.getD kk 0)])) w (.lst ((swp (rb (ls.take i)).1 kk).map V.int))) R (.lst ((ys0 ++ [.ref t]) ++ [.ref w]))) hRH sm rv ap nd hw hwR (fun c o e n => by
            rw [upd_ne n, upd_ne (ne_of_none e hw)]
            exact (Same.laid htt) c _ ((Same.laid hw) c _ e)) (by
            rw [upd_ne hwR, upd_same, ztk, rb_snoc, stp_cross]
            rfl)
        refine ⟨ys0 ++ [.ref t] ++ [.ref w], some (.str "cross"), some (.int kk), some (.ref w), ?_, z1, upd_same, z2, z3, z4⟩
        rw [ztk, rb_snoc, stp_cross]
        rfl
      · have e : qx = "end" := e
        subst e
        refine ite2 (fun hn => absurd (V.str.inj (of_decide_eq_true hn)) nb2) (fun _ => ?_)
        refine ⟨_, rfl, rfl, _, rfl, ?_⟩
        refine ite2 (fun hn => absurd (V.str.inj (of_decide_eq_true hn)) nb3) (fun _ => ?_)
        have b1' : qk + 1 < ((rb (ls.take i)).1.length : Int) := b1
        obtain ⟨kk, rfl⟩ := Int.eq_ofNat_of_zero_le b0
        have k1 : kk + 1 < (rb (ls.take i)).1.length := by omega
        have l1 : (((rb (ls.take i)).1.map V.int).eraseIdx kk).length = (rb (ls.take i)).1.length - 1 := by rw [List.length_eraseIdx_of_lt (by rw [rl]; omega), rl]
        refine ⟨_, rfl, .inl ⟨rfl, _, SqL.of upd_same⟩, _, rfl, w, _, _, kk, _, rfl, rfl, upd_same, by omega, by omega, (by rw [rl]; exact seqIx_nat (by omega)), map_getD _ (by omega), ?_⟩
        obtain ⟨y2, hy2⟩ : ∃ y2, (((rb (ls.take i)).1.map V.int).eraseIdx kk)[kk]? = some y2 := ⟨_, List.getElem?_eq_getElem (by rw [l1]; omega)⟩
        refine ⟨_, rfl, .inl ⟨rfl, _, SqL.of upd_same⟩, _, rfl, w, _, _, kk, _, rfl, rfl, upd_same, by omega, by omega, (by rw [l1]; exact seqIx_nat (by omega)), hy2, ?_⟩
        rw [upd_upd, upd_upd, pop_two]
        have hR2 : (upd H' w (.lst (((rb (ls.take i)).1.map V.int).take kk ++ ((rb (ls.take i)).1.map V.int).drop (kk + 2)))) R = some (.lst (ys0 ++ [.ref t])) := (Same.laid hw) R _ hR'
        refine ⟨_, rfl, .inl ⟨rfl, _, SqL.of hR2⟩, _, rfl, R, _, _, rfl, rfl, hR2, hyl, ?_⟩
        obtain ⟨z1, z2, z3, z4⟩ := rows_step (G := upd (upd H' w (.lst (((rb (ls.take i)).1.map V.int).take kk ++ ((rb (ls.take i)).1.map V.int).drop (kk + 2)))) R (.lst ((ys0 ++ [.ref t]) ++ [.ref w]))) hRH sm rv ap nd hw hwR (fun c o e n => by
            rw [upd_ne n]
            exact (Same.laid hw) c _ e) (by
            rw [upd_ne hwR, upd_same, ztk, rb_snoc, stp_end, Int.toNat_natCast, List.map_append, List.map_take, List.map_drop])
        refine ⟨ys0 ++ [.ref t] ++ [.ref w], some (.str "end"), some (.int kk), some (.ref w), ?_, z1, upd_same, z2, z3, z4⟩
        rw [ztk, rb_snoc, stp_end]
        rfl
    · rintro σ H' ⟨ys, v3, v4, v5, rfl, sm, hR', rv, ap, nd⟩
      rw [hxl] at rv
      exact ⟨_, rfl, k R H' ys hRH sm hR' rv ap nd⟩
end
end Qk05

namespace Qk05
open PySem L2 PyProof.Rows
section
variable {P : Program} {w : World} {K : PySem.W.Frag} {mg : Str → Option Value} {base : Heap}
def spLoc (pr : Str → Bool) : Sp := fun vs H Q _ => ∃ (l : Addr) (xs : List V) (ls : List (Str × Int)), vs = [.ref l] ∧ H l = some (.lst xs) ∧ LetsV H xs ls ∧ ls.length ≤ 60 ∧ (∀ p ∈ ls, Kd p.1) ∧ ∀ (p : Addr) (H' : Hp), H p = none → Same H H' → H' p = some (.lst ((locI ls pr ls.length).map V.int)) → Q (.ref p) H'
def spLetters : Sp := fun vs H Q _ => ∃ (l : Addr) (kd : Str) (xs : List V) (ls : List (Str × Int)), vs = [.ref l, .str kd] ∧ H l = some (.lst xs) ∧ LetsV H xs ls ∧ ls.length ≤ 60 ∧ ∀ (p : Addr) (H' : Hp), H p = none → Same H H' → H' p = some (.lst ((locI ls (fun x => decide (x = kd)) ls.length).map V.int)) → Q (.ref p) H'
abbrev s_letters_of : Stmt := top 1
theorem sc_letters_of : FnScope ["drawing", "kind"] ["drawing", "kind"] (defScope s_letters_of) := ⟨rfl, rfl, rfl, by decide +kernel, rfl, by decide +kernel, by decide +kernel⟩
theorem ok_letters {f : Addr} {fd : FuncData} (F : Fun K "letters_of" "letters_of" s_letters_of f fd) (b_enumerate : mg "enumerate" = none) : FnOk P w K mg base CX0 1 f fd ["drawing", "kind"] spLetters := by
  refine F.ok sc_letters_of (fun vs H Q E h => ?_) (fun cdv A outer s H vs Q E hr h => ?_)
  · obtain ⟨l, kd, xs, ls, rfl, _⟩ := h
    rfl
  · obtain ⟨l, kd, xs, ls, rfl, hl, hL, hlen, k⟩ := h
    refine ⟨_, (pss_one (ps_ret (pe_lc (Ls := ["t", "letter"]) (Fs := ["kind"]) (fi := [1]) (LcScope.of (show lcLook ["drawing", "kind"] (defScope s_letters_of) _ ["kind"] [1] = true by decide +kernel)) rfl (pi_enumK (K := K) rfl (by rfl) b_enumerate (pa_cons (pv 0) pa_nil)) (fun cl C s3 H3 ex => ⟨(pg_tupK (K := K) (n := 2) rfl rfl (pgs_cons (pg_name (i := 0) (show ((["t", "letter"] : List Str) ++ (["kind"] : List Str)).Nodup by decide +kernel) rfl (Or.inl rfl)) (pgs_cons (pg_name (i := 1) (show ((["t", "letter"] : List Str) ++ (["kind"] : List Str)).Nodup by decide +kernel) rfl (Or.inl rfl)) pgs_nil))), (pts_one (pt_cmpR op_eq (pe_ix (ix_tupK (K := K) rfl) (pv 1) pe_int (fun _ _ => rfl)) (pv 2) (nomark _))), (pv 0)⟩)))), ?_⟩
    have hxl := hL.len
    refine ⟨_, rfl, l, rfl, ⟨_, SqL.of hl⟩, lc_enm (xs := xs) (Nat.le_of_lt (small1000 (by omega))) (fun i ys H' => Same H H' ∧ ys = (locI ls (fun x => decide (x = kd)) i).map V.int) ⟨Same.refl _, rfl⟩
      (fun i ys H' p => by rw [p.2, List.length_map]; exact locI_len _ _ _) (fun i ys H' p => SqL.of (p.1 l _ hl)) (fun i x p ys H' hx pv hp => ?_) (fun ys H' pv D hD => ?_)⟩
    · obtain ⟨sm, rfl⟩ := pv
      obtain ⟨q, t, hq, rfl, ht⟩ := hL.get hx
      have ht' : (upd H' p (.tup [.int i, .ref t])) t = some (.tup [.str q.1, .int q.2]) := by rw [upd_ne (ne_of_none (sm t _ ht) hp)]; exact sm t _ ht
      refine ⟨p, _, rfl, SqT.of upd_same, rfl, _, _, rfl, _, _, rfl, rfl, ?_⟩
      refine ⟨_, rfl, t, _, _, _, rfl, rfl, SqT.of ht', atI_nat (j := 0) rfl, _, rfl, rfl, _, rfl, ?_⟩
      refine ite2 (fun hc => ?_) (fun hc => ?_)
      · have e : q.1 = kd := V.str.inj (of_decide_eq_true hc)
        exact ⟨_, rfl, sm.step hp, locI_yes hq (by simpa using e)⟩
      · have e : ¬ q.1 = kd := fun z => hc (decide_eq_true (congrArg V.str z))
        exact ⟨sm.step hp, locI_no hq (by simpa using e)⟩
    · obtain ⟨sm, rfl⟩ := pv
      rw [hxl]
      exact k D _ (sm.free hD) (sm.step hD) upd_same
abbrev s_ends_of : Stmt := top 2
theorem sc_ends_of : FnScope ["drawing"] ["drawing"] (defScope s_ends_of) := ⟨rfl, rfl, rfl, by decide +kernel, rfl, by decide +kernel, by decide +kernel⟩
theorem ok_ends {f : Addr} {fd : FuncData} (F : Fun K "ends_of" "ends_of" s_ends_of f fd) (h_letters_of : Has P w K mg base 1 "letters_of" ["drawing", "kind"] spLetters) : FnOk P w K mg base CX0 2 f fd ["drawing"] (spLoc fun x => decide (x = "end")) := by
  refine F.ok sc_ends_of (fun vs H Q E h => ?_) (fun cdv A outer s H vs Q E hr h => ?_)
  · obtain ⟨l, xs, ls, rfl, _⟩ := h
    rfl
  · obtain ⟨l, xs, ls, rfl, hl, hL, hlen, _, k⟩ := h
    refine ⟨_, (pss_one (ps_ret (pe_has h_letters_of (hr.mono (by decide)) (pa_cons (pv 0) (pa_cons pe_str pa_nil))))), ?_⟩
    exact ⟨_, rfl, l, _, xs, ls, rfl, hl, hL, hlen, k⟩
end
end Qk05

namespace Qk05
open PySem L2 PyProof.Rows
section
variable {P : Program} {w : World} {K : PySem.W.Frag} {mg : Str → Option Value} {base : Heap}
theorem lets_at {H : Hp} : ∀ {xs : List V} {ls : List (Str × Int)} {i : Nat} {q : Str × Int}, LetsV H xs ls → ls[i]? = some q → ∃ t, xs[i]? = some (.ref t) ∧ H t = some (.tup [.str q.1, .int q.2])
  | _, _, _, _, .nil, e => by simp at e
  | _, _, 0, _, .cons ⟨t, e1, q⟩ _, e => by simp at e; subst e; exact ⟨t, by simp [e1], q⟩
  | _, _, i + 1, q, .cons _ r, e => by
    obtain ⟨t, h1, h2⟩ := lets_at (i := i) (q := q) r (by simpa using e)
    exact ⟨t, by simpa using h1, h2⟩
/-- given a drawing's list and a list of numbers of its crossings and ends: the two threads at each, new tuples in a new list -/
def spPairs : Sp := fun vs H Q _ => ∃ (l n : Addr) (xs : List V) (ls : List (Str × Int)) (ns : List Int), vs = [.ref l, .ref n] ∧ H l = some (.lst xs) ∧ LetsV H xs ls ∧ ls.length ≤ 60 ∧ Wk ls 0 ∧ H n = some (.lst (ns.map V.int)) ∧ ns.length ≤ 60 ∧ (∀ t ∈ ns, 0 ≤ t ∧ ∃ q, ls[t.toNat]? = some q ∧ q.1 ≠ "born") ∧
  ∀ (p : Addr) (H' : Hp) (ys : List V), H p = none → Same H H' → H' p = some (.lst ys) → PairsV H' ys (ns.map fun t => prAt ls t.toNat) → Q (.ref p) H'
abbrev s_pairs_ahead : Stmt := top 5
theorem sc_pairs_ahead : FnScope ["drawing", "numbers", "rows", "found", "t", "k"] ["drawing", "numbers"] (defScope s_pairs_ahead) := ⟨rfl, rfl, rfl, by decide +kernel, rfl, by decide +kernel, by decide +kernel⟩
theorem ok_pairs {f : Addr} {fd : FuncData} (F : Fun K "pairs_ahead" "pairs_ahead" s_pairs_ahead f fd) (h_threads : Has P w K mg base 1 "threads" ["drawing"] spRows) : FnOk P w K mg base CX0 2 f fd ["drawing", "numbers"] spPairs := by
  refine F.ok sc_pairs_ahead (fun vs H Q E h => ?_) (fun cdv A outer s H vs Q E hr h => ?_)
  · obtain ⟨l, n, xs, ls, ns, rfl, _⟩ := h
    rfl
  · obtain ⟨l, n, xs, ls, ns, rfl, hl, hL, hlen, hW, hn, hnl, hns, k⟩ := h
    refine ⟨_, (pss_cons (ps_set (i := 2) sc_pairs_ahead.nd rfl (Or.inl rfl) (pe_has h_threads (hr.mono (by decide)) (pa_cons (pv 0) pa_nil)))
      (pss_cons (ps_set (i := 3) sc_pairs_ahead.nd rfl (Or.inl rfl) (pe_lst pa_nil))
      (pss_cons (ps_for PassesOwn.never rfl (pi_listK (K := K) rfl (pv 1)) (pg_name (i := 4) sc_pairs_ahead.nd rfl (Or.inl rfl)) (pss_cons (ps_set (i := 5) sc_pairs_ahead.nd rfl (Or.inl rfl) (pe_ix (ix_tupK (K := K) rfl) (pe_ix (ix_listK (K := K) rfl) (pv 0) (pv 4) (fun _ _ => rfl)) pe_int (fun _ _ => rfl)))
      (pss_one (ps_expr (pe_bmK (K := K) rfl (pe_bm PySem.F.plainAttrs_list PySem.F.slot_list_append PySem.F.type_list_append mt_append (pv 3) (pa_cons (pe_tup (pa_cons (pe_ix (ix_listK (K := K) rfl) (pe_ix (ix_listK (K := K) rfl) (pv 2) (pv 4) (fun _ _ => rfl)) (pv 5) (fun _ _ => rfl)) (pa_cons (pe_ix (ix_listK (K := K) rfl) (pe_ix (ix_listK (K := K) rfl) (pv 2) (pv 4) (fun _ _ => rfl)) (pe_op op_add (pv 5) pe_int) (fun _ _ => rfl)) pa_nil))) pa_nil)))))))
      (pss_one (ps_ret (pv 3)))))), ?_⟩
    refine ⟨_, rfl, l, xs, ls, rfl, hl, hL, hlen, hW, fun R H1 ys fR s1 eR rv ap nd => ?_⟩
    refine ⟨(by show 0 ≤ sizeLine; decide), fun fA hfA => ?_⟩
    have hl1 := s1 l _ hl
    have hL1 := hL.same s1
    have hn1 := s1 n _ hn
    refine ⟨_, rfl, n, rfl, ⟨_, SqL.of ((Same.laid hfA) n _ hn1)⟩, for_list (K := K) (a := n) (xs := ns.map V.int) (fun i σ H' => ∃ (zs : List V) (v4 v5 : Option V), σ = [some (.ref l), some (.ref n), some (.ref R), some (.ref fA), v4, v5] ∧ Same H1 H' ∧ H' fA = some (.lst zs) ∧ PairsV H' zs ((ns.take i).map fun t => prAt ls t.toNat))
      ⟨[], none, none, rfl, Same.laid hfA, upd_same, .nil⟩ (fun i σ H' _ ⟨_, _, _, _, sm, _⟩ => SqL.of (sm n _ hn1)) ?_ ?_⟩
    · rintro i x σ H' hx ⟨zs, v4, v5, rfl, sm, hf, pv⟩
      obtain ⟨t, ht, rfl⟩ := map_int_at hx
      obtain ⟨t0, ⟨qx, qk⟩, hq, hb⟩ := hns t (List.mem_of_getElem? ht)
      obtain ⟨tn, rfl⟩ := Int.eq_ofNat_of_zero_le t0
      rw [Int.toNat_natCast] at hq
      have htl : tn < ls.length := (List.getElem?_eq_some_iff.mp hq).1
      obtain ⟨k0, k1, pe⟩ := nb_at hW hq hb
      obtain ⟨kn, rfl⟩ := Int.eq_ofNat_of_zero_le (show 0 ≤ qk from k0)
      simp only [Int.toNat_natCast] at k1 pe
      obtain ⟨ta, hxt, hta⟩ := lets_at hL1 hq
      obtain ⟨ra, hra, hrr⟩ := rv.at (rowsOf_at ls (i := tn) (n := ls.length + 1) (by omega))
      have e1 : ((kn : Int) + 1) = ((kn + 1 : Nat) : Int) := by omega
      refine ⟨_, rfl, _, rfl, l, _, _, _, rfl, rfl, SqL.of (sm l _ hl1), atI_nat hxt, ta, _, _, _, rfl, rfl, SqT.of (sm ta _ hta), atI_nat (j := 1) rfl, ?_⟩
      refine ⟨_, rfl, .inl ⟨rfl, _, SqL.of hf⟩, _, rfl, _, rfl, R, _, _, _, rfl, rfl, SqL.of (sm R _ eR), atI_nat hra, _, rfl, ra, _, _, _, rfl, rfl, SqL.of (sm ra _ hrr), atI_nat (map_getD _ (by omega)), ?_⟩
      refine ⟨_, rfl, _, rfl, R, _, _, _, rfl, rfl, SqL.of (sm R _ eR), atI_nat hra, _, rfl, _, _, rfl, rfl, ra, _, _, _, rfl, rfl, SqL.of (sm ra _ hrr), (by rw [e1]; exact atI_nat (map_getD _ k1)), (by show 2 ≤ sizeLine; decide), fun tt htt => ?_⟩
      have hft : fA ≠ tt := ne_of_none hf htt
      have zl : zs.length < sizeLine := by
        rw [pv.len, List.length_map, List.length_take]
        exact small1000 (by omega)
      refine ⟨fA, _, _, rfl, rfl, (by rw [upd_ne hft]; exact hf), zl, ?_⟩
      refine ⟨zs ++ [.ref tt], some (.int tn), some (.int kn), rfl, (sm.step htt).put hfA, upd_same, ?_⟩
      rw [take_map_snoc _ ht]
      refine PairsV.snoc (pv.mono fun a p e => ?_) ?_
      · rw [upd_ne (ne_of e hf (by intro z; cases z)), upd_ne (ne_of_none e htt)]
        exact e
      · rw [upd_ne (Ne.symm hft), upd_same, Int.toNat_natCast, pe]
    · rintro σ H' ⟨zs, v4, v5, rfl, sm, hf, pv⟩
      refine ⟨_, rfl, k fA H' zs (s1.free hfA) (s1.trans sm) hf ?_⟩
      rw [List.length_map, List.take_of_length_le (Nat.le_refl _)] at pv
      exact pv
/-- the pairs at the ends -/
def spEnds : Sp := fun vs H Q _ => ∃ (l : Addr) (xs : List V) (ls : List (Str × Int)), vs = [.ref l] ∧ H l = some (.lst xs) ∧ LetsV H xs ls ∧ ls.length ≤ 60 ∧ Wk ls 0 ∧
  ∀ (p : Addr) (H' : Hp) (ys : List V), H p = none → Same H H' → H' p = some (.lst ys) → PairsV H' ys (eps ls) → Q (.ref p) H'
abbrev s_end_pairs : Stmt := top 6
theorem sc_end_pairs : FnScope ["drawing"] ["drawing"] (defScope s_end_pairs) := ⟨rfl, rfl, rfl, by decide +kernel, rfl, by decide +kernel, by decide +kernel⟩
theorem ok_end_pairs {f : Addr} {fd : FuncData} (F : Fun K "end_pairs" "end_pairs" s_end_pairs f fd) (h_pairs_ahead : Has P w K mg base 2 "pairs_ahead" ["drawing", "numbers"] spPairs) (h_ends_of : Has P w K mg base 2 "ends_of" ["drawing"] (spLoc fun x => decide (x = "end"))) : FnOk P w K mg base CX0 3 f fd ["drawing"] spEnds := by
  refine F.ok sc_end_pairs (fun vs H Q E h => ?_) (fun cdv A outer s H vs Q E hr h => ?_)
  · obtain ⟨l, xs, ls, rfl, _⟩ := h
    rfl
  · obtain ⟨l, xs, ls, rfl, hl, hL, hlen, hW, k⟩ := h
    refine ⟨_, (pss_one (ps_ret (pe_has h_pairs_ahead (hr.mono (by decide)) (pa_cons (pv 0) (pa_cons (pe_has h_ends_of (hr.mono (by decide)) (pa_cons (pv 0) pa_nil)) pa_nil))))), ?_⟩
    refine ⟨_, rfl, _, rfl, l, xs, ls, rfl, hl, hL, hlen, hW.kd, fun n H1 hn s1 e1 => ?_⟩
    refine ⟨l, n, xs, ls, locI ls isE ls.length, rfl, s1 l _ hl, hL.same s1, hlen, hW, e1, Nat.le_trans (locI_len _ _ _) hlen, fun t ht => ?_, fun p H2 ys hp s2 e2 pv => k p H2 ys (s1.free hp) (s1.trans s2) e2 pv⟩
    obtain ⟨a, _, q, hq, z⟩ := locI_mem ht
    refine ⟨a, q, hq, fun z2 => ?_⟩
    have z : q.1 = "end" := of_decide_eq_true z
    rw [z2] at z
    exact nb2 z.symm
end
end Qk05

namespace Qk05
open PySem L2 PyProof.Rows
section
variable {P : Program} {w : World} {K : PySem.W.Frag} {mg : Str → Option Value} {base : Heap}
def spBw : Sp := fun vs H Q _ => ∃ x : Int, vs = [.int x] ∧ 0 ≤ x ∧ Q (.int (bw x)) H
abbrev s_born_with : Stmt := top 7
theorem sc_born_with : FnScope ["thread"] ["thread"] (defScope s_born_with) := ⟨rfl, rfl, rfl, by decide +kernel, rfl, by decide +kernel, by decide +kernel⟩
theorem ok_bw {f : Addr} {fd : FuncData} (F : Fun K "born_with" "born_with" s_born_with f fd) : FnOk P w K mg base CX0 1 f fd ["thread"] spBw := by
  refine F.ok sc_born_with (fun vs H Q E h => ?_) (fun cdv A outer s H vs Q E hr h => ?_)
  · obtain ⟨x, rfl, _⟩ := h
    rfl
  · obtain ⟨x, rfl, h0, k⟩ := h
    refine ⟨_, (pss_one (ps_ret (pe_op op_xor (pv 0) pe_int))), ?_⟩
    refine ⟨_, rfl, _, _, rfl, rfl, ?_⟩
    show Q (.int (Builtin.bitXor x 1)) H
    rw [xor_bw h0]
    exact k
def tab {α : Type} (N : Nat) (g : Int → α) : List α := (List.range N).map fun (x : Nat) => g (x : Int)
theorem tab_len {α : Type} (N : Nat) (g : Int → α) : (tab N g).length = N := by simp [tab]
theorem tab_at {α : Type} {N : Nat} (g : Int → α) {j : Nat} (h : j < N) : (tab N g)[j]? = some (g (j : Int)) := by
  unfold tab
  rw [List.getElem?_map]
  simp [h]
theorem tab_congr {α : Type} {N : Nat} {g g' : Int → α} (h : ∀ x : Int, 0 ≤ x → x < (N : Int) → g x = g' x) : tab N g = tab N g' := by
  unfold tab
  refine List.map_congr_left fun x hx => ?_
  have := List.mem_range.mp hx
  exact h x (by omega) (by omega)
theorem tab_set {α : Type} {N : Nat} (g : Int → α) (j : Nat) (v : α) : (tab N g).set j v = tab N (fun x => if x = (j : Int) then v else g x) := by
  apply List.ext_getElem?
  intro i
  rw [List.getElem?_set, tab_len]
  by_cases hi : i < N
  · rw [tab_at _ hi, tab_at _ hi]
    by_cases e : j = i
    · subst e; simp [hi]
    · rw [if_neg e, if_neg (by omega)]
  · rw [show (tab N g)[i]? = none from List.getElem?_eq_none_iff.mpr (by rw [tab_len]; omega), show (tab N (fun x => if x = (j : Int) then v else g x))[i]? = none from List.getElem?_eq_none_iff.mpr (by rw [tab_len]; omega)]
    by_cases e : j = i
    · subst e; rw [if_pos rfl, if_neg hi]
    · rw [if_neg e]
theorem tab_map {α β : Type} (N : Nat) (g : Int → α) (f : α → β) : (tab N g).map f = tab N (fun x => f (g x)) := by
  unfold tab
  rw [List.map_map]
  rfl
theorem tab_rep {α : Type} (N : Nat) (v : α) : (List.replicate N [v]).flatten = tab N (fun _ => v) := by
  unfold tab
  induction N with
  | zero => rfl
  | succ n ih => rw [List.replicate_succ', List.flatten_append, ih, List.range_succ, List.map_append]; simp
theorem mOf_snoc : ∀ {ps : List (Int × Int)} {u l x : Int}, u ∉ flatP ps → l ∉ flatP ps → u ≠ l → mOf (ps ++ [(u, l)]) x = if x = l then u else if x = u then l else mOf ps x
  | [], u, l, x, _, _, ne => by
    simp only [List.nil_append, mOf]
    by_cases h1 : x = u
    · subst h1; simp [ne]
    · simp [h1]
  | p :: r, u, l, x, hu, hl, ne => by
    have e : flatP (p :: r) = p.1 :: p.2 :: flatP r := by simp [flatP]
    rw [e] at hu hl
    simp only [List.mem_cons, not_or] at hu hl
    have ih := mOf_snoc (x := x) hu.2.2 hl.2.2 ne
    simp only [List.cons_append, mOf, ih]
    by_cases h1 : x = p.1
    · subst h1; simp [Ne.symm hu.1, Ne.symm hl.1]
    · by_cases h2 : x = p.2
      · subst h2; simp [h1, Ne.symm hu.2.1, Ne.symm hl.2.1]
      · simp [h1, h2]
theorem flatP_take {ps : List (Int × Int)} {i : Nat} {p : Int × Int} (h : ps[i]? = some p) : flatP (ps.take (i + 1)) = flatP (ps.take i) ++ [p.1, p.2] := by
  rw [List.take_add_one, h, flatP_append]
  simp [flatP]
theorem pair_new {ps : List (Int × Int)} (nd : (flatP ps).Nodup) {i : Nat} {p : Int × Int} (h : ps[i]? = some p) : p.1 ∉ flatP (ps.take i) ∧ p.2 ∉ flatP (ps.take i) ∧ p.1 ≠ p.2 := by
  have e : ps = ps.take (i + 1) ++ ps.drop (i + 1) := (List.take_append_drop _ _).symm
  rw [e, flatP_append, flatP_take h] at nd
  have nd := (List.nodup_append.mp nd).1
  obtain ⟨_, n2, n3⟩ := List.nodup_append.mp nd
  refine ⟨fun z => n3 _ z _ (by simp) rfl, fun z => n3 _ z _ (by simp) rfl, ?_⟩
  have := List.nodup_cons.mp n2
  simpa using this.1
theorem eps_dom {ls : List (Str × Int)} (hW : Wk ls 0) {p : Int × Int} (h : p ∈ eps ls) : (0 ≤ p.1 ∧ p.1 < (nTh ls : Int)) ∧ (0 ≤ p.2 ∧ p.2 < (nTh ls : Int)) :=
  ⟨mem_ints.mp ((eps_perm hW).mem_iff.mp (List.mem_flatMap.mpr ⟨p, h, by simp⟩)), mem_ints.mp ((eps_perm hW).mem_iff.mp (List.mem_flatMap.mpr ⟨p, h, by simp⟩))⟩
theorem eps_nodup {ls : List (Str × Int)} (hW : Wk ls 0) : (flatP (eps ls)).Nodup := (eps_perm hW).nodup_iff.mpr (ints_nodup _)
def spMates : Sp := fun vs H Q _ => ∃ (l : Addr) (xs : List V) (ls : List (Str × Int)), vs = [.ref l] ∧ H l = some (.lst xs) ∧ LetsV H xs ls ∧ ls.length ≤ 60 ∧ Wk ls 0 ∧
  ∀ (p : Addr) (H' : Hp), H p = none → Same H H' → H' p = some (.lst ((tab (nTh ls) (mOf (eps ls))).map V.int)) → Q (.ref p) H'
abbrev s_end_mates : Stmt := top 8
theorem sc_end_mates : FnScope ["drawing", "pairs", "mates", "upper", "lower"] ["drawing"] (defScope s_end_mates) := ⟨rfl, rfl, rfl, by decide +kernel, rfl, by decide +kernel, by decide +kernel⟩
theorem ok_mates {f : Addr} {fd : FuncData} (F : Fun K "end_mates" "end_mates" s_end_mates f fd) (h_end_pairs : Has P w K mg base 3 "end_pairs" ["drawing"] spEnds) (b_len : mg "len" = none) : FnOk P w K mg base CX0 4 f fd ["drawing"] spMates := by
  refine F.ok sc_end_mates (fun vs H Q E h => ?_) (fun cdv A outer s H vs Q E hr h => ?_)
  · obtain ⟨l, xs, ls, rfl, _⟩ := h
    rfl
  · obtain ⟨l, xs, ls, rfl, hl, hL, hlen, hW, k⟩ := h
    refine ⟨_, (pss_cons (ps_set (i := 1) sc_end_mates.nd rfl (Or.inl rfl) (pe_has h_end_pairs (hr.mono (by decide)) (pa_cons (pv 0) pa_nil)))
      (pss_cons (ps_set (i := 2) sc_end_mates.nd rfl (Or.inl rfl) (pe_op op_rep (pe_lst (pa_cons pe_int pa_nil)) (pe_op op_mul pe_int (pe_callB (call_lenK (K := K) rfl) (by rfl) b_len PySem.boot_len (pa_cons (pv 1) pa_nil)))))
      (pss_cons (ps_for PassesOwn.never rfl (pi_listK (K := K) rfl (pv 1)) (pg_tupK (K := K) (n := 2) rfl rfl (pgs_cons (pg_name (i := 3) sc_end_mates.nd rfl (Or.inl rfl)) (pgs_cons (pg_name (i := 4) sc_end_mates.nd rfl (Or.inl rfl)) pgs_nil))) (pss_cons (ps_asg (pv 4) (pg_sub (pv 2) (pv 3) set_list))
      (pss_one (ps_asg (pv 3) (pg_sub (pv 2) (pv 4) set_list)))))
      (pss_one (ps_ret (pv 2)))))), ?_⟩
    refine ⟨_, rfl, l, xs, ls, rfl, hl, hL, hlen, hW, fun pA H1 ys fp s1 ep pv => ?_⟩
    have n120 := nTh_short hlen
    have yl : 2 * ys.length = nTh ls := by rw [pv.len]; rfl
    refine ⟨(by show 1 ≤ sizeLine; decide), fun l0 hl0 => ?_⟩
    have ep0 := (Same.laid (o := .lst [.int 0]) hl0) pA _ ep
    refine ⟨_, rfl, pA, _, rfl, .inl (SqL.of ep0), _, _, rfl, rfl, .inl ⟨by decide, by decide⟩, ?_⟩
    have e2 : ((2 : Int) * (ys.length : Int)) = ((nTh ls : Nat) : Int) := by omega
    refine ⟨l0, _, _, rfl, rfl, upd_same, by omega, by omega, ?_, fun mA hmA => ?_⟩
    · rw [e2]
      show 1 * _ ≤ sizeLine
      exact Nat.le_of_lt (small1000 (by omega))
    have hm1 : H1 mA = none := (Same.laid hl0).free hmA
    have sm1 : Same H1 (upd (upd H1 l0 (.lst [.int 0])) mA (.lst (List.replicate ((2 : Int) * (ys.length : Int)).toNat [V.int 0]).flatten)) := (Same.laid hl0).step hmA
    refine ⟨_, rfl, pA, rfl, ⟨_, SqL.of (sm1 pA _ ep)⟩, for_list (K := K) (a := pA) (xs := ys) (fun i σ H' => ∃ (v3 v4 : Option V), σ = [some (.ref l), some (.ref pA), some (.ref mA), v3, v4] ∧ Same H1 H' ∧ H' mA = some (.lst ((tab (nTh ls) (mOf ((eps ls).take i))).map V.int)))
      ⟨none, none, rfl, sm1, ?_⟩ (fun i σ H' _ ⟨_, _, _, sm, _⟩ => SqL.of (sm pA _ ep)) ?_ ?_⟩
    · rw [upd_same, e2, Int.toNat_natCast, tab_rep, tab_map]
      rfl
    · rintro i x σ H' hx ⟨v3, v4, rfl, sm, hm⟩
      obtain ⟨p, t, hp, rfl, ht⟩ := pv.get hx
      obtain ⟨u, lw⟩ := p
      obtain ⟨⟨d1, d2⟩, d3, d4⟩ := eps_dom hW (List.mem_of_getElem? hp)
      obtain ⟨n1, n2, n3⟩ := pair_new (eps_nodup hW) hp
      obtain ⟨un, rfl⟩ := Int.eq_ofNat_of_zero_le (show 0 ≤ u from d1)
      obtain ⟨wn, rfl⟩ := Int.eq_ofNat_of_zero_le (show 0 ≤ lw from d3)
      have d2 : (un : Int) < _ := d2
      have d4 : (wn : Int) < _ := d4
      refine ⟨t, _, rfl, SqT.of (sm t _ ht), rfl, _, _, rfl, _, _, rfl, rfl, ?_⟩
      refine ⟨_, rfl, _, rfl, _, rfl, mA, _, _, un, rfl, rfl, hm, (by rw [List.length_map, tab_len]; exact ixN_nat (by omega)), ?_⟩
      refine ⟨_, rfl, _, rfl, _, rfl, mA, _, _, wn, rfl, rfl, upd_same, (by rw [List.length_set, List.length_map, tab_len]; exact ixN_nat (by omega)), ?_⟩
      refine ⟨some (.int un), some (.int wn), rfl, (sm.put hm1).put hm1, ?_⟩
      rw [upd_same, ← List.map_set, ← List.map_set, tab_set, tab_set, List.take_add_one, hp]
      congr 2
      refine congrArg (List.map V.int) (tab_congr fun x _ _ => ?_)
      rw [show (some ((un : Int), (wn : Int))).toList = [((un : Int), (wn : Int))] from rfl, mOf_snoc n1 n2 n3]
    · rintro σ H' ⟨v3, v4, rfl, sm, hm⟩
      refine ⟨_, rfl, k mA H' (s1.free hm1) (s1.trans sm) ?_⟩
      rw [pv.len, List.take_of_length_le (Nat.le_refl _)] at hm
      exact hm
end
end Qk05

namespace Qk05
open PySem L2 PyProof.Rows
section
variable {P : Program} {w : World} {K : PySem.W.Frag} {mg : Str → Option Value} {base : Heap}
theorem tab_ati {N : Nat} (m : Int → Int) {x : Int} (h0 : 0 ≤ x) (h1 : x < (N : Int)) : atI ((tab N m).map V.int) x = some (V.int (m x)) := by
  obtain ⟨n, rfl⟩ := Int.eq_ofNat_of_zero_le h0
  refine atI_nat ?_
  rw [List.getElem?_map, tab_at _ (by omega)]
  rfl
def spTour : Sp := fun vs H Q _ => ∃ (f : Int) (mA : Addr) (m : Int → Int) (N : Nat), vs = [.int f, .ref mA] ∧ H mA = some (.lst ((tab N m).map V.int)) ∧ Mates m N ∧ N ≤ 200 ∧ 0 ≤ f ∧ f < (N : Int) ∧
  ∀ (p : Addr) (H' : Hp) (T : List Int), H p = none → Same H H' → H' p = some (.lst (T.map V.int)) → IsTour m f T → Q (.ref p) H'
abbrev s_tour_from : Stmt := top 9
theorem sc_tour_from : FnScope ["first", "mates", "tour", "onward"] ["first", "mates"] (defScope s_tour_from) := ⟨rfl, rfl, rfl, by decide +kernel, rfl, by decide +kernel, by decide +kernel⟩
theorem ok_tour {f : Addr} {fd : FuncData} (F : Fun K "tour_from" "tour_from" s_tour_from f fd) (h_born_with : Has P w K mg base 1 "born_with" ["thread"] spBw) : FnOk P w K mg base CX0 2 f fd ["first", "mates"] spTour := by
  refine F.ok sc_tour_from (fun vs H Q E h => ?_) (fun cdv A outer s H vs Q E hr h => ?_)
  · obtain ⟨f, mA, m, N, rfl, _⟩ := h
    rfl
  · obtain ⟨f, mA, m, N, rfl, hm, M, hN, h0, h1, k⟩ := h
    refine ⟨_, (pss_cons (ps_set (i := 2) sc_tour_from.nd rfl (Or.inl rfl) (pe_lst (pa_cons (pv 0) (pa_cons (pe_ix (ix_listK (K := K) rfl) (pv 1) (pv 0) (fun _ _ => rfl)) pa_nil))))
      (pss_cons (ps_while PassesOwn.never (pt_cmpR op_ne (pe_has h_born_with (hr.mono (by decide)) (pa_cons (pe_ix (ix_listK (K := K) rfl) (pv 2) (pe_un un_neg pe_int) (fun _ _ => rfl)) pa_nil)) (pv 0) (nomark _)) (pss_cons (ps_set (i := 3) sc_tour_from.nd rfl (Or.inl rfl) (pe_has h_born_with (hr.mono (by decide)) (pa_cons (pe_ix (ix_listK (K := K) rfl) (pv 2) (pe_un un_neg pe_int) (fun _ _ => rfl)) pa_nil)))
      (pss_cons (ps_expr (pe_bmK (K := K) rfl (pe_bm PySem.F.plainAttrs_list PySem.F.slot_list_append PySem.F.type_list_append mt_append (pv 2) (pa_cons (pv 3) pa_nil))))
      (pss_one (ps_expr (pe_bmK (K := K) rfl (pe_bm PySem.F.plainAttrs_list PySem.F.slot_list_append PySem.F.type_list_append mt_append (pv 2) (pa_cons (pe_ix (ix_listK (K := K) rfl) (pv 1) (pv 3) (fun _ _ => rfl)) pa_nil))))))))
      (pss_one (ps_ret (pv 2))))), ?_⟩
    have dom := gt_dom M h0 h1
    have mdom : ∀ i, 0 ≤ m (gt m f i) ∧ m (gt m f i) < N := fun i => ⟨M.lo _ (dom i).1 (dom i).2, M.hi _ (dom i).1 (dom i).2⟩
    have ol : ∀ i, (orb m f (i + 1)).map V.int = ((orb m f i).map V.int ++ [V.int (gt m f i)]) ++ [V.int (m (gt m f i))] := fun i => by simp [orb]
    refine ⟨_, rfl, _, rfl, _, rfl, mA, _, _, _, rfl, rfl, SqL.of hm, tab_ati m h0 h1, (by show 2 ≤ sizeLine; decide), fun tA htA => ?_⟩
    refine ⟨fun mm σ H' => ∃ (i : Nat) (v3 : Option V), mm + i = N ∧ σ = [some (.int f), some (.ref mA), some (.ref tA), v3] ∧ Same H H' ∧ H' tA = some (.lst ((orb m f (i + 1)).map V.int)) ∧ (∀ j, 1 ≤ j → j < i + 1 → gt m f j ≠ f),
      ⟨N, 0, none, rfl, rfl, Same.laid htA, upd_same, fun j a b => by omega⟩, ?_⟩
    rintro mm σ H' ⟨i, v3, hi, rfl, sm, ht, nf⟩
    have short := orb_short M h0 h1 nf
    refine ⟨_, rfl, 1, rfl, tA, _, _, V.int (m (gt m f i)), rfl, rfl, SqL.of ht, (by rw [ol]; exact atI_last _ _), _, rfl, (mdom i).1, _, rfl, rfl, _, rfl, ?_⟩
    refine ite2 (fun hc => ?_) (fun hc => ?_)
    · have ne : gt m f (i + 1) ≠ f := fun z => by
        have hc : (!decide (V.int (bw (m (gt m f i))) = V.int f)) = true := hc
        rw [decide_eq_true (show V.int (bw (m (gt m f i))) = V.int f from congrArg V.int z)] at hc
        cases hc
      have nf' : ∀ j, 1 ≤ j → j < i + 2 → gt m f j ≠ f := fun j a b => by
        by_cases e : j = i + 1
        · rw [e]; exact ne
        · exact nf j a (by omega)
      have short2 := orb_short M h0 h1 nf'
      refine ⟨fun σ' H'' => ∃ v3 : Option V, σ' = [some (.int f), some (.ref mA), some (.ref tA), v3] ∧ Same H H'' ∧ H'' tA = some (.lst ((orb m f (i + 2)).map V.int)), fun σ' H'' ⟨v, e, a, b⟩ => ⟨mm - 1, by omega, i + 1, v, by omega, e, a, b, nf'⟩, ?_⟩
      refine ⟨_, rfl, 1, rfl, tA, _, _, V.int (m (gt m f i)), rfl, rfl, SqL.of ht, (by rw [ol]; exact atI_last _ _), _, rfl, (mdom i).1, ?_⟩
      refine ⟨_, rfl, .inl ⟨rfl, _, SqL.of ht⟩, _, rfl, tA, _, _, rfl, rfl, ht, (by rw [List.length_map, orb_len]; exact small1000 (by omega)), ?_⟩
      have hma : tA ≠ mA := fun z => by rw [z, hm] at htA; cases htA
      refine ⟨_, rfl, .inl ⟨rfl, _, SqL.of upd_same⟩, _, rfl, _, rfl, mA, _, _, _, rfl, rfl, SqL.of (by rw [upd_ne (Ne.symm hma)]; exact sm mA _ hm), tab_ati m (dom (i + 1)).1 (dom (i + 1)).2, tA, _, _, rfl, rfl, upd_same, (by rw [List.length_append, List.length_map, orb_len]; exact small1000 (by show _ + 1 ≤ 1000; omega)), ?_⟩
      refine ⟨_, rfl, (sm.put htA).put htA, ?_⟩
      rw [upd_same, ol (i + 1)]
      rfl
    · have e : gt m f (i + 1) = f := by
        by_cases z : gt m f (i + 1) = f
        · exact z
        · exact absurd (show (!decide (V.int (gt m f (i + 1)) = V.int f)) = true by rw [decide_eq_false (fun y => z (V.int.inj y))]; rfl) hc
      exact ⟨_, rfl, k tA H' (orb m f (i + 1)) htA sm ht ⟨i + 1, by omega, e, nf, rfl⟩⟩
end
end Qk05

namespace Qk05
open PySem L2 PyProof.Rows
section
variable {P : Program} {w : World} {K : PySem.W.Frag} {mg : Str → Option Value} {base : Heap}
def spTours : Sp := fun vs H Q _ => ∃ (l : Addr) (xs : List V) (ls : List (Str × Int)), vs = [.ref l] ∧ H l = some (.lst xs) ∧ LetsV H xs ls ∧ ls.length ≤ 60 ∧ Wk ls 0 ∧
  ∀ (p : Addr) (H' : Hp) (ys : List V) (ts : List (List Int)), H p = none → Same H H' → H' p = some (.lst ys) → RowsV H' ys ts → (∀ t, V.ref t ∈ ys → H t = none) → Trs (mOf (eps ls)) (nTh ls) ts → Q (.ref p) H'
theorem tab_atiB {N : Nat} (g : Int → V) {x : Int} (h0 : 0 ≤ x) (h1 : x < (N : Int)) : atI (tab N g) x = some (g x) := by
  obtain ⟨n, rfl⟩ := Int.eq_ofNat_of_zero_le h0
  exact atI_nat (tab_at _ (by omega))
abbrev s_tours : Stmt := top 10
theorem sc_tours : FnScope ["drawing", "mates", "gone", "found", "first", "tour", "thread"] ["drawing"] (defScope s_tours) := ⟨rfl, rfl, rfl, by decide +kernel, rfl, by decide +kernel, by decide +kernel⟩
theorem ok_tours {f : Addr} {fd : FuncData} (F : Fun K "tours" "tours" s_tours f fd) (h_end_mates : Has P w K mg base 4 "end_mates" ["drawing"] spMates) (h_tour_from : Has P w K mg base 2 "tour_from" ["first", "mates"] spTour) (b_len : mg "len" = none) (b_range : mg "range" = none) : FnOk P w K mg base CX0 5 f fd ["drawing"] spTours := by
  refine F.ok sc_tours (fun vs H Q E h => ?_) (fun cdv A outer s H vs Q E hr h => ?_)
  · obtain ⟨l, xs, ls, rfl, _⟩ := h
    rfl
  · obtain ⟨l, xs, ls, rfl, hl, hL, hlen, hW, k⟩ := h
    have n120 := nTh_short hlen
    have M := eps_mates hW
    generalize hm' : mOf (eps ls) = m at *
    generalize hn' : nTh ls = N at *
    refine ⟨_, (pss_cons (ps_set (i := 1) sc_tours.nd rfl (Or.inl rfl) (pe_has h_end_mates (hr.mono (by decide)) (pa_cons (pv 0) pa_nil)))
      (pss_cons (ps_set (i := 2) sc_tours.nd rfl (Or.inl rfl) (pe_op op_rep (pe_lst (pa_cons pe_bl pa_nil)) (pe_callB (call_lenK (K := K) rfl) (by rfl) b_len PySem.boot_len (pa_cons (pv 1) pa_nil))))
      (pss_cons (ps_set (i := 3) sc_tours.nd rfl (Or.inl rfl) (pe_lst pa_nil))
      (pss_cons (ps_for PassesOwn.never rfl (pi_range1 (by rfl) b_range (pa_cons (pe_callB (call_lenK (K := K) rfl) (by rfl) b_len PySem.boot_len (pa_cons (pv 1) pa_nil)) pa_nil)) (pg_name (i := 4) sc_tours.nd rfl (Or.inl rfl)) (pss_one (ps_if (pt_not (pt_val (pe_ix (ix_listK (K := K) rfl) (pv 2) (pv 4) (fun _ _ => rfl)))) (pss_cons (ps_set (i := 5) sc_tours.nd rfl (Or.inl rfl) (pe_has h_tour_from (hr.mono (by decide)) (pa_cons (pv 4) (pa_cons (pv 1) pa_nil))))
      (pss_cons (ps_for PassesOwn.never rfl (pi_listK (K := K) rfl (pv 5)) (pg_name (i := 6) sc_tours.nd rfl (Or.inl rfl)) (pss_one (ps_asg pe_bl (pg_sub (pv 2) (pv 6) set_list))))
      (pss_one (ps_expr (pe_bmK (K := K) rfl (pe_bm PySem.F.plainAttrs_list PySem.F.slot_list_append PySem.F.type_list_append mt_append (pv 3) (pa_cons (pv 5) pa_nil))))))) pss_nil)))
      (pss_one (ps_ret (pv 3))))))), ?_⟩
    refine ⟨_, rfl, l, xs, ls, rfl, hl, hL, hlen, hW, fun mA H1 fm s1 em => ?_⟩
    rw [hm', hn'] at em
    refine ⟨(by show 1 ≤ sizeLine; decide), fun l0 hl0 => ?_⟩
    refine ⟨_, rfl, mA, _, rfl, .inl (SqL.of ((Same.laid hl0) mA _ em)), ?_⟩
    have el : ((((tab N m).map V.int).length : Nat) : Int) = ((N : Nat) : Int) := by rw [List.length_map, tab_len]
    rw [el]
    refine ⟨l0, _, _, rfl, rfl, upd_same, by omega, by omega, (by show 1 * _ ≤ sizeLine; exact Nat.le_of_lt (small1000 (by omega))), fun gA hgA => ?_⟩
    obtain ⟨H2, hH2⟩ : ∃ H2, H2 = upd (upd H1 l0 (.lst [.bl false])) gA (.lst (List.replicate ((N : Nat) : Int).toNat [V.bl false]).flatten) := ⟨_, rfl⟩
    rw [← hH2]
    have s12 : Same H1 H2 := by rw [hH2]; exact (Same.laid hl0).step hgA
    have hg1 : H1 gA = none := (Same.laid hl0).free hgA
    have hg2 : H2 gA = some (.lst (tab N fun _ => V.bl false)) := by rw [hH2, upd_same, Int.toNat_natCast, tab_rep]
    refine ⟨(by show 0 ≤ sizeLine; decide), fun fA hfA => ?_⟩
    have hf1 : H1 fA = none := s12.free hfA
    have hgf : gA ≠ fA := ne_of_none hg2 hfA
    refine ⟨_, rfl, mA, _, rfl, .inl (SqL.of ((s12.step hfA) mA _ em)), _, rfl, ?_⟩
    rw [el]
    refine ⟨by omega, by omega, for_range (n := ((N : Nat) : Int).toNat) (fun i σ H' => ∃ (ys : List V) (ts : List (List Int)) (v4 v5 v6 : Option V), σ = [some (.ref l), some (.ref mA), some (.ref gA), some (.ref fA), v4, v5, v6] ∧ Same H1 H' ∧ H' gA = some (.lst (tab N fun x => V.bl (decide (x ∈ ts.flatten)))) ∧ H' fA = some (.lst ys) ∧ RowsV H' ys ts ∧ Trs m i ts ∧ (∀ t, V.ref t ∈ ys → t ≠ gA ∧ t ≠ fA ∧ H1 t = none))
      ⟨[], [], none, none, none, rfl, s12.step hfA, ?_, upd_same, .nil, .nil, fun t ht => by cases ht⟩ ?_ ?_⟩
    · rw [upd_ne hgf, hg2]
      exact congrArg (fun z => some (HO.lst z)) (tab_congr fun x _ _ => by simp)
    · rintro i σ H' hi ⟨ys, ts, v4, v5, v6, rfl, sm, hg, hf, rv, tr, ap⟩
      rw [Int.toNat_natCast] at hi
      have e0 : (0 : Int) + (i : Int) = (i : Int) := Int.zero_add _
      have good := tr.good M (by omega)
      refine ⟨_, rfl, _, rfl, gA, _, _, _, rfl, rfl, SqL.of hg, tab_atiB _ (by omega) (by omega), _, rfl, ?_⟩
      rw [e0]
      by_cases hin : (i : Int) ∈ ts.flatten
      · rw [decide_eq_true hin]
        refine iteF ?_
        exact ⟨ys, ts, _, v5, v6, rfl, sm, hg, hf, rv, tr.skip hin, ap⟩
      · rw [decide_eq_false hin]
        refine iteT ?_
        refine ⟨_, rfl, _, rfl, _, mA, m, N, rfl, sm mA _ em, M, by omega, by omega, by omega, fun tA H3 T htA s3 eT isT => ?_⟩
        have tdom := isT.dom M (by omega) (by omega)
        have tlen := isT.len M (by omega) (by omega)
        have htg : tA ≠ gA := (ne_of_none hg htA).symm
        have htf : tA ≠ fA := (ne_of_none hf htA).symm
        refine ⟨_, rfl, tA, rfl, ⟨_, SqL.of eT⟩, for_list (K := K) (a := tA) (xs := T.map V.int) (fun j σ H'' => ∃ v6 : Option V, σ = [some (.ref l), some (.ref mA), some (.ref gA), some (.ref fA), some (.int (i : Int)), some (.ref tA), v6] ∧ Frm gA H3 H'' ∧ H'' gA = some (.lst (tab N fun x => V.bl (decide (x ∈ ts.flatten ∨ x ∈ T.take j)))))
          ⟨_, rfl, Frm.refl _ _, ?_⟩ (fun j σ H'' _ ⟨_, _, fr, _⟩ => SqL.of (fr tA _ eT htg)) ?_ ?_⟩
        · rw [s3 gA _ hg]
          exact congrArg (fun z => some (HO.lst z)) (tab_congr fun x _ _ => by simp)
        · rintro j x σ H'' hx ⟨v6, rfl, fr, hg''⟩
          obtain ⟨t, ht, rfl⟩ := map_int_at hx
          obtain ⟨d0, d1⟩ := tdom t (List.mem_of_getElem? ht)
          obtain ⟨tn, rfl⟩ := Int.eq_ofNat_of_zero_le d0
          refine ⟨_, rfl, _, rfl, gA, _, _, tn, rfl, rfl, hg'', (by rw [tab_len]; exact ixN_nat (by omega)), ?_⟩
          refine ⟨_, rfl, fr.trans Frm.upd, ?_⟩
          rw [upd_same, tab_set]
          refine congrArg (fun z => some (HO.lst z)) (tab_congr fun x _ _ => ?_)
          rw [List.take_add_one, ht]
          by_cases e : x = (tn : Int)
          · rw [if_pos e]
            congr 1
            exact (decide_eq_true (.inr (by rw [e]; simp))).symm
          · rw [if_neg e]
            congr 1
            exact decide_eq_decide.mpr (by simp [e])
        · rintro σ H'' ⟨v6, rfl, fr, hg''⟩
          have hf'' := fr fA _ (s3 fA _ hf) (Ne.symm hgf)
          refine ⟨_, rfl, .inl ⟨rfl, _, SqL.of hf''⟩, _, rfl, fA, _, _, rfl, rfl, hf'', (by rw [rv.len]; have := tr.len M (by omega); exact small1000 (by omega)), ?_⟩
          have keep : ∀ c o, H' c = some o → c ≠ gA → c ≠ fA → (upd H'' fA (.lst (ys ++ [.ref tA]))) c = some o := fun c o e n1 n2 => by
            rw [upd_ne n2]
            exact fr c o (s3 c o e) n1
          refine ⟨ys ++ [.ref tA], ts ++ [T], _, _, _, rfl, fun c o e => keep c o (sm c o e) (ne_of_none e hg1) (ne_of_none e hf1), ?_, upd_same, ?_, tr.add hin isT, fun t ht => ?_⟩
          · rw [upd_ne hgf, hg'', List.length_map, List.take_of_length_le (Nat.le_refl _)]
            refine congrArg (fun z => some (HO.lst z)) (tab_congr fun x _ _ => ?_)
            congr 1
            exact decide_eq_decide.mpr (by rw [List.flatten_append]; simp)
          · refine RowsV.snoc (rv.mono fun t o ht e => keep t o e (ap t ht).1 (ap t ht).2.1) ?_
            rw [upd_ne htf]
            exact fr tA _ eT htg
          · rcases List.mem_append.mp ht with z | z
            · exact ap t z
            · have : t = tA := V.ref.inj (List.mem_singleton.mp z)
              subst this
              exact ⟨htg, htf, sm.free htA⟩
    · rintro σ H' ⟨ys, ts, v4, v5, v6, rfl, sm, hg, hf, rv, tr, ap⟩
      rw [Int.toNat_natCast] at tr
      exact ⟨_, rfl, k fA H' ys ts (s1.free hf1) (s1.trans sm) hf rv (fun t ht => s1.free (ap t ht).2.2) tr⟩
end
end Qk05

namespace Qk05
open PySem L2 PyProof.Rows
section
variable {P : Program} {w : World} {K : PySem.W.Frag} {mg : Str → Option Value} {base : Heap}
/-! ### pairs joined: the greater number goes for the lesser one -/
def jn (L : Int → Int) (p : Int × Int) : Int → Int := fun x => if L x = max (L p.1) (L p.2) then min (L p.1) (L p.2) else L x
def lbl (ps : List (Int × Int)) : Int → Int := ps.foldl jn fun x => x / 2
theorem lbl_snoc (ps : List (Int × Int)) (p : Int × Int) : lbl (ps ++ [p]) = jn (lbl ps) p := by simp [lbl]
theorem jn_eq {L : Int → Int} {p : Int × Int} {x y : Int} (h : L x = L y) : jn L p x = jn L p y := by unfold jn; rw [h]
theorem fold_eq {x y : Int} : ∀ (ps : List (Int × Int)) {L : Int → Int}, L x = L y → (ps.foldl jn L) x = (ps.foldl jn L) y
  | [], _, h => h
  | p :: ps, L, h => fold_eq ps (jn_eq h)
theorem jn_pair (L : Int → Int) (p : Int × Int) : jn L p p.1 = jn L p p.2 := by
  unfold jn
  have h1 := Int.max_def (L p.1) (L p.2)
  have h2 := Int.min_def (L p.1) (L p.2)
  split at h1 <;> split at h2 <;> split <;> split <;> omega
theorem fold_pair {p : Int × Int} : ∀ (ps : List (Int × Int)) (L : Int → Int), p ∈ ps → (ps.foldl jn L) p.1 = (ps.foldl jn L) p.2
  | q :: ps, L, h => by
    rcases List.mem_cons.mp h with rfl | h
    · exact fold_eq ps (jn_pair L p)
    · exact fold_pair ps _ h
theorem fold_le {x : Int} : ∀ (ps : List (Int × Int)) (L : Int → Int), (ps.foldl jn L) x ≤ L x
  | [], _ => Int.le_refl _
  | p :: ps, L => by
    refine Int.le_trans (fold_le ps _) ?_
    unfold jn
    have h1 := Int.max_def (L p.1) (L p.2)
    have h2 := Int.min_def (L p.1) (L p.2)
    split at h1 <;> split at h2 <;> split <;> omega
theorem lbl_bw (ps : List (Int × Int)) (x : Int) : lbl ps (bw x) = lbl ps x := fold_eq ps (by unfold bw; split <;> omega)
theorem lbl_m {ps : List (Int × Int)} (nd : (flatP ps).Nodup) {x : Int} (hx : x ∈ flatP ps) : lbl ps (mOf ps x) = lbl ps x := by
  obtain ⟨p, hp, hx⟩ := List.mem_flatMap.mp hx
  obtain ⟨e1, e2⟩ := mOf_at (u := p.1) (l := p.2) nd hp
  have := fold_pair ps (fun x => x / 2) hp
  rcases List.mem_cons.mp hx with rfl | hx
  · rw [e1]; exact this.symm
  · rw [List.mem_singleton.mp hx, e2]; exact this
theorem one_tour : ∀ {ts : List (List Int)}, ts.flatten.Nodup → ∀ {T T' : List Int} {z : Int}, T ∈ ts → T' ∈ ts → z ∈ T → z ∈ T' → T = T'
  | S :: ts, nd, T, T', z, h, h', hz, hz' => by
    rw [List.flatten_cons, List.nodup_append] at nd
    rcases List.mem_cons.mp h with e | e <;> rcases List.mem_cons.mp h' with e' | e'
    · rw [e, e']
    · exact absurd rfl (nd.2.2 z (e ▸ hz) z (List.mem_flatten.mpr ⟨_, e', hz'⟩))
    · exact absurd rfl (nd.2.2 z (e' ▸ hz') z (List.mem_flatten.mpr ⟨_, e, hz⟩))
    · exact one_tour nd.2.1 e e' hz hz'
/-- labels stay within the tours -/
theorem fold_in {ts : List (List Int)} (nd : ts.flatten.Nodup) : ∀ (ps : List (Int × Int)) (L : Int → Int), (∀ p ∈ ps, ∃ T ∈ ts, p.1 ∈ T ∧ p.2 ∈ T) → (∀ T ∈ ts, ∀ x ∈ T, 2 * L x ∈ T) → ∀ T ∈ ts, ∀ x ∈ T, 2 * (ps.foldl jn L) x ∈ T
  | [], _, _, h => h
  | p :: ps, L, hp, h => by
    refine fold_in nd ps _ (fun q hq => hp q (List.mem_cons_of_mem _ hq)) fun T hT x hx => ?_
    obtain ⟨T', hT', h1, h2⟩ := hp p List.mem_cons_self
    unfold jn
    have e1 := Int.max_def (L p.1) (L p.2)
    have e2 := Int.min_def (L p.1) (L p.2)
    split
    · rename_i e
      have same : ∀ q ∈ T', L x = L q → T' = T := fun q hq z => one_tour nd hT' hT (h T' hT' q hq) (by rw [← z]; exact h T hT x hx)
      split at e1
      · have := same _ h2 (by omega)
        subst this
        rw [if_pos (by assumption)] at e2
        rw [e2]; exact h _ hT _ h1
      · have := same _ h1 (by omega)
        subst this
        rw [if_neg (by assumption)] at e2
        rw [e2]; exact h _ hT _ h2
    · exact h T hT x hx
/-- the first threads of the tours -/
theorem trs_heads {m : Int → Int} {N : Int} (M : Mates m N) {i : Nat} {ts : List (List Int)} (a : Trs m i ts) (hi : (i : Int) ≤ N) :
    ∃ fs : List Nat, fs.length = ts.length ∧ fs.Pairwise (· < ·) ∧ (∀ f ∈ fs, f < i) ∧ ∀ (k : Nat) (f : Nat) (T : List Int), fs[k]? = some f → ts[k]? = some T → IsTour m (f : Int) T ∧ ∀ y ∈ T, (f : Int) ≤ y := by
  induction a with
  | nil => exact ⟨[], rfl, .nil, fun f hf => (by cases hf), fun k f T h => (by simp at h)⟩
  | @add i ts T a h t ih =>
    obtain ⟨fs, l1, p1, b1, c1⟩ := ih (by omega)
    have good := (Trs.add a h t).good M hi
    refine ⟨fs ++ [i], by simp [l1], ?_, fun f hf => ?_, fun k f T' hf hT => ?_⟩
    · rw [List.pairwise_append]
      exact ⟨p1, List.pairwise_singleton _ _, fun x hx y hy => by rw [List.mem_singleton.mp hy]; exact b1 x hx⟩
    · rcases List.mem_append.mp hf with z | z
      · have := b1 f z; omega
      · rw [List.mem_singleton.mp z]; omega
    · by_cases hk : k < fs.length
      · rw [List.getElem?_append_left hk] at hf
        rw [List.getElem?_append_left (by omega)] at hT
        exact c1 k f T' hf hT
      · rw [List.getElem?_append_right (by omega)] at hf
        rw [List.getElem?_append_right (by omega)] at hT
        have hk0 : k - fs.length = 0 := by
          have := (List.getElem?_eq_some_iff.mp hf).1
          simp at this; omega
        rw [hk0] at hf
        rw [show k - ts.length = 0 by omega] at hT
        simp at hf hT
        subst hf hT
        refine ⟨t, fun y hy => ?_⟩
        have yd := good.2.1 y (by rw [List.flatten_append]; exact List.mem_append_right _ (by simpa using hy))
        rcases Int.lt_or_le y (i : Int) with z | z
        · obtain ⟨j, rfl⟩ := Int.eq_ofNat_of_zero_le yd.1
          have hm := a.mem j (by omega)
          have nd := good.1
          rw [List.flatten_append, List.nodup_append] at nd
          exact absurd rfl (nd.2.2 _ hm _ (by simpa using hy))
        · exact z
  | skip a h ih =>
    obtain ⟨fs, l1, p1, b1, c1⟩ := ih (by omega)
    exact ⟨fs, l1, p1, fun f hf => by have := b1 f hf; omega, c1⟩
theorem trs_closed {m : Int → Int} {N : Int} (M : Mates m N) {i : Nat} {ts : List (List Int)} (a : Trs m i ts) (hi : (i : Int) ≤ N) : ∀ T ∈ ts, (∀ x ∈ T, 0 ≤ x ∧ x < N) ∧ ∀ x ∈ T, m x ∈ T ∧ bw x ∈ T := by
  intro T hT
  obtain ⟨k, hk, rfl⟩ := List.getElem_of_mem hT
  obtain ⟨fs, l1, p1, b1, c1⟩ := trs_heads M a hi
  have hf : fs[k]? = some (fs[k]'(by omega)) := List.getElem?_eq_getElem _
  have b := b1 _ (List.getElem_mem (by omega : k < fs.length))
  have t := (c1 k _ _ hf (List.getElem?_eq_getElem hk)).1
  exact ⟨t.dom M (by omega) (by omega), t.closed M (by omega) (by omega)⟩
/-- the label of a thread is half its tour's first -/
theorem lbl_head {ps : List (Int × Int)} {N : Nat} (pm : (flatP ps).Perm (upto N)) (M : Mates (mOf ps) N) {ts : List (List Int)} (tr : Trs (mOf ps) N ts) :
    ∃ fs : List Nat, fs.length = ts.length ∧ fs.Pairwise (· < ·) ∧ (∀ f ∈ fs, f < N) ∧ ∀ (k : Nat) (f : Nat) (T : List Int), fs[k]? = some f → ts[k]? = some T → (f : Int) ∈ T ∧ ∀ x ∈ T, 2 * lbl ps x = (f : Int) := by
  have nd : (flatP ps).Nodup := pm.nodup_iff.mpr (ints_nodup _)
  have dom : ∀ x, 0 ≤ x → x < (N : Int) → x ∈ flatP ps := fun x h0 h1 => pm.mem_iff.mpr (mem_ints.mpr ⟨h0, h1⟩)
  obtain ⟨fs, l1, p1, b1, c1⟩ := trs_heads M tr (Int.le_refl _)
  have good := tr.good M (Int.le_refl _)
  have cl := trs_closed M tr (Int.le_refl _)
  have inT : ∀ T ∈ ts, ∀ x ∈ T, 2 * lbl ps x ∈ T := by
    refine fold_in good.1 ps _ (fun p hp => ?_) fun T hT x hx => ?_
    · have hm : p.1 ∈ flatP ps := List.mem_flatMap.mpr ⟨p, hp, List.mem_cons_self⟩
      have hd := mem_ints.mp (pm.mem_iff.mp hm)
      obtain ⟨j, hj⟩ := Int.eq_ofNat_of_zero_le hd.1
      have := tr.mem j (by omega)
      rw [← hj] at this
      obtain ⟨T, hT, hx⟩ := List.mem_flatten.mp this
      exact ⟨T, hT, hx, by rw [← (mOf_at (u := p.1) (l := p.2) nd hp).1]; exact ((cl T hT).2 _ hx).1⟩
    · by_cases e : x % 2 = 0
      · rw [show 2 * (x / 2) = x by omega]; exact hx
      · have := ((cl T hT).2 x hx).2
        unfold bw at this
        rw [if_neg e] at this
        rw [show 2 * (x / 2) = x - 1 by omega]; exact this
  refine ⟨fs, l1, p1, b1, fun k f T hf hT => ?_⟩
  obtain ⟨t, least⟩ := c1 k f T hf hT
  have hTm := List.mem_of_getElem? hT
  have hfT := t.self
  have fd := b1 f (List.mem_of_getElem? hf)
  refine ⟨hfT, fun x hx => ?_⟩
  have same : lbl ps x = lbl ps (f : Int) := by
    have mm : ∀ z ∈ T, lbl ps (mOf ps z) = lbl ps z := fun z hz => lbl_m nd (dom z ((cl T hTm).1 z hz).1 ((cl T hTm).1 z hz).2)
    have gd : ∀ j, 0 ≤ gt (mOf ps) (f : Int) j ∧ gt (mOf ps) (f : Int) j < (N : Int) := fun j => gt_dom M (by omega) (by omega) j
    have go : ∀ j, lbl ps (gt (mOf ps) (f : Int) j) = lbl ps (f : Int) := by
      intro j
      induction j with
      | zero => rfl
      | succ j ih =>
        show lbl ps (bw (mOf ps (gt (mOf ps) (f : Int) j))) = _
        rw [lbl_bw, lbl_m nd (dom _ (gd j).1 (gd j).2), ih]
    obtain ⟨L, _, _, _, rfl⟩ := t
    obtain ⟨j, _, rfl | rfl⟩ := mem_orb.mp hx
    · exact go j
    · rw [lbl_m nd (dom _ (gd j).1 (gd j).2), go j]
  rw [same]
  have h1 := least _ (inT T hTm _ hfT)
  have h2 : lbl ps (f : Int) ≤ (f : Int) / 2 := fold_le ps fun x => x / 2
  omega
end
end Qk05

namespace Qk05
open PySem L2 PyProof.Rows
section
variable {P : Program} {w : World} {K : PySem.W.Frag} {mg : Str → Option Value} {base : Heap}
def ixT (ts : List (List Int)) (x : Int) : Int := (ts.findIdx fun T => decide (x ∈ T) : Nat)
def spPieces : Sp := fun vs H Q _ => ∃ (l : Addr) (xs : List V) (ls : List (Str × Int)), vs = [.ref l] ∧ H l = some (.lst xs) ∧ LetsV H xs ls ∧ ls.length ≤ 60 ∧ Wk ls 0 ∧
  ∀ (p : Addr) (H' : Hp) (ts : List (List Int)), H p = none → Same H H' → Trs (mOf (eps ls)) (nTh ls) ts → H' p = some (.lst ((tab (nTh ls) (ixT ts)).map V.int)) → Q (.ref p) H'
theorem nd_apart : ∀ {ts : List (List Int)}, ts.flatten.Nodup → ∀ {j k : Nat} {S T : List Int} {x : Int}, ts[j]? = some S → ts[k]? = some T → j < k → x ∈ S → x ∈ T → False
  | U :: ts, nd, 0, k + 1, S, T, x, hS, hT, _, h1, h2 => by
    rw [List.flatten_cons, List.nodup_append] at nd
    simp at hS
    exact nd.2.2 x (hS ▸ h1) x (List.mem_flatten.mpr ⟨T, List.mem_of_getElem? (by simpa using hT), h2⟩) rfl
  | U :: ts, nd, j + 1, k + 1, S, T, x, hS, hT, hjk, h1, h2 => by
    rw [List.flatten_cons, List.nodup_append] at nd
    exact nd_apart nd.2.1 (j := j) (k := k) (by simpa using hS) (by simpa using hT) (by omega) h1 h2
theorem ix_at {ts : List (List Int)} (nd : ts.flatten.Nodup) {k : Nat} {T : List Int} {x : Int} (hT : ts[k]? = some T) (hx : x ∈ T) : ixT ts x = (k : Int) := by
  have hk := (List.getElem?_eq_some_iff.mp hT).1
  have e : ts.findIdx (fun T => decide (x ∈ T)) = k := by
    rw [List.findIdx_eq hk]
    obtain ⟨_, rfl⟩ := List.getElem?_eq_some_iff.mp hT
    refine ⟨decide_eq_true hx, fun j hj => ?_⟩
    cases z : decide (x ∈ ts[j]'(by omega)) with
    | false => rfl
    | true => exact absurd rfl fun _ : (0 : Nat) = 0 => nd_apart nd (j := j) (k := k) (List.getElem?_eq_getElem (by omega)) hT hj (of_decide_eq_true z) hx
  unfold ixT
  rw [e]
abbrev s_pieces : Stmt := top 11
theorem sc_pieces : FnScope ["drawing", "numbers", "number", "tour", "thread"] ["drawing"] (defScope s_pieces) := ⟨rfl, rfl, rfl, by decide +kernel, rfl, by decide +kernel, by decide +kernel⟩
theorem ok_pieces {f : Addr} {fd : FuncData} (F : Fun K "pieces" "pieces" s_pieces f fd) (h_ends_of : Has P w K mg base 2 "ends_of" ["drawing"] (spLoc fun x => decide (x = "end"))) (h_tours : Has P w K mg base 5 "tours" ["drawing"] spTours) (b_len : mg "len" = none) (b_enumerate : mg "enumerate" = none) : FnOk P w K mg base CX0 6 f fd ["drawing"] spPieces := by
  refine F.ok sc_pieces (fun vs H Q E h => ?_) (fun cdv A outer s H vs Q E hr h => ?_)
  · obtain ⟨l, xs, ls, rfl, _⟩ := h
    rfl
  · obtain ⟨l, xs, ls, rfl, hl, hL, hlen, hW, k⟩ := h
    have n120 := nTh_short hlen
    have M := eps_mates hW
    have nt : 2 * (locI ls isE ls.length).length = nTh ls := by unfold nTh eps epsI; rw [List.length_map]
    generalize hn' : nTh ls = N at *
    refine ⟨_, (pss_cons (ps_set (i := 1) sc_pieces.nd rfl (Or.inl rfl) (pe_op op_rep (pe_lst (pa_cons pe_int pa_nil)) (pe_op op_mul pe_int (pe_callB (call_lenK (K := K) rfl) (by rfl) b_len PySem.boot_len (pa_cons (pe_has h_ends_of (hr.mono (by decide)) (pa_cons (pv 0) pa_nil)) pa_nil)))))
      (pss_cons (ps_for PassesOwn.never rfl (pi_enumK (K := K) rfl (by rfl) b_enumerate (pa_cons (pe_has h_tours (hr.mono (by decide)) (pa_cons (pv 0) pa_nil)) pa_nil)) (pg_tupK (K := K) (n := 2) rfl rfl (pgs_cons (pg_name (i := 2) sc_pieces.nd rfl (Or.inl rfl)) (pgs_cons (pg_name (i := 3) sc_pieces.nd rfl (Or.inl rfl)) pgs_nil))) (pss_one (ps_for PassesOwn.never rfl (pi_listK (K := K) rfl (pv 3)) (pg_name (i := 4) sc_pieces.nd rfl (Or.inl rfl)) (pss_one (ps_asg (pv 2) (pg_sub (pv 1) (pv 4) set_list))))))
      (pss_one (ps_ret (pv 1))))), ?_⟩
    refine ⟨(by show 1 ≤ sizeLine; decide), fun l0 hl0 => ?_⟩
    have s0 : Same H (upd H l0 (.lst [.int 0])) := Same.laid hl0
    refine ⟨_, rfl, l, xs, ls, rfl, s0 l _ hl, hL.same s0, hlen, hW.kd, fun eA H1 fe s1 ee => ?_⟩
    refine ⟨eA, _, rfl, .inl (SqL.of ee), _, _, rfl, rfl, .inl ⟨by decide, by decide⟩, ?_⟩
    have el : ((2 : Int) * ((((locI ls (fun x => decide (x = "end")) ls.length).map V.int).length : Nat) : Int)) = ((N : Nat) : Int) := by
      rw [List.length_map]
      have : (locI ls (fun x => decide (x = "end")) ls.length).length = (locI ls isE ls.length).length := rfl
      omega
    show rRep (V.ref l0) (V.int ((2 : Int) * ((((locI ls (fun x => decide (x = "end")) ls.length).map V.int).length : Nat) : Int))) H1 _
    rw [el]
    refine ⟨l0, _, _, rfl, rfl, s1 l0 _ upd_same, by omega, by omega, (by show 1 * _ ≤ sizeLine; exact Nat.le_of_lt (small1000 (by omega))), fun rA hrA => ?_⟩
    obtain ⟨H2, hH2⟩ : ∃ H2, H2 = upd H1 rA (.lst (List.replicate ((N : Nat) : Int).toNat [V.int 0]).flatten) := ⟨_, rfl⟩
    rw [← hH2]
    have s02 : Same H H2 := by rw [hH2]; exact (s0.trans s1).step hrA
    have hrH : H rA = none := (s0.trans s1).free hrA
    have hr2 : H2 rA = some (.lst (tab N fun _ => V.int 0)) := by rw [hH2, upd_same, Int.toNat_natCast, tab_rep]
    refine ⟨_, rfl, l, xs, ls, rfl, s02 l _ hl, hL.same s02, hlen, hW, fun tsA H3 ys ts ft s3 et rv ap tr => ?_⟩
    rw [hn'] at tr
    have good := tr.good M (Int.le_refl _)
    have htr : tsA ≠ rA := (ne_of_none hr2 ft).symm
    refine ⟨tsA, rfl, ⟨_, SqL.of et⟩, for_enm (K := K) (a := tsA) (xs := ys) (fun i σ H' => ∃ (v2 v3 v4 : Option V), σ = [some (.ref l), some (.ref rA), v2, v3, v4] ∧ Frm rA H3 H' ∧ H' rA = some (.lst (tab N fun x => V.int (if x ∈ (ts.take i).flatten then ixT ts x else 0))))
      ⟨none, none, none, rfl, Frm.refl _ _, ?_⟩ (fun i σ H' _ ⟨_, _, _, _, fr, _⟩ => SqL.of (fr tsA _ et htr)) ?_ ?_⟩
    · rw [s3 rA _ hr2]
      exact congrArg (fun z => some (HO.lst z)) (tab_congr fun x _ _ => by simp)
    · rintro i x p σ H' hx ⟨v2, v3, v4, rfl, fr, hr'⟩ hp
      obtain ⟨q, T, hT, rfl, hq⟩ := rv.atX hx
      have hqr : q ≠ rA := (ne_of_none hr2 (ap q (List.mem_of_getElem? hx))).symm
      have hq' := fr q _ hq hqr
      have tdom : ∀ x ∈ T, 0 ≤ x ∧ x < (N : Int) := fun x hx => good.2.1 x (List.mem_flatten.mpr ⟨T, List.mem_of_getElem? hT, hx⟩)
      obtain ⟨G0, hG0⟩ : ∃ G0, G0 = upd H' p (.tup [.int i, .ref q]) := ⟨_, rfl⟩
      have sp : Same H' G0 := by rw [hG0]; exact Same.laid hp
      have ep : G0 p = some (.tup [.int i, .ref q]) := by rw [hG0]; exact upd_same
      rw [← hG0]
      refine ⟨p, _, rfl, SqT.of ep, rfl, _, _, rfl, _, _, rfl, rfl, ?_⟩
      refine ⟨_, rfl, q, rfl, ⟨_, SqL.of (sp q _ hq')⟩, for_list (K := K) (a := q) (xs := T.map V.int) (fun j σ H'' => ∃ v4 : Option V, σ = [some (.ref l), some (.ref rA), some (.int i), some (.ref q), v4] ∧ Frm rA H3 H'' ∧ H'' rA = some (.lst (tab N fun x => V.int (if x ∈ (ts.take i).flatten ∨ x ∈ T.take j then ixT ts x else 0))))
        ⟨_, rfl, fr.trans sp.frm, ?_⟩ (fun j σ H'' _ ⟨_, _, f', _⟩ => SqL.of (f' q _ hq hqr)) ?_ ?_⟩
      · rw [sp rA _ hr']
        exact congrArg (fun z => some (HO.lst z)) (tab_congr fun x _ _ => by simp)
      · rintro j x σ H'' hx' ⟨v4, rfl, f', hr''⟩
        obtain ⟨t, ht, rfl⟩ := map_int_at hx'
        obtain ⟨d0, d1⟩ := tdom t (List.mem_of_getElem? ht)
        have it := ix_at good.1 hT (List.mem_of_getElem? ht)
        obtain ⟨tn, rfl⟩ := Int.eq_ofNat_of_zero_le d0
        refine ⟨_, rfl, _, rfl, _, rfl, rA, _, _, tn, rfl, rfl, hr'', (by rw [tab_len]; exact ixN_nat (by omega)), ?_⟩
        refine ⟨_, rfl, f'.trans Frm.upd, ?_⟩
        rw [upd_same, tab_set]
        refine congrArg (fun z => some (HO.lst z)) (tab_congr fun x _ _ => ?_)
        rw [List.take_add_one, ht]
        by_cases e : x = (tn : Int)
        · rw [if_pos e, if_pos (.inr (by rw [e]; simp)), e, it]
        · rw [if_neg e]
          simp [e]
      · rintro σ H'' ⟨v4, rfl, f', hr''⟩
        refine ⟨_, _, _, rfl, f', ?_⟩
        rw [hr'', List.length_map, List.take_of_length_le (Nat.le_refl _), List.take_add_one, hT]
        exact congrArg (fun z => some (HO.lst z)) (tab_congr fun x _ _ => by simp)
    · rintro σ H' ⟨v2, v3, v4, rfl, fr, hr'⟩
      refine ⟨_, rfl, k rA H' ts hrH (fun c o e => fr c o (s3 c o (s02 c o e)) (ne_of_none e hrH)) tr ?_⟩
      rw [rv.len, List.take_of_length_le (Nat.le_refl _)] at hr'
      rw [hr', tab_map]
      refine congrArg (fun z => some (HO.lst z)) (tab_congr fun x h0 h1 => ?_)
      obtain ⟨j, rfl⟩ := Int.eq_ofNat_of_zero_le h0
      rw [if_pos (tr.mem j (by omega))]
end
end Qk05

namespace Qk05
open PySem L2 PyProof.Rows
section
variable {P : Program} {w : World} {K : PySem.W.Frag} {mg : Str → Option Value} {base : Heap}
theorem rb_le {ls : List (Str × Int)} (hW : Wk ls 0) : ∀ d i, i + d ≤ ls.length → (rb (ls.take i)).2 ≤ (rb (ls.take (i + d))).2
  | 0, i, _ => Int.le_refl _
  | d + 1, i, h => by
    refine Int.le_trans (rb_le hW d i (by omega)) ?_
    have hq : ls[i + d]? = some ls[i + d] := by simp [show i + d < ls.length by omega]
    obtain ⟨tk, c⟩ := wk_at hW hq
    show _ ≤ (rb (ls.take (i + d + 1))).2
    rw [tk, rb_snoc]
    generalize hp : ls[i + d] = p at c
    obtain ⟨px, pk⟩ := p
    rcases c with ⟨e, _⟩ | ⟨e, _⟩ | ⟨e, _⟩
    · have e : px = "born" := e
      subst e
      rw [stp_born]
      show _ ≤ (rb (ls.take (i + d))).2 + 2
      omega
    · have e : px = "cross" := e
      subst e
      rw [stp_cross]
      exact Int.le_refl _
    · have e : px = "end" := e
      subst e
      rw [stp_end]
      exact Int.le_refl _
theorem row_dom {ls : List (Str × Int)} (hW : Wk ls 0) {t : Nat} (ht : t ≤ ls.length) {x : Int} (hx : x ∈ rowAt ls t) : 0 ≤ x ∧ x < (nTh ls : Int) := by
  obtain ⟨h0, h1, h2⟩ := perm_at hW t ht
  have a := mem_ints.mp (h2.mem_iff.mp (List.mem_append_left _ hx))
  obtain ⟨g0, g1, g2⟩ := perm_at hW ls.length (Nat.le_refl _)
  have e : rowAt ls ls.length = [] := by
    unfold rowAt
    rw [List.take_of_length_le (Nat.le_refl _)]
    have := wk_len hW
    exact List.length_eq_zero_iff.mp (by omega)
  rw [e, List.nil_append] at g2
  have hl := g2.length_eq
  rw [ints_len, flatP_len] at hl
  have le := rb_le hW (ls.length - t) t (by omega)
  rw [show t + (ls.length - t) = ls.length by omega] at le
  have hn : nTh ls = (rb (ls.take ls.length)).2.toNat := hl
  rw [hn]
  omega
theorem pr_dom {ls : List (Str × Int)} (hW : Wk ls 0) {t : Nat} {q : Str × Int} (hq : ls[t]? = some q) (hb : q.1 ≠ "born") : (0 ≤ (prAt ls t).1 ∧ (prAt ls t).1 < (nTh ls : Int)) ∧ (0 ≤ (prAt ls t).2 ∧ (prAt ls t).2 < (nTh ls : Int)) := by
  obtain ⟨k0, k1, pe⟩ := nb_at hW hq hb
  have ht : t < ls.length := (List.getElem?_eq_some_iff.mp hq).1
  rw [pe]
  refine ⟨row_dom hW (Nat.le_of_lt ht) ?_, row_dom hW (Nat.le_of_lt ht) ?_⟩
  · show (rowAt ls t).getD q.2.toNat 0 ∈ _
    rw [show (rowAt ls t).getD q.2.toNat 0 = (rowAt ls t)[q.2.toNat]'(by omega) by simp [show q.2.toNat < (rowAt ls t).length by omega]]
    exact List.getElem_mem _
  · show (rowAt ls t).getD (q.2.toNat + 1) 0 ∈ _
    rw [show (rowAt ls t).getD (q.2.toNat + 1) 0 = (rowAt ls t)[q.2.toNat + 1]'k1 by simp [k1]]
    exact List.getElem_mem _
theorem nTh_rb {ls : List (Str × Int)} (hW : Wk ls 0) : (nTh ls : Int) = (rb (ls.take ls.length)).2 := by
  obtain ⟨g0, g1, g2⟩ := perm_at hW ls.length (Nat.le_refl _)
  have e : rowAt ls ls.length = [] := by
    unfold rowAt
    rw [List.take_of_length_le (Nat.le_refl _)]
    have := wk_len hW
    exact List.length_eq_zero_iff.mp (by omega)
  rw [e, List.nil_append] at g2
  have hl := g2.length_eq
  rw [ints_len, flatP_len] at hl
  have hn : nTh ls = (rb (ls.take ls.length)).2.toNat := hl
  omega
theorem row_lt {ls : List (Str × Int)} (hW : Wk ls 0) {t : Nat} (ht : t ≤ ls.length) {x : Int} (hx : x ∈ rowAt ls t) : 0 ≤ x ∧ x < (rb (ls.take t)).2 := by
  obtain ⟨h0, h1, h2⟩ := perm_at hW t ht
  have a := mem_ints.mp (h2.mem_iff.mp (List.mem_append_left _ hx))
  omega
/-- a birth brings two threads, the greatest; any other letter none -/
theorem rb_step {ls : List (Str × Int)} (hW : Wk ls 0) {i : Nat} (hi : i < ls.length) :
    (rb (ls.take (i + 1))).2 = (rb (ls.take i)).2 + (if ls[i].1 = "born" then 2 else 0) ∧ (ls[i].1 = "born" → (rb (ls.take i)).2 + 1 ∈ rowAt ls (i + 1)) := by
  have hq : ls[i]? = some ls[i] := by simp [hi]
  obtain ⟨tk, c⟩ := wk_at hW hq
  unfold rowAt
  rw [tk, rb_snoc]
  generalize ls[i] = p at c
  obtain ⟨px, pk⟩ := p
  rcases c with ⟨e, _⟩ | ⟨e, _⟩ | ⟨e, _⟩
  · have e : px = "born" := e
    subst e
    rw [stp_born]
    exact ⟨by simp, fun _ => by simp⟩
  · have e : px = "cross" := e
    subst e
    rw [stp_cross]
    exact ⟨by simp [nb1], fun z => absurd z nb1⟩
  · have e : px = "end" := e
    subst e
    rw [stp_end]
    exact ⟨by simp [nb2], fun z => absurd z nb2⟩
theorem rb_cnt {ls : List (Str × Int)} (hW : Wk ls 0) : ∀ i, i ≤ ls.length → (rb (ls.take i)).2 = 2 * (cnt "born" (ls.take i) : Int)
  | 0, _ => rfl
  | i + 1, hi => by
    have hq : ls[i]? = some ls[i] := by simp [show i < ls.length by omega]
    rw [(rb_step hW (by omega : i < ls.length)).1, rb_cnt hW i (by omega), List.take_add_one, hq]
    show _ = 2 * (cnt "born" (ls.take i ++ [ls[i]]) : Int)
    rw [cnt_snoc]
    split <;> omega
theorem nTh_8 {ls : List (Str × Int)} (hW : Wk ls 0) (hB : InB ls) : nTh ls ≤ 8 := by
  have h1 := nTh_rb hW
  have h2 := rb_cnt hW ls.length (Nat.le_refl _)
  rw [List.take_of_length_le (Nat.le_refl _)] at h1 h2
  have h3 := hB.2.1
  rw [loc_cnt] at h3
  omega
/-- the greatest thread so far stands in some row so far -/
def TopIn (ls : List (Str × Int)) (i : Nat) (ms : List Int) : Prop := (∀ v ∈ ms, v ≤ (nTh ls : Int)) ∧ ∀ j, j < i → (rb (ls.take j)).2 = 0 ∨ (rb (ls.take j)).2 ∈ ms
theorem top_none {ls : List (Str × Int)} (hW : Wk ls 0) {i : Nat} {ms : List Int} (h : TopIn ls i ms) (hi : i ≤ ls.length) (e : rowAt ls i = []) : TopIn ls (i + 1) ms := by
  refine ⟨h.1, fun j hj => ?_⟩
  by_cases z : j < i
  · exact h.2 j z
  · obtain rfl : j = i := by omega
    cases j with
    | zero => exact .inl rfl
    | succ j =>
      obtain ⟨r1, r2⟩ := rb_step hW (by omega : j < ls.length)
      by_cases b : ls[j].1 = "born"
      · have := r2 b
        rw [e] at this
        cases this
      · rw [if_neg b] at r1
        rw [r1, Int.add_zero]
        exact h.2 j (by omega)
theorem top_some {ls : List (Str × Int)} (hW : Wk ls 0) {i : Nat} {ms : List Int} (h : TopIn ls i ms) (hi : i ≤ ls.length) {M : Int} (hm : M ∈ rowAt ls i) (hM : ∀ a ∈ rowAt ls i, a ≤ M) : TopIn ls (i + 1) (ms ++ [1 + M]) := by
  refine ⟨fun v hv => ?_, fun j hj => ?_⟩
  · rcases List.mem_append.mp hv with z | z
    · exact h.1 v z
    · have := row_dom hW hi hm
      rw [List.mem_singleton.mp z]; omega
  · by_cases z : j < i
    · rcases h.2 j z with q | q
      · exact .inl q
      · exact .inr (List.mem_append_left _ q)
    · obtain rfl : j = i := by omega
      cases j with
      | zero => exact .inl rfl
      | succ j =>
        obtain ⟨r1, r2⟩ := rb_step hW (by omega : j < ls.length)
        by_cases b : ls[j].1 = "born"
        · have h1 := hM _ (r2 b)
          have h2 := (row_lt hW hi hm).2
          rw [if_pos b] at r1
          refine .inr (List.mem_append_right _ (List.mem_singleton.mpr ?_))
          omega
        · rw [if_neg b] at r1
          rw [r1, Int.add_zero]
          rcases h.2 j (by omega) with q | q
          · exact .inl q
          · exact .inr (List.mem_append_left _ q)
theorem top_end {ls : List (Str × Int)} (hW : Wk ls 0) {ms : List Int} (h : TopIn ls (ls.length + 1) ms) {M : Int} (hm : M ∈ 0 :: ms) (hM : ∀ a ∈ 0 :: ms, a ≤ M) : M = (nTh ls : Int) := by
  have e := nTh_rb hW
  have l1 : M ≤ (nTh ls : Int) := by
    rcases List.mem_cons.mp hm with z | z
    · omega
    · exact h.1 M z
  have l2 : (nTh ls : Int) ≤ M := by
    rcases h.2 ls.length (by omega) with z | z
    · have := hM 0 List.mem_cons_self
      omega
    · have := hM _ (List.mem_cons_of_mem _ z)
      omega
  omega
/-- labels, their order, and where each stands in it -/
theorem lbl_dom {ps : List (Int × Int)} {N : Nat} (pm : (flatP ps).Perm (upto N)) (M : Mates (mOf ps) N) {ts : List (List Int)} (tr : Trs (mOf ps) N ts) {x : Int} (h0 : 0 ≤ x) (h1 : x < (N : Int)) : 0 ≤ lbl ps x ∧ 2 * lbl ps x < (N : Int) := by
  obtain ⟨fs, l1, p1, b1, c1⟩ := lbl_head pm M tr
  obtain ⟨j, rfl⟩ := Int.eq_ofNat_of_zero_le h0
  obtain ⟨T, hT, hx⟩ := List.mem_flatten.mp (tr.mem j (by omega))
  obtain ⟨k, hk, rfl⟩ := List.getElem_of_mem hT
  have hf : fs[k]? = some (fs[k]'(by omega)) := List.getElem?_eq_getElem _
  have := (c1 k _ _ hf (List.getElem?_eq_getElem hk)).2 _ hx
  have b := b1 _ (List.getElem_mem (by omega : k < fs.length))
  omega
theorem ord_at {ps : List (Int × Int)} {N : Nat} (h8 : N ≤ 8) (pm : (flatP ps).Perm (upto N)) (M : Mates (mOf ps) N) {ts : List (List Int)} (tr : Trs (mOf ps) N ts) :
    ∀ x : Int, 0 ≤ x → x < (N : Int) → ∃ k : Nat, ixT ts x = (k : Int) ∧ ((sub4 fun j => decide ((j : Int) ∈ tab N (lbl ps))).map fun (j : Nat) => (j : Int))[k]? = some (lbl ps x) ∧
      ∀ j < k, ((sub4 fun j => decide ((j : Int) ∈ tab N (lbl ps))).map fun (j : Nat) => (j : Int))[j]? ≠ some (lbl ps x) := by
  obtain ⟨fs, l1, p1, b1, c1⟩ := lbl_head pm M tr
  have good := tr.good M (Int.le_refl _)
  have hd : ∀ k (hk : k < fs.length), (fs[k] : Int) = 2 * lbl ps (fs[k] : Int) := fun k hk => by
    have c := c1 k _ _ (List.getElem?_eq_getElem hk) (List.getElem?_eq_getElem (by omega : k < ts.length))
    exact (c.2 _ c.1).symm
  have eo : (sub4 fun j => decide ((j : Int) ∈ tab N (lbl ps))).map (fun (j : Nat) => (j : Int)) = fs.map fun (f : Nat) => lbl ps (f : Int) := by
    have nd1 : ((sub4 fun j => decide ((j : Int) ∈ tab N (lbl ps))).map (fun (j : Nat) => (j : Int))).Pairwise (· < ·) := by
      rw [List.pairwise_map]
      exact (sub4_sorted _).imp fun h => by omega
    have nd2 : (fs.map fun (f : Nat) => lbl ps (f : Int)).Pairwise (· < ·) := by
      rw [List.pairwise_map, List.pairwise_iff_getElem]
      intro i j hi hj hij
      have := List.pairwise_iff_getElem.mp p1 i j hi hj hij
      have a := hd i hi
      have b := hd j hj
      omega
    refine sorted_one ((List.perm_ext_iff_of_nodup (nd1.imp fun h => by omega) (nd2.imp fun h => by omega)).mpr fun v => ?_) (nd1.imp fun h => by omega) (nd2.imp fun h => by omega)
    rw [List.mem_map, List.mem_map]
    constructor
    · rintro ⟨j, hj, rfl⟩
      have hm := of_decide_eq_true (mem_sub4.mp hj).2
      obtain ⟨i, hi, ei⟩ := List.getElem_of_mem hm
      rw [tab_len] at hi
      have ev : lbl ps (i : Int) = (j : Int) := by
        have := tab_at (lbl ps) hi
        rw [List.getElem?_eq_getElem (by rw [tab_len]; exact hi), ei] at this
        exact (Option.some.inj this).symm
      obtain ⟨T, hT, hx⟩ := List.mem_flatten.mp (tr.mem i hi)
      obtain ⟨k, hk, rfl⟩ := List.getElem_of_mem hT
      have c := c1 k _ _ (List.getElem?_eq_getElem (by omega : k < fs.length)) (List.getElem?_eq_getElem hk)
      refine ⟨fs[k]'(by omega), List.getElem_mem _, ?_⟩
      have c1 := c.2 _ c.1
      have c2 := c.2 _ hx
      omega
    · rintro ⟨f, hf, rfl⟩
      have fN := b1 f hf
      obtain ⟨k, hk, rfl⟩ := List.getElem_of_mem hf
      have hh := hd k hk
      have mem : lbl ps (fs[k] : Int) ∈ tab N (lbl ps) := List.mem_of_getElem? (tab_at (lbl ps) fN)
      obtain ⟨j, hj⟩ := Int.eq_ofNat_of_zero_le (by omega : 0 ≤ lbl ps (fs[k] : Int))
      exact ⟨j, mem_sub4.mpr ⟨by omega, decide_eq_true (by rw [← hj]; exact mem)⟩, hj.symm⟩
  intro x h0 h1
  obtain ⟨i, rfl⟩ := Int.eq_ofNat_of_zero_le h0
  obtain ⟨T, hT, hx⟩ := List.mem_flatten.mp (tr.mem i (by omega))
  obtain ⟨k, hk, rfl⟩ := List.getElem_of_mem hT
  have c := c1 k _ _ (List.getElem?_eq_getElem (by omega : k < fs.length)) (List.getElem?_eq_getElem hk)
  have e1 := c.2 _ c.1
  have e2 := c.2 _ hx
  refine ⟨k, ix_at good.1 (List.getElem?_eq_getElem hk) hx, ?_, fun j hj => ?_⟩
  · rw [eo, List.getElem?_map, List.getElem?_eq_getElem (by omega : k < fs.length)]
    show some (lbl ps (fs[k] : Int)) = some _
    congr 1
    omega
  · rw [eo, List.getElem?_map, List.getElem?_eq_getElem (by omega : j < fs.length)]
    intro z
    have z : lbl ps (fs[j] : Int) = lbl ps (i : Int) := Option.some.inj z
    have := List.pairwise_iff_getElem.mp p1 j k (by omega) (by omega) hj
    have a := hd j (by omega)
    omega
end
end Qk05

namespace Qk05
open PySem L2 PyProof.Rows
section
variable {P : Program} {w : World} {K : PySem.W.Frag} {mg : Str → Option Value} {base : Heap}
theorem least_of (p : Nat → Prop) [DecidablePred p] : ∀ n, (∃ j, 1 ≤ j ∧ j ≤ n ∧ p j) → ∃ L, 1 ≤ L ∧ L ≤ n ∧ p L ∧ ∀ j, 1 ≤ j → j < L → ¬ p j
  | 0, ⟨j, a, b, _⟩ => by omega
  | n + 1, ⟨j, a, b, h⟩ => by
    by_cases z : ∃ j, 1 ≤ j ∧ j ≤ n ∧ p j
    · obtain ⟨L, l1, l2, l3⟩ := least_of p n z
      exact ⟨L, l1, by omega, l3⟩
    · have e : j = n + 1 := by
        rcases Nat.lt_or_ge n j with q | q
        · omega
        · exact absurd ⟨j, a, q, h⟩ z
      subst e
      exact ⟨n + 1, a, Nat.le_refl _, h, fun i hi hl hp => z ⟨i, hi, by omega, hp⟩⟩
theorem tour_ex {m : Int → Int} {N : Nat} (M : Mates m N) {f : Int} (h0 : 0 ≤ f) (h1 : f < (N : Int)) : ∃ T, IsTour m f T := by
  by_cases h : ∃ j, 1 ≤ j ∧ j ≤ N ∧ gt m f j = f
  · obtain ⟨L, l1, _, l2, l3⟩ := least_of (fun j => gt m f j = f) N h
    exact ⟨_, L, l1, l2, l3, rfl⟩
  · have := orb_short M h0 h1 (i := N + 1) fun j a b z => h ⟨j, a, by omega, z⟩
    omega
theorem trs_ex {m : Int → Int} {N : Nat} (M : Mates m N) : ∃ ts, Trs m N ts := by
  have key : ∀ i, i ≤ N → ∃ ts, Trs m i ts := by
    intro i
    induction i with
    | zero => intro _; exact ⟨[], .nil⟩
    | succ i ih =>
      intro hi
      obtain ⟨ts, tr⟩ := ih (by omega)
      by_cases z : (i : Int) ∈ ts.flatten
      · exact ⟨ts, .skip tr z⟩
      · obtain ⟨T, hT⟩ := tour_ex M (f := (i : Int)) (by omega) (by omega)
        exact ⟨_, .add tr z hT⟩
  exact key N (Nat.le_refl _)
theorem ixT_lt {m : Int → Int} {N : Nat} {ts : List (List Int)} (tr : Trs m N ts) {j : Nat} (hj : j < N) : ixT ts (j : Int) < (N : Int) := by
  have hl : ts.length ≤ N := by
    clear hj
    induction tr with
    | nil => exact Nat.le_refl _
    | add _ _ _ ih => rw [List.length_append, List.length_singleton]; omega
    | skip _ _ ih => omega
  unfold ixT
  have : ts.findIdx (fun T => decide ((j : Int) ∈ T)) < ts.length := by
    rw [List.findIdx_lt_length]
    obtain ⟨T, hT, hx⟩ := List.mem_flatten.mp (tr.mem j hj)
    exact ⟨T, hT, decide_eq_true hx⟩
  omega
abbrev s__law_pieces : Stmt := top 21
theorem sc__law_pieces : FnScope ["_law_drawing_here", "_law_rows_here", "_law_found", "_law_t", "_law_letter", "_law_both", "_law_order"] ["_law_drawing_here"] (defScope s__law_pieces) := ⟨rfl, rfl, rfl, by decide +kernel, rfl, by decide +kernel, by decide +kernel⟩
def spLP : Sp := fun vs H Q _ => ∃ (l : Addr) (xs : List V) (ls : List (Str × Int)), vs = [.ref l] ∧ H l = some (.lst xs) ∧ LetsV H xs ls ∧ ls.length ≤ 60 ∧ Wk ls 0 ∧ InB ls ∧
  ∀ (p : Addr) (H' : Hp) (ts : List (List Int)), H p = none → Same H H' → Trs (mOf (eps ls)) (nTh ls) ts → H' p = some (.lst ((tab (nTh ls) (ixT ts)).map V.int)) → Q (.ref p) H'
theorem ok_lp {f : Addr} {fd : FuncData} (F : Fun K "_law_pieces" "_law_pieces" s__law_pieces f fd) (h__law_rows : Has P w K mg base 1 "_law_rows" ["_law_drawing_here"] spRows) (b_enumerate : mg "enumerate" = none) (b_sorted : mg "sorted" = none) (b_set : mg "set" = none) (b_max : mg "max" = none) (b_int : mg "int" = none) (b_range : mg "range" = none) : FnOk P w K mg base CX0 2 f fd ["_law_drawing_here"] spLP := by
  refine F.ok sc__law_pieces (fun vs H Q E h => ?_) (fun cdv A outer s H vs Q E hr h => ?_)
  · obtain ⟨l, xs, ls, rfl, _⟩ := h
    rfl
  · obtain ⟨l, xs, ls, rfl, hl, hL, hlen, hW, hB, k⟩ := h
    have hxl := hL.len
    have n8 := nTh_8 hW hB
    have M := eps_mates hW
    have pm := eps_perm hW
    refine ⟨_, (pss_cons (ps_set (i := 1) sc__law_pieces.nd rfl (Or.inl rfl) (pe_has h__law_rows (hr.mono (by decide)) (pa_cons (pv 0) pa_nil)))
      (pss_cons (ps_lc (i := 2) sc__law_pieces.nd rfl (Or.inl rfl) (Ls := ["_law_thread"]) (Fs := []) (fi := []) (LcScope.of (show lcLook ["_law_drawing_here", "_law_rows_here", "_law_found", "_law_t", "_law_letter", "_law_both", "_law_order"] (defScope s__law_pieces) _ [] [] = true by decide +kernel)) rfl (pi_range1 (by rfl) b_range (pa_cons (pe_callB (call_maxLK (K := K) rfl rfl) (by rfl) b_max boot_max (pa_cons (pe_op op_cat (pe_lst (pa_cons pe_int pa_nil)) (pe_lc (Ls := ["_law_row"]) (Fs := []) (fi := []) (LcScope.of (show lcLook ["_law_drawing_here", "_law_rows_here", "_law_found", "_law_t", "_law_letter", "_law_both", "_law_order"] (defScope s__law_pieces) _ [] [] = true by decide +kernel)) rfl (pi_listK (K := K) rfl (pv 1)) (fun cl C s3 H3 ex => ⟨(pg_name (i := 0) (show ((["_law_row"] : List Str) ++ ([] : List Str)).Nodup by decide +kernel) rfl (Or.inl rfl)), (pts_one (pt_cmpR (op_neNilK (K := K) rfl hr.units) (pv 0) (pe_lst pa_nil) (nomark _))), (pe_op op_add pe_int (pe_callB (call_maxLK (K := K) rfl rfl) (by rfl) b_max boot_max (pa_cons (pv 0) pa_nil)))⟩))) pa_nil)) pa_nil)) (fun cl C s3 H3 ex => ⟨(pg_name (i := 0) (show ((["_law_thread"] : List Str) ++ ([] : List Str)).Nodup by decide +kernel) rfl (Or.inl rfl)), pts_nil, (pe_op op_fdiv (pv 0) pe_int)⟩))
      (pss_cons (ps_for PassesOwn.never rfl (pi_enumK (K := K) rfl (by rfl) b_enumerate (pa_cons (pv 0) pa_nil)) (pg_tupK (K := K) (n := 2) rfl rfl (pgs_cons (pg_name (i := 3) sc__law_pieces.nd rfl (Or.inl rfl)) (pgs_cons (pg_name (i := 4) sc__law_pieces.nd rfl (Or.inl rfl)) pgs_nil))) (pss_one (ps_if (pt_cmpR op_eq (pe_ix (ix_tupK (K := K) rfl) (pv 4) pe_int (fun _ _ => rfl)) pe_str (nomark _)) (pss_cons (ps_set (i := 5) sc__law_pieces.nd rfl (Or.inr rfl) (pe_callB (call_sortedK (K := K) rfl) (by rfl) b_sorted boot_sorted (pa_cons (pe_lst (pa_cons (pe_ix (ix_listK (K := K) rfl) (pv 2) (pe_ix (ix_listK (K := K) rfl) (pe_ix (ix_listK (K := K) rfl) (pv 1) (pv 3) (fun _ _ => rfl)) (pe_ix (ix_tupK (K := K) rfl) (pv 4) pe_int (fun _ _ => rfl)) (fun _ _ => rfl)) (fun _ _ => rfl)) (pa_cons (pe_ix (ix_listK (K := K) rfl) (pv 2) (pe_ix (ix_listK (K := K) rfl) (pe_ix (ix_listK (K := K) rfl) (pv 1) (pv 3) (fun _ _ => rfl)) (pe_op op_add (pe_ix (ix_tupK (K := K) rfl) (pv 4) pe_int (fun _ _ => rfl)) pe_int) (fun _ _ => rfl)) (fun _ _ => rfl)) pa_nil))) pa_nil)))
      (pss_one (ps_lc (i := 2) sc__law_pieces.nd rfl (Or.inl rfl) (Ls := ["_law_one"]) (Fs := ["_law_both"]) (fi := [5]) (LcScope.of (show lcLook ["_law_drawing_here", "_law_rows_here", "_law_found", "_law_t", "_law_letter", "_law_both", "_law_order"] (defScope s__law_pieces) _ ["_law_both"] [5] = true by decide +kernel)) rfl (pi_listK (K := K) rfl (pv 2)) (fun cl C s3 H3 ex => ⟨(pg_name (i := 0) (show ((["_law_one"] : List Str) ++ (["_law_both"] : List Str)).Nodup by decide +kernel) rfl (Or.inl rfl)), pts_nil, (pe_ix (ix_listK (K := K) rfl) (pe_lst (pa_cons (pv 0) (pa_cons (pe_ix (ix_listK (K := K) rfl) (pv 1) pe_int (fun _ _ => rfl)) pa_nil))) (pe_callTy call_int1 (by rfl) b_int boot_int (pa_cons (pe_cmpR op_eq (pv 0) (pe_ix (ix_listK (K := K) rfl) (pv 1) pe_int (fun _ _ => rfl)) (nomark _)) pa_nil)) (fun _ _ => rfl))⟩)))) pss_nil)))
      (pss_cons (ps_set (i := 6) sc__law_pieces.nd rfl (Or.inr rfl) (pe_callB (call_sorted4W (w := w) rfl rfl) (by rfl) b_sorted boot_sorted (pa_cons (pe_callTy (call_set4W (w := w) rfl rfl) (by rfl) b_set PyProof.Rows.boot_set (pa_cons (pv 2) pa_nil)) pa_nil)))
      (pss_one (ps_ret (pe_lc (Ls := ["_law_one"]) (Fs := ["_law_order"]) (fi := [6]) (LcScope.of (show lcLook ["_law_drawing_here", "_law_rows_here", "_law_found", "_law_t", "_law_letter", "_law_both", "_law_order"] (defScope s__law_pieces) _ ["_law_order"] [6] = true by decide +kernel)) rfl (pi_listK (K := K) rfl (pv 2)) (fun cl C s3 H3 ex => ⟨(pg_name (i := 0) (show ((["_law_one"] : List Str) ++ (["_law_order"] : List Str)).Nodup by decide +kernel) rfl (Or.inl rfl)), pts_nil, (pe_bmK (K := K) rfl (pe_bm PySem.F.plainAttrs_list PySem.F.slot_list_index PySem.F.type_list_index (mt_indexK (K := K) rfl) (pv 1) (pa_cons (pv 0) pa_nil)))⟩)))))))), ?_⟩
    refine ⟨_, rfl, l, xs, ls, rfl, hl, hL, hlen, hW, fun R H1 ys fR s1 eR rv ap ndr => ?_⟩
    have hyl : ys.length = ls.length + 1 := by rw [rv.len]; simp [rowsOf]
    -- the greatest thread
    refine ⟨(by show 1 ≤ sizeLine; decide), fun z0 hz0 => ?_⟩
    have hR0 := (Same.laid (o := .lst [.int 0]) hz0) R _ eR
    refine ⟨_, rfl, R, rfl, ⟨_, SqL.of hR0⟩, lc_list (K := K) (a := R) (xs := ys) (Nat.le_of_lt (small1000 (by omega))) (fun i zs G => Same (upd H1 z0 (.lst [.int 0])) G ∧ ∃ ms : List Int, zs = ms.map V.int ∧ ms.length ≤ i ∧ TopIn ls i ms)
      ⟨Same.refl _, [], rfl, Nat.le_refl _, fun v hv => (by cases hv), fun j hj => (by omega)⟩ (fun i zs G ⟨_, ms, e, b, _⟩ => by rw [e, List.length_map]; exact b) (fun i zs G p => SqL.of (p.1 R _ hR0)) (fun i x zs G hx ⟨sm, ms, e, bl, tp⟩ => ?_) (fun zs G ⟨sm, ms, e, bl, tp⟩ D hD => ?_)⟩
    · subst e
      obtain ⟨q, r, hr', rfl, hq⟩ := rv.atX hx
      have hi : i < ls.length + 1 := by rw [← hyl]; exact (List.getElem?_eq_some_iff.mp hx).1
      rw [rowsOf_at ls hi] at hr'
      obtain rfl := Option.some.inj hr'
      have hqG : G q = some (.lst ((rowAt ls i).map V.int)) := sm q _ ((Same.laid hz0) q _ hq)
      refine ⟨_, rfl, (by show 0 ≤ sizeLine; decide), fun n0 hn0 => ?_⟩
      have hqN := (Same.laid (o := .lst []) hn0) q _ hqG
      have sm2 := sm.step (o := .lst []) hn0
      refine ⟨q, n0, _, rfl, rfl, SqL.of hqN, SqL.of upd_same, _, rfl, ?_⟩
      refine ite2 (fun hc => ?_) (fun hc => ?_)
      · have ne : rowAt ls i ≠ [] := fun z => by rw [z] at hc; cases hc
        refine ⟨_, rfl, q, _, rfl, SqL.of hqN, List.length_pos_iff.mpr ne, fun M hm hM => ⟨_, _, rfl, rfl, sm2, ms ++ [1 + M], by simp, by simp; omega, top_some hW tp (by omega) hm hM⟩⟩
      · refine ⟨sm2, ms, rfl, by omega, top_none hW tp (by omega) ?_⟩
        cases e : rowAt ls i with
        | nil => rfl
        | cons a b => rw [e] at hc; exact absurd rfl hc
    · subst e
      have hz0G : G z0 = some (.lst [.int 0]) := sm z0 _ upd_same
      refine ⟨z0, D, [.int 0], ms.map V.int, rfl, rfl, (Same.laid hD) z0 _ hz0G, upd_same, Nat.le_of_lt (small1000 (by simp; omega)), fun p hp => ?_⟩
      refine ⟨p, 0 :: ms, rfl, SqL.of (by rw [upd_same]; rfl), by simp, fun Mx hm hM => ?_⟩
      rw [hyl] at tp
      obtain rfl := top_end hW tp hm hM
      have s2 : Same H1 (upd (upd G D (.lst (ms.map V.int))) p (.lst ([.int 0] ++ ms.map V.int))) := (((Same.laid hz0).trans sm).step hD).step hp
      generalize upd (upd G D (.lst (ms.map V.int))) p (.lst ([.int 0] ++ ms.map V.int)) = H2 at s2
      clear hm hM hp hD tp bl sm hz0G
      refine ⟨_, rfl, by omega, by omega, lc_rng (n := nTh ls) (Nat.le_of_lt (small1000 (by omega))) (fun i zs G => Same H2 G ∧ zs = ((List.range i).map fun (j : Nat) => (j : Int) / 2).map V.int) ⟨Same.refl _, rfl⟩ (fun i zs G p => by rw [p.2]; simp) (fun i zs G hi p => ?_) (fun zs G p D hD => ?_)⟩
      · refine lcG ?_
        refine ⟨_, rfl, _, _, rfl, rfl, ⟨by decide, by decide⟩, p.1, ?_⟩
        rw [p.2, List.range_succ, List.map_append, List.map_append, Int.zero_add]
        rfl
      · obtain ⟨sm, rfl⟩ := p
        have e0 : ((List.range (nTh ls)).map fun (j : Nat) => (j : Int) / 2) = tab (nTh ls) (lbl (epsI ls 0)) := rfl
        rw [e0]
        have s3 : Same H1 (upd G D (.lst ((tab (nTh ls) (lbl (epsI ls 0))).map V.int))) := (s2.trans sm).step hD
        have hl1 := s1 l _ hl
        have hL1 := hL.same s1
        refine ⟨_, rfl, l, rfl, ⟨_, SqL.of (s3 l _ hl1)⟩, for_enm (K := K) (a := l) (xs := xs) (fun i σ H' => ∃ (fA : Addr) (v3 v4 v5 : Option V), σ = [some (.ref l), some (.ref R), some (.ref fA), v3, v4, v5, none] ∧ Same H1 H' ∧ H1 fA = none ∧ H' fA = some (.lst ((tab (nTh ls) (lbl (epsI ls i))).map V.int)))
          ⟨D, none, none, none, rfl, s3, (s2.trans sm).free hD, upd_same⟩ (fun i σ H' _ ⟨_, _, _, _, _, sm, _⟩ => SqL.of (sm l _ hl1)) ?_ ?_⟩
        · rintro i x p σ H' hx ⟨fA, v3, v4, v5, rfl, sm, ff, hf⟩ hp
          obtain ⟨⟨qx, qk⟩, ta, hq, rfl, hta⟩ := hL1.get hx
          obtain ⟨G0, hG0⟩ : ∃ G0, G0 = upd H' p (.tup [.int i, .ref ta]) := ⟨_, rfl⟩
          have sp : Same H' G0 := by rw [hG0]; exact Same.laid hp
          have ep : G0 p = some (.tup [.int i, .ref ta]) := by rw [hG0]; exact upd_same
          have sg0 : Same H1 G0 := sm.trans sp
          have hta' := sg0 ta _ hta
          have hf0 := sp fA _ hf
          have kk : isK ls isE i = isE qx := isK_at hq isE
          rw [← hG0]
          refine ⟨p, _, rfl, SqT.of ep, rfl, _, _, rfl, _, _, rfl, rfl, ?_⟩
          refine ⟨_, rfl, ta, _, _, _, rfl, rfl, SqT.of hta', atI_nat (j := 0) rfl, rfl, _, rfl, ?_⟩
          refine ite2 (fun hc => ?_) (fun hc => ?_)
          · have e : qx = "end" := V.str.inj (of_decide_eq_true hc)
            subst e
            obtain ⟨k0, k1, pe⟩ := nb_at hW hq (fun z => nb2 z)
            obtain ⟨⟨u0, u1⟩, w0, w1⟩ := pr_dom hW hq (fun z => nb2 z)
            obtain ⟨kn, rfl⟩ := Int.eq_ofNat_of_zero_le (show 0 ≤ qk from k0)
            simp only [Int.toNat_natCast] at k1 pe
            have hi : i < ls.length := (List.getElem?_eq_some_iff.mp hq).1
            obtain ⟨ra, hra, hrr⟩ := rv.at (rowsOf_at ls (i := i) (n := ls.length + 1) (by omega))
            have ei : isK ls isE i = true := by rw [kk]; unfold isE; simp
            have es : epsI ls (i + 1) = epsI ls i ++ [prAt ls i] := by rw [epsI_succ, if_pos ei]
            have eu : (prAt ls i).1 = (rowAt ls i).getD kn 0 := by rw [pe]
            have ew : (prAt ls i).2 = (rowAt ls i).getD (kn + 1) 0 := by rw [pe]
            generalize hu : (prAt ls i).1 = u at u0 u1 eu
            generalize hw : (prAt ls i).2 = w' at w0 w1 ew
            have au : atI ((rowAt ls i).map V.int) (kn : Int) = some (.int u) := atI_nat (by rw [List.getElem?_map, List.getElem?_eq_getElem (by omega), eu]; simp [show kn < (rowAt ls i).length by omega])
            have aw : atI ((rowAt ls i).map V.int) ((kn : Int) + 1) = some (.int w') := by
              rw [show (kn : Int) + 1 = ((kn + 1 : Nat) : Int) by omega]
              exact atI_nat (by rw [List.getElem?_map, List.getElem?_eq_getElem k1, ew]; simp [k1])
            have hRG := sg0 R _ eR
            have hraG := sg0 ra _ hrr
            refine ⟨_, rfl, _, rfl, _, rfl, R, _, _, _, rfl, rfl, SqL.of hRG, atI_nat hra, _, rfl, ta, _, _, _, rfl, rfl, SqT.of hta', atI_nat (j := 1) rfl, ra, _, _, _, rfl, rfl, SqL.of hraG, au, fA, _, _, _, rfl, rfl, SqL.of hf0, tab_ati _ u0 u1, ?_⟩
            refine ⟨_, rfl, _, rfl, _, rfl, R, _, _, _, rfl, rfl, SqL.of hRG, atI_nat hra, _, rfl, ta, _, _, _, rfl, rfl, SqT.of hta', atI_nat (j := 1) rfl, _, _, rfl, rfl, ra, _, _, _, rfl, rfl, SqL.of hraG, aw, fA, _, _, _, rfl, rfl, SqL.of hf0, tab_ati _ w0 w1, (by show 2 ≤ sizeLine; decide), fun qA hqA => ?_⟩
            refine ⟨qA, [lbl (epsI ls i) u, lbl (epsI ls i) w'], rfl, SqL.of upd_same, (by show 2 < 64; decide), fun bA ns' hbA perm pw => ?_⟩
            have en : ns' = [min (lbl (epsI ls i) u) (lbl (epsI ls i) w'), max (lbl (epsI ls i) u) (lbl (epsI ls i) w')] := by
              have h1 := Int.max_def (lbl (epsI ls i) u) (lbl (epsI ls i) w')
              have h2 := Int.min_def (lbl (epsI ls i) u) (lbl (epsI ls i) w')
              refine sorted_one (perm.trans ?_) pw ?_
              · by_cases z : lbl (epsI ls i) u ≤ lbl (epsI ls i) w'
                · rw [h1, h2, if_pos z, if_pos z]
                · rw [h1, h2, if_neg z, if_neg z]
                  exact List.Perm.swap _ _ _
              · refine List.pairwise_cons.mpr ⟨fun a ha => ?_, List.pairwise_singleton _ _⟩
                rw [List.mem_singleton.mp ha]
                omega
            subst en
            obtain ⟨mn, hmn⟩ : ∃ mn, mn = min (lbl (epsI ls i) u) (lbl (epsI ls i) w') := ⟨_, rfl⟩
            obtain ⟨mx, hmx⟩ : ∃ mx, mx = max (lbl (epsI ls i) u) (lbl (epsI ls i) w') := ⟨_, rfl⟩
            have ej : jn (lbl (epsI ls i)) (prAt ls i) = fun x => if lbl (epsI ls i) x = mx then mn else lbl (epsI ls i) x := by
              unfold jn
              rw [hu, hw, ← hmn, ← hmx]
            rw [← hmn, ← hmx] at *
            obtain ⟨G1, hG1⟩ : ∃ G1, G1 = upd (upd G0 qA (.lst ([lbl (epsI ls i) u, lbl (epsI ls i) w'].map V.int))) bA (.lst ([mn, mx].map V.int)) := ⟨_, rfl⟩
            have s01 : Same G0 G1 := by rw [hG1]; exact (Same.laid hqA).step hbA
            have hb1 : G1 bA = some (.lst [.int mn, .int mx]) := by rw [hG1, upd_same]; rfl
            have hf1 := s01 fA _ hf0
            show gName 5 (.ref bA) _ (upd (upd G0 qA (.lst ([lbl (epsI ls i) u, lbl (epsI ls i) w'].map V.int))) bA (.lst ([mn, mx].map V.int))) _
            rw [← hG1]
            refine ⟨_, rfl, fA, rfl, ⟨_, SqL.of hf1⟩, lc_list (K := K) (a := fA) (xs := (tab (nTh ls) (lbl (epsI ls i))).map V.int) (by rw [List.length_map, tab_len]; exact Nat.le_of_lt (small1000 (by omega))) (fun j zs G => Same G1 G ∧ zs = (((tab (nTh ls) (lbl (epsI ls i))).take j).map fun v => if v = mx then mn else v).map V.int)
              ⟨Same.refl _, rfl⟩ (fun j zs G p => by rw [p.2]; simp; omega) (fun j zs G p => SqL.of (p.1 fA _ hf1)) (fun j x zs G hx p => ?_) (fun zs G p D hD => ?_)⟩
            · refine lcG ?_
              obtain ⟨v, hv, rfl⟩ := map_int_at hx
              have hbG := p.1 bA _ hb1
              refine ⟨_, rfl, _, rfl, bA, _, _, _, rfl, rfl, SqL.of hbG, atI_nat (j := 0) rfl, (by show 2 ≤ sizeLine; decide), fun q2 hq2 => ?_⟩
              have hbG2 := (Same.laid (o := .lst [V.int v, V.int mn]) hq2) bA _ hbG
              refine ⟨_, rfl, _, rfl, bA, _, _, _, rfl, rfl, SqL.of hbG2, atI_nat (j := 1) rfl, rfl, .inr ⟨_, rfl, ?_⟩⟩
              have fin : ∀ y : Int, y = (if v = mx then mn else v) → Same G1 (upd G q2 (.lst [V.int v, V.int mn])) ∧ zs ++ [V.int y] = (((tab (nTh ls) (lbl (epsI ls i))).take (j + 1)).map fun v => if v = mx then mn else v).map V.int := fun y ey => ⟨p.1.step hq2, by
                rw [p.2, List.take_add_one, hv, ey]
                simp⟩
              by_cases z : v = mx
              · refine ⟨q2, _, _, V.int mn, rfl, rfl, SqL.of upd_same, ?_, fin mn (by rw [if_pos z])⟩
                rw [if_pos (decide_eq_true (by rw [z]))]
                exact atI_nat (j := 1) rfl
              · refine ⟨q2, _, _, V.int v, rfl, rfl, SqL.of upd_same, ?_, fin v (by rw [if_neg z])⟩
                rw [if_neg (fun h => z (V.int.inj (of_decide_eq_true h)))]
                exact atI_nat (j := 0) rfl
            · have hD' : H1 D = none := (sg0.trans (s01.trans p.1)).free hD
              refine ⟨D, _, _, _, rfl, (sg0.trans (s01.trans p.1)).step hD, hD', ?_⟩
              rw [upd_same, p.2, es, lbl_snoc, ej, List.length_map, List.take_of_length_le (Nat.le_refl _), tab_map]
          · refine ⟨fA, _, _, _, rfl, sg0, ff, ?_⟩
            rw [epsI_succ, kk]
            have : isE qx = false := by
              unfold isE
              exact decide_eq_false fun z => hc (decide_eq_true (by rw [z]))
            rw [this]
            simpa using hf0
        · rintro σ H' ⟨fA, v3, v4, v5, rfl, sm, ff, hf⟩
          obtain ⟨ts, tr⟩ := trs_ex M
          rw [show epsI ls xs.length = eps ls from by rw [hxl]; rfl] at hf
          have dom : ∀ n ∈ tab (nTh ls) (lbl (eps ls)), 0 ≤ n ∧ n < 4 := fun n hn => by
            obtain ⟨i, hi, rfl⟩ := List.getElem_of_mem hn
            rw [tab_len] at hi
            have e : (tab (nTh ls) (lbl (eps ls)))[i]'(by rw [tab_len]; exact hi) = lbl (eps ls) (i : Int) := by
              have := tab_at (lbl (eps ls)) hi
              rw [List.getElem?_eq_getElem (by rw [tab_len]; exact hi)] at this
              exact Option.some.inj this
            rw [e]
            have := lbl_dom pm M tr (x := (i : Int)) (by omega) (by omega)
            omega
          have oa := ord_at n8 pm M tr
          refine ⟨_, rfl, fA, tab (nTh ls) (lbl (eps ls)), rfl, hf, dom, fun sA hsA => ?_⟩
          refine ⟨sA, _, rfl, upd_same, fun oA hoA => ?_⟩
          generalize (sub4 fun j => decide ((j : Int) ∈ tab (nTh ls) (lbl (eps ls)))) = ks at oa hoA
          obtain ⟨G2, hG2⟩ : ∃ G2, G2 = upd (upd H' sA (SetO w sA ks)) oA (.lst (ks.map fun (k : Nat) => V.int (k : Int))) := ⟨_, rfl⟩
          have s12 : Same H' G2 := by rw [hG2]; exact (Same.laid hsA).step hoA
          have ho2 : G2 oA = some (.lst ((ks.map fun (k : Nat) => (k : Int)).map V.int)) := by rw [hG2, upd_same, List.map_map]; rfl
          have hf2 := s12 fA _ hf
          show gName 6 (.ref oA) _ (upd (upd H' sA (SetO w sA ks)) oA (.lst (ks.map fun (k : Nat) => V.int (k : Int)))) _
          rw [← hG2]
          refine ⟨_, rfl, fA, rfl, ⟨_, SqL.of hf2⟩, lc_list (K := K) (a := fA) (xs := (tab (nTh ls) (lbl (eps ls))).map V.int) (by rw [List.length_map, tab_len]; exact Nat.le_of_lt (small1000 (by omega))) (fun j zs G => Same G2 G ∧ zs = ((tab (nTh ls) (ixT ts)).take j).map V.int)
            ⟨Same.refl _, rfl⟩ (fun j zs G p => by rw [p.2]; simp; omega) (fun j zs G p => SqL.of (p.1 fA _ hf2)) (fun j x zs G hx p => ?_) (fun zs G p D hD => ?_)⟩
          · refine lcG ?_
            obtain ⟨v, hv, rfl⟩ := map_int_at hx
            have hj : j < nTh ls := by have := (List.getElem?_eq_some_iff.mp hv).1; rwa [tab_len] at this
            rw [tab_at _ hj] at hv
            obtain rfl := Option.some.inj hv
            obtain ⟨k', e1, e2, e3⟩ := oa (j : Int) (by omega) (by omega)
            have hoG := p.1 oA _ ho2
            have k1 : k' < 1000 := by
              have := ixT_lt tr hj
              omega
            refine ⟨_, rfl, .inl ⟨rfl, _, SqL.of hoG⟩, _, rfl, oA, _, _, k', rfl, rfl, SqL.of hoG, rfl, flat_ints _, k1, ⟨V.int (lbl (eps ls) (j : Int)), by rw [List.getElem?_map, e2]; rfl, decide_eq_true rfl⟩, fun i z hi hz => ?_, p.1, ?_⟩
            · obtain ⟨y, hy, rfl⟩ := map_int_at hz
              exact decide_eq_false fun z => e3 i hi (by rw [hy, z])
            · rw [p.2, List.take_add_one, tab_at _ hj, ← e1]
              simp
          · refine k D _ ts ((s1.trans (sm.trans (s12.trans p.1))).free hD) ((s1.trans (sm.trans (s12.trans p.1))).step hD) tr ?_
            rw [upd_same, p.2, List.length_map, tab_len, List.take_of_length_le (by rw [tab_len]; exact Nat.le_refl _)]
end
end Qk05

namespace Qk05
open PySem L2 PyProof.Rows
section
variable {P : Program} {w : World} {K : PySem.W.Frag} {mg : Str → Option Value} {base : Heap}
def spRight : Sp := fun vs H Q _ => ∃ (l : Addr) (ls : List (Str × Int)), vs = [.ref l] ∧ Drw H l ls ∧ InB ls ∧ ∀ H', Same H H' → Q (.bl true) H'
abbrev s__law_right : Stmt := top 22
theorem sc__law_right : FnScope ["_law_drawing_here", "_law_due", "_law_handed", "_law_turn", "_law_told"] ["_law_drawing_here"] (defScope s__law_right) := ⟨rfl, rfl, rfl, by decide +kernel, rfl, by decide +kernel, by decide +kernel⟩
theorem ok_right {f : Addr} {fd : FuncData} (F : Fun K "_law_right" "_law_right" s__law_right f fd) (h__law_pieces : Has P w K mg base 2 "_law_pieces" ["_law_drawing_here"] spLP) (h_pieces : Has P w K mg base 6 "pieces" ["drawing"] spPieces) (h__law_numbers : Has P w K mg base 2 "_law_numbers" ["_law_thing"] spNumbers)
    (b_range : mg "range" = none) (b_list : mg "list" = none) : FnOk P w K mg base CX0 7 f fd ["_law_drawing_here"] spRight := by
  refine F.ok sc__law_right (fun vs H Q E h => ?_) (fun cdv A outer s H vs Q E hr h => ?_)
  · obtain ⟨l, ls, rfl, _⟩ := h
    rfl
  · obtain ⟨l, ls, rfl, ⟨xs, hl, hL, hW, hlen⟩, hB, k⟩ := h
    have n8 := nTh_8 hW hB
    refine ⟨_, (pss_cons (ps_set (i := 1) sc__law_right.nd rfl (Or.inl rfl) (pe_has h__law_pieces (hr.mono (by decide)) (pa_cons (pv 0) pa_nil)))
      (pss_cons (ps_set (i := 2) sc__law_right.nd rfl (Or.inl rfl) (pe_callTy (call_listK (K := K) rfl) (by rfl) b_list boot_list (pa_cons (pv 0) pa_nil)))
      (pss_cons (ps_for PassesOwn.never rfl (pi_range1 (by rfl) b_range (pa_cons pe_int pa_nil)) (pg_name (i := 3) sc__law_right.nd rfl (Or.inl rfl)) (pss_cons (ps_set (i := 4) sc__law_right.nd rfl (Or.inl rfl) (pe_has h_pieces (hr.mono (by decide)) (pa_cons (pv 2) pa_nil)))
      (pss_cons (ps_if (PW.pt (pw_or (pt_cmpR (op_nevK (K := K) rfl hr.units) (pv 4) (pv 1) (nomark _)) (pw_or (pt_not (pt_val (pe_has h__law_numbers (hr.mono (by decide)) (pa_cons (pv 4) pa_nil)))) (pw_or1 (pt_cmpR (op_nevK (K := K) rfl hr.units) (pv 2) (pv 0) (nomark _)))))) (pss_one (ps_ret pe_bl)) pss_nil)
      (pss_cons (ps_expr (pe_bmK (K := K) rfl (pe_bm PySem.F.plainAttrs_list PySem.F.slot_list_append PySem.F.type_list_append mt_append (pv 4) (pa_cons pe_int pa_nil))))
      (pss_one (ps_expr (pe_bm0K (K := K) rfl (pe_bm0 PySem.F.plainAttrs_list PySem.F.slot_list_reverse PySem.F.type_list_reverse mt_reverse (pv 4)))))))))
      (pss_one (ps_ret pe_bl))))), ?_⟩
    refine ⟨_, rfl, l, xs, ls, rfl, hl, hL, hlen, hW, hB, fun du H1 ts fd s1 tr ed => ?_⟩
    refine ⟨_, rfl, l, _, rfl, .inl (SqL.of (s1 l _ hl)), fun hA hhA => ?_⟩
    obtain ⟨Hb, hHb⟩ : ∃ Hb, Hb = upd H1 hA (.lst xs) := ⟨_, rfl⟩
    rw [← hHb]
    have s1b : Same H1 Hb := by rw [hHb]; exact Same.laid hhA
    have smb : Same H Hb := s1.trans s1b
    have hb_h : Hb hA = some (.lst xs) := by rw [hHb]; exact upd_same
    have hb_l := smb l _ hl
    have hb_L : LetsV Hb xs ls := hL.same smb
    have d_b := s1b du _ ed
    have same_xs : ∀ (H2 : Hp) (i : Nat) (x y : V), xs[i]? = some x → xs[i]? = some y → Eqv K H2 60 x y := fun H2 i x y e1 e2 => by
      obtain ⟨q, t, hq, rfl, ht⟩ := hb_L.get e1
      rw [e1] at e2
      cases e2
      exact .same
    have same_fl : ∀ (H2 : Hp) (zs : List V), zs.all flatV = true → ∀ (i : Nat) (x y : V), zs[i]? = some x → zs[i]? = some y → Eqv K H2 60 x y := fun H2 zs hz i x y e1 e2 => by
      rw [e1] at e2
      cases e2
      exact .flat (List.all_eq_true.mp hz x (List.mem_of_getElem? e1))
    refine ⟨2, rfl, by decide, by decide, for_range (n := 2) (fun i σ G => ∃ (v3 v4 : Option V), σ = [some (.ref l), some (.ref du), some (.ref hA), v3, v4] ∧ Same Hb G) ⟨_, _, rfl, Same.refl _⟩ ?_ ?_⟩
    · rintro i σ G0 hi ⟨v3, v4, rfl, sg⟩
      refine ⟨_, rfl, hA, xs, ls, rfl, sg hA _ hb_h, hb_L.same sg, hlen, hW, fun tA G1 ts1 ft st tr1 et => ?_⟩
      have sg1 := sg.trans st
      have e1 := tr.uniq tr1
      subst e1
      have fl1 := flat_ints (tab (nTh ls) (ixT ts))
      have tnl : (tab (nTh ls) (ixT ts)).length ≤ 900 := by rw [tab_len]; omega
      refine ⟨_, rfl, _, rfl, tA, du, _, _, rfl, rfl, SqL.of et, SqL.of (sg1 du _ d_b), rfl, same_fl G1 _ fl1, _, rfl, iteF ?_⟩
      refine ⟨_, rfl, tA, _, rfl, et, tnl, fun G3 s3 => ⟨_, rfl, iteF ?_⟩⟩
      have sg3 := sg1.trans s3
      refine ⟨_, rfl, _, rfl, hA, l, _, _, rfl, rfl, SqL.of (sg3 hA _ hb_h), SqL.of (sg3 l _ hb_l), rfl, fun j x y ex ey => same_xs G3 j x y ex ey, _, rfl, iteF ?_⟩
      have et3 := s3 tA _ et
      have htb : Hb tA = none := sg.free ft
      refine ⟨_, rfl, .inl ⟨rfl, _, SqL.of et3⟩, tA, _, _, rfl, rfl, et3, (by rw [List.length_map, tab_len]; exact small1000 (by omega)), ?_⟩
      refine ⟨_, rfl, .inl ⟨rfl, _, SqL.of upd_same⟩, tA, _, rfl, rfl, upd_same, ?_⟩
      exact ⟨_, _, rfl, (sg3.put htb).put htb⟩
    · rintro σ G0 ⟨v3, v4, rfl, sg⟩
      exact k G0 (smb.trans sg)
def spLaw (K : PySem.W.Frag) : Sp := fun vs H Q _ => ∃ (a : Addr) (ns : List Int), vs = [.ref a] ∧ SqL K H a (ns.map V.int) ∧ ns.length ≤ 63 ∧ ∀ H', Q (.bl true) H'
abbrev s_law : Stmt := top 23
theorem sc_law : FnScope ["_law_script", "_law_at"] ["_law_script"] (defScope s_law) := ⟨rfl, rfl, rfl, by decide +kernel, rfl, by decide +kernel, by decide +kernel⟩
theorem ok_law {f : Addr} {fd : FuncData} (F : Fun K "law" "law" s_law f fd) (h__law_bag : Has P w K mg base 1 "_law_bag" ["_law_script", "_law_at"] (spBag K)) (h__law_any : Has P w K mg base 3 "_law_any" ["_law_bag_here", "_law_most"] spAny) (h__law_right : Has P w K mg base 7 "_law_right" ["_law_drawing_here"] spRight)
    (b_range : mg "range" = none) (b_len : mg "len" = none) (b_max : mg "max" = none) (b_min : mg "min" = none) : FnOk P w K mg base CX0 8 f fd ["_law_script"] (spLaw K) := by
  refine F.ok sc_law (fun vs H Q E h => ?_) (fun cdv A outer s H vs Q E hr h => ?_)
  · obtain ⟨a, ns, rfl, _⟩ := h
    rfl
  · obtain ⟨a, ns, rfl, hS, hlen, k⟩ := h
    refine ⟨_, (pss_cons (ps_for PassesOwn.never rfl (pi_range1 (by rfl) b_range (pa_cons (pe_callB (call_max2 rfl) (by rfl) b_max boot_max (pa_cons pe_int (pa_cons (pe_callB (call_min2 rfl) (by rfl) b_min boot_min (pa_cons (pe_callB (call_lenK (K := K) rfl) (by rfl) b_len PySem.boot_len (pa_cons (pv 0) pa_nil)) (pa_cons pe_int pa_nil))) pa_nil))) pa_nil)) (pg_name (i := 1) sc_law.nd rfl (Or.inl rfl)) (pss_one (ps_if (pt_not (pt_val (pe_has h__law_right (hr.mono (by decide)) (pa_cons (pe_has h__law_any (hr.mono (by decide)) (pa_cons (pe_has h__law_bag (hr.mono (by decide)) (pa_cons (pv 0) (pa_cons (pv 1) pa_nil))) (pa_cons pe_int pa_nil))) pa_nil)))) (pss_one (ps_ret pe_bl)) pss_nil)))
      (pss_one (ps_ret (pe_has h__law_right (hr.mono (by decide)) (pa_cons (pe_lst pa_nil) pa_nil))))), ?_⟩
    refine ⟨_, rfl, a, _, rfl, .inl hS, _, _, rfl, _, _, rfl, _, rfl, ?_, ?_, for_range (fun i σ H' => ∃ v1 : Option V, σ = [some (.ref a), v1] ∧ Same H H') ⟨none, rfl, Same.refl _⟩ ?_ ?_⟩
    · split <;> (try split) <;> omega
    · rw [List.length_map]
      split <;> (try split) <;> omega
    · rintro i σ H0 hi ⟨v1, rfl, sm⟩
      have hi' : i < 1000 := by
        rw [List.length_map] at hi
        revert hi
        split <;> (try split) <;> omega
      refine ⟨_, rfl, _, rfl, a, _, ns, rfl, sm.seq hS, by omega, by omega, fun b H1 hb s1 bg1 => ?_⟩
      refine ⟨b, 12, rfl, bg1, by decide, by decide, fun l H2 ls hl bg2 f2 dr ib _ => ?_⟩
      refine ⟨l, ls, rfl, dr, ib, fun H3 s3 => ⟨true, rfl, iteF ?_⟩⟩
      exact ⟨_, rfl, fun c o e => s3 c o (f2 c o (s1 c o (sm c o e)) (ne_of_none (sm c o e) hb))⟩
    · rintro σ H0 ⟨v1, rfl, sm⟩
      refine ⟨(by show 0 ≤ sizeLine; decide), fun l hl => ?_⟩
      exact ⟨l, [], rfl, ⟨[], upd_same, .nil, .nil, by decide⟩, gd_in gd_nil (by decide) (by decide), fun H3 _ => k H3⟩
end
/-! ### what the top has written -/
theorem has_mk {P : Program} {w : World} {K : PySem.W.Frag} {mg : Str → Option Value} {base : Heap} {k : Nat} {x : Str} {ps : List Str} {sp : Sp} {f : Addr} {fd : FuncData} (G : FnOk P w K mg base CX0 k f fd ps sp) (m : mg x = some (.ref f)) (kp : PySem.W.keepIn K (.ref f) = true) (b : Binds K fd ps []) : Has P w K mg base k x ps sp := ⟨f, fd, G, m, kp, b⟩
section
end
end Qk05

namespace Qk05
open PySem L2 PyProof.Rows
section
variable {P : Program} {w : World} {K : PySem.W.Frag} {mg : Str → Option Value} {base : Heap}
theorem all_mk {l : PySem.W.OpenLaw} {w : World} {K : PySem.W.Frag} {h : Heap} {mg : Str → Option Value} {fa : Addr} (X : K.In h) (G : h.Ns mainGlobals mg) (hfa : mg "law" = some (.ref fa))
    {f0 f1 f2 f3 f4 f5 f6 f7 f8 f9 f10 f11 f12 f13 f14 f15 f16 f17 f18 f19 f20 : Addr} {d0 d1 d2 d3 d4 d5 d6 d7 d8 d9 d10 d11 d12 d13 d14 d15 d16 d17 d18 d19 d20 : FuncData}
    (a0 : PySem.W.nsIn K mainGlobals "letters_of" = some (some (.ref f0))) (l0 : Fun K "letters_of" "letters_of" s_letters_of f0 d0)
    (a1 : PySem.W.nsIn K mainGlobals "ends_of" = some (some (.ref f1))) (l1 : Fun K "ends_of" "ends_of" s_ends_of f1 d1)
    (a2 : PySem.W.nsIn K mainGlobals "threads" = some (some (.ref f2))) (l2 : Fun K "threads" "threads" s_threads f2 d2)
    (a3 : PySem.W.nsIn K mainGlobals "pairs_ahead" = some (some (.ref f3))) (l3 : Fun K "pairs_ahead" "pairs_ahead" s_pairs_ahead f3 d3)
    (a4 : PySem.W.nsIn K mainGlobals "end_pairs" = some (some (.ref f4))) (l4 : Fun K "end_pairs" "end_pairs" s_end_pairs f4 d4)
    (a5 : PySem.W.nsIn K mainGlobals "born_with" = some (some (.ref f5))) (l5 : Fun K "born_with" "born_with" s_born_with f5 d5)
    (a6 : PySem.W.nsIn K mainGlobals "end_mates" = some (some (.ref f6))) (l6 : Fun K "end_mates" "end_mates" s_end_mates f6 d6)
    (a7 : PySem.W.nsIn K mainGlobals "tour_from" = some (some (.ref f7))) (l7 : Fun K "tour_from" "tour_from" s_tour_from f7 d7)
    (a8 : PySem.W.nsIn K mainGlobals "tours" = some (some (.ref f8))) (l8 : Fun K "tours" "tours" s_tours f8 d8)
    (a9 : PySem.W.nsIn K mainGlobals "pieces" = some (some (.ref f9))) (l9 : Fun K "pieces" "pieces" s_pieces f9 d9)
    (a10 : PySem.W.nsIn K mainGlobals "_law_bag" = some (some (.ref f10))) (l10 : Fun K "_law_bag" "_law_bag" s__law_bag f10 d10)
    (a11 : PySem.W.nsIn K mainGlobals "_law_take" = some (some (.ref f11))) (l11 : Fun K "_law_take" "_law_take" s__law_take f11 d11)
    (a12 : PySem.W.nsIn K mainGlobals "_law_drawing" = some (some (.ref f12))) (l12 : Fun K "_law_drawing" "_law_drawing" s__law_drawing f12 d12)
    (a13 : PySem.W.nsIn K mainGlobals "_law_plat" = some (some (.ref f13))) (l13 : Fun K "_law_plat" "_law_plat" s__law_plat f13 d13)
    (a14 : PySem.W.nsIn K mainGlobals "_law_any" = some (some (.ref f14))) (l14 : Fun K "_law_any" "_law_any" s__law_any f14 d14)
    (a15 : PySem.W.nsIn K mainGlobals "_law_rows" = some (some (.ref f15))) (l15 : Fun K "_law_rows" "_law_rows" s__law_rows f15 d15)
    (a16 : PySem.W.nsIn K mainGlobals "_law_whole" = some (some (.ref f16))) (l16 : Fun K "_law_whole" "_law_whole" s__law_whole f16 d16)
    (a17 : PySem.W.nsIn K mainGlobals "_law_numbers" = some (some (.ref f17))) (l17 : Fun K "_law_numbers" "_law_numbers" s__law_numbers f17 d17)
    (a18 : PySem.W.nsIn K mainGlobals "_law_pieces" = some (some (.ref f18))) (l18 : Fun K "_law_pieces" "_law_pieces" s__law_pieces f18 d18)
    (a19 : PySem.W.nsIn K mainGlobals "_law_right" = some (some (.ref f19))) (l19 : Fun K "_law_right" "_law_right" s__law_right f19 d19)
    (a20 : PySem.W.nsIn K mainGlobals "law" = some (some (.ref f20))) (l20 : Fun K "law" "law" s_law f20 d20)
    (z_enumerate : PySem.W.nsIn K mainGlobals "enumerate" = some none)
    (z_list : PySem.W.nsIn K mainGlobals "list" = some none)
    (z_len : PySem.W.nsIn K mainGlobals "len" = some none)
    (z_range : PySem.W.nsIn K mainGlobals "range" = some none)
    (z_abs : PySem.W.nsIn K mainGlobals "abs" = some none)
    (z_isinstance : PySem.W.nsIn K mainGlobals "isinstance" = some none)
    (z_int : PySem.W.nsIn K mainGlobals "int" = some none)
    (z_bool : PySem.W.nsIn K mainGlobals "bool" = some none)
    (z_all : PySem.W.nsIn K mainGlobals "all" = some none)
    (z_sorted : PySem.W.nsIn K mainGlobals "sorted" = some none)
    (z_set : PySem.W.nsIn K mainGlobals "set" = some none)
    (z_max : PySem.W.nsIn K mainGlobals "max" = some none)
    (z_min : PySem.W.nsIn K mainGlobals "min" = some none) :
    ∃ fd : FuncData, (∀ (s : Shared) (v : Value), BindsTo s fd ⟨[v], []⟩ [("_law_script", v)]) ∧ ∀ base : Heap, K.In base → base.Ns mainGlobals mg → FnOk l.prog w K mg base CX0 8 fa fd ["_law_script"] (spLaw K) := by
  have e := hfa.symm.trans (PySem.W.mg_of X G a20)
  cases e
  have b_enumerate : mg "enumerate" = none := PySem.W.mg_none_of X G z_enumerate
  have b_list : mg "list" = none := PySem.W.mg_none_of X G z_list
  have b_len : mg "len" = none := PySem.W.mg_none_of X G z_len
  have b_range : mg "range" = none := PySem.W.mg_none_of X G z_range
  have b_abs : mg "abs" = none := PySem.W.mg_none_of X G z_abs
  have b_isinstance : mg "isinstance" = none := PySem.W.mg_none_of X G z_isinstance
  have b_int : mg "int" = none := PySem.W.mg_none_of X G z_int
  have b_bool : mg "bool" = none := PySem.W.mg_none_of X G z_bool
  have b_all : mg "all" = none := PySem.W.mg_none_of X G z_all
  have b_sorted : mg "sorted" = none := PySem.W.mg_none_of X G z_sorted
  have b_set : mg "set" = none := PySem.W.mg_none_of X G z_set
  have b_max : mg "max" = none := PySem.W.mg_none_of X G z_max
  have b_min : mg "min" = none := PySem.W.mg_none_of X G z_min
  have F_letters_of := l0
  have B_letters_of := F_letters_of.binds (ps := ["drawing", "kind"]) fun _ _ _ _ _ _ us hl => match us, hl with | [_, _], _ => rfl
  have F_ends_of := l1
  have B_ends_of := F_ends_of.binds (ps := ["drawing"]) fun _ _ _ _ _ _ us hl => match us, hl with | [_], _ => rfl
  have F_threads := l2
  have B_threads := F_threads.binds (ps := ["drawing"]) fun _ _ _ _ _ _ us hl => match us, hl with | [_], _ => rfl
  have F_pairs_ahead := l3
  have B_pairs_ahead := F_pairs_ahead.binds (ps := ["drawing", "numbers"]) fun _ _ _ _ _ _ us hl => match us, hl with | [_, _], _ => rfl
  have F_end_pairs := l4
  have B_end_pairs := F_end_pairs.binds (ps := ["drawing"]) fun _ _ _ _ _ _ us hl => match us, hl with | [_], _ => rfl
  have F_born_with := l5
  have B_born_with := F_born_with.binds (ps := ["thread"]) fun _ _ _ _ _ _ us hl => match us, hl with | [_], _ => rfl
  have F_end_mates := l6
  have B_end_mates := F_end_mates.binds (ps := ["drawing"]) fun _ _ _ _ _ _ us hl => match us, hl with | [_], _ => rfl
  have F_tour_from := l7
  have B_tour_from := F_tour_from.binds (ps := ["first", "mates"]) fun _ _ _ _ _ _ us hl => match us, hl with | [_, _], _ => rfl
  have F_tours := l8
  have B_tours := F_tours.binds (ps := ["drawing"]) fun _ _ _ _ _ _ us hl => match us, hl with | [_], _ => rfl
  have F_pieces := l9
  have B_pieces := F_pieces.binds (ps := ["drawing"]) fun _ _ _ _ _ _ us hl => match us, hl with | [_], _ => rfl
  have F__law_bag := l10
  have B__law_bag := F__law_bag.binds (ps := ["_law_script", "_law_at"]) fun _ _ _ _ _ _ us hl => match us, hl with | [_, _], _ => rfl
  have F__law_take := l11
  have B__law_take := F__law_take.binds (ps := ["_law_bag_here", "_law_many"]) fun _ _ _ _ _ _ us hl => match us, hl with | [_, _], _ => rfl
  have F__law_drawing := l12
  have B__law_drawing := F__law_drawing.binds (ps := ["_law_bag_here", "_law_births", "_law_most"]) fun _ _ _ _ _ _ us hl => match us, hl with | [_, _, _], _ => rfl
  have F__law_plat := l13
  have B__law_plat := F__law_plat.binds (ps := ["_law_bag_here", "_law_most"]) fun _ _ _ _ _ _ us hl => match us, hl with | [_, _], _ => rfl
  have F__law_any := l14
  have B__law_any := F__law_any.binds (ps := ["_law_bag_here", "_law_most"]) fun _ _ _ _ _ _ us hl => match us, hl with | [_, _], _ => rfl
  have F__law_rows := l15
  have B__law_rows := F__law_rows.binds (ps := ["_law_drawing_here"]) fun _ _ _ _ _ _ us hl => match us, hl with | [_], _ => rfl
  have F__law_whole := l16
  have B__law_whole := F__law_whole.binds (ps := ["_law_thing"]) fun _ _ _ _ _ _ us hl => match us, hl with | [_], _ => rfl
  have F__law_numbers := l17
  have B__law_numbers := F__law_numbers.binds (ps := ["_law_thing"]) fun _ _ _ _ _ _ us hl => match us, hl with | [_], _ => rfl
  have F__law_pieces := l18
  have B__law_pieces := F__law_pieces.binds (ps := ["_law_drawing_here"]) fun _ _ _ _ _ _ us hl => match us, hl with | [_], _ => rfl
  have F__law_right := l19
  have B__law_right := F__law_right.binds (ps := ["_law_drawing_here"]) fun _ _ _ _ _ _ us hl => match us, hl with | [_], _ => rfl
  have F_law := l20
  have B_law := F_law.binds (ps := ["_law_script"]) fun _ _ _ _ _ _ us hl => match us, hl with | [_], _ => rfl
  obtain ⟨oc, od, kV, dc, pm, an, cd, ct, sl, rfl, _, _⟩ := l20.ex
  refine ⟨PySem.W.fnOf "law" "law" (defArgs s_law) (defBody s_law) (defScope s_law) .none kV dc pm an cd ct, fun s v => .of_eq rfl, fun base _ _ => ?_⟩
  have h_letters_of : Has l.prog w K mg base 1 "letters_of" ["drawing", "kind"] spLetters := has_mk (ok_letters F_letters_of b_enumerate) (PySem.W.mg_of X G a0) l0.kp B_letters_of
  have h_ends_of : Has l.prog w K mg base 2 "ends_of" ["drawing"] (spLoc fun x => decide (x = "end")) := has_mk (ok_ends F_ends_of h_letters_of) (PySem.W.mg_of X G a1) l1.kp B_ends_of
  have h_threads : Has l.prog w K mg base 1 "threads" ["drawing"] spRows := has_mk (ok_threads F_threads b_list) (PySem.W.mg_of X G a2) l2.kp B_threads
  have h_pairs_ahead : Has l.prog w K mg base 2 "pairs_ahead" ["drawing", "numbers"] spPairs := has_mk (ok_pairs F_pairs_ahead h_threads) (PySem.W.mg_of X G a3) l3.kp B_pairs_ahead
  have h_end_pairs : Has l.prog w K mg base 3 "end_pairs" ["drawing"] spEnds := has_mk (ok_end_pairs F_end_pairs h_pairs_ahead h_ends_of) (PySem.W.mg_of X G a4) l4.kp B_end_pairs
  have h_born_with : Has l.prog w K mg base 1 "born_with" ["thread"] spBw := has_mk (ok_bw F_born_with) (PySem.W.mg_of X G a5) l5.kp B_born_with
  have h_end_mates : Has l.prog w K mg base 4 "end_mates" ["drawing"] spMates := has_mk (ok_mates F_end_mates h_end_pairs b_len) (PySem.W.mg_of X G a6) l6.kp B_end_mates
  have h_tour_from : Has l.prog w K mg base 2 "tour_from" ["first", "mates"] spTour := has_mk (ok_tour F_tour_from h_born_with) (PySem.W.mg_of X G a7) l7.kp B_tour_from
  have h_tours : Has l.prog w K mg base 5 "tours" ["drawing"] spTours := has_mk (ok_tours F_tours h_end_mates h_tour_from b_len b_range) (PySem.W.mg_of X G a8) l8.kp B_tours
  have h_pieces : Has l.prog w K mg base 6 "pieces" ["drawing"] spPieces := has_mk (ok_pieces F_pieces h_ends_of h_tours b_len b_enumerate) (PySem.W.mg_of X G a9) l9.kp B_pieces
  have h__law_bag : Has l.prog w K mg base 1 "_law_bag" ["_law_script", "_law_at"] (spBag K) := has_mk (ok_bag F__law_bag b_len b_abs) (PySem.W.mg_of X G a10) l10.kp B__law_bag
  have h__law_take : Has l.prog w K mg base 1 "_law_take" ["_law_bag_here", "_law_many"] spTake := has_mk (ok_take F__law_take) (PySem.W.mg_of X G a11) l11.kp B__law_take
  have h__law_drawing : Has l.prog w K mg base 2 "_law_drawing" ["_law_bag_here", "_law_births", "_law_most"] (spDraw 0) := has_mk (ok_draw F__law_drawing h__law_take b_range) (PySem.W.mg_of X G a12) l12.kp B__law_drawing
  have h__law_plat : Has l.prog w K mg base 2 "_law_plat" ["_law_bag_here", "_law_most"] spAny := has_mk (ok_plat F__law_plat h__law_take b_range) (PySem.W.mg_of X G a13) l13.kp B__law_plat
  have h__law_any : Has l.prog w K mg base 3 "_law_any" ["_law_bag_here", "_law_most"] spAny := has_mk (ok_any F__law_any h__law_take h__law_plat h__law_drawing) (PySem.W.mg_of X G a14) l14.kp B__law_any
  have h__law_rows : Has l.prog w K mg base 1 "_law_rows" ["_law_drawing_here"] spRows := has_mk (ok_rows F__law_rows b_list) (PySem.W.mg_of X G a15) l15.kp B__law_rows
  have h__law_whole : Has l.prog w K mg base 1 "_law_whole" ["_law_thing"] spWhole := has_mk (ok_whole F__law_whole b_isinstance b_int b_bool) (PySem.W.mg_of X G a16) l16.kp B__law_whole
  have h__law_numbers : Has l.prog w K mg base 2 "_law_numbers" ["_law_thing"] spNumbers := has_mk (ok_numbers F__law_numbers h__law_whole b_isinstance b_list b_all) (PySem.W.mg_of X G a17) l17.kp B__law_numbers
  have h__law_pieces : Has l.prog w K mg base 2 "_law_pieces" ["_law_drawing_here"] spLP := has_mk (ok_lp F__law_pieces h__law_rows b_enumerate b_sorted b_set b_max b_int b_range) (PySem.W.mg_of X G a18) l18.kp B__law_pieces
  have h__law_right : Has l.prog w K mg base 7 "_law_right" ["_law_drawing_here"] spRight := has_mk (ok_right F__law_right h__law_pieces h_pieces h__law_numbers b_range b_list) (PySem.W.mg_of X G a19) l19.kp B__law_right
  exact ok_law F_law h__law_bag h__law_any h__law_right b_range b_len b_max b_min
theorem walk {l : PySem.W.OpenLaw} {q : Program} {loose : List Str} {XP : (Str → Option Value) → Heap → Prop} {YP : World → Heap → Prop} {d : DefRec} {K : Params → PySem.W.Frag} (hn : l.most = some 63) (hdf : d.params.defaults = [])
    (hY : ∀ (w : World) (h : Heap), YP w h → (K w.params).In h)
    (F : ∀ (w : World) (mg : Str → Option Value) (fa : Addr) (h : Heap), (K w.params).In h → h.Ns mainGlobals mg → mg d.name = some (.ref fa) →
      ∃ fd : FuncData, (∀ (s : Shared) (u : Value), BindsTo s fd ⟨[u], []⟩ [("_law_script", u)]) ∧ ∀ base : Heap, (K w.params).In base → base.Ns mainGlobals mg → FnOk l.prog w (K w.params) mg base CX0 8 fa fd ["_law_script"] (spLaw (K w.params))) :
    PySem.W.WalkO q loose XP YP l.row.toRowW d [] (fun f vs => PySem.call f vs) :=
  L2.walk_of (n := 63) (k := 8) (x := "_law_script") (CX := fun _ => CX0) (sp := fun w => spLaw (K w.params)) hn (by decide) hdf ⟨rfl, by decide, by decide⟩ hY F (fun _ _ a ns hl _ hS => ⟨a, ns, rfl, hS, hl, fun _ => rfl⟩) fun _ _ _ _ _ z => z
end
end Qk05

open PySem PySem.W PyProof.Rows
set_option maxRecDepth 100000 in
set_option maxHeartbeats 0 in
theorem PySem.Challenge.cw_bendfronts_k05_pieces_holds : PySem.Challenge.rw_bendfronts_k05_pieces.Holds := by
  w_on; o_law; k_head; (case hw => w_witness2)
  k_fill
  refine Qk05.walk (l := PySem.Challenge.rw_bendfronts_k05_pieces) rfl rfl (fun w h Y => PySem.W.kIn_of Y) ?F
  case F =>
    intro w mg fa h KX G hmg
    refine' Qk05.all_mk KX G hmg ?a0 ?l0 ?a1 ?l1 ?a2 ?l2 ?a3 ?l3 ?a4 ?l4 ?a5 ?l5 ?a6 ?l6 ?a7 ?l7 ?a8 ?l8 ?a9 ?l9 ?a10 ?l10 ?a11 ?l11 ?a12 ?l12 ?a13 ?l13 ?a14 ?l14 ?a15 ?l15 ?a16 ?l16 ?a17 ?l17 ?a18 ?l18 ?a19 ?l19 ?a20 ?l20 ?z_enumerate ?z_list ?z_len ?z_range ?z_abs ?z_isinstance ?z_int ?z_bool ?z_all ?z_sorted ?z_set ?z_max ?z_min
    (case a0 => k_is)
    (case l0 => exact L2.fun_mk (by k_is) (by k_is) (by k_is))
    (case a1 => k_is)
    (case l1 => exact L2.fun_mk (by k_is) (by k_is) (by k_is))
    (case a2 => k_is)
    (case l2 => exact L2.fun_mk (by k_is) (by k_is) (by k_is))
    (case a3 => k_is)
    (case l3 => exact L2.fun_mk (by k_is) (by k_is) (by k_is))
    (case a4 => k_is)
    (case l4 => exact L2.fun_mk (by k_is) (by k_is) (by k_is))
    (case a5 => k_is)
    (case l5 => exact L2.fun_mk (by k_is) (by k_is) (by k_is))
    (case a6 => k_is)
    (case l6 => exact L2.fun_mk (by k_is) (by k_is) (by k_is))
    (case a7 => k_is)
    (case l7 => exact L2.fun_mk (by k_is) (by k_is) (by k_is))
    (case a8 => k_is)
    (case l8 => exact L2.fun_mk (by k_is) (by k_is) (by k_is))
    (case a9 => k_is)
    (case l9 => exact L2.fun_mk (by k_is) (by k_is) (by k_is))
    (case a10 => k_is)
    (case l10 => exact L2.fun_mk (by k_is) (by k_is) (by k_is))
    (case a11 => k_is)
    (case l11 => exact L2.fun_mk (by k_is) (by k_is) (by k_is))
    (case a12 => k_is)
    (case l12 => exact L2.fun_mk (by k_is) (by k_is) (by k_is))
    (case a13 => k_is)
    (case l13 => exact L2.fun_mk (by k_is) (by k_is) (by k_is))
    (case a14 => k_is)
    (case l14 => exact L2.fun_mk (by k_is) (by k_is) (by k_is))
    (case a15 => k_is)
    (case l15 => exact L2.fun_mk (by k_is) (by k_is) (by k_is))
    (case a16 => k_is)
    (case l16 => exact L2.fun_mk (by k_is) (by k_is) (by k_is))
    (case a17 => k_is)
    (case l17 => exact L2.fun_mk (by k_is) (by k_is) (by k_is))
    (case a18 => k_is)
    (case l18 => exact L2.fun_mk (by k_is) (by k_is) (by k_is))
    (case a19 => k_is)
    (case l19 => exact L2.fun_mk (by k_is) (by k_is) (by k_is))
    (case a20 => k_is)
    (case l20 => exact L2.fun_mk (by k_is) (by k_is) (by k_is))
    (case z_enumerate => k_is)
    (case z_list => k_is)
    (case z_len => k_is)
    (case z_range => k_is)
    (case z_abs => k_is)
    (case z_isinstance => k_is)
    (case z_int => k_is)
    (case z_bool => k_is)
    (case z_all => k_is)
    (case z_sorted => k_is)
    (case z_set => k_is)
    (case z_max => k_is)
    (case z_min => k_is)


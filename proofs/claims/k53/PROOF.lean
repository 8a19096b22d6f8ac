import PyProof.Rows.All
import Wide.All
import OpenK.AllK
import Wide.FinOn
import Lean
import PyProof.EqAt
import PyProof.EqKinds
import PyProof.TupleCall
-- CHANGE: your row's module here, as the last of these rows
import PySem.Challenge.RW_boardsight_k53_nearness_by_place

set_option Elab.async false
set_option linter.all false
set_option maxRecDepth 100000
/-! THE HAND LAYER, for ints, bools, texts, own classes, LISTS and tuples (index, slices, in, append, pop ..), calls, loops. Paste it whole ahead of your own text; what your proof does not reach may be deleted. -/
namespace L2
open PySem PySem.Spec PyProof.Rows

/-- a key: an int or a str -/
abbrev Key := Sum Int Str
def keyIs : Key → Value → Bool
  | .inl k, v => Value.isInt k v
  | .inr x, v => Value.isStrOf x v
def keyH (w : World) : Key → Int
  | .inl k => hashInt k
  | .inr x => hashStr w x
theorem keyIs_shape : ∀ {k : Key} {v : Value}, keyIs k v = true → (∃ i t, k = Sum.inl i ∧ v = Value.int i t) ∨ (∃ x t, k = Sum.inr x ∧ v = Value.str x t)
  | .inl i, v, h => by
    obtain ⟨t, e⟩ := Value.isInt_shape (k := i) (v := v) h
    exact .inl ⟨i, t, rfl, e⟩
  | .inr x, v, h => by
    obtain ⟨t, e⟩ := Value.isStrOf_shape (x := x) (v := v) h
    exact .inr ⟨x, t, rfl, e⟩
theorem key_ll (a b : Int) : decide ((Sum.inl a : Key) = Sum.inl b) = (a == b) := by
  by_cases e : a = b
  · subst e; simp
  · have h : ¬ (Sum.inl a : Key) = Sum.inl b := fun q => e (Sum.inl.inj q)
    rw [decide_eq_false h]
    exact (beq_eq_false_iff_ne.mpr e).symm
theorem key_rr (a b : Str) : decide ((Sum.inr a : Key) = Sum.inr b) = decide (a = b) := by
  by_cases e : a = b
  · subst e; simp
  · have h : ¬ (Sum.inr a : Key) = Sum.inr b := fun q => e (Sum.inr.inj q)
    rw [decide_eq_false h, decide_eq_false e]
theorem key_lr (a : Int) (b : Str) : decide ((Sum.inl a : Key) = Sum.inr b) = false := decide_eq_false (fun q => nomatch q)
theorem key_rl (a : Str) (b : Int) : decide ((Sum.inr a : Key) = Sum.inl b) = false := decide_eq_false (fun q => nomatch q)

def mixKind (prog : Program) (w : World) : PySem.KeyKind prog w Key where
  is := keyIs
  hash := keyH w
  inj := fun v a b ha hb => by
    rcases keyIs_shape ha with ⟨i, t, rfl, rfl⟩ | ⟨x, t, rfl, rfl⟩
    · rcases keyIs_shape hb with ⟨j, u, rfl, e⟩ | ⟨y, u, rfl, e⟩
      · injection e with e1 _; rw [e1]
      · exact nomatch e
    · rcases keyIs_shape hb with ⟨j, u, rfl, e⟩ | ⟨y, u, rfl, e⟩
      · exact nomatch e
      · injection e with e1 _; rw [e1]
  byValue := fun k v h => by
    rcases keyIs_shape h with ⟨i, t, rfl, rfl⟩ | ⟨x, t, rfl, rfl⟩ <;> rfl
  pyHash := fun hv h => by
    rcases keyIs_shape hv with ⟨i, t, rfl, rfl⟩ | ⟨x, t, rfl, rfl⟩
    · exact wpAny_pyHash_int h
    · exact wpAny_pyHash_str h
  eqBool := fun hu hv h => by
    rcases keyIs_shape hu with ⟨i, t, rfl, rfl⟩ | ⟨x, t, rfl, rfl⟩
    · rcases keyIs_shape hv with ⟨j, u, rfl, rfl⟩ | ⟨y, u, rfl, rfl⟩
      · rw [key_ll] at h; exact wpAny_eqBool_int h
      · rw [key_lr] at h; exact SeqAt.EqAt.int_str i t y u _ _ _ _ h
    · rcases keyIs_shape hv with ⟨j, u, rfl, rfl⟩ | ⟨y, u, rfl, rfl⟩
      · rw [key_rl] at h; exact SeqAt.EqAt.str_int x t j u _ _ _ _ h
      · rw [key_rr] at h; exact wpAny_eqBool_str h
  «strs» := fun k x t v h => by
    rcases keyIs_shape h with ⟨i, u, rfl, e⟩ | ⟨y, u, rfl, e⟩
    · exact nomatch e
    · injection e with e1 _
      subst e1
      cases v <;> rfl

end L2

namespace L2
open PySem PySem.Spec PyProof.Rows

/-- a value, without the heap -/
inductive V where
  | non | bl (b : Bool) | int (i : Int) | str (x : Str) | byt (b : Array UInt8) | flt (b : UInt64) | ref (a : Addr) | ty (n : String)
  deriving DecidableEq

def RelV : V → Value → Prop
  | .non, u => u = Value.none
  | .bl b, u => u = Value.bool b
  | .int i, u => ∃ t, u = Value.int i t
  | .str x, u => ∃ t, u = Value.str x t
  | .byt b, u => ∃ t, u = Value.bytes b t
  | .flt b, u => ∃ t, u = Value.float b t
  | .ref a, u => u = Value.ref a
  | .ty n, u => u = Value.type n

abbrev Vals : List V → List Value → Prop := Paired RelV
theorem Vals.length {xs : List V} {us : List Value} (r : Vals xs us) : xs.length = us.length := Paired.length r
theorem Vals.get : ∀ {xs : List V} {us : List Value} {i : Nat} {x : V}, Vals xs us → xs[i]? = some x → ∃ u, us[i]? = some u ∧ RelV x u
  | _, _, _, _, .nil, e => by simp at e
  | _, _, 0, _, .cons r _, e => by simp at e; subst e; exact ⟨_, rfl, r⟩
  | _, _, i + 1, x, .cons _ t, e => by
    obtain ⟨u, h1, h2⟩ := Vals.get (i := i) (x := x) t (by simpa using e)
    exact ⟨u, by simpa using h1, h2⟩
theorem Vals.set {x : V} {u : Value} (r : RelV x u) : ∀ {xs : List V} {us : List Value} (i : Nat), Vals xs us → Vals (xs.set i x) (us.set i u)
  | _, _, _, .nil => .nil
  | _, _, 0, .cons _ t => .cons r t
  | _, _, i + 1, .cons q t => .cons q (Vals.set r i t)
theorem Vals.append : ∀ {xs ys : List V} {us ws : List Value}, Vals xs us → Vals ys ws → Vals (xs ++ ys) (us ++ ws)
  | _, _, _, _, .nil, s => s
  | _, _, _, _, .cons r t, s => .cons r (Vals.append t s)
theorem Vals.take : ∀ {xs : List V} {us : List Value} (n : Nat), Vals xs us → Vals (xs.take n) (us.take n)
  | _, _, 0, _ => .nil
  | _, _, _ + 1, .nil => .nil
  | _, _, n + 1, .cons r t => .cons r (Vals.take n t)
theorem Vals.drop : ∀ {xs : List V} {us : List Value} (n : Nat), Vals xs us → Vals (xs.drop n) (us.drop n)
  | _, _, 0, r => r
  | _, _, _ + 1, .nil => .nil
  | _, _, n + 1, .cons _ t => Vals.drop n t
def RelO : Option V → Option Value → Prop
  | some v, some u => RelV v u
  | none, none => True
  | _, _ => False
def KV {κ : Type} : List (κ × V) → List (κ × Value) → Prop := Paired fun (p : κ × V) (q : κ × Value) => p.1 = q.1 ∧ RelV p.2 q.2

/-- a key of a dict (00_mix): an int or a text -/
def kV : Key → V
  | .inl i => .int i
  | .inr x => .str x

/-- what stands at a tracked address -/
inductive HO where
  /-- a list -/
  | lst (xs : List V)
  /-- a tuple (never changes) -/
  | tup (xs : List V)
  /-- a dict whose keys are ints and texts; one whose keys are tuples of ints and texts (the empty one is both) -/
  | dK (kvs : List (Key × V)) | dT (kvs : List (List Key × V))
  /-- a set of ints: its members, its size -/
  | set (S : Int → Bool) (n : Nat)
  /-- an instance of the class at C, its dict at dx, its attributes -/
  | ins (C dx : Addr) (fs : List (Str × V))
  /-- the dict of the instance at x -/
  | own (x : Addr)
  /-- the dict of an exception -/
  | xd (fs : List (Str × V))
  /-- a bound method, f of x -/
  | met (f x : Addr)
  /-- a range object lo, lo + 1, .. below hi -/
  | rng (lo hi : Int)
  /-- a thing that is known to the object (the script; a dict while a loop walks it): read, never written while it is so -/
  | frz (o : Obj) (u : HO)
  /-- a code object's table -/
  | tbl (ps : Array Value)
  /-- any other thing, by what is true of its one object (a def of one's own: SetO a S n := HO.ext fun h => ..) -/
  | ext (φ : Heap → Prop)

abbrev Hp := Addr → Option HO
def upd (H : Hp) (a : Addr) (o : HO) : Hp := fun b => if b = a then some o else H b
theorem upd_same {H : Hp} {a : Addr} {o : HO} : upd H a o a = some o := by unfold upd; rw [if_pos rfl]
theorem upd_ne {H : Hp} {a b : Addr} {o : HO} (h : b ≠ a) : upd H a o b = H b := by unfold upd; rw [if_neg h]
/-- two objects of different content stand apart -/
theorem ne_of {H : Hp} {a b : Addr} {o u : HO} (h : H a = some o) (h' : H b = some u) (d : o ≠ u) : a ≠ b := by
  intro e; subst e; rw [h] at h'; exact d (Option.some.inj h')
theorem ne_of_none {H : Hp} {a b : Addr} {o : HO} (h : H a = some o) (h' : H b = none) : a ≠ b := by
  intro e; subst e; rw [h] at h'; cases h'

section
variable (P : Program) (w : World)
def ObjOk (H : Hp) (h : Heap) (a : Addr) : HO → Prop
  | .lst xs => xs.length ≤ sizeLine ∧ ∃ (its : List Value) (n : Nat), Vals xs its ∧ h.get? a = some { cls := .type "list", data := .seq its.toArray n }
  | .tup xs => xs.length ≤ sizeLine ∧ ∃ its : List Value, Vals xs its ∧ IsTup h a its.toArray
  | .dK kvs => kvs.length ≤ sizeLine ∧ (a == sysModules) = false ∧ ∃ vs, KV kvs vs ∧ h.DictOf (mixKind P w) a vs
  | .dT kvs => kvs.length ≤ sizeLine ∧ (a == sysModules) = false ∧ ∃ xs : List (List Key × Addr × Value),
      Paired (fun (p : List Key × V) (q : List Key × Addr × Value) => p.1 = q.1 ∧ H q.2.1 = some (.tup (p.1.map kV)) ∧ RelV p.2 q.2.2) kvs xs ∧
      ∃ o es ep, h.get? a = some o ∧ o.ExactDict ∧ o.data = .dict es ep ∧ es.toList = xs.map (entryOfKey (tupleKind (mixKind P w))) ∧ (xs.map (·.1)).Nodup
  | .set S n => h.SetOf (intKind P w) a S n
  | .ins C dx fs => H dx = some (.own a) ∧ fs.length ≤ 1000 ∧ dx ≠ a ∧ h.get? a = some (PySem.W.instObj C dx) ∧
      ∃ mA, h.Ns1 dx mA ∧ (∀ f, RelO (fs.lookup f) (mA f)) ∧ PySem.Within mA (fs.map (·.1))
  | .own _ => ∃ o, h.get? a = some o
  | .xd fs => ∃ mA, h.Ns1 a mA ∧ ∀ f, RelO (fs.lookup f) (mA f)
  | .rng lo hi => ∃ t u v, h.get? a = some { cls := .type "range", data := .fields #[.int lo t, .int hi u, .int 1 v] }
  | .frz o u => h.get? a = some o ∧ ObjOk H h a u
  | .tbl ps => h.get? a = some { cls := .none, data := .fields ps }
  | .met f x => h.get? a = some (PySem.W.methodObj (.ref f) (.ref x))
  | .ext φ => φ h ∧ (∃ o, h.get? a = some o) ∧ ∀ h1 h2 : Heap, φ h1 → (∀ o, h1.get? a = some o → h2.get? a = some o) → φ h2
/-- the abstract heap is held -/
def HOk (H : Hp) (h : Heap) : Prop := ∀ a o, H a = some o → ObjOk P w H h a o
end

section
variable {P : Program} {w : World} {H H' : Hp} {h h' : Heap} {a : Addr} {o : HO}
theorem ObjOk.lt (x : ObjOk P w H h a o) : a < h.objs.size := by
  cases o with
  | lst xs => obtain ⟨_, _, _, _, e⟩ := x; exact Heap.lt_size e
  | tup xs => obtain ⟨_, _, _, p⟩ := x; exact p.lt
  | dK kvs => obtain ⟨_, _, _, _, o, _, _, e, _⟩ := x; exact Heap.lt_size e
  | dT kvs => obtain ⟨_, _, _, _, o, _, _, e, _⟩ := x; exact Heap.lt_size e
  | set S n => obtain ⟨o, _, _, _, e, _⟩ := x; exact Heap.lt_size e
  | ins C dx fs => obtain ⟨_, _, _, e, _⟩ := x; exact Heap.lt_size e
  | own y => obtain ⟨_, e⟩ := x; exact Heap.lt_size e
  | xd fs => obtain ⟨_, ⟨_, _, _, e, _⟩, _⟩ := x; exact Heap.lt_size e
  | rng lo hi => obtain ⟨_, _, _, e⟩ := x; exact Heap.lt_size e
  | frz ob u => obtain ⟨e, _⟩ := x; exact Heap.lt_size e
  | tbl ps => exact Heap.lt_size (show h.get? a = some _ from x)
  | met f y => exact Heap.lt_size (show h.get? a = some _ from x)
  | ext φ => obtain ⟨_, ⟨_, e⟩, _⟩ := x; exact Heap.lt_size e
theorem Paired.mapP {α β : Type} {F G : α → β → Prop} : ∀ {l₁ : List α} {l₂ : List β}, Paired F l₁ l₂ → (∀ a b, F a b → G a b) → Paired G l₁ l₂
  | _, _, .nil, _ => .nil
  | _, _, .cons r t, f => .cons (f _ _ r) (Paired.mapP t f)
/-- what an object's description leans on: its own object, its own dict, the tuples -/
theorem ObjOk.stay (x : ObjOk P w H h a o) (k : ∀ b u, (b = a ∨ H b = some (.own a)) → h.get? b = some u → h'.get? b = some u)
    (ho : ∀ b, H b = some (.own a) → H' b = some (.own a)) (ht : ∀ b xs, H b = some (.tup xs) → H' b = some (.tup xs)) : ObjOk P w H' h' a o := by
  induction o with
  | lst xs => obtain ⟨z, its, n, r, e⟩ := x; exact ⟨z, its, n, r, k _ _ (.inl rfl) e⟩
  | tup xs => obtain ⟨z, its, r, ob, e, c⟩ := x; exact ⟨z, its, r, ob, k _ _ (.inl rfl) e, c⟩
  | dK kvs => obtain ⟨z, y, vs, r, ob, es, ep, e, c⟩ := x; exact ⟨z, y, vs, r, ob, es, ep, k _ _ (.inl rfl) e, c⟩
  | dT kvs =>
    obtain ⟨z, y, xs, r, ob, es, ep, e, c⟩ := x
    exact ⟨z, y, xs, Paired.mapP r fun p q z => ⟨z.1, ht _ _ z.2.1, z.2.2⟩, ob, es, ep, k _ _ (.inl rfl) e, c⟩
  | set S n => obtain ⟨ob, es, ep, t, e, c⟩ := x; exact ⟨ob, es, ep, t, k _ _ (.inl rfl) e, c⟩
  | ins C dx fs =>
    obtain ⟨d, z, ne, e, mA, ⟨od, es, ep, e2, c⟩, r⟩ := x
    exact ⟨ho _ d, z, ne, k _ _ (.inl rfl) e, mA, ⟨od, es, ep, k _ _ (.inr d) e2, c⟩, r⟩
  | own y => obtain ⟨ob, e⟩ := x; exact ⟨ob, k _ _ (.inl rfl) e⟩
  | xd fs => obtain ⟨mA, ⟨od, es, ep, e, c⟩, r⟩ := x; exact ⟨mA, ⟨od, es, ep, k _ _ (.inl rfl) e, c⟩, r⟩
  | rng lo hi => obtain ⟨t, u, v, e⟩ := x; exact ⟨t, u, v, k _ _ (.inl rfl) e⟩
  | frz ob u ih => obtain ⟨e, q⟩ := x; exact ⟨k _ _ (.inl rfl) e, ih q⟩
  | tbl ps =>
    have e : h.get? a = some { cls := .none, data := .fields ps } := x
    show h'.get? a = some { cls := .none, data := .fields ps }
    exact k a _ (.inl rfl) e
  | met f y =>
    have e : h.get? a = some (PySem.W.methodObj (.ref f) (.ref y)) := x
    show h'.get? a = some (PySem.W.methodObj (.ref f) (.ref y))
    exact k a _ (.inl rfl) e
  | ext φ => obtain ⟨p, ⟨o, e⟩, st⟩ := x; exact ⟨st _ _ p fun o q => k _ _ (.inl rfl) q, ⟨o, k _ _ (.inl rfl) e⟩, st⟩
theorem HOk.lt (x : HOk P w H h) (e : H a = some o) : a < h.objs.size := (x a o e).lt
theorem HOk.fresh (x : HOk P w H h) (e : h.objs.size ≤ a) : H a = none := by
  cases q : H a with
  | none => rfl
  | some u => exact absurd (Nat.lt_of_lt_of_le (x.lt q) e) (Nat.lt_irrefl _)
/-- every object of the heap is kept -/
theorem HOk.kept (x : HOk P w H h) (k : ∀ b u, h.get? b = some u → h'.get? b = some u) : HOk P w H h' := fun a o e =>
  (x a o e).stay (fun b u _ q => k b u q) (fun _ q => q) fun _ _ q => q
/-- a new object is laid and tracked -/
theorem HOk.laid (x : HOk P w H h) (k : ∀ b u, h.get? b = some u → h'.get? b = some u) (hp : h.objs.size ≤ a) (new : ObjOk P w (upd H a o) h' a o) : HOk P w (upd H a o) h' := fun b u e => by
  have hn := x.fresh hp
  by_cases hb : b = a
  · subst hb; rw [upd_same] at e; cases e; exact new
  · rw [upd_ne hb] at e
    exact (x b u e).stay (fun c v _ q => k c v q) (fun c q => by rw [upd_ne (ne_of_none q hn)]; exact q) fun c xs q => by rw [upd_ne (ne_of_none q hn)]; exact q
end

/-- what may be read as u: it is u, or a known u -/
def Rd (H : Hp) (a : Addr) (u : HO) : Prop := H a = some u ∨ ∃ o, H a = some (.frz o u)
theorem Rd.of {H : Hp} {a : Addr} {u : HO} (h : H a = some u) : Rd H a u := .inl h
theorem Rd.ok {P : Program} {w : World} {H : Hp} {h : Heap} {a : Addr} {u : HO} (r : Rd H a u) (x : HOk P w H h) : ObjOk P w H h a u := by
  rcases r with r | ⟨o, r⟩
  · exact x a u r
  · obtain ⟨_, q⟩ := x a _ r
    exact q
/-- what may be written -/
def Mut : Option HO → Prop
  | some (.lst _) => True
  | some (.dK _) => True
  | some (.dT _) => True
  | some (.set _ _) => True
  | some (.ins _ _ _) => True
  | some (.ext _) => True
  | _ => False
section
variable {P : Program} {w : World} {H : Hp} {h h' : Heap} {x e : Addr} {o' : HO}
/-- the object at e is changed: x itself, or the dict of the instance x -/
theorem HOk.write (ok : HOk P w H h) (mu : Mut (H x)) (he : e = x ∨ H e = some (.own x)) (k : ∀ b u, b ≠ e → h.get? b = some u → h'.get? b = some u) (heo : ∃ u, h'.get? e = some u)
    (new : ObjOk P w (upd H x o') h' x o') : HOk P w (upd H x o') h' := fun b u q => by
  have nown : ∀ c y, H c = some (.own y) → c ≠ x := fun c y r z => by subst z; rw [r] at mu; exact mu
  have ntup : ∀ c xs, H c = some (.tup xs) → c ≠ x := fun c xs r z => by subst z; rw [r] at mu; exact mu
  by_cases hb : b = x
  · subst hb; rw [upd_same] at q; cases q; exact new
  · rw [upd_ne hb] at q
    by_cases hbe : b = e
    · have q' : H b = some (.own x) := by
        rcases he with z | z
        · exact absurd (hbe.trans z) hb
        · rw [hbe]; exact z
      rw [q] at q'; cases q'
      obtain ⟨v, hv⟩ := heo
      exact ⟨v, by rw [hbe]; exact hv⟩
    · refine (ok b u q).stay (fun c v hc r => k c v ?_ r) (fun c r => by rw [upd_ne (nown c b r)]; exact r) fun c xs r => by rw [upd_ne (ntup c xs r)]; exact r
      rcases hc with rfl | hc
      · exact hbe
      · rintro rfl
        rcases he with z | z
        · exact nown c b hc z
        · rw [hc] at z; cases z; exact hb rfl
end

/-! ### kept unless tracked; of the frames at fs (the callers') the slots may change (an exception that passes writes there); of the records at ex (iterators) nothing is said -/
structure Un (fs ex : List Addr) (H H' : Hp) (h h' : Heap) : Prop where
  keep : ∀ b o, h.get? b = some o → H b = none → b ∉ fs → b ∉ ex → h'.get? b = some o
  slot : ∀ b o, h.get? b = some o → H b = none → b ∈ fs → b ∉ ex → ∃ sl, h'.get? b = some { o with slots := sl }
  free : ∀ b o, h.get? b = some o → H b = none → b ∉ ex → H' b = none
  there : ∀ b o, h.get? b = some o → b ∉ ex → ∃ o', h'.get? b = some o'
  tups : ∀ b xs, H b = some (.tup xs) → H' b = some (.tup xs)
  frzs : ∀ b o u, H b = some (.frz o u) → H' b = some (.frz o u)
  tbls : ∀ b ps, H b = some (.tbl ps) → ∃ more, H' b = some (.tbl (ps ++ more))
section
variable {fs fs' ex ex' : List Addr} {H H1 H2 : Hp} {h h1 h2 h' : Heap} {a x e : Addr} {o : HO}
theorem Un.any (u : Un fs ex H H1 h h1) {b : Addr} {ob : Obj} (q : h.get? b = some ob) (n : H b = none) (hx : b ∉ ex) : ∃ sl, h1.get? b = some { ob with slots := sl } := by
  by_cases hb : b ∈ fs
  · exact u.slot b ob q n hb hx
  · exact ⟨ob.slots, u.keep b ob q n hb hx⟩
theorem Un.trans (a : Un fs ex H H1 h h1) (b : Un fs ex H1 H2 h1 h2) : Un fs ex H H2 h h2 where
  keep := fun c ob q n hc hx => b.keep c ob (a.keep c ob q n hc hx) (a.free c ob q n hx) hc hx
  slot := fun c ob q n hc hx => by
    obtain ⟨sl, e1⟩ := a.slot c ob q n hc hx
    obtain ⟨sl', e2⟩ := b.slot c _ e1 (a.free c ob q n hx) hc hx
    exact ⟨sl', e2⟩
  free := fun c ob q n hx => by
    obtain ⟨o', e1⟩ := a.there c ob q hx
    exact b.free c o' e1 (a.free c ob q n hx) hx
  there := fun c ob q hx => by
    obtain ⟨o', e1⟩ := a.there c ob q hx
    exact b.there c o' e1 hx
  tups := fun c xs q => b.tups c xs (a.tups c xs q)
  frzs := fun c ob xs q => b.frzs c ob xs (a.frzs c ob xs q)
  tbls := fun c ps q => by
    obtain ⟨m1, e1⟩ := a.tbls c ps q
    obtain ⟨m2, e2⟩ := b.tbls c _ e1
    exact ⟨m1 ++ m2, by rw [e2, Array.append_assoc]⟩
theorem Un.kept (k : ∀ b u, h.get? b = some u → h'.get? b = some u) : Un fs ex H H h h' :=
  ⟨fun b ob q _ _ _ => k b ob q, fun b ob q _ _ _ => ⟨ob.slots, k b ob q⟩, fun _ _ _ n _ => n, fun b ob q _ => ⟨ob, k b ob q⟩, fun _ _ q => q, fun _ _ _ q => q, fun _ ps q => ⟨#[], by rw [q]; simp⟩⟩
theorem Un.refl : Un fs ex H H h h := Un.kept fun _ _ q => q
theorem Un.laid (k : ∀ b u, h.get? b = some u → h'.get? b = some u) (hp : h.objs.size ≤ a) (hn : H a = none) : Un fs ex H (upd H a o) h h' where
  keep := fun b u q _ _ _ => k b u q
  slot := fun b u q _ _ _ => ⟨u.slots, k b u q⟩
  free := fun b u q n _ => by rw [upd_ne (Nat.ne_of_lt (Nat.lt_of_lt_of_le (Heap.lt_size q) hp))]; exact n
  there := fun b u q _ => ⟨u, k b u q⟩
  tups := fun b xs q => by rw [upd_ne (ne_of_none q hn)]; exact q
  frzs := fun b u xs q => by rw [upd_ne (ne_of_none q hn)]; exact q
  tbls := fun b ps q => ⟨#[], by rw [upd_ne (ne_of_none q hn), q]; simp⟩
theorem Un.write (mu : Mut (H x)) (he : e = x ∨ H e = some (.own x)) (k : ∀ b u, b ≠ e → h.get? b = some u → h'.get? b = some u) (heo : ∃ u, h'.get? e = some u) : Un fs ex H (upd H x o) h h' := by
  have hx : ∀ b, H b = none → b ≠ x := fun b n z => by subst z; rw [n] at mu; exact mu
  have hb : ∀ b, H b = none → b ≠ e := fun b n z => by
    subst z
    rcases he with r | r
    · exact hx b n r
    · rw [n] at r; cases r
  have hm : ∀ b u, H b = some u → ¬ Mut (some u) → b ≠ x := fun b u q nm z => by subst z; rw [q] at mu; exact nm mu
  refine ⟨fun b u q n _ _ => k b u (hb b n) q, fun b u q n _ _ => ⟨u.slots, k b u (hb b n) q⟩, fun b u q n _ => by rw [upd_ne (hx b n)]; exact n, fun b u q _ => ?_,
    fun b xs q => by rw [upd_ne (hm b _ q fun z => z)]; exact q, fun b u xs q => by rw [upd_ne (hm b _ q fun z => z)]; exact q, fun b ps q => ⟨#[], by rw [upd_ne (hm b _ q fun z => z), q]; simp⟩⟩
  by_cases hbe : b = e
  · subst hbe; exact heo
  · exact ⟨u, k b u hbe q⟩
theorem Un.mono (u : Un fs ex H H1 h h1) (hs : ∀ b ∈ fs, b ∈ fs') (hx : ∀ b ∈ ex, b ∈ ex') : Un fs' ex' H H1 h h1 :=
  ⟨fun b ob q n hb he => u.keep b ob q n (fun z => hb (hs b z)) fun z => he (hx b z), fun _ _ q n _ he => u.any q n fun z => he (hx _ z), fun b ob q n he => u.free b ob q n fun z => he (hx b z), fun b ob q he => u.there b ob q fun z => he (hx b z), u.tups, u.frzs, u.tbls⟩
end

/-! ### the heap without what is tracked -/
def trk (h : Heap) (H : Hp) : List Addr := (List.range h.objs.size).filter fun a => (H a).isSome
def hidT (h : Heap) (H : Hp) : Heap := PySem.W.hideAll h (trk h H)
theorem hidT_size (h : Heap) (H : Hp) : (hidT h H).objs.size = h.objs.size := PySem.W.hideAll_size _ _
theorem hidT_get {h : Heap} {H : Hp} {b : Addr} {o : Obj} (e : h.get? b = some o) (n : H b = none) : (hidT h H).get? b = some o :=
  PySem.W.hideAll_get _ e fun hm => by
    have q : (H b).isSome = true := (List.mem_filter.mp hm).2
    rw [n] at q; simp at q
theorem of_hidT {h : Heap} {H : Hp} {b : Addr} {o : Obj} (e : (hidT h H).get? b = some o) : h.get? b = some o ∧ H b = none := by
  have e' : h.get? b = some o := PySem.W.of_hideAll (trk h H) e
  refine ⟨e', ?_⟩
  cases q : H b with
  | none => rfl
  | some x =>
    have hm : b ∈ trk h H := List.mem_filter.mpr ⟨List.mem_range.mpr (Heap.lt_size e'), by simp [q]⟩
    have z : (hidT h H).get? b = none := PySem.W.hideAll_none (trk h H) hm
    rw [z] at e; cases e

/-! ### OpenK's ledger, filled with every new object but one -/
def allNews (g h : Heap) (L : Addr) : List (Addr × Obj) := (List.range h.objs.size).filterMap fun a => if a = L ∨ (g.get? a).isSome = true then none else (h.get? a).map fun o => (a, o)
def rest (g h : Heap) (L d : Addr) : List (Addr × Obj) := (allNews g h L).filter fun p => decide (p.1 ≠ d)
end L2

namespace L2
open PySem PySem.Spec PyProof.Rows

/-- the module's facts, over the base: the heap at the law's entry without what is tracked there -/
structure Mod (K : PySem.W.Frag) (mg : Str → Option Value) (base : Heap) : Prop where
  kin : K.In base
  glob : base.Ns mainGlobals mg
  blt : ∃ mb, base.Ns builtinsNs mb ∧ ∀ x : Str, x ≠ "__name__" → mb x = bootBuiltins x
  nolimit : base.NoLimit

/-- the context: a def's body (or a comprehension's block) running. base: fixed through the whole law; s₀, H₀: the entry; outer: the frames whose slots others may change (a def's callers); stack: all frames that run;
   ex: iterators that were made ahead of the entry and are walked here (a comprehension's); fn: the names whose cells were made at the entry (a def: all; a comprehension's block: its own); calm: not within an except suite; pn: pins that every state bears; xe: what is wanted of an exception that leaves the code -/
structure Cx where
  prog : Program
  w : World
  K : PySem.W.Frag
  mg : Str → Option Value
  base : Heap
  A : Around
  N : List Str
  s₀ : Shared
  H₀ : Hp
  env : Env
  outer : List Env
  stack : List Env
  ex : List Addr
  fn : Str → Bool
  calm : Bool
  pn : List (Addr × Obj)
  xe : Value → Shared → Prop
/-- the callers' frames -/
def frs (l : List Env) : List Addr := l.filterMap (·.frame)
abbrev Cx.fs (X : Cx) : List Addr := frs X.outer

def Vis (sc : Scope) (x : Str) : Prop := sc.names.lookup x = some .local ∨ sc.names.lookup x = some .cell ∨ sc.names.lookup x = some .free
def Loc (sc : Scope) (x : Str) : Prop := sc.names.lookup x = some .local ∨ sc.names.lookup x = some .cell
def Look (env : Env) (h : Heap) (m : Str → Option Value) (x : Str) (u : Value) : Prop :=
  (env.kindOf x = some .local ∧ m x = some u) ∨ ((env.kindOf x = some .cell ∨ env.kindOf x = some .free) ∧ ∃ c, env.cells.lookup x = some c ∧ h.IsCell c (some u))

structure Cx.Ok (X : Cx) : Prop where
  mod : Mod X.K X.mg X.base
  kind : X.env.scope.kind = .function
  glob : X.env.globals = mainGlobals
  blt : X.env.builtins = builtinsNs
  above : X.s₀.heap.objs.size ≤ X.env.locals
  inj : ∀ x y c, X.env.cells.lookup x = some c → X.env.cells.lookup y = some c → x = y
  has : ∀ x, (X.env.kindOf x = some .cell ∨ X.env.kindOf x = some .free) → ∃ c, X.env.cells.lookup x = some c
  cab : ∀ x c, X.fn x = true → X.env.cells.lookup x = some c → X.s₀.heap.objs.size ≤ c
  hd : X.calm = true → X.A.handled = none
  frames : X.A.frames = some X.stack
  stk : X.stack = X.outer ∨ (X.stack = X.env :: X.outer ∧ X.env.frame = some X.env.locals)
  exf : ∀ b ∈ X.ex, b ≠ X.env.locals ∧ ∀ x c, X.env.cells.lookup x = some c → c ≠ b
  bs : ∀ b o, X.base.get? b = some o → X.s₀.heap.get? b = some o ∧ X.H₀ b = none
  bsz : X.base.objs.size ≤ X.s₀.heap.objs.size
  noex : ∀ b o, X.base.get? b = some o → b ∉ X.ex
  exfs : ∀ b ∈ X.ex, b ∉ X.fs
  funs : X.s₀.heap.FunFrames X.base X.outer
  frf : ∀ b ∈ X.fs, X.H₀ b = none

structure Inv (X : Cx) (pins : List (Addr × Obj)) (σ : List (Option V)) (H : Hp) (s : Shared) : Prop where
  ok : X.Ok
  os : s.os = X.s₀.os
  bare : AllBare s.gens
  base : Un X.fs X.ex X.H₀ H X.s₀.heap s.heap
  loc : ∃ m, s.heap.Ns X.env.locals m ∧ ∀ (i : Nat) (x : Str) (v : V), X.N[i]? = some x → σ[i]? = some (some v) → Vis X.env.scope x → ∃ u, RelV v u ∧ Look X.env s.heap m x u
  cell : ∀ x c, X.env.cells.lookup x = some c → ∃ v, s.heap.IsCell c v
  free : H X.env.locals = none
  freeC : ∀ x c, X.env.cells.lookup x = some c → H c = none
  pin : ∀ p ∈ X.pn ++ pins, s.heap.get? p.1 = some p.2 ∧ H p.1 = none ∧ p.1 ≠ X.env.locals ∧ p.1 ∉ X.fs ∧ ∀ v, p.2.data ≠ .cell v
  hok : HOk X.prog X.w H s.heap
  len : σ.length = X.N.length

section
variable {X : Cx} {pins : List (Addr × Obj)} {σ : List (Option V)} {H H' : Hp} {s : Shared} {h' : Heap}

theorem Cx.Ok.nofr (ok : X.Ok) {b : Addr} {o : Obj} (e : X.base.get? b = some o) : b ∉ X.fs := fun hb => by
  have := (ok.funs.mem hb).1
  rw [e] at this; cases this
theorem Inv.bs (I : Inv X pins σ H s) : ∀ b o, X.base.get? b = some o → s.heap.get? b = some o ∧ H b = none := fun b o e =>
  ⟨I.base.keep b o (I.ok.bs b o e).1 (I.ok.bs b o e).2 (I.ok.nofr e) (I.ok.noex b o e), I.base.free b o (I.ok.bs b o e).1 (I.ok.bs b o e).2 (I.ok.noex b o e)⟩
theorem Inv.bk (I : Inv X pins σ H s) : ∀ b o, X.base.get? b = some o → s.heap.get? b = some o := fun b o e => (I.bs b o e).1
theorem Inv.mod (I : Inv X pins σ H s) : Mod X.K X.mg X.base := I.ok.mod
theorem Inv.kIn (I : Inv X pins σ H s) : X.K.In s.heap := I.ok.mod.kin.keeps I.bk
theorem Inv.nolimit (I : Inv X pins σ H s) : s.heap.NoLimit := I.ok.mod.nolimit.keeps I.bk
/-- the frame over the base: for OpenK's rules (K.In X.base is I.mod.kin) -/
theorem Inv.fr (I : Inv X pins σ H s) : ∃ m, Fr X.base X.env.locals s.heap m :=
  let ⟨m, hn, _⟩ := I.loc
  ⟨m, hn, I.bk, Nat.le_trans I.ok.bsz I.ok.above⟩
theorem Inv.lt (I : Inv X pins σ H s) : X.env.locals < s.heap.objs.size := let ⟨_, hn, _⟩ := I.loc; hn.lt
theorem Inv.sz (I : Inv X pins σ H s) : X.s₀.heap.objs.size ≤ s.heap.objs.size := Nat.le_trans I.ok.above (Nat.le_of_lt I.lt)
theorem Inv.nofs (I : Inv X pins σ H s) {a : Addr} (h : s.heap.objs.size ≤ a) : a ∉ X.fs := fun hb => by
  obtain ⟨_, o, ho, _⟩ := I.ok.funs.mem hb
  exact absurd (Nat.lt_of_lt_of_le (Heap.lt_size ho) (Nat.le_trans I.sz h)) (Nat.lt_irrefl _)
theorem Inv.cne (I : Inv X pins σ H s) : ∀ x c, X.env.cells.lookup x = some c → c ≠ X.env.locals := fun x c e z => by
  obtain ⟨v, o, ho, hd⟩ := I.cell x c e
  obtain ⟨m, ⟨o', es, ep, ho', hd', _⟩, _⟩ := I.loc
  rw [z, ho'] at ho; cases ho; rw [hd'] at hd; cases hd
theorem Inv.funs (I : Inv X pins σ H s) : s.heap.FunFrames X.base X.outer := by
  have all : ∀ (l : List Env), (∀ b ∈ frs l, b ∈ X.fs) → X.s₀.heap.FunFrames X.base l → s.heap.FunFrames X.base l := by
    intro l
    induction l with
    | nil => intro _ _; trivial
    | cons env r ih =>
      intro hs hl
      obtain ⟨hk, ⟨L, o, hf, hn, ho, hd⟩, hr⟩ := hl
      have hL : L ∈ X.fs := hs L (by unfold frs; rw [List.filterMap_cons, hf]; exact List.mem_cons_self)
      obtain ⟨sl, e⟩ := I.base.slot L o ho (I.ok.frf L hL) hL fun z => I.ok.exfs L z hL
      exact ⟨hk, ⟨L, _, hf, hn, e, hd⟩, ih (fun b hb => hs b (by unfold frs; rw [List.filterMap_cons, hf]; exact List.mem_cons_of_mem _ hb)) hr⟩
  exact all X.outer (fun _ hb => hb) I.ok.funs

/-- the frames that run, for a call -/
theorem Inv.stack (I : Inv X pins σ H s) : s.heap.FunFrames X.base X.stack := by
  rcases I.ok.stk with e | ⟨e, hf⟩
  · rw [e]; exact I.funs
  · rw [e]
    obtain ⟨m, hn, _⟩ := I.loc
    refine .cons (by rw [I.ok.kind]; decide) hf hn ?_ I.funs
    exact Heap.get?_none_of_le (Nat.le_trans I.ok.bsz I.ok.above)
theorem Inv.stkSub (I : Inv X pins σ H s) : ∀ b ∈ frs X.stack, b ∈ X.env.locals :: X.fs := fun b hb => by
  rcases I.ok.stk with e | ⟨e, hf⟩
  · rw [e] at hb; exact List.mem_cons_of_mem _ hb
  · rw [e] at hb
    unfold frs at hb
    rw [List.filterMap_cons, hf] at hb
    exact hb
theorem Inv.stkFree (I : Inv X pins σ H s) : ∀ b ∈ frs X.stack, H b = none := fun b hb => by
  rcases List.mem_cons.mp (I.stkSub b hb) with e | hb
  · rw [e]; exact I.free
  · obtain ⟨_, o, ho, _⟩ := I.ok.funs.mem hb
    exact I.base.free b o ho (I.ok.frf b hb) fun z => I.ok.exfs b z hb

/-- THE STEP: the untracked objects but the frame and the records at ch are kept (the callers' frames up to slots), the frame's map is kept, the new abstract heap is held -/
theorem Inv.step {g' : Array GenState} {t' : Nat} {d' : Drawn} {ch : List Addr} (I : Inv X pins σ H s)
    (hch : ∀ b ∈ ch, (b ∈ X.ex ∨ X.s₀.heap.objs.size ≤ b) ∧ b ≠ X.env.locals ∧ (∀ x c, X.env.cells.lookup x = some c → c ≠ b) ∧ ∀ p ∈ X.pn ++ pins, p.1 ≠ b)
    (keep : ∀ b o, b ≠ X.env.locals → b ∉ X.fs → b ∉ ch → s.heap.get? b = some o → H b = none → h'.get? b = some o)
    (slot : ∀ b o, b ≠ X.env.locals → b ∈ X.fs → b ∉ ch → s.heap.get? b = some o → H b = none → ∃ sl, h'.get? b = some { o with slots := sl }) (free : ∀ b o, b ∉ ch → s.heap.get? b = some o → H b = none → H' b = none)
    (there : ∀ b o, b ∉ ch → s.heap.get? b = some o → ∃ o', h'.get? b = some o')
    (tups : ∀ b xs, H b = some (.tup xs) → H' b = some (.tup xs)) (frzs : ∀ b o u, H b = some (.frz o u) → H' b = some (.frz o u)) (tbls : ∀ b ps, H b = some (.tbl ps) → ∃ more, H' b = some (.tbl (ps ++ more)))
    (ns : ∀ m, s.heap.Ns X.env.locals m → h'.Ns X.env.locals m) (hok : HOk X.prog X.w H' h') (hg : AllBare g') :
    Inv X pins σ H' { s with heap := h', gens := g', drawn := d', toks := t' } := by
  have neL : ∀ b o, X.s₀.heap.get? b = some o → b ≠ X.env.locals := fun b o e => Nat.ne_of_lt (Nat.lt_of_lt_of_le (Heap.lt_size e) I.ok.above)
  have neC : ∀ b o, X.s₀.heap.get? b = some o → b ∉ X.ex → b ∉ ch := fun b o e hx hb => by
    rcases (hch b hb).1 with z | z
    · exact hx z
    · exact absurd (Nat.lt_of_lt_of_le (Heap.lt_size e) z) (Nat.lt_irrefl _)
  have cellK : ∀ x c, X.env.cells.lookup x = some c → ∀ v, s.heap.IsCell c v → h'.IsCell c v := fun x c e v ⟨o, ho, hd⟩ => by
    have nch : c ∉ ch := fun z => (hch c z).2.2.1 x c e rfl
    by_cases hc : c ∈ X.fs
    · obtain ⟨sl, q⟩ := slot c o (I.cne x c e) hc nch ho (I.freeC x c e)
      exact ⟨_, q, hd⟩
    · exact ⟨o, keep c o (I.cne x c e) hc nch ho (I.freeC x c e), hd⟩
  refine ⟨I.ok, I.os, hg, ⟨fun b o e n hb hx => ?_, fun b o e n hb hx => ?_, fun b o e n hx => ?_, fun b o e hx => ?_, fun b xs e => tups b xs (I.base.tups b xs e), fun b o xs e => frzs b o xs (I.base.frzs b o xs e), fun b ps e => ?_⟩, ?_, fun x c e => ?_, ?_, fun x c e => ?_, fun p hp => ?_, hok, I.len⟩
  · exact keep b o (neL b o e) hb (neC b o e hx) (I.base.keep b o e n hb hx) (I.base.free b o e n hx)
  · obtain ⟨sl, e1⟩ := I.base.slot b o e n hb hx
    obtain ⟨sl', e2⟩ := slot b _ (neL b o e) hb (neC b o e hx) e1 (I.base.free b o e n hx)
    exact ⟨sl', e2⟩
  · obtain ⟨o', e1⟩ := I.base.there b o e hx
    exact free b o' (neC b o e hx) e1 (I.base.free b o e n hx)
  · obtain ⟨o', e1⟩ := I.base.there b o e hx
    exact there b o' (neC b o e hx) e1
  · obtain ⟨m1, e1⟩ := I.base.tbls b ps e
    obtain ⟨m2, e2⟩ := tbls b _ e1
    exact ⟨m1 ++ m2, by rw [e2, Array.append_assoc]⟩
  · obtain ⟨m, hn, hl⟩ := I.loc
    refine ⟨m, ns m hn, fun i x v e1 e2 e3 => ?_⟩
    obtain ⟨u, r, l⟩ := hl i x v e1 e2 e3
    refine ⟨u, r, ?_⟩
    rcases l with l | ⟨k, c, e, z⟩
    · exact .inl l
    · exact .inr ⟨k, c, e, cellK x c e _ z⟩
  · obtain ⟨v, z⟩ := I.cell x c e
    exact ⟨v, cellK x c e v z⟩
  · obtain ⟨m, ⟨o, _, _, ho, _⟩, _⟩ := I.loc
    exact free _ o (fun z => (hch _ z).2.1 rfl) ho I.free
  · obtain ⟨v, o, ho, hd⟩ := I.cell x c e
    exact free c o (fun z => (hch c z).2.2.1 x c e rfl) ho (I.freeC x c e)
  · obtain ⟨e, n, ne, nf, d⟩ := I.pin p hp
    have nch : p.1 ∉ ch := fun z => (hch p.1 z).2.2.2 p hp rfl
    exact ⟨keep p.1 p.2 ne nf nch e n, free p.1 p.2 nch e n, ne, nf, d⟩
/-- .. where the frame's own object is kept too -/
theorem Inv.un {t' : Nat} (I : Inv X pins σ H s) (u : Un X.fs [] H H' s.heap h') (hok : HOk X.prog X.w H' h') : Inv X pins σ H' { s with heap := h', toks := t' } := by
  obtain ⟨m, ⟨o, es, ep, ho, r⟩, _⟩ := id I.loc
  obtain ⟨sl, hL⟩ := u.any ho I.free (by simp)
  exact I.step (g' := s.gens) (d' := s.drawn) (ch := []) (fun _ z => nomatch z) (fun b o _ hb _ e n => u.keep b o e n hb (by simp)) (fun b o _ hb _ e n => u.slot b o e n hb (by simp)) (fun b o _ e n => u.free b o e n (by simp)) (fun b o _ e => u.there b o e (by simp)) u.tups u.frzs u.tbls (fun m' hm => by
    obtain ⟨o', es', ep', ho', r'⟩ := hm
    rw [ho] at ho'; cases ho'
    exact ⟨_, es', ep', hL, r'⟩) hok I.bare
/-- behind a call (or a comprehension's block): the slots of this frame may have changed too, the records at ch may have turned -/
theorem Inv.call {g' : Array GenState} {t' : Nat} {d' : Drawn} {ch : List Addr} (I : Inv X pins σ H s) (u : Un (frs X.stack) ch H H' s.heap h') (hok : HOk X.prog X.w H' h') (hg : AllBare g')
    (hch : ∀ b ∈ ch, (b ∈ X.ex ∨ X.s₀.heap.objs.size ≤ b) ∧ b ≠ X.env.locals ∧ (∀ x c, X.env.cells.lookup x = some c → c ≠ b) ∧ ∀ p ∈ X.pn ++ pins, p.1 ≠ b) :
    Inv X pins σ H' { s with heap := h', gens := g', drawn := d', toks := t' } := by
  obtain ⟨m, ⟨o, es, ep, ho, r⟩, _⟩ := id I.loc
  obtain ⟨sl, hL⟩ := u.any ho I.free fun z => (hch _ z).2.1 rfl
  exact I.step (ch := ch) hch (fun b o hL hb hc e n => u.keep b o e n (fun z => (List.mem_cons.mp (I.stkSub b z)).elim hL hb) hc) (fun b o _ _ hc e n => u.any e n hc) (fun b o hc e n => u.free b o e n hc) (fun b o hc e => u.there b o e hc) u.tups u.frzs u.tbls (fun m' hm => by
    obtain ⟨o', es', ep', ho', r'⟩ := hm
    rw [ho] at ho'; cases ho'
    exact ⟨_, es', ep', hL, r'⟩) hok hg
/-- an untracked record of ours (an iterator) has turned -/
theorem Inv.turned {t' : Nat} {it : Addr} (I : Inv X pins σ H s) (k : ∀ b o, b ≠ it → s.heap.get? b = some o → h'.get? b = some o) (hn : H it = none) (hL : it ≠ X.env.locals)
    (h1 : it ∈ X.ex ∨ X.s₀.heap.objs.size ≤ it) (h2 : ∀ x c, X.env.cells.lookup x = some c → c ≠ it) (h3 : ∀ p ∈ X.pn ++ pins, p.1 ≠ it) : Inv X pins σ H { s with heap := h', toks := t' } := by
  have nit : ∀ b u, H b = some u → b ≠ it := fun b u e z => by rw [z, hn] at e; cases e
  refine I.step (g' := s.gens) (d' := s.drawn) (ch := [it]) (fun b hb => ?_) (fun b o _ _ hc e _ => k b o (fun z => hc (by simp [z])) e) (fun b o _ _ hc e _ => ⟨o.slots, k b o (fun z => hc (by simp [z])) e⟩) (fun _ _ _ _ n => n)
    (fun b o hc e => ⟨o, k b o (fun z => hc (by simp [z])) e⟩) (fun _ _ e => e) (fun _ _ _ e => e) (fun b ps e => ⟨#[], by rw [e]; simp⟩) (fun m hm => ?_) (fun b u e => ?_) I.bare
  · have e : b = it := by simpa using hb
    subst e
    exact ⟨h1, hL, h2, h3⟩
  · obtain ⟨o, es, ep, ho, r⟩ := hm
    exact ⟨o, es, ep, k _ o (Ne.symm hL) ho, r⟩
  · refine (I.hok b u e).stay (fun c v hc q => k c v ?_ q) (fun _ q => q) fun _ _ q => q
    rcases hc with z | z
    · rw [z]; exact nit b u e
    · exact nit c _ z
theorem Inv.tok (I : Inv X pins σ H s) (t : Nat) : Inv X pins σ H { s with toks := t } := I.un (h' := s.heap) (t' := t) Un.refl I.hok
/-- all objects kept -/
theorem Inv.kept {t' : Nat} (I : Inv X pins σ H s) (k : ∀ b u, s.heap.get? b = some u → h'.get? b = some u) : Inv X pins σ H { s with heap := h', toks := t' } := I.un (Un.kept k) (I.hok.kept k)
/-- a new object laid and tracked -/
theorem Inv.laid {a : Addr} {o : HO} {t' : Nat} (I : Inv X pins σ H s) (k : ∀ b u, s.heap.get? b = some u → h'.get? b = some u) (hp : s.heap.objs.size ≤ a) (new : ObjOk X.prog X.w (upd H a o) h' a o) :
    Inv X pins σ (upd H a o) { s with heap := h', toks := t' } := I.un (Un.laid k hp (I.hok.fresh hp)) (I.hok.laid k hp new)
/-- an object written -/
theorem Inv.write {x e : Addr} {o : HO} {t' : Nat} (I : Inv X pins σ H s) (mu : Mut (H x)) (he : e = x ∨ H e = some (.own x)) (k : ∀ b u, b ≠ e → s.heap.get? b = some u → h'.get? b = some u) (heo : ∃ u, h'.get? e = some u)
    (new : ObjOk X.prog X.w (upd H x o) h' x o) : Inv X pins σ (upd H x o) { s with heap := h', toks := t' } := I.un (Un.write mu he k heo) (I.hok.write mu he k heo new)
theorem Inv.pins_of {pins' : List (Addr × Obj)} (I : Inv X pins σ H s) (h : ∀ p ∈ pins', s.heap.get? p.1 = some p.2 ∧ H p.1 = none ∧ p.1 ≠ X.env.locals ∧ p.1 ∉ X.fs ∧ ∀ v, p.2.data ≠ .cell v) : Inv X pins' σ H s :=
  ⟨I.ok, I.os, I.bare, I.base, I.loc, I.cell, I.free, I.freeC, fun p hp => (List.mem_append.mp hp).elim (fun z => I.pin p (List.mem_append_left _ z)) (h p), I.hok, I.len⟩

theorem nodup_ix {N : List Str} (hN : N.Nodup) {i j : Nat} {x : Str} (a : N[i]? = some x) (b : N[j]? = some x) : i = j := by
  obtain ⟨h1, e1⟩ := List.getElem?_eq_some_iff.mp a
  obtain ⟨h2, e2⟩ := List.getElem?_eq_some_iff.mp b
  exact (List.getElem_inj hN).mp (e1.trans e2.symm)

/-- a name is stored; what changed -/
theorem store_ok2 {M : Model} {A : Around} {E : Value → Shared → Prop} {i : Nat} {x : Str} {v : V} {u : Value} {Q : Unit → Shared → Prop} (I : Inv X pins σ H s) (hN : X.N.Nodup) (hi : X.N[i]? = some x) (hx : Loc X.env.scope x) (r : RelV v u)
    (h : ∀ s', Inv X pins (σ.set i (some v)) H s' → (∃ a, Heap.SameBut a s.heap s'.heap ∧ (a = X.env.locals ∨ X.env.cells.lookup x = some a)) → Q () s') (hf : X.fn x = true ∨ X.env.scope.names.lookup x = some .local := by first | exact .inl rfl | exact .inr rfl | assumption) : wpAny M A (storeName X.env x u) Q E s := by
  obtain ⟨m, hn, hl⟩ := id I.loc
  have hcls : (X.env.scope.kind == .class || (X.env.scope.kind == .module && X.env.locals != X.env.globals)) = false := by rw [I.ok.kind]; rfl
  have hiσ : i < σ.length := by rw [I.len]; exact (List.getElem?_eq_some_iff.mp hi).1
  have cne := I.cne
  have tracked : ∀ {a : Addr} {h' : Heap}, (∃ o, s.heap.get? a = some o ∧ H a = none) → Heap.SameBut a s.heap h' → HOk X.prog X.w H h' := fun {a h'} ha hs b ob e => by
    obtain ⟨_, _, hfree⟩ := ha
    refine (I.hok b ob e).stay (fun c w' hc q => (hs.2 c ?_).trans q) (fun _ q => q) fun _ _ q => q
    rintro rfl
    rcases hc with rfl | hc
    · rw [hfree] at e; cases e
    · rw [hfree] at hc; cases hc
  rcases hx with hk | hk
  · refine wpAny_storeName_local hk hn (fun h' hn' hs => ?_) hcls
    obtain ⟨oL, _, _, hoL, _⟩ := id hn
    refine h _ ⟨I.ok, I.os, I.bare, ⟨fun b o e n hb hx => ?_, fun b o e n hb hx => ?_, I.base.free, fun b o e hx => ?_, I.base.tups, I.base.frzs, I.base.tbls⟩, ⟨_, hn', fun j y v' e1 e2 e3 => ?_⟩, fun y c e => ?_, I.free, I.freeC, fun p hp => ?_, tracked ⟨oL, hoL, I.free⟩ hs, by simpa using I.len⟩ ⟨_, hs, .inl rfl⟩
    · exact (hs.2 b (Nat.ne_of_lt (Nat.lt_of_lt_of_le (Heap.lt_size e) I.ok.above))).trans (I.base.keep b o e n hb hx)
    · obtain ⟨sl, e1⟩ := I.base.slot b o e n hb hx
      exact ⟨sl, (hs.2 b (Nat.ne_of_lt (Nat.lt_of_lt_of_le (Heap.lt_size e) I.ok.above))).trans e1⟩
    · obtain ⟨o', e1⟩ := I.base.there b o e hx
      exact ⟨o', (hs.2 b (Nat.ne_of_lt (Nat.lt_of_lt_of_le (Heap.lt_size e) I.ok.above))).trans e1⟩
    · by_cases hj : j = i
      · subst hj
        rw [hi] at e1; cases e1
        rw [List.getElem?_set_self hiσ] at e2
        cases e2
        exact ⟨u, r, .inl ⟨hk, by simp⟩⟩
      · rw [List.getElem?_set_ne (Ne.symm hj)] at e2
        obtain ⟨u', r', q⟩ := hl j y v' e1 e2 e3
        refine ⟨u', r', ?_⟩
        rcases q with ⟨k, e⟩ | ⟨k, c, e, z⟩
        · refine .inl ⟨k, ?_⟩
          have : y ≠ x := fun e => hj (nodup_ix hN e1 (e ▸ hi))
          simp [this, e]
        · exact .inr ⟨k, c, e, z.sameBut hs (cne y c e)⟩
    · obtain ⟨w', z⟩ := I.cell y c e
      exact ⟨w', z.sameBut hs (cne y c e)⟩
    · obtain ⟨e, n, ne, nf, d⟩ := I.pin p hp
      exact ⟨(hs.2 p.1 ne).trans e, n, ne, nf, d⟩
  · have hfn : X.fn x = true := by
      rcases hf with z | z
      · exact z
      · rw [z] at hk; cases hk
    obtain ⟨c, hc⟩ := I.ok.has x (.inl hk)
    obtain ⟨w', z⟩ := I.cell x c hc
    refine wpAny_storeName_cell I.ok.kind hk hc z (fun h' hc' hs => ?_)
    obtain ⟨oc, hoc, hocd⟩ := id z
    refine h { s with heap := h' } ⟨I.ok, I.os, I.bare, ⟨fun b o e n hb hx => ?_, fun b o e n hb hx => ?_, I.base.free, fun b o e hx => ?_, I.base.tups, I.base.frzs, I.base.tbls⟩, ⟨m, hn.sameBut hs (Ne.symm (cne x c hc)), fun j y v' e1 e2 e3 => ?_⟩, fun y c' e => ?_, I.free, I.freeC, fun p hp => ?_, tracked ⟨oc, hoc, I.freeC x c hc⟩ hs, by simpa using I.len⟩ ⟨c, hs, .inr hc⟩
    · exact (hs.2 b (Nat.ne_of_lt (Nat.lt_of_lt_of_le (Heap.lt_size e) (I.ok.cab x c hfn hc)))).trans (I.base.keep b o e n hb hx)
    · obtain ⟨sl, e1⟩ := I.base.slot b o e n hb hx
      exact ⟨sl, (hs.2 b (Nat.ne_of_lt (Nat.lt_of_lt_of_le (Heap.lt_size e) (I.ok.cab x c hfn hc)))).trans e1⟩
    · obtain ⟨o', e1⟩ := I.base.there b o e hx
      exact ⟨o', (hs.2 b (Nat.ne_of_lt (Nat.lt_of_lt_of_le (Heap.lt_size e) (I.ok.cab x c hfn hc)))).trans e1⟩
    · by_cases hj : j = i
      · subst hj
        rw [hi] at e1; cases e1
        rw [List.getElem?_set_self hiσ] at e2
        cases e2
        exact ⟨u, r, .inr ⟨.inl hk, c, hc, hc'⟩⟩
      · rw [List.getElem?_set_ne (Ne.symm hj)] at e2
        obtain ⟨u', r', q⟩ := hl j y v' e1 e2 e3
        refine ⟨u', r', ?_⟩
        rcases q with q | ⟨k, c', e, z'⟩
        · exact .inl q
        · refine .inr ⟨k, c', e, z'.sameBut hs ?_⟩
          rintro rfl
          exact hj (nodup_ix hN e1 (I.ok.inj _ _ _ e hc ▸ hi))
    · by_cases hcc : c' = c
      · subst hcc; exact ⟨_, hc'⟩
      · obtain ⟨w2, z2⟩ := I.cell y c' e
        exact ⟨w2, z2.sameBut hs hcc⟩
    · obtain ⟨e, n, ne, nf, d⟩ := I.pin p hp
      refine ⟨(hs.2 p.1 ?_).trans e, n, ne, nf, d⟩
      intro q
      rw [q, hoc] at e
      have q' : oc = p.2 := Option.some.inj e
      exact d w' (by rw [← q']; exact hocd)
theorem store_ok {M : Model} {A : Around} {E : Value → Shared → Prop} {i : Nat} {x : Str} {v : V} {u : Value} {Q : Unit → Shared → Prop} (I : Inv X pins σ H s) (hN : X.N.Nodup) (hi : X.N[i]? = some x) (hx : Loc X.env.scope x) (r : RelV v u)
    (h : ∀ s', Inv X pins (σ.set i (some v)) H s' → Q () s') (hf : X.fn x = true ∨ X.env.scope.names.lookup x = some .local := by first | exact .inl rfl | exact .inr rfl | assumption) : wpAny M A (storeName X.env x u) Q E s :=
  store_ok2 I hN hi hx r (fun s' I' _ => h s' I') hf
/-- behind a call or a block, the state as it is -/
theorem Inv.call' {s' : Shared} {ch : List Addr} (I : Inv X pins σ H s) (ho : s'.os = s.os) (u : Un (frs X.stack) ch H H' s.heap s'.heap) (hok : HOk X.prog X.w H' s'.heap) (hg : AllBare s'.gens)
    (hch : ∀ b ∈ ch, (b ∈ X.ex ∨ X.s₀.heap.objs.size ≤ b) ∧ b ≠ X.env.locals ∧ (∀ x c, X.env.cells.lookup x = some c → c ≠ b) ∧ ∀ p ∈ X.pn ++ pins, p.1 ≠ b) : Inv X pins σ H' s' := by
  obtain ⟨h', g', d', t', o'⟩ := s'
  have e : o' = s.os := ho
  subst e
  exact I.call (g' := g') (t' := t') (d' := d') u hok hg hch
end

/-! ### the judgements -/
/-- an exception: its class, its own dict's address (where it has one), the abstract heap behind it -/
abbrev XK := Value → Option Addr → Hp → Prop
abbrev St := List (Option V)
abbrev VK := V → Hp → Prop
/-- an expression's reading; a test's; an argument list's -/
abbrev TE := St → Hp → VK → Prop
abbrev TT := St → Hp → (Bool → Hp → Prop) → Prop
abbrev TA := St → Hp → (List V → Hp → Prop) → Prop
/-- what is wanted behind a statement -/
structure Ends where
  nx : St → Hp → Prop
  rt : VK
  bk : St → Hp → Prop := fun _ _ => False
  ct : St → Hp → Prop := fun _ _ => False
abbrev TS := Ends → St → Hp → Prop

def EP (X : Cx) (pins : List (Addr × Obj)) (σ : St) (Q : VK) (u : Value) (s' : Shared) : Prop := ∃ v H', Inv X pins σ H' s' ∧ RelV v u ∧ Q v H'
def TP (X : Cx) (pins : List (Addr × Obj)) (σ : St) (Q : Bool → Hp → Prop) (b : Bool) (s' : Shared) : Prop := ∃ H', Inv X pins σ H' s' ∧ Q b H'
def AP (X : Cx) (pins : List (Addr × Obj)) (σ : St) (Q : List V → Hp → Prop) (us : List Value) (s' : Shared) : Prop := ∃ vs H', Inv X pins σ H' s' ∧ Vals vs us ∧ Q vs H'
def SP (X : Cx) (pins : List (Addr × Obj)) (D : Ends) (f : Flow) (s' : Shared) : Prop :=
  match f with
  | .next => ∃ σ' H', Inv X pins σ' H' s' ∧ D.nx σ' H'
  | .brk => ∃ σ' H', Inv X pins σ' H' s' ∧ D.bk σ' H'
  | .cont => ∃ σ' H', Inv X pins σ' H' s' ∧ D.ct σ' H'
  | .ret u => ∃ v σ' H', Inv X pins σ' H' s' ∧ RelV v u ∧ D.rt v H'

def PE (X : Cx) (e : Expr) (t : TE) : Prop :=
  ∀ (pins : List (Addr × Obj)) (s : Shared) (σ : St) (H : Hp) (Q : VK), Inv X pins σ H s → t σ H Q → wpAny (model X.prog X.w) X.A (eval e X.env) (EP X pins σ Q) X.xe s
def PT (X : Cx) (e : Expr) (t : TT) : Prop :=
  ∀ (pins : List (Addr × Obj)) (s : Shared) (σ : St) (H : Hp) (Q : Bool → Hp → Prop), Inv X pins σ H s → t σ H Q → wpAny (model X.prog X.w) X.A (isTrue e X.env (eval e X.env)) (TP X pins σ Q) X.xe s
/-- a test whatever its 'whole' is (and, or) -/
def PW (X : Cx) (e : Expr) (t : TT) : Prop :=
  ∀ (whole : Sem Value) (pins : List (Addr × Obj)) (s : Shared) (σ : St) (H : Hp) (Q : Bool → Hp → Prop), Inv X pins σ H s → t σ H Q → wpAny (model X.prog X.w) X.A (isTrue e X.env whole) (TP X pins σ Q) X.xe s
theorem PW.pt {X : Cx} {e : Expr} {t : TT} (h : PW X e t) : PT X e t := h _
/-- an argument list (no star), from the left -/
def PA (X : Cx) (es : List Expr) (t : TA) : Prop :=
  ∀ (pos : Pos) (pins : List (Addr × Obj)) (s : Shared) (σ : St) (H : Hp) (Q : List V → Hp → Prop), Inv X pins σ H s → t σ H Q → wpAny (model X.prog X.w) X.A (spliced (backTo pos (starEach es X.env))) (AP X pins σ Q) X.xe s
def PS (X : Cx) (st : Stmt) (t : TS) : Prop :=
  ∀ (pins : List (Addr × Obj)) (s : Shared) (σ : St) (H : Hp) (D : Ends), Inv X pins σ H s → t D σ H → wpAny (model X.prog X.w) X.A (exec st X.env) (SP X pins D) X.xe s
def PSs (X : Cx) (st : List Stmt) (t : TS) : Prop :=
  ∀ (pins : List (Addr × Obj)) (s : Shared) (σ : St) (H : Hp) (D : Ends), Inv X pins σ H s → t D σ H → wpAny (model X.prog X.w) X.A (execs st X.env) (SP X pins D) X.xe s
/-- weaken the end -/
theorem thn {α : Type} {t : Sem α} {Q Q' : α → Shared → Prop} {M : Model} {A : Around} {E : Value → Shared → Prop} {s : Shared} (h : wpAny M A t Q E s) (hQ : ∀ a s, Q a s → Q' a s) : wpAny M A t Q' E s := wpAny_mono h hQ fun _ _ x => x
end L2

namespace L2
open PySem PySem.Spec PyProof.Rows
section
variable {X : Cx}

/-! ### names and constants -/
def tVar (i : Nat) : TE := fun σ H Q => ∃ v, σ[i]? = some (some v) ∧ Q v H
def tC (v : V) : TE := fun _ H Q => Q v H
theorem pe_var {i : Nat} {x : Str} {pos : Pos} (hN : X.N[i]? = some x) (hv : Vis X.env.scope x) (hd : (x == ("__debug__" : Str)) = false := by decide) (hcd : (x == ("__classdict__" : Str)) = false := by decide) : PE X (.Name x pos) (tVar i) := by
  intro pins s σ H Q I h
  obtain ⟨v, e, h⟩ := h
  obtain ⟨m, hn, hl⟩ := I.loc
  obtain ⟨u, r, l⟩ := hl i x v hN e hv
  have fin : EP X pins σ Q u s := ⟨v, H, I, r, h⟩
  rcases l with ⟨hk, hm⟩ | ⟨hk, c, hc, hcell⟩
  · exact wpAny_Name (wpAny_loadName_local I.ok.kind hk hn hm fin) hd
  · rcases hk with hk | hk
    · exact wpAny_Name (wpAny_loadName_cell I.ok.kind hk hc hcell fin) hd
    · exact wpAny_Name (wpAny_loadName_free I.ok.kind hk hc hcell fin hcd) hd
theorem pe_int {i j pos} : PE X (.Constant (.int i) j pos) (tC (.int i)) := fun _ _ _ H _ I h => wpAny_Constant_int ⟨.int i, H, I.tok _, ⟨_, rfl⟩, h⟩
theorem pe_bl {b j pos} : PE X (.Constant (.bool b) j pos) (tC (.bl b)) := fun _ _ _ H _ I h => Constant_bool ⟨.bl b, H, I, rfl, h⟩
theorem pe_non {j pos} : PE X (.Constant .none j pos) (tC .non) := fun _ _ _ H _ I h => Constant_none ⟨.non, H, I, rfl, h⟩
/-- a global name of the def -/
def Gl (X : Cx) (x : Str) : Prop := X.env.kindOf x = some .globalImplicit
theorem ld_glob {E : Value → Shared → Prop} {pins : List (Addr × Obj)} {s : Shared} {σ : St} {H : Hp} {x : Str} {u : Value} {pos : Pos} {Q : Value → Shared → Prop} (I : Inv X pins σ H s) (hg : Gl X x) (hm : X.mg x = some u) (h : Q u s)
    (hd : (x == ("__debug__" : Str)) = false := by decide) : wpAny (model X.prog X.w) X.A (eval (.Name x pos) X.env) Q E s :=
  Calls.Name_function_global I.ok.kind hg (Calls.loadGlobal_global (by rw [I.ok.glob]; exact I.mod.glob.keeps I.bk) hm h) hd
theorem ld_blt {E : Value → Shared → Prop} {pins : List (Addr × Obj)} {s : Shared} {σ : St} {H : Hp} {x : Str} {u : Value} {pos : Pos} {Q : Value → Shared → Prop} (I : Inv X pins σ H s) (hg : Gl X x) (hm : X.mg x = none) (hv : bootBuiltins x = some u) (h : Q u s)
    (hn : x ≠ "__name__" := by decide) (hd : (x == ("__debug__" : Str)) = false := by decide) : wpAny (model X.prog X.w) X.A (eval (.Name x pos) X.env) Q E s := by
  obtain ⟨mb, h1, h2⟩ := I.mod.blt
  exact Calls.Name_function_global I.ok.kind hg (Calls.loadGlobal_builtin (by rw [I.ok.glob]; exact I.mod.glob.keeps I.bk) hm (by rw [I.ok.blt]; exact h1.keeps I.bk) ((h2 x hn).trans hv) h) hd
/-- a module's constant, a class, a function, as a value -/
theorem pe_glob {x : Str} {v : V} {u : Value} {pos : Pos} (hg : Gl X x) (hm : X.mg x = some u) (r : RelV v u) (hd : (x == ("__debug__" : Str)) = false := by decide) : PE X (.Name x pos) (tC v) :=
  fun _ _ _ H _ I h => ld_glob I hg hm ⟨v, H, I, r, h⟩ hd
theorem pe_bltn {x : Str} {v : V} {u : Value} {pos : Pos} (hg : Gl X x) (hm : X.mg x = none) (hv : bootBuiltins x = some u) (r : RelV v u) (hn : x ≠ "__name__" := by decide) (hd : (x == ("__debug__" : Str)) = false := by decide) : PE X (.Name x pos) (tC v) :=
  fun _ _ _ H _ I h => ld_blt I hg hm hv ⟨v, H, I, r, h⟩ hn hd

/-! ### arithmetic -/
/-- two ints -/
def t2I (ta tb : TE) (k : Int → Int → Hp → Prop) : St → Hp → Prop := fun σ H => ta σ H fun x H1 => tb σ H1 fun y H2 => ∃ i j, x = .int i ∧ y = .int j ∧ k i j H2
def tAdd (ta tb : TE) : TE := fun σ H Q => t2I ta tb (fun i j H2 => Q (.int (i + j)) H2) σ H
def tSub (ta tb : TE) : TE := fun σ H Q => t2I ta tb (fun i j H2 => Q (.int (i - j)) H2) σ H
/-- the left factor below 2^64 -/
def tMul (ta tb : TE) : TE := fun σ H Q => t2I ta tb (fun i j H2 => (-(2 ^ 64) < i ∧ i < 2 ^ 64) ∧ Q (.int (i * j)) H2) σ H
variable {a b : Expr} {ta tb : TE} {pos : Pos}
/-! ### comparisons -/
def PC (X : Cx) (op : CmpOp) (a b : Expr) (t : TE) : Prop :=
  ∀ (pins : List (Addr × Obj)) (s : Shared) (σ : St) (H : Hp) (Q : VK), Inv X pins σ H s → t σ H Q →
    wpAny (model X.prog X.w) X.A (eval a X.env) (fun v s₁ => wpAny (model X.prog X.w) X.A (eval b X.env) (fun u s₂ => wpAny (model X.prog X.w) X.A (compareOp op v u) (EP X pins σ Q) X.xe s₂) X.xe s₁) X.xe s
def tCmp (p : Int → Int → Bool) (ta tb : TE) : TE := fun σ H Q => t2I ta tb (fun i j H2 => Q (.bl (p i j)) H2) σ H
abbrev tLt : TE → TE → TE := tCmp fun i j => decide (i < j)
abbrev tLe : TE → TE → TE := tCmp fun i j => decide (i ≤ j)
abbrev tGt : TE → TE → TE := tCmp fun i j => decide (j < i)
abbrev tGe : TE → TE → TE := tCmp fun i j => decide (j ≤ i)
abbrev tEqI : TE → TE → TE := tCmp fun i j => decide (i = j)
abbrev tNeI : TE → TE → TE := tCmp fun i j => !decide (i = j)
/-- is None -/
def tIsN (ta : TE) : TE := fun σ H Q => ta σ H fun x H1 => Q (.bl (decide (x = .non))) H1
def tNotN (ta : TE) : TE := fun σ H Q => ta σ H fun x H1 => Q (.bl (!decide (x = .non))) H1
/-- a comparison as a value, as a test -/
def tB (t : TE) : TT := fun σ H Q => t σ H fun x H1 => ∃ c, x = .bl c ∧ Q c H1
/-- an expression whose value is a bool, as a test -/
theorem pt_val {e : Expr} {t : TE} (h : PE X e t) (he : ∀ whole, isTrue e X.env whole = (do let v ← whole; standAt e.pos; holding [v] (truthy v)) := by intro _; rfl) : PT X e (tB t) := by
  intro pins s σ H Q I hw
  refine isTrue_plain (thn (h pins s σ H _ I hw) fun v s1 ⟨x, H1, I1, r1, q1⟩ => ?_) (he _)
  obtain ⟨d, rfl, q⟩ := q1
  cases r1
  exact wpAny_truthy_bool ⟨H1, I1, q⟩

/-! ### and, or, not -/
variable {tA tB' : TT} {rest : List Expr}
def tAnd (t u : TT) : TT := fun σ H Q => t σ H fun c H1 => if c = true then u σ H1 Q else Q false H1
def tOr (t u : TT) : TT := fun σ H Q => t σ H fun c H1 => if c = true then Q true H1 else u σ H1 Q
def tNot (t : TT) : TT := fun σ H Q => t σ H fun c H1 => Q (!c) H1
theorem pw_and1 (ha : PT X a tA) : PW X (.BoolOp .And [a] pos) tA := by
  intro wh pins s σ H Q I h
  refine isTrue_and (thn (ha pins s σ H Q I h) fun c s1 e => ?_)
  cases c with
  | true => exact isTrue_and_nil e
  | false => exact e
theorem pw_or1 (ha : PT X a tA) : PW X (.BoolOp .Or [a] pos) tA := by
  intro wh pins s σ H Q I h
  refine isTrue_or (thn (ha pins s σ H Q I h) fun c s1 e => ?_)
  cases c with
  | false => exact isTrue_or_nil e
  | true => exact e
theorem pw_and (ha : PT X a tA) (hb : PW X (.BoolOp .And (b :: rest) pos) tB') : PW X (.BoolOp .And (a :: b :: rest) pos) (tAnd tA tB') := by
  intro wh pins s σ H Q I h
  refine isTrue_and (thn (ha pins s σ H _ I h) fun c s1 ⟨H1, I1, q1⟩ => ?_)
  cases c with
  | true => exact hb wh pins s1 σ H1 Q I1 q1
  | false => exact ⟨H1, I1, q1⟩
theorem pw_or (ha : PT X a tA) (hb : PW X (.BoolOp .Or (b :: rest) pos) tB') : PW X (.BoolOp .Or (a :: b :: rest) pos) (tOr tA tB') := by
  intro wh pins s σ H Q I h
  refine isTrue_or (thn (ha pins s σ H _ I h) fun c s1 ⟨H1, I1, q1⟩ => ?_)
  cases c with
  | true => exact ⟨H1, I1, q1⟩
  | false => exact hb wh pins s1 σ H1 Q I1 q1
theorem pt_not (ha : PT X a tA) : PT X (.UnaryOp .Not a pos) (tNot tA) := by
  intro pins s σ H Q I h
  exact isTrue_not (ha pins s σ H (fun c H1 => Q (!c) H1) I h)
/-- .. as values (bools) -/
def tAndV (ta tb : TE) : TE := fun σ H Q => ta σ H fun x H1 => ∃ c, x = .bl c ∧ if c = true then tb σ H1 Q else Q (.bl false) H1
def tOrV (ta tb : TE) : TE := fun σ H Q => ta σ H fun x H1 => ∃ c, x = .bl c ∧ if c = true then Q (.bl true) H1 else tb σ H1 Q
def tNotV (ta : TE) : TE := fun σ H Q => ta σ H fun x H1 => ∃ c, x = .bl c ∧ Q (.bl (!c)) H1
theorem pe_one {op} {t : TE} (h : PE X a t) : PE X (.BoolOp op [a] pos) t := fun pins s σ H Q I hw => BoolOp_one (h pins s σ H Q I hw)
theorem pe_and (ha : PE X a ta) (hb : PE X (.BoolOp .And (b :: rest) pos) tb) : PE X (.BoolOp .And (a :: b :: rest) pos) (tAndV ta tb) := by
  intro pins s σ H Q I h
  refine BoolOp_and (thn (ha pins s σ H _ I h) fun v s1 ⟨x, H1, I1, r1, q1⟩ => ?_)
  obtain ⟨c, rfl, q1⟩ := q1
  cases r1
  refine wpAny_truthy_bool ?_
  cases c with
  | true => exact hb pins s1 σ H1 Q I1 q1
  | false => exact ⟨.bl false, H1, I1, rfl, q1⟩
/-- a if t else b -/
def tIf (t : TT) (ta tb : TE) : TE := fun σ H Q => t σ H fun c H1 => if c = true then ta σ H1 Q else tb σ H1 Q
end
end L2

namespace L2
open PySem PySem.Spec PyProof.Rows

/-! ### a list, a tuple that is read: tracked, frozen, or an object of the module -/
def SqL (K : PySem.W.Frag) (H : Hp) (a : Addr) (xs : List V) : Prop :=
  Rd H a (.lst xs) ∨
    ∃ (o : Obj) (its : Array Value) (n : Nat), K.lookup a = some o ∧ o.cls = .type "list" ∧ o.dict = none ∧ o.data = .seq its n ∧ its.size ≤ sizeLine ∧ Vals xs its.toList
def SqT (K : PySem.W.Frag) (H : Hp) (a : Addr) (xs : List V) : Prop :=
  Rd H a (.tup xs) ∨
    ∃ (o : Obj) (its : Array Value) (n : Nat), K.lookup a = some o ∧ o.cls = .type "tuple" ∧ o.data = .seq its n ∧ its.size ≤ sizeLine ∧ Vals xs its.toList
def absV : Value → Option V
  | .none => some .non
  | .bool b => some (.bl b)
  | .int i _ => some (.int i)
  | .str x _ => some (.str x)
  | .bytes b _ => some (.byt b)
  | .float b _ => some (.flt b)
  | .ref a => some (.ref a)
  | .type n => some (.ty n)
  | _ => none
theorem RelV.abs {x : V} {u : Value} (r : RelV x u) : absV u = some x := by
  cases x with
  | non => cases r; rfl
  | bl _ => cases r; rfl
  | int _ => obtain ⟨t, rfl⟩ := r; rfl
  | str _ => obtain ⟨t, rfl⟩ := r; rfl
  | byt _ => obtain ⟨t, rfl⟩ := r; rfl
  | flt _ => obtain ⟨t, rfl⟩ := r; rfl
  | ref _ => cases r; rfl
  | ty _ => cases r; rfl
theorem RelV.inj {x y : V} {u : Value} (r : RelV x u) (q : RelV y u) : x = y := Option.some.inj (r.abs.symm.trans q.abs)
theorem Vals.inj : ∀ {xs ys : List V} {us : List Value}, Vals xs us → Vals ys us → xs = ys
  | _, _, _, .nil, .nil => rfl
  | _, _, _, .cons r t, .cons r' t' => by rw [r.inj r', Vals.inj t t']
section
variable {X : Cx} {pins : List (Addr × Obj)} {σ : St} {H : Hp} {s : Shared} {a : Addr} {xs ys : List V}
theorem SqL.of {K : PySem.W.Frag} (h : H a = some (.lst xs)) : SqL K H a xs := .inl (.inl h)
theorem SqT.of {K : PySem.W.Frag} (h : H a = some (.tup xs)) : SqT K H a xs := .inl (.inl h)
theorem Inv.list (I : Inv X pins σ H s) (h : SqL X.K H a xs) : ∃ its : List Value, Vals xs its ∧ PlainL s.heap a its.toArray ∧ xs.length ≤ sizeLine := by
  rcases h with h | ⟨o, its, n, hk, hc, hd, hs, hz, r⟩
  · obtain ⟨z, its, n, r, e⟩ := h.ok I.hok
    exact ⟨its, r, ⟨_, n, e, rfl, rfl, rfl⟩, z⟩
  · refine ⟨its.toList, r, ⟨o, n, I.kIn a o hk, hc, hd, by simpa using hs⟩, ?_⟩
    have e := r.length
    simp only [Array.length_toList] at e
    omega
theorem Inv.tuple (I : Inv X pins σ H s) (h : SqT X.K H a xs) : ∃ its : List Value, Vals xs its ∧ IsTup s.heap a its.toArray ∧ xs.length ≤ sizeLine := by
  rcases h with h | ⟨o, its, n, hk, hc, hs, hz, r⟩
  · obtain ⟨z, its, r, p⟩ := h.ok I.hok
    exact ⟨its, r, p, z⟩
  · refine ⟨its.toList, r, ⟨o, I.kIn a o hk, hc, n, by simpa using hs⟩, ?_⟩
    have e := r.length
    simp only [Array.length_toList] at e
    omega
theorem Inv.list_inj (I : Inv X pins σ H s) (h : SqL X.K H a xs) (h' : SqL X.K H a ys) : xs = ys := by
  obtain ⟨its, r, ⟨o, n, e, _, _, d⟩, _⟩ := I.list h
  obtain ⟨its', r', ⟨o', n', e', _, _, d'⟩, _⟩ := I.list h'
  rw [e] at e'; cases e'
  rw [d] at d'
  injection d' with d1 _
  have : its = its' := by simpa using congrArg Array.toList d1
  subst this
  exact r.inj r'
theorem Inv.tuple_inj (I : Inv X pins σ H s) (h : SqT X.K H a xs) (h' : SqT X.K H a ys) : xs = ys := by
  obtain ⟨its, r, ⟨o, e, _, n, d⟩, _⟩ := I.tuple h
  obtain ⟨its', r', ⟨o', e', _, n', d'⟩, _⟩ := I.tuple h'
  rw [e] at e'; cases e'
  rw [d] at d'
  injection d' with d1 _
  have : its = its' := by simpa using congrArg Array.toList d1
  subst this
  exact r.inj r'
end

/-! ### another wish about exceptions -/
abbrev Cx.wish (X : Cx) (E : Value → Shared → Prop) : Cx := { X with xe := E }
/-- no exception leaves -/
abbrev Cx.nox (X : Cx) : Cx := X.wish fun _ _ => False
theorem Cx.Ok.wish {X : Cx} (ok : X.Ok) (E : Value → Shared → Prop) : (X.wish E).Ok :=
  ⟨ok.mod, ok.kind, ok.glob, ok.blt, ok.above, ok.inj, ok.has, ok.cab, ok.hd, ok.frames, ok.stk, ok.exf, ok.bs, ok.bsz, ok.noex, ok.exfs, ok.funs, ok.frf⟩
theorem Cx.Ok.unwish {X : Cx} {E : Value → Shared → Prop} (ok : (X.wish E).Ok) : X.Ok :=
  ⟨ok.mod, ok.kind, ok.glob, ok.blt, ok.above, ok.inj, ok.has, ok.cab, ok.hd, ok.frames, ok.stk, ok.exf, ok.bs, ok.bsz, ok.noex, ok.exfs, ok.funs, ok.frf⟩
section
variable {X : Cx} {pins : List (Addr × Obj)} {σ : St} {H : Hp} {s : Shared} {E : Value → Shared → Prop}
theorem Inv.wish (I : Inv X pins σ H s) (E : Value → Shared → Prop) : Inv (X.wish E) pins σ H s := ⟨I.ok.wish E, I.os, I.bare, I.base, I.loc, I.cell, I.free, I.freeC, I.pin, I.hok, I.len⟩
theorem Inv.unwish (I : Inv (X.wish E) pins σ H s) : Inv X pins σ H s := ⟨I.ok.unwish, I.os, I.bare, I.base, I.loc, I.cell, I.free, I.freeC, I.pin, I.hok, I.len⟩
theorem SP.unwish {D : Ends} {f : Flow} {s' : Shared} (h : SP (X.wish E) pins D f s') : SP X pins D f s' := by
  cases f with
  | next => obtain ⟨σ', H', I, q⟩ := h; exact ⟨σ', H', I.unwish, q⟩
  | brk => obtain ⟨σ', H', I, q⟩ := h; exact ⟨σ', H', I.unwish, q⟩
  | cont => obtain ⟨σ', H', I, q⟩ := h; exact ⟨σ', H', I.unwish, q⟩
  | ret u => obtain ⟨v, σ', H', I, r, q⟩ := h; exact ⟨v, σ', H', I.unwish, r, q⟩
theorem PE.nox {e : Expr} {t : TE} (h : PE X.nox e t) : PE X e t := fun pins s σ H Q I hw =>
  wpAny_mono (h pins s σ H Q (I.wish _) hw) (fun _ _ ⟨v, H', I', r, q⟩ => ⟨v, H', I'.unwish, r, q⟩) fun _ _ z => False.elim z
theorem PT.nox {e : Expr} {t : TT} (h : PT X.nox e t) : PT X e t := fun pins s σ H Q I hw =>
  wpAny_mono (h pins s σ H Q (I.wish _) hw) (fun _ _ ⟨H', I', q⟩ => ⟨H', I'.unwish, q⟩) fun _ _ z => False.elim z
theorem PSs.nox {st : List Stmt} {t : TS} (h : PSs X.nox st t) : PSs X st t := fun pins s σ H D I hw =>
  wpAny_mono (h pins s σ H D (I.wish _) hw) (fun _ _ q => q.unwish) fun _ _ z => False.elim z
end

/-! ### blocks and small statements -/
section
variable {X : Cx} {st : Stmt} {rest : List Stmt} {t u : TS} {e : Expr} {te : TE} {pos : Pos}
def tNext : TS := fun D σ H => D.nx σ H
def tSeq (t u : TS) : TS := fun D σ H => t { D with nx := u D } σ H
theorem pss_nil : PSs X [] tNext := fun _ _ σ H _ I h => wpAny_execs_nil ⟨σ, H, I, h⟩
theorem pss_cons (h1 : PS X st t) (h2 : PSs X rest u) : PSs X (st :: rest) (tSeq t u) := by
  intro pins s σ H D I h
  refine wpAny_execs_cons (thn (h1 pins s σ H { D with nx := u D } I h) fun f s1 q => ?_)
  cases f with
  | next =>
    obtain ⟨σ', H', I', q⟩ := q
    exact h2 pins s1 σ' H' D I' q
  | ret v => exact q
  | brk => exact q
  | cont => exact q
theorem pss_one (h1 : PS X st t) : PSs X [st] t := by
  intro pins s σ H D I h
  refine wpAny_execs_cons (thn (h1 pins s σ H D I h) fun f s1 q => ?_)
  cases f with
  | next => exact wpAny_execs_nil q
  | ret v => exact q
  | brk => exact q
  | cont => exact q
def tBreak : TS := fun D σ H => D.bk σ H
def tCont : TS := fun D σ H => D.ct σ H
theorem ps_break : PS X (.Break pos) tBreak := fun _ _ σ H _ I h => wpAny_Break ⟨σ, H, I, h⟩
theorem ps_continue : PS X (.Continue pos) tCont := fun _ _ σ H _ I h => wpAny_Continue ⟨σ, H, I, h⟩
/-- in a def's body nothing is shown -/
theorem Inv.quiet {pins : List (Addr × Obj)} {σ : St} {H : Hp} {s : Shared} (I : Inv X pins σ H s) : interactive X.env = false := by simp [interactive, I.ok.kind]
/-- an expression whose value is dropped -/
def tDrop (te : TE) : TS := fun D σ H => te σ H fun _ H1 => D.nx σ H1
theorem ps_expr (he : PE X e te) (hs : swapsWith e none pos.line X.env = pure false := by rfl) : PS X (.Expr e pos) (tDrop te) := by
  intro pins s σ H D I h
  exact wpAny_Expr_any (thn (he pins s σ H _ I h) fun v s1 ⟨x, H1, I1, r1, q1⟩ => ⟨σ, H1, I1, q1⟩) I.quiet hs
def tRet (te : TE) : TS := fun D σ H => te σ H D.rt
theorem ps_ret (he : PE X e te) : PS X (.Return (some e) pos) (tRet te) := by
  intro pins s σ H D I h
  exact wpAny_Return_some (thn (he pins s σ H _ I h) fun v s1 ⟨x, H1, I1, r1, q1⟩ => ⟨x, σ, H1, I1, r1, q1⟩)
def tRetN : TS := fun D _ H => D.rt .non H
def tIfS (c : TT) (t u : TS) : TS := fun D σ H => c σ H fun b H1 => if b = true then t D σ H1 else u D σ H1
theorem ps_if {c : Expr} {a b : List Stmt} {tc : TT} (hc : PT X c tc) (ha : PSs X a t) (hb : PSs X b u) : PS X (.If c a b pos) (tIfS tc t u) := by
  intro pins s σ H D I h
  refine wpAny_If (thn (hc pins s σ H _ I h) fun d s1 ⟨H1, I1, q1⟩ => ?_)
  cases d with
  | true => exact ha pins s1 σ H1 D I1 q1
  | false => exact hb pins s1 σ H1 D I1 q1
/-- code that the proof never comes to -/
def tNever : TS := fun _ _ _ => False
theorem pss_never {sts : List Stmt} : PSs X sts tNever := fun _ _ _ _ _ _ h => h.elim
end

/-! ### targets -/
abbrev TG := V → St → Hp → (St → Hp → Prop) → Prop
abbrev TGs := List V → St → Hp → (St → Hp → Prop) → Prop
def PG (X : Cx) (target : Expr) (t : TG) : Prop :=
  ∀ (pins : List (Addr × Obj)) (s : Shared) (σ : St) (H : Hp) (v : V) (u : Value) (Q : St → Hp → Prop), Inv X pins σ H s → RelV v u → t v σ H Q →
    wpAny (model X.prog X.w) X.A (assign target X.env u) (fun _ s' => ∃ σ' H', Inv X pins σ' H' s' ∧ Q σ' H') X.xe s
/-- several targets, one after another -/
def PGs (X : Cx) (ts : List Expr) (t : TGs) : Prop :=
  ∀ (pins : List (Addr × Obj)) (s : Shared) (σ : St) (H : Hp) (vs : List V) (us : List Value) (Q : St → Hp → Prop), Inv X pins σ H s → Vals vs us → t vs σ H Q →
    wpAny (model X.prog X.w) X.A (assignInOrder ((assignEach ts X.env).map (·.2)) us) (fun _ s' => ∃ σ' H', Inv X pins σ' H' s' ∧ Q σ' H') X.xe s
/-- o[i] = v, by values -/
abbrev TSet := V → V → V → Hp → (Hp → Prop) → Prop
def PSet (X : Cx) (t : TSet) : Prop :=
  ∀ (pins : List (Addr × Obj)) (s : Shared) (σ : St) (H : Hp) (o i v : V) (ov iv u : Value) (Q : Hp → Prop), Inv X pins σ H s → RelV o ov → RelV i iv → RelV v u → t o i v H Q →
    wpAny (model X.prog X.w) X.A (setItem ov iv u) (fun _ s' => ∃ H', Inv X pins σ H' s' ∧ Q H') X.xe s
/-- a op= b, by values -/
abbrev TIp := V → V → Hp → VK → Prop
def PIp (X : Cx) (op : Operator) (t : TIp) : Prop :=
  ∀ (pins : List (Addr × Obj)) (s : Shared) (σ : St) (H : Hp) (x y : V) (v u : Value) (Q : VK), Inv X pins σ H s → RelV x v → RelV y u → t x y H Q →
    wpAny (model X.prog X.w) X.A (inplaceOp op v u) (EP X pins σ Q) X.xe s
section
variable {X : Cx} {pos : Pos}
def gName (i : Nat) : TG := fun v σ H Q => Q (σ.set i (some v)) H
theorem pg_name {i : Nat} {x : Str} (hN : X.N.Nodup) (hi : X.N[i]? = some x) (hx : Loc X.env.scope x) (hf : X.fn x = true ∨ X.env.scope.names.lookup x = some .local := by first | exact .inl rfl | exact .inr rfl | assumption) : PG X (.Name x pos) (gName i) := by
  intro pins s σ H v u Q I r h
  exact wpAny_assign_Name (store_ok I hN hi hx r (fun s' I' => ⟨_, H, I', h⟩) hf)
def gNil : TGs := fun vs σ H Q => vs = [] ∧ Q σ H
def gCons (t : TG) (u : TGs) : TGs := fun vs σ H Q => ∃ v r, vs = v :: r ∧ t v σ H fun σ' H' => u r σ' H' Q
theorem pgs_nil : PGs X [] gNil := by
  intro pins s σ H vs us Q I r h
  obtain ⟨e, h⟩ := h
  subst e
  cases r
  exact assignInOrder_nil ⟨σ, H, I, h⟩
theorem pgs_cons {e : Expr} {es : List Expr} {t : TG} {u : TGs} (h1 : PG X e t) (h2 : PGs X es u)
    (hs : (assignEach (e :: es) X.env).map (·.2) = assign e X.env :: (assignEach es X.env).map (·.2) := by rfl) : PGs X (e :: es) (gCons t u) := by
  intro pins s σ H vs us Q I r h
  obtain ⟨v, vr, e1, h⟩ := h
  subst e1
  cases r with
  | cons r rr =>
    rw [hs]
    refine assignInOrder_cons (thn (h1 pins s σ H _ _ _ I r h) fun _ s1 ⟨σ1, H1, I1, q1⟩ => ?_)
    exact h2 pins s1 σ1 H1 _ _ Q I1 rr q1
/-- (a, b, ..) = a tuple of that length -/
def gTup (K : PySem.W.Frag) (n : Nat) (t : TGs) : TG := fun v σ H Q => ∃ a xs, v = .ref a ∧ SqT K H a xs ∧ xs.length = n ∧ t xs σ H Q
theorem pg_tup {es : List Expr} {k : Nat} {t : TGs} {n : Nat} (hc : X.calm = true) (h : PGs X es t)
    (hn : (assignEach es X.env).length = n := by rfl) (hst : (assignEach es X.env).findIdx? (·.1) = none := by rfl) : PG X (.Tuple es k pos) (gTup X.K n t) := by
  intro pins s σ H v u Q I r hw
  obtain ⟨a, xs, e1, hq, hl, hw⟩ := hw
  subst e1
  cases r
  obtain ⟨its, rv, ht, hz⟩ := I.tuple hq
  refine assign_Tuple_tuple (I.ok.hd hc) ht (by simp [hn, ← hl, rv.length]) hst fun h' hx => ?_
  have I1 : Inv X pins σ H { s with heap := h' } := I.kept (t' := s.toks) fun b o e => hx b o (Nat.ne_of_lt (Heap.lt_size e)) e
  exact h pins _ σ H xs _ Q I1 (by simpa using rv) hw
/-- o[i] = .. -/
def gSub (to ti : TE) (t : TSet) : TG := fun v σ H Q => to σ H fun o H1 => ti σ H1 fun i H2 => t o i v H2 fun H3 => Q σ H3
theorem pg_sub {o i : Expr} {to ti : TE} {t : TSet} (ho : PE X o to) (hi : PE X i ti) (hs : PSet X t)
    (ha : ∀ v, assign (.Subscript o i pos) X.env v = (do
      let ov ← holding [v] (eval o X.env)
      let iv ← holding [v, ov] (eval i X.env)
      standAt pos
      holding [v, ov, iv] (setItem ov iv v)
      release [v, ov, iv] []) := by intro _; rfl) : PG X (.Subscript o i pos) (gSub to ti t) := by
  intro pins s σ H v u Q I r h
  rw [ha]
  refine wpAny_bind (wpAny_holding (thn (ho pins s σ H _ I h) fun ov s1 ⟨x, H1, I1, r1, q1⟩ => ?_))
  refine wpAny_bind (wpAny_holding (thn (hi pins s1 σ H1 _ I1 q1) fun iv s2 ⟨y, H2, I2, r2, q2⟩ => ?_))
  refine wpAny_bind (wpAny_standAt (wpAny_bind (wpAny_holding (thn (hs pins s2 σ H2 x y v ov iv u _ I2 r1 r2 r q2) fun _ s3 ⟨H3, I3, q3⟩ => ?_))))
  exact wpAny_release ⟨σ, H3, I3, q3⟩
/-- target = value -/
def tAsg (te : TE) (g : TG) : TS := fun D σ H => te σ H fun x H1 => g x σ H1 D.nx
theorem ps_asg {tg e : Expr} {te : TE} {g : TG} (he : PE X e te) (hg : PG X tg g) (hs : swapsWithSole [tg] e pos.line X.env = pure false := by rfl) (hw : swappedStores [tg] e X.env = pure none := by rfl)
    (h1 : (assignEach [tg] X.env).map (·.2) = [assign tg X.env] := by rfl) : PS X (.Assign [tg] e pos) (tAsg te g) := by
  intro pins s σ H D I h
  refine wpAny_Assign_stores (thn (he pins s σ H _ I h) fun v s1 ⟨x, H1, I1, r1, q1⟩ => ?_) hs hw
  rw [h1]
  exact thn (hg pins s1 σ H1 x v _ I1 r1 q1) fun _ s2 q => q
/-- name = value -/
theorem ps_set {i : Nat} {x : Str} {e : Expr} {te : TE} {pos' : Pos} (hN : X.N.Nodup) (hi : X.N[i]? = some x) (hx : Loc X.env.scope x) (he : PE X e te) (hs : swapsWith e (some (.Name x pos')) pos.line X.env = pure false := by rfl) (hf : X.fn x = true ∨ X.env.scope.names.lookup x = some .local := by first | exact .inl rfl | exact .inr rfl | assumption) :
    PS X (.Assign [.Name x pos'] e pos) (tAsg te (gName i)) := by
  intro pins s σ H D I h
  refine wpAny_Assign_Name (thn (he pins s σ H _ I h) fun v s1 ⟨y, H1, I1, r1, q1⟩ => ?_) hs
  exact store_ok I1 hN hi hx r1 (fun s2 I2 => ⟨_, H1, I2, q1⟩) hf
/-- a, b = x, y with plain local names: stored from the right; the pair itself is not tracked (the opening rows as in PyProof/Rows/TupAssign.lean:23) -/
def tPar (i j : Nat) (ta : TA) : TS := fun D σ H => ta σ H fun vs H1 => ∃ v w, vs = [v, w] ∧ D.nx ((σ.set i (some v)).set j (some w)) H1
theorem ps_par {i j : Nat} {x y : Str} {a b : Expr} {ta : TA} {px py pt : Pos} {kt k2 pt2} (hc : X.calm = true) (hN : X.N.Nodup) (hi : X.N[i]? = some x) (hj : X.N[j]? = some y) (hij : i ≠ j)
    (hx : X.env.scope.names.lookup x = some .local) (hy : X.env.scope.names.lookup y = some .local) (ha : PA X [a, b] ta)
    (hw : swappedStores [.Tuple [.Name x px, .Name y py] kt pt] (.Tuple [a, b] k2 pt2) X.env = pure (some [x, y]))
    (hs : swapsWithSole [.Tuple [.Name x px, .Name y py] kt pt] (.Tuple [a, b] k2 pt2) pos.line X.env = pure false := by rfl) :
    PS X (.Assign [.Tuple [.Name x px, .Name y py] kt pt] (.Tuple [a, b] k2 pt2) pos) (tPar i j ta) := by
  intro pins s σ H D I h
  rw [exec_Assign_arm]
  refine wpAny_bind (wpAny_standAt ?_)
  rw [hs]
  refine wpAny_bind (wpAny_pure ?_)
  rw [if_neg (by decide)]
  refine wpAny_bind (Tuple_ (thn (ha _ pins s σ H _ I h) fun us s1 ⟨vs, H1, I1, r1, q1⟩ => ?_))
  obtain ⟨v, w, e1, q1⟩ := q1
  subst e1
  obtain ⟨u1, u2, rfl, rv, rw'⟩ : ∃ u1 u2, us = [u1, u2] ∧ RelV v u1 ∧ RelV w u2 := by
    cases r1 with
    | cons p q =>
      cases q with
      | cons p' q' =>
        cases q'
        exact ⟨_, _, rfl, p, p'⟩
  refine wpAny_newObj_type ?_ (by show 2 ≤ sizeLine; decide)
  have I2 : Inv X pins σ H1 { s1 with heap := s1.heap.push { cls := .type "tuple", data := .seq [u1, u2].toArray } } := I1.kept (t' := s1.toks) fun b o e => Heap.get?_push_of_some _ e
  rw [hw]
  refine wpAny_bind (wpAny_pure ?_)
  show wpAny (model X.prog X.w) X.A (do rule "assign.swapped-stores"; let items ← unpackItems (.ref s1.heap.objs.size) 2 none; assignInOrder [fun v => bindName X.env y v, fun v => bindName X.env x v] items.reverse; pure Flow.next) _ _ _
  refine wpAny_bind (wpAny_rule (wpAny_bind (unpackItems_tuple (items := #[u1, u2]) (I.ok.hd hc) (IsTup.new s1.heap _) fun h' hx' => ?_)))
  have I3 := I2.kept (h' := h') (t' := s1.toks) fun b o e => hx' b o (Nat.ne_of_lt (Heap.lt_size e)) e
  show wpAny _ _ (assignInOrder [fun v => bindName X.env y v, fun v => bindName X.env x v] [u2, u1] >>= fun _ => pure Flow.next) _ _ _
  refine wpAny_bind (assignInOrder_cons (wpAny_bindName (store_ok I3 hN hj (.inl hy) rw' (fun s2 I4 => ?_) (.inr hy))))
  refine assignInOrder_cons (wpAny_bindName (store_ok I4 hN hi (.inl hx) rv (fun s3 I5 => assignInOrder_nil (wpAny_pure ?_)) (.inr hx)))
  rw [List.set_comm _ _ (Ne.symm hij)] at I5
  exact ⟨_, H1, I5, q1⟩
/-- name op= e -/
def tAug (i : Nat) (te : TE) (ti : TIp) : TS := fun D σ H => ∃ x, σ[i]? = some (some x) ∧ te σ H fun y H1 => ti x y H1 fun z H2 => D.nx (σ.set i (some z)) H2
/-- o[i] op= e -/
def tAugS (to ti te : TE) (tget : V → V → Hp → VK → Prop) (tip : TIp) (tset : TSet) : TS := fun D σ H => to σ H fun o H1 => ti σ H1 fun i H2 => tget o i H2 fun x H3 => te σ H3 fun y H4 => tip x y H4 fun z H5 => tset o i z H5 fun H6 => D.nx σ H6
/-- o[i], by values -/
def PGet (X : Cx) (t : V → V → Hp → VK → Prop) : Prop :=
  ∀ (pins : List (Addr × Obj)) (s : Shared) (σ : St) (H : Hp) (o i : V) (ov iv : Value) (Q : VK), Inv X pins σ H s → RelV o ov → RelV i iv → t o i H Q →
    wpAny (model X.prog X.w) X.A (getItem ov iv) (EP X pins σ Q) X.xe s
/-- ints -/
def ipI (f : Int → Int → Int) : TIp := fun x y H Q => ∃ i j, x = .int i ∧ y = .int j ∧ Q (.int (f i j)) H
end

/-! ### while -/
section
variable {X : Cx} {pos : Pos}
/-- the invariant W with its measure -/
def tWhile (c : TT) (tb : TS) : TS := fun D σ H => ∃ W : Nat → St → Hp → Prop, (∃ m, W m σ H) ∧ ∀ m σ H, W m σ H →
  c σ H fun b H1 => if b = true then ∃ N : St → Hp → Prop, (∀ σ' H', N σ' H' → ∃ m', m' < m ∧ W m' σ' H') ∧ tb { D with nx := N, ct := N, bk := D.nx } σ H1 else D.nx σ H1
theorem ps_while {c : Expr} {body : List Stmt} {tc : TT} {tb : TS} (hp : PassesOwn (model X.prog X.w) X.A X.env X.xe) (hc : PT X c tc) (hb : PSs X body tb) : PS X (.While c body [] pos) (tWhile tc tb) := by
  intro pins s σ H D I h
  obtain ⟨W, ⟨m0, w0⟩, turn⟩ := h
  refine wpAny_While (codeAny_whileLoop (fun n s' => ∃ σ' H', Inv X pins σ' H' s' ∧ W n σ' H') ?_ m0 ⟨σ, H, I, w0⟩)
  rintro n s1 ⟨σ1, H1, I1, w1⟩
  refine wpAny_passesOwn hp (thn (hc pins s1 σ1 H1 _ I1 (turn n σ1 H1 w1)) fun b s2 ⟨H2, I2, q2⟩ => ?_)
  cases b with
  | true =>
    obtain ⟨N, hN, q2⟩ := q2
    rw [if_pos rfl]
    refine wpAny_passesOwn hp (thn (hb pins s2 σ1 H2 _ I2 q2) fun f s3 q3 => ?_)
    cases f with
    | next =>
      obtain ⟨σ3, H3, I3, n3⟩ := q3
      obtain ⟨m', hm, w3⟩ := hN σ3 H3 n3
      exact ⟨m', hm, σ3, H3, I3, w3⟩
    | cont =>
      obtain ⟨σ3, H3, I3, n3⟩ := q3
      obtain ⟨m', hm, w3⟩ := hN σ3 H3 n3
      exact ⟨m', hm, σ3, H3, I3, w3⟩
    | brk => exact q3
    | ret v => exact q3
  | false =>
    rw [if_neg Bool.false_ne_true]
    exact wpAny_execs_nil ⟨σ1, H2, I2, q2⟩
end

/-! ### what a loop or a comprehension walks -/
/-- at turn i: it yields x (the heap may grow), or it stops -/
structure It where
  go : Nat → Hp → Prop
  yld : Nat → Hp → V → Hp → Prop
  stop : Nat → Hp → Prop
/-- the iterator's own objects may turn: they are not the frame's, not pinned, younger than the entry (or a comprehension's own) -/
def FpOk (X : Cx) (pins : List (Addr × Obj)) (H : Hp) (b : Addr) : Prop :=
  H b = none ∧ b ≠ X.env.locals ∧ b ∉ X.fs ∧ (b ∈ X.ex ∨ X.s₀.heap.objs.size ≤ b) ∧ (∀ x c, X.env.cells.lookup x = some c → c ≠ b) ∧ ∀ p ∈ X.pn ++ pins, p.1 ≠ b
theorem Inv.fpOk {X : Cx} {pins : List (Addr × Obj)} {σ : St} {H H' : Hp} {s : Shared} {b : Addr} (I : Inv X pins σ H s) (hb : s.heap.objs.size ≤ b) (hn : H' b = none) : FpOk X pins H' b := by
  refine ⟨hn, Nat.ne_of_gt (Nat.lt_of_lt_of_le I.lt hb), I.nofs hb, .inr (Nat.le_trans I.sz hb), fun x c e z => ?_, fun p hp z => ?_⟩
  · obtain ⟨v, q⟩ := I.cell x c e
    exact absurd (Nat.lt_of_lt_of_le q.lt (by rw [z]; exact hb)) (Nat.lt_irrefl _)
  · exact absurd (Nat.lt_of_lt_of_le (Heap.lt_size (I.pin p hp).1) (by rw [z]; exact hb)) (Nat.lt_irrefl _)
structure Turn (P : Program) (w : World) (K : PySem.W.Frag) (tg : Expr) (J : It) (fp : List Addr) (it : Addr) (tn : Nat → Heap → Prop) : Prop where
  mem : it ∈ fp
  obj : ∀ i h, tn i h → ∀ b ∈ fp, ∃ o, h.get? b = some o ∧ ∀ v, o.data ≠ .cell v
  keep : ∀ i h h', tn i h → (∀ b ∈ fp, ∀ o, h.get? b = some o → h'.get? b = some o) → tn i h'
  item : ∀ (X : Cx), X.prog = P → X.w = w → X.K = K → X.calm = true → ∀ (i : Nat) (pins : List (Addr × Obj)) (s : Shared) (σ : St) (H : Hp) (E : Value → Shared → Prop), Inv X pins σ H s → (∀ b ∈ fp, FpOk X pins H b) → tn i s.heap → J.go i H →
    wpAny (model P w) X.A (pyNext (.ref it)) (fun r s1 => ∃ u, r = some u ∧
      wpAny (model P w) X.A (letOwnedTupleGo tg (.ref it) u) (fun _ s2 => ∃ x H', Inv X pins σ H' s2 ∧ RelV x u ∧ J.yld i H x H' ∧ tn (i + 1) s2.heap ∧ ∀ b ∈ fp, H' b = none) E s1) E s
  done : ∀ (X : Cx), X.prog = P → X.w = w → X.K = K → X.calm = true → ∀ (i : Nat) (pins : List (Addr × Obj)) (s : Shared) (σ : St) (H : Hp) (E : Value → Shared → Prop), Inv X pins σ H s → (∀ b ∈ fp, FpOk X pins H b) → tn i s.heap → J.stop i H →
    wpAny (model P w) X.A (pyNext (.ref it)) (fun r s1 => r = none ∧ Inv X pins σ H s1) E s
  self : ∀ (A : Around) (i : Nat) (s : Shared) (Q : Value → Shared → Prop) (E : Value → Shared → Prop), tn i s.heap → Q (.ref it) s → wpAny (model P w) A (pyIter (.ref it)) Q E s
abbrev TI := St → Hp → (It → Hp → Prop) → Prop
/-- an iterator has come -/
def PIE (X : Cx) (pins : List (Addr × Obj)) (σ : St) (tg : Expr) (R : It → Hp → Prop) (itv : Value) (s2 : Shared) : Prop :=
  ∃ (it : Addr) (fp : List Addr) (tn : Nat → Heap → Prop) (J : It) (H' : Hp), itv = .ref it ∧ Inv X pins σ H' s2 ∧ Turn X.prog X.w X.K tg J fp it tn ∧ tn 0 s2.heap ∧ (∀ b ∈ fp, FpOk X pins H' b) ∧ R J H'
def PI (X : Cx) (tg iter : Expr) (wi : TI) : Prop :=
  ∀ (pins : List (Addr × Obj)) (s : Shared) (σ : St) (H : Hp) (R : It → Hp → Prop), Inv X pins σ H s → wi σ H R →
    wpAny (model X.prog X.w) X.A (eval iter X.env) (fun v s1 => wpAny (model X.prog X.w) X.A (pyIter v) (PIE X pins σ tg R) X.xe s1) X.xe s

/-- the step ahead of the store is nothing for an iterator that keeps no tuple -/
theorem go_of {M : Model} {A : Around} {E : Value → Shared → Prop} {s : Shared} {tg : Expr} {it : Addr} {u : Value} {o : Obj} {n : String} {vs : Array Value} {Q : Unit → Shared → Prop} (ho : s.heap.get? it = some o) (hc : o.cls = .type n) (hd : o.data = .fields vs)
    (hn : ["enumerate", "zip", "dict_itemiterator", "dict_reverseitemiterator", "odict_iterator", "itertools.zip_longest", "itertools.pairwise"].contains n = false) (hQ : Q () s) : wpAny M A (letOwnedTupleGo tg (.ref it) u) Q E s := by
  unfold letOwnedTupleGo
  cases tg <;> first
    | exact wpAny_pure hQ
    | (cases u <;> first
        | exact wpAny_pure hQ
        | (refine wpAny_bind (wpAny_load ho ?_)
           rw [hc, hd]
           show wpAny M A (if (["enumerate", "zip", "dict_itemiterator", "dict_reverseitemiterator", "odict_iterator", "itertools.zip_longest", "itertools.pairwise"].contains n && vs[0]? == some (rawInt _)) = true then _ else _) Q E s
           rw [if_neg (by intro h; rw [hn, Bool.false_and] at h; cases h)]
           exact wpAny_pure hQ))

/-- the list at a, as it stands at each turn (a loop may append to it) -/
def Itl (K : PySem.W.Frag) (a : Addr) : It :=
  ⟨fun i H => ∃ xs x, SqL K H a xs ∧ xs[i]? = some x, fun i H x H' => H' = H ∧ ∀ xs, SqL K H a xs → xs[i]? = some x, fun i H => ∃ xs, SqL K H a xs ∧ xs.length ≤ i⟩
def Itt (K : PySem.W.Frag) (a : Addr) : It :=
  ⟨fun i H => ∃ xs x, SqT K H a xs ∧ xs[i]? = some x, fun i H x H' => H' = H ∧ ∀ xs, SqT K H a xs → xs[i]? = some x, fun i H => ∃ xs, SqT K H a xs ∧ xs.length ≤ i⟩
/-- lo, lo + 1, .. (n of them) -/
def Itr (lo : Int) (n : Nat) : It := ⟨fun i _ => i < n, fun i H x H' => H' = H ∧ x = .int (lo + i), fun i _ => n ≤ i⟩
theorem turn_list {P : Program} {w : World} {K : PySem.W.Frag} {tg : Expr} (a it : Addr) : Turn P w K tg (Itl K a) [it] it (fun i h => h.IsListIter it a i) where
  mem := by simp
  obj := fun i h st b hb => by
    have e : b = it := by simpa using hb
    subst e
    obtain ⟨o, e, c, d⟩ := st
    exact ⟨o, e, fun v z => by rw [d] at z; cases z⟩
  keep := fun i h h' st k => st.at fun o e => k it (by simp) o e
  item := by
    intro X hP hw hK hc i pins s σ H E I hf st hg
    subst hP hw hK
    obtain ⟨xs, x, hq, hx⟩ := hg
    obtain ⟨its, rv, p, hz⟩ := I.list hq
    obtain ⟨u, hu, ru⟩ := rv.get hx
    obtain ⟨f0, f1, f2, f3, f4, f5⟩ := hf it (by simp)
    refine wpAny_pyNext_list_item st p.isList (x := u) (by simpa using hu) fun h' st' sb => ?_
    have I1 : Inv X pins σ H { s with heap := h' } := I.turned (t' := s.toks) (fun b o hb e => (sb.2 b hb).trans e) f0 f1 f3 f4 f5
    obtain ⟨o, e, c, d⟩ := id st'
    exact ⟨u, rfl, go_of (s := { s with heap := h' }) e c d (by decide) ⟨x, H, I1, ru, ⟨rfl, fun ys hy => by rw [I.list_inj hy hq]; exact hx⟩, st', fun b hb => (hf b hb).1⟩⟩
  done := by
    intro X hP hw hK hc i pins s σ H E I hf st hg
    subst hP hw hK
    obtain ⟨xs, hq, hx⟩ := hg
    obtain ⟨its, rv, p, hz⟩ := I.list hq
    obtain ⟨f0, f1, f2, f3, f4, f5⟩ := hf it (by simp)
    have hl := rv.length
    exact wpAny_pyNext_list_end (I.ok.hd hc) st p.isList (by simp; omega) fun h' eb => ⟨rfl, I.turned (t' := s.toks) (fun b o hb e => eb b o hb e) f0 f1 f3 f4 f5⟩
  self := fun _ _ _ _ _ st h => wpAny_pyIter_listiter st h
theorem turn_tuple {P : Program} {w : World} {K : PySem.W.Frag} {tg : Expr} (a it : Addr) : Turn P w K tg (Itt K a) [it] it (fun i h => h.IsTupleIter it a i) where
  mem := by simp
  obj := fun i h st b hb => by
    have e : b = it := by simpa using hb
    subst e
    obtain ⟨o, e, c, d⟩ := st
    exact ⟨o, e, fun v z => by rw [d] at z; cases z⟩
  keep := fun i h h' st k => st.at fun o e => k it (by simp) o e
  item := by
    intro X hP hw hK hc i pins s σ H E I hf st hg
    subst hP hw hK
    obtain ⟨xs, x, hq, hx⟩ := hg
    obtain ⟨its, rv, p, hz⟩ := I.tuple hq
    obtain ⟨u, hu, ru⟩ := rv.get hx
    obtain ⟨f0, f1, f2, f3, f4, f5⟩ := hf it (by simp)
    refine wpAny_pyNext_tuple_item st (show s.heap.IsTuple a its.toArray from p) (x := u) (by simpa using hu) fun h' st' sb => ?_
    have I1 : Inv X pins σ H { s with heap := h' } := I.turned (t' := s.toks) (fun b o hb e => (sb.2 b hb).trans e) f0 f1 f3 f4 f5
    obtain ⟨o, e, c, d⟩ := id st'
    exact ⟨u, rfl, go_of (s := { s with heap := h' }) e c d (by decide) ⟨x, H, I1, ru, ⟨rfl, fun ys hy => by rw [I.tuple_inj hy hq]; exact hx⟩, st', fun b hb => (hf b hb).1⟩⟩
  done := by
    intro X hP hw hK hc i pins s σ H E I hf st hg
    subst hP hw hK
    obtain ⟨xs, hq, hx⟩ := hg
    obtain ⟨its, rv, p, hz⟩ := I.tuple hq
    obtain ⟨f0, f1, f2, f3, f4, f5⟩ := hf it (by simp)
    have hl := rv.length
    exact wpAny_pyNext_tuple_end (I.ok.hd hc) st (show s.heap.IsTuple a its.toArray from p) (by simp; omega) fun h' eb => ⟨rfl, I.turned (t' := s.toks) (fun b o hb e => eb b o hb e) f0 f1 f3 f4 f5⟩
  self := fun _ _ _ _ _ st h => wpAny_pyIter_tupleiter st h
theorem turn_range {P : Program} {w : World} {K : PySem.W.Frag} {tg : Expr} (it : Addr) (lo : Int) (n : Nat) : Turn P w K tg (Itr lo n) [it] it (fun i h => IsRangeIter h it (lo + (i : Nat) * 1) ((n : Int) - (i : Nat)) 1) where
  mem := by simp
  obj := fun i h st b hb => by
    have e : b = it := by simpa using hb
    subst e
    exact ⟨_, st, fun v z => by
      have z' : Data.fields _ = Data.cell v := z
      cases z'⟩
  keep := fun i h h' st k => k it (by simp) _ st
  item := by
    intro X hP hw hK hc i pins s σ H E I hf st hg
    subst hP hw hK
    obtain ⟨f0, f1, f2, f3, f4, f5⟩ := hf it (by simp)
    have W := Walks.range (prog := X.prog) (w := X.w) (I.ok.hd hc) it lo 1 n
    refine W.item i s _ _ hg st fun v h' tk hv st' kk => ?_
    obtain ⟨t, rfl⟩ := hv
    have I1 : Inv X pins σ H { s with heap := h', toks := tk } := I.turned (fun b o hb e => kk b o (by simpa using hb) e) f0 f1 f3 f4 f5
    refine ⟨_, rfl, go_of (s := { s with heap := h', toks := tk }) (n := "range_iterator") st' rfl rfl (by decide) ⟨.int (lo + i), H, I1, ⟨t, ?_⟩, ⟨rfl, rfl⟩, st', fun b hb => (hf b hb).1⟩⟩
    rw [Int.mul_one]
  done := by
    intro X hP hw hK hc i pins s σ H E I hf st hg
    subst hP hw hK
    obtain ⟨f0, f1, f2, f3, f4, f5⟩ := hf it (by simp)
    exact wpAny_pyNext_range_end (I.ok.hd hc) st (by have : n ≤ i := hg; omega) fun h' eb => ⟨rfl, I.turned (t' := s.toks) (fun b o hb e => eb b o hb e) f0 f1 f3 f4 f5⟩
  self := fun _ _ _ _ _ st h => wpAny_pyIter_rangeiter st h
end L2

namespace L2
open PySem PySem.Spec PyProof.Rows
section
variable {X : Cx} {tg : Expr}
def iList (K : PySem.W.Frag) (tl : TE) : TI := fun σ H R => tl σ H fun x H1 => ∃ a, x = .ref a ∧ (∃ xs, SqL K H1 a xs) ∧ R (Itl K a) H1
def iTup (K : PySem.W.Frag) (tl : TE) : TI := fun σ H R => tl σ H fun x H1 => ∃ a, x = .ref a ∧ (∃ xs, SqT K H1 a xs) ∧ R (Itt K a) H1
theorem pi_list {l : Expr} {tl : TE} (hl : PE X l tl) : PI X tg l (iList X.K tl) := by
  intro pins s σ H R I h
  refine thn (hl pins s σ H _ I h) fun v s1 ⟨x, H1, I1, r1, q1⟩ => ?_
  obtain ⟨a, e, ⟨xs, hq⟩, q⟩ := q1
  subst e
  cases r1
  obtain ⟨its, rv, p, hz⟩ := I1.list hq
  refine wpAny_pyIter_list p.isList ?_
  refine ⟨s1.heap.objs.size, [s1.heap.objs.size], _, _, H1, rfl, I1.kept (t' := s1.toks) fun b o e => Heap.get?_push_of_some _ e, turn_list a _, ⟨_, Heap.get?_push_size _ rfl, rfl, rfl⟩, fun b hb => ?_, q⟩
  have e : b = s1.heap.objs.size := by simpa using hb
  subst e
  exact I1.fpOk (Nat.le_refl _) (I1.hok.fresh (Nat.le_refl _))
theorem pi_tup {l : Expr} {tl : TE} (hl : PE X l tl) : PI X tg l (iTup X.K tl) := by
  intro pins s σ H R I h
  refine thn (hl pins s σ H _ I h) fun v s1 ⟨x, H1, I1, r1, q1⟩ => ?_
  obtain ⟨a, e, ⟨xs, hq⟩, q⟩ := q1
  subst e
  cases r1
  obtain ⟨its, rv, p, hz⟩ := I1.tuple hq
  refine wpAny_pyIter_tuple (show s1.heap.IsTuple a its.toArray from p) ?_
  refine ⟨s1.heap.objs.size, [s1.heap.objs.size], _, _, H1, rfl, I1.kept (t' := s1.toks) fun b o e => Heap.get?_push_of_some _ e, turn_tuple a _, ⟨_, Heap.get?_push_size _ rfl, rfl, rfl⟩, fun b hb => ?_, q⟩
  have e : b = s1.heap.objs.size := by simpa using hb
  subst e
  exact I1.fpOk (Nat.le_refl _) (I1.hok.fresh (Nat.le_refl _))
/-- a range object just made, walked -/
theorem range_it {pins : List (Addr × Obj)} {σ : St} {H : Hp} {s : Shared} {R : It → Hp → Prop} {E : Value → Shared → Prop} {lo hi : Int} {t u v : Tok} {tk : Nat} (I : Inv X pins σ H s) (h1 : -(2 ^ 62) ≤ lo) (h2 : lo < 2 ^ 62) (h3 : -(2 ^ 62) ≤ hi) (h4 : hi < 2 ^ 62)
    (q : R (Itr lo (hi - lo).toNat) H) : wpAny (model X.prog X.w) X.A (pyIter (.ref s.heap.objs.size)) (PIE X pins σ tg R) E { s with heap := s.heap.push { cls := .type "range", data := .fields #[.int lo t, .int hi u, .int 1 v] }, toks := tk } := by
  refine wpAny_pyIter_range (IsRange.new ..) (small_one h1 h2 h3 h4) ?_
  have I1 : Inv X pins σ H { s with heap := s.heap.push { cls := .type "range", data := .fields #[.int lo t, .int hi u, .int 1 v] }, toks := tk } := I.kept fun b o e => Heap.get?_push_of_some _ e
  refine ⟨(s.heap.push { cls := .type "range", data := .fields #[.int lo t, .int hi u, .int 1 v] }).objs.size, [(s.heap.push { cls := .type "range", data := .fields #[.int lo t, .int hi u, .int 1 v] }).objs.size], _, _, H, rfl,
    I1.kept (t' := tk) fun b o e => Heap.get?_push_of_some _ e, turn_range _ lo (hi - lo).toNat, ?_, fun b hb => ?_, q⟩
  · have e1 : lo + ((0 : Nat) : Int) * 1 = lo := by simp
    have e2 : (((hi - lo).toNat : Nat) : Int) - ((0 : Nat) : Int) = Builtin.Range.rangeSize lo hi 1 := by rw [rangeSize_one]; split <;> omega
    show IsRangeIter _ _ (lo + ((0 : Nat) : Int) * 1) ((((hi - lo).toNat : Nat) : Int) - ((0 : Nat) : Int)) 1
    rw [e1, e2]
    exact Heap.get?_push_size _ rfl
  · have e : b = (s.heap.push { cls := .type "range", data := .fields #[.int lo t, .int hi u, .int 1 v] }).objs.size := by simpa using hb
    subst e
    exact I1.fpOk (Nat.le_refl _) (I1.hok.fresh (Nat.le_refl _))
def iRng1 (ta : TA) : TI := fun σ H R => ta σ H fun vs H1 => ∃ j : Int, vs = [.int j] ∧ -(2 ^ 62) ≤ j ∧ j < 2 ^ 62 ∧ R (Itr 0 j.toNat) H1
def iRng2 (ta : TA) : TI := fun σ H R => ta σ H fun vs H1 => ∃ i j : Int, vs = [.int i, .int j] ∧ (-(2 ^ 62) ≤ i ∧ i < 2 ^ 62 ∧ -(2 ^ 62) ≤ j ∧ j < 2 ^ 62) ∧ R (Itr i (j - i).toNat) H1
theorem pi_range1 {a : Expr} {ta : TA} {p pos : Pos} (hg : Gl X "range") (hm : X.mg "range" = none) (ha : PA X [a] ta) (hs : starEach [a] X.env = [(false, eval a X.env)] := by rfl) : PI X tg (.Call (.Name "range" p) [a] [] pos) (iRng1 ta) := by
  intro pins s σ H R I h
  refine Call_ (ld_blt I hg hm boot_range (PyProof.Rows.callWith_type1 (thn (ha pos pins s σ H _ I h) fun us s1 ⟨vs, H1, I1, r1, q1⟩ => ?_) hs rfl))
  obtain ⟨j, e, q1, q2, q⟩ := q1
  subst e
  cases r1 with
  | cons r rr =>
    cases rr
    obtain ⟨t, rfl⟩ := r
    exact call_range_1 (range_it I1 (by omega) (by omega) q1 q2 (by simpa using q))
theorem pi_range2 {a b : Expr} {ta : TA} {p pos : Pos} (hg : Gl X "range") (hm : X.mg "range" = none) (ha : PA X [a, b] ta) (hs : starEach [a, b] X.env = [(false, eval a X.env), (false, eval b X.env)] := by rfl) (hs2 : starEach [b] X.env = [(false, eval b X.env)] := by rfl) :
    PI X tg (.Call (.Name "range" p) [a, b] [] pos) (iRng2 ta) := by
  intro pins s σ H R I h
  refine Call_ (ld_blt I hg hm boot_range (PyProof.Rows.callWith_type1 (thn (ha pos pins s σ H _ I h) fun us s1 ⟨vs, H1, I1, r1, q1⟩ => ?_) (by rw [hs, hs2]) (by rw [hs2]; rfl)))
  obtain ⟨i, j, e, ⟨q1, q2, q3, q4⟩, q⟩ := q1
  subst e
  cases r1 with
  | cons r rr =>
    cases rr with
    | cons r' rr =>
      cases rr
      obtain ⟨t, rfl⟩ := r
      obtain ⟨t', rfl⟩ := r'
      exact call_range_2 (range_it I1 q1 q2 q3 q4 q)

/-! ### for -/
/-- W: the invariant by the turn and a measure; N: what the body is to reach -/
def tFor (wi : TI) (g : TG) (tb : TS) : TS := fun D σ H => wi σ H fun J H1 => ∃ W : Nat → Nat → St → Hp → Prop, (∃ m, W 0 m σ H1) ∧ ∀ i m σ H, W i m σ H →
  (J.stop i H ∧ D.nx σ H) ∨ (J.go i H ∧ ∃ N : St → Hp → Prop, (∀ σ' H', N σ' H' → ∃ m', m' < m ∧ W (i + 1) m' σ' H') ∧ ∀ x H', J.yld i H x H' → g x σ H' fun σ2 H2 => tb { D with nx := N, ct := N, bk := D.nx } σ2 H2)
/-- the records at fp as they stand -/
def pinsAt (fp : List Addr) (h : Heap) : List (Addr × Obj) := fp.filterMap fun b => (h.get? b).map fun o => (b, o)
theorem mem_pinsAt {fp : List Addr} {h : Heap} {b : Addr} {o : Obj} (hb : b ∈ fp) (e : h.get? b = some o) : (b, o) ∈ pinsAt fp h := List.mem_filterMap.mpr ⟨b, hb, by rw [e]; rfl⟩
theorem of_pinsAt {fp : List Addr} {h : Heap} {p : Addr × Obj} (hp : p ∈ pinsAt fp h) : p.1 ∈ fp ∧ h.get? p.1 = some p.2 := by
  obtain ⟨b, hb, e⟩ := List.mem_filterMap.mp hp
  cases q : h.get? b with
  | none => rw [q] at e; cases e
  | some o =>
    rw [q] at e
    have e' : (b, o) = p := Option.some.inj e
    subst e'
    exact ⟨hb, q⟩
theorem Inv.pinned {pins : List (Addr × Obj)} {σ : St} {H : Hp} {s : Shared} {fp : List Addr} (I : Inv X pins σ H s) (hf : ∀ b ∈ fp, FpOk X pins H b) (ho : ∀ b ∈ fp, ∃ o, s.heap.get? b = some o ∧ ∀ v, o.data ≠ .cell v) : Inv X (pins ++ pinsAt fp s.heap) σ H s :=
  I.pins_of fun p hp => (List.mem_append.mp hp).elim (fun z => I.pin p (List.mem_append_right _ z)) fun z => by
    obtain ⟨hb, e⟩ := of_pinsAt z
    obtain ⟨f0, f1, f2, _⟩ := hf p.1 hb
    obtain ⟨o, e', d⟩ := ho p.1 hb
    rw [e] at e'; cases e'
    exact ⟨e, f0, f1, f2, d⟩
theorem Inv.unpinned {pins pl : List (Addr × Obj)} {σ : St} {H : Hp} {s : Shared} (I : Inv X (pins ++ pl) σ H s) : Inv X pins σ H s := I.pins_of fun p hp => I.pin p (List.mem_append_right _ (List.mem_append_left _ hp))
theorem ps_for {iter : Expr} {body : List Stmt} {wi : TI} {g : TG} {tb : TS} {pos : Pos} (hp : PassesOwn (model X.prog X.w) X.A X.env X.xe) (hc : X.calm = true) (hi : PI X tg iter wi) (hg : PG X tg g) (hb : PSs X body tb)
    (hs : ∀ x, foldedSetIterable iter X.env x = pure x := by intro _; rfl) : PS X (.For tg iter body [] pos) (tFor wi g tb) := by
  intro pins s σ H D I h
  refine wpAny_For (thn (hi pins s σ H _ I h) fun v s1 h1 => thn h1 fun itv s2 h2 => ?_) hs
  obtain ⟨it, fp, tn, J, H2, e, I2, T, st2, f2, W, ⟨m0, w0⟩, turn⟩ := h2
  subst e
  -- what stays true of the iterator's objects through the loop
  have stat : ∀ {H' : Hp}, (∀ b ∈ fp, H' b = none) → ∀ b ∈ fp, FpOk X pins H' b := fun hn b hb => ⟨hn b hb, (f2 b hb).2⟩
  refine codeAny_forLoop_any (fun n s' => ∃ i σ' H', Inv X pins σ' H' s' ∧ tn i s'.heap ∧ (∀ b ∈ fp, H' b = none) ∧ W i n σ' H') ?_ m0 ⟨0, σ, H2, I2, st2, fun b hb => (f2 b hb).1, w0⟩
  rintro n s3 ⟨i, σ3, H3, I3, st3, fr3, w3⟩
  rcases turn i n σ3 H3 w3 with ⟨stop, qn⟩ | ⟨go, N, hN, step⟩
  · refine wpAny_passesOwn hp (thn (T.done X rfl rfl rfl hc i pins s3 σ3 H3 X.xe I3 (stat fr3) st3 stop) fun r s4 ⟨hr, I4⟩ => ?_)
    subst hr
    exact wpAny_execs_nil ⟨σ3, H3, I4, qn⟩
  · refine wpAny_passesOwn hp (thn (T.item X rfl rfl rfl hc i pins s3 σ3 H3 X.xe I3 (stat fr3) st3 go) fun r s4 ⟨u, hr, h4⟩ => ?_)
    subst hr
    refine wpAny_passesOwn hp (thn h4 fun _ s5 ⟨x, H5, I5, r5, y5, st5, fr5⟩ => ?_)
    have I5' := I5.pinned (stat fr5) (T.obj _ _ st5)
    refine wpAny_passesOwn hp (thn (hg _ s5 σ3 H5 x u _ I5' r5 (step x H5 y5)) fun _ s6 ⟨σ6, H6, I6, q6⟩ => ?_)
    refine wpAny_passesOwn hp (thn (hb _ s6 σ6 H6 _ I6 q6) fun f s7 q7 => ?_)
    have again : ∀ {σ7 : St} {H7 : Hp}, Inv X (pins ++ pinsAt fp s5.heap) σ7 H7 s7 → N σ7 H7 → ∃ m, m < n ∧ ∃ i σ' H', Inv X pins σ' H' s7 ∧ tn i s7.heap ∧ (∀ b ∈ fp, H' b = none) ∧ W i m σ' H' := fun {σ7 H7} I7 n7 => by
      obtain ⟨m', hm, w7⟩ := hN σ7 H7 n7
      refine ⟨m', hm, i + 1, σ7, H7, I7.unpinned, T.keep _ _ _ st5 fun b hb o e => (I7.pin (b, o) (List.mem_append_right _ (List.mem_append_right _ (mem_pinsAt hb e)))).1, fun b hb => ?_, w7⟩
      obtain ⟨o, e, d⟩ := T.obj _ _ st5 b hb
      exact (I7.pin (b, o) (List.mem_append_right _ (List.mem_append_right _ (mem_pinsAt hb e)))).2.1
    cases f with
    | next => obtain ⟨σ7, H7, I7, n7⟩ := q7; exact again I7 n7
    | cont => obtain ⟨σ7, H7, I7, n7⟩ := q7; exact again I7 n7
    | brk => obtain ⟨σ7, H7, I7, q7⟩ := q7; exact ⟨σ7, H7, I7.unpinned, q7⟩
    | ret v => obtain ⟨x7, σ7, H7, I7, r7, q7⟩ := q7; exact ⟨x7, σ7, H7, I7.unpinned, r7, q7⟩
end

/-! ### the forms one uses -/
/-- over a list that the body leaves as it is -/
theorem for_list {K : PySem.W.Frag} {a : Addr} {xs : List V} {g : TG} {tb : TS} {D : Ends} {σ : St} {H : Hp} (Pv : Nat → St → Hp → Prop) (h0 : Pv 0 σ H) (hl : ∀ i σ H, i ≤ xs.length → Pv i σ H → SqL K H a xs)
    (hs : ∀ i x σ H, xs[i]? = some x → Pv i σ H → g x σ H fun σ2 H2 => tb { D with nx := Pv (i + 1), ct := Pv (i + 1), bk := D.nx } σ2 H2) (hd : ∀ σ H, Pv xs.length σ H → D.nx σ H) :
    ∃ W : Nat → Nat → St → Hp → Prop, (∃ m, W 0 m σ H) ∧ ∀ i m σ H, W i m σ H →
      ((Itl K a).stop i H ∧ D.nx σ H) ∨ ((Itl K a).go i H ∧ ∃ N : St → Hp → Prop, (∀ σ' H', N σ' H' → ∃ m', m' < m ∧ W (i + 1) m' σ' H') ∧ ∀ x H', (Itl K a).yld i H x H' → g x σ H' fun σ2 H2 => tb { D with nx := N, ct := N, bk := D.nx } σ2 H2) := by
  refine ⟨fun i m σ H => m = xs.length - i ∧ i ≤ xs.length ∧ Pv i σ H, ⟨xs.length, by simp, Nat.zero_le _, h0⟩, ?_⟩
  rintro i m σ H ⟨rfl, hi, p⟩
  have q := hl i σ H hi p
  by_cases hlt : i < xs.length
  · refine .inr ⟨⟨xs, xs[i], q, by simp [hlt]⟩, Pv (i + 1), fun σ' H' p' => ⟨xs.length - (i + 1), by omega, rfl, hlt, p'⟩, fun x H' y => ?_⟩
    obtain ⟨e, y⟩ := y
    subst e
    exact hs i x σ _ (y xs q) p
  · have e : i = xs.length := by omega
    subst e
    exact .inl ⟨⟨xs, q, Nat.le_refl _⟩, hd σ H p⟩
theorem for_tup {K : PySem.W.Frag} {a : Addr} {xs : List V} {g : TG} {tb : TS} {D : Ends} {σ : St} {H : Hp} (Pv : Nat → St → Hp → Prop) (h0 : Pv 0 σ H) (hl : ∀ i σ H, i ≤ xs.length → Pv i σ H → SqT K H a xs)
    (hs : ∀ i x σ H, xs[i]? = some x → Pv i σ H → g x σ H fun σ2 H2 => tb { D with nx := Pv (i + 1), ct := Pv (i + 1), bk := D.nx } σ2 H2) (hd : ∀ σ H, Pv xs.length σ H → D.nx σ H) :
    ∃ W : Nat → Nat → St → Hp → Prop, (∃ m, W 0 m σ H) ∧ ∀ i m σ H, W i m σ H →
      ((Itt K a).stop i H ∧ D.nx σ H) ∨ ((Itt K a).go i H ∧ ∃ N : St → Hp → Prop, (∀ σ' H', N σ' H' → ∃ m', m' < m ∧ W (i + 1) m' σ' H') ∧ ∀ x H', (Itt K a).yld i H x H' → g x σ H' fun σ2 H2 => tb { D with nx := N, ct := N, bk := D.nx } σ2 H2) := by
  refine ⟨fun i m σ H => m = xs.length - i ∧ i ≤ xs.length ∧ Pv i σ H, ⟨xs.length, by simp, Nat.zero_le _, h0⟩, ?_⟩
  rintro i m σ H ⟨rfl, hi, p⟩
  have q := hl i σ H hi p
  by_cases hlt : i < xs.length
  · refine .inr ⟨⟨xs, xs[i], q, by simp [hlt]⟩, Pv (i + 1), fun σ' H' p' => ⟨xs.length - (i + 1), by omega, rfl, hlt, p'⟩, fun x H' y => ?_⟩
    obtain ⟨e, y⟩ := y
    subst e
    exact hs i x σ _ (y xs q) p
  · have e : i = xs.length := by omega
    subst e
    exact .inl ⟨⟨xs, q, Nat.le_refl _⟩, hd σ H p⟩
theorem for_range {lo : Int} {n : Nat} {g : TG} {tb : TS} {D : Ends} {σ : St} {H : Hp} (Pv : Nat → St → Hp → Prop) (h0 : Pv 0 σ H)
    (hs : ∀ i σ H, i < n → Pv i σ H → g (.int (lo + i)) σ H fun σ2 H2 => tb { D with nx := Pv (i + 1), ct := Pv (i + 1), bk := D.nx } σ2 H2) (hd : ∀ σ H, Pv n σ H → D.nx σ H) :
    ∃ W : Nat → Nat → St → Hp → Prop, (∃ m, W 0 m σ H) ∧ ∀ i m σ H, W i m σ H →
      ((Itr lo n).stop i H ∧ D.nx σ H) ∨ ((Itr lo n).go i H ∧ ∃ N : St → Hp → Prop, (∀ σ' H', N σ' H' → ∃ m', m' < m ∧ W (i + 1) m' σ' H') ∧ ∀ x H', (Itr lo n).yld i H x H' → g x σ H' fun σ2 H2 => tb { D with nx := N, ct := N, bk := D.nx } σ2 H2) := by
  refine ⟨fun i m σ H => m = n - i ∧ i ≤ n ∧ Pv i σ H, ⟨n, by simp, Nat.zero_le _, h0⟩, ?_⟩
  rintro i m σ H ⟨rfl, hi, p⟩
  by_cases hlt : i < n
  · refine .inr ⟨hlt, Pv (i + 1), fun σ' H' p' => ⟨n - (i + 1), by omega, rfl, hlt, p'⟩, fun x H' y => ?_⟩
    obtain ⟨e, y⟩ := y
    subst e y
    exact hs i σ _ hlt p
  · have e : i = n := by omega
    subst e
    exact .inl ⟨Nat.le_refl _, hd σ H p⟩
end L2

namespace L2
open PySem PySem.Spec PyProof.Rows

abbrev R2 := V → V → Hp → VK → Prop
/-- a two-place operation on values: f is binaryOp op, inplaceOp op or compareOp op -/
def OpR (X : Cx) (f : Value → Value → Sem Value) (r : R2) : Prop :=
  ∀ (pins : List (Addr × Obj)) (s : Shared) (σ : St) (H : Hp) (x y : V) (v u : Value) (Q : VK), Inv X pins σ H s → RelV x v → RelV y u → r x y H Q →
    wpAny (model X.prog X.w) X.A (f v u) (EP X pins σ Q) X.xe s
/-- a one-place operation -/
def UnR (X : Cx) (f : Value → Sem Value) (r : V → Hp → VK → Prop) : Prop :=
  ∀ (pins : List (Addr × Obj)) (s : Shared) (σ : St) (H : Hp) (x : V) (v : Value) (Q : VK), Inv X pins σ H s → RelV x v → r x H Q →
    wpAny (model X.prog X.w) X.A (f v) (EP X pins σ Q) X.xe s
/-- a call of a value that is known (a builtin, a type) with values -/
def CallR (X : Cx) (f : Value) (r : List V → Hp → VK → Prop) : Prop :=
  ∀ (pins : List (Addr × Obj)) (s : Shared) (σ : St) (H : Hp) (xs : List V) (us : List Value) (Q : VK), Inv X pins σ H s → Vals xs us → r xs H Q →
    wpAny (model X.prog X.w) X.A (call f us) (EP X pins σ Q) X.xe s
/-- a value's truth -/
def TruR (X : Cx) (r : V → Hp → (Bool → Hp → Prop) → Prop) : Prop :=
  ∀ (pins : List (Addr × Obj)) (s : Shared) (σ : St) (H : Hp) (x : V) (v : Value) (Q : Bool → Hp → Prop), Inv X pins σ H s → RelV x v → r x H Q →
    wpAny (model X.prog X.w) X.A (truthy v) (TP X pins σ Q) X.xe s

def tOp (r : R2) (ta tb : TE) : TE := fun σ H Q => ta σ H fun x H1 => tb σ H1 fun y H2 => r x y H2 Q
def tUn (r : V → Hp → VK → Prop) (ta : TE) : TE := fun σ H Q => ta σ H fun x H1 => r x H1 Q
/-- ints in, under C, and a value out -/
def rI (C : Int → Int → Prop) (g : Int → Int → V) : R2 := fun x y H Q => ∃ i j, x = .int i ∧ y = .int j ∧ C i j ∧ Q (g i j) H
def rI0 (g : Int → Int → V) : R2 := fun x y H Q => ∃ i j, x = .int i ∧ y = .int j ∧ Q (g i j) H
def rU (g : Int → V) : V → Hp → VK → Prop := fun x H Q => ∃ i, x = .int i ∧ Q (g i) H

section
variable {X : Cx} {a b c : Expr} {ta tb tc : TE} {pos : Pos}

theorem binT (ha : PE X a ta) (hb : PE X b tb) {pins : List (Addr × Obj)} {s : Shared} {σ : St} {H : Hp} {R : V → V → Hp → Prop} (I : Inv X pins σ H s)
    (h : ta σ H fun x H1 => tb σ H1 fun y H2 => R x y H2) {Q : Value → Shared → Prop} {f : Value → Value → Sem Value}
    (hf : ∀ v u s2 x y H2, Inv X pins σ H2 s2 → RelV x v → RelV y u → R x y H2 → wpAny (model X.prog X.w) X.A (f v u) Q X.xe s2) :
    wpAny (model X.prog X.w) X.A (eval a X.env) (fun v s₁ => wpAny (model X.prog X.w) X.A (eval b X.env) (fun u s₂ => wpAny (model X.prog X.w) X.A (f v u) Q X.xe s₂) X.xe s₁) X.xe s := by
  refine thn (ha pins s σ H _ I h) fun v s1 ⟨x, H1, I1, r1, q1⟩ => ?_
  refine thn (hb pins s1 σ H1 _ I1 q1) fun u s2 ⟨y, H2, I2, r2, q2⟩ => ?_
  exact hf v u s2 x y H2 I2 r1 r2 q2

theorem pe_op {op : Operator} {r : R2} (ho : OpR X (binaryOp op) r) (ha : PE X a ta) (hb : PE X b tb) : PE X (.BinOp a op b pos) (tOp r ta tb) := by
  intro pins s σ H Q I h
  exact wpAny_BinOp (binT ha hb I h fun v u s2 x y H2 I2 rx ry q => ho pins s2 σ H2 x y v u Q I2 rx ry q)
theorem pe_un {op : UnaryOp} {r : V → Hp → VK → Prop} (ho : UnR X (unaryOp op) r) (ha : PE X a ta) : PE X (.UnaryOp op a pos) (tUn r ta) := by
  intro pins s σ H Q I h
  exact UnaryOp_ (thn (ha pins s σ H _ I h) fun v s1 ⟨x, H1, I1, r1, q1⟩ => ho pins s1 σ H1 x v Q I1 r1 q1)
/-! ### ints -/
theorem opI {f : Value → Value → Sem Value} {C : Int → Int → Prop} {g : Int → Int → Int}
    (rule : ∀ (i j : Int) (t u : Tok) (s : Shared) (Q : Value → Shared → Prop) (E : Value → Shared → Prop), C i j → Q (.int (g i j) s.toks) { s with toks := s.toks + 1 } → wpAny (model X.prog X.w) X.A (f (.int i t) (.int j u)) Q E s) :
    OpR X f (rI C fun i j => .int (g i j)) := by
  intro pins s σ H x y v u Q I rx ry h
  obtain ⟨i, j, rfl, rfl, hc, q⟩ := h
  obtain ⟨t, rfl⟩ := rx
  obtain ⟨t', rfl⟩ := ry
  exact rule i j t t' s _ _ hc ⟨.int (g i j), H, I.tok _, ⟨_, rfl⟩, q⟩
theorem opI0 {f : Value → Value → Sem Value} {g : Int → Int → Int}
    (rule : ∀ (i j : Int) (t u : Tok) (s : Shared) (Q : Value → Shared → Prop) (E : Value → Shared → Prop), Q (.int (g i j) s.toks) { s with toks := s.toks + 1 } → wpAny (model X.prog X.w) X.A (f (.int i t) (.int j u)) Q E s) :
    OpR X f (rI0 fun i j => .int (g i j)) := by
  intro pins s σ H x y v u Q I rx ry h
  obtain ⟨i, j, rfl, rfl, q⟩ := h
  obtain ⟨t, rfl⟩ := rx
  obtain ⟨t', rfl⟩ := ry
  exact rule i j t t' s _ _ ⟨.int (g i j), H, I.tok _, ⟨_, rfl⟩, q⟩
theorem opB0 {f : Value → Value → Sem Value} {g : Int → Int → Bool}
    (rule : ∀ (i j : Int) (t u : Tok) (s : Shared) (Q : Value → Shared → Prop) (E : Value → Shared → Prop), Q (.bool (g i j)) s → wpAny (model X.prog X.w) X.A (f (.int i t) (.int j u)) Q E s) :
    OpR X f (rI0 fun i j => .bl (g i j)) := by
  intro pins s σ H x y v u Q I rx ry h
  obtain ⟨i, j, rfl, rfl, q⟩ := h
  obtain ⟨t, rfl⟩ := rx
  obtain ⟨t', rfl⟩ := ry
  exact rule i j t t' s _ _ ⟨.bl (g i j), H, I, rfl, q⟩

def CDiv (i j : Int) : Prop := 0 < j ∧ j < 1073741824
def CDivN (i j : Int) : Prop := j ≠ 0 ∧ j.natAbs < 1073741824
def CPow (i j : Int) : Prop := 0 ≤ j ∧ j ≤ 1000000 ∧ i.natAbs < 2 ^ 64
def CMul (i j : Int) : Prop := (-(2 ^ 64) < i ∧ i < 2 ^ 64) ∨ (-(2 ^ 64) < j ∧ j < 2 ^ 64)
theorem CMul.ok {i j : Int} (h : CMul i j) : IntMulOk i j := by
  rcases h with ⟨h1, h2⟩ | ⟨h1, h2⟩
  · exact .of_left (intBits_le_64 h1 h2)
  · exact .of_right (intBits_le_64 h1 h2)
theorem op_add : OpR X (binaryOp .Add) (rI0 fun i j => .int (i + j)) := opI0 fun _ _ _ _ _ _ _ q => add_int q
theorem op_sub : OpR X (binaryOp .Sub) (rI0 fun i j => .int (i - j)) := opI0 fun _ _ _ _ _ _ _ q => sub_int q
/-- % by a positive divisor of any size -/
theorem op_mod : OpR X (binaryOp .Mod) (rI (fun _ j => 0 < j) fun i j => .int (i % j)) := opI fun i j _ _ _ _ _ hc q => by
  have h1 : (0 : Int) < j := hc
  exact mod_int' (by omega) (by rw [Int.fmod_eq_emod_of_nonneg i (by omega)]; exact q)
theorem op_pow : OpR X (binaryOp .Pow) (rI CPow fun i j => .int (i ^ j.toNat)) := opI fun _ _ _ _ _ _ _ hc q => pow_int_small hc.1 hc.2.1 hc.2.2 q
theorem unI {f : Value → Sem Value} {g : Int → Int}
    (rule : ∀ (i : Int) (t : Tok) (s : Shared) (Q : Value → Shared → Prop) (E : Value → Shared → Prop), Q (.int (g i) s.toks) { s with toks := s.toks + 1 } → wpAny (model X.prog X.w) X.A (f (.int i t)) Q E s) :
    UnR X f (rU fun i => .int (g i)) := by
  intro pins s σ H x v Q I rx h
  obtain ⟨i, rfl, q⟩ := h
  obtain ⟨t, rfl⟩ := rx
  exact rule i t s _ _ ⟨.int (g i), H, I.tok _, ⟨_, rfl⟩, q⟩
theorem un_neg : UnR X (unaryOp .USub) (rU fun i => .int (-i)) := unI fun _ _ _ _ _ q => neg_int q
/-! ### bools among ints: n += (a < b) -/
end

/-! ### comparisons -/
/-- the scalars that == tells apart as data does -/
def scal : V → V → Bool
  | .non, .non => true | .non, .int _ => true | .int _, .non => true | .non, .bl _ => true | .bl _, .non => true | .non, .str _ => true | .str _, .non => true
  | .int _, .int _ => true | .bl _, .bl _ => true | .str _, .str _ => true | .byt _, .byt _ => true
  | .int _, .str _ => true | .str _, .int _ => true | .bl _, .str _ => true | .str _, .bl _ => true
  | _, _ => false
def rEq : R2 := fun x y H Q => scal x y = true ∧ Q (.bl (decide (x = y))) H
def rNe : R2 := fun x y H Q => scal x y = true ∧ Q (.bl (!decide (x = y))) H

theorem dec_int {i j : Int} : decide (V.int i = V.int j) = (i == j) := by
  rw [Bool.eq_iff_iff]
  simp
theorem dec_bl {i j : Bool} : decide (V.bl i = V.bl j) = (i == j) := by
  rw [Bool.eq_iff_iff]
  simp
theorem dec_str {i j : Str} : decide (V.str i = V.str j) = (i == j) := by
  rw [Bool.eq_iff_iff]
  simp
theorem dec_byt {i j : Array UInt8} : decide (V.byt i = V.byt j) = (i.toList == j.toList) := by
  rw [Bool.eq_iff_iff]
  cases i
  cases j
  simp

section
variable {X : Cx} {a b c : Expr} {ta tb tc : TE} {pos : Pos}
theorem fin_bl {pins : List (Addr × Obj)} {σ : St} {H : Hp} {s : Shared} {Q : VK} {k k' : Bool} (I : Inv X pins σ H s) (q : Q (.bl k) H) (e : k = k') : EP X pins σ Q (.bool k') s := by
  subst e
  exact ⟨.bl k, H, I, rfl, q⟩
theorem op_eq : OpR X (compareOp .Eq) rEq := by
  intro pins s σ H x y v u Q I rx ry h
  obtain ⟨hs, q⟩ := h
  cases x with
  | non =>
    cases rx
    cases y with
    | non => cases ry; exact PySem.EqNone.eq_none_none (fin_bl I q (by simp))
    | bl j => cases ry; exact PySem.EqNone.eq_none_bool (fin_bl I q (by simp))
    | int j => obtain ⟨t', rfl⟩ := ry; exact PySem.EqNone.eq_none_int (fin_bl I q (by simp))
    | str j => obtain ⟨t', rfl⟩ := ry; exact PySem.EqNone.eq_none_str (fin_bl I q (by simp))
    | _ => exact absurd (show false = true from hs) Bool.false_ne_true
  | bl i =>
    cases rx
    cases y with
    | non => cases ry; exact PySem.EqNone.eq_bool_none (fin_bl I q (by simp))
    | bl j => cases ry; exact eq_bool (fin_bl I q dec_bl)
    | str j => obtain ⟨t', rfl⟩ := ry; exact PySem.EqMixed.eq_bool_str (fin_bl I q (by simp))
    | _ => exact absurd (show false = true from hs) Bool.false_ne_true
  | int i =>
    obtain ⟨t, rfl⟩ := rx
    cases y with
    | non => cases ry; exact PySem.EqNone.eq_int_none (fin_bl I q (by simp))
    | int j => obtain ⟨t', rfl⟩ := ry; exact eq_int (fin_bl I q dec_int)
    | str j => obtain ⟨t', rfl⟩ := ry; exact PySem.EqMixed.eq_int_str (fin_bl I q (by simp))
    | _ => exact absurd (show false = true from hs) Bool.false_ne_true
  | str i =>
    obtain ⟨t, rfl⟩ := rx
    cases y with
    | non => cases ry; exact PySem.EqNone.eq_str_none (fin_bl I q (by simp))
    | bl j => cases ry; exact PySem.EqMixed.eq_str_bool (fin_bl I q (by simp))
    | int j => obtain ⟨t', rfl⟩ := ry; exact PySem.EqMixed.eq_str_int (fin_bl I q (by simp))
    | str j => obtain ⟨t', rfl⟩ := ry; exact eq_str (fin_bl I q dec_str)
    | _ => exact absurd (show false = true from hs) Bool.false_ne_true
  | byt i =>
    obtain ⟨t, rfl⟩ := rx
    cases y with
    | byt j => obtain ⟨t', rfl⟩ := ry; exact PySem.W.eq_bytes (fin_bl I q dec_byt)
    | _ => exact absurd (show false = true from hs) Bool.false_ne_true
  | _ => cases y <;> exact absurd (show false = true from hs) Bool.false_ne_true
theorem op_ne : OpR X (compareOp .NotEq) rNe := by
  intro pins s σ H x y v u Q I rx ry h
  obtain ⟨hs, q⟩ := h
  cases x with
  | non =>
    cases rx
    cases y with
    | non => cases ry; exact PySem.EqNone.ne_none_none (fin_bl I q (by simp))
    | bl j => cases ry; exact PySem.EqNone.ne_none_bool (fin_bl I q (by simp))
    | int j => obtain ⟨t', rfl⟩ := ry; exact PySem.EqNone.ne_none_int (fin_bl I q (by simp))
    | str j => obtain ⟨t', rfl⟩ := ry; exact PySem.EqNone.ne_none_str (fin_bl I q (by simp))
    | _ => exact absurd (show false = true from hs) Bool.false_ne_true
  | bl i =>
    cases rx
    cases y with
    | non => cases ry; exact PySem.EqNone.ne_bool_none (fin_bl I q (by simp))
    | bl j => cases ry; exact ne_bool (fin_bl I q (congrArg not dec_bl))
    | str j => obtain ⟨t', rfl⟩ := ry; exact PySem.EqMixed.ne_bool_str (fin_bl I q (by simp))
    | _ => exact absurd (show false = true from hs) Bool.false_ne_true
  | int i =>
    obtain ⟨t, rfl⟩ := rx
    cases y with
    | non => cases ry; exact PySem.EqNone.ne_int_none (fin_bl I q (by simp))
    | int j => obtain ⟨t', rfl⟩ := ry; exact ne_int (fin_bl I q (congrArg not dec_int))
    | str j => obtain ⟨t', rfl⟩ := ry; exact PySem.EqMixed.ne_int_str (fin_bl I q (by simp))
    | _ => exact absurd (show false = true from hs) Bool.false_ne_true
  | str i =>
    obtain ⟨t, rfl⟩ := rx
    cases y with
    | non => cases ry; exact PySem.EqNone.ne_str_none (fin_bl I q (by simp))
    | bl j => cases ry; exact PySem.EqMixed.ne_str_bool (fin_bl I q (by simp))
    | int j => obtain ⟨t', rfl⟩ := ry; exact PySem.EqMixed.ne_str_int (fin_bl I q (by simp))
    | str j => obtain ⟨t', rfl⟩ := ry; exact ne_str (fin_bl I q (congrArg not dec_str))
    | _ => exact absurd (show false = true from hs) Bool.false_ne_true
  | byt i =>
    obtain ⟨t, rfl⟩ := rx
    cases y with
    | byt j => obtain ⟨t', rfl⟩ := ry; exact PySem.W.ne_bytes (fin_bl I q (congrArg not dec_byt))
    | _ => exact absurd (show false = true from hs) Bool.false_ne_true
  | _ => cases y <;> exact absurd (show false = true from hs) Bool.false_ne_true

theorem op_lt : OpR X (compareOp .Lt) (rI0 fun i j => .bl (decide (i < j))) := opB0 fun _ _ _ _ _ _ _ q => lt_int q
theorem op_gt : OpR X (compareOp .Gt) (rI0 fun i j => .bl (decide (j < i))) := opB0 fun _ _ _ _ _ _ _ q => gt_int q
theorem op_ge : OpR X (compareOp .GtE) (rI0 fun i j => .bl (decide (j ≤ i))) := opB0 fun _ _ _ _ _ _ _ q => ge_int q
theorem op_notN : OpR X (compareOp .IsNot) (fun x y H Q => y = .non ∧ Q (.bl (!decide (x = .non))) H) := by
  intro pins s σ H x y v u Q I rx ry h
  obtain ⟨rfl, q⟩ := h
  cases ry
  refine isnot_none_gen (fin_bl I q ?_)
  cases x <;> first
    | (cases rx; rfl)
    | (obtain ⟨t, rfl⟩ := rx; rfl)

/-- is, is not of two objects that are tracked lists or instances -/
def isObj : HO → Bool
  | .lst _ => true
  | .ins _ _ _ => true
  | _ => false
/-- two rules for one operation: by cases -/
theorem OpR.or {f : Value → Value → Sem Value} {r r' : R2} (h : OpR X f r) (h' : OpR X f r') : OpR X f (fun x y H Q => r x y H Q ∨ r' x y H Q) := by
  intro pins s σ H x y v u Q I rx ry q
  rcases q with q | q
  · exact h pins s σ H x y v u Q I rx ry q
  · exact h' pins s σ H x y v u Q I rx ry q

theorem nomark (b : Expr) {op : CmpOp} (h : op ≠ .In := by decide) (h2 : op ≠ .NotIn := by decide) : behindInMarks op b = false := by
  have e1 : (op == CmpOp.In) = false := by cases op <;> first | rfl | exact absurd rfl h
  have e2 : (op == CmpOp.NotIn) = false := by cases op <;> first | rfl | exact absurd rfl h2
  cases b <;> simp [behindInMarks, e1, e2]
/-- a comparison as a value; hm: nomark b, or (for in, not in) by with_unfolding_all rfl -/
theorem pe_cmpR {op : CmpOp} {r : R2} (ho : OpR X (compareOp op) r) (ha : PE X a ta) (hb : PE X b tb) (hm : behindInMarks op b = false) : PE X (.Compare a [op] [b] pos) (tOp r ta tb) := by
  intro pins s σ H Q I h
  exact wpAny_Compare1 (binT ha hb I h fun v u s2 x y H2 I2 rx ry q => ho pins s2 σ H2 x y v u Q I2 rx ry q) hm
/-- a reading of a value as a test -/
def tTest (t : TE) : TT := fun σ H Q => t σ H fun x H' => ∃ k, x = .bl k ∧ Q k H'
theorem pt_cmpR {op : CmpOp} {r : R2} (ho : OpR X (compareOp op) r) (ha : PE X a ta) (hb : PE X b tb) (hm : behindInMarks op b = false) : PT X (.Compare a [op] [b] pos) (tTest (tOp r ta tb)) := by
  intro pins s σ H Q I h
  refine wpAny_isTrue_Compare1 (thn (ha pins s σ H _ I h) fun v s1 ⟨x, H1, I1, r1, q1⟩ => thn (hb pins s1 σ H1 _ I1 q1) fun u s2 ⟨y, H2, I2, r2, q2⟩ =>
    thn (ho pins s2 σ H2 x y v u _ I2 r1 r2 q2) fun c s3 ⟨z, H3, I3, r3, k, e, q3⟩ => ?_) hm
  subst e
  cases r3
  exact wpAny_truthy_bool ⟨H3, I3, q3⟩
/-- a op1 b op2 c -/
def tChain (r r' : R2) (ta tb tc : TE) : TE := fun σ H Q => ta σ H fun x H1 => tb σ H1 fun y H2 => r x y H2 fun z H3 => ∃ k, z = .bl k ∧
  (if k = true then tc σ H3 fun w' H4 => r' y w' H4 Q else Q (.bl false) H3)
/-! ### truth -/
/-- a value's truth by the abstract heap -/
def TruV (K : PySem.W.Frag) (x : V) (H : Hp) (k : Bool) : Prop :=
  match x with
  | .non => k = false
  | .bl b => k = b
  | .int i => k = (i != 0)
  | .str y => y.length ≤ sizeLine ∧ k = ((y.length : Int) != 0)
  | .byt y => y.size ≤ sizeLine ∧ k = ((y.size : Int) != 0)
  | .ref p => (∃ xs, SqL K H p xs ∧ k = !xs.isEmpty) ∨ (∃ xs, SqT K H p xs ∧ k = !xs.isEmpty) ∨ ∃ kvs, H p = some (.dK kvs) ∧ k = !kvs.isEmpty
  | _ => False
theorem line63 : (sizeLine : Nat) < 2 ^ 63 := by rw [sizeLine_eq]; decide
/-! ### strs and bytes -/
def PlainIxT (b : Expr) : Prop := ∀ o i, subscripted b false o i = operate [o, i] (getItem o i)
/-! ### scalar builtins, by CallR -/
theorem vals1 {x : V} {us : List Value} (r : Vals [x] us) : ∃ u, us = [u] ∧ RelV x u := by
  cases r with
  | cons r1 r2 => cases r2; exact ⟨_, rfl, r1⟩
theorem vals2 {x y : V} {us : List Value} (r : Vals [x, y] us) : ∃ u w', us = [u, w'] ∧ RelV x u ∧ RelV y w' := by
  cases r with
  | cons r1 r2 =>
    cases r2 with
    | cons r3 r4 => cases r4; exact ⟨_, _, rfl, r1, r3⟩
theorem call_abs : CallR X (.builtin "abs") (fun xs H Q => ∃ i, xs = [.int i] ∧ Q (.int (if i < 0 then -i else i)) H) := by
  intro pins s σ H xs us Q I r h
  obtain ⟨i, rfl, q⟩ := h
  obtain ⟨u, rfl, t, rfl⟩ := vals1 r
  exact call_abs_int fun u tk => ⟨.int (if i < 0 then -i else i), H, I.tok _, ⟨_, rfl⟩, q⟩
theorem call_max2 (hc : X.calm = true) : CallR X (.builtin "max") (fun xs H Q => ∃ i j, xs = [.int i, .int j] ∧ Q (.int (if j > i then j else i)) H) := by
  intro pins s σ H xs us Q I r h
  obtain ⟨i, j, rfl, q⟩ := h
  obtain ⟨u, w', rfl, ⟨t, rfl⟩, ⟨t', rfl⟩⟩ := vals2 r
  refine max_two_ints (I.ok.hd hc) fun h' tk k => ⟨_, H, I.kept k, ?_, q⟩
  by_cases hj : j > i
  · rw [if_pos hj, if_pos hj]; exact ⟨_, rfl⟩
  · rw [if_neg hj, if_neg hj]; exact ⟨_, rfl⟩
theorem call_min2 (hc : X.calm = true) : CallR X (.builtin "min") (fun xs H Q => ∃ i j, xs = [.int i, .int j] ∧ Q (.int (if j < i then j else i)) H) := by
  intro pins s σ H xs us Q I r h
  obtain ⟨i, j, rfl, q⟩ := h
  obtain ⟨u, w', rfl, ⟨t, rfl⟩, ⟨t', rfl⟩⟩ := vals2 r
  refine min_two_ints (I.ok.hd hc) fun h' tk k => ⟨_, H, I.kept k, ?_, q⟩
  by_cases hj : j < i
  · rw [if_pos hj, if_pos hj]; exact ⟨_, rfl⟩
  · rw [if_neg hj, if_neg hj]; exact ⟨_, rfl⟩
/-- len of a str, a bytes, a list, a tuple -/
def LenV (K : PySem.W.Frag) (x : V) (H : Hp) (n : Nat) : Prop :=
  match x with
  | .str y => y.length ≤ sizeLine ∧ n = y.length
  | .byt y => y.size ≤ sizeLine ∧ n = y.size
  | .ref p => (∃ xs, SqL K H p xs ∧ n = xs.length) ∨ ∃ xs, SqT K H p xs ∧ n = xs.length
  | _ => False
end
end L2

namespace L2
open PySem PySem.Spec PyProof.Rows

/-! ### an instance, its attributes a map -/
structure ObjM (h : Heap) (x dx C : Addr) (mA : Str → Option Value) : Prop where
  obj : h.get? x = some (PySem.W.instObj C dx)
  ns : h.Ns1 dx mA
  ne : dx ≠ x

theorem lookIn_ns {h : Heap} {dx : Addr} {mA : Str → Option Value} (n : h.Ns1 dx mA) : ∃ od, h.get? dx = some od ∧ ∀ name, PySem.W.lookIn name od = some (mA name) := by
  obtain ⟨o, es, ep, ho, hd, hk, _, hm⟩ := n
  refine ⟨o, ho, fun name => ?_⟩
  have e := hm name
  unfold nsFind findBy at e
  rw [← Array.find?_toList] at e
  unfold PySem.W.lookIn
  rw [hd]
  dsimp only
  split
  · rename_i y q
    rw [q] at e
    exact congrArg some e
  · rename_i q
    rw [q] at e
    have a : es.toList.any (·.refKey) = false := by
      rw [List.any_eq_false]
      intro y hy
      obtain ⟨z, t, hkey⟩ := hk y (Array.mem_toList_iff.mp hy)
      simp [DictEntry.refKey, hkey]
    have a' : ¬ es.toList.any (·.refKey) = true := by rw [a]; exact Bool.false_ne_true
    rw [if_neg a']
    exact congrArg some e

theorem ObjM.look {h : Heap} {x dx C : Addr} {mA : Str → Option Value} (I : ObjM h x dx C mA) : ∃ od, PySem.W.InstAt h x (PySem.W.instObj C dx) C (some od) ∧ ∀ name, PySem.W.lookIn name od = some (mA name) :=
  let ⟨od, ho, hl⟩ := lookIn_ns I.ns
  ⟨od, ⟨I.obj, rfl, rfl, ho⟩, hl⟩

section
variable {prog : Program} {w : World} {A : Around} {E : Value → Shared → Prop} {s : Shared} {K : PySem.W.Frag} {x dx C f : Addr} {mA : Str → Option Value} {name : Str} {v : Value}

end

/-! ### the attributes as a list of pairs -/
def putF (f : Str) (v : V) : List (Str × V) → List (Str × V)
  | [] => [(f, v)]
  | (g, x) :: r => if g = f then (g, v) :: r else (g, x) :: putF f v r
theorem RelO.some_of {v : V} {o : Option Value} (r : RelO (some v) o) : ∃ u, o = some u ∧ RelV v u := by
  cases o with
  | none => exact (show False from r).elim
  | some u => exact ⟨u, rfl, r⟩
theorem handed_of {v : V} {u : Value} (r : RelV v u) : PySem.W.handedIn u = true := by
  cases v with
  | non => cases (show u = Value.none from r); rfl
  | bl b => cases (show u = Value.bool b from r); rfl
  | int i => obtain ⟨t, e⟩ := (show ∃ t, u = Value.int i t from r); cases e; rfl
  | str x => obtain ⟨t, e⟩ := (show ∃ t, u = Value.str x t from r); cases e; rfl
  | byt b => obtain ⟨t, e⟩ := (show ∃ t, u = Value.bytes b t from r); cases e; rfl
  | flt b => obtain ⟨t, e⟩ := (show ∃ t, u = Value.float b t from r); cases e; rfl
  | ref a => cases (show u = Value.ref a from r); rfl
  | ty n => cases (show u = Value.type n from r); rfl

section
variable {P : Program} {w : World} {H H' : Hp} {h h' : Heap} {a C dx : Addr} {fs fs' : List (Str × V)}
theorem ins_get (hok : HOk P w H h) (e : H a = some (.ins C dx fs)) : ∃ mA, ObjM h a dx C mA ∧ (∀ f, RelO (fs.lookup f) (mA f)) ∧ PySem.Within mA (fs.map (·.1)) ∧ fs.length ≤ 1000 ∧ H dx = some (.own a) := by
  obtain ⟨d, z, ne, ob, mA, n, r, q⟩ := (show ObjOk P w H h a (.ins C dx fs) from hok a _ e)
  exact ⟨mA, ⟨ob, n, ne⟩, r, q, z, d⟩
end

/-! ### what of the text a class must have -/
structure Cls (K : PySem.W.Frag) (C : Addr) : Prop where
  pg : PySem.W.plainGet K C Str.empty = true
  hd : PySem.W.hasDictIn K C = true
  po : PySem.W.plainOver K C = true
  sa : PySem.W.findIn K (.ref C) "__setattr__" = some (some (.builtin "object.__setattr__"))
theorem Cls.get {K : PySem.W.Frag} {C : Addr} (c : Cls K C) (f : Str) : PySem.W.plainGet K C f = true := c.pg
/-- no class of it has the name -/
def NoAttr (K : PySem.W.Frag) (C : Addr) (f : Str) : Prop := PySem.W.findIn K (.ref C) f = some none
/-- a constant of the class -/
structure Con (K : PySem.W.Frag) (C : Addr) (f : Str) (v : V) (u : Value) : Prop where
  at_ : PySem.W.findIn K (.ref C) f = some (some u)
  rel : RelV v u
  get : PySem.W.specialIn K u "__get__" = some none
  cp : PySem.W.copiedNames.contains f = false
/-- a method: a plain def of the class or of one above it -/
structure Meth (K : PySem.W.Frag) (C : Addr) (m : Str) (f : Addr) : Prop where
  at_ : PySem.W.findIn K (.ref C) m = some (some (.ref f))
  fn : PySem.W.isFn K (.ref f) = true
  kp : PySem.W.keepIn K (.ref f) = true

section
variable {X : Cx} {pins : List (Addr × Obj)} {σ : St} {H : Hp} {s : Shared} {a C dx : Addr} {fs : List (Str × V)} {f : Str} {v : V} {A : Around} {E : Value → Shared → Prop}

/-- a new instance, tracked, without attributes -/
theorem Inv.made (I : Inv X pins σ H s) : Inv X pins σ (upd (upd H s.heap.objs.size (.own (s.heap.objs.size + 1))) (s.heap.objs.size + 1) (.ins C s.heap.objs.size []))
    { s with heap := (s.heap.push PySem.W.emptyDict).push (PySem.W.instObj C s.heap.objs.size) } := by
  have e1 : (s.heap.push PySem.W.emptyDict).get? s.heap.objs.size = some PySem.W.emptyDict := Heap.get?_push_size s.heap rfl
  have e2 : ((s.heap.push PySem.W.emptyDict).push (PySem.W.instObj C s.heap.objs.size)).get? (s.heap.objs.size + 1) = some (PySem.W.instObj C s.heap.objs.size) := by
    have := Heap.get?_push_size (s.heap.push PySem.W.emptyDict) (o := PySem.W.instObj C s.heap.objs.size) rfl
    rwa [Heap.size_push] at this
  have e3 : (s.heap.push PySem.W.emptyDict).Ns s.heap.objs.size (fun _ => none) := ⟨PySem.W.emptyDict, #[], _, e1, rfl, (fun e he => absurd he (by simp)), fun _ => rfl⟩
  have I1 := I.laid (a := s.heap.objs.size) (o := .own (s.heap.objs.size + 1)) (h' := s.heap.push PySem.W.emptyDict) (t' := s.toks) (fun b u q => Heap.get?_push_of_some _ q) (Nat.le_refl _) ⟨_, e1⟩
  refine I1.laid (a := s.heap.objs.size + 1) (o := .ins C s.heap.objs.size []) (t' := s.toks) (fun b u q => Heap.get?_push_of_some _ q) (Nat.le_of_eq (Heap.size_push _ _)) ?_
  have ne : s.heap.objs.size ≠ s.heap.objs.size + 1 := Nat.ne_of_lt (Nat.lt_succ_self _)
  refine ⟨by rw [upd_ne ne, upd_same], Nat.zero_le _, ne, e2, fun _ => none, (Heap.Ns1.of_empty e3).at fun o q => Heap.get?_push_of_some _ q, fun _ => True.intro, fun y hy => absurd rfl hy⟩

/-- e.f where nothing but the object is asked: through attributeBase (super) and the last hold -/
theorem attr_of {prog : Program} {w : World} {env : Env} {e : Expr} {f : Str} {pos : Pos} {s : Shared} {Q : Value → Shared → Prop} (hb : attributeBase e f env (eval e env) = eval e env)
    (h : wpAny (model prog w) A (eval e env) (fun o s₁ => wpAny (model prog w) A (getAttr o f true) Q E s₁) E s) : wpAny (model prog w) A (eval (.Attribute e f pos) env) Q E s :=
  Attribute_any_ h (by rw [arm_eval_Attribute, hb])
end

/-! ### readings and rules -/
/-- e.f, an attribute of the instance -/
def tFld (K : PySem.W.Frag) (ta : TE) (f : Str) : TE := fun σ H Q => ta σ H fun x H1 => ∃ a C dx fs v, x = .ref a ∧ H1 a = some (.ins C dx fs) ∧ Cls K C ∧ NoAttr K C f ∧ fs.lookup f = some v ∧ Q v H1
/-- e.f, a constant of the class -/
def tCon (K : PySem.W.Frag) (ta : TE) (f : Str) : TE := fun σ H Q => ta σ H fun x H1 => ∃ a C dx fs v u, x = .ref a ∧ H1 a = some (.ins C dx fs) ∧ Cls K C ∧ Con K C f v u ∧ fs.lookup f = none ∧ Q v H1
/-- e.f = value -/
def sFld (K : PySem.W.Frag) (ta tv : TE) (f : Str) : TS := fun D σ H => tv σ H fun y H1 => ta σ H1 fun x H2 => ∃ a C dx fs, x = .ref a ∧ H2 a = some (.ins C dx fs) ∧ Cls K C ∧ NoAttr K C f ∧ fs.length < 1000 ∧
  D.nx σ (upd H2 a (.ins C dx (putF f y fs)))
/-- an augmented operator on two values -/
def InOp (X : Cx) (op : Operator) (rd : V → V → Hp → VK → Prop) : Prop :=
  ∀ (pins : List (Addr × Obj)) (s : Shared) (σ : St) (H : Hp) (x y : V) (u v : Value) (Q : VK), Inv X pins σ H s → RelV x u → RelV y v → rd x y H Q → wpAny (model X.prog X.w) X.A (inplaceOp op u v) (EP X pins σ Q) X.xe s
/-- e.f op= value -/
def sFldAug (K : PySem.W.Frag) (ta tv : TE) (rd : V → V → Hp → VK → Prop) (f : Str) : TS := fun D σ H => ta σ H fun x H1 => ∃ a C dx fs v, x = .ref a ∧ H1 a = some (.ins C dx fs) ∧ Cls K C ∧ NoAttr K C f ∧ fs.lookup f = some v ∧
  tv σ H1 fun y H2 => rd v y H2 fun z H3 => ∃ dx' fs', H3 a = some (.ins C dx' fs') ∧ fs'.length < 1000 ∧ D.nx σ (upd H3 a (.ins C dx' (putF f z fs')))

section
variable {X : Cx} {o e value : Expr} {f : Str} {pos pos' tpos : Pos} {ta tv : TE}
def rAdd : V → V → Hp → VK → Prop := fun x y H Q => ∃ i j, x = .int i ∧ y = .int j ∧ Q (.int (i + j)) H
def rSub : V → V → Hp → VK → Prop := fun x y H Q => ∃ i j, x = .int i ∧ y = .int j ∧ Q (.int (i - j)) H
end

/-! ### isinstance -/
section
variable {X : Cx} {pins : List (Addr × Obj)} {σ : St} {H : Hp} {s : Shared} {A : Around} {E : Value → Shared → Prop} {Q : Value → Shared → Prop} {c : Value} {b : Bool}
/-- the type of a value, as the fragment's deciders take it; for an instance its class -/
inductive TyOf (K : PySem.W.Frag) (H : Hp) : V → Value → Prop where
  | non : TyOf K H .non (.type "NoneType")
  | bl (x : Bool) : TyOf K H (.bl x) (.type "bool")
  | int (i : Int) : TyOf K H (.int i) (.type "int")
  | str (x : Str) : TyOf K H (.str x) (.type "str")
  | flt (x : UInt64) : TyOf K H (.flt x) (.type "float")
  | lst {a : Addr} {xs : List V} (e : H a = some (.lst xs)) : TyOf K H (.ref a) (.type "list")
  | frz {a : Addr} {o : Obj} {xs : List V} (e : H a = some (.frz o (.lst xs))) : TyOf K H (.ref a) (.type "list")
  | tup {a : Addr} {xs : List V} (e : H a = some (.tup xs)) : TyOf K H (.ref a) (.type "tuple")
  | dK {a : Addr} {kvs : List (Key × V)} (e : H a = some (.dK kvs)) : TyOf K H (.ref a) (.type "dict")
  | dT {a : Addr} {kvs : List (List Key × V)} (e : H a = some (.dT kvs)) : TyOf K H (.ref a) (.type "dict")
  | ins {a C dx : Addr} {fs : List (Str × V)} (e : H a = some (.ins C dx fs)) (cl : Cls K C) (ha : PySem.W.findIn K (.ref C) "__class__" = some (some (.builtin "object.__class__")))
      (hn : PySem.W.specialIn K (.builtin "object.__class__") "__get__" = some (some (.builtin "getset_descriptor.__get__"))) (htk : PySem.W.takesIn K (.builtin "object.__class__") = some true)
      (hm : PySem.W.mroIn K C (.type "object") = some true) : TyOf K H (.ref a) (.ref C)
/-- isinstance(x, c) for one class c, a built-in or an own one: kitOne's answer -/
theorem isinst_ok {x : V} {u t : Value} (I : Inv X pins σ H s) (rx : RelV x u) (ty : TyOf X.K H x t) (e : PySem.W.kitOne X.K t c = some b) (h : ∀ tk, Q (.bool b) { s with toks := tk }) :
    wpAny (model X.prog X.w) A (call (.builtin "isinstance") [u, c]) Q E s := by
  cases ty with
  | non => cases (show u = Value.none from rx); exact PySem.W.kia_one PySem.W.kitx_none I.kIn True.intro e (fun z => nomatch z) h
  | bl y => cases (show u = Value.bool y from rx); exact PySem.W.kia_one PySem.W.kitx_bool I.kIn True.intro e (fun z => nomatch z) h
  | int i => obtain ⟨t, q⟩ := (show ∃ t, u = Value.int i t from rx); cases q; exact PySem.W.kia_one PySem.W.kitx_int I.kIn True.intro e (fun z => nomatch z) h
  | str y => obtain ⟨t, q⟩ := (show ∃ t, u = Value.str y t from rx); cases q; exact PySem.W.kia_one PySem.W.kitx_str I.kIn True.intro e (fun z => nomatch z) h
  | flt y => obtain ⟨t, q⟩ := (show ∃ t, u = Value.float y t from rx); cases q; exact PySem.W.kia_one PySem.W.kitx_float I.kIn True.intro e (fun z => nomatch z) h
  | @lst a xs ea =>
    cases (show u = Value.ref a from rx)
    obtain ⟨_, _, n, _, h1⟩ := (show ObjOk X.prog X.w H s.heap a (.lst xs) from I.hok a _ ea)
    exact PySem.W.kia_one PySem.W.kitx_list I.kIn ⟨_, h1, rfl⟩ e (fun z => nomatch z) h
  | @frz a ob xs ea =>
    cases (show u = Value.ref a from rx)
    obtain ⟨_, _, _, n, _, h1⟩ := (show ObjOk X.prog X.w H s.heap a (.frz ob (.lst xs)) from I.hok a _ ea)
    exact PySem.W.kia_one PySem.W.kitx_list I.kIn ⟨_, h1, rfl⟩ e (fun z => nomatch z) h
  | @tup a xs ea =>
    cases (show u = Value.ref a from rx)
    obtain ⟨_, _, _, p⟩ := (show ObjOk X.prog X.w H s.heap a (.tup xs) from I.hok a _ ea)
    obtain ⟨o, h1, h2, _⟩ := p
    exact PySem.W.kia_one PySem.W.kitx_tuple I.kIn ⟨o, h1, h2⟩ e (fun z => nomatch z) h
  | @dK a kvs ea =>
    cases (show u = Value.ref a from rx)
    obtain ⟨_, _, vs, _, p⟩ := (show ObjOk X.prog X.w H s.heap a (.dK kvs) from I.hok a _ ea)
    obtain ⟨o, es, ep, h1, h2, _⟩ := p
    exact PySem.W.kia_one PySem.W.kitx_dict I.kIn ⟨o, h1, h2.1⟩ e (fun z => nomatch z) h
  | @dT a kvs ea =>
    cases (show u = Value.ref a from rx)
    obtain ⟨_, _, xs, _, o, es, ep, h1, h2, _⟩ := (show ObjOk X.prog X.w H s.heap a (.dT kvs) from I.hok a _ ea)
    exact PySem.W.kia_one PySem.W.kitx_dict I.kIn ⟨o, h1, h2.1⟩ e (fun z => nomatch z) h
  | @ins a C dx fs ea cl ha hn htk hm =>
    cases (show u = Value.ref a from rx)
    obtain ⟨mA, O, _⟩ := ins_get I.hok ea
    obtain ⟨od, J, _⟩ := O.look
    exact PySem.W.kia_one (PySem.W.kitx_own (cl.get _) cl.hd ha hn htk hm) I.kIn J e (fun z => nomatch z) h
end
end L2

namespace L2
open PySem PySem.Spec PyProof.Rows

/-! ### room -/
structure Room (k : Nat) (A : Around) : Prop where
  hd : A.handled = none
  dp : A.depth + 3 * k + 5 < recursionLimit
  un : A.units + 16 * k + 200 < cLine
theorem Room.mono {j k : Nat} {A : Around} (r : Room k A) (h : j ≤ k) : Room j A := ⟨r.hd, by have := r.dp; omega, by have := r.un; omega⟩
theorem Room.deeper {k : Nat} {A : Around} (r : Room (k + 1) A) (env : Env) : Room k (A.deeper env) :=
  ⟨r.hd, by have := r.dp; show A.depth + 1 + 3 * k + 5 < _; omega, by have := r.un; show A.units + 3 + 16 * k + 200 < _; omega⟩
theorem Room.in1 {k : Nat} {A : Around} (r : Room (k + 1) A) : Room k A.in1 :=
  ⟨r.hd, by have := r.dp; show A.depth + 3 * k + 5 < _; omega, by have := r.un; show A.units + 1 + 16 * k + 200 < _; omega⟩
theorem make_depth {A : Around} {C : Addr} {us : List Value} {kw : List (Str × Value)} : (A.under (.builtin "type.__call__" ⟨.ref C :: us, kw⟩)).depth = A.depth + 1 := by
  first | rfl | simp [Around.under, Code.weight, Code.isCreation, Code.isGuard, Code.isCaller, Code.frames, Code.isFrame, guardIds]
theorem make_units {A : Around} {C : Addr} {us : List Value} {kw : List (Str × Value)} : (A.under (.builtin "type.__call__" ⟨.ref C :: us, kw⟩)).units = A.units + 1 := by
  first | rfl | simp [Around.under, Code.cUnits, Code.frames, Code.isFrame]
theorem Room.make {k : Nat} {A : Around} (r : Room (k + 1) A) (C : Addr) (us : List Value) (kw : List (Str × Value)) : Room k (A.under (.builtin "type.__call__" ⟨.ref C :: us, kw⟩)) :=
  ⟨r.hd, by have := r.dp; rw [make_depth]; omega, by have := r.un; rw [make_units]; omega⟩
theorem Room.depth {k : Nat} {A : Around} (r : Room k A) : A.depth < recursionLimit := by have := r.dp; omega
theorem Room.units {k : Nat} {A : Around} (r : Room k A) : A.units + 64 < cLine := by have := r.un; omega
/-! ### argument lists and displays -/
def tNil : TA := fun _ H Q => Q [] H
def tCons (ta : TE) (tr : TA) : TA := fun σ H Q => ta σ H fun x H1 => tr σ H1 fun xs H2 => Q (x :: xs) H2
section
variable {X : Cx} {e : Expr} {es : List Expr} {te : TE} {t : TA} {pos : Pos}
theorem pa_nil : PA X [] tNil := fun _ _ _ _ H Q I h => Calls.spliced_nil ⟨[], H, I, .nil, h⟩
theorem pa_cons (ha : PE X e te) (hr : PA X es t) (hs : starEach (e :: es) X.env = (false, eval e X.env) :: starEach es X.env := by rfl) : PA X (e :: es) (tCons te t) := by
  intro pos pins s σ H Q I h
  rw [hs]
  show wpAny _ _ (spliced ((false, eval e X.env) :: backTo pos (starEach es X.env))) _ _ s
  refine Calls.spliced_cons (thn (ha pins s σ H _ I h) fun u s1 ⟨x, H1, I1, r1, q1⟩ => ?_)
  exact thn (hr pos pins s1 σ H1 _ I1 q1) fun us s2 ⟨xs, H2, I2, r2, q2⟩ => ⟨x :: xs, H2, I2, .cons r1 r2, q2⟩

/-- a tuple, a list of written items -/
def tTup (t : TA) : TE := fun σ H Q => t σ H fun xs H1 => xs.length ≤ sizeLine ∧ ∀ p, H1 p = none → Q (.ref p) (upd H1 p (.tup xs))
def tLst (t : TA) : TE := fun σ H Q => t σ H fun xs H1 => xs.length ≤ sizeLine ∧ ∀ p, H1 p = none → Q (.ref p) (upd H1 p (.lst xs))
theorem pe_tup {x1} (h : PA X es t) : PE X (.Tuple es x1 pos) (tTup t) := by
  intro pins s σ H Q I hq
  refine wpAny_Tuple_spliced (thn (h pos pins s σ H _ I hq) fun us s1 ⟨xs, H1, I1, r, z, q⟩ => ⟨by rw [← r.length]; exact z, ?_⟩)
  have hf : H1 s1.heap.objs.size = none := I1.hok.fresh (Nat.le_refl _)
  refine ⟨.ref s1.heap.objs.size, upd H1 s1.heap.objs.size (.tup xs), I1.laid (t' := s1.toks) (fun b u e => Heap.get?_push_of_some _ e) (Nat.le_refl _) ?_, rfl, q _ hf⟩
  exact ⟨z, us, r, ⟨_, Heap.get?_push_size _ rfl, rfl, _, rfl⟩⟩
theorem pe_lst (h : PA X es t) : PE X (.List es pos) (tLst t) := by
  intro pins s σ H Q I hq
  refine wpAny_List_spliced (thn (h pos pins s σ H _ I hq) fun us s1 ⟨xs, H1, I1, r, z, q⟩ => ⟨by rw [← r.length]; exact z, ?_⟩)
  have hf : H1 s1.heap.objs.size = none := I1.hok.fresh (Nat.le_refl _)
  refine ⟨.ref s1.heap.objs.size, upd H1 s1.heap.objs.size (.lst xs), I1.laid (t' := s1.toks) (fun b u e => Heap.get?_push_of_some _ e) (Nat.le_refl _) ?_, rfl, q _ hf⟩
  exact ⟨z, us, 0, r, Heap.get?_push_size _ rfl⟩
end

/-! ### what a def promises -/
/-- a def's promise: the bound arguments in the parameters' order, the heap, the wanted end, the wanted exception -/
abbrev Sp := List V → Hp → VK → XK → Prop
/-- how an exception lies behind a call (file 08 gives it): the callers' frames, abstract heap and state ahead of the call, the wish, the exception, the state -/
abbrev CXT := List Env → Hp → Shared → XK → Value → Shared → Prop

/-- the state at a call -/
structure Env0 (P : Program) (w : World) (K : PySem.W.Frag) (mg : Str → Option Value) (base : Heap) (A : Around) (outer : List Env) (s : Shared) (H : Hp) : Prop where
  frames : A.frames = some outer
  mod : Mod K mg base
  bs : ∀ b o, base.get? b = some o → s.heap.get? b = some o ∧ H b = none
  bsz : base.objs.size ≤ s.heap.objs.size
  funs : s.heap.FunFrames base outer
  frf : ∀ b ∈ frs outer, H b = none
  hok : HOk P w H s.heap
  bare : AllBare s.gens
/-- a call's end -/
def CE (outer : List Env) (P : Program) (w : World) (H : Hp) (s : Shared) (Q : VK) (u : Value) (s' : Shared) : Prop :=
  ∃ v H', s'.os = s.os ∧ AllBare s'.gens ∧ Un (frs outer) [] H H' s.heap s'.heap ∧ HOk P w H' s'.heap ∧ RelV v u ∧ Q v H'
def CR (CX : CXT) (outer : List Env) (P : Program) (w : World) (H : Hp) (s : Shared) (Q : VK) (E : XK) (r : Result) (s' : Shared) : Prop :=
  match r with
  | .ok (.ret u) => CE outer P w H s Q u s'
  | .ok _ => False
  | .error e => CX outer H s E e s'
structure FnOk (P : Program) (w : World) (K : PySem.W.Frag) (mg : Str → Option Value) (base : Heap) (CX : CXT) (k : Nat) (f : Addr) (fd : FuncData) (ps : List Str) (sp : Sp) : Prop where
  len : ∀ vs H Q E, sp vs H Q E → vs.length = ps.length
  run : ∀ (A : Around) (outer : List Env) (s : Shared) (H : Hp) (args : Args) (us : List Value) (vs : List V) (Q : VK) (E : XK), Room k A → Env0 P w K mg base A outer s H → BindsTo s fd args (ps.zip us) → Vals vs us → sp vs H Q E →
    codeAny (model P w) A (.call (.ref f) args) (CR CX outer P w H s Q E) s
theorem FnOk.mono {P : Program} {w : World} {K : PySem.W.Frag} {mg : Str → Option Value} {base : Heap} {CX : CXT} {j k : Nat} {f : Addr} {fd : FuncData} {ps : List Str} {sp : Sp} (F : FnOk P w K mg base CX j f fd ps sp) (h : j ≤ k) :
    FnOk P w K mg base CX k f fd ps sp := ⟨F.len, fun A outer s H args us vs Q E hr => F.run A outer s H args us vs Q E (hr.mono h)⟩
/-- a weaker promise -/
theorem FnOk.imp {P : Program} {w : World} {K : PySem.W.Frag} {mg : Str → Option Value} {base : Heap} {CX : CXT} {k : Nat} {f : Addr} {fd : FuncData} {ps : List Str} {sp sp' : Sp} (F : FnOk P w K mg base CX k f fd ps sp)
    (h : ∀ vs H Q E, sp' vs H Q E → sp vs H Q E) : FnOk P w K mg base CX k f fd ps sp' :=
  ⟨fun vs H Q E q => F.len vs H Q E (h _ _ _ _ q), fun A outer s H args us vs Q E hr he hb hv hs => F.run A outer s H args us vs Q E hr he hb hv (h _ _ _ _ hs)⟩

theorem Env0.make {P : Program} {w : World} {K : PySem.W.Frag} {mg : Str → Option Value} {base : Heap} {A : Around} {outer : List Env} {s : Shared} {H : Hp} (e : Env0 P w K mg base A outer s H) (C : Addr) (us : List Value) (kw : List (Str × Value)) :
    Env0 P w K mg base (A.under (.builtin "type.__call__" ⟨.ref C :: us, kw⟩)) outer s H := ⟨by first | exact e.frames | (simpa [Around.under, Code.envs, Code.isFrame, pushEnvs] using e.frames), e.mod, e.bs, e.bsz, e.funs, e.frf, e.hok, e.bare⟩
theorem Env0.in1 {P : Program} {w : World} {K : PySem.W.Frag} {mg : Str → Option Value} {base : Heap} {A : Around} {outer : List Env} {s : Shared} {H : Hp} (e : Env0 P w K mg base A outer s H) :
    Env0 P w K mg base A.in1 outer s H := ⟨e.frames, e.mod, e.bs, e.bsz, e.funs, e.frf, e.hok, e.bare⟩

section
variable {X : Cx} {pins : List (Addr × Obj)} {σ : St} {H : Hp} {s s' : Shared}
/-- from a body: what a callee wants -/
theorem Inv.env0 (I : Inv X pins σ H s) : Env0 X.prog X.w X.K X.mg X.base X.A X.stack s H :=
  ⟨I.ok.frames, I.ok.mod, I.bs, Nat.le_trans I.ok.bsz I.sz, I.stack, I.stkFree, I.hok, I.bare⟩
/-- behind a call -/
theorem Inv.after {Q : VK} {u : Value} (I : Inv X pins σ H s) (h : CE X.stack X.prog X.w H s Q u s') : EP X pins σ Q u s' := by
  obtain ⟨v, H', os, bare, un, hok, r, q⟩ := h
  obtain ⟨hh, g, d, t, os'⟩ := s'
  obtain rfl : os' = s.os := os
  exact ⟨v, H', I.call (h' := hh) (g' := g) (d' := d) (t' := t) (ch := []) un hok bare (fun b z => absurd z (by simp)), r, q⟩
end

/-! ### calls -/
/-- f(..): the written arguments, then the defaults dvs; E: what is wanted of an exception -/
def tCall (sp : Sp) (dvs : List V) (E : XK) (t : TA) : TE := fun σ H Q => t σ H fun vs H1 => sp (vs ++ dvs) H1 Q E
/-- o.m(..) of an instance of the class at C -/
def tMeth (C : Addr) (m : Str) (sp : Sp) (dvs : List V) (E : XK) (ta : TE) (t : TA) : TE := fun σ H Q => ta σ H fun x H1 => ∃ a dx fs, x = .ref a ∧ H1 a = some (.ins C dx fs) ∧ fs.lookup m = none ∧
  t σ H1 fun vs H2 => sp (x :: (vs ++ dvs)) H2 Q E
/-- C(..): a new instance and its dict, then __init__ -/
def tMake (C : Addr) (sp : Sp) (dvs : List V) (E : XK) (t : TA) : TE := fun σ H Q => t σ H fun vs H1 => ∀ x dx, H1 x = none → H1 dx = none → dx ≠ x →
  sp (.ref x :: (vs ++ dvs)) (upd (upd H1 dx (.own x)) x (.ins C dx [])) (fun v H2 => v = .non ∧ Q (.ref x) H2) E

/-- how the parameters are bound: us the positional arguments, kw the keywords' values by name, ds the defaults that fill up -/
def Binds (K : PySem.W.Frag) (fd : FuncData) (ps : List Str) (ds : List Value) : Prop :=
  ∀ (s : Shared) (us : List Value), K.In s.heap → (us ++ ds).length = ps.length → BindsTo s fd ⟨us, []⟩ (ps.zip (us ++ ds))
/-- every parameter is given -/
theorem Binds.all {K : PySem.W.Frag} {fd : FuncData} {ps : List Str} (h : ∀ us : List Value, us.length = ps.length → bindArgs fd ⟨us, []⟩ = pure (ps.zip us)) : Binds K fd ps [] := fun s us _ hl => by
  rw [List.append_nil] at hl ⊢
  exact .of_eq (h us hl)

/-- an exception of a callee reaches what this body wants of exceptions -/
def Passes (CX : CXT) (X : Cx) (E : XK) : Prop := ∀ (pins : List (Addr × Obj)) (σ : St) (H : Hp) (s : Shared) (e : Value) (s' : Shared), Inv X pins σ H s → CX X.stack H s E e s' → X.xe e s'

section
variable {X : Cx} {CX : CXT} {k : Nat} {f C : Addr} {fd : FuncData} {ps : List Str} {sp : Sp} {dvs : List V} {ds : List Value} {E : XK} {x m : Str} {p pos apos : Pos} {e o : Expr} {es : List Expr} {ta : TE} {t : TA}

/-- the callee runs -/
theorem run_fn {pins : List (Addr × Obj)} {σ : St} {H : Hp} {s : Shared} {Q : VK} {us : List Value} {vs : List V} (F : FnOk X.prog X.w X.K X.mg X.base CX k f fd ps sp) (hr : Room k X.A) (hb : Binds X.K fd ps ds) (hd : Vals dvs ds) (hx : Passes CX X E)
    (I : Inv X pins σ H s) (r : Vals vs us) (h : sp (vs ++ dvs) H Q E) : wpAny (model X.prog X.w) X.A (call (.ref f) us) (EP X pins σ Q) X.xe s := by
  have r2 : Vals (vs ++ dvs) (us ++ ds) := r.append hd
  have hl : (us ++ ds).length = ps.length := by rw [← r2.length]; exact F.len _ _ _ _ h
  refine wpAny_call (codeAny_mono (F.run X.A X.stack s H ⟨us, []⟩ (us ++ ds) (vs ++ dvs) Q E hr I.env0 (hb s us I.kIn hl) r2 h) fun r s' hq => ?_)
  cases r with
  | error e => exact hx pins σ H s e s' I hq
  | ok fl =>
    cases fl with
    | ret u => exact I.after hq
    | next => exact False.elim hq
    | brk => exact False.elim hq
    | cont => exact False.elim hq

theorem pe_call (F : FnOk X.prog X.w X.K X.mg X.base CX k f fd ps sp) (hr : Room k X.A) (hg : Gl X x) (hm : X.mg x = some (.ref f)) (hk : PySem.W.keepIn X.K (.ref f) = true) (hb : Binds X.K fd ps ds) (hd : Vals dvs ds) (hx : Passes CX X E)
    (ha : PA X (e :: es) t) (hdb : (x == ("__debug__" : Str)) = false := by decide) (he : starEach (e :: es) X.env = (false, eval e X.env) :: starEach es X.env := by rfl) (hpl : (backTo pos (starEach es X.env)).any (·.1) = false := by rfl) :
    PE X (.Call (.Name x p) (e :: es) [] pos) (tCall sp dvs E t) := by
  intro pins s σ H Q I h
  refine wpAny_Call_Name_kw (ld_glob I hg hm ?_ hdb)
  refine PySem.W.callWith_K (h₀ := X.base) I.ok.mod.kin hk (thn (ha pos pins s σ H _ I h) fun us s1 ⟨vs, H1, I1, r, q⟩ => ⟨I1.kIn, ?_⟩) he hpl
  exact run_fn F hr hb hd hx I1 r q
/-- what a class must have to be made -/
structure Mk (K : PySem.W.Frag) (C f : Addr) : Prop where
  makes : PySem.W.makesIn K C = true
  init : PySem.W.findIn K (.ref C) "__init__" = some (some (.ref f))
  fn : PySem.W.isFn K (.ref f) = true
  kp : PySem.W.keepIn K (.ref C) = true

end

/-! ### keywords -/
/-- the values of the keywords, from the left -/
def PK (X : Cx) (kws : List Keyword) (t : TA) : Prop :=
  ∀ (pos : Pos) (pins : List (Addr × Obj)) (s : Shared) (σ : St) (H : Hp) (Q : List V → Hp → Prop), Inv X pins σ H s → t σ H Q → wpAny (model X.prog X.w) X.A (evalAll ((backToKw pos (keywordEach kws X.env)).map (·.2))) (AP X pins σ Q) X.xe s
section
variable {X : Cx} {CX : CXT} {k : Nat} {f C : Addr} {fd : FuncData} {ps ks : List Str} {sp : Sp} {E : XK} {x m : Str} {p pos apos kpos : Pos} {e o : Expr} {es : List Expr} {kws : List Keyword} {te ta : TE} {t tk : TA} {nm : Option Str}
/-- how a call with keywords binds: g puts the positional values us and the keywords' values ws (names ks) in the parameters' order, defaults among them -/
structure KBinds (K : PySem.W.Frag) (fd : FuncData) (ps ks : List Str) (g : List Value → List Value → List Value) (gV : List V → List V → List V) : Prop where
  to : ∀ (s : Shared) (us ws : List Value), K.In s.heap → (g us ws).length = ps.length → BindsTo s fd ⟨us, ks.zip ws⟩ (ps.zip (g us ws))
  rel : ∀ {vs : List V} {us : List Value} {zs : List V} {ws : List Value}, Vals vs us → Vals zs ws → Vals (gV vs zs) (g us ws)
def tCallK (sp : Sp) (gV : List V → List V → List V) (E : XK) (t tk : TA) : TE := fun σ H Q => t σ H fun vs H1 => tk σ H1 fun zs H2 => sp (gV vs zs) H2 Q E
variable {g : List Value → List Value → List Value} {gV : List V → List V → List V}
end

/-! ### a def's body keeps its promise -/
/-- names: the parameters first -/
structure FnScope (N P : List Str) (sc : Scope) : Prop where
  kind : sc.kind = .function
  co : sc.isCoroutine = false
  gen : sc.isGenerator = false
  nd : N.Nodup
  pre : N.take P.length = P
  par : ∀ x ∈ P, sc.names.lookup x = some .local ∨ sc.names.lookup x = some .cell
  nofree : ∀ y ∈ sc.names, y.2 ≠ .free

theorem bindL_out {kindOf : Str → Option NameKind} {x : Str} : ∀ {binds : List (Str × Value)} {m : Str → Option Value}, (∀ v, (x, v) ∉ binds) → bindL kindOf binds m x = m x
  | [], _, _ => rfl
  | (n, v) :: r, m, h => by
    unfold bindL
    rw [bindL_out fun w hw => h w (List.mem_cons_of_mem _ hw)]
    split
    · have : x ≠ n := by rintro rfl; exact h v List.mem_cons_self
      simp [this]
    · rfl
theorem bindC_out {kindOf : Str → Option NameKind} {x : Str} : ∀ {binds : List (Str × Value)} {m : Str → Option Value}, (∀ v, (x, v) ∉ binds) → bindC kindOf binds m x = m x
  | [], _, _ => rfl
  | (n, v) :: r, m, h => by
    unfold bindC
    rw [bindC_out fun w hw => h w (List.mem_cons_of_mem _ hw)]
    split
    · rfl
    · have : x ≠ n := by rintro rfl; exact h v List.mem_cons_self
      simp [this]
theorem bindL_get {kindOf : Str → Option NameKind} {x : Str} {v : Value} : ∀ {P : List Str} {vs : List Value} {i : Nat} {m : Str → Option Value}, P.Nodup → P[i]? = some x → vs[i]? = some v → kindOf x = some .local →
    bindL kindOf (P.zip vs) m x = some v
  | [], _, _, _, _, h, _, _ => by simp at h
  | _ :: _, [], _, _, _, _, h, _ => by simp at h
  | p :: P, w :: vs, 0, m, nd, h1, h2, hk => by
    simp at h1 h2; subst h1; subst h2
    show bindL kindOf ((p, w) :: P.zip vs) m p = _
    unfold bindL
    rw [bindL_out fun v hv => (List.nodup_cons.mp nd).1 (List.of_mem_zip hv).1, if_pos hk]
    simp
  | p :: P, w :: vs, i + 1, m, nd, h1, h2, hk => by
    show bindL kindOf ((p, w) :: P.zip vs) m x = _
    unfold bindL
    exact bindL_get (i := i) (List.nodup_cons.mp nd).2 (by simpa using h1) (by simpa using h2) hk
theorem bindC_get {kindOf : Str → Option NameKind} {x : Str} {v : Value} : ∀ {P : List Str} {vs : List Value} {i : Nat} {m : Str → Option Value}, P.Nodup → P[i]? = some x → vs[i]? = some v → kindOf x ≠ some .local →
    bindC kindOf (P.zip vs) m x = some v
  | [], _, _, _, _, h, _, _ => by simp at h
  | _ :: _, [], _, _, _, _, h, _ => by simp at h
  | p :: P, w :: vs, 0, m, nd, h1, h2, hk => by
    simp at h1 h2; subst h1; subst h2
    show bindC kindOf ((p, w) :: P.zip vs) m p = _
    unfold bindC
    rw [bindC_out fun v hv => (List.nodup_cons.mp nd).1 (List.of_mem_zip hv).1, if_neg hk]
    simp
  | p :: P, w :: vs, i + 1, m, nd, h1, h2, hk => by
    show bindC kindOf ((p, w) :: P.zip vs) m x = _
    unfold bindC
    exact bindC_get (i := i) (List.nodup_cons.mp nd).2 (by simpa using h1) (by simpa using h2) hk

/-- the names' values at the entry -/
def start (N : List Str) (vs : List V) : St := vs.map some ++ List.replicate (N.length - vs.length) none

/-- the context of a def's body, at its entry; an exception leaves the frame, then lies as CX says -/
def cxOf (CX : CXT) (P : Program) (w : World) (K : PySem.W.Frag) (mg : Str → Option Value) (base : Heap) (N : List Str) (qual : Str) (scope : Scope) (f : Addr) (cd : Value) (A : Around) (outer : List Env) (s : Shared) (H : Hp) (E : XK) : Cx where
  prog := P
  w := w
  K := K
  mg := mg
  base := base
  A := A.deeper (envOfC qual scope s.heap.objs.size f cd)
  N := N
  s₀ := s
  H₀ := H
  env := envOfC qual scope s.heap.objs.size f cd
  outer := outer
  stack := envOfC qual scope s.heap.objs.size f cd :: outer
  ex := []
  calm := true
  fn := fun _ => true
  pn := []
  xe := fun e s' => wpAny (model P w) (A.deeper (envOfC qual scope s.heap.objs.size f cd)) (leaving (envOfC qual scope s.heap.objs.size f cd) e) (fun _ s'' => CX outer H s E e s'') (fun e' s'' => CX outer H s E e' s'') s'

theorem cell_has {sc : Scope} {n : Nat} {x : Str} (h : sc.names.lookup x = some .cell) : ∃ c, (cellsFrom n sc.names []).lookup x = some c := by
  have q := PySem.W.cellsFrom_some sc.names n [] (.inl h)
  exact Option.isSome_iff_exists.mp q

theorem inv_start {CX : CXT} {P : Program} {w : World} {K : PySem.W.Frag} {mg : Str → Option Value} {base : Heap} {N ps : List Str} {qual : Str} {scope : Scope} {f : Addr} {cd : Value} {A : Around} {outer : List Env} {s s1 : Shared} {H : Hp} {E : XK} {us : List Value} {vs : List V}
    (S : FnScope N ps scope) (hd : A.handled = none) (e0 : Env0 P w K mg base A outer s H) (hl : vs.length = ps.length) (r : Vals vs us)
    (x : InCallC s s.heap.objs.size (bindL (envOfC qual scope s.heap.objs.size f cd).kindOf (ps.zip us) fun _ => none) (cellsFrom (s.heap.objs.size + 1) scope.names []) (bindC (envOfC qual scope s.heap.objs.size f cd).kindOf (ps.zip us) fun _ => none) s1) :
    Inv (cxOf CX P w K mg base N qual scope f cd A outer s H E) [] (start N vs) H s1 := by
  have hpl : ps.length ≤ N.length := by have := congrArg List.length S.pre; rw [List.length_take] at this; omega
  obtain ⟨h1, tk, rfl, hk⟩ := x.done
  have noA : ∀ b : Addr, b ∉ (cxOf CX P w K mg base N qual scope f cd A outer s H E).ex := fun b z => absurd (show b ∈ ([] : List Addr) from z) (by simp)
  refine ⟨⟨e0.mod, S.kind, rfl, rfl, Nat.le_refl _, fun y z c h1 h2 => ?_, fun y hy => ?_, fun y c _ h => ?_, fun _ => hd, Around.frames_deeper e0.frames, .inr ⟨rfl, rfl⟩, fun b z => absurd z (noA b), e0.bs, e0.bsz, fun b _ _ => noA b, fun b z => absurd z (noA b), e0.funs, e0.frf⟩,
    rfl, e0.bare, Un.kept hk, ⟨_, x.toInCall.ns, fun i y v h1 h2 h3 => ?_⟩, fun y c h => ⟨_, x.cell y c h⟩, e0.hok.fresh (Nat.le_refl _), fun y c h => ?_, fun p hp => absurd (show p ∈ ([] : List (Addr × Obj)) from hp) (by simp), e0.hok.kept hk, ?_⟩
  · exact name_of_addr x.apart (PySem.mem_of_lookup h1) (PySem.mem_of_lookup h2)
  · have hy : scope.names.lookup y = some .cell ∨ scope.names.lookup y = some .free := hy
    rcases hy with hy | hy
    · exact cell_has hy
    · exact absurd rfl (S.nofree _ (PySem.mem_of_lookup hy))
  · exact Nat.le_of_lt (x.above y c (PySem.mem_of_lookup h))
  · have hi : i < vs.length := by
      unfold start at h2
      by_cases hi : i < vs.length
      · exact hi
      · rw [List.getElem?_append_right (by simpa using hi)] at h2
        rw [List.getElem?_replicate] at h2
        split at h2 <;> cases h2
    have ha : vs[i]? = some v := by
      unfold start at h2
      rw [List.getElem?_append_left (by simpa using hi), List.getElem?_map] at h2
      cases e : vs[i]? with
      | none => rw [e] at h2; cases h2
      | some a => rw [e] at h2; cases h2; rfl
    obtain ⟨u, hu, rv⟩ := r.get ha
    have hp : ps[i]? = some y := by
      rw [← S.pre, List.getElem?_take_of_lt (by omega)]; exact h1
    have ndP : ps.Nodup := by rw [← S.pre]; exact S.nd.sublist (List.take_sublist _ _)
    refine ⟨u, rv, ?_⟩
    rcases S.par y (List.mem_of_getElem? hp) with k | k
    · exact .inl ⟨k, bindL_get ndP hp hu k⟩
    · obtain ⟨c, e⟩ := cell_has (n := s.heap.objs.size + 1) k
      refine .inr ⟨.inl k, c, e, ?_⟩
      have q := x.cell y c e
      rw [bindC_get ndP hp hu (by show scope.names.lookup y ≠ _; rw [k]; decide)] at q
      exact q
  · exact e0.hok.fresh (Nat.le_of_lt (x.above y c (PySem.mem_of_lookup h)))
  · unfold start
    show _ = N.length
    rw [List.length_append, List.length_map, List.length_replicate]
    omega

/-- THE RULE: a def (or a method) of the text, by its body. The body's reading t is chosen for each entry; it is run at the parameters' values -/
theorem fn_of {CX : CXT} {P : Program} {w : World} {K : PySem.W.Frag} {mg : Str → Option Value} {base : Heap} {k : Nat} {f : Addr} {name qual : Str} {params : Arguments} {body : List Stmt} {scope : Scope} {dV kV doc pm cdv ct oc : Value} {an od : Option Addr}
    {osl : Array (Option Value)} {N ps : List Str} {sp : Sp} (lk : K.lookup f = some ⟨oc, od, .func (PySem.W.fnOf name qual params body scope dV kV doc pm an cdv ct), osl⟩) (hcd : PySem.W.codeIn K cdv qual = true) (S : FnScope N ps scope)
    (len : ∀ vs H Q E, sp vs H Q E → vs.length = ps.length)
    (hbody : ∀ (A : Around) (outer : List Env) (s : Shared) (H : Hp) (vs : List V) (Q : VK) (E : XK), Room k (A.deeper (envOfC qual scope s.heap.objs.size f cdv)) → sp vs H Q E →
      ∃ t, PSs (cxOf CX P w K mg base N qual scope f cdv A outer s H E) body t ∧ t { nx := fun _ H' => Q .non H', rt := Q } (start N vs) H) :
    FnOk P w K mg base CX (k + 1) f (PySem.W.fnOf name qual params body scope dV kV doc pm an cdv ct) ps sp := by
  refine ⟨len, fun A outer s H args us vs Q E hr e0 hb r hsp => ?_⟩
  have hl := len _ _ _ _ hsp
  have KX : K.In s.heap := e0.mod.kin.keeps fun b o e => (e0.bs b o e).1
  have lim : s.heap.NoLimit := e0.mod.nolimit.keeps fun b o e => (e0.bs b o e).1
  have hkind : ∀ y ∈ ps.zip us, scope.names.lookup y.1 = some .local ∨ (scope.names.lookup y.1 = some .cell ∧ ((cellsFrom (s.heap.objs.size + 1) scope.names []).lookup y.1).isSome = true) := fun ⟨n, v⟩ hy => by
    rcases S.par n (List.of_mem_zip hy).1 with q | q
    · exact .inl q
    · exact .inr ⟨q, PySem.W.cellsFrom_some _ _ _ (.inl q)⟩
  refine codeAny_call_function hr.depth (KX _ _ lk) rfl S.co S.gen rfl (PySem.W.codeRec_of KX hcd) (hb _ _ _ _ ?_)
  refine wpAny_newFunctionEnv_cells S.kind hkind fun env he s1 x => ?_
  subst he
  refine ⟨lim.keeps x.toInCall.keep, codeAny_func ?_⟩
  obtain ⟨t, ht, hq⟩ := hbody A outer s H vs Q E (hr.deeper _) hsp
  have I : Inv (cxOf CX P w K mg base N qual scope f cdv A outer s H E) [] (start N vs) H s1 := inv_start S hr.hd e0 hl r x
  refine wpAny_mono (ht [] s1 (start N vs) H _ I hq) (fun fl s' hs => ?_) fun e s' hs => hs
  have fin : ∀ {σ' : St} {H' : Hp} {v : V} {u : Value}, Inv (cxOf CX P w K mg base N qual scope f cdv A outer s H E) [] σ' H' s' → RelV v u → Q v H' → CE outer P w H s Q u s' :=
    fun {σ' H' v u} J rv q => ⟨v, H', J.os, J.bare, J.base, J.hok, rv, q⟩
  cases fl with
  | ret u =>
    obtain ⟨v, σ', H', J, rv, q⟩ := hs
    exact fin J rv q
  | next =>
    obtain ⟨σ', H', J, q⟩ := hs
    exact fin (v := V.non) (u := Value.none) J rfl q
  | brk =>
    obtain ⟨_, _, _, q⟩ := hs
    exact False.elim q
  | cont =>
    obtain ⟨_, _, _, q⟩ := hs
    exact False.elim q
end L2

namespace L2
open PySem PySem.Spec PyProof.Rows
section
variable {X : Cx} {x : Str} {p pos : Pos} {e : Expr} {es : List Expr} {t : TA} {id T : String} {r : List V → Hp → VK → Prop}

def tCB (r : List V → Hp → VK → Prop) (t : TA) : TE := fun σ H Q => t σ H fun vs H1 => r vs H1 Q
/-- f(e, ..), f a built-in function -/
theorem pe_callB (hc : CallR X (.builtin id) r) (hg : Gl X x) (hm : X.mg x = none) (hv : bootBuiltins x = some (.builtin id)) (ha : PA X (e :: es) t) (hn : x ≠ "__name__" := by decide) (hdb : (x == ("__debug__" : Str)) = false := by decide)
    (he : starEach (e :: es) X.env = (false, eval e X.env) :: starEach es X.env := by rfl) (hpl : (backTo pos (starEach es X.env)).any (·.1) = false := by rfl) : PE X (.Call (.Name x p) (e :: es) [] pos) (tCB r t) := by
  intro pins s σ H Q I h
  refine wpAny_Call_Name_kw (ld_blt I hg hm hv ?_ hn hdb)
  exact PyProof.Rows.callWith_builtin1 (thn (ha pos pins s σ H _ I h) fun us s1 ⟨vs, H1, I1, r1, q1⟩ => hc pins s1 σ H1 vs us Q I1 r1 q1) he hpl
/-- T(e, ..), T a built-in type -/
theorem pe_callTy (hc : CallR X (.type T) r) (hg : Gl X x) (hm : X.mg x = none) (hv : bootBuiltins x = some (.type T)) (ha : PA X (e :: es) t) (hn : x ≠ "__name__" := by decide) (hdb : (x == ("__debug__" : Str)) = false := by decide)
    (he : starEach (e :: es) X.env = (false, eval e X.env) :: starEach es X.env := by rfl) (hpl : (backTo pos (starEach es X.env)).any (·.1) = false := by rfl) : PE X (.Call (.Name x p) (e :: es) [] pos) (tCB r t) := by
  intro pins s σ H Q I h
  refine wpAny_Call_Name_kw (ld_blt I hg hm hv ?_ hn hdb)
  exact PyProof.Rows.callWith_type1 (thn (ha pos pins s σ H _ I h) fun us s1 ⟨vs, H1, I1, r1, q1⟩ => hc pins s1 σ H1 vs us Q I1 r1 q1) he hpl
end
end L2

namespace HT
open PySem PyProof.Rows

/-- t < u of tuples of ints -/
def lexLt : List Int → List Int → Bool
  | [], [] => false
  | [], _ :: _ => true
  | _ :: _, [] => false
  | x :: xs, y :: ys => if x = y then lexLt xs ys else decide (x < y)
section
open PySem.SeqAt
open PySem.AutoSeq1 (wpAny_loadPart')
open PySem.MeetsSeq PySem.MeetsSeq2 PySem.MeetsSeq3

end

section
variable {prog : Program} {w : World} {A : Around} {E : Value → Shared → Prop} {s : Shared}

/-! ### t[a:b], not the whole -/
/-- a slice's bound as a place among n (d where it is left out) -/
def sIx (n d : Nat) : Option Int → Nat
  | none => d
  | some v => if v < 0 then (v + (n : Int)).toNat else min v.toNat n
theorem sIx_none (n d : Nat) : sIx n d none = d := rfl
theorem sIx_nat (n d k : Nat) : sIx n d (some (k : Int)) = min k n := by
  show (if (k : Int) < 0 then ((k : Int) + (n : Int)).toNat else min (k : Int).toNat n) = min k n
  rw [if_neg (by omega), Int.toNat_natCast]
theorem sIx_le (n d : Nat) (hd : d ≤ n) (o : Option Int) : sIx n d o ≤ n := by
  cases o with
  | none => exact hd
  | some v =>
    show (if v < 0 then (v + (n : Int)).toNat else min v.toNat n) ≤ n
    by_cases hv : v < 0
    · rw [if_pos hv]; omega
    · rw [if_neg hv]; exact Nat.min_le_right _ _
theorem clip_eq (v : Int) (n d : Nat) : (if v < 0 then max (v + (n : Int)) 0 else min v (n : Int)) = ((sIx n d (some v) : Nat) : Int) := by
  show (if v < 0 then max (v + (n : Int)) 0 else min v (n : Int)) = (((if v < 0 then (v + (n : Int)).toNat else min v.toNat n) : Nat) : Int)
  by_cases hv : v < 0
  · simp only [if_pos hv]; omega
  · simp only [if_neg hv]; omega
theorem adjust_gen (lo hi : Option Int) (n : Nat) : Builtin.Slice.sliceAdjust lo hi 1 (n : Int) = (((sIx n 0 lo : Nat) : Int), ((sIx n n hi : Nat) : Int)) := by
  have h1 : ¬ ((1 : Int) < 0) := by omega
  unfold Builtin.Slice.sliceAdjust
  simp only [h1, if_false]
  refine Prod.ext ?_ ?_
  · cases lo with
    | none => rfl
    | some v => exact clip_eq v n 0
  · cases hi with
    | none => rfl
    | some v => exact clip_eq v n n
theorem places_gen (i j : Nat) : Builtin.Slice.slicePlaces (i : Int) (j : Int) 1 = j - i := by
  unfold Builtin.Slice.slicePlaces
  have h1 : (1 : Int) > 0 := by omega
  simp only [h1, if_true, Int.ediv_one]
  split <;> omega
theorem slicePart_ {v : Value} {o : Option Int} {Q : Option Int → Shared → Prop} (p : IsPart v o) (h : Q o s) : wpAny (model prog w) A (Builtin.Slice.slicePartIndex v) Q E s := by
  cases p with
  | none => exact slicePart_none h
  | int i t => exact slicePart_int h
theorem sliceApplied_gen {sl : Addr} {vl vu : Value} {lo hi : Option Int} {n : Nat} {Q : Int × Int × Nat → Shared → Prop} (hs : s.heap.IsSliceOf sl vl vu .none) (pl : IsPart vl lo) (pu : IsPart vu hi)
    (h : Q (((sIx n 0 lo : Nat) : Int), 1, sIx n n hi - sIx n 0 lo) s) : wpAny (model prog w) A (Builtin.Slice.sliceApplied (.ref sl) (pure (n : Int))) Q E s := by
  obtain ⟨os, hos, hcs, hds⟩ := id hs
  unfold Builtin.Slice.sliceApplied Builtin.Slice.sliceFields
  refine wpAny_bind (wpAny_bind (wpAny_field hos hds (x := vl) rfl (wpAny_bind (wpAny_field hos hds (x := vu) rfl (wpAny_bind (wpAny_field hos hds (x := .none) rfl (wpAny_pure ?_)))))))
  refine wpAny_bind (slicePart_none ?_)
  show wpAny _ _ (if ((1 : Int) == 0) = true then _ else _) _ _ s
  rw [if_neg (by decide)]
  refine wpAny_bind (slicePart_ pl (wpAny_bind (slicePart_ pu (wpAny_bind (wpAny_pure ?_)))))
  show wpAny _ _ (match Builtin.Slice.sliceAdjust lo hi 1 (n : Int) with | (lo, hi) => pure (lo, (1 : Int), Builtin.Slice.slicePlaces lo hi 1)) _ _ s
  rw [adjust_gen lo hi n]
  show wpAny _ _ (pure (((sIx n 0 lo : Nat) : Int), (1 : Int), Builtin.Slice.slicePlaces ((sIx n 0 lo : Nat) : Int) ((sIx n n hi : Nat) : Int) 1)) _ _ s
  rw [places_gen]
  exact wpAny_pure h
theorem pick_gen (xs : Array Value) (i k : Nat) : ((List.range k).filterMap fun (m : Nat) => xs[((i : Int) + (m : Int) * 1).toNat]?).toArray = ((xs.toList.drop i).take k).toArray := by
  have e : (fun (m : Nat) => xs[((i : Int) + (m : Int) * 1).toNat]?) = fun m => xs[i + m]? := by
    funext m
    have : ((i : Int) + (m : Int) * 1).toNat = i + m := by omega
    rw [this]
  rw [e]
  have := pick_run xs i k
  rw [List.filterMap_map] at this
  have e2 : ((fun x => xs[x]?) ∘ fun x => i + x) = fun m => xs[i + m]? := rfl
  rw [e2] at this
  rw [this]

theorem getItem_tuple_cut {t sl : Addr} {items : Array Value} {vl vu : Value} {lo hi : Option Int} {Q : Value → Shared → Prop} (ht : IsTup s.heap t items) (hs : s.heap.IsSliceOf sl vl vu .none) (pl : IsPart vl lo) (pu : IsPart vu hi)
    (hw : ¬ (sIx items.size 0 lo = 0 ∧ sIx items.size items.size hi = items.size))
    (h : Q (.ref s.heap.objs.size) { s with heap := s.heap.push { cls := .type "tuple", data := .seq ((items.toList.drop (sIx items.size 0 lo)).take (sIx items.size items.size hi - sIx items.size 0 lo)).toArray } })
    (hsz : items.size ≤ sizeLine) : wpAny (model prog w) A (getItem (.ref t) (.ref sl)) Q E s := by
  have htake : sizeOk (.seq ((items.toList.drop (sIx items.size 0 lo)).take (sIx items.size items.size hi - sIx items.size 0 lo)).toArray) := by
    show ((items.toList.drop (sIx items.size 0 lo)).take (sIx items.size items.size hi - sIx items.size 0 lo)).toArray.size ≤ sizeLine
    rw [List.size_toArray, List.length_take, List.length_drop, Array.length_toList]
    omega
  have hj : sIx items.size items.size hi ≤ items.size := sIx_le _ _ (Nat.le_refl _) hi
  obtain ⟨os, hos, hcs, hds⟩ := id hs
  have hTs : s.TypeIs (.ref sl) "slice" := ⟨os, hos, hcs⟩
  unfold getItem
  try with_reducible refine wpAny_holding ?_
  first | refine wpAny_bind (wpAny_pure ?_) | skip
  refine wpAny_bind (wpAny_sequenceKey ht.typeIs (by decide) ?_)
  refine wpAny_bind (wpAny_callSpecial?_slot (name := Str.ofString "__getitem__") ht.typeIs PyProof.Rows.slot_tuple_getitem
    (wpAny_call_entry PyProof.Rows.slot_tuple_getitem ht.typeIs entry_tuple_getitem ?_ (args_tuple_getitem _ _)))
  show wpAny _ _ (Builtin.Tuple.tupleItemsOf (.ref t) >>= _) _ _ s
  refine wpAny_bind (tupleItemsOf_ ht ?_)
  refine wpAny_bind (wpAny_typeOf hTs ?_)
  rw [if_pos (by decide)]
  refine wpAny_bind (sliceApplied_gen hs pl pu ?_)
  have hno : ¬ ((((sIx items.size 0 lo : Nat) : Int) == 0 && (1 : Int) == 1 && (sIx items.size items.size hi - sIx items.size 0 lo) == items.size) = true) := by
    intro q
    rw [Bool.and_eq_true, Bool.and_eq_true] at q
    have q1 : ((sIx items.size 0 lo : Nat) : Int) = 0 := eq_of_beq q.1.1
    have q2 : sIx items.size items.size hi - sIx items.size 0 lo = items.size := eq_of_beq q.2
    exact hw ⟨by omega, by omega⟩
  show wpAny _ _ (if (((sIx items.size 0 lo : Nat) : Int) == 0 && (1 : Int) == 1 && (sIx items.size items.size hi - sIx items.size 0 lo) == items.size) = true then _ else _) _ _ s
  rw [if_neg hno, pick_gen]
  first
    | exact wpAny_bind (m := Builtin.Tuple.tupleExact _) (wpAny_newObj_type (wpAny_pure ⟨_, rfl, wpAny_pure h⟩) htake)
    | exact wpAny_bind (m := Builtin.Tuple.tupleExact _) (wpAny_newObj_type (wpAny_bind (wpAny_pure (wpAny_pure ⟨_, rfl, wpAny_pure h⟩))) htake)
    | exact wpAny_bind (wpAny_bind (m := Builtin.Tuple.tupleExact _) (wpAny_newObj_type (wpAny_pure (wpAny_pure ⟨_, rfl, wpAny_pure h⟩)) htake))
    | exact wpAny_bind (wpAny_bind (m := Builtin.Tuple.tupleExact _) (wpAny_newObj_type (wpAny_pure ⟨_, rfl, wpAny_pure h⟩) htake))
end
end HT

namespace L2
open PySem PySem.Spec PyProof.Rows

/-! ### the parts of a slice -/
abbrev TO := St → Hp → (Option Int → Hp → Prop) → Prop
/-- a slice's part (left out, or an int) -/
def PO (X : Cx) (e : Option Expr) (t : TO) : Prop :=
  ∀ (pins : List (Addr × Obj)) (s : Shared) (σ : St) (H : Hp) (Q : Option Int → Hp → Prop), Inv X pins σ H s → t σ H Q →
    wpAny (model X.prog X.w) X.A (evalPart e X.env) (fun u s' => ∃ o H', Inv X pins σ H' s' ∧ IsPart u o ∧ Q o H') X.xe s
def tNoPart : TO := fun _ H Q => Q none H
def tPart (t : TE) : TO := fun σ H Q => t σ H fun x H1 => ∃ i, x = .int i ∧ Q (some i) H1

section
variable {X : Cx} {e : Expr} {te : TE} {lo hi : Option Expr} {tl th : TO} {pos p2 : Pos}

theorem po_none : PO X none tNoPart := by
  intro pins s σ H Q I h
  rw [evalPart_none]
  exact wpAny_pure ⟨none, H, I, .none, h⟩
theorem po_some (h : PE X e te) : PO X (some e) (tPart te) := by
  intro pins s σ H Q I hw
  rw [evalPart_some]
  refine thn (h pins s σ H _ I hw) fun u s1 ⟨x, H1, I1, r1, q1⟩ => ?_
  obtain ⟨i, rfl, q⟩ := q1
  obtain ⟨t, rfl⟩ := r1
  exact ⟨some i, H1, I1, .int i t, q⟩

/-- what a slice of a value is, by values: the slice object stands at sl -/
def SlR (X : Cx) (r : V → Option Int → Option Int → Hp → VK → Prop) : Prop :=
  ∀ (pins : List (Addr × Obj)) (s : Shared) (σ : St) (H : Hp) (x : V) (v vl vu : Value) (lo hi : Option Int) (sl : Addr) (Q : VK), Inv X pins σ H s → RelV x v → s.heap.IsSliceOf sl vl vu .none → IsPart vl lo → IsPart vu hi → r x lo hi H Q →
    ∃ T id, typeLookup (.type T) "__getitem__" = pure (some (.builtin id)) ∧ s.TypeIs v T ∧ wpAny (model X.prog X.w) X.A (getItem v (.ref sl)) (EP X pins σ Q) X.xe s
theorem SlR.or {r r' : V → Option Int → Option Int → Hp → VK → Prop} (h : SlR X r) (h' : SlR X r') : SlR X (fun x lo hi H Q => r x lo hi H Q ∨ r' x lo hi H Q) := by
  intro pins s σ H x v vl vu lo hi sl Q I rx hs pl pu q
  rcases q with q | q
  · exact h pins s σ H x v vl vu lo hi sl Q I rx hs pl pu q
  · exact h' pins s σ H x v vl vu lo hi sl Q I rx hs pl pu q
def tSl (r : V → Option Int → Option Int → Hp → VK → Prop) (te : TE) (tl th : TO) : TE := fun σ H Q => te σ H fun x H1 => tl σ H1 fun l H2 => th σ H2 fun u H3 => r x l u H3 Q
/-- a[lo:hi], any a -/
theorem pe_slice {r : V → Option Int → Option Int → Hp → VK → Prop} (hr : SlR X r) (he : PE X e te) (hl : PO X lo tl) (hu : PO X hi th) : PE X (.Subscript e (.Slice lo hi none p2) pos) (tSl r te tl th) := by
  intro pins s σ H Q I h
  refine Subscript_ (thn (he pins s σ H _ I h) fun v s1 ⟨x, H1, I1, r1, q1⟩ => ?_)
  refine wpAny_Slice (thn (hl pins s1 σ H1 _ I1 q1) fun vl s2 ⟨l, H2, I2, pl, q2⟩ => thn (hu pins s2 σ H2 _ I2 q2) fun vu s3 ⟨u, H3, I3, pu, q3⟩ => ?_)
  rw [evalPart_none]
  refine wpAny_pure ?_
  have I4 : Inv X pins σ H3 { s3 with heap := s3.heap.push { cls := .type "slice", data := .fields #[vl, vu, .none] } } := I3.kept (t' := s3.toks) fun b ob q => Heap.get?_push_of_some _ q
  obtain ⟨T, id, hT, ht, hg⟩ := hr pins { s3 with heap := s3.heap.push { cls := .type "slice", data := .fields #[vl, vu, .none] } } σ H3 x v vl vu l u s3.heap.objs.size Q I4 r1 (Heap.IsSliceOf.new ..) pl pu q3
  show wpAny (model X.prog X.w) X.A (subscriptTail e (.Slice lo hi none p2) v (.ref s3.heap.objs.size)) (EP X pins σ Q) X.xe { s3 with heap := s3.heap.push { cls := .type "slice", data := .fields #[vl, vu, .none] } }
  exact tail_any (ops := [.ref s3.heap.objs.size, v]) ht hT hg (by with_unfolding_all rfl)

/-- the items of xs[lo:hi] -/
def cutV (xs : List V) (lo hi : Option Int) : List V := (xs.drop (HT.sIx xs.length 0 lo)).take (HT.sIx xs.length xs.length hi - HT.sIx xs.length 0 lo)
theorem cutV_length (xs : List V) (lo hi : Option Int) : (cutV xs lo hi).length ≤ xs.length := by
  unfold cutV
  rw [List.length_take, List.length_drop]
  omega
/-- t[lo:hi], not the whole of it (the whole would be t itself) -/
def rSlT (K : PySem.W.Frag) : V → Option Int → Option Int → Hp → VK → Prop := fun x lo hi H Q => ∃ a xs, x = .ref a ∧ SqT K H a xs ∧
  ¬ (HT.sIx xs.length 0 lo = 0 ∧ HT.sIx xs.length xs.length hi = xs.length) ∧ ∀ p, H p = none → Q (.ref p) (upd H p (.tup (cutV xs lo hi)))
theorem sl_tup : SlR X (rSlT X.K) := by
  intro pins s σ H x v vl vu lo hi sl Q I rx hs pl pu h
  obtain ⟨a, xs, rfl, hx, hw, q⟩ := h
  cases rx
  obtain ⟨its, r, ht, hz⟩ := I.tuple hx
  have hlen : its.toArray.size = xs.length := by rw [List.size_toArray]; exact r.length.symm
  refine ⟨"tuple", _, PyProof.Rows.slot_tuple_getitem.lookup, ht.typeIs, ?_⟩
  refine HT.getItem_tuple_cut ht hs pl pu (by rw [hlen]; exact hw) ?_ (by rw [hlen]; exact hz)
  rw [hlen]
  refine ⟨.ref s.heap.objs.size, _, I.laid (t' := s.toks) (o := .tup (cutV xs lo hi)) (fun b ob q => Heap.get?_push_of_some _ q) (Nat.le_refl _) ?_, rfl, q _ (I.hok.fresh (Nat.le_refl _))⟩
  exact ⟨Nat.le_trans (cutV_length xs lo hi) hz, _, (r.drop (HT.sIx xs.length 0 lo)).take (HT.sIx xs.length xs.length hi - HT.sIx xs.length 0 lo), IsTup.new _ _⟩

/-! ### t < u, t + u -/
def rLtT (K : PySem.W.Frag) : R2 := fun x y H Q => ∃ a b ns ms, x = .ref a ∧ y = .ref b ∧ SqT K H a (ns.map V.int) ∧ SqT K H b (ms.map V.int) ∧ Q (.bl (HT.lexLt ns ms)) H
/-- t + u, t not empty: u empty gives t itself -/
def rCatT (K : PySem.W.Frag) : R2 := fun x y H Q => ∃ a b xs ys, x = .ref a ∧ y = .ref b ∧ SqT K H a xs ∧ SqT K H b ys ∧ xs ≠ [] ∧ xs.length + ys.length ≤ sizeLine ∧
  (ys = [] → Q (.ref a) H) ∧ (ys ≠ [] → ∀ p, H p = none → Q (.ref p) (upd H p (.tup (xs ++ ys))))
end
end L2

namespace L2
open PySem PySem.Spec PyProof.Rows

/-! ### places -/
/-- the place that an index of any sign means -/
def ixN (n : Nat) (i : Int) : Option Nat := if 0 ≤ i then (if i < n then some i.toNat else none) else if -(n : Int) ≤ i then some (i + n).toNat else none
def atI {α : Type} (xs : List α) (i : Int) : Option α := (ixN xs.length i).bind fun j => xs[j]?
theorem ixN_seq {n : Nat} {i : Int} {j : Nat} (h : ixN n i = some j) : seqIndex? i n = some j ∧ j < n ∧ -(n : Int) ≤ i ∧ i < n := by
  unfold ixN at h
  by_cases h0 : 0 ≤ i
  · rw [if_pos h0] at h
    by_cases h1 : i < n
    · rw [if_pos h1] at h
      have e : i.toNat = j := Option.some.inj h
      exact ⟨by rw [seqIndex_of h0 h1, e], by omega, by omega, h1⟩
    · rw [if_neg h1] at h; cases h
  · rw [if_neg h0] at h
    by_cases h1 : -(n : Int) ≤ i
    · rw [if_pos h1] at h
      have e : (i + n).toNat = j := Option.some.inj h
      exact ⟨by rw [seqIndex_neg (by omega) h1, e], by omega, h1, by omega⟩
    · rw [if_neg h1] at h; cases h
theorem atI_get {α : Type} {xs : List α} {i : Int} {v : α} (h : atI xs i = some v) : ∃ j, seqIndex? i xs.length = some j ∧ xs[j]? = some v ∧ j < xs.length ∧ -(xs.length : Int) ≤ i ∧ i < xs.length := by
  unfold atI at h
  cases e : ixN xs.length i with
  | none => rw [e] at h; cases h
  | some j =>
    rw [e] at h
    obtain ⟨h1, h2, h3, h4⟩ := ixN_seq e
    exact ⟨j, h1, h, h2, h3, h4⟩
theorem atI_nat {α : Type} {xs : List α} {j : Nat} {v : α} (h : xs[j]? = some v) : atI xs (j : Int) = some v := by
  have hj : j < xs.length := (List.getElem?_eq_some_iff.mp h).1
  have e : ixN xs.length (j : Int) = some j := by
    unfold ixN
    rw [if_pos (by omega), if_pos (by omega)]; simp
  unfold atI; rw [e]; exact h
theorem atI_last {α : Type} (xs : List α) (v : α) : atI (xs ++ [v]) (-1) = some v := by
  have hl : (xs ++ [v]).length = xs.length + 1 := by simp
  have e : ixN (xs ++ [v]).length (-1) = some xs.length := by
    unfold ixN
    rw [hl, if_neg (by decide), if_pos (by omega)]
    congr 1
    omega
  unfold atI
  rw [e]
  show (xs ++ [v])[xs.length]? = some v
  simp

/-! ### what may be subscripted -/
/-- what stands as an index of a plain subscript -/
def PlainIx (b : Expr) : Prop := ∀ o i, subscripted b false o i = operate [o, i] (getItem o i)
/-- a subscript by values -/
def IxR (X : Cx) (r : R2) : Prop :=
  ∀ (value slice : Expr) (pins : List (Addr × Obj)) (s : Shared) (σ : St) (H : Hp) (x y : V) (v u : Value) (Q : VK), Inv X pins σ H s → RelV x v → RelV y u → r x y H Q →
    subscripted slice false v u = operate [v, u] (getItem v u) → wpAny (model X.prog X.w) X.A (subscriptTail value slice v u) (EP X pins σ Q) X.xe s
/-- a call of a builtin's method by values: the receiver, the arguments -/
def MtR (X : Cx) (id : String) (r : V → List V → Hp → VK → Prop) : Prop :=
  ∀ (pins : List (Addr × Obj)) (s : Shared) (σ : St) (H : Hp) (x : V) (xs : List V) (v : Value) (us : List Value) (Q : VK), Inv X pins σ H s → RelV x v → Vals xs us → r x xs H Q →
    wpAny (model X.prog X.w) X.A (call (.builtin id) (v :: us)) (EP X pins σ Q) X.xe s
section
variable {X : Cx} {a b : Expr} {ta tb : TE} {pos : Pos}
theorem IxR.or {r r' : R2} (h : IxR X r) (h' : IxR X r') : IxR X (fun x y H Q => r x y H Q ∨ r' x y H Q) := by
  intro value slice pins s σ H x y v u Q I rx ry q hs
  rcases q with q | q
  · exact h value slice pins s σ H x y v u Q I rx ry q hs
  · exact h' value slice pins s σ H x y v u Q I rx ry q hs
theorem MtR.or {id : String} {r r' : V → List V → Hp → VK → Prop} (h : MtR X id r) (h' : MtR X id r') : MtR X id (fun x xs H Q => r x xs H Q ∨ r' x xs H Q) := by
  intro pins s σ H x xs v us Q I rx rs q
  rcases q with q | q
  · exact h pins s σ H x xs v us Q I rx rs q
  · exact h' pins s σ H x xs v us Q I rx rs q
/-- a[b] -/
theorem pe_ix {r : R2} (hr : IxR X r) (ha : PE X a ta) (hb : PE X b tb) (hs : PlainIx b) : PE X (.Subscript a b pos) (tOp r ta tb) := by
  intro pins s σ H Q I h
  exact Subscript_ (binT ha hb I h fun v u s2 x y H2 I2 rx ry q => hr a b pins s2 σ H2 x y v u Q I2 rx ry q (hs _ _))

def rIxL (K : PySem.W.Frag) : R2 := fun x y H Q => ∃ p xs i v, x = .ref p ∧ y = .int i ∧ SqL K H p xs ∧ atI xs i = some v ∧ Q v H
def rIxT (K : PySem.W.Frag) : R2 := fun x y H Q => ∃ p xs i v, x = .ref p ∧ y = .int i ∧ SqT K H p xs ∧ atI xs i = some v ∧ Q v H
def rIxS : R2 := fun x y H Q => ∃ z i c, x = .str z ∧ y = .int i ∧ z.length ≤ sizeLine ∧ atI z.cps.toList i = some c ∧ Q (.str ⟨#[c]⟩) H
theorem ix_list : IxR X (rIxL X.K) := by
  intro value slice pins s σ H x y v u Q I rx ry h hs
  obtain ⟨p, xs, i, z, rfl, rfl, hq, he, q⟩ := h
  cases rx
  obtain ⟨t, rfl⟩ := ry
  obtain ⟨its, r, pl, hz⟩ := I.list hq
  obtain ⟨j, h1, h2, h3, h4, h5⟩ := atI_get he
  obtain ⟨w, ew, rw'⟩ := r.get h2
  have hl := r.length
  have hn := line63
  have fin : EP X pins σ Q w s := ⟨z, H, I, rw', q⟩
  by_cases h0 : 0 ≤ i
  · have hj : i.toNat = j := by
      rw [seqIndex_of h0 h5] at h1
      exact Option.some.inj h1
    exact item_listR pl.isList h0 (by omega) (by rw [hj]; simpa using ew) fin hs
  · have hj : (i + (its.toArray.size : Int)).toNat = j := by
      rw [seqIndex_neg (by omega) h4] at h1
      rw [List.size_toArray, ← hl]
      exact Option.some.inj h1
    exact subscriptTail_builtinR (x := w) pl.isList.typeIs slot_list_getitem.lookup
      (wpAny_getItem_list_neg (Q := fun r s' => r = w ∧ EP X pins σ Q r s') pl.isList (by omega) (by rw [List.size_toArray] <;> omega) (by omega) (by rw [hj]; simpa using ew) ⟨rfl, fin⟩) hs
theorem ix_tup : IxR X (rIxT X.K) := by
  intro value slice pins s σ H x y v u Q I rx ry h hs
  obtain ⟨p, xs, i, z, rfl, rfl, hq, he, q⟩ := h
  cases rx
  obtain ⟨t, rfl⟩ := ry
  obtain ⟨its, r, pl, hz⟩ := I.tuple hq
  obtain ⟨j, h1, h2, h3, h4, h5⟩ := atI_get he
  obtain ⟨w, ew, rw'⟩ := r.get h2
  have hl := r.length
  have hn := line63
  have fin : EP X pins σ Q w s := ⟨z, H, I, rw', q⟩
  exact subscriptTail_builtinR (x := w) pl.typeIs slot_tuple_getitem.lookup
    (getItem_tuple (j := j) (Q := fun r s' => r = w ∧ EP X pins σ Q r s') pl (by omega) (by omega) (by rw [List.size_toArray, ← hl]; exact h1) (by simpa using ew) ⟨rfl, fin⟩) hs
/-- list, tuple or str -/
def rIx (K : PySem.W.Frag) : R2 := fun x y H Q => rIxL K x y H Q ∨ rIxT K x y H Q ∨ rIxS x y H Q
/-! ### xs[i] = v, any sign -/
/-- the list's object behind a store -/
theorem mapSeq_set (its : List Value) (n j : Nat) (u : Value) : Obj.mapSeq (·.setIfInBounds j u) { cls := .type "list", data := .seq its.toArray n } = { cls := .type "list", data := .seq (its.set j u).toArray n } := by
  simp [Obj.mapSeq]
theorem Inv.lst {pins : List (Addr × Obj)} {σ : St} {H : Hp} {s : Shared} {p : Addr} {xs : List V} (I : Inv X pins σ H s) (h : H p = some (.lst xs)) :
    ∃ (its : List Value) (n : Nat), Vals xs its ∧ s.heap.get? p = some { cls := .type "list", data := .seq its.toArray n } ∧ xs.length ≤ sizeLine := by
  obtain ⟨z, its, n, r, e⟩ := I.hok p _ h
  exact ⟨its, n, r, e, z⟩
/-- the list at p is written by an update of its object -/
theorem Inv.lstUpd {pins : List (Addr × Obj)} {σ : St} {H : Hp} {s : Shared} {p : Addr} {xs ys : List V} {its its' : List Value} {n n' : Nat} {f : Obj → Obj} (I : Inv X pins σ H s) (h : H p = some (.lst xs))
    (ho : s.heap.get? p = some { cls := .type "list", data := .seq its.toArray n }) (hf : f { cls := .type "list", data := .seq its.toArray n } = { cls := .type "list", data := .seq its'.toArray n' }) (r : Vals ys its') (hz : ys.length ≤ sizeLine) (t : Nat) :
    Inv X pins σ (upd H p (.lst ys)) { s with heap := s.heap.update p f, toks := t } := by
  have e : (s.heap.update p f).get? p = some { cls := .type "list", data := .seq its'.toArray n' } := by
    rw [Heap.get?_update_self f ho (by rw [hf] <;> rfl), hf]
  refine I.write (x := p) (e := p) (by rw [h]; trivial) (.inl rfl) (fun b u hb q => (Heap.get?_update_other _ _ (Ne.symm hb)).trans q) ⟨_, e⟩ ?_
  exact ⟨hz, its', n', r, e⟩
def rSetL : V → V → V → Hp → (Hp → Prop) → Prop := fun o i v H Q => ∃ p xs k j, o = .ref p ∧ i = .int k ∧ H p = some (.lst xs) ∧ ixN xs.length k = some j ∧ Q (upd H p (.lst (xs.set j v)))
theorem set_list : PSet X rSetL := by
  intro pins s σ H o i v ov iv u Q I ro ri rv h
  obtain ⟨p, xs, k, j, rfl, rfl, hp, hj, q⟩ := h
  cases ro
  obtain ⟨t, rfl⟩ := ri
  obtain ⟨its, n, r, ho, hz⟩ := I.lst hp
  obtain ⟨h1, h2, h3, h4⟩ := ixN_seq hj
  have hl := r.length
  have hn := line63
  have I' : Inv X pins σ (upd H p (.lst (xs.set j v))) { s with heap := s.heap.update p (Obj.mapSeq (·.setIfInBounds j u)) } :=
    I.lstUpd hp ho (mapSeq_set its n j u) (r.set rv j) (by rw [List.length_set]; exact hz) s.toks
  by_cases h0 : 0 ≤ k
  · have hk : k.toNat = j := by
      rw [seqIndex_of h0 h4] at h1
      exact Option.some.inj h1
    exact PySem.W.ki_setAt ho h0 (by omega) (by rw [List.size_toArray, ← hl]; exact h4) (by rw [hk]; exact ⟨_, I', q⟩)
  · have hk : (k + (its.toArray.size : Int)).toNat = j := by
      rw [seqIndex_neg (by omega) h3] at h1
      rw [List.size_toArray, ← hl]
      exact Option.some.inj h1
    exact PySem.W.ki_setBack ho (by omega) (by rw [List.size_toArray, ← hl]; exact h3) (by omega) (by rw [hk]; exact ⟨_, I', q⟩)

/-! ### slices -/
theorem slice_bounds (lo hi : Option Int) (n : Nat) : (sliceBounds lo hi none n).1 = ((HT.sIx n 0 lo : Nat) : Int) ∧ (sliceBounds lo hi none n).2.1 = ((HT.sIx n n hi : Nat) : Int) ∧ (sliceBounds lo hi none n).2.2 = 1 := by
  refine ⟨?_, ?_, rfl⟩
  · cases lo with
    | none => simp [sliceBounds, HT.sIx]
    | some i =>
      simp only [sliceBounds, HT.sIx, Option.getD_none, show (1 : Int) > 0 by decide, if_true]
      by_cases h : i < 0
      · simp only [h, if_true] <;> omega
      · simp only [h, if_false] <;> omega
  · cases hi with
    | none => simp [sliceBounds, HT.sIx]
    | some i =>
      simp only [sliceBounds, HT.sIx, Option.getD_none, show (1 : Int) > 0 by decide, if_true]
      by_cases h : i < 0
      · simp only [h, if_true] <;> omega
      · simp only [h, if_false] <;> omega
theorem slicePick_cut (its : List Value) (lo hi : Option Int) : slicePick its.toArray lo hi none = ((its.drop (HT.sIx its.length 0 lo)).take (HT.sIx its.length its.length hi - HT.sIx its.length 0 lo)).toArray := by
  obtain ⟨h1, h2, h3⟩ := slice_bounds lo hi its.toArray.size
  unfold slicePick
  rw [h1, h2, h3]
  simp only [sliceRange_one, pick_run, List.size_toArray] <;> rfl
/-- xs[lo:hi] of a list: a new list -/
def rSlL (K : PySem.W.Frag) : V → Option Int → Option Int → Hp → VK → Prop := fun x lo hi H Q => ∃ a xs, x = .ref a ∧ SqL K H a xs ∧ ∀ p, H p = none → Q (.ref p) (upd H p (.lst (cutV xs lo hi)))
theorem sl_list : SlR X (rSlL X.K) := by
  intro pins s σ H x v vl vu lo hi sl Q I rx hs pl pu h
  obtain ⟨a, xs, rfl, hx, q⟩ := h
  cases rx
  obtain ⟨its, r, ht, hz⟩ := I.list hx
  have hlen := r.length
  refine ⟨"list", _, slot_list_getitem.lookup, ht.isList.typeIs, ?_⟩
  refine wpAny_getItem_list_slice ht.isList hs pl pu .none (by simp) ?_ (by rw [List.size_toArray] <;> omega)
  rw [slicePick_cut, ← hlen]
  refine ⟨.ref s.heap.objs.size, _, I.laid (t' := s.toks) (o := .lst (cutV xs lo hi)) (fun b ob q => Heap.get?_push_of_some _ q) (Nat.le_refl _) ?_, rfl, q _ (I.hok.fresh (Nat.le_refl _))⟩
  exact ⟨Nat.le_trans (cutV_length xs lo hi) hz, _, 0, (r.drop (HT.sIx xs.length 0 lo)).take (HT.sIx xs.length xs.length hi - HT.sIx xs.length 0 lo), Heap.get?_push_size _ rfl⟩

/-! ### in, not in: flat items -/
def flatV : V → Bool
  | .non => true
  | .bl _ => true
  | .int _ => true
  | .str _ => true
  | _ => false
/-- == of flat values -/
def eqV : V → V → Bool
  | .non, .non => true
  | .bl a, .bl b => a == b
  | .bl a, .int b => (if a then 1 else 0) == b
  | .int a, .bl b => a == (if b then 1 else 0)
  | .int a, .int b => a == b
  | .str a, .str b => a == b
  | _, _ => false
/-- the items' answers, read off the values (a value's own answer does not lean on its token) -/
def eqU (x : V) (u : Value) : Bool := match u with
  | .none => eqV .non x
  | .bool b => eqV (.bl b) x
  | .int i _ => eqV (.int i) x
  | .str z _ => eqV (.str z) x
  | _ => false
def inV (x : V) (xs : List V) : Bool := xs.any fun y => eqV y x
/-- x in a list or tuple of flat items -/
def rIn (K : PySem.W.Frag) (neg : Bool) : R2 := fun x y H Q => ∃ p xs, y = .ref p ∧ (SqL K H p xs ∨ SqT K H p xs) ∧ flatV x = true ∧ xs.all flatV = true ∧ Q (.bl (if neg then !inV x xs else inV x xs)) H
/-! ### len, list(x), tuple(x) of any list or tuple that is read -/
theorem call_len_seq : CallR X (.builtin "len") (fun xs H Q => ∃ p ys, xs = [.ref p] ∧ (SqL X.K H p ys ∨ SqT X.K H p ys) ∧ Q (.int ys.length) H) := by
  intro pins s σ H xs us Q I r h
  obtain ⟨p, ys, rfl, hq, q⟩ := h
  obtain ⟨u, rfl, rx⟩ := vals1 r
  cases rx
  have hn := line63
  rcases hq with hq | hq
  · obtain ⟨its, r', pl, hz⟩ := I.list hq
    have hlen := r'.length
    exact Calls.call_len_list pl.isList (by simp only [List.size_toArray] <;> omega) ⟨.int ys.length, H, I.tok _, ⟨s.toks + 1, by rw [List.size_toArray, hlen]⟩, q⟩
  · obtain ⟨its, r', pl, hz⟩ := I.tuple hq
    have hlen := r'.length
    exact len_tuple pl (by simp only [List.size_toArray] <;> omega) ⟨.int ys.length, H, I.tok _, ⟨s.toks + 1, by rw [List.size_toArray, hlen]⟩, q⟩
theorem CallR.or {f : Value} {r r' : List V → Hp → VK → Prop} (h : CallR X f r) (h' : CallR X f r') : CallR X f (fun xs H Q => r xs H Q ∨ r' xs H Q) := by
  intro pins s σ H xs us Q I rs q
  rcases q with q | q
  · exact h pins s σ H xs us Q I rs q
  · exact h' pins s σ H xs us Q I rs q
theorem call_list_of : CallR X (.type "list") (fun xs H Q => ∃ p ys, xs = [.ref p] ∧ (SqL X.K H p ys ∨ SqT X.K H p ys) ∧ ∀ l, H l = none → Q (.ref l) (upd H l (.lst ys))) := by
  intro pins s σ H xs us Q I r h
  obtain ⟨p, ys, rfl, hq, q⟩ := h
  obtain ⟨u, rfl, rx⟩ := vals1 r
  cases rx
  have fin : ∀ (its : List Value), Vals ys its → ys.length ≤ sizeLine → ∀ (h' : Heap) (c' : Nat), (∀ b o', s.heap.get? b = some o' → h'.get? b = some o') →
      h'.get? s.heap.objs.size = some { cls := .type "list", dict := none, data := .seq its.toArray c', slots := #[] } → EP X pins σ Q (.ref s.heap.objs.size) { s with heap := h' } := fun its r' hz h' c' kp e =>
    ⟨.ref s.heap.objs.size, _, I.laid (t' := s.toks) kp (Nat.le_refl _) (show ObjOk X.prog X.w _ h' _ (.lst ys) from ⟨hz, its, c', r', e⟩), rfl, q _ (I.hok.fresh (Nat.le_refl _))⟩
  rcases hq with hq | hq
  · obtain ⟨its, r', pl, hz⟩ := I.list hq
    have hlen := r'.length
    obtain ⟨o, ho, hc, n, hd⟩ := pl.isList
    exact call_list_seq p (.inl rfl) ho hc hd (fun h' c' kp e => fin its r' hz h' c' kp e) (by simp only [List.size_toArray] <;> omega)
  · obtain ⟨its, r', pl, hz⟩ := I.tuple hq
    have hlen := r'.length
    obtain ⟨o, ho, hc, n, hd⟩ := pl
    exact call_list_seq p (.inr rfl) ho hc hd (fun h' c' kp e => fin its r' hz h' c' kp e) (by simp only [List.size_toArray] <;> omega)
theorem call_tuple_of : CallR X (.type "tuple") (fun xs H Q => ∃ p ys, xs = [.ref p] ∧ ((SqL X.K H p ys ∧ ∀ l, H l = none → Q (.ref l) (upd H l (.tup ys))) ∨ (SqT X.K H p ys ∧ Q (.ref p) H))) := by
  intro pins s σ H xs us Q I r h
  obtain ⟨p, ys, rfl, h⟩ := h
  obtain ⟨u, rfl, rx⟩ := vals1 r
  cases rx
  rcases h with ⟨hq, q⟩ | ⟨hq, q⟩
  · obtain ⟨its, r', pl, hz⟩ := I.list hq
    have hlen := r'.length
    refine call_tuple_list pl.isList (fun h' kp => ?_) (by simp only [List.size_toArray] <;> omega)
    have I1 : Inv X pins σ H { s with heap := h' } := I.kept (t' := s.toks) kp
    have I2 : Inv X pins σ (upd H h'.objs.size (.tup ys)) { s with heap := h'.push { cls := .type "tuple", data := .seq its.toArray } } :=
      I1.laid (t' := s.toks) (fun b o e => Heap.get?_push_of_some _ e) (Nat.le_refl _) (show ObjOk X.prog X.w _ _ _ (.tup ys) from ⟨hz, its, r', IsTup.new _ _⟩)
    exact ⟨.ref h'.objs.size, _, I2, rfl, q _ (I1.hok.fresh (Nat.le_refl _))⟩
  · obtain ⟨its, r', pl, hz⟩ := I.tuple hq
    exact call_tuple_same pl ⟨.ref p, H, I, rfl, q⟩

/-! ### the call of a builtin's method: o.m(..) -/
/-- the value is of that builtin type -/
def tyV (K : PySem.W.Frag) (T : String) (x : V) (H : Hp) : Prop := match x with
  | .str _ => T = "str"
  | .int _ => T = "int"
  | .ref p => (T = "list" ∧ ∃ xs, SqL K H p xs) ∨ (T = "tuple" ∧ ∃ o, K.lookup p = some o ∧ o.cls = .type "tuple" ∧ o.dict = none) ∨
      (T = "dict" ∧ ((∃ kvs, H p = some (.dK kvs)) ∨ ∃ kvs, H p = some (.dT kvs))) ∨ (T = "set" ∧ ∃ S n, H p = some (.set S n))
  | _ => False
theorem tyV_is {pins : List (Addr × Obj)} {σ : St} {H : Hp} {s : Shared} {T : String} {x : V} {v : Value} (I : Inv X pins σ H s) (r : RelV x v) (ty : tyV X.K T x H) :
    s.TypeIs v T ∧ ∀ a, v = .ref a → ∃ ob, s.heap.get? a = some ob ∧ ob.dict = none := by
  cases x with
  | str z =>
    obtain ⟨t, rfl⟩ := r
    cases (show T = "str" from ty)
    exact ⟨typeIs_str s z t, fun _ e => nomatch e⟩
  | int i =>
    obtain ⟨t, rfl⟩ := r
    cases (show T = "int" from ty)
    exact ⟨typeIs_int s i t, fun _ e => nomatch e⟩
  | ref p =>
    cases r
    rcases ty with ⟨rfl, xs, hq⟩ | ⟨rfl, o, hk, hc, hd⟩ | ⟨rfl, hk⟩ | ⟨rfl, S, n, hk⟩
    · obtain ⟨its, _, pl, _⟩ := I.list hq
      refine ⟨pl.isList.typeIs, fun a e => ?_⟩
      cases e
      obtain ⟨o, n, e, c, hd, _⟩ := pl
      exact ⟨o, e, hd⟩
    · refine ⟨⟨o, I.kIn p o hk, hc⟩, fun a e => ?_⟩
      cases e
      exact ⟨o, I.kIn _ o hk, hd⟩
    · have z : ∃ o, s.heap.get? p = some o ∧ o.ExactDict := by
        rcases hk with ⟨kvs, hk⟩ | ⟨kvs, hk⟩
        · obtain ⟨_, _, _, _, o, _, _, e, ex, _⟩ := I.hok p _ hk
          exact ⟨o, e, ex⟩
        · obtain ⟨_, _, _, _, o, _, _, e, ex, _⟩ := I.hok p _ hk
          exact ⟨o, e, ex⟩
      obtain ⟨o, e, ex⟩ := z
      refine ⟨⟨o, e, ex.1⟩, fun a e2 => ?_⟩
      cases e2
      exact ⟨o, e, ex.2.1⟩
    · obtain ⟨o, _, _, _, e, ex, _⟩ := I.hok p _ hk
      refine ⟨⟨o, e, ex.1⟩, fun a e2 => ?_⟩
      cases e2
      exact ⟨o, e, ex.2.1⟩
  | _ => exact False.elim ty
def tBM0 (K : PySem.W.Frag) (T : String) (r : V → List V → Hp → VK → Prop) (to : TE) : TE := fun σ H Q => to σ H fun x H1 => tyV K T x H1 ∧ r x [] H1 Q
def tBM (K : PySem.W.Frag) (T : String) (r : V → List V → Hp → VK → Prop) (to : TE) (t : TA) : TE := fun σ H Q => to σ H fun x H1 => tyV K T x H1 ∧ t σ H1 fun xs H2 => r x xs H2 Q
variable {o e : Expr} {es : List Expr} {to : TE} {t : TA} {name : Str} {apos cpos : Pos} {T id : String} {r : V → List V → Hp → VK → Prop}
theorem pe_bm0 (pa : PlainAttrs T) (slot : Slot T name id) (hty : typeOf (.builtin id) = pure (.type "method_descriptor")) (hm : MtR X id r) (ho : PE X o to)
    (hbase : attributeBase o name X.env (eval o X.env) = eval o X.env := by rfl) (hline : (apos.endLine == cpos.line) = true := by rfl) : PE X (.Call (.Attribute o name apos) [] [] cpos) (tBM0 X.K T r to) := by
  intro pins s σ H Q I h
  refine wpAny_Call_method0_late hbase hline (thn (ho pins s σ H _ I h) fun v s1 ⟨x, H1, I1, r1, ty, q1⟩ => ?_)
  obtain ⟨h1, h2⟩ := tyV_is I1 r1 ty
  exact ⟨T, id, pa, slot, hty, h1, h2, Calls.callWith_builtin rfl (PySem.evalArgs_none (hm pins s1 σ H1 x [] v [] Q I1 r1 .nil q1))⟩
theorem pe_bm (pa : PlainAttrs T) (slot : Slot T name id) (hty : typeOf (.builtin id) = pure (.type "method_descriptor")) (hm : MtR X id r) (ho : PE X o to) (ha : PA X (e :: es) t)
    (hbase : attributeBase o name X.env (eval o X.env) = eval o X.env := by rfl)
    (hfew : ((backTo cpos (starEach (e :: es) X.env)).all (fun x => !x.1) && (backToKw cpos (keywordEach [] X.env)).all (fun x => x.1.isSome)
      && decide ((e :: es).length + ([] : List Keyword).length + (if ([] : List Keyword).isEmpty then 0 else 1) < 30)) = true := by rfl)
    (hline : (apos.endLine == cpos.line) = true := by rfl) (hs : starEach (e :: es) X.env = (false, eval e X.env) :: starEach es X.env := by rfl) (hplain : (backTo cpos (starEach es X.env)).any (·.1) = false := by rfl) :
    PE X (.Call (.Attribute o name apos) (e :: es) [] cpos) (tBM X.K T r to t) := by
  intro pins s σ H Q I h
  refine wpAny_Call_method_late hbase hfew hline rfl (thn (ho pins s σ H _ I h) fun v s1 ⟨x, H1, I1, r1, ty, q1⟩ => ?_)
  obtain ⟨h1, h2⟩ := tyV_is I1 r1 ty
  refine ⟨T, id, pa, slot, hty, h1, h2, ?_⟩
  have hA := ha cpos pins s1 σ H1 _ I1 q1
  rw [hs] at hA ⊢
  refine Calls.callWith_builtin (by show (false || (backTo cpos (starEach es X.env)).any (·.1)) = false; rw [hplain] <;> rfl) (Calls.evalArgs_plain ?_)
  exact thn hA fun us s2 ⟨vs, H2, I2, r2, q2⟩ => hm pins s2 σ H2 x vs v us Q I2 r1 r2 q2
/- xs.append(e), list.index on a module's tuple .. are MtR facts of 06m -/
end
end L2

namespace L2
open PySem PySem.Spec PyProof.Rows

def MtM (X : Cx) (id : String) (r : V → List V → Hp → VK → Prop) : Prop :=
  ∀ (pins : List (Addr × Obj)) (s : Shared) (σ : St) (H : Hp) (x : V) (xs : List V) (v : Value) (us : List Value) (Q : VK), Inv X pins σ H s → RelV x v → Vals xs us → r x xs H Q →
    wpAny (model X.prog X.w) X.A (call (.builtin id) (v :: us)) (EP X pins σ Q) X.xe s

/-! ### lists of values -/
theorem Vals.one : ∀ {x : V} {us : List Value}, Vals [x] us → ∃ u, us = [u] ∧ RelV x u
  | _, _, .cons r .nil => ⟨_, rfl, r⟩
theorem Vals.two : ∀ {x y : V} {us : List Value}, Vals [x, y] us → ∃ u v, us = [u, v] ∧ RelV x u ∧ RelV y v
  | _, _, _, .cons r (.cons q .nil) => ⟨_, _, rfl, r, q⟩
theorem Vals.zero : ∀ {us : List Value}, Vals [] us → us = []
  | _, .nil => rfl
theorem Vals.dropLast {xs : List V} {us : List Value} (h : Vals xs us) : Vals xs.dropLast us.dropLast := by
  induction h with
  | nil => exact .nil
  | cons r t ih =>
    cases t with
    | nil => exact .nil
    | cons q t' => exact .cons r ih
theorem Vals.eraseIdx : ∀ {xs : List V} {us : List Value} (i : Nat), Vals xs us → Vals (xs.eraseIdx i) (us.eraseIdx i)
  | _, _, _, .nil => .nil
  | _, _, 0, .cons _ t => t
  | _, _, i + 1, .cons r t => .cons r (Vals.eraseIdx i t)
theorem Vals.reverse {xs : List V} {us : List Value} (h : Vals xs us) : Vals xs.reverse us.reverse := by
  induction h with
  | nil => exact .nil
  | cons r t ih => rw [List.reverse_cons, List.reverse_cons]; exact Vals.append ih (.cons r .nil)
theorem erase_last {α : Type} (l : List α) : l.eraseIdx (l.length - 1) = l.dropLast := by
  induction l with
  | nil => rfl
  | cons a r ih =>
    cases r with
    | nil => rfl
    | cons b r =>
      have e : (a :: b :: r).length - 1 = ((b :: r).length - 1) + 1 := by
        have h1 : (a :: b :: r).length = r.length + 2 := rfl
        have h2 : (b :: r).length = r.length + 1 := rfl
        omega
      rw [e, List.eraseIdx_cons_succ, ih]
      all_goals rfl
section
variable {X : Cx} {pins : List (Addr × Obj)} {σ : St} {H : Hp} {s : Shared} {l b : Addr} {xs ys zs : List V}

/-! ### the two steps: a tracked list is rewritten, a new list is laid -/
theorem Inv.lset {its its' : List Value} {n : Nat} {f : Array Value → Array Value} {t' : Nat} (I : Inv X pins σ H s) (hH : H l = some (.lst xs))
    (e : s.heap.get? l = some { cls := .type "list", data := .seq its.toArray n }) (hf : f its.toArray = its'.toArray) (hv : Vals ys its') (hz : ys.length ≤ sizeLine) :
    Inv X pins σ (upd H l (.lst ys)) { s with heap := s.heap.update l (Obj.mapSeq f), toks := t' } := by
  have q := PySem.IsL.update e f
  rw [hf] at q
  refine I.write (x := l) (e := l) (by rw [hH]; exact trivial) (.inl rfl) (fun b' u hb hu => (Heap.get?_update_other s.heap (Obj.mapSeq f) (Ne.symm hb)).trans hu) ⟨_, q⟩ ?_
  exact ⟨hz, its', _, hv, q⟩
theorem Inv.lnew {its : List Value} {t' : Nat} (I : Inv X pins σ H s) (hv : Vals ys its) (hz : ys.length ≤ sizeLine) :
    Inv X pins σ (upd H s.heap.objs.size (.lst ys)) { s with heap := s.heap.push { cls := .type "list", data := .seq its.toArray }, toks := t' } :=
  I.laid (fun _ _ q => Heap.get?_push_of_some _ q) (Nat.le_refl _) ⟨hz, its, 0, hv, Heap.get?_push_size _ rfl⟩
theorem Inv.fresh (I : Inv X pins σ H s) : H s.heap.objs.size = none := I.hok.fresh (Nat.le_refl _)
theorem Inv.lstM (I : Inv X pins σ H s) (hH : H l = some (.lst xs)) : xs.length ≤ sizeLine ∧ ∃ (its : List Value) (n : Nat), Vals xs its ∧ xs.length = its.length ∧ s.heap.get? l = some { cls := .type "list", data := .seq its.toArray n } := by
  obtain ⟨z, its, n, r, e⟩ := I.hok l _ hH
  exact ⟨z, its, n, r, r.length, e⟩

end

section
variable {X : Cx}

/-! ### methods -/
def rAppend : V → List V → Hp → VK → Prop := fun x vs H Q => ∃ l xs y, x = .ref l ∧ vs = [y] ∧ H l = some (.lst xs) ∧ xs.length < sizeLine ∧ Q .non (upd H l (.lst (xs ++ [y])))
theorem mt_append : MtM X "list.append" rAppend := by
  intro pins s σ H x vs v us Q I rx rv h
  obtain ⟨l, xs, y, rfl, rfl, hH, hz, q⟩ := h
  cases rx
  obtain ⟨u, rfl, ru⟩ := rv.one
  obtain ⟨z, its, n, r, hl, e⟩ := I.lstM hH
  refine call_meets F.slot_list_append ⟨_, e, rfl⟩ F.entry_list_append (F.args_list_append_2 _ _) (PySem.list_append l its.toArray n u (by rw [List.size_toArray]; omega)) ⟨e, ?_⟩
  refine ⟨.non, _, I.lset (its' := its ++ [u]) hH e (by simp) (r.append (.cons ru .nil)) ?_, rfl, q⟩
  rw [List.length_append, List.length_singleton]
  omega

def rExtend : V → List V → Hp → VK → Prop := fun x vs H Q => ∃ l b xs zs, x = .ref l ∧ vs = [.ref b] ∧ H l = some (.lst xs) ∧ H b = some (.lst zs) ∧ xs.length + zs.length ≤ sizeLine ∧ Q .non (upd H l (.lst (xs ++ zs)))
def rPop : V → List V → Hp → VK → Prop := fun x vs H Q => ∃ l xs y, x = .ref l ∧ vs = [] ∧ H l = some (.lst xs) ∧ xs[xs.length - 1]? = some y ∧ Q y (upd H l (.lst xs.dropLast))
theorem mt_pop : MtM X "list.pop" rPop := by
  intro pins s σ H x vs v us Q I rx rv h
  obtain ⟨l, xs, y, rfl, rfl, hH, hy, q⟩ := h
  cases rx
  have hus := rv.zero
  subst hus
  obtain ⟨z, its, n, r, hl, e⟩ := I.lstM hH
  obtain ⟨u, hu, ru⟩ := r.get hy
  have hy' : its.toArray[its.toArray.size - 1]? = some u := by
    show its.toArray[its.length - 1]? = some u
    rw [← Array.getElem?_toList, ← hl]
    exact hu
  refine call_meets F.slot_list_pop ⟨_, e, rfl⟩ F.entry_list_pop (F.args_list_pop_1 _) (MeetsSeq.list_pop_last l its.toArray n u hy' (by rw [List.size_toArray]; omega)) ⟨e, ?_⟩
  refine ⟨y, _, I.lset (its' := its.dropLast) hH e ?_ r.dropLast ?_, ru, q⟩
  · show its.toArray.eraseIdxIfInBounds (its.toArray.size - 1) = its.dropLast.toArray
    rw [List.size_toArray, List.eraseIdxIfInBounds_toArray, erase_last]
  · rw [List.length_dropLast]
    omega

def rPopAt : V → List V → Hp → VK → Prop := fun x vs H Q => ∃ l xs i k y, x = .ref l ∧ vs = [.int i] ∧ H l = some (.lst xs) ∧ -(2 ^ 63) ≤ i ∧ i < 2 ^ 63 ∧ seqIndex? i xs.length = some k ∧ xs[k]? = some y ∧ Q y (upd H l (.lst (xs.eraseIdx k)))
def rReverse : V → List V → Hp → VK → Prop := fun x vs H Q => ∃ l xs, x = .ref l ∧ vs = [] ∧ H l = some (.lst xs) ∧ Q .non (upd H l (.lst xs.reverse))
def rClear : V → List V → Hp → VK → Prop := fun x vs H Q => ∃ l xs, x = .ref l ∧ vs = [] ∧ H l = some (.lst xs) ∧ Q .non (upd H l (.lst []))
/-! ### list + list, list += list, list * int -/
def rCat : R2 := fun x y H Q => ∃ l b xs zs, x = .ref l ∧ y = .ref b ∧ H l = some (.lst xs) ∧ H b = some (.lst zs) ∧ xs.length + zs.length ≤ sizeLine ∧ ∀ p, H p = none → Q (.ref p) (upd H p (.lst (xs ++ zs)))
theorem op_cat : OpR X (binaryOp .Add) rCat := by
  intro pins s σ H x y v u Q I rx ry h
  obtain ⟨l, b, xs, zs, rfl, rfl, hH, hB, hz, q⟩ := h
  cases rx
  cases ry
  obtain ⟨z, its, n, r, hl, e⟩ := I.lstM hH
  obtain ⟨z2, its2, n2, r2, hl2, e2⟩ := I.lstM hB
  refine PySem.P.add_list e e2 ?_ (by rw [List.size_toArray, List.size_toArray]; omega)
  have ea : its.toArray ++ its2.toArray = (its ++ its2).toArray := by simp
  rw [ea]
  exact ⟨.ref _, _, I.lnew (t' := s.toks) (r.append r2) (by rw [List.length_append]; omega), rfl, q _ I.fresh⟩
/-- a list times an int (a negative one is nothing) -/
def rRep : R2 := fun x y H Q => ∃ l k xs, x = .ref l ∧ y = .int k ∧ H l = some (.lst xs) ∧ -(2 ^ 63) ≤ k ∧ k < 2 ^ 63 ∧ xs.length * k.toNat ≤ sizeLine ∧
  ∀ p, H p = none → Q (.ref p) (upd H p (.lst (List.replicate k.toNat xs).flatten))
/-! ### del xs[i] -/
end

/-! ### xs[a:b] = ys -/
section
variable {prog : Program} {w : World} {A : Around} {E : Value → Shared → Prop} {s : Shared}
end

section
variable {X : Cx}
end
end L2

namespace Att
open PySem PySem.W PySem.Calls PyProof.Rows

/-! ### the script -/
theorem ints_of_wellAll {P : Params} {h : Heap} : ∀ (ns : List Int) (vs : List Value), WellAll P h vs (ns.map WData.int) → IntsAre vs ns := by
  intro ns
  induction ns with
  | nil =>
    intro vs w
    rw [List.map_nil] at w
    cases w
    exact .nil
  | cons n ns ih =>
    intro vs w
    rw [List.map_cons] at w
    cases w with
    | cons a b =>
      cases a
      exact .cons _ _ (ih _ b)

theorem script_of {l : OpenLaw} {n : Nat} (hn : l.most = some n) {P : Params} {h : Heap} {args : List WData} {vals : List Value}
    (hpre : l.row.toRowW.claim.pre args = true) (hwl : WellAll P h vals args) :
    ∃ a vs ns, vals = [Value.ref a] ∧ args = [WData.list (ns.map WData.int)] ∧ h.get? a = some { cls := .type "list", data := .seq vs.toArray } ∧ IntsAre vs ns ∧ ns.length ≤ n := by
  have hsh : WShape.hasAll [] args [.list .int] = true := (pre_splitW hpre).1
  have hc : l.pre.holds [] { args := args } = true := (pre_splitW hpre).2
  obtain ⟨d, r, rfl, h1, h2⟩ := hasAllW_cons hsh
  obtain rfl := hasAllW_nil h2
  obtain ⟨xs, rfl, h3⟩ := hasW_list h1
  obtain ⟨ns, rfl⟩ := items_int h3
  have hlen : ns.length ≤ n := by
    unfold OpenLaw.pre at hc
    have h4 : (WTm.not (.lt (.lit (.int (n : Int))) (.len (.arg 0)))).holds [] { args := [.list (ns.map .int)] } = true := by
      have h4 := (holds_andW hc).1
      rw [hn] at h4
      exact h4
    have h5 := condW_of h4 (w_not (w_lt w_lit (w_len_list (w_arg rfl))))
    rw [List.length_map] at h5
    refine Nat.le_of_not_lt fun q => ?_
    have q' : (n : Int) < ((ns.length : Nat) : Int) := by omega
    first
      | (rw [decide_eq_true q'] at h5; exact absurd h5 (by decide))
      | (simp at h5; omega)
  cases hwl with
  | cons w1 w2 =>
    cases w2
    cases w1 with
    | list ho hall => exact ⟨_, _, ns, rfl, rfl, ho, ints_of_wellAll ns _ hall, hlen⟩

theorem post_true (l : OpenLaw) (args : List WData) : l.row.toRowW.claim.post args (.bool true) args = true :=
  postW_of (r := l.row.toRowW) (X := (true == true))
    (show WShape.has [] (.bool true) .bool = true by first | rfl | decide | simp [WShape.has, WShape.arms, WShape.armsAll])
    (show (WTm.eq .res (.lit (.bool true))).value [] { args := args, res := some (.bool true), after := args } = some (.bool (true == true)) from w_eq_bool (w_res rfl) w_lit) rfl

/-! ### the attachment: holds_open's last premise (the goal 'hc' behind k_head) from a wpAny of the law's body -/
/-- the same from a codeAny of the CALL (for a layer whose function contracts speak of calls) -/
theorem attach_call {l : OpenLaw} {n : Nat} {q : Program} {loose : List Str} {XP : (Str → Option Value) → Heap → Prop} {YP : World → Heap → Prop} {d : DefRec}
    (hn : l.most = some n) (hdf : d.params.defaults = [])
    (call : ∀ (w : World) (s₀ s₁ : Shared) (mg mb : Str → Option Value) (fa : Addr) (o : Obj) (pm cd doc : Value) (a : Addr) (vs : List Value) (ns : List Int),
      Ground q loose [] XP w s₀ mg mb s₁.heap → YP w s₁.heap →
      s₁.heap.get? fa = some o → o.data = .func (docDef d.name d.params d.body d.scope pm cd doc) → s₁.heap.CodeRec cd d.name → mg d.name = some (.ref fa) →
      s₁.heap.get? a = some { cls := .type "list", data := .seq vs.toArray } → IntsAre vs ns → ns.length ≤ n → s₁.gens = #[] →
      codeAny (model l.prog w) callerA (.call (.ref fa) ⟨[.ref a], []⟩) (fun r s' => r = .ok (.ret (.bool true)) ∧ OldK s₁.heap s'.heap ∧ s'.os = s₁.os ∧ AllBare s'.gens) s₁) :
    WalkO q loose XP YP l.row.toRowW d [] (fun f vs => PySem.call f vs) := by
  intro w s₀ s₁ mg mb G Y fa o pm cd doc dV kV ho hd hcd hD hmg hg args vals as hpre hlay hrd hwl hlo
  obtain rfl : dV = .none := Dflts.none hD hdf
  obtain rfl : kV = .none := Dflts.noKw hD
  obtain ⟨a, vs, ns, rfl, rfl, hobj, hints, hlen⟩ := script_of hn hpre hwl
  refine enter_call (codeAny_mono (call w s₀ s₁ mg mb fa o pm cd doc a vs ns G Y ho (fd_plain hd) hcd hmg hobj hints hlen hg) fun r s' hq => ?_)
  obtain ⟨rfl, h2, h3, h4⟩ := hq
  exact ⟨.inl ⟨.bool true, .bool true, [], rfl, fun _ => rfl, .bool true, post_true l _, fun _ => ⟨List.Pairwise.nil, fun _ hm => (nomatch hm)⟩⟩, h2, h3, h4⟩

/-! ### rules over ANY heap (no ledger) from facts about the written part K: the library's own take a ledger (News) for what they write -/
section
variable {prog : Program} {w : World} {A : Around} {E : Value → Shared → Prop} {s : Shared} {K : Frag}

/-! the whole heap as the ledger: makes every rule that writes through a ledger a rule over any heap -/
def noObjs (h : Heap) : Heap := { h with objs := #[] }
def ledger (h : Heap) (L d : Addr) : List (Addr × Obj) := (List.range h.objs.size).filterMap fun a => if a = L ∨ a = d then none else (h.get? a).map fun o => (a, o)
end
end Att

namespace L2
open PySem PySem.Spec PyProof.Rows

theorem vals_ints : ∀ {vs : List Value} {ns : List Int}, IntsAre vs ns → Vals (ns.map V.int) vs
  | _, _, .nil => .nil
  | _, _, .cons n t h => .cons ⟨t, rfl⟩ (vals_ints h)

/-- nothing is tracked but the script, known to the object (or it is an object of the module) -/
def Only (H : Hp) : Prop := ∀ b, H b = none ∨ ∃ o xs, H b = some (.frz o (.lst xs))

/-- THE HEAD: the law's promise, at the heap behind the top. F, the promise of the law's def, may use that base is part of the heap (so K.In base, base.Ns mainGlobals mg stand in Mod) -/
theorem law_call {P : Program} {w : World} {K : PySem.W.Frag} {mg mb : Str → Option Value} {CX : CXT} {k : Nat} {fa a : Addr} {fd : FuncData} {x : Str} {sp : Sp} {s₁ : Shared} {vs : List Value} {ns : List Int}
    (KX : K.In s₁.heap) (hns : s₁.heap.Ns mainGlobals mg) (hb : s₁.heap.Ns builtinsNs mb) (hbb : ∀ x : Str, x ≠ "__name__" → mb x = bootBuiltins x) (hlim : s₁.heap.NoLimit) (hg : s₁.gens = #[])
    (ha : s₁.heap.get? a = some { cls := .type "list", data := .seq vs.toArray }) (hi : IntsAre vs ns) (hl : ns.length ≤ sizeLine) (hr : Room k callerA)
    (F : ∀ base : Heap, K.In base → base.Ns mainGlobals mg → FnOk P w K mg base CX k fa fd [x] sp) (hbind : ∀ (s : Shared) (u : Value), BindsTo s fd ⟨[u], []⟩ [(x, u)])
    (hsp : ∀ H : Hp, Only H → SqL K H a (ns.map V.int) → sp [.ref a] H (fun v _ => v = .bl true) fun _ _ _ => False)
    (hCX : ∀ H e s', CX [] H s₁ (fun _ _ _ => False) e s' → False) :
    codeAny (model P w) callerA (.call (.ref fa) ⟨[.ref a], []⟩) (fun r s' => r = .ok (.ret (.bool true)) ∧ OldK s₁.heap s'.heap ∧ s'.os = s₁.os ∧ AllBare s'.gens) s₁ := by
  have rv := vals_ints hi
  have lenV := hi.length
  -- from an abstract heap in which nothing but the script may be tracked
  have core : ∀ H : Hp, Only H → SqL K H a (ns.map V.int) → HOk P w H s₁.heap → (∀ b, H b ≠ none → b = a) → (H a ≠ none → K.lookup a = none) →
      codeAny (model P w) callerA (.call (.ref fa) ⟨[.ref a], []⟩) (fun r s' => r = .ok (.ret (.bool true)) ∧ OldK s₁.heap s'.heap ∧ s'.os = s₁.os ∧ AllBare s'.gens) s₁ := by
    intro H hO hS hok hA hK
    have base_of : ∀ {b : Addr} {o : Obj}, s₁.heap.get? b = some o → H b = none → (hidT s₁.heap H).get? b = some o := fun e n => hidT_get e n
    have noA : ∀ {b : Addr} {o : Obj} {es : Array DictEntry} {ep : Nat}, s₁.heap.get? b = some o → o.data = .dict es ep → H b = none := fun {b o es ep} e d => by
      cases q : H b with
      | none => rfl
      | some u =>
        have e' : b = a := hA b (by rw [q]; simp)
        subst e'
        rw [ha] at e; cases e
        have d' : Data.seq vs.toArray _ = Data.dict es ep := d
        cases d'
    have nsK : ∀ {b : Addr} {m : Str → Option Value}, s₁.heap.Ns b m → (hidT s₁.heap H).Ns b m := fun {b m} ⟨o, es, ep, e, d, r⟩ => ⟨o, es, ep, base_of e (noA e d), d, r⟩
    have hKb : K.In (hidT s₁.heap H) := fun b o e => base_of (KX b o e) (by
      cases q : H b with
      | none => rfl
      | some u =>
        have e' : b = a := hA b (by rw [q]; simp)
        subst e'
        rw [hK (by rw [q]; simp)] at e; cases e)
    have hM : Mod K mg (hidT s₁.heap H) := ⟨hKb, nsK hns, ⟨mb, nsK hb, hbb⟩, let ⟨mc, h1, h2⟩ := hlim; ⟨mc, nsK h1, h2⟩⟩
    have e0 : Env0 P w K mg (hidT s₁.heap H) callerA [] s₁ H := ⟨rfl, hM, fun b o e => of_hidT e, Nat.le_of_eq (hidT_size _ _), trivial, fun b hb => absurd (show b ∈ ([] : List Addr) from hb) (by simp), hok, .of_eq hg⟩
    refine codeAny_mono ((F _ hKb (nsK hns)).run callerA [] s₁ H ⟨[.ref a], []⟩ [.ref a] [.ref a] _ _ hr e0 (hbind s₁ (.ref a)) (.cons rfl .nil) (hsp H hO hS)) fun r s' h => ?_
    cases r with
    | error e => exact (hCX H e s' h).elim
    | ok fl =>
      cases fl with
      | next => exact False.elim h
      | brk => exact False.elim h
      | cont => exact False.elim h
      | ret u =>
        obtain ⟨v, H', os, bare, un, hok', r', q⟩ := h
        have q' : v = .bl true := q
        subst q'
        obtain rfl : u = Value.bool true := r'
        refine ⟨rfl, OldK.of_keep fun b o e => ?_, os, bare⟩
        cases q : H b with
        | none => exact un.keep b o e q (by intro z; exact absurd (show b ∈ ([] : List Addr) from z) (by simp)) (by simp)
        | some u =>
          rcases hO b with z | ⟨ob, xs, z⟩
          · rw [q] at z; cases z
          · have z2 := un.frzs b ob _ z
            obtain ⟨e1, _⟩ := hok b _ z
            obtain ⟨e2, _⟩ := hok' b _ z2
            rw [e] at e1; cases e1
            exact e2
  cases hk : K.lookup a with
  | some o =>
    -- the script is one of the module's own objects
    have e := KX a o hk
    rw [ha] at e
    cases e
    refine core (fun _ => none) (fun _ => .inl rfl) (.inr ⟨_, vs.toArray, _, hk, rfl, rfl, rfl, by rw [List.size_toArray, lenV]; exact hl, by simpa using rv⟩) (fun b u z => by have z' : (none : Option HO) = some u := z; cases z') (fun b z => absurd rfl z) fun z => absurd rfl z
  | none =>
    refine core (fun b => if b = a then some (.frz { cls := .type "list", data := .seq vs.toArray } (.lst (ns.map V.int))) else none) (fun b => ?_) (.inl (.inr ⟨{ cls := .type "list", data := .seq vs.toArray }, if_pos rfl⟩)) (fun b u z => ?_) (fun b z => ?_) fun _ => hk
    · by_cases hb : b = a
      · exact .inr ⟨_, _, if_pos hb⟩
      · exact .inl (if_neg hb)
    · by_cases hb : b = a
      · have z' := (if_pos hb).symm.trans z
        cases z'
        subst hb
        exact ⟨ha, by rw [List.length_map]; exact hl, vs, _, rv, ha⟩
      · have z' := (if_neg hb).symm.trans z
        cases z'
    · by_cases hb : b = a
      · exact hb
      · exact absurd (if_neg hb) z
end L2

namespace L2
open PySem PySem.Spec PyProof.Rows

abbrev KOf {K : PySem.W.Frag} {h : Heap} (_ : K.In h) : PySem.W.Frag := K

/-- the goal that k_head leaves (case hc), from the law's promise. F gives the function object fd (K's own) once, then the promise over every base -/
theorem walk_of {l : PySem.W.OpenLaw} {n k : Nat} {q : Program} {loose : List Str} {XP : (Str → Option Value) → Heap → Prop} {YP : World → Heap → Prop} {d : DefRec} {K : Params → PySem.W.Frag} {CX : World → CXT} {sp : World → Sp} {x : Str}
    (hn : l.most = some n) (hn2 : n ≤ sizeLine) (hdf : d.params.defaults = []) (hr : Room k callerA)
    (hY : ∀ (w : World) (h : Heap), YP w h → (K w.params).In h)
    (F : ∀ (w : World) (mg : Str → Option Value) (fa : Addr) (h : Heap), (K w.params).In h → h.Ns mainGlobals mg → mg d.name = some (.ref fa) →
      ∃ fd : FuncData, (∀ (s : Shared) (u : Value), BindsTo s fd ⟨[u], []⟩ [(x, u)]) ∧
        ∀ base : Heap, (K w.params).In base → base.Ns mainGlobals mg → FnOk l.prog w (K w.params) mg base (CX w) k fa fd [x] (sp w))
    (hsp : ∀ (w : World) (H : Hp) (a : Addr) (ns : List Int), ns.length ≤ n → Only H → SqL (K w.params) H a (ns.map V.int) → sp w [.ref a] H (fun v _ => v = .bl true) fun _ _ _ => False)
    (hCX : ∀ (w : World) (H : Hp) (s : Shared) (e : Value) (s' : Shared), CX w [] H s (fun _ _ _ => False) e s' → False) :
    PySem.W.WalkO q loose XP YP l.row.toRowW d [] (fun f vs => PySem.call f vs) := by
  refine Att.attach_call hn hdf fun w s₀ s₁ mg mb fa o pm cd doc a vs ns G Y ho hd hcd hmg hobj hints hlen hg => ?_
  have KX := hY w _ Y
  obtain ⟨fd, hb, hF⟩ := F w mg fa _ KX G.T.g hmg
  exact law_call KX G.T.g G.T.b G.T.builtins G.T.nolimit hg hobj hints (Nat.le_trans hlen hn2) hr hF hb (fun H hO hS => hsp w H a ns hlen hO hS) fun H e s' => hCX w H s₁ e s'
end L2

/-! SHORT WORDS over the layer: a def of the text, its body, what a loop and a test want. -/
namespace L2
open PySem PySem.Spec PyProof.Rows

/-! ### the text by places -/
/-- the j-th statement of a class's body -/
def inClass (s : Stmt) (j : Nat) : Stmt := match s with
  | .ClassDef _ _ _ body _ _ _ _ _ _ _ => body.getD j (.Pass ⟨0, 0, 0, 0⟩)
  | _ => .Pass ⟨0, 0, 0, 0⟩
def defArgs (s : Stmt) : Arguments := match s with
  | .FunctionDef _ a _ _ _ _ _ _ _ _ => a
  | _ => { posonlyargs := [], args := [], vararg := none, kwonlyargs := [], kw_defaults := [], kwarg := none, defaults := [] }
def defBody (s : Stmt) : List Stmt := match s with
  | .FunctionDef _ _ b _ _ _ _ _ _ _ => b
  | _ => []
def defScope (s : Stmt) : Scope := match s with
  | .FunctionDef _ _ _ _ _ _ sc _ _ _ => sc
  | _ => { kind := .function, names := [], isGenerator := false, isCoroutine := false }

/-! ### no exception leaves a def -/
abbrev CX0 : CXT := fun _ _ _ _ _ _ => False
abbrev E0 : XK := fun _ _ _ => False
theorem pass0 {X : Cx} : Passes CX0 X E0 := fun _ _ _ _ _ _ _ h => h.elim

/-! ### a def (or method) of the text as it stands behind the top -/
structure Fun (K : PySem.W.Frag) (x qual : Str) (st : Stmt) (f : Addr) (fd : FuncData) : Prop where
  ex : ∃ (oc : Value) (od : Option Addr) (kV doc pm : Value) (an : Option Addr) (cdv ct : Value) (osl : Array (Option Value)),
    fd = PySem.W.fnOf x qual (defArgs st) (defBody st) (defScope st) .none kV doc pm an cdv ct ∧ K.lookup f = some ⟨oc, od, .func fd, osl⟩ ∧ PySem.W.codeIn K cdv qual = true
  kp : PySem.W.keepIn K (.ref f) = true
section
variable {P : Program} {w : World} {K : PySem.W.Frag} {mg : Str → Option Value} {base : Heap}
/-- THE RULE for a def: its body as a term of rules, and the reading of that term -/
theorem Fun.ok {x qual : Str} {st : Stmt} {f : Addr} {fd : FuncData} {N ps : List Str} {k : Nat} {sp : Sp} (F : Fun K x qual st f fd) (S : FnScope N ps (defScope st)) (len : ∀ vs H Q E, sp vs H Q E → vs.length = ps.length)
    (hbody : ∀ (cdv : Value) (A : Around) (outer : List Env) (s : Shared) (H : Hp) (vs : List V) (Q : VK) (E : XK), Room k (A.deeper (envOfC qual (defScope st) s.heap.objs.size f cdv)) → sp vs H Q E →
      ∃ t, PSs (cxOf CX0 P w K mg base N qual (defScope st) f cdv A outer s H E).nox (defBody st) t ∧ t { nx := fun _ H' => Q .non H', rt := Q } (start N vs) H) : FnOk P w K mg base CX0 (k + 1) f fd ps sp := by
  obtain ⟨oc, od, kV, doc, pm, an, cdv, ct, osl, rfl, lk, hcd⟩ := F.ex
  refine fn_of lk hcd S len fun A outer s H vs Q E hr hsp => ?_
  obtain ⟨t, h, q⟩ := hbody cdv A outer s H vs Q E hr hsp
  exact ⟨t, h.nox, q⟩
/-- how its arguments bind (no defaults): h is «fun _ _ _ _ _ _ us hl => match us, hl with | [_, _], _ => rfl», one _ a parameter -/
theorem Fun.binds {x qual : Str} {st : Stmt} {f : Addr} {fd : FuncData} {ps : List Str} (F : Fun K x qual st f fd)
    (h : ∀ (kV doc pm : Value) (an : Option Addr) (cdv ct : Value) (us : List Value), us.length = ps.length → bindArgs (PySem.W.fnOf x qual (defArgs st) (defBody st) (defScope st) .none kV doc pm an cdv ct) ⟨us, []⟩ = pure (ps.zip us)) : Binds K fd ps [] := by
  obtain ⟨oc, od, kV, doc, pm, an, cdv, ct, osl, rfl, lk, hcd⟩ := F.ex
  exact .all (h kV doc pm an cdv ct)
end
theorem small1000 {n : Nat} (h : n ≤ 1000) : n < sizeLine := Nat.lt_of_le_of_lt h (by decide)

/-! ### expressions in short: the name that stands in the i-th slot -/
section
variable {X : Cx}
theorem pv (i : Nat) {x : Str} {pos : Pos} (hN : X.N[i]? = some x := by rfl) (hv : Vis X.env.scope x := by first | exact Or.inl rfl | exact Or.inr (Or.inl rfl) | exact Or.inr (Or.inr rfl)) (hd : (x == ("__debug__" : Str)) = false := by decide)
    (hcd : (x == ("__classdict__" : Str)) = false := by decide) : PE X (.Name x pos) (tVar i) := pe_var hN hv hd hcd
end

/-! ### tests -/
theorem ite2 {c A B : Prop} [Decidable c] (h1 : c → A) (h2 : ¬ c → B) : if c then A else B := by
  by_cases h : c
  · rw [if_pos h]
    exact h1 h
  · rw [if_neg h]
    exact h2 h
/-! ### heaps -/
/-- all that was tracked is as it was -/
def Same (H H' : Hp) : Prop := ∀ b o, H b = some o → H' b = some o
theorem Same.refl (H : Hp) : Same H H := fun _ _ h => h
theorem Same.trans {H H1 H2 : Hp} (a : Same H H1) (b : Same H1 H2) : Same H H2 := fun c o h => b c o (a c o h)
theorem Same.free {H H' : Hp} (e : Same H H') {l : Addr} (h : H' l = Option.none) : H l = Option.none := by
  cases q : H l with
  | none => rfl
  | some o =>
    rw [e l o q] at h
    cases h
theorem Same.seq {K : PySem.W.Frag} {H H' : Hp} {a : Addr} {xs : List V} (e : Same H H') (h : SqL K H a xs) : SqL K H' a xs := by
  rcases h with (h | ⟨o, h⟩) | h
  · exact .inl (.inl (e _ _ h))
  · exact .inl (.inr ⟨o, e _ _ h⟩)
  · exact .inr h

end L2

/-! EXTENSION A of the hand layer: list comprehensions. -/
namespace L2
open PySem PySem.Spec PyProof.Rows

section
variable {prog : Program} {w : World} {A : Around} {R : Result → Shared → Prop} {s : Shared}
theorem compLoop_any {elt target iter : Expr} {ifs : List Expr} {scope : Scope} {pos : Pos} {it acc : Value} {env : Env} (I : Nat → Shared → Prop)
    (turn : ∀ n s, I n s → wpAny (model prog w) A (pyNext it) (fun r s₁ => match r with
      | none => R (.ok .next) s₁
      | some v => wpAny (model prog w) A (letOwnedTupleGo target it v) (fun _ s₁' => wpAny (model prog w) A (assign target env v) (fun _ s₂ =>
          wpAny (model prog w) A (forIn ifs true fun c r => if r = true then do let ok ← isTrue c env (eval c env); pure (ForInStep.yield ok) else pure (ForInStep.yield r)) (fun ok s₃ =>
            if ok = true then wpAny (model prog w) A (eval elt env) (fun x s₄ =>
              wpAny (model prog w) A (call (.builtin "list.append") [acc, x]) (fun _ s₅ => ∃ m, m < n ∧ I m s₅) (notedBy (model prog w) A env fun e s' => R (.error e) s') s₄) (notedBy (model prog w) A env fun e s' => R (.error e) s') s₃
            else ∃ m, m < n ∧ I m s₃) (notedBy (model prog w) A env fun e s' => R (.error e) s') s₂) (notedBy (model prog w) A env fun e s' => R (.error e) s') s₁') (notedBy (model prog w) A env fun e s' => R (.error e) s') s₁) (notedBy (model prog w) A env fun e s' => R (.error e) s') s)
    (n : Nat) (h : I n s) :
    codeAny (model prog w) A (.compLoop (.ListComp elt [⟨target, iter, ifs, 0⟩] scope pos) 0 it acc env) R s := by
  refine codeAny_loop rfl I (fun n s hI => ?_) n h
  show wpAny _ A ((compTurn (.ListComp elt [⟨target, iter, ifs, 0⟩] scope pos) 0 it acc env).onRaise (fun x => do noteFrame x env; theTreesLotGoes x)) _ _ s
  refine wpAny_noted ?_
  rw [compTurn_list]
  refine wpAny_bind (wpAny_standAt (wpAny_bind (wpAny_mono (turn n s hI) (fun r s₁ h₁ => ?_) fun _ _ h' => h')))
  cases r with
  | none => exact wpAny_pure h₁
  | some v =>
    refine wpAny_bind (wpAny_mono h₁ (fun _ s₁' h₁' => ?_) fun _ _ h' => h')
    refine wpAny_bind (wpAny_mono h₁' (fun _ s₂ h₂ => wpAny_bind (wpAny_mono h₂ (fun ok s₃ h₃ => ?_) fun _ _ h' => h')) fun _ _ h' => h')
    cases ok with
    | false => exact wpAny_pure ⟨rfl, h₃⟩
    | true =>
      exact wpAny_bind (wpAny_bind (wpAny_mono h₃ (fun x s₄ h₄ => wpAny_bind (wpAny_mono h₄ (fun _ s₅ h₅ => wpAny_pure (wpAny_pure ⟨rfl, h₅⟩)) fun _ _ h' => h')) fun _ _ h' => h'))
end

/-! ### the closure -/
theorem closure_go {env : Env} : ∀ (names : List (Str × NameKind)) (cs : List (Str × Addr)), (∀ y ∈ names, y.2 = .free → ∃ c, env.cells.lookup y.1 = some c) →
    (∀ y c, cs.lookup y = some c → env.cells.lookup y = some c) →
    ∃ cl : List (Str × Addr), (forIn (m := Sem) names cs fun x r => do
        if (x.2 == NameKind.free) = true then do
          let a ← cellOf env x.1
          pure (ForInStep.yield ((x.1, a) :: r))
        else pure (ForInStep.yield r)) = pure cl ∧ (∀ y c, cl.lookup y = some c → env.cells.lookup y = some c) ∧
      (∀ y, ((y, NameKind.free) ∈ names ∨ ∃ c, cs.lookup y = some c) → ∃ c, cl.lookup y = some c)
  | [], cs, _, hc => ⟨cs, rfl, hc, fun y h => h.elim (fun z => nomatch z) id⟩
  | (n, k) :: r, cs, hn, hc => by
    by_cases hk : k = .free
    · subst hk
      obtain ⟨c, e⟩ := hn (n, .free) List.mem_cons_self rfl
      have hc' : ∀ y d, ((n, c) :: cs).lookup y = some d → env.cells.lookup y = some d := fun y d q => by
        rw [List.lookup_cons] at q
        cases z : y == n with
        | true =>
          rw [z] at q
          have := beq_iff_eq.mp z
          subst this
          cases q
          exact e
        | false => rw [z] at q; exact hc y d q
      obtain ⟨cl, h1, h2, h3⟩ := closure_go r ((n, c) :: cs) (fun y hy => hn y (List.mem_cons_of_mem _ hy)) hc'
      refine ⟨cl, ?_, h2, fun y hy => h3 y ?_⟩
      · rw [List.forIn_cons]
        have ec : cellOf env n = pure c := by unfold cellOf; rw [e]
        show ((if (NameKind.free == NameKind.free) = true then _ else _) >>= _) = _
        rw [if_pos (by rfl)]
        show ((cellOf env n >>= _) >>= _) = _
        rw [ec]
        exact h1
      · rcases hy with hy | ⟨d, hy⟩
        · rcases List.mem_cons.mp hy with z | z
          · cases z
            exact .inr ⟨c, by rw [List.lookup_cons, beq_self_eq_true]⟩
          · exact .inl z
        · refine .inr ?_
          rw [List.lookup_cons]
          cases z : y == n with
          | true => exact ⟨c, rfl⟩
          | false => exact ⟨d, hy⟩
    · obtain ⟨cl, h1, h2, h3⟩ := closure_go r cs (fun y hy => hn y (List.mem_cons_of_mem _ hy)) hc
      refine ⟨cl, ?_, h2, fun y hy => h3 y ?_⟩
      · rw [List.forIn_cons]
        have hb : (k == NameKind.free) = false := by simpa using hk
        show ((if (k == NameKind.free) = true then _ else _) >>= _) = _
        rw [if_neg (by rw [hb]; decide)]
        exact h1
      · rcases hy with hy | hy
        · rcases List.mem_cons.mp hy with z | z
          · cases z; exact absurd rfl hk
          · exact .inl z
        · exact .inr hy
theorem closure_ok {env : Env} {scope : Scope} (hn : ∀ y ∈ scope.names, y.2 = .free → ∃ c, env.cells.lookup y.1 = some c) :
    ∃ cl : List (Str × Addr), closureFor scope env = pure cl ∧ (∀ y c, cl.lookup y = some c → env.cells.lookup y = some c) ∧ (∀ y, (y, NameKind.free) ∈ scope.names → ∃ c, cl.lookup y = some c) := by
  obtain ⟨cl, h1, h2, h3⟩ := closure_go (env := env) scope.names [] hn (fun y c q => nomatch q)
  refine ⟨cl, ?_, h2, fun y hy => h3 y (.inl hy)⟩
  unfold closureFor
  show (_ >>= fun cs => pure cs) = _
  have e : ∀ m : Sem (List (Str × Addr)), (m >>= fun cs => pure cs) = m := fun m => bind_pure m
  rw [e]
  exact h1

/-! ### the block -/
/-- names of the comprehension's block that stand in the enclosing frame as cells: their slots there -/
inductive Ixs (N : List Str) (sc cs : Scope) : List Str → List Nat → Prop
  | nil : Ixs N sc cs [] []
  | cons {y r j q} (h1 : N[j]? = some y) (h2 : sc.names.lookup y = some .cell ∨ sc.names.lookup y = some .free) (h3 : cs.names.lookup y = some .free) (t : Ixs N sc cs r q) : Ixs N sc cs (y :: r) (j :: q)
structure CompScope (N : List Str) (sc : Scope) (N' : List Str) (ix : List Nat) (x : Str) (r : List Str) (cs : Scope) : Prop where
  eq : N' = x :: r
  kind : cs.kind = .function
  hcell : ∀ y ∈ cs.names, y.2 ≠ .cell
  hnames : ∀ y ∈ cs.names, y.2 = .local → cs.names.lookup y.1 = some .local
  hx : cs.names.lookup x = some .local
  nd : (x :: r).Nodup
  fr : ∀ y ∈ cs.names, y.2 = .free → sc.names.lookup y.1 = some .cell ∨ sc.names.lookup y.1 = some .free
  ixs : Ixs N sc cs r ix
def slotsAt (σ : St) (ix : List Nat) : St := ix.map fun j => (σ[j]?).getD none
def compCx (X : Cx) (N' : List Str) (cs : Scope) (cl : List (Str × Addr)) (s3 : Shared) (H3 : Hp) (fp : List Addr) : Cx :=
  { X with N := N', s₀ := s3, H₀ := H3, env := compEnvC cs cl s3.heap.objs.size X.env, outer := X.stack, stack := X.stack, ex := fp, fn := fun _ => false, pn := [], xe := fun _ _ => False }

theorem relabel_free {env : Env} {cs : Scope} (hcell : ∀ y ∈ cs.names, y.2 ≠ .cell) {y : Str} {k : NameKind} (h : (relabel cs env).names.lookup y = some k) (hk : k = .cell ∨ k = .free) : (y, NameKind.free) ∈ cs.names := by
  have m := PySem.mem_of_lookup h
  obtain ⟨⟨n, k0⟩, h1, h2⟩ := List.mem_map.mp m
  by_cases c : (k0 == NameKind.free && env.scope.kind == .function && env.kindOf n == some .cell) = true
  · have h2' : (n, NameKind.cell) = (y, k) := by rw [← h2]; exact (if_pos c).symm
    cases h2'
    have : k0 = .free := by
      have z := (Bool.and_eq_true_iff.mp (Bool.and_eq_true_iff.mp c).1).1
      exact beq_iff_eq.mp z
    rw [this] at h1
    exact h1
  · have h2' : (n, k0) = (y, k) := by rw [← h2]; exact (if_neg c).symm
    cases h2'
    rcases hk with rfl | rfl
    · exact absurd rfl (hcell _ h1)
    · exact h1

theorem lookup_relabel_free {env : Env} : ∀ {names : List (Str × NameKind)} {x : Str}, names.lookup x = some .free →
    (names.map fun (n, k) => if (k == NameKind.free && env.scope.kind == .function && env.kindOf n == some .cell) then (n, NameKind.cell) else (n, k)).lookup x = some .cell ∨
    (names.map fun (n, k) => if (k == NameKind.free && env.scope.kind == .function && env.kindOf n == some .cell) then (n, NameKind.cell) else (n, k)).lookup x = some .free
  | [], _, h => by simp at h
  | (n, k) :: r, x, h => by
    have ih := @lookup_relabel_free env r x
    rw [List.map_cons]
    show List.lookup x ((if (k == NameKind.free && env.scope.kind == .function && env.kindOf n == some .cell) = true then (n, NameKind.cell) else (n, k)) :: _) = _ ∨ List.lookup x ((if (k == NameKind.free && env.scope.kind == .function && env.kindOf n == some .cell) = true then (n, NameKind.cell) else (n, k)) :: _) = _
    cases hx : x == n with
    | true =>
      simp only [List.lookup_cons, hx] at h
      cases h
      by_cases hc : (NameKind.free == NameKind.free && env.scope.kind == .function && env.kindOf n == some .cell) = true
      · rw [if_pos hc]; exact .inl (by simp only [List.lookup_cons, hx])
      · rw [if_neg hc]; exact .inr (by simp only [List.lookup_cons, hx])
    | false =>
      simp only [List.lookup_cons, hx] at h
      by_cases hc : (k == NameKind.free && env.scope.kind == .function && env.kindOf n == some .cell) = true
      · rw [if_pos hc]; simp only [List.lookup_cons, hx]; exact ih h
      · rw [if_neg hc]; simp only [List.lookup_cons, hx]; exact ih h

theorem Ixs.get {N : List Str} {sc cs : Scope} : ∀ {r : List Str} {ix : List Nat}, Ixs N sc cs r ix → ∀ {i : Nat} {y : Str}, r[i]? = some y →
    ∃ j, ix[i]? = some j ∧ N[j]? = some y ∧ (sc.names.lookup y = some .cell ∨ sc.names.lookup y = some .free) ∧ cs.names.lookup y = some .free
  | _, _, .nil, i, y, h => by simp at h
  | _, _, .cons h1 h2 h3 t, 0, y, h => by simp at h; subst h; exact ⟨_, rfl, h1, h2, h3⟩
  | _, _, .cons h1 h2 h3 t, i + 1, y, h => by
    obtain ⟨j, a, b⟩ := Ixs.get t (i := i) (y := y) (by simpa using h)
    exact ⟨j, by simpa using a, b⟩
theorem Ixs.len {N : List Str} {sc cs : Scope} : ∀ {r : List Str} {ix : List Nat}, Ixs N sc cs r ix → r.length = ix.length
  | _, _, .nil => rfl
  | _, _, .cons _ _ _ t => by rw [List.length_cons, List.length_cons, t.len]

section
variable {X : Cx} {pins : List (Addr × Obj)} {σ : St} {H : Hp} {s : Shared}
theorem Inv.compOk {N' r : List Str} {ix : List Nat} {x : Str} {cs : Scope} {cl : List (Str × Addr)} {fp : List Addr} (I : Inv X pins σ H s) (S : CompScope X.N X.env.scope N' ix x r cs)
    (h2 : ∀ y c, cl.lookup y = some c → X.env.cells.lookup y = some c) (h3 : ∀ y, (y, NameKind.free) ∈ cs.names → ∃ c, cl.lookup y = some c) (hf : ∀ b ∈ fp, FpOk X pins H b) (hfp : ∀ b ∈ fp, b < s.heap.objs.size) :
    (compCx X N' cs cl s H fp).Ok where
  mod := I.ok.mod
  kind := S.kind
  glob := I.ok.glob
  blt := I.ok.blt
  above := Nat.le_refl _
  inj := fun a b c ha hb => I.ok.inj a b c (h2 a c ha) (h2 b c hb)
  has := fun y hy => h3 y (hy.elim (fun z => relabel_free S.hcell z (.inl rfl)) fun z => relabel_free S.hcell z (.inr rfl))
  cab := fun _ _ z => nomatch z
  hd := I.ok.hd
  frames := I.ok.frames
  stk := .inl rfl
  exf := fun b hb => ⟨Nat.ne_of_lt (hfp b hb), fun y c e => (hf b hb).2.2.2.2.1 y c (h2 y c e)⟩
  bs := I.bs
  bsz := Nat.le_trans I.ok.bsz I.sz
  noex := fun b o e hb => by
    rcases (hf b hb).2.2.2.1 with z | z
    · exact I.ok.noex b o e z
    · exact absurd (Nat.lt_of_lt_of_le (Heap.lt_size e) (Nat.le_trans I.ok.bsz z)) (Nat.lt_irrefl _)
  exfs := fun b hb hs => by
    rcases List.mem_cons.mp (I.stkSub b hs) with z | z
    · exact (hf b hb).2.1 z
    · exact (hf b hb).2.2.1 z
  funs := I.stack
  frf := I.stkFree
theorem slotsAt_get {σ : St} {ix : List Nat} {i : Nat} {v : V} (h : (slotsAt σ ix)[i]? = some (some v)) : ∃ j, ix[i]? = some j ∧ σ[j]? = some (some v) := by
  unfold slotsAt at h
  rw [List.getElem?_map] at h
  cases e : ix[i]? with
  | none => rw [e] at h; cases h
  | some j =>
    rw [e] at h
    refine ⟨j, rfl, ?_⟩
    cases q : σ[j]? with
    | none =>
      have h' : ((σ[j]?).getD none) = some v := by simpa using h
      rw [q] at h'; cases h'
    | some o =>
      have h' : ((σ[j]?).getD none) = some v := by simpa using h
      rw [q] at h'
      cases o with
      | none => cases h'
      | some u => cases h'; rfl
theorem Inv.compStart {N' r : List Str} {ix : List Nat} {x : Str} {cs : Scope} {cl : List (Str × Addr)} {fp : List Addr} {h1 : Heap} {tk : Nat} {m : Str → Option Value} (I : Inv X pins σ H s) (S : CompScope X.N X.env.scope N' ix x r cs)
    (h2 : ∀ y c, cl.lookup y = some c → X.env.cells.lookup y = some c) (h3 : ∀ y, (y, NameKind.free) ∈ cs.names → ∃ c, cl.lookup y = some c) (hf : ∀ b ∈ fp, FpOk X pins H b) (hfp : ∀ b ∈ fp, b < s.heap.objs.size)
    (hn : h1.Ns s.heap.objs.size m) (hk : ∀ b o, s.heap.get? b = some o → h1.get? b = some o) :
    Inv (compCx X N' cs cl s H fp) [] (none :: slotsAt σ ix) H { s with heap := h1, toks := tk } := by
  have ok := I.compOk (N' := N') (fp := fp) S h2 h3 hf hfp
  obtain ⟨mo, hno, hlo⟩ := id I.loc
  refine ⟨ok, rfl, I.bare, Un.kept hk, ⟨m, hn, fun i y v e1 e2 e3 => ?_⟩, fun y c e => ?_, I.hok.fresh (Nat.le_refl _), fun y c e => I.freeC y c (h2 y c e), fun p hp => absurd (show p ∈ ([] : List (Addr × Obj)) from hp) (by simp), I.hok.kept hk, ?_⟩
  · cases i with
    | zero => cases e2
    | succ i =>
      have e1' : r[i]? = some y := by
        have : N'[i + 1]? = some y := e1
        rw [S.eq] at this
        simpa using this
      obtain ⟨j, j1, j2, j3, j4⟩ := S.ixs.get e1'
      obtain ⟨j', k1, k2⟩ := slotsAt_get (σ := σ) (ix := ix) (i := i) (v := v) (by simpa using e2)
      rw [j1] at k1; cases k1
      obtain ⟨u, ru, lk⟩ := hlo j y v j2 k2 (j3.elim (fun z => .inr (.inl z)) fun z => .inr (.inr z))
      refine ⟨u, ru, ?_⟩
      obtain ⟨c, hc⟩ := h3 y (PySem.mem_of_lookup j4)
      rcases lk with ⟨k, _⟩ | ⟨k, c', e', z⟩
      · have k' : X.env.scope.names.lookup y = some .local := k
        rcases j3 with q | q <;> (rw [q] at k'; cases k')
      · rw [h2 y c hc] at e'
        cases e'
        refine .inr ⟨?_, c, hc, ?_⟩
        · exact lookup_relabel_free (env := X.env) j4
        · obtain ⟨o, ho, hd⟩ := z
          exact ⟨o, hk c o ho, hd⟩
  · obtain ⟨v, o, ho, hd⟩ := I.cell y c (h2 y c e)
    exact ⟨v, o, hk c o ho, hd⟩
  · show (none :: slotsAt σ ix).length = N'.length
    rw [S.eq, List.length_cons, List.length_cons, S.ixs.len]
    unfold slotsAt
    rw [List.length_map]

/-- the tests of a comprehension's clause -/
def PTs (X : Cx) (ifs : List Expr) (t : TT) : Prop :=
  ∀ (E : Value → Shared → Prop) (pins : List (Addr × Obj)) (s : Shared) (σ : St) (H : Hp) (Q : Bool → Hp → Prop), (∀ e s', X.xe e s' → E e s') → Inv X pins σ H s → t σ H Q →
    wpAny (model X.prog X.w) X.A (forIn ifs true fun c r => if r = true then do let ok ← isTrue c X.env (eval c X.env); pure (ForInStep.yield ok) else pure (ForInStep.yield r)) (TP X pins σ Q) E s
def tNoIf : TT := fun _ H Q => Q true H
theorem pts_nil {X : Cx} : PTs X [] tNoIf := fun _ _ _ _ H _ _ I h => wpAny_tests_nil ⟨H, I, h⟩
theorem pts_one {X : Cx} {c : Expr} {t : TT} (h : PT X c t) : PTs X [c] t := fun _ pins s σ H Q hE I q => wpAny_tests_one (wpAny_mono (h pins s σ H Q I q) (fun _ _ z => z) hE)

/-- how a comprehension goes: W by the turn, a measure, the items so far, the heap; Nx, Nn: what the element, a failed test are to reach -/
def CompGo (J : It) (ρ : St) (g : TG) (tt : TT) (te : TE) (acc : Addr) (Z : Hp → Prop) (H1 : Hp) : Prop :=
  ∃ W : Nat → Nat → List V → Hp → Prop, (∃ m, W 0 m [] (upd H1 acc (.lst []))) ∧ ∀ i m xs H, W i m xs H →
    ((J.stop i H ∧ Z H) ∨ (J.go i H ∧ ∃ (Nx : V → Hp → Prop) (Nn : Hp → Prop), (∀ y H4, Nx y H4 → H4 acc = some (.lst xs) ∧ xs.length < sizeLine ∧ ∃ m', m' < m ∧ W (i + 1) m' (xs ++ [y]) (upd H4 acc (.lst (xs ++ [y])))) ∧
      (∀ H3, Nn H3 → ∃ m', m' < m ∧ W (i + 1) m' xs H3) ∧ ∀ v0 x H', J.yld i H x H' → g x (v0 :: ρ) H' fun σ2 H2 => (∃ v, σ2 = v :: ρ) ∧ tt σ2 H2 fun b H3 => if b = true then te σ2 H3 Nx else Nn H3))

theorem comp_core {N' r : List Str} {ix : List Nat} {x : Str} {cs : Scope} {cl : List (Str × Addr)} {tg iter elt : Expr} {ifs : List Expr} {pos : Pos} {J : It} {fp : List Addr} {it : Addr} {tn : Nat → Heap → Prop} {g : TG} {tt : TT} {te : TE} {Z : Addr → Hp → Prop}
    {RR : Value → Addr → Result → Shared → Prop} {E : Value → Shared → Prop}
    (I : Inv X pins σ H s) (hc : X.calm = true) (S : CompScope X.N X.env.scope N' ix x r cs) (h2 : ∀ y c, cl.lookup y = some c → X.env.cells.lookup y = some c) (h3 : ∀ y, (y, NameKind.free) ∈ cs.names → ∃ c, cl.lookup y = some c)
    (T : Turn X.prog X.w X.K tg J fp it tn) (st : tn 0 s.heap) (hf : ∀ b ∈ fp, FpOk X pins H b)
    (hg : ∀ s3 H3, PG (compCx X N' cs cl s3 H3 fp) tg g) (ht : ∀ s3 H3, PTs (compCx X N' cs cl s3 H3 fp) ifs tt) (he : ∀ s3 H3, PE (compCx X N' cs cl s3 H3 fp) elt te)
    (go : ∀ acc, H acc = none → CompGo J (slotsAt σ ix) g tt te acc (Z acc) H)
    (fin : ∀ acc C s' H' m, Inv X pins σ H' s' → FpOk X pins H' C → s'.heap.Ns C m → Z acc H' → RR (.ref acc) C (.ok .next) s') :
    wpAny (model X.prog X.w) X.A (newList []) (fun acc s₃ => wpAny (model X.prog X.w) X.A (newFunctionEnv cs X.env.globals cl [] X.env.qual none .none (some X.env)) (fun cenv s₄ =>
      codeAny (model X.prog X.w) X.A (.compStart (.ListComp elt [⟨tg, iter, ifs, 0⟩] cs pos) 0 (.ref it) acc { cenv with scope := relabel cs X.env }) (RR acc cenv.locals) s₄) E s₃) E s := by
  refine wpAny_newObj_type (wpAny_newFunctionEnv S.hcell (by intro y hy; simp at hy) (fun h₁ hns₁ hsb₁ => ?_) S.kind)
  dsimp only at hns₁ hsb₁ ⊢
  have hfs : ∀ b ∈ fp, b < s.heap.objs.size := fun b hb => by
    obtain ⟨o, e, _⟩ := T.obj _ _ st b hb
    exact Heap.lt_size e
  have I3 : Inv X pins σ (upd H s.heap.objs.size (.lst [])) { s with heap := s.heap.push { cls := .type "list", data := .seq ([] : List Value).toArray } } := I.lnew (its := []) (t' := s.toks) .nil (Nat.zero_le _)
  have nacc : H s.heap.objs.size = none := I.fresh
  have hf3 : ∀ b ∈ fp, FpOk X pins (upd H s.heap.objs.size (.lst [])) b := fun b hb => ⟨by rw [upd_ne (Nat.ne_of_lt (hfs b hb))]; exact (hf b hb).1, (hf b hb).2⟩
  have hfs3 : ∀ b ∈ fp, b < (s.heap.push { cls := .type "list", data := .seq ([] : List Value).toArray }).objs.size := fun b hb => by
    rw [Heap.size_push]; exact Nat.lt_succ_of_lt (hfs b hb)
  generalize hs3 : ({ s with heap := s.heap.push { cls := .type "list", data := .seq ([] : List Value).toArray } } : Shared) = s3 at I3
  generalize hH3 : upd H s.heap.objs.size (.lst []) = H3 at I3 hf3
  have eh : s.heap.push { cls := .type "list", data := .seq ([] : List Value).toArray } = s3.heap := by rw [← hs3]
  rw [eh] at hns₁ hsb₁ hfs3
  have kp : ∀ b o, s3.heap.get? b = some o → h₁.get? b = some o := fun b o e => hsb₁.extBut b o (Nat.ne_of_lt (Heap.lt_size e)) (Heap.get?_push_of_some _ e)
  have I4 : Inv (compCx X N' cs cl s3 H3 fp) [] (none :: slotsAt σ ix) H3 { s3 with heap := h₁, toks := s3.toks + ([] : List (Str × Value)).length } :=
    I3.compStart S h2 h3 hf3 hfs3 hns₁ kp
  have kp2 : ∀ b o, s.heap.get? b = some o → h₁.get? b = some o := fun b o e => kp b o (by rw [← eh]; exact Heap.get?_push_of_some _ e)
  have st4 : tn 0 h₁ := T.keep _ _ _ st fun b hb o e => kp2 b o e
  obtain ⟨W, ⟨m0, w0⟩, turn⟩ := go s.heap.objs.size nacc
  rw [hH3] at w0
  have stat : ∀ {H' : Hp}, (∀ b ∈ fp, H' b = none) → ∀ b ∈ fp, FpOk (compCx X N' cs cl s3 H3 fp) [] H' b := fun hn b hb =>
    ⟨hn b hb, Nat.ne_of_lt (hfs3 b hb), fun hs => by
      rcases List.mem_cons.mp (I.stkSub b hs) with z | z
      · exact (hf b hb).2.1 z
      · exact (hf b hb).2.2.1 z, .inl hb, fun y c e => (hf b hb).2.2.2.2.1 y c (h2 y c e), fun p hp => absurd (show p ∈ ([] : List (Addr × Obj)) from hp) (by simp)⟩
  have es : s3.heap.objs.size = s.heap.objs.size + 1 := by rw [← eh, Heap.size_push]
  have loop : codeAny (model X.prog X.w) X.A (.compLoop (.ListComp elt [⟨tg, iter, ifs, 0⟩] cs pos) 0 (.ref it) (.ref s.heap.objs.size) (compCx X N' cs cl s3 H3 fp).env)
      (RR (.ref s.heap.objs.size) s3.heap.objs.size) { s3 with heap := h₁, toks := s3.toks + ([] : List (Str × Value)).length } := by
    refine compLoop_any (fun n s' => ∃ i v0 H' xs, Inv (compCx X N' cs cl s3 H3 fp) [] (v0 :: slotsAt σ ix) H' s' ∧ tn i s'.heap ∧ (∀ b ∈ fp, H' b = none) ∧ W i n xs H') ?_ m0
      ⟨0, none, H3, [], I4, st4, fun b hb => (hf3 b hb).1, w0⟩
    rintro n s5 ⟨i, v0, H5, xs, I5, st5, fr5, w5⟩
    rcases turn i n xs H5 w5 with ⟨stop, q⟩ | ⟨hgo, Nx, Nn, hNx, hNn, step⟩
    · refine thn (T.done (compCx X N' cs cl s3 H3 fp) rfl rfl rfl hc i [] s5 _ H5 _ I5 (stat fr5) st5 stop) fun r' s6 ⟨hr, I6⟩ => ?_
      subst hr
      have u : Un (frs X.stack) fp H H5 s.heap s6.heap := by
        refine Un.trans (H1 := H3) (h1 := s3.heap) ?_ I6.base
        rw [← hH3, ← eh]
        exact Un.laid (fun _ _ q => Heap.get?_push_of_some _ q) (Nat.le_refl _) nacc
      have e3 : s3.os = s.os := by rw [← hs3]
      have os6 : s6.os = s.os := I6.os.trans e3
      have J6 : Inv X pins σ H5 s6 := I.call' os6 u I6.hok I6.bare fun b hb => ⟨(hf b hb).2.2.2.1, (hf b hb).2.1, (hf b hb).2.2.2.2.1, (hf b hb).2.2.2.2.2⟩
      obtain ⟨m6, n6, _⟩ := I6.loc
      exact fin _ _ s6 H5 m6 J6 (I.fpOk (by rw [es]; exact Nat.le_succ _) I6.free) n6 q
    · refine thn (T.item (compCx X N' cs cl s3 H3 fp) rfl rfl rfl hc i [] s5 _ H5 _ I5 (stat fr5) st5 hgo) fun r' s6 ⟨u, hr, h6⟩ => ?_
      subst hr
      refine thn h6 fun _ s7 ⟨y, H7, I7, r7, y7, st7, fr7⟩ => ?_
      have I7' := I7.pinned (stat fr7) (T.obj _ _ st7)
      refine wpAny_mono (hg s3 H3 _ s7 _ H7 y u _ I7' r7 (step v0 y H7 y7)) (fun _ s8 ⟨σ8, H8, I8, ⟨v8, e8⟩, q8⟩ => ?_) fun _ _ z => z.elim
      subst e8
      have back : ∀ {s9 : Shared} {H9 : Hp} {m' : Nat} {xs' : List V}, Inv (compCx X N' cs cl s3 H3 fp) ([] ++ pinsAt fp s7.heap) (v8 :: slotsAt σ ix) H9 s9 → m' < n → W (i + 1) m' xs' H9 →
          ∃ m, m < n ∧ ∃ i v0 H' xs, Inv (compCx X N' cs cl s3 H3 fp) [] (v0 :: slotsAt σ ix) H' s9 ∧ tn i s9.heap ∧ (∀ b ∈ fp, H' b = none) ∧ W i m xs H' := fun {s9 H9 m' xs'} I9 hm w9 =>
        ⟨m', hm, i + 1, v8, H9, xs', I9.unpinned, T.keep _ _ _ st7 fun b hb o e => (I9.pin (b, o) (List.mem_append_right _ (List.mem_append_right _ (mem_pinsAt hb e)))).1, fun b hb => by
          obtain ⟨o, e, d⟩ := T.obj _ _ st7 b hb
          exact (I9.pin (b, o) (List.mem_append_right _ (List.mem_append_right _ (mem_pinsAt hb e)))).2.1, w9⟩
      refine thn (ht s3 H3 _ _ s8 _ H8 _ (fun _ _ z => z.elim) I8 q8) fun b s9 ⟨H9, I9, q9⟩ => ?_
      cases b with
      | false =>
        rw [if_neg Bool.false_ne_true] at q9 ⊢
        obtain ⟨m', hm, w9⟩ := hNn H9 q9
        exact back I9 hm w9
      | true =>
        rw [if_pos rfl] at q9 ⊢
        refine wpAny_mono (he s3 H3 _ s9 _ H9 _ I9 q9) (fun u2 s10 ⟨y2, H10, I10, r10, q10⟩ => ?_) fun _ _ z => z.elim
        obtain ⟨a10, z10, m', hm, w10⟩ := hNx y2 H10 q10
        refine wpAny_mono (mt_append (X := compCx X N' cs cl s3 H3 fp) _ s10 _ H10 (.ref s.heap.objs.size) [y2] (.ref s.heap.objs.size) [u2] (fun _ H' => H' = upd H10 s.heap.objs.size (.lst (xs ++ [y2]))) I10 rfl (.cons r10 .nil) ⟨_, xs, y2, rfl, rfl, a10, z10, rfl⟩) (fun _ s11 ⟨_, H11, I11, _, e11⟩ => ?_) fun _ _ z => z.elim
        subst e11
        exact back I11 hm w10
  subst hs3
  exact codeAny_compStart_list loop (T.self X.A 0 _ _ _ st4 loop)
end

section
variable {X : Cx} {N' r : List Str} {ix : List Nat} {x : Str} {cs : Scope} {tg iter elt : Expr} {ifs : List Expr} {pos : Pos} {wi : TI} {g : TG} {tt : TT} {te : TE}
/-- [elt for tg in iter if ..] -/
def tComp (wi : TI) (ix : List Nat) (g : TG) (tt : TT) (te : TE) : TE := fun σ H Q => wi σ H fun J H1 => ∀ acc, H1 acc = none → CompGo J (slotsAt σ ix) g tt te acc (fun H' => Q (.ref acc) H') H1
theorem CompScope.clos {sc : Scope} {N : List Str} (S : CompScope N sc N' ix x r cs) {env : Env} (he : env.scope = sc) (has : ∀ y, (env.kindOf y = some .cell ∨ env.kindOf y = some .free) → ∃ c, env.cells.lookup y = some c) :
    ∃ cl : List (Str × Addr), closureFor cs env = pure cl ∧ (∀ y c, cl.lookup y = some c → env.cells.lookup y = some c) ∧ (∀ y, (y, NameKind.free) ∈ cs.names → ∃ c, cl.lookup y = some c) :=
  closure_ok fun y hy hk => has y.1 (by
    subst he
    exact S.fr y hy hk)
theorem pe_comp (hc : X.calm = true) (S : CompScope X.N X.env.scope N' ix x r cs) (hi : PI X tg iter wi)
    (hg : ∀ cl s3 H3 fp, PG (compCx X N' cs cl s3 H3 fp) tg g) (ht : ∀ cl s3 H3 fp, PTs (compCx X N' cs cl s3 H3 fp) ifs tt) (he : ∀ cl s3 H3 fp, PE (compCx X N' cs cl s3 H3 fp) elt te)
    (hs : ∀ x, foldedSetIterable iter X.env x = pure x := by intro _; rfl) : PE X (.ListComp elt [⟨tg, iter, ifs, 0⟩] cs pos) (tComp wi ix g tt te) := by
  intro pins s σ H Q I h
  obtain ⟨cl, c1, c2, c3⟩ := S.clos rfl I.ok.has
  rw [eval_ListComp]
  refine wpAny_comprehension_free (use := none) rfl hs c1 S.kind S.hnames (thn (hi pins s σ H _ I h) fun v s1 h1 => thn h1 fun itv s2 h2 => ?_)
  obtain ⟨it, fp, tn, J, H2, e, I2, T, st2, f2, R⟩ := h2
  subst e
  refine comp_core (RR := fun acc C => compPost (model X.prog X.w) X.A X.xe none (EP X pins σ Q) acc C) I2 hc S c2 c3 T st2 f2 (fun s3 H3 => hg cl s3 H3 fp) (fun s3 H3 => ht cl s3 H3 fp) (fun s3 H3 => he cl s3 H3 fp) R ?_
  intro acc C s' H' m I' fC hn q
  refine ⟨m, hn, fun h' hb => ⟨.ref acc, H', ?_, rfl, q⟩⟩
  exact I'.turned (t' := s'.toks) (fun b o hne e => (hb.2 b hne).trans e) fC.1 fC.2.1 fC.2.2.2.1 fC.2.2.2.2.1 fC.2.2.2.2.2
/-- y = [elt for tg in iter if ..], y a plain local -/
theorem ps_setComp {i : Nat} {y : Str} {py spos : Pos} (hc : X.calm = true) (hN : X.N.Nodup) (hiN : X.N[i]? = some y) (hy : X.env.scope.names.lookup y = some .local) (S : CompScope X.N X.env.scope N' ix x r cs) (hi : PI X tg iter wi)
    (hg : ∀ cl s3 H3 fp, PG (compCx X N' cs cl s3 H3 fp) tg g) (ht : ∀ cl s3 H3 fp, PTs (compCx X N' cs cl s3 H3 fp) ifs tt) (he : ∀ cl s3 H3 fp, PE (compCx X N' cs cl s3 H3 fp) elt te)
    (hsw : swapsWith (.ListComp elt [⟨tg, iter, ifs, 0⟩] cs pos) (some (.Name y py)) spos.line X.env = pure true := by rfl)
    (hs : ∀ x, foldedSetIterable iter X.env x = pure x := by intro _; rfl) : PS X (.Assign [.Name y py] (.ListComp elt [⟨tg, iter, ifs, 0⟩] cs pos) spos) (tAsg (tComp wi ix g tt te) (gName i)) := by
  intro pins s σ H D I h
  obtain ⟨cl, c1, c2, c3⟩ := S.clos rfl I.ok.has
  rw [exec_Assign_Name_used _ _ _ _ hsw]
  refine wpAny_bind (wpAny_standAt (wpAny_bind ?_))
  show wpAny _ X.A (do let _ ← comprehension (.ListComp elt [⟨tg, iter, ifs, 0⟩] cs pos) cs X.env _ (newList []) false (eval iter X.env) (some (assign (.Name y py) X.env))) _ _ s
  refine wpAny_bind (wpAny_mono (wpAny_comprehension_free (use := some (assign (.Name y py) X.env)) (Q := fun _ s' => SP X pins D .next s') rfl hs c1 S.kind S.hnames
    (thn (hi pins s σ H _ I h) fun v s1 h1 => thn h1 fun itv s2 h2 => ?_)) (fun _ s' hq => wpAny_pure (wpAny_pure hq)) fun _ _ e => e)
  obtain ⟨it, fp, tn, J, H2, e, I2, T, st2, f2, R⟩ := h2
  subst e
  refine comp_core (RR := fun acc C => compPost (model X.prog X.w) X.A X.xe (some (assign (.Name y py) X.env)) (fun _ s' => SP X pins D .next s') acc C) I2 hc S c2 c3 T st2 f2 (fun s3 H3 => hg cl s3 H3 fp) (fun s3 H3 => ht cl s3 H3 fp) (fun s3 H3 => he cl s3 H3 fp) R ?_
  intro acc C s' H' m I' fC hn q
  show wpAny _ X.A (assign (.Name y py) X.env (.ref acc)) _ _ _
  refine wpAny_assign_Name (store_ok2 (v := .ref acc) I' hN hiN (.inl hy) rfl (fun s'' I'' ⟨a, hb, ha⟩ => ?_) (.inr hy))
  have hCa : C ≠ a := fun z => by
    rcases ha with ha | ha
    · exact fC.2.1 (z.trans ha)
    · exact fC.2.2.2.2.1 y a ha z.symm
  refine ⟨m, hn.sameBut hb hCa, fun h' hb' => ⟨_, H', ?_, q⟩⟩
  exact I''.turned (t' := s''.toks) (fun b o hne e => (hb'.2 b hne).trans e) fC.1 fC.2.1 fC.2.2.2.1 fC.2.2.2.2.1 fC.2.2.2.2.2
end

/-! ### the forms one uses -/
section
variable {ρ : St} {g : TG} {tt : TT} {te : TE} {acc : Addr} {Z : Hp → Prop} {H1 : Hp}
/-- over a range: Pv by the turn, the items so far, the heap; nothing is left out -/
theorem comp_range {lo : Int} {n : Nat} (Pv : Nat → List V → Hp → Prop) (h0 : Pv 0 [] (upd H1 acc (.lst [])))
    (hs : ∀ i xs H, i < n → Pv i xs H → te (some (.int (lo + i)) :: ρ) H fun y H4 => H4 acc = some (.lst xs) ∧ xs.length < sizeLine ∧ Pv (i + 1) (xs ++ [y]) (upd H4 acc (.lst (xs ++ [y]))))
    (hd : ∀ xs H, Pv n xs H → Z H) : CompGo (Itr lo n) ρ (gName 0) tNoIf te acc Z H1 := by
  refine ⟨fun i m xs H => Pv i xs H ∧ i ≤ n ∧ m = n - i, ⟨n, h0, Nat.zero_le _, rfl⟩, ?_⟩
  rintro i m xs H ⟨hp, hi, rfl⟩
  by_cases hlt : i < n
  · refine .inr ⟨hlt, (fun y H4 => H4 acc = some (.lst xs) ∧ xs.length < sizeLine ∧ Pv (i + 1) (xs ++ [y]) (upd H4 acc (.lst (xs ++ [y])))), fun _ => False, fun y H4 q => ⟨q.1, q.2.1, n - (i + 1), by omega, q.2.2, hlt, rfl⟩, fun _ z => z.elim, ?_⟩
    rintro v0 x H' ⟨rfl, rfl⟩
    exact ⟨⟨_, rfl⟩, by simp only [tNoIf, if_true]; exact hs i xs H' hlt hp⟩
  · have : i = n := by omega
    subst this
    exact .inl ⟨Nat.le_refl _, hd xs H hp⟩
/-- over a tuple that stays -/
theorem comp_tup {K : PySem.W.Frag} {a : Addr} {zs : List V} (Pv : Nat → List V → Hp → Prop) (h0 : Pv 0 [] (upd H1 acc (.lst []))) (hl : ∀ i xs H, i ≤ zs.length → Pv i xs H → SqT K H a zs)
    (hs : ∀ i z xs H, zs[i]? = some z → Pv i xs H → te (some z :: ρ) H fun y H4 => H4 acc = some (.lst xs) ∧ xs.length < sizeLine ∧ Pv (i + 1) (xs ++ [y]) (upd H4 acc (.lst (xs ++ [y]))))
    (hd : ∀ xs H, Pv zs.length xs H → Z H) : CompGo (Itt K a) ρ (gName 0) tNoIf te acc Z H1 := by
  refine ⟨fun i m xs H => Pv i xs H ∧ i ≤ zs.length ∧ m = zs.length - i, ⟨zs.length, h0, Nat.zero_le _, rfl⟩, ?_⟩
  rintro i m xs H ⟨hp, hi, rfl⟩
  have sq := hl i xs H hi hp
  by_cases hlt : i < zs.length
  · refine .inr ⟨⟨zs, zs[i], sq, List.getElem?_eq_getElem hlt⟩, (fun y H4 => H4 acc = some (.lst xs) ∧ xs.length < sizeLine ∧ Pv (i + 1) (xs ++ [y]) (upd H4 acc (.lst (xs ++ [y])))), fun _ => False, fun y H4 q => ⟨q.1, q.2.1, zs.length - (i + 1), by omega, q.2.2, hlt, rfl⟩, fun _ z => z.elim, ?_⟩
    rintro v0 x H' ⟨rfl, hx⟩
    exact ⟨⟨_, rfl⟩, by simp only [tNoIf, if_true]; exact hs i x xs H' (hx zs sq) hp⟩
  · have : i = zs.length := by omega
    subst this
    exact .inl ⟨⟨zs, sq, Nat.le_refl _⟩, hd xs H hp⟩
/-- over a list that stays -/
theorem comp_list {K : PySem.W.Frag} {a : Addr} {zs : List V} (Pv : Nat → List V → Hp → Prop) (h0 : Pv 0 [] (upd H1 acc (.lst []))) (hl : ∀ i xs H, i ≤ zs.length → Pv i xs H → SqL K H a zs)
    (hs : ∀ i z xs H, zs[i]? = some z → Pv i xs H → te (some z :: ρ) H fun y H4 => H4 acc = some (.lst xs) ∧ xs.length < sizeLine ∧ Pv (i + 1) (xs ++ [y]) (upd H4 acc (.lst (xs ++ [y]))))
    (hd : ∀ xs H, Pv zs.length xs H → Z H) : CompGo (Itl K a) ρ (gName 0) tNoIf te acc Z H1 := by
  refine ⟨fun i m xs H => Pv i xs H ∧ i ≤ zs.length ∧ m = zs.length - i, ⟨zs.length, h0, Nat.zero_le _, rfl⟩, ?_⟩
  rintro i m xs H ⟨hp, hi, rfl⟩
  have sq := hl i xs H hi hp
  by_cases hlt : i < zs.length
  · refine .inr ⟨⟨zs, zs[i], sq, List.getElem?_eq_getElem hlt⟩, (fun y H4 => H4 acc = some (.lst xs) ∧ xs.length < sizeLine ∧ Pv (i + 1) (xs ++ [y]) (upd H4 acc (.lst (xs ++ [y])))), fun _ => False, fun y H4 q => ⟨q.1, q.2.1, zs.length - (i + 1), by omega, q.2.2, hlt, rfl⟩, fun _ z => z.elim, ?_⟩
    rintro v0 x H' ⟨rfl, hx⟩
    exact ⟨⟨_, rfl⟩, by simp only [tNoIf, if_true]; exact hs i x xs H' (hx zs sq) hp⟩
  · have : i = zs.length := by omega
    subst this
    exact .inl ⟨⟨zs, sq, Nat.le_refl _⟩, hd xs H hp⟩
end
end L2
/-! EXTENSION B of the hand layer: great ints, isinstance, == of data, all, max, sum of a list, bit_length. -/
namespace L2
open PySem PySem.Spec PyProof.Rows
section
variable {X : Cx}
/-! ### great ints -/
theorem intBits_le {k : Int} {n : Nat} (h : k.natAbs < 2 ^ n) : Builtin.Int.intBits k ≤ n := by
  unfold Builtin.Int.intBits
  split
  · exact Nat.zero_le _
  · rename_i h0
    have hk : k.natAbs ≠ 0 := by
      intro z
      apply h0
      have : k = 0 := Int.natAbs_eq_zero.mp z
      subst this
      rfl
    have : k.natAbs.log2 < n := (Nat.log2_lt hk).mpr h
    omega
/-- below so many bits products are made -/
def Fit (i : Int) : Prop := i.natAbs < 2 ^ 8000
theorem Fit.mul {i j : Int} (hi : Fit i) (hj : Fit j) : IntMulOk i j := by
  have h1 := intBits_le hi
  have h2 := intBits_le hj
  unfold IntMulOk
  intro h
  have h3 := (Bool.and_eq_true_iff.mp h).2
  unfold Builtin.Int.intTooBig at h3
  have h4 := of_decide_eq_true h3
  have h5 : (bitsLine : Int) = 134217728 := by decide
  omega
theorem op_mulB : OpR X (binaryOp .Mult) (rI (fun i j => Fit i ∧ Fit j) fun i j => .int (i * j)) := opI fun _ _ _ _ _ _ _ hc q => mul_int q (hc.1.mul hc.2)
theorem Fit.log {i : Int} (h : Fit i) : i.natAbs.log2 < 9000 := by
  by_cases h0 : i.natAbs = 0
  · rw [h0]; decide +kernel
  · have := (Nat.log2_lt h0).mpr h
    omega
theorem op_fdivB : OpR X (binaryOp .FloorDiv) (rI (fun _ j => 0 < j ∧ Fit j) fun i j => .int (i / j)) := opI fun i j _ _ _ _ _ hc q => by
  have h1 : (0 : Int) < j := hc.1
  exact floordiv_int (by omega) (by rw [Int.fdiv_eq_ediv_of_nonneg i (by omega)]; exact q) (.inl (PyProof.noPylong_of_log2 hc.2.log))
theorem Fit.of {i : Int} {n : Nat} (h : i.natAbs < 2 ^ n) (hn : n ≤ 8000 := by decide) : Fit i := Nat.lt_of_lt_of_le h (Nat.pow_le_pow_right (by decide) hn)

/-! ### isinstance(x, T) -/
theorem call_isinst : CallR X (.builtin "isinstance") (fun xs H Q => ∃ x c t b, xs = [x, .ty c] ∧ TyOf X.K H x t ∧ PySem.W.kitOne X.K t (.type c) = some b ∧ Q (.bl b) H) := by
  intro pins s σ H xs us Q I r h
  obtain ⟨x, c, t, b, rfl, ty, e, q⟩ := h
  obtain ⟨u, w', rfl, r1, r2⟩ := vals2 r
  cases r2
  exact isinst_ok I r1 ty e fun tk => ⟨.bl b, H, I.tok tk, rfl, q⟩
/-! ### data: lists and tuples of scalars and of one another -/
mutual
inductive Rds (K : PySem.W.Frag) (H : Hp) : V → PyData → Prop
  | non : Rds K H .non .none
  | bl (b : Bool) : Rds K H (.bl b) (.bool b)
  | int (i : Int) : Rds K H (.int i) (.int i)
  | str (x : Str) : Rds K H (.str x) (.str x)
  | lst {a : Addr} {xs : List V} {ds : List PyData} (h : SqL K H a xs) (t : RdsAll K H xs ds) : Rds K H (.ref a) (.list ds)
  | tup {a : Addr} {xs : List V} {ds : List PyData} (h : SqT K H a xs) (t : RdsAll K H xs ds) : Rds K H (.ref a) (.tuple ds)
inductive RdsAll (K : PySem.W.Frag) (H : Hp) : List V → List PyData → Prop
  | nil : RdsAll K H [] []
  | cons {v : V} {vs : List V} {d : PyData} {ds : List PyData} (h : Rds K H v d) (t : RdsAll K H vs ds) : RdsAll K H (v :: vs) (d :: ds)
end
mutual
theorem Rds.reads {pins : List (Addr × Obj)} {σ : St} {H : Hp} {s : Shared} (I : Inv X pins σ H s) : ∀ {x : V} {d : PyData} {u : Value}, Rds X.K H x d → RelV x u → ∃ as, Reads s.heap u d as
  | _, _, _, .non, r => by cases r; exact ⟨_, .none⟩
  | _, _, _, .bl b, r => by cases r; exact ⟨_, .bool b⟩
  | _, _, _, .int i, r => by obtain ⟨t, rfl⟩ := r; exact ⟨_, .int i t⟩
  | _, _, _, .str x, r => by obtain ⟨t, rfl⟩ := r; exact ⟨_, .str x t⟩
  | _, _, _, .lst h t, r => by
    cases r
    obtain ⟨its, rv, pl, _⟩ := I.list h
    obtain ⟨o, ho, hc, n, hd⟩ := pl.isList
    obtain ⟨as, q⟩ := RdsAll.reads I t rv
    exact ⟨_, .list ho hc hd q⟩
  | _, _, _, .tup h t, r => by
    cases r
    obtain ⟨its, rv, pl, _⟩ := I.tuple h
    obtain ⟨o, ho, hc, n, hd⟩ := pl
    obtain ⟨as, q⟩ := RdsAll.reads I t rv
    exact ⟨_, .tuple ho hc hd q⟩
theorem RdsAll.reads {pins : List (Addr × Obj)} {σ : St} {H : Hp} {s : Shared} (I : Inv X pins σ H s) : ∀ {xs : List V} {ds : List PyData} {us : List Value}, RdsAll X.K H xs ds → Vals xs us → ∃ as, ReadsAll s.heap us ds as
  | _, _, _, .nil, r => by cases r; exact ⟨_, .nil⟩
  | _, _, _, .cons h t, r => by
    cases r with
    | cons r1 r2 =>
      obtain ⟨as, q1⟩ := Rds.reads I h r1
      obtain ⟨bs, q2⟩ := RdsAll.reads I t r2
      exact ⟨_, .cons q1 q2⟩
end
theorem RdsAll.ints {K : PySem.W.Frag} {H : Hp} : ∀ ns : List Int, RdsAll K H (ns.map V.int) (ns.map PyData.int)
  | [] => .nil
  | n :: r => .cons (.int n) (RdsAll.ints r)
def rEqD (K : PySem.W.Frag) (neg : Bool) : R2 := fun x y H Q => ∃ dx dy, Rds K H x dx ∧ Rds K H y dy ∧ SeqAt.shaped dx = true ∧ SeqAt.shaped dy = true ∧ Q (.bl (if neg then !PyData.eqv dx dy else PyData.eqv dx dy)) H
theorem op_eqD (hu : X.A.units + 64 < cLine) : OpR X (compareOp .Eq) (rEqD X.K false) := by
  intro pins s σ H x y v u Q I rx ry ⟨dx, dy, hx, hy, sx, sy, q⟩
  obtain ⟨as, ra⟩ := hx.reads I rx
  obtain ⟨bs, rb⟩ := hy.reads I ry
  exact eq_dataH ra rb sx sy hu ⟨.bl _, H, I, rfl, q⟩
theorem op_neD (hu : X.A.units + 64 < cLine) : OpR X (compareOp .NotEq) (rEqD X.K true) := by
  intro pins s σ H x y v u Q I rx ry ⟨dx, dy, hx, hy, sx, sy, q⟩
  obtain ⟨as, ra⟩ := hx.reads I rx
  obtain ⟨bs, rb⟩ := hy.reads I ry
  exact ne_dataH ra rb sx sy hu ⟨.bl _, H, I, rfl, q⟩

/-! ### all, max, sum of a list -/
theorem call_all_bools (hc : X.calm = true) : CallR X (.builtin "all") (fun xs H Q => ∃ (a : Addr) (bs : List Bool), xs = [.ref a] ∧ SqL X.K H a (bs.map V.bl) ∧ Q (.bl (bs.all id)) H) := by
  intro pins s σ H xs us Q I r h
  obtain ⟨a, bs, rfl, hq, q⟩ := h
  obtain ⟨u, rfl, rx⟩ := vals1 r
  cases rx
  obtain ⟨its, rv, pl, hz⟩ := I.list hq
  have hl := pl.isList
  have hlt : a < s.heap.objs.size := by obtain ⟨_, e, _⟩ := hl; exact Heap.lt_size e
  refine call_all_walk (wpAny_pyIter_list hl ?_)
  refine ⟨_, [s.heap.objs.size, a], [s.heap.objs.size], _, _, _, fun i => (bs[i]?).getD true, rfl, Walks.list (A := X.A.in1) (I.ok.hd hc) _ a (Nat.ne_of_lt hlt) its.toArray, ⟨⟨_, Heap.get?_push_size _ rfl, rfl, rfl⟩, hl.push _⟩, ?_, ?_⟩
  · intro i v s' Q' E' hP hQ
    have hP' : its[i]? = some v := by simpa using hP
    have hb : ∃ b, bs[i]? = some b ∧ v = Value.bool b := by
      cases e : bs[i]? with
      | none =>
        have l1 : its.length = (bs.map V.bl).length := rv.length.symm
        rw [List.length_map] at l1
        have l2 := List.getElem?_eq_none_iff.mp e
        have l3 := (List.getElem?_eq_some_iff.mp hP').1
        omega
      | some b =>
        obtain ⟨u, e1, e2⟩ := rv.get (i := i) (x := V.bl b) (by rw [List.getElem?_map, e]; rfl)
        rw [e1] at hP'
        cases hP'
        exact ⟨b, rfl, e2⟩
    obtain ⟨b, eb, rfl⟩ := hb
    have hQ2 : Q' ((bs[i]?).getD true) s' := hQ
    rw [eb] at hQ2
    exact wpAny_truthy_bool hQ2
  · intro h' tk hk
    have kp : ∀ b o, s.heap.get? b = some o → h'.get? b = some o := fun b o e => hk b o (fun hm => by
      rcases List.mem_cons.mp hm with e1 | hm
      · exact absurd (e1 ▸ Heap.lt_size e) (Nat.lt_irrefl _)
      · cases hm) (Heap.get?_push_of_some _ e)
    refine ⟨.bl _, H, I.kept kp, rfl, ?_⟩
    have l1 : its.length = bs.length := by rw [← rv.length, List.length_map]
    have ea : (List.range its.toArray.size).all (fun i => (bs[i]?).getD true) = bs.all id := by
      rw [List.size_toArray, l1, Bool.eq_iff_iff, List.all_eq_true, List.all_eq_true]
      constructor
      · intro h b hb
        obtain ⟨i, hi, e⟩ := List.mem_iff_getElem.mp hb
        have z := h i (List.mem_range.mpr hi)
        rw [List.getElem?_eq_getElem hi, e] at z
        exact z
      · intro h i hi
        have hi' := List.mem_range.mp hi
        rw [List.getElem?_eq_getElem hi']
        exact h _ (List.getElem_mem hi')
    rw [ea]
    exact q
end
end L2
/-! EXTENSION V: what a call-free piece of the model leaves as it was. -/
namespace L2
open PySem PySem.Spec PyProof.Rows
/-- no step of t breaks Z (no call in it) -/
def Keep {α : Type} (Z : Heap → Prop) : Sem α → Prop
  | .pure _ => True
  | .raise _ => True
  | .unsupported _ => True
  | .finish _ => True
  | .rule _ k => Keep Z (k ())
  | .at _ k => Keep Z (k ())
  | .load _ _ k => ∀ o, Keep Z (k o)
  | .update a _ f k => (∀ h, Z h → Z (h.update a f)) ∧ Keep Z (k ())
  | .alloc o k => (∀ h, Z h → Z (h.push o)) ∧ ∀ a, Keep Z (k a)
  | .loadIfAlive _ k => ∀ o, Keep Z (k o)
  | .point _ k => Keep Z (k ())
  | .register _ _ => True
  | .fresh k => ∀ t, Keep Z (k t)
  | .ask k => ∀ x, Keep Z (k x)
  | .choose _ _ k => ∀ n, Keep Z (k n)
  | .os _ _ k => ∀ r, Keep Z (k r)
  | .call .. => False
  | .handled _ k => ∀ x, Keep Z (k x)
  | .newGen _ k => ∀ n, Keep Z (k n)
  | .genState _ k => ∀ x, Keep Z (k x)
  | .resume .. => False
  | .yield .. => True
  | .stack k => ∀ l, Keep Z (k l)
  | .fork .. => True
  | .thread k => ∀ n, Keep Z (k n)
  | .await .. => True
theorem Keep.bind {α β : Type} {Z : Heap → Prop} {t : Sem α} {g : α → Sem β} (h : Keep Z t) (k : ∀ a, Keep Z (g a)) : Keep Z (t >>= g) := by
  show Keep Z (Sem.bind t g)
  induction t with
  | pure a => exact k a
  | raise _ => trivial
  | unsupported _ => trivial
  | finish _ => trivial
  | rule _ _ ih => exact ih () h
  | «at» _ _ ih => exact ih () h
  | load _ _ _ ih => exact fun o => ih o (h o)
  | update _ _ _ _ ih => exact ⟨h.1, ih () h.2⟩
  | alloc _ _ ih => exact ⟨h.1, fun a => ih a (h.2 a)⟩
  | loadIfAlive _ _ ih => exact fun o => ih o (h o)
  | point _ _ ih => exact ih () h
  | register _ _ _ => trivial
  | fresh _ ih => exact fun o => ih o (h o)
  | ask _ ih => exact fun o => ih o (h o)
  | choose _ _ _ ih => exact fun o => ih o (h o)
  | os _ _ _ ih => exact fun o => ih o (h o)
  | call _ _ _ _ _ _ => exact h.elim
  | handled _ _ ih => exact fun o => ih o (h o)
  | newGen _ _ ih => exact fun o => ih o (h o)
  | genState _ _ ih => exact fun o => ih o (h o)
  | resume _ _ _ _ _ => exact h.elim
  | yield _ _ _ _ _ => trivial
  | stack _ ih => exact fun o => ih o (h o)
  | fork _ _ _ => trivial
  | thread _ ih => exact fun o => ih o (h o)
  | await _ _ _ _ _ _ => trivial
theorem Keep.wp {α : Type} {Z : Heap → Prop} {M : Model} {Γ : PySem.Ctx} {t : Sem α} (h : Keep Z t) : ∀ {Q : α → Pos → Shared → Prop} {E : Value → Pos → Shared → Prop} {p : Pos} {s : Shared}, Z s.heap → Sem.wp M Γ t Q E p s →
    Sem.wp M Γ t (fun a p s' => Q a p s' ∧ Z s'.heap) (fun e p s' => E e p s' ∧ Z s'.heap) p s := by
  induction t with
  | pure a => intro Q E p s z q; rw [Sem.wp] at q ⊢; exact ⟨q, z⟩
  | raise e => intro Q E p s z q; rw [Sem.wp] at q ⊢; exact ⟨q, z⟩
  | unsupported _ => intro Q E p s z q; rw [Sem.wp] at q; exact q.elim
  | finish _ => intro Q E p s z q; rw [Sem.wp] at q; exact q.elim
  | rule _ _ ih => intro Q E p s z q; rw [Sem.wp] at q ⊢; exact ih () h z q
  | «at» _ _ ih => intro Q E p s z q; rw [Sem.wp] at q ⊢; exact ih () h z q
  | load _ _ _ ih => intro Q E p s z q; rw [Sem.wp] at q ⊢; obtain ⟨o, ho, q⟩ := q; exact ⟨o, ho, ih o (h o) z q⟩
  | update _ _ _ _ ih => intro Q E p s z q; rw [Sem.wp] at q ⊢; exact ⟨q.1, ih () h.2 (h.1 _ z) q.2⟩
  | alloc _ _ ih => intro Q E p s z q; rw [Sem.wp] at q ⊢; exact ih _ (h.2 _) (h.1 _ z) q
  | loadIfAlive _ _ ih => intro Q E p s z q; rw [Sem.wp] at q ⊢; exact ih _ (h _) z q
  | point _ _ ih => intro Q E p s z q; rw [Sem.wp] at q ⊢; exact ih () h z q
  | register _ _ _ => intro Q E p s z q; rw [Sem.wp] at q; exact q.elim
  | fresh _ ih => intro Q E p s z q; rw [Sem.wp] at q ⊢; exact ih _ (h _) z q
  | ask _ ih => intro Q E p s z q; rw [Sem.wp] at q ⊢; exact ih _ (h _) z q
  | choose _ _ _ ih => intro Q E p s z q; rw [Sem.wp] at q ⊢; exact ⟨q.1, ih _ (h _) z q.2⟩
  | os _ _ _ ih => intro Q E p s z q; rw [Sem.wp] at q ⊢; exact ih _ (h _) z q
  | call _ _ _ _ _ _ => exact h.elim
  | handled _ _ ih => intro Q E p s z q; rw [Sem.wp] at q ⊢; exact ih _ (h _) z q
  | newGen _ _ ih => intro Q E p s z q; rw [Sem.wp] at q ⊢; exact ih _ (h _) z q
  | genState _ _ ih => intro Q E p s z q; rw [Sem.wp] at q ⊢; obtain ⟨o, ho, q⟩ := q; exact ⟨o, ho, ih _ (h _) z q⟩
  | resume _ _ _ _ _ => exact h.elim
  | yield _ _ _ _ _ => intro Q E p s z q; rw [Sem.wp] at q; exact q.elim
  | stack _ ih => intro Q E p s z q; rw [Sem.wp] at q ⊢; exact ih _ (h _) z q
  | fork _ _ _ => intro Q E p s z q; rw [Sem.wp] at q; exact q.elim
  | thread _ ih => intro Q E p s z q; rw [Sem.wp] at q ⊢; exact ih _ (h _) z q
  | await _ _ _ _ _ _ => intro Q E p s z q; rw [Sem.wp] at q; exact q.elim
theorem Keep.any {α : Type} {Z : Heap → Prop} {M : Model} {A : Around} {t : Sem α} {Q : α → Shared → Prop} {E : Value → Shared → Prop} {s : Shared} (h : Keep Z t) (z : Z s.heap) (q : wpAny M A t Q E s) :
    wpAny M A t (fun a s' => Q a s' ∧ Z s'.heap) (fun e s' => E e s' ∧ Z s'.heap) s := fun Γ p hΓ => h.wp z (q Γ p hΓ)
/-- the dict of the thing at e -/
def DictAt (e dx : Addr) (h : Heap) : Prop := ∃ o, h.get? e = some o ∧ o.dict = some dx
theorem DictAt.push {e dx : Addr} {h : Heap} {o : Obj} (z : DictAt e dx h) : DictAt e dx (h.push o) := by
  obtain ⟨x, h1, h2⟩ := z
  exact ⟨x, Heap.get?_push_of_some _ h1, h2⟩
theorem DictAt.update {e dx a : Addr} {h : Heap} {f : Obj → Obj} (hd : ∀ o, (f o).dict = o.dict) (hf : ∀ o, o.isFreed = false → (f o).isFreed = false) (z : DictAt e dx h) : DictAt e dx (h.update a f) := by
  obtain ⟨x, h1, h2⟩ := z
  by_cases c : a = e
  · subst c
    exact ⟨f x, Heap.get?_update_self f h1 (hf x (Heap.get?_some_iff.mp h1).2), (hd x).trans h2⟩
  · exact ⟨x, (Heap.get?_update_other _ _ c).trans h1, h2⟩
theorem mapF_dict (g : Array Value → Array Value) (o : Obj) : (Obj.mapFields g o).dict = o.dict := by
  obtain ⟨c, d, dt, sl⟩ := o
  cases dt <;> rfl
theorem mapF_live (g : Array Value → Array Value) (o : Obj) (h : o.isFreed = false) : (Obj.mapFields g o).isFreed = false := by
  obtain ⟨c, d, dt, sl⟩ := o
  cases dt <;> first | rfl | exact h
section
variable {e dx : Addr}
theorem keep_fields (v : Value) : Keep (DictAt e dx) (fieldsOf v) := by
  unfold fieldsOf
  cases v with
  | ref a =>
    refine fun o => ?_
    show Keep _ (match o.data with | .fields vs => _ | _ => _)
    cases o.data <;> trivial
  | _ => trivial
theorem keep_field (v : Value) (i : Nat) : Keep (DictAt e dx) (field v i) := by
  refine Keep.bind (keep_fields v) fun vs => ?_
  cases vs[i]? <;> trivial
theorem keep_setField (v : Value) (i : Nat) (x : Value) : Keep (DictAt e dx) (setField v i x) := by
  unfold setField
  cases v with
  | ref a =>
    refine fun o => ?_
    show Keep _ (match o.data with | .fields vs => _ | _ => _)
    cases o.data with
    | fields vs =>
      show Keep _ (if i < vs.size then _ else _)
      split
      · exact ⟨fun h z => z.update (mapF_dict _) (mapF_live _), trivial⟩
      · trivial
    | _ => trivial
  | _ => trivial
theorem keep_flight (v : Value) (f : Option Addr) : Keep (DictAt e dx) (setFlight v f) := by
  refine Keep.bind (keep_field v 1) fun tb => ?_
  split
  · exact keep_setField _ _ _
  · trivial
theorem keep_newFields (T : String) (vs : List Value) : Keep (DictAt e dx) (newFields T vs) := by
  unfold newFields newObj
  have k : Keep (DictAt e dx) (newObjAsIs (.type T) (.fields vs.toArray)) := ⟨fun h z => z.push, fun a => trivial⟩
  show Keep (DictAt e dx) (if vs.toArray.size > sizeLine + 2 then _ else newObjAsIs (.type T) (.fields vs.toArray))
  split
  · trivial
  · exact k
theorem keep_back (env : Env) (b : Bool) (l : List Env) : Keep (DictAt e dx) (keptBack env b l) := by
  cases l with
  | nil =>
    show Keep (DictAt e dx) (if (env.scope.isGenerator || env.scope.isCoroutine) = true then _ else _)
    split
    · trivial
    · refine Keep.bind (t := underTheClaimsCaller) ?_ fun c => trivial
      exact fun l => trivial
  | cons x r => trivial
theorem keep_import (env : Env) (l : List Env) : Keep (DictAt e dx) (behindIsImport env l) := by
  unfold behindIsImport
  split
  · trivial
  · split
    · trivial
    · exact Keep.bind (keep_field _ _) fun _ => trivial
theorem keep_ready : ∀ l : List Env, Keep (DictAt e dx) (readyFrames l)
  | [] => trivial
  | env :: outer => by
    unfold readyFrames
    cases env.frame with
    | none => trivial
    | some f =>
      refine fun o => ?_
      show Keep (DictAt e dx) (if (o.slots.getD 3 none).isSome = true then _ else _)
      split
      · trivial
      · refine Keep.bind (keep_import _ _) fun b => Keep.bind (keep_back _ _ _) fun c => ⟨fun h z => z.update (fun o => rfl) (fun o ho => ?_), keep_ready outer⟩
        obtain ⟨c', d', dt, sl⟩ := o
        cases dt <;> first | rfl | exact ho
theorem keep_frameOf (env : Env) : Keep (DictAt e dx) (PySem.frameOf env) := by
  unfold PySem.frameOf
  refine Keep.bind (fun l => trivial) fun l => Keep.bind ?_ fun x => ?_
  · unfold frameObject
    cases l.dropWhile (·.frame != env.frame) with
    | nil => trivial
    | cons x r => exact Keep.bind (keep_ready _) fun _ => trivial
  · cases x <;> trivial
theorem keep_place (f : Addr) (b : Bool) : Keep (DictAt e dx) (entryPlaceOf f b) := by
  refine fun acts => ?_
  show Keep _ (match acts.find? _ with | some (_, pos) => _ | none => _)
  split <;> trivial
theorem keep_note (v : Value) (env : Env) : Keep (DictAt e dx) (noteFrame v env) := by
  unfold noteFrame
  cases env.frame with
  | none => trivial
  | some f =>
    refine Keep.bind (keep_field v 1) fun head => ?_
    have last : Keep (DictAt e dx) (do setField v 1 (← EntryCells.newEntry head (← PySem.frameOf env) .none (rawInt f) .none (← entryPlaceOf f (head != .none)))) :=
      Keep.bind (keep_frameOf env) fun a => Keep.bind (keep_place _ _) fun pl => Keep.bind (keep_newFields _ _) fun b => keep_setField _ _ _
    show Keep (DictAt e dx) (if (head != Value.none) = true then _ else _)
    split
    · refine Keep.bind (keep_field _ _) fun x => ?_
      split
      · trivial
      · exact Keep.bind (keep_setField _ _ _) fun _ => last
    · exact last
theorem keep_leaving (env : Env) (v : Value) : Keep (DictAt e dx) (leaving env v) := Keep.bind (keep_note v env) fun _ => keep_flight v none
end
end L2
/-! EXTENSION C of the hand layer: exceptions of own classes, raised, passed on, caught. -/
namespace L2
open PySem PySem.Spec PyProof.Rows

/-- an exception behind a call: of the own class at C; B: all that stays while it flies -/
def XOk (P : Program) (w : World) : CXT := fun outer H s E e s' => ∃ (ea C : Addr) (a0 : Value) (H' : Hp) (B : Heap) (pd : Option Addr), e = .ref ea ∧ Heap.FlyingW B outer ea (.ref C) a0 s'.heap ∧ s'.os = s.os ∧ AllBare s'.gens ∧
  Un (frs outer) [] H H' s.heap s'.heap ∧ HOk P w H' B ∧ (∀ b o, s.heap.get? b = some o → H b = none → b ∉ frs outer → B.get? b = some o) ∧ (∀ b o, s.heap.get? b = some o → b ∉ frs outer → ∃ o', B.get? b = some o') ∧ (∀ dx, pd = some dx → DictAt ea dx s'.heap) ∧ E (.ref C) pd H'

/-- a def's own frame stands on top -/
structure Top1 (X : Cx) : Prop where
  stk : X.stack = X.env :: X.outer
  frm : X.env.frame = some X.env.locals
  ex : X.ex = []

section
variable {X : Cx} {pins : List (Addr × Obj)} {σ : St} {H : Hp} {s : Shared}
theorem Top1.mem (T : Top1 X) {b : Addr} : b ∈ frs X.stack ↔ b = X.env.locals ∨ b ∈ X.fs := by
  rw [T.stk]
  unfold frs
  rw [List.filterMap_cons, T.frm]
  exact List.mem_cons
/-- an exception of a callee goes through this frame -/
theorem pass_out {E : XK} {E' : Value → Shared → Prop} {e : Value} {s' : Shared} (T : Top1 X) (I : Inv X pins σ H s) (h : XOk X.prog X.w X.stack H s E e s') :
    wpAny (model X.prog X.w) X.A (leaving X.env e) (fun _ s'' => XOk X.prog X.w X.outer X.H₀ X.s₀ E e s'') E' s' := by
  obtain ⟨ea, C, a0, H', B, pd, rfl, fl, os, ba, un, hk, kb, tb, dk, q⟩ := h
  have hfr : X.A.frames = some (X.env :: X.outer) := by rw [← T.stk]; exact I.ok.frames
  have out : ∀ b o, X.s₀.heap.get? b = some o → b ∉ X.fs → b ∉ frs X.stack := fun b o e hb hm => by
    rcases T.mem.mp hm with z | z
    · exact absurd (Nat.lt_of_lt_of_le (Heap.lt_size e) I.ok.above) (by rw [z]; exact Nat.lt_irrefl _)
    · exact hb z
  have nx : ∀ b : Addr, b ∉ X.ex := fun b z => by rw [T.ex] at z; cases z
  have n0 : ∀ b : Addr, b ∉ ([] : List Addr) := fun b z => nomatch z
  have fl' := fl
  rw [T.stk] at fl
  have main : ∀ h', Heap.FlyingW B X.outer ea (.ref C) a0 h' → s'.heap.UpToSlots h' → (∀ dx, pd = some dx → DictAt ea dx h') → XOk X.prog X.w X.outer X.H₀ X.s₀ E (.ref ea) { s' with heap := h' } := ?_
  · cases pd with
    | none => exact wpAny_leaves_onW hfr T.frm fl fun h' x1 x2 => main h' x1 x2 (fun _ z => nomatch z)
    | some dx =>
      refine wpAny_mono (Keep.any (keep_leaving (e := ea) (dx := dx) X.env (.ref ea)) (dk dx rfl) (wpAny_leaves_onW hfr T.frm fl (Q := fun _ s'' => ∃ h', s'' = { s' with heap := h' } ∧ Heap.FlyingW B X.outer ea (.ref C) a0 h' ∧ s'.heap.UpToSlots h') (E := E') fun h' x1 x2 => ⟨h', rfl, x1, x2⟩)) (fun _ s'' z => ?_) fun _ _ z => z.1
      obtain ⟨⟨h', rfl, x1, x2⟩, z⟩ := z
      exact main h' x1 x2 (fun dx' e => by cases e; exact z)
  intro h' x1 x2 dk'
  have slot : ∀ b, b ∈ frs X.stack → ∀ o, s'.heap.get? b = some o → ∃ sl, h'.get? b = some { o with slots := sl } := fun b hb o e => by
    obtain ⟨_, o2, e2, nf⟩ := fl'.2.2.1.mem hb
    rw [e] at e2; cases e2
    exact x2 b o e nf
  refine ⟨ea, C, a0, H', B, pd, rfl, x1, os.trans I.os, ba, ⟨fun b o e n hb _ => ?_, fun b o e n hb _ => ?_, fun b o e n _ => ?_, fun b o e _ => ?_, fun b xs z => un.tups b xs (I.base.tups b xs z), fun b o u z => un.frzs b o u (I.base.frzs b o u z), fun b ps z => ?_⟩, hk, fun b o e n hb => ?_, fun b o e hb => ?_, dk', q⟩
  · exact x1.1 b o (kb b o (I.base.keep b o e n hb (nx b)) (I.base.free b o e n (nx b)) (out b o e hb))
  · obtain ⟨sl, e1⟩ := I.base.slot b o e n hb (nx b)
    obtain ⟨sl1, e2⟩ := un.slot b _ e1 (I.base.free b o e n (nx b)) (T.mem.mpr (.inr hb)) (n0 b)
    obtain ⟨sl2, e3⟩ := slot b (T.mem.mpr (.inr hb)) _ e2
    exact ⟨sl2, e3⟩
  · obtain ⟨o', e1⟩ := I.base.there b o e (nx b)
    exact un.free b o' e1 (I.base.free b o e n (nx b)) (n0 b)
  · obtain ⟨o', e1⟩ := I.base.there b o e (nx b)
    by_cases hb : b ∈ frs X.stack
    · obtain ⟨o2, e2⟩ := un.there b o' e1 (n0 b)
      obtain ⟨sl, e3⟩ := slot b hb o2 e2
      exact ⟨_, e3⟩
    · obtain ⟨o2, e2⟩ := tb b o' e1 hb
      exact ⟨o2, x1.1 b o2 e2⟩
  · obtain ⟨m1, z1⟩ := I.base.tbls b ps z
    obtain ⟨m2, z2⟩ := un.tbls b _ z1
    exact ⟨m1 ++ m2, by rw [z2, Array.append_assoc]⟩
  · exact kb b o (I.base.keep b o e n hb (nx b)) (I.base.free b o e n (nx b)) (out b o e hb)
  · obtain ⟨o', e1⟩ := I.base.there b o e (nx b)
    exact tb b o' e1 (out b o e hb)

/-! ### raise -/
/-- what the text's top must have written of an own exception class -/
structure Exc (K : PySem.W.Frag) (C : Addr) (B newId initId : String) (bmB : List Value) : Prop where
  at_ : PySem.W.excIn K C bmB newId = true
  base : ExcBaseFacts B newId initId bmB
/-! ### expressions and statements that may raise -/
def XP (X : Cx) (pins : List (Addr × Obj)) (σ : St) (E : XK) (ex : Value) (s' : Shared) : Prop := ∃ H1 s1, Inv X pins σ H1 s1 ∧ XOk X.prog X.w X.stack H1 s1 E ex s'
abbrev TX := St → Hp → VK → XK → Prop
def PX (X : Cx) (e : Expr) (t : TX) : Prop :=
  ∀ (pins : List (Addr × Obj)) (s : Shared) (σ : St) (H : Hp) (Q : VK) (E : XK), Inv X pins σ H s → t σ H Q E → wpAny (model X.prog X.w) X.A (eval e X.env) (EP X pins σ Q) (XP X pins σ E) s
theorem px_call {k : Nat} {f : Addr} {fd : FuncData} {ps : List Str} {sp : Sp} {dvs : List V} {ds : List Value} {x : Str} {p pos : Pos} {e : Expr} {es : List Expr} {t : TA}
    (F : FnOk X.prog X.w X.K X.mg X.base (XOk X.prog X.w) k f fd ps sp) (hr : Room k X.A) (hg : Gl X x) (hm : X.mg x = some (.ref f)) (hk : PySem.W.keepIn X.K (.ref f) = true) (hb : Binds X.K fd ps ds) (hd : Vals dvs ds)
    (ha : PA X.nox (e :: es) t) (hdb : (x == ("__debug__" : Str)) = false := by decide) (he : starEach (e :: es) X.env = (false, eval e X.env) :: starEach es X.env := by rfl) (hpl : (backTo pos (starEach es X.env)).any (·.1) = false := by rfl) :
    PX X (.Call (.Name x p) (e :: es) [] pos) (fun σ H Q E => t σ H fun vs H1 => sp (vs ++ dvs) H1 Q E) := by
  intro pins s σ H Q E I h
  refine wpAny_Call_Name_kw (ld_glob I hg hm ?_ hdb)
  refine PySem.W.callWith_K (h₀ := X.base) I.ok.mod.kin hk (wpAny_mono (ha pos pins s σ H _ (I.wish _) h) (fun us s1 ⟨vs, H1, I1', r, q⟩ => ?_) fun _ _ z => z.elim) he hpl
  have I1 : Inv X pins σ H1 s1 := I1'.unwish
  refine ⟨I1.kIn, ?_⟩
  have r2 : Vals (vs ++ dvs) (us ++ ds) := r.append hd
  have hl : (us ++ ds).length = ps.length := by rw [← r2.length]; exact F.len _ _ _ _ q
  refine wpAny_call (codeAny_mono (F.run X.A X.stack s1 H1 ⟨us, []⟩ (us ++ ds) (vs ++ dvs) Q E hr I1.env0 (hb s1 us I1.kIn hl) r2 q) fun r s' hq => ?_)
  cases r with
  | error e => exact ⟨H1, s1, I1, hq⟩
  | ok fl =>
    cases fl with
    | ret u => exact I1.after hq
    | next => exact False.elim hq
    | brk => exact False.elim hq
    | cont => exact False.elim hq
abbrev TSX := Ends → (St → XK) → St → Hp → Prop
def PSX (X : Cx) (st : List Stmt) (t : TSX) : Prop :=
  ∀ (pins : List (Addr × Obj)) (s : Shared) (σ : St) (H : Hp) (D : Ends) (E : St → XK), Inv X pins σ H s → t D E σ H → wpAny (model X.prog X.w) X.A (execs st X.env) (SP X pins D) (fun ex s' => ∃ σ1, XP X pins σ1 (E σ1) ex s') s
/-- y = e -/
theorem psx_set {i : Nat} {y : Str} {e : Expr} {t : TX} {py pos : Pos} (hN : X.N.Nodup) (hi : X.N[i]? = some y) (hx : Loc X.env.scope y) (he : PX X e t) (hs : swapsWith e (some (.Name y py)) pos.line X.env = pure false := by rfl)
    (hf : X.fn y = true ∨ X.env.scope.names.lookup y = some .local := by first | exact .inl rfl | exact .inr rfl | assumption) :
    PSX X [.Assign [.Name y py] e pos] (fun D E σ H => t σ H (fun v H1 => D.nx (σ.set i (some v)) H1) (E σ)) := by
  intro pins s σ H D E I h
  refine wpAny_execs_cons (wpAny_Assign_Name (wpAny_mono (he pins s σ H _ (E σ) I h) (fun u s1 ⟨v, H1, I1, r, q⟩ => ?_) fun ex s' z => ⟨σ, z⟩) hs)
  exact store_ok I1 hN hi hx r (fun s2 I2 => wpAny_execs_nil ⟨_, H1, I2, q⟩) hf

/-! ### try .. except C: .. -/
def Cx.caught (X : Cx) (e : Value) : Cx := { X with A := X.A.mark (some e), calm := false, xe := fun _ _ => False }
theorem Inv.caught (I : Inv X pins σ H s) (e : Value) (hfr : (X.A.mark (some e)).frames = X.A.frames := by rfl) : Inv (X.caught e) pins σ H s :=
  ⟨⟨I.ok.mod, I.ok.kind, I.ok.glob, I.ok.blt, I.ok.above, I.ok.inj, I.ok.has, I.ok.cab, (fun z => nomatch z), hfr.trans I.ok.frames, I.ok.stk, I.ok.exf, I.ok.bs, I.ok.bsz, I.ok.noex, I.ok.exfs, I.ok.funs, I.ok.frf⟩, I.os, I.bare, I.base, I.loc, I.cell, I.free, I.freeC, I.pin, I.hok, I.len⟩
theorem Inv.uncaught {e : Value} (ok : X.Ok) (I : Inv (X.caught e) pins σ H s) : Inv X pins σ H s := ⟨ok, I.os, I.bare, I.base, I.loc, I.cell, I.free, I.freeC, I.pin, I.hok, I.len⟩
theorem SP.uncaught {e : Value} {D : Ends} {f : Flow} {s' : Shared} (ok : X.Ok) (h : SP (X.caught e) pins D f s') : SP X pins D f s' := by
  cases f with
  | next => obtain ⟨a, b, I, q⟩ := h; exact ⟨a, b, I.uncaught ok, q⟩
  | brk => obtain ⟨a, b, I, q⟩ := h; exact ⟨a, b, I.uncaught ok, q⟩
  | cont => obtain ⟨a, b, I, q⟩ := h; exact ⟨a, b, I.uncaught ok, q⟩
  | ret u => obtain ⟨v, a, b, I, r, q⟩ := h; exact ⟨v, a, b, I.uncaught ok, r, q⟩
/-- the heap behind the landing -/
theorem Inv.landed {s' : Shared} {H' : Hp} {B h5 : Heap} (T : Top1 X) (I : Inv X pins σ H s) (os : s'.os = s.os) (ba : AllBare s'.gens) (un : Un (frs X.stack) [] H H' s.heap s'.heap) (hk : HOk X.prog X.w H' B)
    (kb : ∀ b o, s.heap.get? b = some o → H b = none → b ∉ frs X.stack → B.get? b = some o) (tb : ∀ b o, s.heap.get? b = some o → b ∉ frs X.stack → ∃ o', B.get? b = some o')
    (st : B.StaysIn h5) (sm : s'.heap.UpToSlots h5) (ff : s'.heap.FunFrames B X.stack) : Inv X pins σ H' { s' with heap := h5 } := by
  have n0 : ∀ b : Addr, b ∉ ([] : List Addr) := fun b z => nomatch z
  have slot : ∀ b, b ∈ frs X.stack → ∀ o, s'.heap.get? b = some o → ∃ sl, h5.get? b = some { o with slots := sl } := fun b hb o e => by
    obtain ⟨_, o2, e2, nf⟩ := ff.mem hb
    rw [e] at e2; cases e2
    exact sm b o e nf
  refine I.call' (s' := { s' with heap := h5 }) (ch := []) os ⟨fun b o e n hb _ => st b o (kb b o e n hb), fun b o e n hb _ => ?_, fun b o e n _ => un.free b o e n (n0 b), fun b o e _ => ?_, un.tups, un.frzs, un.tbls⟩ (hk.kept st) ba fun b hb => nomatch hb
  · obtain ⟨sl, e1⟩ := un.slot b o e n hb (n0 b)
    obtain ⟨sl2, e2⟩ := slot b hb _ e1
    exact ⟨sl2, e2⟩
  · by_cases hb : b ∈ frs X.stack
    · obtain ⟨o1, e1⟩ := un.there b o e (n0 b)
      obtain ⟨sl, e2⟩ := slot b hb o1 e1
      exact ⟨_, e2⟩
    · obtain ⟨o1, e1⟩ := tb b o e hb
      exact ⟨o1, st b o1 e1⟩
end

/-! ### a def that raises -/
section
variable {P : Program} {w : World} {K : PySem.W.Frag} {mg : Str → Option Value} {base : Heap}
abbrev cxX (P : Program) (w : World) (K : PySem.W.Frag) (mg : Str → Option Value) (base : Heap) (N : List Str) (qual : Str) (scope : Scope) (f : Addr) (cd : Value) (A : Around) (outer : List Env) (s : Shared) (H : Hp) (E : XK) : Cx := cxOf (XOk P w) P w K mg base N qual scope f cd A outer s H E
theorem top_cxX {N : List Str} {qual : Str} {scope : Scope} {f : Addr} {cd : Value} {A : Around} {outer : List Env} {s : Shared} {H : Hp} {E : XK} {CX : CXT} : Top1 (cxOf CX P w K mg base N qual scope f cd A outer s H E) := ⟨rfl, rfl, rfl⟩
theorem top_nox {X : Cx} (T : Top1 X) : Top1 X.nox := ⟨T.stk, T.frm, T.ex⟩
theorem pass1 {N : List Str} {qual : Str} {scope : Scope} {f : Addr} {cd : Value} {A : Around} {outer : List Env} {s : Shared} {H : Hp} {E : XK} : Passes (XOk P w) (cxX P w K mg base N qual scope f cd A outer s H E) E :=
  fun pins σ H1 s1 e s' I h => pass_out (E' := fun e' s'' => XOk P w outer H s E e' s'') top_cxX I h
/-- a def of the text (defaults dV), that may raise -/
structure FunD (K : PySem.W.Frag) (x qual : Str) (st : Stmt) (f : Addr) (fd : FuncData) (dV : Value) : Prop where
  ex : ∃ (oc : Value) (od : Option Addr) (kV doc pm : Value) (an : Option Addr) (cdv ct : Value) (osl : Array (Option Value)),
    fd = PySem.W.fnOf x qual (defArgs st) (defBody st) (defScope st) dV kV doc pm an cdv ct ∧ K.lookup f = some ⟨oc, od, .func fd, osl⟩ ∧ PySem.W.codeIn K cdv qual = true
  kp : PySem.W.keepIn K (.ref f) = true
theorem FunD.okX {x qual : Str} {st : Stmt} {f : Addr} {fd : FuncData} {dV : Value} {N ps : List Str} {k : Nat} {sp : Sp} (F : FunD K x qual st f fd dV) (S : FnScope N ps (defScope st)) (len : ∀ vs H Q E, sp vs H Q E → vs.length = ps.length)
    (hbody : ∀ (cdv : Value) (A : Around) (outer : List Env) (s : Shared) (H : Hp) (vs : List V) (Q : VK) (E : XK), Room k (A.deeper (envOfC qual (defScope st) s.heap.objs.size f cdv)) → sp vs H Q E →
      ∃ t, PSs (cxX P w K mg base N qual (defScope st) f cdv A outer s H E) (defBody st) t ∧ t { nx := fun _ H' => Q .non H', rt := Q } (start N vs) H) : FnOk P w K mg base (XOk P w) (k + 1) f fd ps sp := by
  obtain ⟨oc, od, kV, doc, pm, an, cdv, ct, osl, rfl, lk, hcd⟩ := F.ex
  exact fn_of lk hcd S len fun A outer s H vs Q E hr hsp => hbody cdv A outer s H vs Q E hr hsp
theorem FunD.ok {x qual : Str} {st : Stmt} {f : Addr} {fd : FuncData} {dV : Value} {N ps : List Str} {k : Nat} {sp : Sp} (F : FunD K x qual st f fd dV) (S : FnScope N ps (defScope st)) (len : ∀ vs H Q E, sp vs H Q E → vs.length = ps.length)
    (hbody : ∀ (cdv : Value) (A : Around) (outer : List Env) (s : Shared) (H : Hp) (vs : List V) (Q : VK) (E : XK), Room k (A.deeper (envOfC qual (defScope st) s.heap.objs.size f cdv)) → sp vs H Q E →
      ∃ t, PSs (cxOf CX0 P w K mg base N qual (defScope st) f cdv A outer s H E).nox (defBody st) t ∧ t { nx := fun _ H' => Q .non H', rt := Q } (start N vs) H) : FnOk P w K mg base CX0 (k + 1) f fd ps sp := by
  obtain ⟨oc, od, kV, doc, pm, an, cdv, ct, osl, rfl, lk, hcd⟩ := F.ex
  refine fn_of lk hcd S len fun A outer s H vs Q E hr hsp => ?_
  obtain ⟨t, h, q⟩ := hbody cdv A outer s H vs Q E hr hsp
  exact ⟨t, h.nox, q⟩
theorem fund_mk {x qual : Str} {st : Stmt} {f : Addr} {oc dV : Value} {od an : Option Addr} {osl : Array (Option Value)} {kV doc pm cdv ct : Value} (l : K.lookup f = some ⟨oc, od, .func (PySem.W.fnOf x qual (defArgs st) (defBody st) (defScope st) dV kV doc pm an cdv ct), osl⟩)
    (c : PySem.W.codeIn K cdv qual = true) (k : PySem.W.keepIn K (.ref f) = true) : FunD K x qual st f (PySem.W.fnOf x qual (defArgs st) (defBody st) (defScope st) dV kV doc pm an cdv ct) dV := ⟨⟨oc, od, kV, doc, pm, an, cdv, ct, osl, rfl, l, c⟩, k⟩
end
end L2
/-! EXTENSION D of the hand layer: defs by their names; rules by kinds joined; a reading by simp. -/
namespace L2
open PySem PySem.Spec PyProof.Rows
/-- a def of the top, as it stands, with the defaults dvs that fill up -/
def At (K : PySem.W.Frag) (mg : Str → Option Value) (x : Str) (st : Stmt) (ps : List Str) (dvs : List V) : Prop :=
  ∃ f fd dV ds, FunD K x x st f fd dV ∧ mg x = some (.ref f) ∧ Binds K fd ps ds ∧ Vals dvs ds
/-- .. and its promise -/
def DefOk (P : Program) (w : World) (K : PySem.W.Frag) (mg : Str → Option Value) (base : Heap) (CX : CXT) (k : Nat) (x : Str) (ps : List Str) (dvs : List V) (sp : Sp) : Prop :=
  ∃ f fd ds, FnOk P w K mg base CX k f fd ps sp ∧ mg x = some (.ref f) ∧ PySem.W.keepIn K (.ref f) = true ∧ Binds K fd ps ds ∧ Vals dvs ds
section
variable {P : Program} {w : World} {K : PySem.W.Frag} {mg : Str → Option Value} {base : Heap}
theorem At.ok {x : Str} {st : Stmt} {N ps : List Str} {dvs : List V} {k : Nat} {sp : Sp} (F : At K mg x st ps dvs) (S : FnScope N ps (defScope st)) (len : ∀ vs H Q E, sp vs H Q E → vs.length = ps.length)
    (hbody : ∀ (f : Addr) (cdv : Value) (A : Around) (outer : List Env) (s : Shared) (H : Hp) (vs : List V) (Q : VK) (E : XK), Room k (A.deeper (envOfC x (defScope st) s.heap.objs.size f cdv)) → sp vs H Q E →
      ∃ t, PSs (cxOf CX0 P w K mg base N x (defScope st) f cdv A outer s H E).nox (defBody st) t ∧ t { nx := fun _ H' => Q .non H', rt := Q } (start N vs) H) : DefOk P w K mg base CX0 (k + 1) x ps dvs sp := by
  obtain ⟨f, fd, dV, ds, F1, hm, hb, hd⟩ := F
  exact ⟨f, fd, ds, F1.ok S len (hbody f), hm, F1.kp, hb, hd⟩
theorem At.okX {x : Str} {st : Stmt} {N ps : List Str} {dvs : List V} {k : Nat} {sp : Sp} (F : At K mg x st ps dvs) (S : FnScope N ps (defScope st)) (len : ∀ vs H Q E, sp vs H Q E → vs.length = ps.length)
    (hbody : ∀ (f : Addr) (cdv : Value) (A : Around) (outer : List Env) (s : Shared) (H : Hp) (vs : List V) (Q : VK) (E : XK), Room k (A.deeper (envOfC x (defScope st) s.heap.objs.size f cdv)) → sp vs H Q E →
      ∃ t, PSs (cxX P w K mg base N x (defScope st) f cdv A outer s H E) (defBody st) t ∧ t { nx := fun _ H' => Q .non H', rt := Q } (start N vs) H) : DefOk P w K mg base (XOk P w) (k + 1) x ps dvs sp := by
  obtain ⟨f, fd, dV, ds, F1, hm, hb, hd⟩ := F
  exact ⟨f, fd, ds, F1.okX S len (hbody f), hm, F1.kp, hb, hd⟩
end
section
variable {X : Cx} {CX : CXT} {k : Nat} {ps : List Str} {sp : Sp} {dvs : List V} {E : XK} {x : Str} {p pos : Pos} {e : Expr} {es : List Expr} {t : TA}
theorem pe_callD (D : DefOk X.prog X.w X.K X.mg X.base CX k x ps dvs sp) (hr : Room k X.A) (hg : Gl X x) (hx : Passes CX X E) (ha : PA X (e :: es) t) (hdb : (x == ("__debug__" : Str)) = false := by decide)
    (he : starEach (e :: es) X.env = (false, eval e X.env) :: starEach es X.env := by rfl) (hpl : (backTo pos (starEach es X.env)).any (·.1) = false := by rfl) : PE X (.Call (.Name x p) (e :: es) [] pos) (tCall sp dvs E t) := by
  obtain ⟨f, fd, ds, F, hm, hk, hb, hd⟩ := D
  exact pe_call F hr hg hm hk hb hd hx ha hdb he hpl
theorem px_callD (D : DefOk X.prog X.w X.K X.mg X.base (XOk X.prog X.w) k x ps dvs sp) (hr : Room k X.A) (hg : Gl X x) (ha : PA X.nox (e :: es) t) (hdb : (x == ("__debug__" : Str)) = false := by decide)
    (he : starEach (e :: es) X.env = (false, eval e X.env) :: starEach es X.env := by rfl) (hpl : (backTo pos (starEach es X.env)).any (·.1) = false := by rfl) : PX X (.Call (.Name x p) (e :: es) [] pos) (fun σ H Q E => t σ H fun vs H1 => sp (vs ++ dvs) H1 Q E) := by
  obtain ⟨f, fd, ds, F, hm, hk, hb, hd⟩ := D
  exact px_call F hr hg hm hk hb hd ha hdb he hpl
/-! ### operations by kinds joined -/
/-! ### bit_length -/
theorem mt_bits : MtR X "int.bit_length" (fun x xs H Q => ∃ i, x = .int i ∧ xs = [] ∧ Q (.int (Builtin.Int.intBits i : Nat)) H) := by
  intro pins s σ H x xs v us Q I rx rv h
  obtain ⟨i, rfl, rfl, q⟩ := h
  obtain ⟨t, rfl⟩ := rx
  cases rv
  refine wpAny_call (codeAny_call_builtin F.slot_int_bit_length.plain F.entry_int_bit_length (F.slot_int_bit_length.check _ _ _ _ _ _ _ _ (typeIs_int s i t) (F.args_int_bit_length_1 _) (AutoIntG2.int_bit_length_int_0 i t _ _ _ (wants _ _) s ?_)))
  exact ⟨.int _, H, I.tok _, ⟨_, rfl⟩, q⟩
end
end L2
namespace L2
open PySem PySem.Spec PyProof.Rows
theorem un64 {k : Nat} {A : Around} (hr : Room k A) : A.units + 64 < cLine := hr.units
theorem Same.tup {K : PySem.W.Frag} {H H' : Hp} {a : Addr} {xs : List V} (e : Same H H') (h : SqT K H a xs) : SqT K H' a xs := by
  rcases h with (h | ⟨o, h⟩) | h
  · exact .inl (.inl (e _ _ h))
  · exact .inl (.inr ⟨o, e _ _ h⟩)
  · exact .inr h
theorem Same.new {H : Hp} {p : Addr} (h : H p = none) (o : HO) : Same H (upd H p o) := fun b u q => by rw [upd_ne (ne_of_none q h)]; exact q
end L2
namespace L2
open PySem PySem.Spec PyProof.Rows
theorem at_mk {K : PySem.W.Frag} {h : Heap} {mg : Str → Option Value} {x : Str} {st : Stmt} {ps : List Str} {f : Addr} {oc kV doc pm cdv ct : Value} {od an : Option Addr} {osl : Array (Option Value)} (X : K.In h) (G : h.Ns mainGlobals mg)
    (hb : ∀ (kV doc pm : Value) (an : Option Addr) (cdv ct : Value) (us : List Value), us.length = ps.length → bindArgs (PySem.W.fnOf x x (defArgs st) (defBody st) (defScope st) .none kV doc pm an cdv ct) ⟨us, []⟩ = pure (ps.zip us))
    (a : PySem.W.nsIn K mainGlobals x = some (some (.ref f))) (l : K.lookup f = some ⟨oc, od, .func (PySem.W.fnOf x x (defArgs st) (defBody st) (defScope st) .none kV doc pm an cdv ct), osl⟩) (c : PySem.W.codeIn K cdv x = true) (k : PySem.W.keepIn K (.ref f) = true) :
    At K mg x st ps [] := ⟨f, _, .none, [], fund_mk l c k, PySem.W.mg_of X G a, .all (hb kV doc pm an cdv ct), .nil⟩
theorem at_mkD {K : PySem.W.Frag} {h : Heap} {mg : Str → Option Value} {x : Str} {st : Stmt} {ps : List Str} {f D : Addr} {oc kV doc pm cdv ct : Value} {od an : Option Addr} {osl : Array (Option Value)} {oD : Obj} {items : Array Value} {n : Nat} {dvs : List V} {ds : List Value} (X : K.In h) (G : h.Ns mainGlobals mg)
    (hb : ∀ (kV doc pm : Value) (an : Option Addr) (cdv ct : Value) (us : List Value), (us ++ ds).length = ps.length → ∃ kk, bindArgs (PySem.W.fnOf x x (defArgs st) (defBody st) (defScope st) (.ref D) kV doc pm an cdv ct) ⟨us, []⟩ = (seqItems? (.ref D) >>= kk) ∧ kk (some items) = pure (ps.zip (us ++ ds)))
    (a : PySem.W.nsIn K mainGlobals x = some (some (.ref f))) (l : K.lookup f = some ⟨oc, od, .func (PySem.W.fnOf x x (defArgs st) (defBody st) (defScope st) (.ref D) kV doc pm an cdv ct), osl⟩) (c : PySem.W.codeIn K cdv x = true) (k : PySem.W.keepIn K (.ref f) = true)
    (lD : K.lookup D = some oD) (hD : oD.data = .seq items n) (hv : Vals dvs ds) : At K mg x st ps dvs :=
  ⟨f, _, .ref D, ds, fund_mk l c k, PySem.W.mg_of X G a, fun s us KX hl => by
    obtain ⟨kk, h1, h2⟩ := hb kV doc pm an cdv ct us hl
    exact BindsTo.of_defaults rfl (KX _ _ lD) hD h1 h2, hv⟩
end L2
namespace L2
open PySem PySem.Spec PyProof.Rows
section
variable {X : Cx} {st : Stmt} {rest : List Stmt} {t u : TS}
/-- a statement, what holds behind it, the rest -/
def tCut (M : St → Hp → Prop) (t u : TS) : TS := fun D σ H => t { D with nx := M } σ H ∧ ∀ σ' H', M σ' H' → u D σ' H'
theorem pss_cut (M : St → Hp → Prop) (h1 : PS X st t) (h2 : PSs X rest u) : PSs X (st :: rest) (tCut M t u) := by
  intro pins s σ H D I h
  refine wpAny_execs_cons (thn (h1 pins s σ H { D with nx := M } I h.1) fun f s1 q => ?_)
  cases f with
  | next =>
    obtain ⟨σ', H', I', q⟩ := q
    exact h2 pins s1 σ' H' D I' (h.2 σ' H' q)
  | ret v => exact q
  | brk => exact q
  | cont => exact q
end
/-- a number below 2 to the n-th either way -/
def Bd (n : Nat) (i : Int) : Prop := i.natAbs < 2 ^ n
theorem Bd.mul {n m : Nat} {i j : Int} (hi : Bd n i) (hj : Bd m j) : Bd (n + m) (i * j) := by
  unfold Bd at *
  rw [Int.natAbs_mul, Nat.pow_add]
  exact Nat.mul_lt_mul_of_lt_of_le hi (Nat.le_of_lt hj) (Nat.two_pow_pos m)
theorem Bd.mono {n m : Nat} {i : Int} (hi : Bd n i) (h : n ≤ m := by decide) : Bd m i := Nat.lt_of_lt_of_le hi (Nat.pow_le_pow_right (by decide) h)
theorem Bd.add {n : Nat} {i j : Int} (hi : Bd n i) (hj : Bd n j) : Bd (n + 1) (i + j) := by
  unfold Bd at *
  rw [Nat.pow_succ]
  have := Int.natAbs_add_le i j
  omega
theorem Bd.sub {n : Nat} {i j : Int} (hi : Bd n i) (hj : Bd n j) : Bd (n + 1) (i - j) := by
  unfold Bd at *
  rw [Nat.pow_succ]
  have := Int.natAbs_sub_le i j
  omega
theorem Bd.neg {n : Nat} {i : Int} (hi : Bd n i) : Bd n (-i) := by unfold Bd at *; rw [Int.natAbs_neg]; exact hi
theorem Bd.fit {n : Nat} {i : Int} (hi : Bd n i) (h : n ≤ 8000 := by decide) : Fit i := Nat.lt_of_lt_of_le hi (Nat.pow_le_pow_right (by decide) h)
theorem Bd.of {i : Int} (h1 : -1606938044258990275541962092341162602522202993782792835301376 < i) (h2 : i < 1606938044258990275541962092341162602522202993782792835301376) : Bd 200 i := by
  unfold Bd
  have e : (2 ^ 200 : Nat) = 1606938044258990275541962092341162602522202993782792835301376 := by decide
  rw [e]
  omega
theorem Fit.o {i : Int} (h1 : -1606938044258990275541962092341162602522202993782792835301376 < i) (h2 : i < 1606938044258990275541962092341162602522202993782792835301376) : Fit i := (Bd.of h1 h2).fit
end L2
/-! EXTENSION E: calls with keywords that may raise. -/
namespace L2
open PySem PySem.Spec PyProof.Rows
/-- n arguments by place, m by name -/
def gk {α : Type} (n m : Nat) (us ws : List α) : List α := if us.length = n ∧ ws.length = m then us ++ ws else []
def AtK (K : PySem.W.Frag) (mg : Str → Option Value) (x : Str) (st : Stmt) (ps ks : List Str) (n m : Nat) : Prop :=
  ∃ f fd dV, FunD K x x st f fd dV ∧ mg x = some (.ref f) ∧ KBinds K fd ps ks (gk n m) (gk n m)
def DefOkK (P : Program) (w : World) (K : PySem.W.Frag) (mg : Str → Option Value) (base : Heap) (CX : CXT) (k : Nat) (x : Str) (ps ks : List Str) (n m : Nat) (sp : Sp) : Prop :=
  ∃ f fd, FnOk P w K mg base CX k f fd ps sp ∧ mg x = some (.ref f) ∧ PySem.W.keepIn K (.ref f) = true ∧ KBinds K fd ps ks (gk n m) (gk n m)
section
variable {P : Program} {w : World} {K : PySem.W.Frag} {mg : Str → Option Value} {base : Heap}
theorem AtK.okX {x : Str} {st : Stmt} {N ps ks : List Str} {n m k : Nat} {sp : Sp} (F : AtK K mg x st ps ks n m) (S : FnScope N ps (defScope st)) (len : ∀ vs H Q E, sp vs H Q E → vs.length = ps.length)
    (hbody : ∀ (f : Addr) (cdv : Value) (A : Around) (outer : List Env) (s : Shared) (H : Hp) (vs : List V) (Q : VK) (E : XK), Room k (A.deeper (envOfC x (defScope st) s.heap.objs.size f cdv)) → sp vs H Q E →
      ∃ t, PSs (cxX P w K mg base N x (defScope st) f cdv A outer s H E) (defBody st) t ∧ t { nx := fun _ H' => Q .non H', rt := Q } (start N vs) H) : DefOkK P w K mg base (XOk P w) (k + 1) x ps ks n m sp := by
  obtain ⟨f, fd, dV, F1, hm, hb⟩ := F
  exact ⟨f, fd, F1.okX S len (hbody f), hm, F1.kp, hb⟩
end
section
variable {X : Cx} {k n m : Nat} {ps ks : List Str} {sp : Sp} {x : Str} {p pos : Pos} {e : Expr} {es : List Expr} {kws : List Keyword} {t tk : TA}
end
end L2
namespace L2
open PySem PySem.Spec PyProof.Rows
theorem ix_tupK {X : Cx} {K : PySem.W.Frag} (h : X.K = K) : IxR X (rIxT K) := h ▸ ix_tup
end L2
namespace L2
open PySem PySem.Spec PyProof.Rows
end L2
/-! EXTENSION F: readings folded. -/
namespace L2
open PySem
theorem ixT {K : PySem.W.Frag} {H : Hp} {r : Addr} {xs : List V} {i : Int} {v : V} {Q : VK} (k : SqT K H r xs) (e : atI xs i = some v) (q : Q v H) : rIxT K (.ref r) (.int i) H Q := ⟨r, xs, i, v, rfl, rfl, k, e, q⟩
theorem ixL {K : PySem.W.Frag} {H : Hp} {r : Addr} {xs : List V} {i : Int} {v : V} {Q : VK} (k : SqL K H r xs) (e : atI xs i = some v) (q : Q v H) : rIxL K (.ref r) (.int i) H Q := ⟨r, xs, i, v, rfl, rfl, k, e, q⟩
/-- the turns of a for -/
def ForG (J : It) (g : TG) (tb : TS) (D : Ends) (σ : St) (H1 : Hp) : Prop := ∃ W : Nat → Nat → St → Hp → Prop, (∃ m, W 0 m σ H1) ∧ ∀ i m σ H, W i m σ H →
  (J.stop i H ∧ D.nx σ H) ∨ (J.go i H ∧ ∃ N : St → Hp → Prop, (∀ σ' H', N σ' H' → ∃ m', m' < m ∧ W (i + 1) m' σ' H') ∧ ∀ x H', J.yld i H x H' → g x σ H' fun σ2 H2 => tb { D with nx := N, ct := N, bk := D.nx } σ2 H2)
section
variable {K : PySem.W.Frag} {ta : TA} {tl : TE} {g : TG} {tb : TS} {D : Ends} {σ : St} {H : Hp} {ix : List Nat} {tt : TT} {te : TE} {Q : VK}
theorem tFor_R1 : tFor (iRng1 ta) g tb D σ H = ta σ H fun vs H1 => ∃ j : Int, vs = [.int j] ∧ -(2 ^ 62) ≤ j ∧ j < 2 ^ 62 ∧ ForG (Itr 0 j.toNat) g tb D σ H1 := rfl
theorem tFor_R2 : tFor (iRng2 ta) g tb D σ H = ta σ H fun vs H1 => ∃ i j : Int, vs = [.int i, .int j] ∧ (-(2 ^ 62) ≤ i ∧ i < 2 ^ 62 ∧ -(2 ^ 62) ≤ j ∧ j < 2 ^ 62) ∧ ForG (Itr i (j - i).toNat) g tb D σ H1 := rfl
theorem tFor_L : tFor (iList K tl) g tb D σ H = tl σ H fun x H1 => ∃ a, x = .ref a ∧ (∃ xs, SqL K H1 a xs) ∧ ForG (Itl K a) g tb D σ H1 := rfl
theorem tFor_T : tFor (iTup K tl) g tb D σ H = tl σ H fun x H1 => ∃ a, x = .ref a ∧ (∃ xs, SqT K H1 a xs) ∧ ForG (Itt K a) g tb D σ H1 := rfl
theorem tComp_R1 : tComp (iRng1 ta) ix g tt te σ H Q = ta σ H fun vs H1 => ∃ j : Int, vs = [.int j] ∧ -(2 ^ 62) ≤ j ∧ j < 2 ^ 62 ∧ ∀ acc, H1 acc = none → CompGo (Itr 0 j.toNat) (slotsAt σ ix) g tt te acc (fun H' => Q (.ref acc) H') H1 := rfl
theorem tComp_R2 : tComp (iRng2 ta) ix g tt te σ H Q = ta σ H fun vs H1 => ∃ i j : Int, vs = [.int i, .int j] ∧ (-(2 ^ 62) ≤ i ∧ i < 2 ^ 62 ∧ -(2 ^ 62) ≤ j ∧ j < 2 ^ 62) ∧ ∀ acc, H1 acc = none → CompGo (Itr i (j - i).toNat) (slotsAt σ ix) g tt te acc (fun H' => Q (.ref acc) H') H1 := rfl
theorem tComp_L : tComp (iList K tl) ix g tt te σ H Q = tl σ H fun x H1 => ∃ a, x = .ref a ∧ (∃ xs, SqL K H1 a xs) ∧ ∀ acc, H1 acc = none → CompGo (Itl K a) (slotsAt σ ix) g tt te acc (fun H' => Q (.ref acc) H') H1 := rfl
theorem tComp_T : tComp (iTup K tl) ix g tt te σ H Q = tl σ H fun x H1 => ∃ a, x = .ref a ∧ (∃ xs, SqT K H1 a xs) ∧ ∀ acc, H1 acc = none → CompGo (Itt K a) (slotsAt σ ix) g tt te acc (fun H' => Q (.ref acc) H') H1 := rfl
theorem FoR.lst {P : Prop} {a : Addr} {xs : List V} (k : SqL K H a xs) (h : P) : (∃ xs, SqL K H a xs) ∧ P := ⟨⟨xs, k⟩, h⟩
theorem FoR.tup {P : Prop} {a : Addr} {xs : List V} (k : SqT K H a xs) (h : P) : (∃ xs, SqT K H a xs) ∧ P := ⟨⟨xs, k⟩, h⟩
/-- len -/
theorem FoR.len {P : List V → Prop} {a : Addr} {xs : List V} (k : SqL K H a xs) (h : P xs) : ∃ x, (SqL K H a x ∨ SqT K H a x) ∧ P x := ⟨xs, .inl k, h⟩
theorem FoR.lenT {P : List V → Prop} {a : Addr} {xs : List V} (k : SqT K H a xs) (h : P xs) : ∃ x, (SqL K H a x ∨ SqT K H a x) ∧ P x := ⟨xs, .inr k, h⟩
end
end L2
/-! EXTENSION G: comprehensions whose items are told. -/
namespace L2
open PySem PySem.Spec PyProof.Rows
theorem Same.keepN {H H' : Hp} {p : Addr} (h : Same H H') (n : H p = none) (o : HO) : Same H (upd H' p o) := fun b u q => by rw [upd_ne (ne_of_none q n)]; exact h b u q
theorem Same.noneN {H H' : Hp} {p : Addr} (h : Same H H') (n : H' p = none) : H p = none := by
  cases e : H p with
  | none => rfl
  | some o =>
    have z := h _ _ e
    rw [n] at z
    cases z
theorem lt_line {n : Nat} (h : n < 1000) : n < sizeLine := Nat.lt_of_lt_of_le h (by decide)
section
variable {ρ : St} {te : TE} {tt : TT} {acc : Addr} {Z : Hp → Prop} {H1 : Hp}
theorem compR {lo : Int} {n : Nat} (f : Nat → V) (hn : n < 1000) (hacc : H1 acc = none)
    (hs : ∀ (i : Nat) (H3 : Hp) (R : V → Hp → Prop), i < n → Same H1 H3 → (∀ H4, Same H3 H4 → R (f i) H4) → te (some (.int (lo + i)) :: ρ) H3 R)
    (hd : ∀ H', Same H1 H' → H' acc = some (.lst ((List.range n).map f)) → Z H') : CompGo (Itr lo n) ρ (gName 0) tNoIf te acc Z H1 := by
  refine comp_range (fun i xs H => Same H1 H ∧ H acc = some (.lst xs) ∧ xs = (List.range i).map f) ⟨Same.new hacc _, upd_same, rfl⟩ ?_ ?_
  · rintro i xs H hi ⟨g1, g2, rfl⟩
    refine hs i H _ hi g1 fun H4 s4 => ⟨s4 _ _ g2, lt_line ?_, Same.keepN (g1.trans s4) hacc _, upd_same, ?_⟩
    · rw [List.length_map, List.length_range]
      omega
    · rw [List.range_succ, List.map_append]
      rfl
  · rintro xs H ⟨g1, g2, rfl⟩
    exact hd H g1 g2
/-- with a test -/
theorem compRif {lo : Int} {n : Nat} (f : Nat → V) (c : Nat → Bool) (hn : n < 1000) (hacc : H1 acc = none)
    (ht : ∀ (i : Nat) (H3 : Hp) (R : Bool → Hp → Prop), i < n → Same H1 H3 → (∀ H4, Same H3 H4 → R (c i) H4) → tt (some (.int (lo + i)) :: ρ) H3 R)
    (hs : ∀ (i : Nat) (H3 : Hp) (R : V → Hp → Prop), i < n → c i = true → Same H1 H3 → (∀ H4, Same H3 H4 → R (f i) H4) → te (some (.int (lo + i)) :: ρ) H3 R)
    (hd : ∀ H', Same H1 H' → H' acc = some (.lst (((List.range n).filter c).map f)) → Z H') : CompGo (Itr lo n) ρ (gName 0) tt te acc Z H1 := by
  refine ⟨fun i m xs H => (Same H1 H ∧ H acc = some (.lst xs) ∧ xs = ((List.range i).filter c).map f) ∧ i ≤ n ∧ m = n - i, ⟨n, ⟨Same.new hacc _, upd_same, rfl⟩, Nat.zero_le _, rfl⟩, ?_⟩
  rintro i m xs H ⟨⟨g1, g2, rfl⟩, hi, rfl⟩
  have hl : (((List.range i).filter c).map f).length < sizeLine := lt_line (by
    rw [List.length_map]
    have := List.length_filter_le c (List.range i)
    rw [List.length_range] at this
    omega)
  by_cases hlt : i < n
  · refine .inr ⟨hlt, (fun y H4 => y = f i ∧ c i = true ∧ Same H1 H4 ∧ H4 acc = some (.lst (((List.range i).filter c).map f))), fun H3 => c i = false ∧ Same H1 H3 ∧ H3 acc = some (.lst (((List.range i).filter c).map f)), ?_, ?_, ?_⟩
    · rintro y H4 ⟨rfl, ci, s4, a4⟩
      refine ⟨a4, hl, n - (i + 1), by omega, ⟨Same.keepN s4 hacc _, upd_same, ?_⟩, hlt, rfl⟩
      rw [List.range_succ, List.filter_append, List.map_append, List.filter_cons, if_pos ci]
      rfl
    · rintro H3 ⟨ci, s3, a3⟩
      refine ⟨n - (i + 1), by omega, ⟨s3, a3, ?_⟩, hlt, rfl⟩
      rw [List.range_succ, List.filter_append, List.map_append, List.filter_cons, if_neg (by rw [ci]; decide)]
      simp
    · rintro v0 x H' ⟨rfl, rfl⟩
      refine ⟨⟨_, rfl⟩, ht i H' _ hlt g1 fun H4 s4 => ?_⟩
      cases ci : c i with
      | true => exact if_pos rfl ▸ hs i H4 _ hlt ci (g1.trans s4) fun H5 s5 => ⟨rfl, rfl, g1.trans (s4.trans s5), s5 _ _ (s4 _ _ g2)⟩
      | false => exact ⟨rfl, g1.trans s4, s4 _ _ g2⟩
  · have : i = n := by omega
    subst this
    exact .inl ⟨Nat.le_refl _, hd H g1 g2⟩
theorem compT {K : PySem.W.Frag} {a : Addr} {zs : List V} (f : V → V) (hn : zs.length < 1000) (hacc : H1 acc = none) (hz : SqT K H1 a zs)
    (hs : ∀ (z : V) (H3 : Hp) (R : V → Hp → Prop), z ∈ zs → Same H1 H3 → (∀ H4, Same H3 H4 → R (f z) H4) → te (some z :: ρ) H3 R)
    (hd : ∀ H', Same H1 H' → H' acc = some (.lst (zs.map f)) → Z H') : CompGo (Itt K a) ρ (gName 0) tNoIf te acc Z H1 := by
  refine comp_tup (zs := zs) (fun i xs H => Same H1 H ∧ H acc = some (.lst xs) ∧ xs = (zs.take i).map f) ⟨Same.new hacc _, upd_same, rfl⟩ (fun i xs H _ h => h.1.tup hz) ?_ ?_
  · rintro i z xs H hi ⟨g1, g2, rfl⟩
    refine hs z H _ (List.mem_of_getElem? hi) g1 fun H4 s4 => ⟨s4 _ _ g2, lt_line ?_, Same.keepN (g1.trans s4) hacc _, upd_same, ?_⟩
    · rw [List.length_map, List.length_take]
      omega
    · rw [List.take_add_one, hi, List.map_append]
      rfl
  · rintro xs H ⟨g1, g2, rfl⟩
    rw [List.take_length] at g2
    exact hd H g1 g2
theorem compL {K : PySem.W.Frag} {a : Addr} {zs : List V} (f : V → V) (hn : zs.length < 1000) (hacc : H1 acc = none) (hz : SqL K H1 a zs)
    (hs : ∀ (z : V) (H3 : Hp) (R : V → Hp → Prop), z ∈ zs → Same H1 H3 → (∀ H4, Same H3 H4 → R (f z) H4) → te (some z :: ρ) H3 R)
    (hd : ∀ H', Same H1 H' → H' acc = some (.lst (zs.map f)) → Z H') : CompGo (Itl K a) ρ (gName 0) tNoIf te acc Z H1 := by
  refine comp_list (zs := zs) (fun i xs H => Same H1 H ∧ H acc = some (.lst xs) ∧ xs = (zs.take i).map f) ⟨Same.new hacc _, upd_same, rfl⟩ (fun i xs H _ h => h.1.seq hz) ?_ ?_
  · rintro i z xs H hi ⟨g1, g2, rfl⟩
    refine hs z H _ (List.mem_of_getElem? hi) g1 fun H4 s4 => ⟨s4 _ _ g2, lt_line ?_, Same.keepN (g1.trans s4) hacc _, upd_same, ?_⟩
    · rw [List.length_map, List.length_take]
      omega
    · rw [List.take_add_one, hi, List.map_append]
      rfl
  · rintro xs H ⟨g1, g2, rfl⟩
    rw [List.take_length] at g2
    exact hd H g1 g2
end
end L2
/-! EXTENSION H: == and != of lists and tuples of ints, and of lists of such. -/
namespace L2
open PySem PySem.Spec PyProof.Rows
section
variable {K : PySem.W.Frag} {H : Hp} {a b : Addr} {Q : VK}
theorem shapedT (ns : List Int) : SeqAt.shaped (.tuple (ns.map PyData.int)) = true := by
  simp [SeqAt.shaped, PyData.canLay0, PyData.depth, PySem.W.ke_canLayAll0, PySem.W.ke_depthAll]
theorem eqT_ints {x y : List Int} (h1 : SqT K H a (x.map V.int)) (h2 : SqT K H b (y.map V.int)) (q : Q (.bl (decide (x = y))) H) : rEqD K false (.ref a) (.ref b) H Q :=
  ⟨.tuple (x.map PyData.int), .tuple (y.map PyData.int), .tup h1 (RdsAll.ints _), .tup h2 (RdsAll.ints _), shapedT _, shapedT _, by
    have e : PyData.eqv (.tuple (x.map PyData.int)) (.tuple (y.map PyData.int)) = decide (x = y) := PySem.W.ked_eqvAll x y
    simp only [Bool.false_eq_true, if_false, e]
    exact q⟩
theorem neT_ints {x y : List Int} (h1 : SqT K H a (x.map V.int)) (h2 : SqT K H b (y.map V.int)) (q : Q (.bl (!decide (x = y))) H) : rEqD K true (.ref a) (.ref b) H Q :=
  ⟨.tuple (x.map PyData.int), .tuple (y.map PyData.int), .tup h1 (RdsAll.ints _), .tup h2 (RdsAll.ints _), shapedT _, shapedT _, by
    have e : PyData.eqv (.tuple (x.map PyData.int)) (.tuple (y.map PyData.int)) = decide (x = y) := PySem.W.ked_eqvAll x y
    simp only [if_true, e]
    exact q⟩
/-- tuples of ints behind a row of references -/
def TupsAt (K : PySem.W.Frag) (H : Hp) (vs : List V) (nss : List (List Int)) : Prop := vs.length = nss.length ∧ ∀ (i : Nat) (v : V) (ns : List Int), vs[i]? = some v → nss[i]? = some ns → ∃ p, v = .ref p ∧ SqT K H p (ns.map V.int)
def tupD (nss : List (List Int)) : List PyData := nss.map fun ns => .tuple (ns.map PyData.int)
theorem TupsAt.nil : TupsAt K H [] [] := ⟨rfl, fun i v ns h => by simp at h⟩
theorem FoR.app {X : Prop} {L : Addr} {ps : List V} {x : V} {R : VK} (h : H L = some (.lst ps)) (hl : ps.length < sizeLine) (q : R .non (upd H L (.lst (ps ++ [x])))) : ((∃ xs, SqL K H L xs) ∨ X) ∧ rAppend (.ref L) [x] H R :=
  ⟨.inl ⟨_, SqL.of h⟩, L, ps, x, rfl, rfl, h, hl, q⟩
end
end L2
/-! EXTENSION I: sum and min of a list of ints. -/
namespace L2
open PySem PySem.Spec PyProof.Rows
end L2
namespace L2
open PySem PySem.Spec PyProof.Rows
/-- tuple(a list) -/
theorem FoR.tupOf {K : PySem.W.Frag} {H : Hp} {p : Addr} {ys : List V} {X : Prop} {R : Addr → Hp → Prop} (k : SqL K H p ys) (h : ∀ t H', Same H H' → H' t = some (.tup ys) → R t H') : ∃ ys, (SqL K H p ys ∧ ∀ l, H l = none → R l (upd H l (.tup ys))) ∨ (SqT K H p ys ∧ R p H) :=
  ⟨ys, .inl ⟨k, fun l hl => h l _ (Same.new hl _) upd_same⟩⟩
end L2
namespace L2
open PySem PySem.Spec PyProof.Rows
theorem se_tup {es : List Expr} {k : Nat} {rest : List Expr} {pos : Pos} {env : Env} : starEach (.Tuple es k pos :: rest) env = (false, eval (.Tuple es k pos) env) :: starEach rest env := by
  rw [starEach]
  intro e p h
  cases h
theorem se_con {c : Const} {k : Nat} {rest : List Expr} {pos : Pos} {env : Env} : starEach (.Constant c k pos :: rest) env = (false, eval (.Constant c k pos) env) :: starEach rest env := by
  rw [starEach]
  intro e p h
  cases h
theorem se_un {op : UnaryOp} {a : Expr} {rest : List Expr} {pos : Pos} {env : Env} : starEach (.UnaryOp op a pos :: rest) env = (false, eval (.UnaryOp op a pos) env) :: starEach rest env := by
  rw [starEach]
  intro e p h
  cases h
theorem se_nam {x : Str} {rest : List Expr} {pos : Pos} {env : Env} : starEach (.Name x pos :: rest) env = (false, eval (.Name x pos) env) :: starEach rest env := by
  rw [starEach]
  intro e p h
  cases h
theorem se_cal {a : Expr} {es : List Expr} {ks : List Keyword} {rest : List Expr} {pos : Pos} {env : Env} : starEach (.Call a es ks pos :: rest) env = (false, eval (.Call a es ks pos) env) :: starEach rest env := by
  rw [starEach]
  intro e p h
  cases h
theorem se_bin {a b : Expr} {op : Operator} {rest : List Expr} {pos : Pos} {env : Env} : starEach (.BinOp a op b pos :: rest) env = (false, eval (.BinOp a op b pos) env) :: starEach rest env := by
  rw [starEach]
  intro e p h
  cases h
theorem se_sub {a b : Expr} {rest : List Expr} {pos : Pos} {env : Env} : starEach (.Subscript a b pos :: rest) env = (false, eval (.Subscript a b pos) env) :: starEach rest env := by
  rw [starEach]
  intro e p h
  cases h
theorem se_lst {es : List Expr} {rest : List Expr} {pos : Pos} {env : Env} : starEach (.List es pos :: rest) env = (false, eval (.List es pos) env) :: starEach rest env := by
  rw [starEach]
  intro e p h
  cases h
theorem se_cmp {a : Expr} {gs : List Comprehension} {sc : Scope} {rest : List Expr} {pos : Pos} {env : Env} : starEach (.ListComp a gs sc pos :: rest) env = (false, eval (.ListComp a gs sc pos) env) :: starEach rest env := by
  rw [starEach]
  intro e p h
  cases h
theorem se_cmpr {a : Expr} {os : List CmpOp} {es : List Expr} {rest : List Expr} {pos : Pos} {env : Env} : starEach (.Compare a os es pos :: rest) env = (false, eval (.Compare a os es pos) env) :: starEach rest env := by
  rw [starEach]
  intro e p h
  cases h
end L2
/-! EXTENSION J: the promises as structures (a text that begins with a long list of written tuples is else run while it is read). -/
namespace L2
open PySem PySem.Spec PyProof.Rows
structure WE (X : Cx) (e : Expr) (t : TE) : Prop where
  h : PE X e t
structure WA (X : Cx) (es : List Expr) (t : TA) : Prop where
  h : PA X es t
structure WS (X : Cx) (st : Stmt) (t : TS) : Prop where
  h : PS X st t
structure WSs (X : Cx) (st : List Stmt) (t : TS) : Prop where
  h : PSs X st t
section
variable {X : Cx} {pos : Pos}
theorem wss_cons {st : Stmt} {rest : List Stmt} {t u : TS} (h1 : WS X st t) (h2 : WSs X rest u) : WSs X (st :: rest) (tSeq t u) := ⟨pss_cons h1.h h2.h⟩
theorem wss_one {st : Stmt} {t : TS} (h : WS X st t) : WSs X [st] t := ⟨pss_one h.h⟩
theorem ws_asg {tg e : Expr} {te : TE} {g : TG} (he : WE X e te) (hg : PG X tg g) (hs : swapsWithSole [tg] e pos.line X.env = pure false := by rfl) (hw : swappedStores [tg] e X.env = pure none := by rfl)
    (h1 : (assignEach [tg] X.env).map (·.2) = [assign tg X.env] := by rfl) : WS X (.Assign [tg] e pos) (tAsg te g) := ⟨ps_asg he.h hg hs hw h1⟩
theorem ws_ret {e : Expr} {te : TE} (he : WE X e te) : WS X (.Return (some e) pos) (tRet te) := ⟨ps_ret he.h⟩
theorem ws_if {e : Expr} {tt : TT} {b1 b2 : List Stmt} {t1 t2 : TS} (h : PT X e tt) (h1 : WSs X b1 t1) (h2 : WSs X b2 t2) : WS X (.If e b1 b2 pos) (tIfS tt t1 t2) := ⟨ps_if h h1.h h2.h⟩
theorem we_ix {r : R2} {a b : Expr} {ta tb : TE} (hr : IxR X r) (ha : WE X a ta) (hb : PE X b tb) (hs : PlainIx b) : WE X (.Subscript a b pos) (tOp r ta tb) := ⟨pe_ix hr ha.h hb hs⟩
theorem we_lst {es : List Expr} {t : TA} (h : WA X es t) : WE X (.List es pos) (tLst t) := ⟨pe_lst h.h⟩
theorem we_tup {es : List Expr} {k : Nat} {t : TA} (h : WA X es t) : WE X (.Tuple es k pos) (tTup t) := ⟨pe_tup h.h⟩
theorem wa_nil : WA X [] tNil := ⟨pa_nil⟩
theorem wa_cons {e : Expr} {es : List Expr} {te : TE} {t : TA} (ha : WE X e te) (hr : WA X es t) (hs : starEach (e :: es) X.env = (false, eval e X.env) :: starEach es X.env) : WA X (e :: es) (tCons te t) := ⟨pa_cons ha.h hr.h hs⟩
end
section
variable {P : Program} {w : World} {K : PySem.W.Frag} {mg : Str → Option Value} {base : Heap}
theorem At.okW {x : Str} {st : Stmt} {N ps : List Str} {dvs : List V} {k : Nat} {sp : Sp} (F : At K mg x st ps dvs) (S : FnScope N ps (defScope st)) (len : ∀ vs H Q E, sp vs H Q E → vs.length = ps.length)
    (hbody : ∀ (f : Addr) (cdv : Value) (A : Around) (outer : List Env) (s : Shared) (H : Hp) (vs : List V) (Q : VK) (E : XK), Room k (A.deeper (envOfC x (defScope st) s.heap.objs.size f cdv)) → sp vs H Q E →
      ∃ t, WSs (cxOf CX0 P w K mg base N x (defScope st) f cdv A outer s H E).nox (defBody st) t ∧ t { nx := fun _ H' => Q .non H', rt := Q } (start N vs) H) : DefOk P w K mg base CX0 (k + 1) x ps dvs sp :=
  F.ok S len fun f cdv A outer s H vs Q E hr h => let ⟨t, h1, h2⟩ := hbody f cdv A outer s H vs Q E hr h; ⟨t, h1.h, h2⟩
end
end L2
/-! EXTENSION K: xs[:c] = ys. -/
namespace L2
open PySem PySem.Spec PyProof.Rows
section
variable {prog : Program} {w : World} {A : Around} {E : Value → Shared → Prop} {s : Shared}
end
section
variable {X : Cx} {pos p2 : Pos}
def gSl0 (to : TE) (tl th : TO) : TG := fun v σ H Q => to σ H fun o H1 => tl σ H1 fun lo H2 => th σ H2 fun hi H3 => lo = none ∧ ∃ (c : Nat) (l b : Addr) (xs ys : List V), hi = some (c : Int) ∧ o = .ref l ∧ v = .ref b ∧ l ≠ b ∧ H3 l = some (.lst xs) ∧ H3 b = some (.lst ys) ∧ c ≤ xs.length ∧ xs.length + ys.length ≤ sizeLine ∧ Q σ (upd H3 l (.lst (ys ++ xs.drop c)))
end
end L2
namespace L2
open PySem PySem.Spec PyProof.Rows
section
variable {ρ : St} {te : TE} {tt : TT} {acc : Addr} {Z : Hp → Prop} {H1 : Hp}
end
end L2
/-! EXTENSION L: comprehensions whose items are references of which something is known, and filters by place. -/
namespace L2
open PySem PySem.Spec PyProof.Rows
section
variable {X : Cx}
end
section
variable {ρ : St} {te : TE} {tt : TT} {acc : Addr} {Z : Hp → Prop} {H1 : Hp}
/-- all tuples stay -/
def SameT (H H' : Hp) : Prop := ∀ a xs, H a = some (.tup xs) → H' a = some (.tup xs)
theorem Same.t {H H' : Hp} (s : Same H H') : SameT H H' := fun a xs h => s a _ h
theorem SameT.trans {H H' J : Hp} (s : SameT H H') (t : SameT H' J) : SameT H J := fun a xs h => t a xs (s a xs h)
theorem SameT.refl (H : Hp) : SameT H H := fun _ _ h => h
theorem SameT.upd {H : Hp} {a : Addr} {xs ys : List V} (h : H a = some (.lst xs)) : SameT H (upd H a (.lst ys)) := fun b zs hb => by
  have ne : b ≠ a := fun e => by
    subst e
    rw [h] at hb
    cases hb
  rw [upd_ne ne]
  exact hb
def Stab (p : Nat → V → Hp → Prop) : Prop := ∀ i y H H', p i y H → SameT H H' → p i y H'
end
end L2
/-! EXTENSION M: texts: walked, compared, repeated, cut; a def without parameters. -/
namespace L2
open PySem PySem.Spec PyProof.Rows
section
variable {X : Cx} {tg : Expr}
def Asc (x : Str) : Prop := (x.cps.all fun c => decide (c < 128)) = true
/-- the signs of a text -/
def Its (x : Str) : It := ⟨fun i _ => i < x.cps.size, fun i H v H' => H' = H ∧ ∃ c, x.cps[i]? = some c ∧ v = .str ⟨#[c]⟩, fun i _ => x.cps.size ≤ i⟩
def iStr (tl : TE) : TI := fun σ H R => tl σ H fun v H1 => ∃ x, v = .str x ∧ Asc x ∧ R (Its x) H1
end
section
variable {X : Cx} {e : Expr} {lo hi : Option Expr} {te : TE} {tl th : TO} {pos p2 : Pos}
def rSlS : V → Option Int → Option Int → Hp → VK → Prop := fun x l u H Q => ∃ z, x = .str z ∧ z.length ≤ sizeLine ∧ (l = none ∧ u ≠ none ∨ l ≠ none ∧ u = none) ∧ Q (.str (Txt.slice z l u)) H
end
section
variable {X : Cx} {CX : CXT} {k : Nat} {x : Str} {ps : List Str} {dvs : List V} {sp : Sp} {E : XK} {p pos : Pos}
end
section
variable {tl : TE} {g : TG} {tb : TS} {D : Ends} {σ : St} {H : Hp} {ix : List Nat} {tt : TT} {te : TE} {Q : VK}
theorem tFor_S : tFor (iStr tl) g tb D σ H = tl σ H fun v H1 => ∃ x, v = .str x ∧ Asc x ∧ ForG (Its x) g tb D σ H1 := rfl
theorem tComp_S : tComp (iStr tl) ix g tt te σ H Q = tl σ H fun v H1 => ∃ x, v = .str x ∧ Asc x ∧ ∀ acc, H1 acc = none → CompGo (Its x) (slotsAt σ ix) g tt te acc (fun H' => Q (.ref acc) H') H1 := rfl
end
section
variable {ρ : St} {te : TE} {acc : Addr} {Z : Hp → Prop} {H1 : Hp}
end
end L2
namespace L2
open PySem PySem.Spec PyProof.Rows
theorem lri_len : typeLookup (.type "list_reverseiterator") "__len__" = pure none := by with_unfolding_all rfl
theorem lri_hint : typeLookup (.type "list_reverseiterator") "__length_hint__" = pure (some (.builtin "list_reverseiterator.__length_hint__")) := by with_unfolding_all rfl
theorem hint_rev {M : Model} {A : Around} {E : Value → Shared → Prop} {s : Shared} {Q : Bool → Shared → Prop} {I l : Addr} {i : Int} (h : s.heap.IsRevIter I l i) (q : Q false s) : wpAny M A (Builtin.List.listLengthHint (.ref I)) Q E s := by
  obtain ⟨o, ho, hc, hd⟩ := h
  have ty : s.TypeIs (.ref I) "list_reverseiterator" := ⟨o, ho, hc⟩
  unfold Builtin.List.listLengthHint
  refine wpAny_bind (wpAny_specialOf ty lri_len ?_)
  dsimp only
  refine wpAny_ite_split (fun c => absurd c (by decide)) fun _ => ?_
  refine wpAny_ite_split (fun c => absurd c (by decide)) fun _ => ?_
  refine wpAny_bind (wpAny_specialOf ty lri_hint ?_)
  dsimp only
  have sp : splitId "list_reverseiterator.__length_hint__" = some ("list_reverseiterator", "__length_hint__") := by decide +kernel
  rw [sp]
  dsimp only
  refine wpAny_bind (wpAny_isInstance (b := true) ty (by with_unfolding_all rfl) ?_)
  refine wpAny_ite_split (fun c => absurd c (by decide)) fun _ => ?_
  refine wpAny_ite_split (fun c => ?_) fun c => absurd c (by decide)
  refine wpAny_ite_split (fun c => absurd c (by decide)) fun _ => ?_
  exact wpAny_pure q









theorem extend_rev {prog : Program} {w : World} {A : Around} {s : Shared} {R : Result → Shared → Prop} {I l : Addr} {items : Array Value} (hh : A.handled = none) (hne : l ≠ I) (S : Addr) (res : Value) (c₀ : Nat) (hI : s.heap.IsRevIter I l ((items.size : Int) - 1)) (hl : s.heap.IsList l items) (hS : S ≠ I) (hSl : S ≠ l)
    (e : s.heap.get? S = some { cls := .type "list", data := .seq #[] c₀ }) (hz : items.size ≤ sizeLine)
    (q : ∀ (h' : Heap) (tk : Nat) (acc' : Array Value) (c' : Nat), (∀ b o, b ≠ S → b ≠ I → s.heap.get? b = some o → h'.get? b = some o) → h'.get? S = some { cls := .type "list", data := .seq acc' c' } → ItemsOf (fun i v => items[items.size - 1 - i]? = some v) acc' items.size → R (.ok (.ret res)) { s with heap := h', toks := tk }) :
    wpAny (model prog w) A.in1 (Builtin.List.listExtendWith (.ref S) (.ref I) res)
      (fun fin s' => match fin with | .done f => R (.ok f) s' | .again c' => c'.quiet = true ∧ codeAny (model prog w) A c' R s') (fun e s' => R (.error e) s') s := by
  obtain ⟨o, ho, hc, hd⟩ := id hI
  have ty : s.TypeIs (.ref I) "list_reverseiterator" := ⟨o, ho, hc⟩
  unfold Builtin.List.listExtendWith
  refine wpAny_bind (wpAny_typeOf ty ?_)
  refine wpAny_ite_split (fun c => ?_) fun _ => ?_
  · exfalso
    have e1 : Builtin.List.listSameRef (.ref S) (.ref I) = false := by
      simp [Builtin.List.listSameRef, hS]
    rw [e1] at c
    revert c
    decide
  refine wpAny_bind (wpAny_pyIter_revIter hI ?_)
  refine wpAny_bind (wpAny_holding (hint_rev hI ?_))
  refine wpAny_ite_split (fun c => absurd c (by decide)) fun _ => ?_
  have W := (Walks.listRev (prog := prog) (w := w) (A := A.in1) hh I l hne items).toS
  refine wpAny_pure ⟨plainId_quiet F.plain_extend_loop _, ?_⟩
  refine codeAny_extend_loopS W hz S (by simp [hS, hSl]) res items.size 0 s #[] c₀ rfl (Nat.zero_le _) ⟨Nat.zero_le _, by simpa using hI, hl⟩ e ⟨rfl, fun j v h => by simp at h⟩ fun s' acc' c' mv e' it => ?_
  have eq := Moved.eq_with mv
  rw [eq]
  exact q s'.heap s'.toks acc' c' (fun b o h1 h2 e => mv.heap b o (by simp [h1, h2]) e) e' it






theorem init_rev {prog : Program} {w : World} {A : Around} {s : Shared} {R : Result → Shared → Prop} {I l : Addr} {items : Array Value} (hh : A.handled = none) (hne : l ≠ I) (S : Addr) (hI : s.heap.IsRevIter I l ((items.size : Int) - 1)) (hl : s.heap.IsList l items) (hS : S ≠ I) (hSl : S ≠ l)
    (e : s.heap.get? S = some { cls := .type "list", data := .seq #[] }) (hz : items.size ≤ sizeLine)
    (q : ∀ (h' : Heap) (tk : Nat) (acc' : Array Value) (c' : Nat), (∀ b o, b ≠ S → b ≠ I → s.heap.get? b = some o → h'.get? b = some o) → h'.get? S = some { cls := .type "list", data := .seq acc' c' } → ItemsOf (fun i v => items[items.size - 1 - i]? = some v) acc' items.size → R (.ok (.ret .none)) { s with heap := h', toks := tk }) :
    wpAny (model prog w) A.in1 (Builtin.«list.__init__» { pos := [.ref S, .ref I] })
      (fun fin s' => match fin with | .done f => R (.ok f) s' | .again c' => c'.quiet = true ∧ codeAny (model prog w) A c' R s') (fun e s' => R (.error e) s') s := by
  unfold Builtin.«list.__init__»
  dsimp only
  refine wpAny_ite_split (fun c => absurd c (by decide)) fun _ => ?_
  refine wpAny_ite_split (fun c => absurd c (by simp)) fun _ => ?_
  refine wpAny_bind (wpAny_bind (wpAny_seqItems e rfl (wpAny_pure ?_)))
  refine wpAny_bind (wpAny_updateSeq e rfl ?_ (by simp) (by simp))
  refine wpAny_bind (wpAny_letGo ?_)
  have eS := Heap.get?_update_self (Obj.mapSeq fun _ => (#[] : Array Value)) e rfl
  have eO : ∀ b, b ≠ S → (s.heap.update S (Obj.mapSeq fun _ => (#[] : Array Value))).get? b = s.heap.get? b := fun b hb => Heap.get?_update_other s.heap _ (Ne.symm hb)
  obtain ⟨o, ho, hc, hd⟩ := hI
  obtain ⟨o2, ho2, hc2, n2, hd2⟩ := hl
  refine extend_rev (s := { s with heap := s.heap.update S (Obj.mapSeq fun _ => (#[] : Array Value)) }) (items := items) hh hne S .none _ ⟨o, (eO I (Ne.symm hS)).trans ho, hc, hd⟩ ⟨o2, (eO l (Ne.symm hSl)).trans ho2, hc2, n2, hd2⟩ hS hSl eS hz fun h' tk acc' c' k e' it => ?_
  exact q h' tk acc' c' (fun b o h1 h2 hb => k b o h1 h2 ((eO b h1).trans hb)) e' it

theorem call_list_rev {prog : Program} {w : World} {A : Around} {E : Value → Shared → Prop} {s : Shared} {Q : Value → Shared → Prop} {I l : Addr} {items : Array Value} (hh : A.handled = none) (hne : l ≠ I) (hI : s.heap.IsRevIter I l ((items.size : Int) - 1)) (hl : s.heap.IsList l items) (hz : items.size ≤ sizeLine)
    (q : ∀ (h' : Heap) (tk : Nat) (acc' : Array Value) (c' : Nat), (∀ b o, b ≠ I → s.heap.get? b = some o → h'.get? b = some o) → h'.get? s.heap.objs.size = some { cls := .type "list", data := .seq acc' c' } → ItemsOf (fun i v => items[items.size - 1 - i]? = some v) acc' items.size → Q (.ref s.heap.objs.size) { s with heap := h', toks := tk }) :
    wpAny (model prog w) A (call (.type "list") [.ref I]) Q E s := by
  obtain ⟨o, ho, hc, hd⟩ := hI
  obtain ⟨o2, ho2, hc2, n2, hd2⟩ := hl
  have n1 : s.heap.objs.size ≠ I := Ne.symm (Nat.ne_of_lt (Heap.lt_size ho))
  have n2' : s.heap.objs.size ≠ l := Ne.symm (Nat.ne_of_lt (Heap.lt_size ho2))
  refine callType_codes F.called_list (F.typeCall_list_1 _) F.entry_list_init (Q₁ := fun obj s₁ => obj = .ref s.heap.objs.size ∧ s₁ = { s with heap := s.heap.push { cls := .type "list", data := .seq #[] } }) (code_list_new _ ⟨rfl, rfl⟩) ?_
  rintro obj s₁ ⟨rfl, rfl⟩
  have eS : (s.heap.push { cls := .type "list", data := .seq #[] }).get? s.heap.objs.size = some { cls := .type "list", data := .seq #[] } := Heap.get?_push_size _ rfl
  refine ⟨⟨_, eS, rfl⟩, F.args_list_init_2 _ _, ?_⟩
  refine init_rev (A := A.in1) (s := { s with heap := s.heap.push { cls := .type "list", data := .seq #[] } }) (items := items) hh hne s.heap.objs.size ⟨o, Heap.get?_push_of_some _ ho, hc, hd⟩ ⟨o2, Heap.get?_push_of_some _ ho2, hc2, n2, hd2⟩ n1 n2' eS hz fun h' tk acc' c' k e' it => ?_
  exact ⟨rfl, q h' tk acc' c' (fun b o h1 hb => k b o (Nat.ne_of_lt (Heap.lt_size hb)) h1 (Heap.get?_push_of_some _ hb)) e' it⟩
theorem Vals.app {xs ys : List V} {us vs : List Value} (h : Vals xs us) (k : Vals ys vs) : Vals (xs ++ ys) (us ++ vs) := by
  induction h with
  | nil => exact k
  | cons r _ ih => exact .cons r ih
theorem Vals.rev {xs : List V} {us : List Value} (h : Vals xs us) : Vals xs.reverse us.reverse := by
  induction h with
  | nil => exact .nil
  | cons r _ ih =>
    rw [List.reverse_cons, List.reverse_cons]
    exact Vals.app ih (.cons r .nil)
theorem items_rev {items acc : Array Value} (h : ItemsOf (fun i v => items[items.size - 1 - i]? = some v) acc items.size) : acc.toList = items.toList.reverse := by
  obtain ⟨h1, h2⟩ := h
  refine List.ext_getElem? fun i => ?_
  by_cases hi : i < items.size
  · have e : acc[i]? = some acc[i] := Array.getElem?_eq_getElem (by omega)
    have z := h2 i _ e
    rw [List.getElem?_reverse (by rw [Array.length_toList]; exact hi), Array.length_toList, Array.getElem?_toList, Array.getElem?_toList, e, z]
  · rw [List.getElem?_eq_none (by rw [Array.length_toList]; omega), List.getElem?_eq_none (by rw [List.length_reverse, Array.length_toList]; omega)]
section
variable {X : Cx} {e : Expr} {te : TE} {p p' pos pos' : Pos}
def tListRev (K : PySem.W.Frag) (te : TE) : TE := fun σ H Q => te σ H fun x H1 => ∃ a ys, x = .ref a ∧ SqL K H1 a ys ∧ ∀ l, H1 l = none → Q (.ref l) (upd H1 l (.lst ys.reverse))
theorem pe_listRev (hc : X.calm = true) (hg : Gl X "list") (hm : X.mg "list" = none) (hg' : Gl X "reversed") (hm' : X.mg "reversed" = none) (he : PE X e te)
    (h1 : starEach [e] X.env = [(false, eval e X.env)] := by rfl) (h2 : starEach [.Call (.Name "reversed" p') [e] [] pos'] X.env = [(false, eval (.Call (.Name "reversed" p') [e] [] pos') X.env)] := by rfl) :
    PE X (.Call (.Name "list" p) [.Call (.Name "reversed" p') [e] [] pos'] [] pos) (tListRev X.K te) := by
  intro pins s σ H Q I h
  refine wpAny_Call_Name_kw (ld_blt I hg hm boot_list ?_)
  refine PyProof.Rows.callWith_type1 ?_ h2 rfl
  rw [h2]
  show wpAny _ _ (spliced ((false, eval (.Call (.Name "reversed" p') [e] [] pos') X.env) :: [])) _ _ s
  refine Calls.spliced_cons ?_
  refine wpAny_Call_Name_kw (ld_blt I hg' hm' boot_reversed ?_)
  refine PyProof.Rows.callWith_type1 ?_ h1 rfl
  rw [h1]
  show wpAny _ _ (spliced ((false, eval e X.env) :: [])) _ _ s
  refine Calls.spliced_cons (thn (he pins s σ H _ I h) fun u s1 ⟨x, H1, I1, r1, q1⟩ => ?_)
  obtain ⟨a, ys, rfl, hq, q⟩ := q1
  cases r1
  obtain ⟨its, rv, pl, hz⟩ := I1.list hq
  have hlen := rv.length
  refine Calls.spliced_nil ?_
  refine call_reversed_list pl.isList ?_
  refine Calls.spliced_nil ?_
  have hla : a < s1.heap.objs.size := by
    obtain ⟨o, ho, _⟩ := pl.isList
    exact Heap.lt_size ho
  have hl' : (s1.heap.push (revObj a ((its.toArray.size : Int) - 1))).IsList a its.toArray := by
    obtain ⟨o, ho, hc', n, hd⟩ := pl.isList
    exact ⟨o, Heap.get?_push_of_some _ ho, hc', n, hd⟩
  refine call_list_rev (I1.ok.hd hc) (Nat.ne_of_lt hla) ⟨_, Heap.get?_push_size _ rfl, rfl, rfl⟩ hl' (by rw [List.size_toArray]; omega) fun h' tk acc' c' k e' it => ?_
  have er := items_rev it
  rw [List.toList_toArray] at er
  have kp : ∀ (b : Addr) (o : Obj), s1.heap.get? b = some o → h'.get? b = some o := fun b o hb => k b o (Nat.ne_of_lt (Heap.lt_size hb)) (Heap.get?_push_of_some _ hb)
  have sz : (s1.heap.push (revObj a ((its.toArray.size : Int) - 1))).objs.size = s1.heap.objs.size + 1 := by
    unfold Heap.push
    exact Array.size_push ..
  have hle : s1.heap.objs.size ≤ (s1.heap.push (revObj a ((its.toArray.size : Int) - 1))).objs.size := by omega
  refine ⟨.ref _, _, I1.laid (t' := tk) (o := .lst ys.reverse) kp hle ?_, rfl, q _ (I1.hok.fresh hle)⟩
  refine ⟨by rw [List.length_reverse]; exact hz, its.reverse, c', rv.rev, ?_⟩
  rw [e', ← er]
end
end L2
/-! EXTENSION N: comprehensions whose target is a tuple of names; lists joined that are only read; a mutable box. -/
namespace L2
open PySem PySem.Spec PyProof.Rows
structure CompScopeM (N : List Str) (sc : Scope) (N' : List Str) (ix : List Nat) (xs0 : List Str) (r : List Str) (cs : Scope) : Prop where
  eq : N' = xs0 ++ r
  kind : cs.kind = .function
  hcell : ∀ y ∈ cs.names, y.2 ≠ .cell
  hnames : ∀ y ∈ cs.names, y.2 = .local → cs.names.lookup y.1 = some .local
  nd : (xs0 ++ r).Nodup
  fr : ∀ y ∈ cs.names, y.2 = .free → sc.names.lookup y.1 = some .cell ∨ sc.names.lookup y.1 = some .free
  ixs : Ixs N sc cs r ix
def CompGoM (J : It) (n : Nat) (ρ : St) (g : TG) (tt : TT) (te : TE) (acc : Addr) (Z : Hp → Prop) (H1 : Hp) : Prop :=
  ∃ W : Nat → Nat → List V → Hp → Prop, (∃ m, W 0 m [] (upd H1 acc (.lst []))) ∧ ∀ i m xs H, W i m xs H →
    ((J.stop i H ∧ Z H) ∨ (J.go i H ∧ ∃ (Nx : V → Hp → Prop) (Nn : Hp → Prop), (∀ y H4, Nx y H4 → H4 acc = some (.lst xs) ∧ xs.length < sizeLine ∧ ∃ m', m' < m ∧ W (i + 1) m' (xs ++ [y]) (upd H4 acc (.lst (xs ++ [y])))) ∧
      (∀ H3, Nn H3 → ∃ m', m' < m ∧ W (i + 1) m' xs H3) ∧ ∀ (v0 : St) x H', v0.length = n → J.yld i H x H' → g x (v0 ++ ρ) H' fun σ2 H2 => (∃ v : St, v.length = n ∧ σ2 = v ++ ρ) ∧ tt σ2 H2 fun b H3 => if b = true then te σ2 H3 Nx else Nn H3))
section
variable {X : Cx} {pins : List (Addr × Obj)} {σ : St} {H : Hp} {s : Shared}
end
section
variable {X : Cx} {N' r xs0 : List Str} {ix : List Nat} {cs : Scope} {tg iter elt : Expr} {ifs : List Expr} {pos : Pos} {wi : TI} {g : TG} {tt : TT} {te : TE}
def tCompM (wi : TI) (ix : List Nat) (n : Nat) (g : TG) (tt : TT) (te : TE) : TE := fun σ H Q => wi σ H fun J H1 => ∀ acc, H1 acc = none → CompGoM J n (slotsAt σ ix) g tt te acc (fun H' => Q (.ref acc) H') H1
theorem CompScopeM.clos {sc : Scope} {N : List Str} (S : CompScopeM N sc N' ix xs0 r cs) {env : Env} (he : env.scope = sc) (has : ∀ y, (env.kindOf y = some .cell ∨ env.kindOf y = some .free) → ∃ c, env.cells.lookup y = some c) :
    ∃ cl : List (Str × Addr), closureFor cs env = pure cl ∧ (∀ y c, cl.lookup y = some c → env.cells.lookup y = some c) ∧ (∀ y, (y, NameKind.free) ∈ cs.names → ∃ c, cl.lookup y = some c) :=
  closure_ok fun y hy hk => has y.1 (by
    subst he
    exact S.fr y hy hk)
end
section
variable {K : PySem.W.Frag} {ta : TA} {tl : TE} {ix : List Nat} {n : Nat} {g : TG} {tt : TT} {te : TE} {σ : St} {H : Hp} {Q : VK}
theorem tCompM_L : tCompM (iList K tl) ix n g tt te σ H Q = tl σ H fun x H1 => ∃ a, x = .ref a ∧ (∃ xs, SqL K H1 a xs) ∧ ∀ acc, H1 acc = none → CompGoM (Itl K a) n (slotsAt σ ix) g tt te acc (fun H' => Q (.ref acc) H') H1 := rfl
end
section
variable {X : Cx}
def rCatQ (K : PySem.W.Frag) : R2 := fun x y H Q => ∃ l b xs zs, x = .ref l ∧ y = .ref b ∧ SqL K H l xs ∧ SqL K H b zs ∧ xs.length + zs.length ≤ sizeLine ∧ ∀ p, H p = none → Q (.ref p) (upd H p (.lst (xs ++ zs)))
theorem add_listsQ {prog : Program} {w : World} {A : Around} {E : Value → Shared → Prop} {s : Shared} {l b : Addr} {vs ws : List Value} {Q : Value → Shared → Prop} (h1 : s.heap.IsList l vs.toArray) (h2 : s.heap.IsList b ws.toArray) (hz : vs.length + ws.length ≤ sizeLine)
    (q : Q (.ref s.heap.objs.size) { s with heap := s.heap.push { cls := .type "list", data := .seq (vs ++ ws).toArray } }) : wpAny (model prog w) A (binaryOp .Add (.ref l) (.ref b)) Q E s := by
  obtain ⟨⟨cl, dd, da, sl⟩, ho, hc, n, hd⟩ := id h1
  obtain ⟨⟨cl2, dd2, da2, sl2⟩, ho2, hc2, n2, hd2⟩ := id h2
  simp only at hc hd hc2 hd2
  subst hc hd hc2 hd2
  have hz' : vs.toArray.size + ws.toArray.size ≤ sizeLine := by rw [List.size_toArray, List.size_toArray]; exact hz
  refine concat_meets (T := "list") ⟨_, ho, rfl⟩ ⟨_, ho2, rfl⟩ noFill_list_add seq_list_add F.slot_list_add F.entry_list_add (F.args_list_add_2 _ _) (list_addW l b vs.toArray ws.toArray n n2 dd dd2 sl sl2 hz') ⟨ho, ho2, ?_⟩
  have ea : vs.toArray ++ ws.toArray = (vs ++ ws).toArray := by simp
  rw [ea]
  exact q
theorem op_catQ : OpR X (binaryOp .Add) (rCatQ X.K) := by
  intro pins s σ H x y v u Q I rx ry h
  obtain ⟨l, b, xs, zs, rfl, rfl, hH, hB, hz, q⟩ := h
  cases rx
  cases ry
  obtain ⟨its, r, p, _⟩ := I.list hH
  obtain ⟨its2, r2, p2, _⟩ := I.list hB
  have hl := r.length
  have hl2 := r2.length
  refine add_listsQ p.isList p2.isList (by omega) ?_
  exact ⟨.ref _, _, I.lnew (t' := s.toks) (r.append r2) (by rw [List.length_append]; omega), rfl, q _ I.fresh⟩
end
theorem call_tupleL {X : Cx} : CallR X (.type "tuple") (fun xs H Q => ∃ p ys, xs = [.ref p] ∧ SqL X.K H p ys ∧ ∀ l, H l = none → Q (.ref l) (upd H l (.tup ys))) := fun pins s σ H xs us Q I r ⟨p, ys, e, k, q⟩ => call_tuple_of pins s σ H xs us Q I r ⟨p, ys, e, .inl ⟨k, q⟩⟩
/-- all but the box at L stays -/
def SameB (L : Addr) (H H' : Hp) : Prop := ∀ b o, b ≠ L → H b = some o → H' b = some o
theorem SameB.refl (L : Addr) (H : Hp) : SameB L H H := fun _ _ _ h => h
theorem SameB.trans {L : Addr} {H H' J : Hp} (s : SameB L H H') (t : SameB L H' J) : SameB L H J := fun b o n h => t b o n (s b o n h)
theorem Same.b {L : Addr} {H H' : Hp} (s : Same H H') : SameB L H H' := fun b o _ h => s b o h
theorem SameB.acc {L acc : Addr} {H H' : Hp} {o : HO} (s : SameB L H H') (h : H acc = none) : SameB L H (upd H' acc o) := fun b u n q => by rw [upd_ne (ne_of_none q h)]; exact s b u n q
theorem SameB.box {L : Addr} {H H' : Hp} {o : HO} (s : SameB L H H') : SameB L H (upd H' L o) := fun b u n q => by rw [upd_ne n]; exact s b u n q
theorem SameB.none {L b : Addr} {H H' : Hp} (s : SameB L H H') (n : b ≠ L) (h : H' b = none) : H b = none := by
  cases e : H b with
  | none => rfl
  | some o => rw [s b o n e] at h; cases h
theorem SameB.set {L : Addr} {H : Hp} {o : HO} : SameB L H (upd H L o) := fun b u n h => by rw [upd_ne n]; exact h
end L2
/-! # xs[::-1] -/
namespace L2
open PySem PyProof.Rows PySem.Calls
section
variable {X : Cx} {e st : Expr} {te ts : TE} {pos p2 : Pos}
def tSlRev (K : PySem.W.Frag) (te ts : TE) : TE := fun σ H Q => te σ H fun x H1 => ts σ H1 fun k H2 => k = .int (-1) ∧ ∃ a xs, x = .ref a ∧ SqL K H2 a xs ∧ ∀ p, H2 p = none → Q (.ref p) (upd H2 p (.lst xs.reverse))
end
end L2
/-! # range(i, j, c) -/
namespace L2
open PySem PySem.Spec PyProof.Rows
section
variable {X : Cx} {tg : Expr}
def It3 (lo c : Int) (n : Nat) : It := ⟨fun i _ => i < n, fun i H x H' => H' = H ∧ x = .int (lo + i * c), fun i _ => n ≤ i⟩
def iRng3 (ta : TA) : TI := fun σ H R => ta σ H fun vs H1 => ∃ i j c : Int, vs = [.int i, .int j, .int c] ∧ (-(2 ^ 30) ≤ i ∧ i < 2 ^ 30 ∧ -(2 ^ 30) ≤ j ∧ j < 2 ^ 30 ∧ 1 ≤ c ∧ c < 2 ^ 30) ∧ R (It3 i c (Builtin.Range.rangeSize i j c).toNat) H1
end
section
variable {ρ : St} {te : TE} {acc : Addr} {Z : Hp → Prop} {H1 : Hp}
end
end L2
namespace L2
section
variable {K : PySem.W.Frag} {tl : TE} {ta : TA} {ix : List Nat} {g : TG} {tt : TT} {te : TE} {σ : St} {H : Hp} {Q : VK}
theorem tComp_R3 : tComp (iRng3 ta) ix g tt te σ H Q = ta σ H fun vs H1 => ∃ i j c : Int, vs = [.int i, .int j, .int c] ∧ (-(2 ^ 30) ≤ i ∧ i < 2 ^ 30 ∧ -(2 ^ 30) ≤ j ∧ j < 2 ^ 30 ∧ 1 ≤ c ∧ c < 2 ^ 30) ∧ ∀ acc, H1 acc = none → CompGo (It3 i c (PySem.Builtin.Range.rangeSize i j c).toNat) (slotsAt σ ix) g tt te acc (fun H' => Q (.ref acc) H') H1 := rfl
end
end L2
/-! EXTENSION Q: comprehensions whose own name is read by a block within (a cell of the comprehension's block). -/
namespace L2
open PySem PySem.Spec PyProof.Rows
structure CfOk (n : Nat) (cs : List (Str × Addr)) : Prop where
  lt : ∀ y c, cs.lookup y = some c → c < n
  inj : ∀ x y c, cs.lookup x = some c → cs.lookup y = some c → x = y
structure CompScopeC (N : List Str) (sc : Scope) (N' : List Str) (ix : List Nat) (x : Str) (r : List Str) (cs : Scope) : Prop where
  eq : N' = x :: r
  kind : cs.kind = .function
  hown : ∀ y ∈ cs.names, y.2 = .cell → cs.names.lookup y.1 = some .cell
  hnames : ∀ y ∈ cs.names, y.2 = .local → cs.names.lookup y.1 = some .local
  nd : (x :: r).Nodup
  fr : ∀ y ∈ cs.names, y.2 = .free → sc.names.lookup y.1 = some .cell ∨ sc.names.lookup y.1 = some .free
  ixs : Ixs N sc cs r ix
def compCxC (X : Cx) (N' : List Str) (cs : Scope) (cl : List (Str × Addr)) (s3 : Shared) (H3 : Hp) (fp : List Addr) : Cx :=
  { X with N := N', s₀ := s3, H₀ := H3, env := compEnvC cs (cellsFrom (s3.heap.objs.size + 1) cs.names cl) s3.heap.objs.size X.env, outer := X.stack, stack := X.stack, ex := fp, fn := fun y => cs.names.lookup y == some .cell, pn := [], xe := fun _ _ => False }
section
variable {X : Cx} {pins : List (Addr × Obj)} {σ : St} {H : Hp} {s : Shared}
end

section
variable {X : Cx} {N' r : List Str} {ix : List Nat} {x : Str} {cs : Scope} {tg iter elt : Expr} {ifs : List Expr} {pos : Pos} {wi : TI} {g : TG} {tt : TT} {te : TE}
theorem CompScopeC.clos {sc : Scope} {N : List Str} (S : CompScopeC N sc N' ix x r cs) {env : Env} (he : env.scope = sc) (has : ∀ y, (env.kindOf y = some .cell ∨ env.kindOf y = some .free) → ∃ c, env.cells.lookup y = some c) :
    ∃ cl : List (Str × Addr), closureFor cs env = pure cl ∧ (∀ y c, cl.lookup y = some c → env.cells.lookup y = some c) ∧ (∀ y, (y, NameKind.free) ∈ cs.names → ∃ c, cl.lookup y = some c) :=
  closure_ok fun y hy hk => has y.1 (by
    subst he
    exact S.fr y hy hk)
end
end L2
namespace L2
open PySem PyProof.Rows
section
variable {X : Cx} {K : PySem.W.Frag} {tg l : Expr} {tl : TE}
end
end L2
/-! EXTENSION R: for k, x in enumerate(xs). -/
namespace L2
open PySem PySem.Spec PyProof.Rows
section
variable {X : Cx} {pins : List (Addr × Obj)} {σ : St} {H : Hp} {s : Shared} {h' : Heap}
/-- iterators turned: only the records at ch changed -/
theorem Inv.turnedL {t' : Nat} {ch : List Addr} (I : Inv X pins σ H s) (k : ∀ b o, b ∉ ch → s.heap.get? b = some o → h'.get? b = some o) (hf : ∀ b ∈ ch, FpOk X pins H b) : Inv X pins σ H { s with heap := h', toks := t' } := by
  have nit : ∀ b u, H b = some u → b ∉ ch := fun b u e z => by rw [(hf b z).1] at e; cases e
  refine I.step (g' := s.gens) (d' := s.drawn) (ch := ch) (fun b hb => ⟨(hf b hb).2.2.2.1, (hf b hb).2.1, (hf b hb).2.2.2.2.1, (hf b hb).2.2.2.2.2⟩) (fun b o _ _ hc e _ => k b o hc e) (fun b o _ _ hc e _ => ⟨o.slots, k b o hc e⟩) (fun _ _ _ _ n => n)
    (fun b o hc e => ⟨o, k b o hc e⟩) (fun _ _ e => e) (fun _ _ _ e => e) (fun b ps e => ⟨#[], by rw [e]; simp⟩) (fun m hm => ?_) (fun b u e => ?_) I.bare
  · obtain ⟨o, es, ep, ho, r⟩ := hm
    exact ⟨o, es, ep, k _ o (fun z => (hf _ z).2.1 rfl) ho, r⟩
  · refine (I.hok b u e).stay (fun c v hc q => k c v ?_ q) (fun _ q => q) fun _ _ q => q
    rcases hc with z | z
    · rw [z]; exact nit b u e
    · exact nit c _ z
end
/-- (0, x), (1, y), .. of the list at a: a new tuple each turn -/
def Ite (K : PySem.W.Frag) (a : Addr) : It :=
  ⟨fun i H => ∃ xs x, SqL K H a xs ∧ xs[i]? = some x, fun i H x H' => ∃ T v, x = .ref T ∧ H T = none ∧ H' = upd H T (.tup [.int i, v]) ∧ ∀ xs, SqL K H a xs → xs[i]? = some v, fun i H => ∃ xs, SqL K H a xs ∧ xs.length ≤ i⟩
theorem turn_enum {P : Program} {w : World} {K : PySem.W.Frag} {elts : List Expr} {x1 : Nat} {tpos : Pos} (a e it : Addr) (hei : e ≠ it) : Turn P w K (.Tuple elts x1 tpos) (Ite K a) [e, it] e (fun i h => (∃ old, IsEnum h e it (i : Nat) old) ∧ h.IsListIter it a i) where
  mem := by simp
  obj := fun i h st b hb => by
    obtain ⟨⟨old, he⟩, o, e1, c, d⟩ := st
    rcases List.mem_cons.mp hb with rfl | hb
    · exact ⟨_, he, fun v z => by
        have z' : Data.fields _ = Data.cell v := z
        cases z'⟩
    · have e2 : b = it := by simpa using hb
      subst e2
      exact ⟨o, e1, fun v z => by rw [d] at z; cases z⟩
  keep := fun i h h' st k => by
    obtain ⟨⟨old, he⟩, hi⟩ := st
    exact ⟨⟨old, k e (by simp) _ he⟩, hi.at fun o q => k it (by simp) o q⟩
  item := by
    intro X hP hw hK hc i pins s σ H E I hf st hg
    subst hP hw hK
    obtain ⟨⟨old, he⟩, hit⟩ := st
    obtain ⟨xs, x, hq, hx⟩ := hg
    obtain ⟨its, rv, p, hz⟩ := I.list hq
    obtain ⟨u, hu, ru⟩ := rv.get hx
    have heS : e < s.heap.objs.size := Heap.lt_size he
    have hiS : it < s.heap.objs.size := by
      obtain ⟨o, e1, _⟩ := id hit
      exact Heap.lt_size e1
    refine wpAny_pyNext_enum_item he hit p.isList (x := u) (by simpa using hu) hei fun h₁ heo hit₁ ht₁ hz₁ hk₁ => ?_
    refine ⟨_, rfl, wpAny_letOwnedTupleGo_enum heo fun h₂ he₂ hs₂ => ?_⟩
    have fr : H s.heap.objs.size = none := I.hok.fresh (Nat.le_refl _)
    have I1 : Inv X pins σ (upd H s.heap.objs.size (.tup [.int i, x])) { s with heap := s.heap.push { cls := .type "tuple", data := .seq #[.int i s.toks, u] } } :=
      I.laid (t' := s.toks) (fun b o q => Heap.get?_push_of_some _ q) (Nat.le_refl _) ⟨(show 2 ≤ sizeLine by decide), [.int i s.toks, u], .cons ⟨_, rfl⟩ (.cons ru .nil), ⟨_, Heap.get?_push_size _ rfl, rfl, _, rfl⟩⟩
    have nT : ∀ b ∈ [e, it], b ≠ s.heap.objs.size := fun b hb => by
      rcases List.mem_cons.mp hb with rfl | hb
      · exact Nat.ne_of_lt heS
      · have e2 : b = it := by simpa using hb
        rw [e2]
        exact Nat.ne_of_lt hiS
    have hf1 : ∀ b ∈ [e, it], FpOk X pins (upd H s.heap.objs.size (.tup [.int i, x])) b := fun b hb => ⟨by rw [upd_ne (nT b hb)]; exact (hf b hb).1, (hf b hb).2⟩
    have I2 : Inv X pins σ (upd H s.heap.objs.size (.tup [.int i, x])) { s with heap := h₂, toks := s.toks + 1 } := Inv.turnedL (s := { s with heap := s.heap.push { cls := .type "tuple", data := .seq #[.int i s.toks, u] } }) (h' := h₂) (t' := s.toks + 1) (ch := [e, it]) I1 (fun b o hb q => by
      have nb1 : b ≠ e := fun z => hb (by simp [z])
      have nb2 : b ≠ it := fun z => hb (by simp [z])
      refine hs₂.extBut b o nb1 ?_
      have q2 : (s.heap.push { cls := .type "tuple", data := .seq #[.int i s.toks, u] }).get? b = some o := q
      rcases Heap.get?_push_cases q2 with ⟨rfl, rfl⟩ | q'
      · exact ht₁
      · exact hk₁ b o nb1 nb2 q') hf1
    refine ⟨.ref s.heap.objs.size, _, I2, rfl, (show (Ite X.K a).yld i H _ _ from ⟨_, x, rfl, fr, rfl, fun ys hy => by rw [I.list_inj hy hq]; exact hx⟩), ⟨⟨u, ?_⟩, hit₁.extBut hs₂.extBut (Ne.symm hei)⟩, fun b hb => (hf1 b hb).1⟩
    exact he₂
  done := by
    intro X hP hw hK hc i pins s σ H E I hf st hg
    subst hP hw hK
    obtain ⟨⟨old, he⟩, hit⟩ := st
    obtain ⟨xs, hq, hx⟩ := hg
    obtain ⟨its, rv, p, hz⟩ := I.list hq
    have hl := rv.length
    exact wpAny_pyNext_enum_end (I.ok.hd hc) he hit p.isList (by simp; omega) fun h' eb => ⟨rfl, I.turnedL (ch := [it]) (t' := s.toks) (fun b o hb q => eb b o (fun z => hb (by simp [z])) q) fun b hb => hf b (by simp at hb; simp [hb])⟩
  self := fun _ _ _ _ _ st h => by
    obtain ⟨⟨old, he⟩, _⟩ := st
    exact wpAny_pyIter_enum he h
section
variable {X : Cx} {elts : List Expr} {x1 : Nat} {tpos : Pos}
def iEnum (K : PySem.W.Frag) (ta : TA) : TI := fun σ H R => ta σ H fun vs H1 => ∃ a, vs = [.ref a] ∧ (∃ xs, SqL K H1 a xs) ∧ R (Ite K a) H1
theorem pi_enum {l : Expr} {ta : TA} {p pos : Pos} (hg : Gl X "enumerate") (hm : X.mg "enumerate" = none) (ha : PA X [l] ta) (hs : starEach [l] X.env = [(false, eval l X.env)] := by rfl) : PI X (.Tuple elts x1 tpos) (.Call (.Name "enumerate" p) [l] [] pos) (iEnum X.K ta) := by
  intro pins s σ H R I h
  refine Call_ (ld_blt I hg hm boot_enumerate (PyProof.Rows.callWith_type1 (thn (ha pos pins s σ H _ I h) fun us s1 ⟨vs, H1, I1, r1, q1⟩ => ?_) hs rfl))
  obtain ⟨a, e, ⟨xs, hq⟩, q⟩ := q1
  subst e
  cases r1 with
  | cons r rr =>
    cases rr
    cases r
    obtain ⟨its, rv, pl, hz⟩ := I1.list hq
    refine call_enumerate_list pl.isList fun h' he hit hsz hk => ?_
    refine wpAny_pyIter_enum he ?_
    have I2 : Inv X pins σ H1 { s1 with heap := h' } := I1.kept (t' := s1.toks) hk
    refine ⟨s1.heap.objs.size + 1, [s1.heap.objs.size + 1, s1.heap.objs.size], _, _, H1, rfl, I2, turn_enum a _ _ (Nat.succ_ne_self _), ⟨⟨_, he⟩, hit⟩, fun b hb => ?_, q⟩
    rcases List.mem_cons.mp hb with rfl | hb
    · exact I1.fpOk (Nat.le_succ _) (I1.hok.fresh (Nat.le_succ _))
    · have e2 : b = s1.heap.objs.size := by simpa using hb
      subst e2
      exact I1.fpOk (Nat.le_refl _) (I1.hok.fresh (Nat.le_refl _))
end
section
variable {K : PySem.W.Frag} {ta : TA} {tl : TE} {g : TG} {tb : TS} {D : Ends} {σ : St} {H : Hp}
theorem tFor_E : tFor (iEnum K ta) g tb D σ H = ta σ H fun vs H1 => ∃ a, vs = [.ref a] ∧ (∃ xs, SqL K H1 a xs) ∧ ForG (Ite K a) g tb D σ H1 := rfl
theorem for_enum {a : Addr} {xs : List V} (Pv : Nat → St → Hp → Prop) (h0 : Pv 0 σ H) (hl : ∀ i σ H, i ≤ xs.length → Pv i σ H → SqL K H a xs)
    (hs : ∀ i x σ H T, xs[i]? = some x → Pv i σ H → H T = none → g (.ref T) σ (upd H T (.tup [.int i, x])) fun σ2 H2 => tb { D with nx := Pv (i + 1), ct := Pv (i + 1), bk := D.nx } σ2 H2) (hd : ∀ σ H, Pv xs.length σ H → D.nx σ H) :
    ForG (Ite K a) g tb D σ H := by
  refine ⟨fun i m σ H => m = xs.length - i ∧ i ≤ xs.length ∧ Pv i σ H, ⟨xs.length, by simp, Nat.zero_le _, h0⟩, ?_⟩
  rintro i m σ H ⟨rfl, hi, p⟩
  have q := hl i σ H hi p
  by_cases h : i < xs.length
  · refine .inr ⟨⟨xs, xs[i], q, List.getElem?_eq_getElem h⟩, Pv (i + 1), fun σ' H' z => ⟨xs.length - (i + 1), by omega, rfl, by omega, z⟩, ?_⟩
    rintro x H' ⟨T, v, rfl, hT, rfl, hv⟩
    have e := hv xs q
    exact hs i v σ H T e p hT
  · have e : i = xs.length := by omega
    subst e
    exact .inl ⟨⟨xs, q, Nat.le_refl _⟩, hd σ H p⟩
end
end L2
/-! # x not in xs, of data: the answer is not told -/
namespace L2
open PySem PySem.Spec PyProof.Rows
section
variable {X : Cx}
def rNotInQ (K : PySem.W.Frag) : R2 := fun x y H Q => ∃ p xs, y = .ref p ∧ SqL K H p xs ∧ (∃ dx, Rds K H x dx ∧ PyData.canLay0 dx = true ∧ dx.depth ≤ 8) ∧ (∀ v ∈ xs, ∃ d, Rds K H v d ∧ PyData.canLay0 d = true ∧ d.depth ≤ 8) ∧ ∀ k, Q (.bl k) H
end
end L2
/-! # y = [.. for a, b in ..], y a plain local -/
namespace L2
open PySem PySem.Spec PyProof.Rows
section
variable {X : Cx} {N' r xs0 : List Str} {ix : List Nat} {cs : Scope} {tg iter elt : Expr} {ifs : List Expr} {pos : Pos} {wi : TI} {g : TG} {tt : TT} {te : TE}
end
end L2
/-! EXTENSION S of the hand layer: exceptions of own classes as values: made, asked for their class, their attributes read and written. -/
namespace L2
open PySem PySem.Spec PyProof.Rows

/-- what the text's top must have written of an own exception class whose things are asked -/
structure XCls (K : PySem.W.Frag) (C : Addr) : Prop where
  cls : (PySem.W.clsIn K C).isSome = true
  ga : PySem.W.findIn K (.ref C) "__getattribute__" = some (some (.builtin "BaseException.__getattribute__"))
  gh : PySem.W.findIn K (.ref C) "__getattr__" = some none
  be : PySem.W.subIn K (.ref C) (.type "BaseException") = some true
  ca : PySem.W.findIn K (.ref C) "__class__" = some (some (.builtin "object.__class__"))
  cg : PySem.W.specialIn K (.builtin "object.__class__") "__get__" = some (some (.builtin "getset_descriptor.__get__"))
  ct : PySem.W.takesIn K (.builtin "object.__class__") = some true
  ob : PySem.W.mroIn K C (.type "object") = some true

section
variable {prog : Program} {w : World} {A : Around} {E : Value → Shared → Prop} {K : PySem.W.Frag} {x C : Addr} {ox : Obj} {od : Option Obj} {s : Shared} {name : Str} {tk : Tok} {v : Value}

theorem xga_check {M : Model} {nameV : Value} {Q : Unit → Shared → Prop} (X : K.In s.heap) (Z : XCls K C) (I : PySem.W.InstAt s.heap x ox C od) (hq : Q () s) :
    wpAny M A (checkBuiltinCall "BaseException.__getattribute__" ⟨[.ref x, nameV], []⟩) Q E s := by
  have hk : builtinKind "BaseException.__getattribute__" = some .slot := by decide +kernel
  have hsplit : splitId "BaseException.__getattribute__" = some ("BaseException", "__getattribute__") := by decide +kernel
  have ha := F.args_bexc_ga (.ref x) nameV
  have L0 := I.type (M := M)
  have L1 := PySem.W.looks_subIn (M := M) X Z.be
  obtain ⟨h, g, d, t, os⟩ := s
  simp only [checkBuiltinCall, hk, hsplit]
  refine wpAny_bind ?_
  unfold isInstance
  refine wpAny_bind (L0.at (L1.at ?_))
  repeat (first | exact hq | wp_step)

/-- any attribute of an exception, once object's own way to it is known -/
theorem xga_by {fill expr : Bool} {Q : Value → Shared → Prop} (X : K.In s.heap) (Z : XCls K C) (I : PySem.W.InstAt s.heap x ox C od) (hh : PySem.W.handedIn v = true)
    (hin : ∀ (A : Around) (Q : Fin → Shared → Prop) (E : Value → Shared → Prop), Q (.done (.ret v)) s → wpAny (model prog w) A (Builtin.«object.__getattribute__» ⟨[.ref x, .str name tk], []⟩) Q E s) (hq : Q v s) :
    wpAny (model prog w) A (getAttrBy (.ref x) (.str name tk) fill expr) Q E s := by
  have FB := F.excAttr_ValueError
  have f3 := FB.ga.bind (.ref x)
  have hx0 : (expr && onTheHeap (Value.builtin "BaseException.__getattribute__")) = false := by cases expr <;> rfl
  have hx2 : (Value.builtin "BaseException.__getattribute__" == Value.builtin "object.__getattribute__") = false := by decide +kernel
  have hx1 : (onTheHeap (Value.ref C) && Value.builtin "BaseException.__getattribute__" == Value.builtin "object.__getattribute__") = false := by rw [hx2]; rfl
  have L0 := I.type (M := model prog w)
  have L1 := PySem.W.looks_findIn (M := model prog w) X Z.ga
  have L2 := PySem.W.looks_findIn (M := model prog w) X Z.gh
  have hcall : ∀ (A : Around) (R : Result → Shared → Prop), R (.ok (.ret v)) s → codeAny (model prog w) A (.call (.builtin "BaseException.__getattribute__") ⟨[.ref x, .str name tk], []⟩) R s := fun A R hR =>
    codeAny_call_builtin FB.ga.plain F.entry_bexc_ga (xga_check X Z I (hin _ _ _ hR))
  have hho := PySem.W.handedOut_of hh
  obtain ⟨h, g, d, t, os⟩ := s
  unfold getAttrBy
  refine wpAny_holding (wpAny_bind (L0.at (wpAny_bind (L1.at ?_))))
  show wpAny _ _ (if (onTheHeap (Value.ref C) && Value.builtin "BaseException.__getattribute__" == Value.builtin "object.__getattribute__") = true then _ else _) _ _ _
  rw [if_neg (by rw [hx1]; exact Bool.false_ne_true)]
  unfold getAttrByItsOwn hookBefore
  refine wpAny_bind ?_
  show wpAny _ _ (typeLookup (.ref C) "__getattr__") _ _ _
  refine L2.at ?_
  refine wpAny_bind (wpAny_attempt (wpAny_holding ?_))
  unfold callGetattribute
  rw [if_neg (by rw [hx0]; exact Bool.false_ne_true)]
  unfold boundAndCalled
  refine wpAny_bind (wpAny_of_eq f3 ?_)
  refine wpAny_call (hcall _ _ ?_)
  show wpAny _ _ (handedOut v) _ _ _
  rw [hho]
  exact wpAny_pure hq

end

/-! ### the thing itself -/
/-- an exception of the own class at C, no attribute of its own written -/
def excObj (C t : Addr) (d : Option Addr) : Obj := { cls := .ref C, dict := d, data := .fields #[.ref t, .none, .none, .none, .bool false, .none] }
def Exc0 (a C : Addr) : HO := .ext fun h => ∃ o, h.get? a = some o ∧ ∃ t, o = excObj C t none
/-- one whose attributes stand in the dict at dx -/
def ExcD (a C dx : Addr) : HO := .ext fun h => ∃ o, h.get? a = some o ∧ ∃ t, o = excObj C t (some dx)
/-- it is an exception of the own class at C -/
def IsExc (H : Hp) (a C : Addr) : Prop := H a = some (Exc0 a C) ∨ ∃ dx fs, H a = some (ExcD a C dx) ∧ H dx = some (.xd fs)
section
variable {X : Cx} {pins : List (Addr × Obj)} {σ : St} {H : Hp} {s : Shared} {A : Around} {E : Value → Shared → Prop} {Q : Value → Shared → Prop} {c : Value} {b : Bool} {a C : Addr}
theorem IsExc.at (I : Inv X pins σ H s) (h : IsExc H a C) : ∃ ox od, PySem.W.InstAt s.heap a ox C od := by
  rcases h with h | ⟨dx, fs, h, h2⟩
  · obtain ⟨⟨o, e, t, rfl⟩, _⟩ := (show ObjOk X.prog X.w H s.heap a (Exc0 a C) from I.hok a _ h)
    exact ⟨_, none, e, rfl, rfl, trivial⟩
  · obtain ⟨⟨o, e, t, rfl⟩, _⟩ := (show ObjOk X.prog X.w H s.heap a (ExcD a C dx) from I.hok a _ h)
    obtain ⟨mA, ⟨od, es, ep, e2, _⟩, _⟩ := (show ObjOk X.prog X.w H s.heap dx (.xd fs) from I.hok dx _ h2)
    exact ⟨_, some od, e, rfl, rfl, e2⟩
end

/-! ### making one -/
section
variable {P : Program} {w : World} {H : Hp} {h h' : Heap} {a : Addr} {o : HO}
theorem ObjOk.get (x : ObjOk P w H h a o) : ∃ ob, h.get? a = some ob := by
  cases o with
  | lst xs => obtain ⟨_, _, _, _, e⟩ := x; exact ⟨_, e⟩
  | tup xs => obtain ⟨_, _, _, ob, e, _⟩ := x; exact ⟨_, e⟩
  | dK kvs => obtain ⟨_, _, _, _, o, _, _, e, _⟩ := x; exact ⟨_, e⟩
  | dT kvs => obtain ⟨_, _, _, _, o, _, _, e, _⟩ := x; exact ⟨_, e⟩
  | set S n => obtain ⟨o, _, _, _, e, _⟩ := x; exact ⟨_, e⟩
  | ins C dx fs => obtain ⟨_, _, _, e, _⟩ := x; exact ⟨_, e⟩
  | own y => exact x
  | xd fs => obtain ⟨_, ⟨_, _, _, e, _⟩, _⟩ := x; exact ⟨_, e⟩
  | rng lo hi => obtain ⟨_, _, _, e⟩ := x; exact ⟨_, e⟩
  | frz ob u => obtain ⟨e, _⟩ := x; exact ⟨_, e⟩
  | tbl ps => exact ⟨_, (show h.get? a = some _ from x)⟩
  | met f y => exact ⟨_, (show h.get? a = some _ from x)⟩
  | ext φ => obtain ⟨_, e, _⟩ := x; exact e
theorem HOk.freshN (x : HOk P w H h) (e : h.get? a = none) : H a = none := by
  cases q : H a with
  | none => rfl
  | some u => obtain ⟨_, z⟩ := (x a u q).get; rw [e] at z; cases z
theorem HOk.laidN (x : HOk P w H h) (k : ∀ b u, h.get? b = some u → h'.get? b = some u) (hp : h.get? a = none) (new : ObjOk P w (upd H a o) h' a o) : HOk P w (upd H a o) h' := fun b u e => by
  have hn := x.freshN hp
  by_cases hb : b = a
  · subst hb; rw [upd_same] at e; cases e; exact new
  · rw [upd_ne hb] at e
    exact (x b u e).stay (fun c v _ q => k c v q) (fun c q => by rw [upd_ne (ne_of_none q hn)]; exact q) fun c xs q => by rw [upd_ne (ne_of_none q hn)]; exact q
theorem Un.laidN {fs ex : List Addr} (k : ∀ b u, h.get? b = some u → h'.get? b = some u) (hp : h.get? a = none) (hn : H a = none) : Un fs ex H (upd H a o) h h' where
  keep := fun b u q _ _ _ => k b u q
  slot := fun b u q _ _ _ => ⟨u.slots, k b u q⟩
  free := fun b u q n _ => by rw [upd_ne (fun z => by rw [z, hp] at q; cases q)]; exact n
  there := fun b u q _ => ⟨u, k b u q⟩
  tups := fun b xs q => by rw [upd_ne (ne_of_none q hn)]; exact q
  frzs := fun b u xs q => by rw [upd_ne (ne_of_none q hn)]; exact q
  tbls := fun b ps q => ⟨#[], by rw [upd_ne (ne_of_none q hn), q]; simp⟩
end
section
variable {X : Cx} {pins : List (Addr × Obj)} {σ : St} {H : Hp} {s : Shared} {h' : Heap} {C : Addr} {x : Str} {p pos : Pos} {e : Expr} {es : List Expr} {t : TA}
theorem Inv.laidN {a : Addr} {o : HO} {t' : Nat} (I : Inv X pins σ H s) (k : ∀ b u, s.heap.get? b = some u → h'.get? b = some u) (hp : s.heap.get? a = none) (new : ObjOk X.prog X.w (upd H a o) h' a o) :
    Inv X pins σ (upd H a o) { s with heap := h', toks := t' } := I.un (Un.laidN k hp (I.hok.freshN hp)) (I.hok.laidN k hp new)
theorem ext_ok {P : Program} {w : World} {h : Heap} {a : Addr} {φ : Obj → Prop} {ob : Obj} (e : h.get? a = some ob) (q : φ ob) : ObjOk P w H h a (.ext fun h => ∃ o, h.get? a = some o ∧ φ o) :=
  ⟨⟨ob, e, q⟩, ⟨ob, e⟩, fun h1 h2 ⟨o, e1, q1⟩ k => ⟨o, k o e1, q1⟩⟩
theorem Inv.madeX {ea : Addr} {vs : List Value} {t' : Nat} (I : Inv X pins σ H s) (m : Heap.MadeExcOf s.heap h' ea (.ref C) vs) : Inv X pins σ (upd H ea (Exc0 ea C)) { s with heap := h', toks := t' } := by
  obtain ⟨tt, et, _, _⟩ := m.there
  exact I.laidN m.keeps m.new (ext_ok (φ := fun o => ∃ t, o = excObj C t none) et ⟨tt, rfl⟩)
/-- C(e, ..) where C is an own exception class without an __init__ -/
def tExc (C : Addr) (t : TA) : TE := fun σ H Q => t σ H fun vs H1 => vs.length ≤ sizeLine ∧ ∀ q, H1 q = none → Q (.ref q) (upd H1 q (Exc0 q C))
end

/-! ### an attribute of one, written and read -/
def excTail : List Value → Bool
  | [.type a, .type b, .type c, .type d] => a == "ValueError" && b == "Exception" && c == "BaseException" && d == "object"
  | .ref _ :: r => excTail r
  | _ => false
theorem refuse_exc (self : Value) : ∀ {l : List Value}, excTail l = true → PySem.refuseLoop self "__setattr__" l = pure ()
  | [.type a, .type b, .type c, .type d], e => by
    unfold excTail at e
    simp only [Bool.and_eq_true, beq_iff_eq] at e
    obtain ⟨⟨⟨rfl, rfl⟩, rfl⟩, rfl⟩ := e
    kernel_rfl
  | .ref c :: r, e => by rw [PySem.refuseLoop_ref]; exact refuse_exc self (by first | exact e | (rcases r with _ | ⟨a, r⟩ <;> first | exact e | cases e))
theorem excTail_has : ∀ {l : List Value}, excTail l = true → l.contains (.type "object") = true
  | [.type a, .type b, .type c, .type d], e => by
    unfold excTail at e
    simp only [Bool.and_eq_true, beq_iff_eq] at e
    obtain ⟨⟨⟨rfl, rfl⟩, rfl⟩, rfl⟩ := e
    decide +kernel
  | .ref c :: r, e => by rw [List.contains_cons, excTail_has (l := r) (by first | exact e | (rcases r with _ | ⟨a, r⟩ <;> first | exact e | cases e)), Bool.or_true]
/-- what of the text the class must have so that the attribute f of its things may be written and read -/
structure XAttr (K : PySem.W.Frag) (C : Addr) (f : Str) : Prop where
  sa : PySem.W.findIn K (.ref C) "__setattr__" = some (some (.builtin "object.__setattr__"))
  po : ((PySem.W.clsIn K C).any fun cd => excTail cd.mro) = true
  hd : PySem.W.hasDictIn K C = true
  no : PySem.W.findIn K (.ref C) f = some none
section
open PySem.W PySem.Calls PySem.Builtin PySem.Builtin.ObjectAttr
variable {prog : Program} {w : World} {A : Around} {K : PySem.W.Frag} {x C : Addr} {ox : Obj} {od : Option Obj} {s : Shared} {name : Str} {tk : Tok} {v : Value} {R : Result → Shared → Prop}
theorem osa_exc (X : K.In s.heap) (I : PySem.W.InstAt s.heap x ox C od) (Z : XAttr K C name)
    (h : ∀ b, wpAny (model prog w) A.in1 (storeInOwnDict (.ref x) (.ref C) (.str name tk) name v b)
      (fun fin s' => match fin with | .done f => R (.ok f) s' | .again c' => c'.quiet = true ∧ codeAny (model prog w) A c' R s') (fun e s' => R (.error e) s') s) :
    codeAny (model prog w) A (.call (.builtin "object.__setattr__") ⟨[.ref x, .str name tk, v], []⟩) R s := by
  have SF := PySem.F.store_object
  obtain ⟨cd, hc, ho⟩ := any_some Z.po
  have ne : cd.mro.isEmpty = false := by cases q : cd.mro with | nil => rw [q] at ho; cases ho | cons _ _ => rfl
  have sub : Looks (model prog w) s.heap (isInstance (.ref x) (.type "object")) true := I.type.andThen (looks_mroIn X (by unfold mroIn; rw [hc, Option.bind_some, if_neg (by rw [ne]; decide), excTail_has ho]))
  refine codeAny_call_builtin SF.slot.plain SF.entry (@check_slot (model prog w) _ _ s "object.__setattr__" "object" "__setattr__" (.ref x) [.str name tk, v] [] _ SF.kind SF.split sub (SF.args (.ref x) (.str name tk) v) ?_)
  have hm : Looks (model prog w) s.heap (mroOf (.ref C)) cd.mro := (looks_clsIn X hc).andThen .now
  have L3 : Looks (model prog w) s.heap (storeTaker? none) none := .now
  rw [osa_eq, refuse_eq]
  refine wpAny_bind (wpAny_bind (I.type.here (wpAny_bind (hm.here ?_))))
  rw [refuse_exc _ ho]
  refine wpAny_pure (wpAny_bind (I.type.here (wpAny_bind ((looks_findIn X Z.no).here (wpAny_bind (L3.here ?_))))))
  exact h _
end
section
variable {X : Cx} {pins : List (Addr × Obj)} {σ : St} {H : Hp} {s : Shared} {a C dx : Addr} {f : Str} {A : Around} {E : Value → Shared → Prop}
theorem setattr_exc {y : V} {u : Value} {Q : Unit → Shared → Prop} (I : Inv X pins σ H s) (e : H a = some (Exc0 a C)) (Z : XAttr X.K C f) (ry : RelV y u)
    (h : ∀ dx s', H dx = none → Inv X pins σ (upd (upd H dx (.xd [(f, y)])) a (ExcD a C dx)) s' → Q () s') : wpAny (model X.prog X.w) A (setAttr (.ref a) f u) Q E s := by
  obtain ⟨⟨o, hx, t, rfl⟩, _⟩ := (show ObjOk X.prog X.w H s.heap a (Exc0 a C) from I.hok a _ e)
  have J : PySem.W.InstAt s.heap a (excObj C t none) C none := ⟨hx, rfl, rfl, trivial⟩
  have XK := I.kIn
  refine PySem.W.set_plain XK J Z.sa (osa_exc (s := { s with toks := s.toks + 1 }) XK J Z fun b => ?_)
  obtain ⟨cd, hc, hd'⟩ := PySem.W.any_some Z.hd
  refine wpAny_bind (wpAny_pure (wpAny_bind (wpAny_bind (wpAny_loadPart hx (wpAny_bind (PySem.W.Looks.here (s := { s with toks := s.toks + 1 }) (PySem.W.looks_clsIn XK hc) ?_))))))
  rw [hd']
  have hx1 : (s.heap.push { cls := .type "dict", data := .dict #[] }).get? a = some (excObj C t none) := Heap.get?_push_of_some _ hx
  have ne : a ≠ s.heap.objs.size := Nat.ne_of_lt (Heap.lt_size hx)
  show wpAny _ _ (alloc { cls := .type "dict", data := .dict #[] } >>= fun d => update a (fun o => { cls := o.cls, dict := some d, data := o.data, slots := o.slots }) >>= fun _ => dictMade (.ref C) a d) _ _ _
  refine wpAny_bind (wpAny_alloc (wpAny_bind (wpAny_update (o := excObj C t none) hx1 ?_)))
  refine wpAny_pure (a := some s.heap.objs.size) (wpAny_bind (wpAny_pure (wpAny_bind ?_)))
  have hn0 : ((s.heap.push { cls := .type "dict", data := .dict #[] }).update a (fun o => { cls := o.cls, dict := some s.heap.objs.size, data := o.data, slots := o.slots })).Ns1 s.heap.objs.size (fun _ => none) := by
    refine Heap.Ns1.of_empty ⟨{ cls := .type "dict", data := .dict #[] }, #[], _, ?_, rfl, fun e he => absurd he (by simp), fun _ => rfl⟩
    rw [Heap.get?_update_other _ _ ne]
    exact Heap.get?_push_at rfl rfl
  refine wpAny_nsSet1 (s := { s with heap := (s.heap.push { cls := .type "dict", data := .dict #[] }).update a (fun o => { cls := o.cls, dict := some s.heap.objs.size, data := o.data, slots := o.slots }), toks := s.toks + 1 }) hn0 fun h' hn2 hs2 => ?_
  obtain ⟨oD, esD, epD, hoD, hdD, hcD⟩ := hn2.count (PySem.Within.cons f u PySem.Within.nil)
  refine wpAny_bind (wpAny_lookBehind hoD (by rw [hdD]; exact pastItsLine_dict (Nat.le_trans hcD (by rw [List.length_cons, sizeLine_eq]; decide))) ?_)
  refine wpAny_pure ?_
  have hnd : H s.heap.objs.size = none := I.hok.fresh (Nat.le_refl _)
  refine h s.heap.objs.size _ hnd ?_
  have ha' : h'.get? a = some (excObj C t (some s.heap.objs.size)) := by
    rw [hs2.2 a ne]
    exact Heap.get?_update_self _ hx1 rfl
  have k : ∀ b v, b ≠ a → s.heap.get? b = some v → h'.get? b = some v := fun b v hb q => by
    rw [hs2.2 b (Nat.ne_of_lt (Heap.lt_size q)), Heap.get?_update_other _ _ (Ne.symm hb)]
    exact Heap.get?_push_of_some _ q
  have nd : ∀ b v, H b = some v → b ≠ s.heap.objs.size := fun b v q => ne_of_none q hnd
  have na : ∀ b v, H b = some v → v ≠ Exc0 a C → b ≠ a := fun b v q z => ne_of q e z
  have up : ∀ b v, H b = some v → v ≠ Exc0 a C → upd (upd H s.heap.objs.size (.xd [(f, y)])) a (ExcD a C s.heap.objs.size) b = some v := fun b v q z => by
    rw [upd_ne (na b v q z), upd_ne (nd b v q)]; exact q
  refine I.un (t' := s.toks + 2) ⟨fun b v q n _ _ => k b v (fun z => by rw [z, e] at n; cases n) q, fun b v q n _ _ => ⟨v.slots, k b v (fun z => by rw [z, e] at n; cases n) q⟩, fun b v q n _ => ?_, fun b v q _ => ?_,
    fun b xs q => up b _ q (fun z => nomatch z), fun b u xs q => up b _ q (fun z => nomatch z), fun b ps q => ⟨#[], by rw [up b _ q (fun z => nomatch z)]; simp⟩⟩ fun b v q => ?_
  · rw [upd_ne (fun z => by rw [z, e] at n; cases n), upd_ne (Nat.ne_of_lt (Heap.lt_size q))]; exact n
  · by_cases hb : b = a
    · rw [hb]; exact ⟨_, ha'⟩
    · exact ⟨v, k b v hb q⟩
  · by_cases hb : b = a
    · subst hb
      rw [upd_same] at q; cases q
      exact ext_ok (φ := fun o => ∃ t, o = excObj C t (some s.heap.objs.size)) ha' ⟨t, rfl⟩
    · rw [upd_ne hb] at q
      by_cases hb2 : b = s.heap.objs.size
      · subst hb2
        rw [upd_same] at q; cases q
        refine ⟨_, hn2, fun g => ?_⟩
        by_cases hg : g = f
        · subst hg; simp [List.lookup]; exact ry
        · rw [if_neg hg, List.lookup_cons, show (g == f) = false from beq_false_of_ne hg]; exact trivial
      · rw [upd_ne hb2] at q
        refine (I.hok b v q).stay (fun c w hcc r => k c w ?_ r) (fun c r => up c _ r (fun z => nomatch z)) fun c xs r => up c _ r (fun z => nomatch z)
        rcases hcc with z | z
        · rw [z]; exact hb
        · exact na c _ z (fun z => nomatch z)
end

section
variable {X : Cx} {o e value : Expr} {f : Str} {pos pos' : Pos} {ta tv : TE}
def tFldX (K : PySem.W.Frag) (ta : TE) (f : Str) : TE := fun σ H Q => ta σ H fun x H1 => ∃ a C dx fs v, x = .ref a ∧ H1 a = some (ExcD a C dx) ∧ H1 dx = some (.xd fs) ∧ XCls K C ∧ XAttr K C f ∧ fs.lookup f = some v ∧ Q v H1
def sFldX (K : PySem.W.Frag) (ta tv : TE) (f : Str) : TS := fun D σ H => tv σ H fun y H1 => ta σ H1 fun x H2 => ∃ a C, x = .ref a ∧ H2 a = some (Exc0 a C) ∧ XAttr K C f ∧ ∀ dx, H2 dx = none → D.nx σ (upd (upd H2 dx (.xd [(f, y)])) a (ExcD a C dx))
theorem ps_fldX (ha : PE X o ta) (hv : PE X value tv) (hs : swapsWith value (some (.Attribute o f pos')) pos.line X.env = pure false := by rfl) : PS X (.Assign [.Attribute o f pos'] value pos) (sFldX X.K ta tv f) := by
  intro pins s σ H D I h
  refine plainObj_wpAny_Assign_Attribute (thn (hv pins s σ H _ I h) fun u s1 ⟨y, H1, I1, ry, q⟩ => thn (ha pins s1 σ H1 _ I1 q) fun ov s2 ⟨x, H2, I2, rx, a, C, ex, ea, n, q2⟩ => ?_) hs
  subst ex
  obtain rfl : ov = Value.ref a := rx
  exact setattr_exc I2 ea n ry fun dx s3 hd I3 => ⟨σ, _, I3, q2 dx hd⟩
end

/-! ### one whose class has an __init__ -/
def excInI (K : PySem.W.Frag) (C : Addr) (bmB : List Value) (newId : String) (f : Addr) : Bool := match K.lookup C with
  | some ⟨.type "type", _, .cls cd, sl⟩ => (match cd.mro, sl.toList with
    | .ref C' :: bm, [_, _, _, _, some (.builtin n), _] => C' == C && n == newId && !cd.hasDel && PySem.W.tailIn K bmB bm && PySem.W.nsOkIn K cd.ns && PySem.W.nsIn K cd.ns "__init__" == some (some (.ref f))
    | _, _ => false)
  | _ => false
structure ExcI (K : PySem.W.Frag) (C f : Addr) (B newId initId : String) (bmB : List Value) : Prop where
  at_ : excInI K C bmB newId f = true
  base : ExcBaseFacts B newId initId bmB
  fn : PySem.W.isFn K (.ref f) = true
  kp : PySem.W.keepIn K (.ref C) = true
section
variable {prog : Program} {w : World} {A : Around} {E : Value → Shared → Prop} {h : Heap} {g : Array GenState} {d : Drawn} {t : Nat} {os : OsState}
variable {nm q : Str} {C N : Addr} {bs bm bmB : List Value} {hdct : Bool} {sn : List Str} {sub : List Value} {ab : Bool} {col : Option Bool} {dd : Option Addr} {k0 k1 k2 k3 k5 : Option Value} {B newId initId : String}
theorem type_call_initT (F : ExcBaseFacts B newId initId bmB) (T : OwnTail h bmB bm) {mN : Str → Option Value} {rest : List Value} {fI : Addr} {oI : Obj} {Q : Fin → Shared → Prop}
    (hC : h.get? C = some (excClassObj nm q C N bs bm hdct sn sub ab col dd k0 k1 k2 k3 k5 newId)) (hn : h.Ns N mN) (hi : mN "__init__" = some (.ref fI))
    (hfI : h.get? fI = some oI) (hfc : oI.cls = .type "function")
    (hq : ∀ h' e, Heap.MadeExcOf h h' e (.ref C) rest →
      wpAny (model prog w) A (call (.ref fI) (.ref e :: rest)) (fun r s' => r = .none ∧ Q (.done (.ret (.ref e))) s') E ⟨h', g, d, t, os⟩) (hrest : rest.length ≤ sizeLine) :
    wpAny (model prog w) A (Builtin.«type.__call__» ⟨.ref C :: rest, []⟩) Q E ⟨h, g, d, t, os⟩ := by
  repeat (first | with_reducible refine wpAny_loadPart_at hC ?_ | with_reducible refine wpAny_madeBy_exc hC ?_ | wp_step)
  refine codeAny_call_builtin_code (Code.quiet_builtin _ F.quiet) (wpAny_check_new_subT F T hC ?_)
  refine codeAny_exc_new_subT F T hC ?_ hrest
  show wpAny _ _ _ _ _ _
  have hC₁ := Heap.get?_push_of_some { cls := .ref C, data := .fields #[.ref h.objs.size, .none, .none, .none, .bool false, .none] }
    (Heap.get?_push_of_some { cls := .type "tuple", data := .seq rest.toArray } hC)
  have hfI₁ := Heap.get?_push_of_some { cls := .ref C, data := .fields #[.ref h.objs.size, .none, .none, .none, .bool false, .none] }
    (Heap.get?_push_of_some { cls := .type "tuple", data := .seq rest.toArray } hfI)
  have hn₁ : ((h.push { cls := .type "tuple", data := .seq rest.toArray }).push { cls := .ref C, data := .fields #[.ref h.objs.size, .none, .none, .none, .bool false, .none] }).Ns N mN :=
    let ⟨o, es, ep, e, r⟩ := hn; ⟨o, es, ep, Heap.get?_push_of_some _ (Heap.get?_push_of_some _ e), r⟩
  have hget : ((h.push { cls := .type "tuple", data := .seq rest.toArray }).push
      { cls := .ref C, data := .fields #[.ref h.objs.size, .none, .none, .none, .bool false, .none] }).get? (h.objs.size + 1) = some
      { cls := .ref C, data := .fields #[.ref h.objs.size, .none, .none, .none, .bool false, .none] } := by heap_get
  have hcC : (Value.ref C :: bm).contains (.ref C) = true := by simp
  have T₁ := T.keeps (h' := (h.push { cls := .type "tuple", data := .seq rest.toArray }).push { cls := .ref C, data := .fields #[.ref h.objs.size, .none, .none, .none, .bool false, .none] })
    fun b o e => Heap.get?_push_of_some _ (Heap.get?_push_of_some _ e)
  unfold isInstance
  repeat (first | with_reducible refine wpAny_loadPart_at hget ?_ | (with_reducible refine wpAny_isSubtype_exc hC₁ ?_; rw [hcC]) | wp_step)
  show wpAny _ _ (typeLookup (.ref C) _) _ _ _
  refine wpAny_typeLookup_tail hC₁ hn₁ T₁ F.mroIs F.init.lookup ?_
  rw [hi]
  refine wpAny_holding (wpAny_bind ?_)
  unfold bindSpecial
  refine wpAny_bind (wpAny_typeOf (T := "function") ⟨_, hfI₁, hfc⟩ ?_)
  rw [if_pos (by decide)]
  refine wpAny_pure (wpAny_bind (wpAny_mono (hq _ (h.objs.size + 1) ⟨fun b o hb => Heap.get?_push_of_some _ (Heap.get?_push_of_some _ hb), Heap.get?_none_of_le (Nat.le_succ _), h.objs.size, hget, Heap.get?_none_of_le (Nat.le_refl _), ?_⟩) (fun r s' hr => ?_) fun _ _ x => x))
  · exact Heap.get?_push_of_some _ (Heap.get?_push_at rfl rfl)
  · obtain ⟨rfl, hQ⟩ := hr
    wp_walk
    exact hQ
theorem call_initT (F : ExcBaseFacts B newId initId bmB) (T : OwnTail h bmB bm) {mN : Str → Option Value} {rest : List Value} {fI : Addr} {oI : Obj} {Q : Value → Shared → Prop}
    (hC : h.get? C = some (excClassObj nm q C N bs bm hdct sn sub ab col dd k0 k1 k2 k3 k5 newId)) (hn : h.Ns N mN) (hi : mN "__init__" = some (.ref fI))
    (hfI : h.get? fI = some oI) (hfc : oI.cls = .type "function")
    (hq : ∀ h' e, Heap.MadeExcOf h h' e (.ref C) rest →
      wpAny (model prog w) (A.under (.builtin "type.__call__" ⟨.ref C :: rest, []⟩)) (call (.ref fI) (.ref e :: rest)) (fun r s' => r = .none ∧ Q (.ref e) s') E ⟨h', g, d, t, os⟩) (hrest : rest.length ≤ sizeLine) :
    wpAny (model prog w) A (call (.ref C) rest) Q E ⟨h, g, d, t, os⟩ := by
  have f1 := tc_lookup
  have f2 := tc_bind (.ref C)
  have hT : (⟨h, g, d, t, os⟩ : Shared).TypeIs (.ref C) "type" := ⟨_, hC, rfl⟩
  refine wpAny_call (codeAny_of_tree ?_)
  show wpAny _ _ (callAny (.ref C) _) _ _ _
  repeat (any_goals (first | assumption | with_reducible refine wpAny_loadPart_at hC ?_ | wp_step))
  refine ⟨rfl, ?_⟩
  refine codeAny_call_builtin_at (Code.quiet_builtin _ (by decide +kernel)) entry_typeCall (wpAny_check_type_call_sub hC (type_call_initT (hrest := hrest) F T hC hn hi hfI hfc fun h' e hm => ?_))
  exact hq h' e hm
end

theorem ns_some {K : PySem.W.Frag} {h : Heap} {N : Addr} {mg : Str → Option Value} {n : Str} {v : Value} (X : K.In h) (G : h.Ns N mg) (e : PySem.W.nsIn K N n = some (some v)) : mg n = some v := by
  obtain ⟨o, es, ep, ho, hd, _, hf⟩ := G
  unfold PySem.W.nsIn at e
  split at e
  · rename_i c d es' n' sl q
    have := X _ _ q
    rw [ho] at this
    cases this
    cases hd
    split at e
    · rename_i en he
      cases e
      rw [← hf]
      unfold nsFind findBy
      rw [← Array.find?_toList, he]
      rfl
    · split at e <;> cases e
  · cases e
theorem own_objI {K : PySem.W.Frag} {h : Heap} {C f : Addr} {bmB : List Value} {newId : String} (X : K.In h) (q : excInI K C bmB newId f = true) :
    ∃ bm N nm q bs hdct sn sub ab col dd k0 k1 k2 k3 k5 mN, h.get? C = some (excClassObj nm q C N bs bm hdct sn sub ab col dd k0 k1 k2 k3 k5 newId) ∧ h.Ns N mN ∧ mN "__init__" = some (.ref f) ∧ OwnTail h bmB bm := by
  unfold excInI at q
  split at q
  · rename_i dd cd sl ho
    split at q
    · rename_i C' bm k0 k1 k2 k3 n k5 hm hs
      simp only [Bool.and_eq_true, beq_iff_eq, Bool.not_eq_true'] at q
      obtain ⟨⟨⟨⟨⟨rfl, rfl⟩, hdel⟩, ht⟩, hok⟩, hni⟩ := q
      obtain ⟨nm, bs, mro, ns, qn, hd, sn, sub, ab, col, del⟩ := cd
      dsimp only at hm hdel hok hni
      subst hm hdel
      have hsl : sl = #[k0, k1, k2, k3, some (.builtin n), k5] := by
        obtain ⟨l⟩ := sl
        simp only at hs
        rw [hs]
      subst hsl
      exact ⟨bm, ns, nm, qn, bs, hd, sn, sub, ab, col, dd, k0, k1, k2, k3, k5, _, X _ _ ho, .of_isNs (PySem.W.isNs_of_in X hok), ns_some X (.of_isNs (PySem.W.isNs_of_in X hok)) hni, PySem.W.tail_of_in X ht⟩
    · cases q
  · cases q
section
variable {X : Cx} {CX : CXT} {k : Nat} {f C : Addr} {fd : FuncData} {ps : List Str} {sp : Sp} {E : XK} {x : Str} {p pos : Pos} {e : Expr} {es : List Expr} {t : TA} {B newId initId : String} {bmB : List Value}
def tExcI (C : Addr) (sp : Sp) (E : XK) (t : TA) : TE := fun σ H Q => t σ H fun vs H1 => vs.length ≤ sizeLine ∧ ∀ q, H1 q = none → sp (.ref q :: vs) (upd H1 q (Exc0 q C)) (fun v H2 => v = .non ∧ Q (.ref q) H2) E
theorem pe_excI (O : ExcI X.K C f B newId initId bmB) (F : FnOk X.prog X.w X.K X.mg X.base CX k f fd ps sp) (hr : Room (k + 1) X.A) (hg : Gl X x) (hm : X.mg x = some (.ref C)) (hb : Binds X.K fd ps []) (hx : Passes CX X E)
    (ha : PA X (e :: es) t) (hdb : (x == ("__debug__" : Str)) = false := by decide) (he : starEach (e :: es) X.env = (false, eval e X.env) :: starEach es X.env := by rfl) (hpl : (backTo pos (starEach es X.env)).any (·.1) = false := by rfl) :
    PE X (.Call (.Name x p) (e :: es) [] pos) (tExcI C sp E t) := by
  intro pins s σ H Q I h
  refine wpAny_Call_Name_kw (ld_glob I hg hm ?_ hdb)
  refine PySem.W.callWith_K (h₀ := X.base) I.ok.mod.kin O.kp (thn (ha pos pins s σ H _ I h) fun us s1 ⟨vs, H1, I1, r, hz, q⟩ => ⟨I1.kIn, ?_⟩) he hpl
  obtain ⟨bm, N, nm, qn, bs, hdct, sn, sub, ab, col, dd, k0, k1, k2, k3, k5, mN, hC, hN, hni, TL⟩ := own_objI I1.kIn O.at_
  obtain ⟨oI, hoI, hcI⟩ := Option.map_eq_some_iff.mp (show PySem.W.typeIn X.K (.ref f) = some (.type "function") from beq_iff_eq.mp O.fn)
  have hfI := I1.kIn _ _ hoI
  have hl : us.length ≤ sizeLine := by rw [← r.length]; exact hz
  obtain ⟨hh, g, d, tt, os⟩ := s1
  refine call_initT (hrest := hl) O.base TL hC hN hni hfI hcI fun h' ea m => ?_
  have I2 := I1.madeX (t' := tt) m
  have hq := q ea (I1.hok.freshN m.new)
  have r2 : Vals (V.ref ea :: vs) (Value.ref ea :: us) := .cons rfl r
  have hl2 : (Value.ref ea :: us ++ []).length = ps.length := by
    rw [List.append_nil, ← r2.length]; exact F.len _ _ _ _ hq
  have hbb := hb _ (Value.ref ea :: us) I2.kIn hl2
  rw [List.append_nil] at hbb
  refine wpAny_call (codeAny_mono (F.run _ X.stack _ _ ⟨Value.ref ea :: us, []⟩ (Value.ref ea :: us) _ _ E (hr.make C us []) (I2.env0.make C us []) hbb r2 hq) fun r s' hq' => ?_)
  cases r with
  | error e => exact hx pins σ _ _ e s' I2 hq'
  | ok fl =>
    cases fl with
    | ret u =>
      obtain ⟨v, H', I3, rv, ev, q3⟩ := I2.after hq'
      subst ev
      exact ⟨rv, ⟨V.ref ea, H', I3, rfl, q3⟩⟩
    | next => exact False.elim hq'
    | brk => exact False.elim hq'
    | cont => exact False.elim hq'
end

/-! ### xs.count(True) -/
section
variable {X : Cx}
end
end L2
/-! EXTENSION T of the hand layer: a caught exception as a value: except C as e, asked by isinstance for its class (nothing is known of its dict). -/
namespace L2
open PySem PySem.Spec PyProof.Rows

def TyAt (h : Heap) (x C : Addr) : Prop := ∃ ox, h.get? x = some ox ∧ ox.cls = .ref C
theorem TyAt.type {M : Model} {h : Heap} {x C : Addr} (I : TyAt h x C) : PySem.W.Looks M h (typeOf (.ref x)) (.ref C) := by
  obtain ⟨ox, e, c⟩ := I
  exact c ▸ (PySem.W.Looks.ld e).andThen .now
section
open PySem.W PySem.Calls PySem.Builtin PySem.Builtin.ObjectAttr PySem.Builtin.Getset_descriptor
variable {prog : Program} {w : World} {A : Around} {E : Value → Shared → Prop} {K : PySem.W.Frag} {x C : Addr} {s : Shared} {name : Str} {tk : Tok} {v : Value}
end

/-- what was caught: a thing of the own class at C -/
def CaughtO (a C : Addr) : HO := .ext fun h => ∃ o, h.get? a = some o ∧ o.cls = .ref C
section
variable {X : Cx} {pins : List (Addr × Obj)} {σ : St} {H : Hp} {s : Shared} {a C : Addr}
/-- what lies there untracked and is new is tracked -/
theorem Inv.track {o : HO} (I : Inv X pins σ H s) (hn : H a = none) (new : X.s₀.heap.get? a = none) (hl : a ≠ X.env.locals) (hc : ∀ x c, X.env.cells.lookup x = some c → c ≠ a) (hp : ∀ p ∈ X.pn ++ pins, p.1 ≠ a)
    (ok : ObjOk X.prog X.w (upd H a o) s.heap a o) : Inv X pins σ (upd H a o) s := by
  have up : ∀ b u, H b = some u → upd H a o b = some u := fun b u q => by rw [upd_ne (ne_of_none q hn)]; exact q
  refine ⟨I.ok, I.os, I.bare, ⟨I.base.keep, I.base.slot, fun b v q n hx => ?_, I.base.there, fun b xs q => up _ _ (I.base.tups b xs q), fun b u xs q => up _ _ (I.base.frzs b u xs q), fun b ps q => ?_⟩, I.loc, I.cell, by rw [upd_ne (Ne.symm hl)]; exact I.free,
    fun x c q => by rw [upd_ne (hc x c q)]; exact I.freeC x c q, fun p q => ?_, fun b u q => ?_, I.len⟩
  · rw [upd_ne (fun z => by rw [z, new] at q; cases q)]
    exact I.base.free b v q n hx
  · obtain ⟨m, z⟩ := I.base.tbls b ps q
    exact ⟨m, up _ _ z⟩
  · obtain ⟨h1, h2, h3⟩ := I.pin p q
    exact ⟨h1, by rw [upd_ne (hp p q)]; exact h2, h3⟩
  · by_cases hb : b = a
    · subst hb; rw [upd_same] at q; cases q; exact ok
    · rw [upd_ne hb] at q
      exact (I.hok b u q).stay (fun c v _ r => r) (fun c r => up _ _ r) fun c xs r => up _ _ r
end

section
variable {X : Cx} {pins : List (Addr × Obj)} {σ : St} {H : Hp} {s : Shared}
/-- the name behind the suite is gone -/
theorem goes_ok {M : Model} {A : Around} {E : Value → Shared → Prop} {i : Nat} {n : Str} {pos : Pos} {Q : Unit → Shared → Prop} (I : Inv X pins σ H s) (hN : X.N.Nodup) (hi : X.N[i]? = some n) (hk : X.env.kindOf n = some .local)
    (h : ∀ s', Inv X pins (σ.set i none) H s' → Q () s') : wpAny M A (do bindName X.env n .none; unbindBehindTheSuite X.env n pos) Q E s := by
  obtain ⟨m, hn, hl⟩ := id I.loc
  have hcls : (X.env.scope.kind == .class || (X.env.scope.kind == .module && X.env.locals != X.env.globals)) = false := by rw [I.ok.kind]; rfl
  have hiσ : i < σ.length := by rw [I.len]; exact (List.getElem?_eq_some_iff.mp hi).1
  have cne := I.cne
  refine wpAny_nameGoes_keeps hk hn hcls fun h' v hn' hs => ?_
  refine h _ ⟨I.ok, I.os, I.bare, ⟨fun b o e n hb hx => ?_, fun b o e n hb hx => ?_, I.base.free, fun b o e hx => ?_, I.base.tups, I.base.frzs, I.base.tbls⟩, ⟨_, hn', fun j y v' e1 e2 e3 => ?_⟩, fun y c e => ?_, I.free, I.freeC, fun p hp => ?_, fun b u e => ?_, by simpa using I.len⟩
  · exact (hs.2 b (Nat.ne_of_lt (Nat.lt_of_lt_of_le (Heap.lt_size e) I.ok.above))).trans (I.base.keep b o e n hb hx)
  · obtain ⟨sl, e1⟩ := I.base.slot b o e n hb hx
    exact ⟨sl, (hs.2 b (Nat.ne_of_lt (Nat.lt_of_lt_of_le (Heap.lt_size e) I.ok.above))).trans e1⟩
  · obtain ⟨o', e1⟩ := I.base.there b o e hx
    exact ⟨o', (hs.2 b (Nat.ne_of_lt (Nat.lt_of_lt_of_le (Heap.lt_size e) I.ok.above))).trans e1⟩
  · by_cases hj : j = i
    · subst hj
      rw [List.getElem?_set_self hiσ] at e2
      cases e2
    · rw [List.getElem?_set_ne (Ne.symm hj)] at e2
      obtain ⟨u', r', q⟩ := hl j y v' e1 e2 e3
      refine ⟨u', r', ?_⟩
      rcases q with ⟨k, e⟩ | ⟨k, c, e, z⟩
      · refine .inl ⟨k, ?_⟩
        have : y ≠ n := fun e => hj (nodup_ix hN e1 (e ▸ hi))
        simp [this, e]
      · exact .inr ⟨k, c, e, z.sameBut hs (cne y c e)⟩
  · obtain ⟨w', z⟩ := I.cell y c e
    exact ⟨w', z.sameBut hs (cne y c e)⟩
  · obtain ⟨e, n, ne, nf, d⟩ := I.pin p hp
    exact ⟨(hs.2 p.1 ne).trans e, n, ne, nf, d⟩
  · have nl : ∀ c v, H c = some v → c ≠ X.env.locals := fun c v q z => by rw [z, I.free] at q; cases q
    refine (I.hok b u e).stay (fun c v hc r => (hs.2 c ?_).trans r) (fun _ q => q) fun _ _ q => q
    rcases hc with z | z
    · rw [z]; exact nl b u e
    · exact nl c _ z
end

def Ends.gone (D : Ends) (i : Nat) : Ends := { nx := fun σ H => D.nx (σ.set i none) H, bk := fun σ H => D.bk (σ.set i none) H, ct := fun σ H => D.ct (σ.set i none) H, rt := D.rt }
section
variable {X : Cx}
end
end L2
/-! EXTENSION U: list.insert; an expression as a try's body. -/
namespace L2
open PySem PySem.Spec PyProof.Rows
section
variable {X : Cx}
def rInsert : V → List V → Hp → VK → Prop := fun x vs H Q => ∃ l xs y, ∃ i : Nat, x = .ref l ∧ vs = [.int (i : Int), y] ∧ H l = some (.lst xs) ∧ i ≤ xs.length ∧ xs.length < sizeLine ∧ i < 1000000 ∧ Q .non (upd H l (.lst (xs.take i ++ y :: xs.drop i)))
end
end L2
/-! EXTENSION V: an exception with a dict of its own, raised, caught, read. -/
namespace L2
open PySem PySem.Spec PyProof.Rows
/-- all but q -/
def del (H : Hp) (q : Addr) : Hp := fun b => if b = q then none else H b
theorem del_ne {H : Hp} {q b : Addr} (n : b ≠ q) : del H q b = H b := if_neg n
theorem del_self {H : Hp} {q : Addr} : del H q q = none := if_pos rfl
section
variable {prog : Program} {w : World} {A : Around} {E : Value → Shared → Prop} {env : Env}
variable {nm q : Str} {C N : Addr} {bs bm : List Value} {hdct : Bool} {sn : List Str} {sub : List Value} {ab : Bool} {col : Option Bool} {dd : Option Addr} {k0 k1 k2 k3 k5 : Option Value} {newId : String}
theorem raiseD {M : Model} {s : Shared} {x : Sem Value} {Q : Flow → Shared → Prop} (hb : bm.contains (.type "BaseException") = true) (hh : A.handled = none)
    (h : wpAny M A x (fun v s1 => ∃ e t dx, v = .ref e ∧ s1.heap.get? e = some (excObj C t (some dx)) ∧ s1.heap.get? C = some (excClassObj nm q C N bs bm hdct sn sub ab col dd k0 k1 k2 k3 k5 newId) ∧ E (.ref e) s1) E s) :
    wpAny M A (raiseStmt env (some x) none) Q E s := by
  have hc : (Value.ref C :: bm).contains (.type "BaseException") = true := by
    rw [List.contains_cons, hb]
    exact Bool.or_true _
  unfold raiseStmt
  refine wpAny_bind (wpAny_mono h (fun v s1 z => ?_) fun _ _ y => y)
  obtain ⟨e, t, dx, rfl, he, hC, hE⟩ := z
  obtain ⟨hp, g, dr, tk, os⟩ := s1
  unfold excObj at he
  repeat (first
    | wp_step
    | with_reducible refine wpAny_loadPart_at hC ?_
    | with_reducible refine wpAny_loadPart_at he ?_
    | (with_reducible refine wpAny_isSubtype_exc hC ?_; rw [hc]))
  exact wpAny_raiseNew_none hh hE
end
section
variable {X : Cx} {pins : List (Addr × Obj)} {σ : St} {H : Hp} {s : Shared} {q C dx : Addr}
theorem excD_at (I : Inv X pins σ H s) (e : H q = some (ExcD q C dx)) : ∃ t, s.heap.get? q = some (excObj C t (some dx)) := by
  obtain ⟨⟨o, hx, t, rfl⟩, _⟩ := (show ObjOk X.prog X.w H s.heap q (ExcD q C dx) from I.hok q _ e)
  exact ⟨t, hx⟩
/-- what stays while it flies: all but the frames and itself -/
theorem Inv.hokD (I : Inv X pins σ H s) (e : H q = some (ExcD q C dx)) : HOk X.prog X.w (del H q) (PySem.W.hideAll s.heap (q :: frs X.stack)) := fun a o z => by
  have na : a ≠ q := fun c => by rw [c, del_self] at z; cases z
  rw [del_ne na] at z
  have own : ∀ {b : Addr}, H b = some (.own a) → b ≠ q := fun {b} hb c => by rw [c, e] at hb; cases hb
  refine (I.hok a o z).stay (fun b u hb k => PySem.W.hideAll_get _ k fun hm => ?_) (fun b k => by rw [del_ne (own k)]; exact k) fun b xs k => by
    rw [del_ne (fun c => by rw [c, e] at k; cases k)]
    exact k
  rcases List.mem_cons.mp hm with c | hm
  · rcases hb with c' | hb
    · exact na (c' ▸ c)
    · exact own hb c
  · have f := I.stkFree b hm
    rcases hb with rfl | hb
    · rw [f] at z; cases z
    · rw [f] at hb; cases hb
theorem raise_outD {E : XK} {E' : Value → Shared → Prop} (T : Top1 X) (I : Inv X pins σ H s) (h0 : X.H₀ q = none) (e : H q = some (ExcD q C dx)) (k : E (.ref C) (some dx) (del H q)) :
    wpAny (model X.prog X.w) X.A (leaving X.env (.ref q)) (fun _ s'' => XOk X.prog X.w X.outer X.H₀ X.s₀ E (.ref q) s'') E' s := by
  obtain ⟨t, hq⟩ := excD_at I e
  have hfr : X.A.frames = some (X.env :: X.outer) := by rw [← T.stk]; exact I.ok.frames
  have hst := I.stack
  have nx : ∀ b : Addr, b ∉ X.ex := fun b z => by rw [T.ex] at z; cases z
  have s0q : X.s₀.heap.get? q = none := by
    cases z : X.s₀.heap.get? q with
    | none => rfl
    | some o =>
      have := I.base.free q o z h0 (nx q)
      rw [e] at this
      cases this
  have qn : q ∉ frs X.stack := fun hm => by
    have := I.stkFree q hm
    rw [e] at this
    cases this
  have hB := PySem.W.funFrames_hide (as := q :: frs X.stack) hst (fun env he b hb => List.mem_cons_of_mem _ (List.mem_filterMap.mpr ⟨env, he, hb⟩))
  rw [T.stk] at hB
  have out : ∀ b o, X.s₀.heap.get? b = some o → b ∉ X.fs → b ∉ q :: frs X.stack := fun b o z hb hm => by
    rcases List.mem_cons.mp hm with c | hm
    · rw [c, s0q] at z; cases z
    · rcases T.mem.mp hm with c | c
      · exact absurd (Nat.lt_of_lt_of_le (Heap.lt_size z) I.ok.above) (by rw [c]; exact Nat.lt_irrefl _)
      · exact hb c
  have toB : ∀ b o, s.heap.get? b = some o → b ∉ q :: frs X.stack → (PySem.W.hideAll s.heap (q :: frs X.stack)).get? b = some o := fun b o z hb => PySem.W.hideAll_get _ z hb
  have gone : (PySem.W.hideAll s.heap (q :: frs X.stack)).get? q = none := PySem.W.hideAll_none _ (.head _)
  have Dk : DictAt q dx s.heap := ⟨_, hq, rfl⟩
  refine wpAny_mono (Keep.any (keep_leaving (e := q) (dx := dx) X.env (.ref q)) Dk (wpAny_leaving_firstW (a0 := .ref t) (base := PySem.W.hideAll s.heap (q :: frs X.stack)) (E := E') (Q := fun _ s'' => ∃ h', s'' = { s with heap := h' } ∧ Heap.LeftW (PySem.W.hideAll s.heap (q :: frs X.stack)) (X.env :: X.outer) q (.ref C) (.ref t) s.heap h')
    hfr (by rw [T.stk]; exact hB) T.frm hq (fun b o z => PySem.W.of_hideAll _ z) gone rfl rfl rfl fun h' x => ⟨h', rfl, x⟩)) (fun _ s'' z => ?_) fun _ _ z => z.1
  obtain ⟨⟨h', rfl, x1, ⟨_, _, x2⟩, x3, x4⟩, z⟩ := z
  have slot : ∀ b, b ∈ frs X.stack → ∀ o, s.heap.get? b = some o → ∃ sl, h'.get? b = some { o with slots := sl } := fun b hb o z => by
    obtain ⟨_, o2, e2, nf⟩ := hst.mem hb
    rw [z] at e2; cases e2
    exact x4 b o z nf
  have ndl : ∀ {b : Addr} {o : HO}, H b = some o → (∀ h, o ≠ .ext h) → del H q b = some o := fun {b o} hb ne => by
    rw [del_ne (fun c => by rw [c, e] at hb; cases hb; exact ne _ rfl)]
    exact hb
  refine ⟨q, C, .ref t, del H q, PySem.W.hideAll s.heap (q :: frs X.stack), some dx, rfl, ⟨x1, gone, x2, x3⟩, I.os, I.bare, ⟨fun b o z n hb _ => ?_, fun b o z n hb _ => ?_, fun b o z n _ => ?_, fun b o z _ => ?_, fun b xs z => ndl (I.base.tups b xs z) (fun _ c => nomatch c), fun b o u z => ndl (I.base.frzs b o u z) (fun _ c => nomatch c), fun b ps z => ?_⟩, I.hokD e, fun b o z n hb => ?_, fun b o z hb => ?_, (fun dx' c => by cases c; exact z), k⟩
  · exact x1 b o (toB b o (I.base.keep b o z n hb (nx b)) (out b o z hb))
  · obtain ⟨sl, e1⟩ := I.base.slot b o z n hb (nx b)
    exact (slot b (T.mem.mpr (.inr hb)) _ e1).imp fun _ y => y
  · by_cases c : b = q
    · rw [c]; exact del_self
    · rw [del_ne c]; exact I.base.free b o z n (nx b)
  · obtain ⟨o', e1⟩ := I.base.there b o z (nx b)
    have bq : b ≠ q := fun c => by rw [c, s0q] at z; cases z
    by_cases hb : b ∈ frs X.stack
    · obtain ⟨sl, e2⟩ := slot b hb o' e1
      exact ⟨_, e2⟩
    · exact ⟨o', x1 b o' (toB b o' e1 (fun hm => (List.mem_cons.mp hm).elim bq hb))⟩
  · obtain ⟨more, y⟩ := I.base.tbls b ps z
    exact ⟨more, ndl y (fun _ c => nomatch c)⟩
  · exact toB b o (I.base.keep b o z n hb (nx b)) (out b o z hb)
  · obtain ⟨o', e1⟩ := I.base.there b o z (nx b)
    exact ⟨o', toB b o' e1 (out b o z hb)⟩
end
section
variable {X : Cx} {C f : Addr} {B newId initId : String} {bmB : List Value} {e : Expr} {te : TE} {pos : Pos} {R : Addr → Hp → Prop}
/-- raise e, where e is an exception with a dict -/
theorem ps_raiseE (hc : X.calm = true) (O : ExcI X.K C f B newId initId bmB) (he : PE X e te) (hR : ∀ pins σ H s q dx, Inv X pins σ H s → X.H₀ q = none → H q = some (ExcD q C dx) → R dx (del H q) → X.xe (.ref q) s) :
    PS X (.Raise (some e) none pos) (fun _ σ H => te σ H fun v H2 => ∃ q dx, v = .ref q ∧ X.H₀ q = none ∧ H2 q = some (ExcD q C dx) ∧ R dx (del H2 q)) := by
  intro pins s σ H D I h
  obtain ⟨bm, N, nm, qn, bs, hdct, sn, sub, ab, col, dd, k0, k1, k2, k3, k5, mN, hC, hN, hni, TL⟩ := own_objI (h := X.base) I.ok.mod.kin O.at_
  rw [arm_exec_Raise]
  have main : wpAny (model X.prog X.w) X.A (eval e X.env) (fun v s1 => ∃ e t dx, v = .ref e ∧ s1.heap.get? e = some (excObj C t (some dx)) ∧ s1.heap.get? C = some (excClassObj nm qn C N bs bm hdct sn sub ab col dd k0 k1 k2 k3 k5 newId) ∧ X.xe (.ref e) s1) X.xe s := by
    refine wpAny_mono (he pins s σ H _ I h) (fun u s1 z => ?_) fun _ _ y => y
    obtain ⟨v, H2, I2, rv, q, dx, ev, h0, eq, r⟩ := z
    subst ev
    cases (show u = Value.ref q from rv)
    obtain ⟨t, ht⟩ := excD_at I2 eq
    exact ⟨q, t, dx, rfl, ht, I2.bk _ _ hC, hR pins σ H2 s1 q dx I2 h0 eq r⟩
  refine wpAny_bind (wpAny_standAt (raiseD (C := C) (nm := nm) (q := qn) (N := N) (bs := bs) (bm := bm) (hdct := hdct) (sn := sn) (sub := sub) (ab := ab) (col := col) (dd := dd) (k0 := k0) (k1 := k1) (k2 := k2) (k3 := k3) (k5 := k5) (newId := newId) (TL.hasType O.base.hasBase) (I.ok.hd hc) ?_))
  exact wpAny_bind (wpAny_mono main (fun v s1 z => wpAny_bind (wpAny_standAt (wpAny_pure z))) fun _ _ y => y)
end
theorem raisesD1 {P : Program} {w : World} {K : PySem.W.Frag} {mg : Str → Option Value} {base : Heap} {N : List Str} {qual : Str} {scope : Scope} {f C : Addr} {cd : Value} {A : Around} {outer : List Env} {s : Shared} {H : Hp} {E : XK} :
    ∀ (pins : List (Addr × Obj)) (σ : St) (H1 : Hp) (s1 : Shared) (q dx : Addr), Inv (cxX P w K mg base N qual scope f cd A outer s H E) pins σ H1 s1 → (cxX P w K mg base N qual scope f cd A outer s H E).H₀ q = none → H1 q = some (ExcD q C dx) → E (.ref C) (some dx) (del H1 q) →
      (cxX P w K mg base N qual scope f cd A outer s H E).xe (.ref q) s1 :=
  fun pins σ H1 s1 q dx I h0 e k => raise_outD (E' := fun e' s'' => XOk P w outer H s E e' s'') top_cxX I h0 e k
/-- what was caught: a thing of the own class at C, with its dict -/
def CaughtD (a C dx : Addr) : HO := .ext fun h => ∃ o, h.get? a = some o ∧ (o.cls = .ref C ∧ o.dict = some dx ∧ ∃ vs, o.data = .fields vs)
section
variable {X : Cx} {pins : List (Addr × Obj)} {σ : St} {H : Hp} {s : Shared} {a C dx : Addr} {f : Str} {A : Around} {E : Value → Shared → Prop}
/-- e.f of what was caught -/
theorem getattr_cd {v : V} {b : Bool} {fs : List (Str × V)} {Q : Value → Shared → Prop} (I : Inv X pins σ H s) (e : H a = some (CaughtD a C dx)) (e2 : H dx = some (.xd fs)) (ZC : XCls X.K C) (Z : XAttr X.K C f) (l : fs.lookup f = some v)
    (h : ∀ u s', Inv X pins σ H s' → RelV v u → Q u s') : wpAny (model X.prog X.w) A (getAttr (.ref a) f b) Q E s := by
  obtain ⟨⟨ox, hx, hxc, hxd, vs, hxv⟩, _⟩ := (show ObjOk X.prog X.w H s.heap a (CaughtD a C dx) from I.hok a _ e)
  obtain ⟨mA, ns, r⟩ := (show ObjOk X.prog X.w H s.heap dx (.xd fs) from I.hok dx _ e2)
  obtain ⟨u, hu, ru⟩ := RelO.some_of (v := v) (o := mA f) (by rw [← l]; exact r f)
  obtain ⟨od, ho, hl⟩ := lookIn_ns ns
  obtain ⟨c0, d0, dt, sl⟩ := ox
  simp only at hxc hxd hxv
  subst hxc hxd hxv
  have J : PySem.W.InstAt s.heap a ⟨.ref C, some dx, .fields vs, sl⟩ C (some od) := ⟨hx, rfl, rfl, ho⟩
  have hf := PySem.W.findObj_own (od := od) (v := u) Z.hd Z.no rfl (by rw [hl, hu])
  have XK := I.kIn
  have I1 := I.tok (s.toks + 1)
  unfold getAttr
  refine wpAny_bind (wpAny_mkText ?_)
  refine xga_by (s := { s with toks := s.toks + 1 }) XK ZC J (handed_of ru) (fun A Q E hq => ?_) (h u _ I1 ru)
  have L0 := J.type (M := model X.prog X.w)
  have L1 := PySem.W.looks_find (M := model X.prog X.w) XK J hf
  unfold Builtin.«object.__getattribute__»
  exact wpAny_bind (wpAny_pure (wpAny_bind (wpAny_pure (wpAny_bind (PySem.W.Looks.here (s := { s with toks := s.toks + 1 }) L0 (wpAny_bind (PySem.W.Looks.here (s := { s with toks := s.toks + 1 }) L1 (wpAny_pure hq))))))))
end
section
variable {X : Cx} {e : Expr} {f : Str} {pos : Pos} {ta : TE}
def tFldC (K : PySem.W.Frag) (ta : TE) (f : Str) : TE := fun σ H Q => ta σ H fun x H1 => ∃ a C dx fs v, x = .ref a ∧ H1 a = some (CaughtD a C dx) ∧ H1 dx = some (.xd fs) ∧ XCls K C ∧ XAttr K C f ∧ fs.lookup f = some v ∧ Q v H1
theorem pe_fldC {K : PySem.W.Frag} (hK : X.K = K) (he : PE X e ta) (hb : attributeBase e f X.env (eval e X.env) = eval e X.env := by rfl) : PE X (.Attribute e f pos) (tFldC K ta f) := by
  subst hK
  intro pins s σ H Q I h
  refine attr_of hb (thn (he pins s σ H _ I h) fun u s1 ⟨x, H1, I1, rx, a, C, dx, fs, v, ex, ea, ed, c, n, l, q⟩ => ?_)
  subst ex
  obtain rfl : u = Value.ref a := rx
  exact getattr_cd I1 ea ed c n l fun u' s2 I2 ru => ⟨v, H1, I2, ru, q⟩
end
section
variable {X : Cx}
/-- try: .. except D as n: .., where what is caught has a dict -/
theorem ps_tryAsD {c n : Str} {D₀ : Addr} {i : Nat} {body : List Stmt} {b₀ : Stmt} {suite : List Stmt} {tb : TSX} {th : TS} {np hpos pos : Pos} (T : Top1 X) (hg : Gl X c) (hm : X.mg c = some (.ref D₀)) (hN : X.N.Nodup) (hi : X.N[i]? = some n)
    (hkd : X.env.kindOf n = some .local) (hx : Loc X.env.scope n) (hb : PSX X body tb) (hs : ∀ e, PSs (X.caught e) (b₀ :: suite) th) (hdb : (c == ("__debug__" : Str)) = false := by decide)
    (hf : X.fn n = true ∨ X.env.scope.names.lookup n = some .local := by first | exact .inl rfl | exact .inr rfl | assumption) :
    PS X (.Try body [.ExceptHandler (some (.Name c np)) (some n) (b₀ :: suite) hpos] [] [] pos) (fun D σ H => tb D (fun σ1 cls pd H1 => ∃ C dx, cls = .ref C ∧ pd = some dx ∧ PySem.W.exmOne X.K (.ref C) (.ref D₀) = some true ∧
      ∀ ea, H1 ea = none → th (D.gone i) (σ1.set i (some (.ref ea))) (upd H1 ea (CaughtD ea C dx))) σ H) := by
  intro pins s σ H D I h
  refine wpAny_Try_except (wpAny_mono (hb pins s σ H D _ I h) (fun f s1 q => ?_) fun ex s' ⟨σ1, H1, s1, I1, hx'⟩ => ?_)
  · cases f with
    | next => exact wpAny_execs_nil q
    | brk => exact q
    | cont => exact q
    | ret u => exact q
  · obtain ⟨ea, C', a0, H', Bh, pd, rfl, fl, os, ba, un, hk, kb, tbb, dk, C, dx, ec, ep, em, q⟩ := hx'
    cases ec
    subst ep
    have D0 := dk dx rfl
    have hfr : X.A.frames = some (X.env :: X.outer) := by rw [← T.stk]; exact I1.ok.frames
    have ff := fl.2.2.1
    have hB : Bh.get? ea = none := fl.2.1
    have dat : ∀ h l, Heap.FlyingW Bh l ea (.ref C') a0 h → ∃ oe vs, h.get? ea = some oe ∧ oe.cls = .ref C' ∧ oe.data = .fields vs := fun h l z => by
      obtain ⟨_, _, _, oe, vs, _, _, _, he, hc, hd, _⟩ := z
      exact ⟨oe, vs, he, hc.1, hd⟩
    have nofr : ea ∉ frs X.stack := fun hb => by
      obtain ⟨_, o, e1, nf⟩ := ff.mem hb
      obtain ⟨oe, vs, e2, _, hd⟩ := dat _ _ fl
      rw [e1] at e2; cases e2
      exact nf vs hd
    have s1n : s1.heap.get? ea = none := by
      cases z : s1.heap.get? ea with
      | none => rfl
      | some o => obtain ⟨o', e⟩ := tbb ea o z nofr; rw [hB] at e; cases e
    have nx : ∀ b : Addr, b ∉ X.ex := fun b z => by rw [T.ex] at z; cases z
    have s0n : X.s₀.heap.get? ea = none := by
      cases z : X.s₀.heap.get? ea with
      | none => rfl
      | some o => obtain ⟨o', e⟩ := I1.base.there ea o z (nx ea); rw [s1n] at e; cases e
    have hn : H' ea = none := hk.freshN hB
    rw [T.stk] at fl
    refine wpAny_mono (Keep.any (keep_note (e := ea) (dx := dx) (.ref ea) X.env) D0 (wpAny_looks_onW hfr T.frm fl (E := X.xe) (Q := fun _ s2 => ∃ h4, s2 = { s' with heap := h4 } ∧ Heap.HeldW Bh (X.env :: X.outer) ea (.ref C') a0 X.env.locals h4 ∧ s'.heap.UpToSlots h4) fun h4 x y => ⟨h4, rfl, x, y⟩)) (fun _ s2 z => ?_) fun _ _ z => z.1
    obtain ⟨⟨h₄, rfl, held₄, sm₄⟩, D4⟩ := z
    refine wpAny_mono (Keep.any (keep_flight (e := ea) (dx := dx) (.ref ea) none) D4 (wpAny_landsW held₄ (E := X.xe) (Q := fun _ s3 => ∃ h5, s3 = { s' with heap := h5 } ∧ Heap.FlyingW Bh (X.env :: X.outer) ea (.ref C') a0 h5 ∧ h₄.UpToSlots h5) fun h5 x y => ⟨h5, rfl, x, y⟩)) (fun _ s3 z => ?_) fun _ _ z => z.1
    obtain ⟨⟨h₅, rfl, fl₅, sm₅'⟩, D5⟩ := z
    have sm₅ := sm₄.trans sm₅'
    have I5 : Inv X pins σ1 H' { s' with heap := h₅ } := I1.landed T os ba un hk kb tbb fl₅.1 sm₅ ff
    obtain ⟨ob, hob, hobc⟩ := fl₅.there
    refine wpAny_handleBy_cons (codeAny_handlers_test (ld_glob (X := X.caught (.ref ea)) (I5.caught (.ref ea)) hg hm ?_ hdb)) (by intro q; cases q)
    have LT : PySem.W.Looks (model X.prog X.w) h₅ (typeOf (.ref ea)) (.ref C') := TyAt.type ⟨ob, hob, hobc⟩
    refine PySem.W.Looks.here (s := { s' with heap := h₅ }) (PySem.W.exm_one I5.kIn LT em) ?_
    refine codeAny_handlers_suite_as ?_
    refine wpAny_mono (Keep.any (keep_flight (e := ea) (dx := dx) (.ref ea) none) D5 (lands_againW fl₅ (Q := fun _ s6 => ∃ h6, s6 = { s' with heap := h6 } ∧ Heap.FlyingW Bh (X.env :: X.outer) ea (.ref C') a0 h6 ∧ h₅.UpToSlots h6) fun h6 x y => ⟨h6, rfl, x, y⟩)) (fun _ s6 z => ?_) fun _ _ z => z.1
    obtain ⟨⟨h₆, rfl, fl₆, sm₆⟩, D6⟩ := z
    have I6 : Inv X pins σ1 H' { s' with heap := h₆ } := I1.landed T os ba un hk kb tbb fl₆.1 (sm₅.trans sm₆) ff
    obtain ⟨oe, vs, he, hec, hed⟩ := dat _ _ fl₆
    obtain ⟨o6, h61, h62⟩ := D6
    rw [he] at h61
    cases h61
    have I7 : Inv X pins σ1 (upd H' ea (CaughtD ea C' dx)) { s' with heap := h₆ } := I6.track hn s0n (fun z => nofr (T.mem.mpr (.inl z))) (fun y c e z => by
        obtain ⟨v, o, e1, e2⟩ := I6.cell y c e
        rw [z] at e1
        rw [he] at e1; cases e1
        rw [hed] at e2; cases e2) (fun p hp z => by
        obtain ⟨e1, _⟩ := I1.pin p hp
        rw [z, s1n] at e1; cases e1) (ext_ok (φ := fun o => o.cls = .ref C' ∧ o.dict = some dx ∧ ∃ vs, o.data = .fields vs) he ⟨hec, h62, vs, hed⟩)
    refine store_ok (X := X.caught (.ref ea)) (I7.caught (.ref ea)) hN hi hx (v := .ref ea) rfl (fun s8 I8 => ?_) hf
    refine wpAny_mono (hs (.ref ea) pins s8 _ _ (D.gone i) I8 (q ea hn)) (fun f s9 q9 => ?_) fun _ _ z => z.elim
    have q9 := SP.uncaught I6.ok q9
    cases f with
    | next => obtain ⟨a, b, J, z⟩ := q9; exact goes_ok J hN hi hkd fun s' J' => ⟨_, b, J', z⟩
    | brk => obtain ⟨a, b, J, z⟩ := q9; exact goes_ok J hN hi hkd fun s' J' => ⟨_, b, J', z⟩
    | cont => obtain ⟨a, b, J, z⟩ := q9; exact goes_ok J hN hi hkd fun s' J' => ⟨_, b, J', z⟩
    | ret u => obtain ⟨v, a, b, J, r, z⟩ := q9; exact goes_ok J hN hi hkd fun s' J' => ⟨v, _, b, J', r, z⟩
end
end L2

set_option maxHeartbeats 2000000
namespace My
/-! ### mathematics -/
def G (d : Int) (ns : List Int) : Int := ns.foldl (fun d n => ((Int.gcd d n : Nat) : Int)) d
abbrev gl (ns : List Int) : Int := G 0 ns
theorem G_cons (d n : Int) (r : List Int) : G d (n :: r) = G (Int.gcd d n : Nat) r := rfl
theorem G_snoc (d : Int) (l : List Int) (n : Int) : G d (l ++ [n]) = (Int.gcd (G d l) n : Nat) := by
  unfold G
  rw [List.foldl_append]
  rfl
theorem G_nonneg : ∀ (ns : List Int) (d : Int), 0 ≤ d → 0 ≤ G d ns
  | [], _, h => h
  | n :: r, d, _ => by rw [G_cons]; exact G_nonneg r _ (by omega)
theorem gl_nonneg (ns : List Int) : 0 ≤ gl ns := G_nonneg ns 0 (by omega)
theorem G_dvd : ∀ (ns : List Int) (d : Int), G d ns ∣ d ∧ ∀ n ∈ ns, G d ns ∣ n
  | [], d => ⟨Int.dvd_refl d, fun n h => nomatch h⟩
  | m :: r, d => by
    obtain ⟨h1, h2⟩ := G_dvd r (Int.gcd d m : Nat)
    rw [G_cons]
    refine ⟨Int.dvd_trans h1 (Int.gcd_dvd_left ..), fun n hn => ?_⟩
    rcases List.mem_cons.mp hn with rfl | hn
    · exact Int.dvd_trans h1 (Int.gcd_dvd_right ..)
    · exact h2 n hn
theorem gl_dvd {ns : List Int} {n : Int} (h : n ∈ ns) : gl ns ∣ n := (G_dvd ns 0).2 n h
theorem dvd_G : ∀ (ns : List Int) (d k : Int), k ∣ d → (∀ n ∈ ns, k ∣ n) → k ∣ G d ns
  | [], _, _, h, _ => h
  | m :: r, d, k, h, hn => by
    rw [G_cons]
    refine dvd_G r _ k ?_ fun n h' => hn n (List.mem_cons_of_mem _ h')
    have h2 := hn m List.mem_cons_self
    exact Int.dvd_coe_gcd h h2
theorem dvd_gl {ns : List Int} {k : Int} (h : ∀ n ∈ ns, k ∣ n) : k ∣ gl ns := dvd_G ns 0 k (Int.dvd_zero k) h
theorem dvd_one {k : Int} (h0 : 0 ≤ k) (h : k ∣ 1) : k = 1 := by
  exact Int.eq_one_of_dvd_one h0 h
theorem gl_div {ns : List Int} (hg : gl ns ≠ 0) : gl (ns.map (· / gl ns)) = 1 := by
  have h0 := gl_nonneg ns
  refine dvd_one (gl_nonneg _) ?_
  have h1 : ∀ n ∈ ns, gl (ns.map (· / gl ns)) * gl ns ∣ n := fun n hn => by
    obtain ⟨c, hc⟩ := gl_dvd (ns := ns.map (· / gl ns)) (List.mem_map.mpr ⟨n, hn, rfl⟩)
    refine ⟨c, ?_⟩
    have e : n = n / gl ns * gl ns := (Int.ediv_mul_cancel (gl_dvd hn)).symm
    rw [e, hc, Int.mul_assoc, Int.mul_comm c, ← Int.mul_assoc]
  obtain ⟨c, hc⟩ := dvd_gl h1
  refine ⟨c, ?_⟩
  have h2 : gl ns * 1 = gl ns * (gl (ns.map (· / gl ns)) * c) := by
    rw [Int.mul_one, ← Int.mul_assoc, Int.mul_comm (gl ns) (gl (ns.map (· / gl ns)))]
    exact hc
  exact Int.eq_of_mul_eq_mul_left hg h2
theorem G_one : ∀ ns : List Int, G 1 ns = 1
  | [] => rfl
  | n :: r => by
    rw [G_cons]
    have : Int.gcd 1 n = 1 := by simp
    rw [this]
    exact G_one r
theorem G_append (d : Int) (a b : List Int) : G d (a ++ b) = G (G d a) b := by
  unfold G
  exact List.foldl_append
theorem gl_one_of_take {ns : List Int} {i : Nat} (h : gl (ns.take i) = 1) : gl ns = 1 := by
  have e : ns = ns.take i ++ ns.drop i := (List.take_append_drop i ns).symm
  rw [e]
  show G 0 _ = 1
  rw [G_append]
  have h' : G 0 (ns.take i) = 1 := h
  rw [h']
  exact G_one _
theorem gl_take_succ {ns : List Int} {i : Nat} {n : Int} (h : ns[i]? = some n) : gl (ns.take (i + 1)) = (Int.gcd (gl (ns.take i)) n : Nat) := by
  rw [List.take_add_one, h]
  exact G_snoc 0 _ n
theorem map_div_one (ns : List Int) : ns.map (· / 1) = ns := by
  induction ns with
  | nil => rfl
  | cons a r ih => rw [List.map_cons, ih, Int.ediv_one]
theorem gcd_step (a b : Int) (ha : 0 ≤ a) : Int.gcd b (a % b) = Int.gcd a b := by
  have h1 : (a % b).natAbs = a.natAbs % b.natAbs := Int.natAbs_emod_of_nonneg ha b
  rw [Int.gcd_eq_natAbs_gcd_natAbs, Int.gcd_eq_natAbs_gcd_natAbs, h1]
  rw [Nat.gcd_comm, Nat.gcd_comm a.natAbs, ← Nat.gcd_rec]
theorem gcd_abs (a b : Int) : Int.gcd (if a < 0 then -a else a) (if b < 0 then -b else b) = Int.gcd a b := by
  split <;> split <;> simp [Int.gcd_neg, Int.neg_gcd]
theorem gcd_maxmin (a b : Int) : Int.gcd (if b > a then b else a) (if b < a then b else a) = Int.gcd a b := by
  split <;> split
  · omega
  · exact Int.gcd_comm b a
  · rfl
  · have : a = b := by omega
    rw [this]
theorem gl_two (t b : Int) : gl [t, b] = (Int.gcd t b : Nat) := by
  show ((Int.gcd ((Int.gcd 0 t : Nat) : Int) b : Nat) : Int) = _
  rw [Int.gcd_eq_natAbs_gcd_natAbs, Int.gcd_eq_natAbs_gcd_natAbs t b, Int.gcd_eq_natAbs_gcd_natAbs 0 t]
  simp
/-- the parts of a list by its greatest divisor -/
theorem parts {ns : List Int} {a b : Int} (ha : a ∈ ns) (hb : b ∈ ns) : (a / gl ns) * b = a * (b / gl ns) := by
  have e1 : a = a / gl ns * gl ns := (Int.ediv_mul_cancel (gl_dvd ha)).symm
  have e2 : b = b / gl ns * gl ns := (Int.ediv_mul_cancel (gl_dvd hb)).symm
  conv => lhs; rhs; rw [e2]
  conv => rhs; lhs; rw [e1]
  rw [Int.mul_assoc, Int.mul_comm (gl ns)]
theorem gl_pos {ns : List Int} {n : Int} (h : n ∈ ns) (hn : n ≠ 0) : 0 < gl ns := by
  have h0 := gl_nonneg ns
  rcases Int.lt_or_eq_of_le h0 with h1 | h1
  · exact h1
  · obtain ⟨c, hc⟩ := gl_dvd h
    rw [← h1, Int.zero_mul] at hc
    exact absurd hc hn
theorem div_pos_of {ns : List Int} {n : Int} (h : n ∈ ns) (hn : 0 < n) : 1 ≤ n / gl ns := by
  have hp := gl_pos h (by omega)
  have e : n = n / gl ns * gl ns := (Int.ediv_mul_cancel (gl_dvd h)).symm
  rcases Int.lt_trichotomy (n / gl ns) 0 with h1 | h1 | h1
  · have := Int.mul_neg_of_neg_of_pos h1 hp
    omega
  · rw [h1] at e; omega
  · omega
end My
namespace My
theorem div_ne_zero {n g : Int} (h : g ∣ n) (hn : n ≠ 0) : n / g ≠ 0 := fun z => by
  have e := Int.ediv_mul_cancel h
  rw [z, Int.zero_mul] at e
  exact hn e.symm
end My
local macro_rules | `(tactic| walk_at "rd") => `(tactic| simp only [L2.start, L2.tSeq, L2.tNext, L2.tAsg, L2.gName, L2.tVar, L2.tC, L2.tOp, L2.tUn, L2.tTest, L2.tB, L2.tIfS, L2.tRet, L2.tRetN, L2.tDrop, L2.tBreak, L2.tCont, L2.tAnd, L2.tOr, L2.tNot, L2.tAndV, L2.tOrV, L2.tNotV, L2.tCall, L2.tCB, L2.tCons, L2.tNil, L2.tTup, L2.tLst, L2.tPar, L2.tBM0, L2.tBM, L2.tyV, L2.tCut, L2.gk, and_self, L2.tSl, L2.tNoPart, L2.tPart, L2.gTup, L2.gCons, L2.gNil, L2.cxOf, and_assoc, 
  L2.rI, L2.rI0, L2.rU, L2.rEq, L2.rNe, L2.scal, List.map_cons, List.map_nil, List.length_cons, List.length_nil, List.replicate_succ, List.replicate_zero, List.cons_append, List.nil_append, List.append_nil, Nat.reduceSub, Nat.reduceAdd, Nat.sub_self,
  List.set_cons_zero, List.set_cons_succ, List.getElem?_cons_zero, List.getElem?_cons_succ, Option.some.injEq, exists_eq_left', exists_eq_left, L2.V.int.injEq, L2.V.bl.injEq, L2.V.ref.injEq, L2.V.ty.injEq, List.cons.injEq, exists_and_left, and_true, true_and, reduceCtorEq, false_and, and_false, exists_false, or_false, false_or,
  L2.slotsAt, Option.getD_some, Bool.true_eq_false, decide_eq_true_eq, Bool.not_eq_true', decide_eq_false_iff_not, decide_not, Bool.false_eq_true, if_true, if_false, ite_not])
local macro_rules | `(tactic| walk_at "go") => `(tactic| repeat (first | refine L2.ixT (by assumption) rfl ?_ | refine L2.ixL (by assumption) rfl ?_ | refine And.intro (by assumption) ?_ | walk_at "rd"))
local macro_rules | `(tactic| walk_at "rf") => `(tactic| simp only [L2.start, L2.tSeq, L2.tNext, L2.tAsg, L2.gName, L2.tVar, L2.tC, L2.tOp, L2.tUn, L2.tTest, L2.tB, L2.tIfS, L2.tRet, L2.tRetN, L2.tDrop, L2.tBreak, L2.tCont, L2.tAnd, L2.tOr, L2.tNot, L2.tAndV, L2.tOrV, L2.tNotV, L2.tCall, L2.tCB, L2.tCons, L2.tNil, L2.tTup, L2.tLst, L2.tPar, L2.tBM0, L2.tBM, L2.tyV, L2.tCut, L2.gk, and_self, L2.tSl, L2.tNoPart, L2.tPart, L2.gTup, L2.gCons, L2.gNil, L2.cxOf, and_assoc, 
  L2.rI, L2.rI0, L2.rU, L2.rEq, L2.rNe, L2.scal, List.map_cons, List.map_nil, List.length_cons, List.length_nil, List.replicate_succ, List.replicate_zero, List.cons_append, List.nil_append, List.append_nil, Nat.reduceSub, Nat.reduceAdd, Nat.sub_self,
  List.set_cons_zero, List.set_cons_succ, List.getElem?_cons_zero, List.getElem?_cons_succ, Option.some.injEq, exists_eq_left', exists_eq_left, L2.V.int.injEq, L2.V.bl.injEq, L2.V.ref.injEq, L2.V.ty.injEq, List.cons.injEq, exists_and_left, and_true, true_and, reduceCtorEq, false_and, and_false, exists_false, or_false, false_or,
  L2.slotsAt, Option.getD_some, Bool.true_eq_false, decide_eq_true_eq, Bool.not_eq_true', decide_eq_false_iff_not, decide_not, Bool.false_eq_true, if_true, if_false, ite_not, L2.tFor_R1, L2.tFor_R2, L2.tFor_L, L2.tFor_T, L2.tComp_R1, L2.tComp_R2, L2.tComp_L, L2.tComp_T, L2.tFor_S, L2.tComp_S, L2.tChain, L2.V.str.injEq, L2.tCompM_L, L2.tListRev, L2.tComp_R3, L2.tFor_E])
local macro_rules | `(tactic| walk_at "sd") => `(tactic| first | assumption | exact L2.Fit.o (by omega) (by omega) | (show L2.CPow _ _; exact ⟨by decide, by decide, by decide⟩) | decide)
local macro_rules | `(tactic| walk_at "gf") => `(tactic| repeat (first | ((with_reducible apply L2.ixT); assumption; rfl) | ((with_reducible apply L2.ixL); assumption; rfl) | ((with_reducible apply L2.FoR.lst); assumption) | ((with_reducible apply L2.FoR.tup); assumption) | ((with_reducible apply L2.FoR.len); assumption) | ((with_reducible apply L2.FoR.lenT); assumption) | ((with_reducible apply And.intro); (walk_at "sd")) | walk_at "rf"))

namespace My
open PySem L2 PyProof.Rows
def top (i : Nat) : Stmt := PySem.Challenge.pw_boardsight_k53_nearness_by_place.main.body.getD i (.Pass ⟨0, 0, 0, 0⟩)
abbrev s_sign_of : Stmt := top 11
abbrev s_greatest_divisor : Stmt := top 13
abbrev s_in_lowest_terms : Stmt := top 14
abbrev s_crossed : Stmt := top 15
abbrev s_determinant : Stmt := top 16
abbrev s_made_spot : Stmt := top 18
abbrev s_stands_first : Stmt := top 19
abbrev s_without : Stmt := top 20
abbrev s_minor_of : Stmt := top 21
abbrev s_in_line : Stmt := top 22
abbrev s_made_plane : Stmt := top 24
abbrev s_turned_about : Stmt := top 25
abbrev s_is_plain : Stmt := top 26
abbrev s_rough_plane : Stmt := top 27
abbrev s_plane_through : Stmt := top 28
abbrev s_height_over : Stmt := top 29
abbrev s_side_of : Stmt := top 30
abbrev s_fraction : Stmt := top 32
abbrev s_formed : Stmt := top 35
abbrev s_flat_axis : Stmt := top 36
abbrev s_side_of_edge : Stmt := top 37
abbrev s_is_convex : Stmt := top 38
abbrev s_made_board : Stmt := top 39
abbrev s_plane_of : Stmt := top 40
abbrev s_first_not_free : Stmt := top 41
abbrev s_refuse_unless_free : Stmt := top 42
abbrev s_along : Stmt := top 44
abbrev s_made_frame : Stmt := top 45
abbrev s_nearness : Stmt := top 46
abbrev s__law_at : Stmt := top 48
abbrev s__law_pot : Stmt := top 49
abbrev s__law_take : Stmt := top 50
abbrev s__law_number : Stmt := top 51
abbrev s__law_dot : Stmt := top 52
abbrev s__law_cross : Stmt := top 53
abbrev s__law_way : Stmt := top 54
abbrev s__law_spot : Stmt := top 55
abbrev s__law_arrow : Stmt := top 56
abbrev s__law_other : Stmt := top 57
abbrev s__law_frame : Stmt := top 58
abbrev s__law_start : Stmt := top 59
abbrev s__law_shape : Stmt := top 60
abbrev s__law_board : Stmt := top 61
abbrev s__law_upright : Stmt := top 62
abbrev s__law_free : Stmt := top 63
abbrev s__law_fraction : Stmt := top 64
abbrev s__law_place : Stmt := top 65
abbrev s__law_ray : Stmt := top 66
abbrev s__law_is_fraction : Stmt := top 67
abbrev s__law_right : Stmt := top 68
abbrev s__law_told : Stmt := top 69
abbrev s_law : Stmt := top 70
def Small (i : Int) : Prop := i.natAbs < 2 ^ 1990
theorem Small.neg {i : Int} (h : Small i) : Small (-i) := by unfold Small at *; rw [Int.natAbs_neg]; exact h
theorem Small.ite {c : Prop} [Decidable c] {i j : Int} (h : Small i) (h' : Small j) : Small (if c then i else j) := by split <;> assumption
theorem Small.bd {i : Int} (h : Small i) : Bd 1990 i := h
theorem Small.of {i : Int} (h1 : -1606938044258990275541962092341162602522202993782792835301376 < i) (h2 : i < 1606938044258990275541962092341162602522202993782792835301376) : Small i := (Bd.of h1 h2).mono
theorem Small.div {i g : Int} (h : Small i) : Small (i / g) := Nat.lt_of_le_of_lt (Int.natAbs_ediv_le_natAbs i g) h
theorem small_gl {ns : List Int} (h : ∀ n ∈ ns, Small n) : Small (gl ns) := by
  by_cases c : ∃ n ∈ ns, n ≠ 0
  · obtain ⟨n, hn, h0⟩ := c
    have z := Int.natAbs_dvd_natAbs.mpr (gl_dvd hn)
    exact Nat.lt_of_le_of_lt (Nat.le_of_dvd (by omega) z) (h n hn)
  · have z : (0 : Int) ∣ gl ns := dvd_gl fun n hn => by
      have : n = 0 := Classical.byContradiction fun q => c ⟨n, hn, q⟩
      rw [this]; exact Int.dvd_refl 0
    rw [Int.zero_dvd.mp z]
    exact Nat.two_pow_pos _
theorem Same.keep {H H' : Hp} {p : Addr} {o : HO} (h : Same H H') (n : H p = none) : Same H (upd H' p o) := fun b u q => by rw [upd_ne (ne_of_none q n)]; exact h b u q
theorem int_of {ns : List Int} {i : Nat} {v : V} (h : (ns.map V.int)[i]? = some v) : ∃ z, v = V.int z ∧ ns[i]? = some z := by
  rw [List.getElem?_map] at h
  cases e : ns[i]? with
  | none => rw [e] at h; cases h
  | some z => rw [e] at h; exact ⟨z, (Option.some.inj h).symm, rfl⟩
def spGd : Sp := fun vs H Q _ => ∃ a b : Int, vs = [.int a, .int b] ∧ Small a ∧ Small b ∧ Q (.int (Int.gcd a b : Nat)) H
def spLow : Sp := fun vs H Q _ => ∃ (a : Addr) (ns : List Int), vs = [.ref a] ∧ H a = some (.tup (ns.map V.int)) ∧ ns.length ≤ 10 ∧ (∀ n ∈ ns, Small n) ∧ gl ns ≠ 0 ∧
  ∀ (r : Addr) (H' : Hp), Same H H' → H' r = some (.tup ((ns.map (· / gl ns)).map V.int)) → Q (.ref r) H'
def spLaw (K : PySem.W.Frag) : Sp := fun vs H Q _ => ∃ (a : Addr) (ns : List Int), vs = [.ref a] ∧ SqL K H a (ns.map V.int) ∧ ns.length ≤ 63 ∧ ∀ H', Q (.bl true) H'
/-! ### what the top has written -/
structure Tx (K : PySem.W.Frag) (mg : Str → Option Value) (t1 t2 : Tok) : Prop where
  m_abs : mg "abs" = none
  m_max : mg "max" = none
  m_min : mg "min" = none
  m_len : mg "len" = none
  m_all : mg "all" = none
  m_range : mg "range" = none
  m_tuple : mg "tuple" = none
  m_int : mg "int" = none
  m_bool : mg "bool" = none
  m_isinstance : mg "isinstance" = none
  m_list : mg "list" = none
  m_reversed : mg "reversed" = none
  m_enumerate : mg "enumerate" = none
  m_SHORT_BITS : mg "SHORT_BITS" = some (.int 2000 t1)
  m_MOST_CORNERS : mg "MOST_CORNERS" = some (.int 8 t2)
theorem Tx.r_SHORT_BITS {K : PySem.W.Frag} {mg : Str → Option Value} {t1 t2 : Tok} (_ : Tx K mg t1 t2) : RelV (.int 2000) (.int 2000 t1) := ⟨_, rfl⟩
theorem Tx.r_MOST_CORNERS {K : PySem.W.Frag} {mg : Str → Option Value} {t1 t2 : Tok} (_ : Tx K mg t1 t2) : RelV (.int 8) (.int 8 t2) := ⟨_, rfl⟩
def low (ns : List Int) : List Int := ns.map (· / gl ns)
def Sm2 (i : Int) : Prop := i.natAbs < 2 ^ 200
theorem Sm2.bd {i : Int} (h : Sm2 i) : Bd 1990 i := Bd.mono (n := 200) h
theorem Sm2.of {i : Int} (h1 : -1606938044258990275541962092341162602522202993782792835301376 < i) (h2 : i < 1606938044258990275541962092341162602522202993782792835301376) : Sm2 i := Bd.of h1 h2
theorem Sm2.div {i g : Int} (h : Sm2 i) : Sm2 (i / g) := Nat.lt_of_le_of_lt (Int.natAbs_ediv_le_natAbs i g) h
structure Pt where
  x : Int
  y : Int
  z : Int
  w : Int
def Pt.sm (p : Pt) : Prop := Sm2 p.x ∧ Sm2 p.y ∧ Sm2 p.z ∧ Sm2 p.w
def Is4 (H : Hp) (r : Addr) (p : Pt) : Prop := H r = some (.tup [.int p.x, .int p.y, .int p.z, .int p.w]) ∧ p.sm
theorem Is4.keep {H H' : Hp} {r : Addr} {p : Pt} (h : Is4 H r p) (s : Same H H') : Is4 H' r p := ⟨s _ _ h.1, h.2⟩
theorem Is4.sq {K : PySem.W.Frag} {H : Hp} {r : Addr} {p : Pt} (h : Is4 H r p) : SqT K H r [.int p.x, .int p.y, .int p.z, .int p.w] := SqT.of h.1
theorem Pt.sm.fx {p : Pt} (h : p.sm) : Fit p.x := h.1.bd.fit
theorem Pt.sm.fy {p : Pt} (h : p.sm) : Fit p.y := h.2.1.bd.fit
theorem Pt.sm.fz {p : Pt} (h : p.sm) : Fit p.z := h.2.2.1.bd.fit
theorem Pt.sm.fw {p : Pt} (h : p.sm) : Fit p.w := h.2.2.2.bd.fit
def wo (k : Int) (p : Pt) : List Int := if k = 0 then [p.y, p.z, p.w] else if k = 1 then [p.x, p.z, p.w] else if k = 2 then [p.x, p.y, p.w] else [p.x, p.y, p.z]
def det3 (a b c x y z u v w : Int) : Int := (b * z - c * y) * u + (c * x - a * z) * v + (a * y - b * x) * w
def detL : List Int → List Int → List Int → Int
  | [a, b, c], [x, y, z], [u, v, w] => det3 a b c x y z u v w
  | _, _, _ => 0
def minor (k : Int) (p q r : Pt) : Int := detL (wo k p) (wo k q) (wo k r)
def inl (p q r : Pt) : Bool := decide (minor 0 p q r = 0 ∧ minor 1 p q r = 0 ∧ minor 2 p q r = 0)
def Tup3 (H : Hp) (r : Addr) (a b c : Int) : Prop := H r = some (.tup [.int a, .int b, .int c]) ∧ Sm2 a ∧ Sm2 b ∧ Sm2 c
def spCross : Sp := fun vs H Q _ => ∃ (r p : Addr) (a b c x y z : Int), vs = [.ref r, .ref p] ∧ Tup3 H r a b c ∧ Tup3 H p x y z ∧
  ∀ (t : Addr) (H' : Hp), Same H H' → H' t = some (.tup [.int (b * z - c * y), .int (c * x - a * z), .int (a * y - b * x)]) → Q (.ref t) H'
def spDet : Sp := fun vs H Q _ => ∃ (r p s : Addr) (a b c x y z u v w : Int), vs = [.ref r, .ref p, .ref s] ∧ Tup3 H r a b c ∧ Tup3 H p x y z ∧ Tup3 H s u v w ∧ ∀ H' : Hp, Same H H' → Q (.int (det3 a b c x y z u v w)) H'
def spWithout : Sp := fun vs H Q _ => ∃ (r : Addr) (k : Int) (p : Pt), vs = [.ref r, .int k] ∧ Is4 H r p ∧ 0 ≤ k ∧ k ≤ 3 ∧ ∀ (t : Addr) (H' : Hp), Same H H' → H' t = some (.tup ((wo k p).map V.int)) → Q (.ref t) H'
def spMinor : Sp := fun vs H Q _ => ∃ (r s t : Addr) (k : Int) (p q o : Pt), vs = [.ref r, .ref s, .ref t, .int k] ∧ Is4 H r p ∧ Is4 H s q ∧ Is4 H t o ∧ 0 ≤ k ∧ k ≤ 3 ∧ ∀ H' : Hp, Same H H' → Q (.int (minor k p q o)) H'
def spLine : Sp := fun vs H Q _ => ∃ (r s t : Addr) (p q o : Pt), vs = [.ref r, .ref s, .ref t] ∧ Is4 H r p ∧ Is4 H s q ∧ Is4 H t o ∧ ∀ H' : Hp, Same H H' → Q (.bl (inl p q o)) H'
def spTurned : Sp := fun vs H Q _ => ∃ (r : Addr) (ns : List Int), vs = [.ref r] ∧ H r = some (.tup (ns.map V.int)) ∧ ns.length ≤ 10 ∧ ∀ (t : Addr) (H' : Hp), Same H H' → H' t = some (.tup ((ns.map fun n => -n).map V.int)) → Q (.ref t) H'
def plb (a b c : Int) : Bool := if a ≠ 0 then decide (0 < a) else if b ≠ 0 then decide (0 < b) else if c ≠ 0 then decide (0 < c) else false
def spPlain : Sp := fun vs H Q _ => ∃ (r : Addr) (a b c d : Int), vs = [.ref r] ∧ H r = some (.tup [.int a, .int b, .int c, .int d]) ∧ ∀ H' : Hp, Same H H' → Q (.bl (plb a b c)) H'
def rgh (p o u : Pt) : List Int := [minor 0 p o u, -minor 1 p o u, minor 2 p o u, minor 3 p o u]
def spRough : Sp := fun vs H Q _ => ∃ (r e t : Addr) (p o u : Pt), vs = [.ref r, .ref e, .ref t] ∧ Is4 H r p ∧ Is4 H e o ∧ Is4 H t u ∧ ∀ (g : Addr) (H' : Hp), Same H H' → H' g = some (.tup ((rgh p o u).map V.int)) → Q (.ref g) H'
def pln (ns : List Int) : List Int := match low ns with
  | [a, b, c, d] => if plb a b c = true then [a, b, c, d] else [-a, -b, -c, -d]
  | l => l
def noArrow (p o u : Pt) : Prop := minor 0 p o u = 0 ∧ minor 1 p o u = 0 ∧ minor 2 p o u = 0
def hgt (a b c d : Int) (p : Pt) : Int := a * p.x + b * p.y + c * p.z - d * p.w
def sgn (n : Int) : Int := if n > 0 then 1 else if n < 0 then -1 else 0
def spSign : Sp := fun vs H Q _ => ∃ n : Int, vs = [.int n] ∧ Q (.int (sgn n)) H
def sf (x y z w x' y' z' w' : Int) : Bool := if x * w' ≠ x' * w then decide (x * w' < x' * w) else if y * w' ≠ y' * w then decide (y * w' < y' * w) else if z * w' ≠ z' * w then decide (z * w' < z' * w) else false
def sfp (p o : Pt) : Bool := sf p.x p.y p.z p.w o.x o.y o.z o.w
def spFirst : Sp := fun vs H Q _ => ∃ (r e : Addr) (p o : Pt), vs = [.ref r, .ref e] ∧ Is4 H r p ∧ Is4 H e o ∧ Q (.bl (sfp p o)) H
def spPlane : Sp := fun vs H Q _ => ∃ a b c d : Int, vs = [.int a, .int b, .int c, .int d] ∧ Small a ∧ Small b ∧ Small c ∧ Small d ∧ ¬ (a = 0 ∧ b = 0 ∧ c = 0) ∧ ∀ (r : Addr) (H' : Hp), Same H H' → H' r = some (.tup ((low [a, b, c, d]).map V.int)) → Q (.ref r) H'
def spThrough : Sp := fun vs H Q _ => ∃ (r e t : Addr) (p o u : Pt), vs = [.ref r, .ref e, .ref t] ∧ Is4 H r p ∧ Is4 H e o ∧ Is4 H t u ∧ ¬ noArrow p o u ∧ ∀ (g : Addr) (H' : Hp), Same H H' → H' g = some (.tup ((pln (rgh p o u)).map V.int)) → Q (.ref g) H'
def spHt : Sp := fun vs H Q _ => ∃ (r e : Addr) (a b c d : Int) (p : Pt), vs = [.ref r, .ref e] ∧ H r = some (.tup [.int a, .int b, .int c, .int d]) ∧ Small a ∧ Small b ∧ Small c ∧ Small d ∧ Is4 H e p ∧ Q (.int (hgt a b c d p)) H
def spSide : Sp := fun vs H Q _ => ∃ (r e : Addr) (a b c d : Int) (p : Pt), vs = [.ref r, .ref e] ∧ H r = some (.tup [.int a, .int b, .int c, .int d]) ∧ Small a ∧ Small b ∧ Small c ∧ Small d ∧ Is4 H e p ∧ Q (.int (sgn (hgt a b c d p))) H
/-- references to spots -/
inductive Sps (H : Hp) : List Addr → List Pt → Prop
  | nil : Sps H [] []
  | cons {r : Addr} {p : Pt} {rs : List Addr} {ps : List Pt} (h : Is4 H r p) (t : Sps H rs ps) : Sps H (r :: rs) (p :: ps)
theorem Sps.keep {H H' : Hp} {rs : List Addr} {ps : List Pt} (h : Sps H rs ps) (s : SameT H H') : Sps H' rs ps := by
  induction h with
  | nil => exact .nil
  | cons h _ ih => exact .cons ⟨s _ _ h.1, h.2⟩ ih
theorem Sps.len {H : Hp} {rs : List Addr} {ps : List Pt} (h : Sps H rs ps) : rs.length = ps.length := by
  induction h with
  | nil => rfl
  | cons h _ ih => rw [List.length_cons, List.length_cons, ih]
theorem Sps.app {H : Hp} {rs rs' : List Addr} {ps ps' : List Pt} (h : Sps H rs ps) (k : Sps H rs' ps') : Sps H (rs ++ rs') (ps ++ ps') := by
  induction h with
  | nil => exact k
  | cons h _ ih => exact .cons h ih
theorem Sps.rev {H : Hp} {rs : List Addr} {ps : List Pt} (h : Sps H rs ps) : Sps H rs.reverse ps.reverse := by
  induction h with
  | nil => exact .nil
  | cons h _ ih =>
    rw [List.reverse_cons, List.reverse_cons]
    exact ih.app (.cons h .nil)
theorem Sps.drop {H : Hp} {rs : List Addr} {ps : List Pt} (h : Sps H rs ps) : ∀ n, Sps H (rs.drop n) (ps.drop n) := by
  induction h with
  | nil => intro n; rw [List.drop_nil, List.drop_nil]; exact .nil
  | cons h k ih =>
    intro n
    cases n with
    | zero => exact .cons h k
    | succ n => exact ih n
theorem Sps.take {H : Hp} {rs : List Addr} {ps : List Pt} (h : Sps H rs ps) : ∀ n, Sps H (rs.take n) (ps.take n) := by
  induction h with
  | nil => intro n; rw [List.take_nil, List.take_nil]; exact .nil
  | cons h k ih =>
    intro n
    cases n with
    | zero => exact .nil
    | succ n => exact .cons h (ih n)
def p0 : Pt := ⟨0, 0, 0, 0⟩
def pt (ps : List Pt) (i : Nat) : Pt := ps.getD i p0
def ad (rs : List Addr) (i : Nat) : Addr := rs.getD i 0
theorem Sps.get {H : Hp} {rs : List Addr} {ps : List Pt} (h : Sps H rs ps) : ∀ {i : Nat}, i < ps.length → (rs.map V.ref)[i]? = some (.ref (ad rs i)) ∧ Is4 H (ad rs i) (pt ps i) := by
  induction h with
  | nil => intro i hi; exact absurd hi (by simp)
  | cons h k ih =>
    intro i hi
    cases i with
    | zero => exact ⟨rfl, h⟩
    | succ i => exact ih (by simpa using hi)
theorem atI_neg1 {α : Type} {xs : List α} {v : α} {n : Nat} (hn : xs.length = n + 1) (h : xs[n]? = some v) : atI xs (-1) = some v := by
  have e : xs = xs.take n ++ [v] := by
    have z := List.take_add_one (l := xs) (i := n)
    rw [h, ← hn, List.take_length] at z
    exact z
  rw [e]
  exact atI_last _ _
theorem cut_drop {xs : List V} {f : Nat} : cutV xs (some (f : Int)) none = xs.drop f := by
  unfold cutV
  rw [HT.sIx_nat, HT.sIx_none]
  by_cases h : f ≤ xs.length
  · rw [Nat.min_eq_left h, List.take_of_length_le (by rw [List.length_drop]; exact Nat.le_refl _)]
  · rw [Nat.min_eq_right (by omega), List.drop_of_length_le (Nat.le_refl _), List.drop_of_length_le (by omega), List.take_nil]
theorem cut_take {xs : List V} {f : Nat} : cutV xs none (some (f : Int)) = xs.take f := by
  unfold cutV
  rw [HT.sIx_nat, HT.sIx_none]
  by_cases h : f ≤ xs.length
  · rw [Nat.min_eq_left h]
    rfl
  · rw [Nat.min_eq_right (by omega)]
    show xs.take (xs.length - 0) = _
    rw [Nat.sub_zero, List.take_length, List.take_of_length_le (by omega)]
/-- the corner that stands first, among the first i + 1 -/
def argF (ps : List Pt) : Nat → Nat
  | 0 => 0
  | i + 1 => if sfp (pt ps (i + 1)) (pt ps (argF ps i)) = true then i + 1 else argF ps i
theorem argF_le (ps : List Pt) : ∀ i, argF ps i ≤ i
  | 0 => Nat.le_refl _
  | i + 1 => by
    have := argF_le ps i
    unfold argF
    split <;> omega
def rot {α : Type} (f : Nat) (l : List α) : List α := l.drop f ++ l.take f
def turn {α : Type} (b : Bool) (l : List α) : List α := if b = true then l.take 1 ++ (l.drop 1).reverse else l
def fF (ps : List Pt) : Nat := argF ps (ps.length - 1)
def fB (ps : List Pt) : Bool := sfp (pt (rot (fF ps) ps) (ps.length - 1)) (pt (rot (fF ps) ps) 1)
def frm {α : Type} (ps : List Pt) (l : List α) : List α := turn (fB ps) (rot (fF ps) l)
theorem Sps.rot {H : Hp} {rs : List Addr} {ps : List Pt} (h : Sps H rs ps) (f : Nat) : Sps H (rot f rs) (rot f ps) := (h.drop f).app (h.take f)
theorem Sps.turn {H : Hp} {rs : List Addr} {ps : List Pt} (h : Sps H rs ps) (b : Bool) : Sps H (turn b rs) (turn b ps) := by
  unfold My.turn
  cases b
  · exact h
  · exact (h.take 1).app (h.drop 1).rev
theorem Sps.frm {H : Hp} {rs : List Addr} {ps qs : List Pt} (h : Sps H rs qs) : Sps H (frm ps rs) (frm ps qs) := (h.rot _).turn _
def Cor (H : Hp) (l : Addr) (rs : List Addr) (ps : List Pt) : Prop := H l = some (.lst (rs.map V.ref)) ∧ Sps H rs ps
theorem Cor.keep {H H' : Hp} {l : Addr} {rs : List Addr} {ps : List Pt} (h : Cor H l rs ps) (s : Same H H') : Cor H' l rs ps := ⟨s _ _ h.1, h.2.keep s.t⟩
def spFormed : Sp := fun vs H Q _ => ∃ (l : Addr) (rs : List Addr) (ps : List Pt), vs = [.ref l] ∧ Cor H l rs ps ∧ 3 ≤ ps.length ∧ ps.length ≤ 8 ∧
  ∀ (t : Addr) (H' : Hp), Same H H' → H' t = some (.tup ((frm ps rs).map V.ref)) → Q (.ref t) H'
def spAxis : Sp := fun vs H Q _ => ∃ (r : Addr) (a b c d : Int), vs = [.ref r] ∧ H r = some (.tup [.int a, .int b, .int c, .int d]) ∧ ¬ (a = 0 ∧ b = 0 ∧ c = 0) ∧ ∀ k : Int, (k = 0 ∧ a ≠ 0) ∨ (k = 1 ∧ a = 0 ∧ b ≠ 0) ∨ (k = 2 ∧ a = 0 ∧ b = 0 ∧ c ≠ 0) → Q (.int k) H
def spEdge : Sp := fun vs H Q _ => ∃ (g r e t : Addr) (k : Int) (p o u : Pt), vs = [.ref g, .ref t, .int k] ∧ H g = some (.tup [.ref r, .ref e]) ∧ Is4 H r p ∧ Is4 H e o ∧ Is4 H t u ∧ 0 ≤ k ∧ k ≤ 3 ∧ ∀ H' : Hp, Same H H' → Q (.int (sgn (minor k p o u))) H'
/-- every corner turns one way -/
def Rnd (k : Int) (ps : List Pt) : Prop := ∀ i j, i < ps.length → 1 ≤ j → j < ps.length - 1 → sgn (minor k (pt ps ((i + (ps.length - 1)) % ps.length)) (pt ps i) (pt ps ((i + j) % ps.length))) = sgn (minor k (pt ps 0) (pt ps 1) (pt ps 2))
def spCvx : Sp := fun vs H Q _ => ∃ (l : Addr) (k : Int) (rs : List Addr) (ps : List Pt), vs = [.ref l, .int k] ∧ Cor H l rs ps ∧ 3 ≤ ps.length ∧ ps.length ≤ 8 ∧ 0 ≤ k ∧ k ≤ 2 ∧ Rnd k ps ∧ ∀ H' : Hp, Same H H' → Q (.bl true) H'
structure Brd (ps : List Pt) : Prop where
  n3 : 3 ≤ ps.length
  n8 : ps.length ≤ 8
  na : ¬ noArrow (pt ps 0) (pt ps 1) (pt ps 2)
  flat : ∀ i, i < ps.length → hgt (minor 0 (pt ps 0) (pt ps 1) (pt ps 2)) (-minor 1 (pt ps 0) (pt ps 1) (pt ps 2)) (minor 2 (pt ps 0) (pt ps 1) (pt ps 2)) (minor 3 (pt ps 0) (pt ps 1) (pt ps 2)) (pt ps i) = 0
  rnd : ∀ k : Int, 0 ≤ k → k ≤ 2 → minor k (pt ps 0) (pt ps 1) (pt ps 2) ≠ 0 → Rnd k ps
def spBoard : Sp := fun vs H Q _ => ∃ (l : Addr) (rs : List Addr) (ps : List Pt), vs = [.ref l] ∧ Cor H l rs ps ∧ Brd ps ∧ ∀ (t : Addr) (H' : Hp), Same H H' → H' t = some (.tup ((frm ps rs).map V.ref)) → Q (.ref t) H'
def spPlaneOf : Sp := fun vs H Q _ => ∃ (t : Addr) (rs : List Addr) (ps : List Pt), vs = [.ref t] ∧ H t = some (.tup (rs.map V.ref)) ∧ Sps H rs ps ∧ 3 ≤ ps.length ∧ ¬ noArrow (pt ps 0) (pt ps 1) (pt ps 2) ∧ ∀ (g : Addr) (H' : Hp), Same H H' → H' g = some (.tup ((pln (rgh (pt ps 0) (pt ps 1) (pt ps 2))).map V.int)) → Q (.ref g) H'
section
variable {P : Program} {w : World} {K : PySem.W.Frag} {mg : Str → Option Value} {base : Heap} {t1 t2 : Tok}
theorem sc_sign_of : FnScope ["number"] ["number"] (defScope s_sign_of) := ⟨rfl, rfl, rfl, by decide +kernel, rfl, by decide +kernel, by decide +kernel⟩
theorem sc_greatest_divisor : FnScope ["one", "other", "great", "small", "steps", "rest"] ["one", "other"] (defScope s_greatest_divisor) := ⟨rfl, rfl, rfl, by decide +kernel, rfl, by decide +kernel, by decide +kernel⟩
theorem sc_in_lowest_terms : FnScope ["numbers", "divisor", "number"] ["numbers"] (defScope s_in_lowest_terms) := ⟨rfl, rfl, rfl, by decide +kernel, rfl, by decide +kernel, by decide +kernel⟩
theorem sc_crossed : FnScope ["one", "other"] ["one", "other"] (defScope s_crossed) := ⟨rfl, rfl, rfl, by decide +kernel, rfl, by decide +kernel, by decide +kernel⟩
theorem sc_determinant : FnScope ["one", "other", "third", "arrow"] ["one", "other", "third"] (defScope s_determinant) := ⟨rfl, rfl, rfl, by decide +kernel, rfl, by decide +kernel, by decide +kernel⟩
theorem sc_made_spot : FnScope ["x", "y", "z", "w"] ["x", "y", "z", "w"] (defScope s_made_spot) := ⟨rfl, rfl, rfl, by decide +kernel, rfl, by decide +kernel, by decide +kernel⟩
theorem sc_stands_first : FnScope ["one", "other", "k", "mine", "yours"] ["one", "other"] (defScope s_stands_first) := ⟨rfl, rfl, rfl, by decide +kernel, rfl, by decide +kernel, by decide +kernel⟩
theorem sc_without : FnScope ["spot", "place"] ["spot", "place"] (defScope s_without) := ⟨rfl, rfl, rfl, by decide +kernel, rfl, by decide +kernel, by decide +kernel⟩
theorem sc_minor_of : FnScope ["one", "other", "third", "place"] ["one", "other", "third", "place"] (defScope s_minor_of) := ⟨rfl, rfl, rfl, by decide +kernel, rfl, by decide +kernel, by decide +kernel⟩
theorem sc_in_line : FnScope ["one", "other", "third", "place"] ["one", "other", "third"] (defScope s_in_line) := ⟨rfl, rfl, rfl, by decide +kernel, rfl, by decide +kernel, by decide +kernel⟩
theorem sc_made_plane : FnScope ["a", "b", "c", "d"] ["a", "b", "c", "d"] (defScope s_made_plane) := ⟨rfl, rfl, rfl, by decide +kernel, rfl, by decide +kernel, by decide +kernel⟩
theorem sc_turned_about : FnScope ["plane"] ["plane"] (defScope s_turned_about) := ⟨rfl, rfl, rfl, by decide +kernel, rfl, by decide +kernel, by decide +kernel⟩
theorem sc_is_plain : FnScope ["plane", "number"] ["plane"] (defScope s_is_plain) := ⟨rfl, rfl, rfl, by decide +kernel, rfl, by decide +kernel, by decide +kernel⟩
theorem sc_rough_plane : FnScope ["one", "other", "third"] ["one", "other", "third"] (defScope s_rough_plane) := ⟨rfl, rfl, rfl, by decide +kernel, rfl, by decide +kernel, by decide +kernel⟩
theorem sc_plane_through : FnScope ["one", "other", "third", "rough", "plane"] ["one", "other", "third"] (defScope s_plane_through) := ⟨rfl, rfl, rfl, by decide +kernel, rfl, by decide +kernel, by decide +kernel⟩
theorem sc_height_over : FnScope ["plane", "spot"] ["plane", "spot"] (defScope s_height_over) := ⟨rfl, rfl, rfl, by decide +kernel, rfl, by decide +kernel, by decide +kernel⟩
theorem sc_side_of : FnScope ["plane", "spot"] ["plane", "spot"] (defScope s_side_of) := ⟨rfl, rfl, rfl, by decide +kernel, rfl, by decide +kernel, by decide +kernel⟩
theorem sc_fraction : FnScope ["top", "bottom"] ["top", "bottom"] (defScope s_fraction) := ⟨rfl, rfl, rfl, by decide +kernel, rfl, by decide +kernel, by decide +kernel⟩
theorem sc_formed : FnScope ["corners", "first", "k", "ring"] ["corners"] (defScope s_formed) := ⟨rfl, rfl, rfl, by decide +kernel, rfl, by decide +kernel, by decide +kernel⟩
theorem sc_flat_axis : FnScope ["plane", "axis"] ["plane"] (defScope s_flat_axis) := ⟨rfl, rfl, rfl, by decide +kernel, rfl, by decide +kernel, by decide +kernel⟩
theorem sc_side_of_edge : FnScope ["edge", "spot", "axis"] ["edge", "spot", "axis"] (defScope s_side_of_edge) := ⟨rfl, rfl, rfl, by decide +kernel, rfl, by decide +kernel, by decide +kernel⟩
theorem sc_is_convex : FnScope ["corners", "axis", "turn", "many", "k", "edge", "ahead"] ["corners", "axis"] (defScope s_is_convex) := ⟨rfl, rfl, rfl, by decide +kernel, rfl, by decide +kernel, by decide +kernel⟩
theorem sc_made_board : FnScope ["corners", "plane", "corner"] ["corners"] (defScope s_made_board) := ⟨rfl, rfl, rfl, by decide +kernel, rfl, by decide +kernel, by decide +kernel⟩
theorem sc_plane_of : FnScope ["board"] ["board"] (defScope s_plane_of) := ⟨rfl, rfl, rfl, by decide +kernel, rfl, by decide +kernel, by decide +kernel⟩
theorem sc_first_not_free : FnScope ["boards", "spot", "number", "board"] ["boards", "spot"] (defScope s_first_not_free) := ⟨rfl, rfl, rfl, by decide +kernel, rfl, by decide +kernel, by decide +kernel⟩
theorem sc_refuse_unless_free : FnScope ["boards", "spot", "number"] ["boards", "spot"] (defScope s_refuse_unless_free) := ⟨rfl, rfl, rfl, by decide +kernel, rfl, by decide +kernel, by decide +kernel⟩
theorem sc_along : FnScope ["arrow"] ["arrow"] (defScope s_along) := ⟨rfl, rfl, rfl, by decide +kernel, rfl, by decide +kernel, by decide +kernel⟩
theorem sc_made_frame : FnScope ["eye", "corner", "across", "up"] ["eye", "corner", "across", "up"] (defScope s_made_frame) := ⟨rfl, rfl, rfl, by decide +kernel, rfl, by decide +kernel, by decide +kernel⟩
theorem sc_nearness : FnScope ["frame", "board", "eye", "corner", "plane", "height"] ["frame", "board"] (defScope s_nearness) := ⟨rfl, rfl, rfl, by decide +kernel, rfl, by decide +kernel, by decide +kernel⟩
theorem sc__law_at : FnScope ["script", "k"] ["script", "k"] (defScope s__law_at) := ⟨rfl, rfl, rfl, by decide +kernel, rfl, by decide +kernel, by decide +kernel⟩
theorem sc__law_pot : FnScope ["cell", "k", "mark", "found", "turn"] ["cell", "k"] (defScope s__law_pot) := ⟨rfl, rfl, rfl, by decide +kernel, rfl, by decide +kernel, by decide +kernel⟩
theorem sc__law_take : FnScope ["pot", "many", "found"] ["pot", "many"] (defScope s__law_take) := ⟨rfl, rfl, rfl, by decide +kernel, rfl, by decide +kernel, by decide +kernel⟩
theorem sc__law_number : FnScope ["pot", "great"] ["pot", "great"] (defScope s__law_number) := ⟨rfl, rfl, rfl, by decide +kernel, rfl, by decide +kernel, by decide +kernel⟩
theorem sc__law_dot : FnScope ["one", "other"] ["one", "other"] (defScope s__law_dot) := ⟨rfl, rfl, rfl, by decide +kernel, rfl, by decide +kernel, by decide +kernel⟩
theorem sc__law_cross : FnScope ["one", "other", "a", "b", "c", "x", "y", "z"] ["one", "other"] (defScope s__law_cross) := ⟨rfl, rfl, rfl, by decide +kernel, rfl, by decide +kernel, by decide +kernel⟩
theorem sc__law_way : FnScope ["one", "other"] ["one", "other"] (defScope s__law_way) := ⟨rfl, rfl, rfl, by decide +kernel, rfl, by decide +kernel, by decide +kernel⟩
theorem sc__law_spot : FnScope ["pot", "great", "some"] ["pot", "great"] (defScope s__law_spot) := ⟨rfl, rfl, rfl, by decide +kernel, rfl, by decide +kernel, by decide +kernel⟩
theorem sc__law_arrow : FnScope ["pot", "great", "found"] ["pot", "great"] (defScope s__law_arrow) := ⟨rfl, rfl, rfl, by decide +kernel, rfl, by decide +kernel, by decide +kernel⟩
theorem sc__law_other : FnScope ["pot", "great", "lead", "found", "some"] ["pot", "great", "lead"] (defScope s__law_other) := ⟨rfl, rfl, rfl, by decide +kernel, rfl, by decide +kernel, by decide +kernel⟩
theorem sc__law_frame : FnScope ["pot", "great", "corner", "across", "up", "eye", "upright", "some"] ["pot"] (defScope s__law_frame) := ⟨rfl, rfl, rfl, by decide +kernel, rfl, by decide +kernel, by decide +kernel⟩
theorem sc__law_start : FnScope ["frame", "pot", "eye", "corner", "across", "up", "a", "b", "far", "found", "k", "there"] ["frame", "pot"] (defScope s__law_start) := ⟨rfl, rfl, rfl, by decide +kernel, rfl, by decide +kernel, by decide +kernel⟩
theorem sc__law_shape : FnScope ["pot", "way", "a", "b", "c", "d"] ["pot"] (defScope s__law_shape) := ⟨rfl, rfl, rfl, by decide +kernel, rfl, by decide +kernel, by decide +kernel⟩
theorem sc__law_board : FnScope ["frame", "pot", "through", "great", "start", "one", "other", "corners", "i", "j", "some", "k", "moved"] ["frame", "pot", "through"] (defScope s__law_board) := ⟨rfl, rfl, rfl, by decide +kernel, rfl, by decide +kernel, by decide +kernel⟩
theorem sc__law_upright : FnScope ["board"] ["board"] (defScope s__law_upright) := ⟨rfl, rfl, rfl, by decide +kernel, rfl, by decide +kernel, by decide +kernel⟩
theorem sc__law_free : FnScope ["board", "eye"] ["board", "eye"] (defScope s__law_free) := ⟨rfl, rfl, rfl, by decide +kernel, rfl, by decide +kernel, by decide +kernel⟩
theorem sc__law_fraction : FnScope ["top", "bottom", "one", "by"] ["top", "bottom"] (defScope s__law_fraction) := ⟨rfl, rfl, rfl, by decide +kernel, rfl, by decide +kernel, by decide +kernel⟩
theorem sc__law_place : FnScope ["pot", "way", "some", "k", "bottom"] ["pot"] (defScope s__law_place) := ⟨rfl, rfl, rfl, by decide +kernel, rfl, by decide +kernel, by decide +kernel⟩
theorem sc__law_ray : FnScope ["frame", "place", "eye", "corner", "across", "up", "u", "v", "found", "k", "moved", "there"] ["frame", "place"] (defScope s__law_ray) := ⟨rfl, rfl, rfl, by decide +kernel, rfl, by decide +kernel, by decide +kernel⟩
theorem sc__law_is_fraction : FnScope ["found", "number"] ["found"] (defScope s__law_is_fraction) := ⟨rfl, rfl, rfl, by decide +kernel, rfl, by decide +kernel, by decide +kernel⟩
theorem sc__law_right : FnScope ["frame", "board", "found", "place", "eye", "corner", "across", "up", "u", "v", "p", "q", "r", "one", "two", "top", "bottom", "upright", "left", "ahead"] ["frame", "board", "found", "place"] (defScope s__law_right) := ⟨rfl, rfl, rfl, by decide +kernel, rfl, by decide +kernel, by decide +kernel⟩
theorem sc__law_told : FnScope ["frame", "board", "found", "kept", "e"] ["frame", "board"] (defScope s__law_told) := ⟨rfl, rfl, rfl, by decide +kernel, rfl, by decide +kernel, by decide +kernel⟩
theorem sc_law : FnScope ["script", "frame", "k", "cell", "pot", "board", "found", "kept", "places"] ["script"] (defScope s_law) := ⟨rfl, rfl, rfl, by decide +kernel, rfl, by decide +kernel, by decide +kernel⟩
theorem ok_gd (T : Tx K mg t1 t2) (F : At K mg "greatest_divisor" s_greatest_divisor ["one", "other"] []) : DefOk P w K mg base CX0 1 "greatest_divisor" ["one", "other"] [] spGd := by
  refine F.ok sc_greatest_divisor (fun vs H Q E h => ?_) (fun f cdv A outer s H vs Q E hr h => ?_)
  · obtain ⟨a, b, rfl, _⟩ := h
    rfl
  obtain ⟨a, b, rfl, ha, hb, q⟩ := h
  have S := sc_greatest_divisor
  refine ⟨_, (pss_cons (ps_set (i := 2) S.nd rfl (Or.inl rfl) (pe_callB (call_max2 rfl) rfl T.m_max boot_max (pa_cons (pe_callB call_abs rfl T.m_abs boot_abs (pa_cons (pv 0) pa_nil se_nam)) (pa_cons (pe_callB call_abs rfl T.m_abs boot_abs (pa_cons (pv 1) pa_nil se_nam)) pa_nil se_cal) se_cal)))
    (pss_cons (ps_set (i := 3) S.nd rfl (Or.inl rfl) (pe_callB (call_min2 rfl) rfl T.m_min boot_min (pa_cons (pe_callB call_abs rfl T.m_abs boot_abs (pa_cons (pv 0) pa_nil se_nam)) (pa_cons (pe_callB call_abs rfl T.m_abs boot_abs (pa_cons (pv 1) pa_nil se_nam)) pa_nil se_cal) se_cal)))
    (pss_cons (ps_while PassesOwn.never (pt_cmpR op_gt (pe_bm0 PySem.F.plainAttrs_int PySem.F.slot_int_bit_length PySem.F.type_int_bit_length mt_bits (pv 3)) (pe_glob rfl T.m_SHORT_BITS T.r_SHORT_BITS) (nomark _)) pss_never)
    (pss_cons (ps_while PassesOwn.never (pt_cmpR op_ne (pv 3) pe_int (nomark _))
    (pss_cons (ps_set (i := 5) S.nd rfl (Or.inl rfl) (pe_op op_mod (pv 2) (pv 3)))
    (pss_cons (ps_set (i := 2) S.nd rfl (Or.inl rfl) (pv 3))
    (pss_one (ps_set (i := 3) S.nd rfl (Or.inl rfl) (pv 5))))))
    (pss_one (ps_ret (pv 2))))))), ?_⟩
  walk_at "rd"
  have hg : Int.gcd (if (if b < 0 then -b else b) > (if a < 0 then -a else a) then (if b < 0 then -b else b) else (if a < 0 then -a else a)) (if (if b < 0 then -b else b) < (if a < 0 then -a else a) then (if b < 0 then -b else b) else (if a < 0 then -a else a)) = Int.gcd a b := (gcd_maxmin _ _).trans (gcd_abs a b)
  have hM : 0 ≤ (if (if b < 0 then -b else b) > (if a < 0 then -a else a) then (if b < 0 then -b else b) else (if a < 0 then -a else a)) := by split <;> split <;> omega
  have hm : 0 ≤ (if (if b < 0 then -b else b) < (if a < 0 then -a else a) then (if b < 0 then -b else b) else (if a < 0 then -a else a)) := by split <;> split <;> omega
  have hs : Small (if (if b < 0 then -b else b) < (if a < 0 then -a else a) then (if b < 0 then -b else b) else (if a < 0 then -a else a)) := by
    exact Small.ite (Small.ite hb.neg hb) (Small.ite ha.neg ha)
  generalize (if (if b < 0 then -b else b) > (if a < 0 then -a else a) then (if b < 0 then -b else b) else (if a < 0 then -a else a)) = M at hg hM ⊢
  generalize (if (if b < 0 then -b else b) < (if a < 0 then -a else a) then (if b < 0 then -b else b) else (if a < 0 then -a else a)) = m at hg hm hs ⊢
  have hz : Builtin.Int.intBits m ≤ 1990 := L2.intBits_le hs
  refine ⟨fun _ σ H1 => σ = [some (.int a), some (.int b), some (.int M), some (.int m), none, none] ∧ H1 = H, ⟨0, rfl, rfl⟩, ?_⟩
  rintro _ σ H1 ⟨rfl, rfl⟩
  walk_at "rd"
  rw [if_neg (by omega)]
  refine ⟨fun n σ H2 => H2 = H1 ∧ ∃ (x y : Int) (o : Option V), σ = [some (.int a), some (.int b), some (.int x), some (.int y), none, o] ∧ 0 ≤ x ∧ 0 ≤ y ∧ Int.gcd x y = Int.gcd a b ∧ n = y.toNat, ⟨_, rfl, M, m, none, rfl, hM, hm, hg, rfl⟩, ?_⟩
  rintro n σ H2 ⟨rfl, x, y, o, rfl, hx, hy, hgg, rfl⟩
  walk_at "rd"
  by_cases c : y = 0
  · subst c
    rw [if_pos rfl]
    rw [← hgg, Int.gcd_zero_right] at q
    have e2 : ((x.natAbs : Nat) : Int) = x := by omega
    rw [e2] at q
    exact q
  · rw [if_neg c]
    have b1 := Int.emod_nonneg x c
    have b2 := Int.emod_lt_of_pos x (show 0 < y by omega)
    exact ⟨fun σ' H' => σ' = [some (V.int a), some (V.int b), some (V.int y), some (V.int (x % y)), none, some (V.int (x % y))] ∧ H' = H2, fun σ' H' ⟨h1, h2⟩ => ⟨_, by omega, h2, y, x % y, _, h1, by omega, b1, (gcd_step x y hx).trans hgg, rfl⟩, by omega, rfl, rfl⟩
theorem ok_low (T : Tx K mg t1 t2) (F : At K mg "in_lowest_terms" s_in_lowest_terms ["numbers"] []) (d_greatest_divisor : DefOk P w K mg base CX0 1 "greatest_divisor" ["one", "other"] [] spGd) : DefOk P w K mg base CX0 2 "in_lowest_terms" ["numbers"] [] spLow := by
  refine F.ok sc_in_lowest_terms (fun vs H Q E h => ?_) (fun f cdv A outer s H vs Q E hr h => ?_)
  · obtain ⟨a, ns, rfl, _⟩ := h
    rfl
  obtain ⟨a, ns, rfl, ha, hl, hs, hg, q⟩ := h
  have S := sc_in_lowest_terms
  refine ⟨_, (pss_cons (ps_set (i := 1) S.nd rfl (Or.inr rfl) pe_int)
    (pss_cons (ps_for PassesOwn.never rfl (pi_tup (pv 0)) (pg_name (i := 2) S.nd rfl (Or.inl rfl))
    (pss_cons (ps_set (i := 1) S.nd rfl (Or.inr rfl) (pe_callD d_greatest_divisor (hr.mono (by decide)) rfl pass0 (pa_cons (pv 1) (pa_cons (pv 2) pa_nil se_nam) se_nam)))
    (pss_one (ps_if (pt_cmpR op_eq (pv 1) pe_int (nomark _))
    (pss_one (ps_ret (pe_callTy call_tuple_of rfl T.m_tuple boot_tuple (pa_cons (pv 0) pa_nil se_nam))))
    pss_nil))))
    (pss_one (ps_ret (pe_callTy call_tuple_of rfl T.m_tuple boot_tuple (pa_cons (pe_comp rfl (N' := ["number", "divisor"]) (ix := [1]) ⟨rfl, rfl, by decide +kernel, by decide +kernel, rfl, by decide +kernel, (show ∀ y : Str × NameKind, y ∈ _ → y.2 = NameKind.free → (defScope s_in_lowest_terms).names.lookup y.1 = some .cell ∨ (defScope s_in_lowest_terms).names.lookup y.1 = some .free from by decide +kernel), (.cons rfl (.inl rfl) rfl .nil)⟩ (pi_tup (pv 0)) (fun _ _ _ _ => pg_name (i := 0) (show (["number", "divisor"] : List Str).Nodup from by decide +kernel) rfl (Or.inl rfl)) (fun _ _ _ _ => pts_nil) (fun _ _ _ _ => (pe_op op_fdivB (pv 0) (pv 1)))) pa_nil se_cmp)))))), ?_⟩
  walk_at "rd"
  refine ⟨_, rfl, a, rfl, ⟨_, SqT.of ha⟩, for_tup (K := K) (a := a) (xs := ns.map V.int) (fun i σ H2 => H2 = H ∧ ∃ o : Option V, σ = [some (.ref a), some (.int (gl (ns.take i))), o]) ⟨rfl, none, rfl⟩ (fun i σ H2 _ ⟨h, _⟩ => by rw [h]; exact SqT.of ha) ?_ ?_⟩
  · rintro i v σ H2 hi ⟨rfl, o, rfl⟩
    obtain ⟨z, rfl, hz⟩ := int_of hi
    walk_at "rd"
    refine ⟨_, _, rfl, small_gl fun n hn => hs n (List.mem_of_mem_take hn), hs z (List.mem_of_getElem? hz), ?_⟩
    walk_at "rd"
    rw [← gl_take_succ hz]
    refine ite2 (fun c => ⟨_, .inr ⟨SqT.of ha, ?_⟩⟩) fun c => ⟨rfl, _, rfl⟩
    have g1 : gl ns = 1 := gl_one_of_take c
    refine q a H2 (Same.refl _) ?_
    rw [g1, map_div_one]
    exact ha
  · rintro σ H2 ⟨rfl, o, rfl⟩
    walk_at "rd"
    have el : (ns.map V.int).length = ns.length := List.length_map _
    rw [el, List.take_length]
    have gp : 0 < gl ns := by have := gl_nonneg ns; omega
    refine ⟨_, rfl, a, rfl, ⟨_, SqT.of ha⟩, fun acc hacc => comp_tup (K := K) (a := a) (zs := ns.map V.int) (fun i xs H3 => Same H2 H3 ∧ H3 acc = some (.lst xs) ∧ xs = ((ns.take i).map (· / gl ns)).map V.int) ⟨Same.new hacc _, upd_same, rfl⟩ (fun i xs H3 _ h => h.1.tup (SqT.of ha)) ?_ ?_⟩
    · rintro i v xs H3 hi ⟨h1, h2, rfl⟩
      obtain ⟨z, rfl, hz⟩ := int_of hi
      walk_at "rd"
      have li := (List.getElem?_eq_some_iff.mp hz).1
      refine ⟨gp, (small_gl hs).bd.fit, h2, ?_, Same.keep h1 hacc, upd_same, ?_⟩
      · rw [List.length_map, List.length_map, List.length_take]
        exact small1000 (by omega)
      · rw [List.take_add_one, hz, List.map_append, List.map_append]
        rfl
    · rintro xs H3 ⟨h1, h2, rfl⟩
      rw [el, List.take_length] at h2
      exact ⟨acc, rfl, _, .inl ⟨SqL.of h2, fun l hl => q l _ (h1.trans (Same.new hl _)) upd_same⟩⟩
theorem ok_crossed (T : Tx K mg t1 t2) (F : At K mg "crossed" s_crossed ["one", "other"] []) : DefOk P w K mg base CX0 1 "crossed" ["one", "other"] [] spCross := by
  refine F.ok sc_crossed (fun vs H Q E h => ?_) (fun f cdv A outer s H vs Q E hr h => ?_)
  · obtain ⟨r, p, a, b, c, x, y, z, rfl, _⟩ := h
    rfl
  obtain ⟨r, p, a, b, c, x, y, z, rfl, ⟨h1, sa, sb, sc⟩, ⟨h2, sx, sy, sz⟩, q⟩ := h
  have S := sc_crossed
  refine ⟨_, (pss_one (ps_ret (pe_tup (pa_cons (pe_op op_sub (pe_op op_mulB (pe_ix ix_tup (pv 0) pe_int (fun _ _ => rfl)) (pe_ix ix_tup (pv 1) pe_int (fun _ _ => rfl))) (pe_op op_mulB (pe_ix ix_tup (pv 0) pe_int (fun _ _ => rfl)) (pe_ix ix_tup (pv 1) pe_int (fun _ _ => rfl)))) (pa_cons (pe_op op_sub (pe_op op_mulB (pe_ix ix_tup (pv 0) pe_int (fun _ _ => rfl)) (pe_ix ix_tup (pv 1) pe_int (fun _ _ => rfl))) (pe_op op_mulB (pe_ix ix_tup (pv 0) pe_int (fun _ _ => rfl)) (pe_ix ix_tup (pv 1) pe_int (fun _ _ => rfl)))) (pa_cons (pe_op op_sub (pe_op op_mulB (pe_ix ix_tup (pv 0) pe_int (fun _ _ => rfl)) (pe_ix ix_tup (pv 1) pe_int (fun _ _ => rfl))) (pe_op op_mulB (pe_ix ix_tup (pv 0) pe_int (fun _ _ => rfl)) (pe_ix ix_tup (pv 1) pe_int (fun _ _ => rfl)))) pa_nil se_bin) se_bin) se_bin)))), ?_⟩
  have k1 : SqT K H r [.int a, .int b, .int c] := SqT.of h1
  have k2 : SqT K H p [.int x, .int y, .int z] := SqT.of h2
  have fa := sa.bd.fit
  have fb := sb.bd.fit
  have fc := sc.bd.fit
  have fx := sx.bd.fit
  have fy := sy.bd.fit
  have fz := sz.bd.fit
  walk_at "rf"
  walk_at "gf"
  intro t ht
  exact q t _ (Same.new ht _) upd_same
theorem ok_det (T : Tx K mg t1 t2) (F : At K mg "determinant" s_determinant ["one", "other", "third"] []) (d_crossed : DefOk P w K mg base CX0 1 "crossed" ["one", "other"] [] spCross) : DefOk P w K mg base CX0 2 "determinant" ["one", "other", "third"] [] spDet := by
  refine F.ok sc_determinant (fun vs H Q E h => ?_) (fun f cdv A outer s H vs Q E hr h => ?_)
  · obtain ⟨r, p, e, a, b, c, x, y, z, u, v, o, rfl, _⟩ := h
    rfl
  obtain ⟨r, p, e, a, b, c, x, y, z, u, v, o, rfl, h1, h2, h3, q⟩ := h
  have S := sc_determinant
  refine ⟨_, (pss_cons (ps_set (i := 3) S.nd rfl (Or.inl rfl) (pe_callD d_crossed (hr.mono (by decide)) rfl pass0 (pa_cons (pv 0) (pa_cons (pv 1) pa_nil se_nam) se_nam)))
    (pss_one (ps_ret (pe_op op_add (pe_op op_add (pe_op op_mulB (pe_ix ix_tup (pv 3) pe_int (fun _ _ => rfl)) (pe_ix ix_tup (pv 2) pe_int (fun _ _ => rfl))) (pe_op op_mulB (pe_ix ix_tup (pv 3) pe_int (fun _ _ => rfl)) (pe_ix ix_tup (pv 2) pe_int (fun _ _ => rfl)))) (pe_op op_mulB (pe_ix ix_tup (pv 3) pe_int (fun _ _ => rfl)) (pe_ix ix_tup (pv 2) pe_int (fun _ _ => rfl))))))), ?_⟩
  walk_at "rf"
  refine ⟨r, p, a, b, c, x, y, z, rfl, h1, h2, fun t H1 s1 e1 => ?_⟩
  have k1 : SqT K H1 t _ := SqT.of e1
  have k2 : SqT K H1 e [.int u, .int v, .int o] := SqT.of (s1 _ _ h3.1)
  have fu := h3.2.1.bd.fit
  have fv := h3.2.2.1.bd.fit
  have fo := h3.2.2.2.bd.fit
  have ma : ∀ {i j k l : Int}, Sm2 i → Sm2 j → Sm2 k → Sm2 l → Fit (i * j - k * l) := fun h1 h2 h3 h4 => Bd.fit (n := 401) (Bd.sub (Bd.mul (n := 200) (m := 200) h1 h2) (Bd.mul (n := 200) (m := 200) h3 h4))
  have g1 := ma h1.2.2.1 h2.2.2.2 h1.2.2.2 h2.2.2.1
  have g2 := ma h1.2.2.2 h2.2.1 h1.2.1 h2.2.2.2
  have g3 := ma h1.2.1 h2.2.2.1 h1.2.2.1 h2.2.1
  walk_at "gf"
  exact q _ s1
theorem ok_without (T : Tx K mg t1 t2) (F : At K mg "without" s_without ["spot", "place"] []) : DefOk P w K mg base CX0 1 "without" ["spot", "place"] [] spWithout := by
  refine F.ok sc_without (fun vs H Q E h => ?_) (fun f cdv A outer s H vs Q E hr h => ?_)
  · obtain ⟨r, k, p, rfl, _⟩ := h
    rfl
  obtain ⟨r, k, p, rfl, h1, k0, k3, q⟩ := h
  have S := sc_without
  refine ⟨_, (pss_one (ps_ret (pe_callTy call_tuple_of rfl T.m_tuple boot_tuple (pa_cons (pe_comp rfl (N' := ["k", "spot", "place"]) (ix := [0, 1]) ⟨rfl, rfl, by decide +kernel, by decide +kernel, rfl, by decide +kernel, (show ∀ y : Str × NameKind, y ∈ _ → y.2 = NameKind.free → (defScope s_without).names.lookup y.1 = some .cell ∨ (defScope s_without).names.lookup y.1 = some .free from by decide +kernel), (.cons rfl (.inl rfl) rfl (.cons rfl (.inl rfl) rfl .nil))⟩ (pi_range1 rfl T.m_range (pa_cons pe_int pa_nil se_con)) (fun _ _ _ _ => pg_name (i := 0) (show (["k", "spot", "place"] : List Str).Nodup from by decide +kernel) rfl (Or.inl rfl)) (fun _ _ _ _ => (pts_one (pt_cmpR op_ne (pv 0) (pv 2) (nomark _)))) (fun _ _ _ _ => (pe_ix (ix_tupK (K := K) rfl) (pv 1) (pv 0) (fun _ _ => rfl)))) pa_nil se_cmp)))), ?_⟩
  have k_h1 := h1.sq (K := K)
  have e : k = 0 ∨ k = 1 ∨ k = 2 ∨ k = 3 := by omega
  walk_at "rf"
  walk_at "gf"
  intro acc hacc
  refine compRif (n := 4) (fun i => .int (match i with | 0 => p.x | 1 => p.y | 2 => p.z | _ => p.w)) (fun i => !decide ((i : Int) = k)) (by decide) hacc ?_ ?_ ?_
  · intro i H3 R hi s3 hR
    walk_at "rf"
    have z := hR H3 (Same.refl _)
    rw [Int.zero_add]
    exact z
  · intro i H3 R hi ci s3 hR
    have k1 := s3.tup k_h1
    match i, hi with
    | 0, _ =>
      walk_at "rf"
      walk_at "gf"
      exact hR _ (Same.refl _)
    | 1, _ =>
      walk_at "rf"
      walk_at "gf"
      exact hR _ (Same.refl _)
    | 2, _ =>
      walk_at "rf"
      walk_at "gf"
      exact hR _ (Same.refl _)
    | 3, _ =>
      walk_at "rf"
      walk_at "gf"
      exact hR _ (Same.refl _)
  intro H1 s1 e1
  refine FoR.tupOf (X := True) (SqL.of e1) fun t H2 s2 e2 => q t H2 (s1.trans s2) ?_
  rw [e2]
  rcases e with rfl | rfl | rfl | rfl <;> rfl
theorem wo_tup {H : Hp} {r : Addr} {k : Int} {p : Pt} (hp : p.sm) (h : H r = some (.tup ((wo k p).map V.int))) : ∃ a b c, wo k p = [a, b, c] ∧ Tup3 H r a b c := by
  by_cases k0 : k = 0
  · have e : wo k p = [p.y, p.z, p.w] := if_pos k0
    rw [e] at h
    exact ⟨_, _, _, e, h, hp.2.1, hp.2.2.1, hp.2.2.2⟩
  by_cases k1 : k = 1
  · have e : wo k p = [p.x, p.z, p.w] := by unfold wo; rw [if_neg k0, if_pos k1]
    rw [e] at h
    exact ⟨_, _, _, e, h, hp.1, hp.2.2.1, hp.2.2.2⟩
  by_cases k2 : k = 2
  · have e : wo k p = [p.x, p.y, p.w] := by unfold wo; rw [if_neg k0, if_neg k1, if_pos k2]
    rw [e] at h
    exact ⟨_, _, _, e, h, hp.1, hp.2.1, hp.2.2.2⟩
  have e : wo k p = [p.x, p.y, p.z] := by unfold wo; rw [if_neg k0, if_neg k1, if_neg k2]
  rw [e] at h
  exact ⟨_, _, _, e, h, hp.1, hp.2.1, hp.2.2.1⟩
theorem Tup3.keep {H H' : Hp} {r : Addr} {a b c : Int} (h : Tup3 H r a b c) (s : Same H H') : Tup3 H' r a b c := ⟨s _ _ h.1, h.2⟩
theorem ok_minor (T : Tx K mg t1 t2) (F : At K mg "minor_of" s_minor_of ["one", "other", "third", "place"] []) (d_without : DefOk P w K mg base CX0 1 "without" ["spot", "place"] [] spWithout) (d_determinant : DefOk P w K mg base CX0 2 "determinant" ["one", "other", "third"] [] spDet) : DefOk P w K mg base CX0 3 "minor_of" ["one", "other", "third", "place"] [] spMinor := by
  refine F.ok sc_minor_of (fun vs H Q E h => ?_) (fun f cdv A outer s H vs Q E hr h => ?_)
  · obtain ⟨r, e, t, k, p, o, u, rfl, _⟩ := h
    rfl
  obtain ⟨r, e, t, k, p, o, u, rfl, h1, h2, h3, k0, k3, q⟩ := h
  have S := sc_minor_of
  refine ⟨_, (pss_one (ps_ret (pe_callD d_determinant (hr.mono (by decide)) rfl pass0 (pa_cons (pe_callD d_without (hr.mono (by decide)) rfl pass0 (pa_cons (pv 0) (pa_cons (pv 3) pa_nil se_nam) se_nam)) (pa_cons (pe_callD d_without (hr.mono (by decide)) rfl pass0 (pa_cons (pv 1) (pa_cons (pv 3) pa_nil se_nam) se_nam)) (pa_cons (pe_callD d_without (hr.mono (by decide)) rfl pass0 (pa_cons (pv 2) (pa_cons (pv 3) pa_nil se_nam) se_nam)) pa_nil se_cal) se_cal) se_cal)))), ?_⟩
  walk_at "rf"
  refine ⟨r, k, p, rfl, h1, k0, k3, fun t1 H1 s1 e1 => ?_⟩
  refine ⟨e, k, o, rfl, h2.keep s1, k0, k3, fun t2 H2 s2 e2 => ?_⟩
  refine ⟨t, k, u, rfl, h3.keep (s1.trans s2), k0, k3, fun t3 H3 s3 e3 => ?_⟩
  obtain ⟨a, b, c, w1, z1⟩ := wo_tup h1.2 e1
  obtain ⟨a2, b2, c2, w2, z2⟩ := wo_tup h2.2 e2
  obtain ⟨a3, b3, c3, w3, z3⟩ := wo_tup h3.2 e3
  have em : minor k p o u = det3 a b c a2 b2 c2 a3 b3 c3 := by
    unfold minor
    rw [w1, w2, w3]
    rfl
  refine ⟨t1, t2, t3, a, b, c, a2, b2, c2, a3, b3, c3, rfl, z1.keep (s2.trans s3), z2.keep s3, z3, fun H4 s4 => ?_⟩
  rw [← em]
  exact q H4 (s1.trans (s2.trans (s3.trans s4)))
theorem ok_line (T : Tx K mg t1 t2) (F : At K mg "in_line" s_in_line ["one", "other", "third"] []) (d_minor_of : DefOk P w K mg base CX0 3 "minor_of" ["one", "other", "third", "place"] [] spMinor) : DefOk P w K mg base CX0 4 "in_line" ["one", "other", "third"] [] spLine := by
  refine F.ok sc_in_line (fun vs H Q E h => ?_) (fun f cdv A outer s H vs Q E hr h => ?_)
  · obtain ⟨r, e, t, p, o, u, rfl, _⟩ := h
    rfl
  obtain ⟨r, e, t, p, o, u, rfl, h1, h2, h3, q⟩ := h
  have S := sc_in_line
  refine ⟨_, (pss_cons (ps_for PassesOwn.never rfl (pi_range1 rfl T.m_range (pa_cons pe_int pa_nil se_con)) (pg_name (i := 3) S.nd rfl (Or.inl rfl))
    (pss_one (ps_if (pt_cmpR op_ne (pe_callD d_minor_of (hr.mono (by decide)) rfl pass0 (pa_cons (pv 0) (pa_cons (pv 1) (pa_cons (pv 2) (pa_cons (pv 3) pa_nil se_nam) se_nam) se_nam) se_nam)) pe_int (nomark _))
    (pss_one (ps_ret pe_bl))
    pss_nil)))
    (pss_one (ps_ret pe_bl))), ?_⟩
  walk_at "rf"
  walk_at "gf"
  refine for_range (lo := 0) (n := 3) (fun i σ H2 => Same H H2 ∧ ∃ o3 : Option V, σ = [some (.ref r), some (.ref e), some (.ref t), o3] ∧ (1 ≤ i → minor 0 p o u = 0) ∧ (2 ≤ i → minor 1 p o u = 0) ∧ (3 ≤ i → minor 2 p o u = 0)) ⟨Same.refl _, none, rfl, by simp, by simp, by simp⟩ ?_ ?_
  · rintro i σ H2 hi ⟨s2, o3, rfl, e0, e1, e2⟩
    walk_at "rf"
    refine ⟨r, e, t, _, p, o, u, rfl, h1.keep s2, h2.keep s2, h3.keep s2, by omega, by omega, fun H3 s3 => ?_⟩
    have ei : (0 : Int) + (i : Int) = (i : Int) := Int.zero_add _
    rw [ei]
    match i, hi with
    | 0, _ =>
      walk_at "rf"
      refine ite2 (fun c => ⟨s2.trans s3, fun _ => c, fun h => absurd h (by decide), fun h => absurd h (by decide)⟩) fun c => ?_
      have ef : inl p o u = false := decide_eq_false fun z => c z.1
      exact ef ▸ q H3 (s2.trans s3)
    | 1, _ =>
      have d0 := e0 (by decide)
      walk_at "rf"
      refine ite2 (fun c => ⟨s2.trans s3, fun _ => d0, fun _ => c, fun h => absurd h (by decide)⟩) fun c => ?_
      have ef : inl p o u = false := decide_eq_false fun z => c z.2.1
      exact ef ▸ q H3 (s2.trans s3)
    | 2, _ =>
      have d0 := e0 (by decide)
      have d1 := e1 (by decide)
      walk_at "rf"
      refine ite2 (fun c => ⟨s2.trans s3, fun _ => d0, fun _ => d1, fun _ => c⟩) fun c => ?_
      have ef : inl p o u = false := decide_eq_false fun z => c z.2.2
      exact ef ▸ q H3 (s2.trans s3)
  · rintro σ H2 ⟨s2, o3, rfl, e0, e1, e2⟩
    have ef : inl p o u = true := decide_eq_true ⟨e0 (by decide), e1 (by decide), e2 (by decide)⟩
    exact ef ▸ q H2 s2
theorem mem4 {a b c d : Int} (ha : Small a) (hb : Small b) (hc : Small c) (hd : Small d) : ∀ n ∈ [a, b, c, d], Small n := fun n hn => by
  simp only [List.mem_cons, List.not_mem_nil, or_false] at hn
  rcases hn with rfl | rfl | rfl | rfl <;> assumption
theorem gl4 {a b c d : Int} (h : ¬ (a = 0 ∧ b = 0 ∧ c = 0)) : 0 < gl [a, b, c, d] := by
  by_cases c1 : a = 0
  · by_cases c2 : b = 0
    · exact gl_pos (n := c) (by simp) fun z => h ⟨c1, c2, z⟩
    · exact gl_pos (n := b) (by simp) c2
  · exact gl_pos (n := a) (by simp) c1
def vneg (v : V) : V := match v with | .int i => .int (-i) | _ => v
theorem map_vneg (ns : List Int) : (ns.map V.int).map vneg = (ns.map fun n => -n).map V.int := by
  rw [List.map_map, List.map_map]
  rfl
theorem ok_turned (T : Tx K mg t1 t2) (F : At K mg "turned_about" s_turned_about ["plane"] []) : DefOk P w K mg base CX0 1 "turned_about" ["plane"] [] spTurned := by
  refine F.ok sc_turned_about (fun vs H Q E h => ?_) (fun f cdv A outer s H vs Q E hr h => ?_)
  · obtain ⟨r, ns, rfl, _⟩ := h
    rfl
  obtain ⟨r, ns, rfl, h1, hl, q⟩ := h
  have S := sc_turned_about
  refine ⟨_, (pss_one (ps_ret (pe_callTy call_tuple_of rfl T.m_tuple boot_tuple (pa_cons (pe_comp rfl (N' := ["number"]) (ix := []) ⟨rfl, rfl, by decide +kernel, by decide +kernel, rfl, by decide +kernel, (show ∀ y : Str × NameKind, y ∈ _ → y.2 = NameKind.free → (defScope s_turned_about).names.lookup y.1 = some .cell ∨ (defScope s_turned_about).names.lookup y.1 = some .free from by decide +kernel), .nil⟩ (pi_tup (pv 0)) (fun _ _ _ _ => pg_name (i := 0) (show (["number"] : List Str).Nodup from by decide +kernel) rfl (Or.inl rfl)) (fun _ _ _ _ => pts_nil) (fun _ _ _ _ => (pe_un un_neg (pv 0)))) pa_nil se_cmp)))), ?_⟩
  have k1 : SqT K H r (ns.map V.int) := SqT.of h1
  walk_at "rf"
  walk_at "gf"
  intro acc hacc
  refine compT vneg (by rw [List.length_map]; omega) hacc k1 ?_ ?_
  · intro z H3 R hz s3 hR
    obtain ⟨m, hm, rfl⟩ := List.mem_map.mp hz
    walk_at "rd"
    exact hR _ (Same.refl _)
  intro H1 s1 e1
  rw [map_vneg] at e1
  exact FoR.tupOf (X := True) (SqL.of e1) fun t H2 s2 e2 => q t H2 (s1.trans s2) e2
theorem ok_sign (T : Tx K mg t1 t2) (F : At K mg "sign_of" s_sign_of ["number"] []) : DefOk P w K mg base CX0 1 "sign_of" ["number"] [] spSign := by
  refine F.ok sc_sign_of (fun vs H Q E h => ?_) (fun f cdv A outer s H vs Q E hr h => ?_)
  · obtain ⟨a, rfl, _⟩ := h
    rfl
  obtain ⟨n, rfl, q⟩ := h
  have S := sc_sign_of
  refine ⟨_, (pss_cons (ps_if (pt_cmpR op_gt (pv 0) pe_int (nomark _))
    (pss_one (ps_ret pe_int))
    pss_nil)
    (pss_cons (ps_if (pt_cmpR op_lt (pv 0) pe_int (nomark _))
    (pss_one (ps_ret (pe_un un_neg pe_int)))
    pss_nil)
    (pss_one (ps_ret pe_int)))), ?_⟩
  unfold sgn at q
  walk_at "rd"
  refine ite2 (fun c => ?_) fun c => ite2 (fun c1 => ?_) fun c1 => ?_
  · rw [if_pos c] at q; exact q
  · rw [if_neg c, if_pos c1] at q; exact q
  · rw [if_neg c, if_neg c1] at q; exact q
theorem ok_plain (T : Tx K mg t1 t2) (F : At K mg "is_plain" s_is_plain ["plane"] []) : DefOk P w K mg base CX0 1 "is_plain" ["plane"] [] spPlain := by
  refine F.ok sc_is_plain (fun vs H Q E h => ?_) (fun f cdv A outer s H vs Q E hr h => ?_)
  · obtain ⟨r, a, b, c, d, rfl, _⟩ := h
    rfl
  obtain ⟨r, a, b, c, d, rfl, h1, q⟩ := h
  have S := sc_is_plain
  refine ⟨_, (pss_cons (ps_for PassesOwn.never rfl (pi_tup (pe_slice sl_tup (pv 0) po_none (po_some pe_int))) (pg_name (i := 1) S.nd rfl (Or.inl rfl))
    (pss_one (ps_if (pt_cmpR op_ne (pv 1) pe_int (nomark _))
    (pss_one (ps_ret (pe_cmpR op_gt (pv 1) pe_int (nomark _))))
    pss_nil)))
    (pss_one (ps_ret pe_bl))), ?_⟩
  walk_at "rf"
  refine ⟨r, _, rfl, SqT.of h1, (show ¬ (HT.sIx 4 0 none = 0 ∧ HT.sIx 4 4 (some 3) = 4) by decide), fun p hp => ?_⟩
  have sp := Same.new hp (.tup (cutV [.int a, .int b, .int c, .int d] none (some 3)))
  have ep : upd H p (.tup (cutV [.int a, .int b, .int c, .int d] none (some 3))) p = some (.tup ([a, b, c].map V.int)) := upd_same
  generalize upd H p (.tup (cutV [.int a, .int b, .int c, .int d] none (some 3))) = H1 at sp ep ⊢
  have kp : SqT K H1 p ([a, b, c].map V.int) := SqT.of ep
  walk_at "gf"
  have q := q H1 sp
  unfold plb at q
  refine for_tup (K := K) (a := p) (xs := [a, b, c].map V.int) (fun i σ H2 => H2 = H1 ∧ ∃ o1 : Option V, σ = [some (.ref r), o1] ∧ (1 ≤ i → a = 0) ∧ (2 ≤ i → b = 0) ∧ (3 ≤ i → c = 0)) ⟨rfl, none, rfl, by simp, by simp, by simp⟩ (fun i σ H2 _ ⟨h, _⟩ => by rw [h]; exact kp) ?_ ?_
  · rintro i v σ H2 hi ⟨rfl, o1, rfl, e0, e1, e2⟩
    match i, hi with
    | 0, hi =>
      cases hi
      walk_at "rf"
      refine ite2 (fun cc => ⟨fun _ => cc, fun h => absurd h (by decide), fun h => absurd h (by decide)⟩) fun cc => ?_
      rw [if_pos cc] at q
      exact q
    | 1, hi =>
      cases hi
      have d0 := e0 (by decide)
      walk_at "rf"
      refine ite2 (fun cc => ⟨fun _ => d0, fun _ => cc, fun h => absurd h (by decide)⟩) fun cc => ?_
      rw [if_neg (fun n => n d0), if_pos cc] at q
      exact q
    | 2, hi =>
      cases hi
      have d0 := e0 (by decide)
      have d1 := e1 (by decide)
      walk_at "rf"
      refine ite2 (fun cc => ⟨fun _ => d0, fun _ => d1, fun _ => cc⟩) fun cc => ?_
      rw [if_neg (fun n => n d0), if_neg (fun n => n d1), if_pos cc] at q
      exact q
  · rintro σ H2 ⟨rfl, o1, rfl, e0, e1, e2⟩
    rw [if_neg (fun n => n (e0 (show 1 ≤ 3 by decide))), if_neg (fun n => n (e1 (show 2 ≤ 3 by decide))), if_neg (fun n => n (e2 (show 3 ≤ 3 by decide)))] at q
    exact q
theorem ok_rough (T : Tx K mg t1 t2) (F : At K mg "rough_plane" s_rough_plane ["one", "other", "third"] []) (d_minor_of : DefOk P w K mg base CX0 3 "minor_of" ["one", "other", "third", "place"] [] spMinor) : DefOk P w K mg base CX0 4 "rough_plane" ["one", "other", "third"] [] spRough := by
  refine F.ok sc_rough_plane (fun vs H Q E h => ?_) (fun f cdv A outer s H vs Q E hr h => ?_)
  · obtain ⟨r, e, t, p, o, u, rfl, _⟩ := h
    rfl
  obtain ⟨r, e, t, p, o, u, rfl, h1, h2, h3, q⟩ := h
  have S := sc_rough_plane
  refine ⟨_, (pss_one (ps_ret (pe_tup (pa_cons (pe_callD d_minor_of (hr.mono (by decide)) rfl pass0 (pa_cons (pv 0) (pa_cons (pv 1) (pa_cons (pv 2) (pa_cons pe_int pa_nil se_con) se_nam) se_nam) se_nam)) (pa_cons (pe_un un_neg (pe_callD d_minor_of (hr.mono (by decide)) rfl pass0 (pa_cons (pv 0) (pa_cons (pv 1) (pa_cons (pv 2) (pa_cons pe_int pa_nil se_con) se_nam) se_nam) se_nam))) (pa_cons (pe_callD d_minor_of (hr.mono (by decide)) rfl pass0 (pa_cons (pv 0) (pa_cons (pv 1) (pa_cons (pv 2) (pa_cons pe_int pa_nil se_con) se_nam) se_nam) se_nam)) (pa_cons (pe_callD d_minor_of (hr.mono (by decide)) rfl pass0 (pa_cons (pv 0) (pa_cons (pv 1) (pa_cons (pv 2) (pa_cons pe_int pa_nil se_con) se_nam) se_nam) se_nam)) pa_nil se_cal) se_cal) se_un) se_cal)))), ?_⟩
  walk_at "rf"
  refine ⟨r, e, t, 0, p, o, u, rfl, h1, h2, h3, by decide, by decide, fun H1 s1 => ?_⟩
  refine ⟨r, e, t, 1, p, o, u, rfl, h1.keep s1, h2.keep s1, h3.keep s1, by decide, by decide, fun H2 s2 => ?_⟩
  have s12 := s1.trans s2
  walk_at "rf"
  refine ⟨r, e, t, 2, p, o, u, rfl, h1.keep s12, h2.keep s12, h3.keep s12, by decide, by decide, fun H3 s3 => ?_⟩
  have s13 := s12.trans s3
  refine ⟨r, e, t, 3, p, o, u, rfl, h1.keep s13, h2.keep s13, h3.keep s13, by decide, by decide, fun H4 s4 => ?_⟩
  exact ⟨by decide, fun g hg => q g _ (s13.trans (s4.trans (Same.new hg _))) upd_same⟩
theorem det_bd {a b c x y z u v w : Int} (ha : Sm2 a) (hb : Sm2 b) (hc : Sm2 c) (hx : Sm2 x) (hy : Sm2 y) (hz : Sm2 z) (hu : Sm2 u) (hv : Sm2 v) (hw : Sm2 w) : Bd 603 (det3 a b c x y z u v w) := by
  have m : ∀ {i j k l e : Int}, Sm2 i → Sm2 j → Sm2 k → Sm2 l → Sm2 e → Bd 601 ((i * j - k * l) * e) := fun h1 h2 h3 h4 h5 => Bd.mul (n := 401) (m := 200) (Bd.sub (Bd.mul (n := 200) (m := 200) h1 h2) (Bd.mul (n := 200) (m := 200) h3 h4)) h5
  exact Bd.add (Bd.add (m hb hz hc hy hu) (m hc hx ha hz hv)) (Bd.mono (n := 601) (m ha hy hb hx hw))
theorem minor_sm {p o u : Pt} (hp : p.sm) (ho : o.sm) (hu : u.sm) : Small (minor 0 p o u) ∧ Small (minor 1 p o u) ∧ Small (minor 2 p o u) ∧ Small (minor 3 p o u) := by
  obtain ⟨a, b, c, d⟩ := hp
  obtain ⟨a', b', c', d'⟩ := ho
  obtain ⟨a2, b2, c2, d2⟩ := hu
  exact ⟨Bd.mono (n := 603) (det_bd b c d b' c' d' b2 c2 d2), Bd.mono (n := 603) (det_bd a c d a' c' d' a2 c2 d2), Bd.mono (n := 603) (det_bd a b d a' b' d' a2 b2 d2), Bd.mono (n := 603) (det_bd a b c a' b' c' a2 b2 c2)⟩
theorem ok_plane (T : Tx K mg t1 t2) (F : At K mg "made_plane" s_made_plane ["a", "b", "c", "d"] []) (d_in_lowest_terms : DefOk P w K mg base CX0 2 "in_lowest_terms" ["numbers"] [] spLow) : DefOk P w K mg base CX0 3 "made_plane" ["a", "b", "c", "d"] [] spPlane := by
  refine F.ok sc_made_plane (fun vs H Q E h => ?_) (fun f cdv A outer s H vs Q E hr h => ?_)
  · obtain ⟨a, b, c, d, rfl, _⟩ := h
    rfl
  obtain ⟨a, b, c, d, rfl, sa, sb, sc, sd, nz, q⟩ := h
  have S := sc_made_plane
  refine ⟨_, (pss_cons (ps_if (PW.pt (pw_and (pt_cmpR op_eq (pv 0) pe_int (nomark _)) (pw_and (pt_cmpR op_eq (pv 1) pe_int (nomark _)) (pw_and1 (pt_cmpR op_eq (pv 2) pe_int (nomark _))))))
    pss_never
    pss_nil)
    (pss_one (ps_ret (pe_callD d_in_lowest_terms (hr.mono (by decide)) rfl pass0 (pa_cons (pe_tup (pa_cons (pv 0) (pa_cons (pv 1) (pa_cons (pv 2) (pa_cons (pv 3) pa_nil se_nam) se_nam) se_nam) se_nam)) pa_nil se_tup))))), ?_⟩
  have fin : ∀ p, H p = none → spLow [.ref p] (upd H p (.tup [.int a, .int b, .int c, .int d])) Q (fun _ _ _ => False) := fun p hp =>
    ⟨p, [a, b, c, d], rfl, upd_same, by simp, mem4 sa sb sc sd, by have := gl4 (d := d) nz; omega, fun r H' h1 h2 => q r H' ((Same.new hp _).trans h1) h2⟩
  walk_at "rf"
  by_cases c1 : a = 0
  · rw [if_pos c1]
    by_cases c2 : b = 0
    · rw [if_pos c2]
      by_cases c3 : c = 0
      · exact absurd ⟨c1, c2, c3⟩ nz
      · rw [if_neg c3]
        exact ⟨by decide, fin⟩
    · rw [if_neg c2]
      exact ⟨by decide, fin⟩
  · rw [if_neg c1]
    exact ⟨by decide, fin⟩
theorem ok_through (T : Tx K mg t1 t2) (F : At K mg "plane_through" s_plane_through ["one", "other", "third"] []) (d_rough_plane : DefOk P w K mg base CX0 4 "rough_plane" ["one", "other", "third"] [] spRough) (d_made_plane : DefOk P w K mg base CX0 3 "made_plane" ["a", "b", "c", "d"] [] spPlane) (d_is_plain : DefOk P w K mg base CX0 1 "is_plain" ["plane"] [] spPlain) (d_turned_about : DefOk P w K mg base CX0 1 "turned_about" ["plane"] [] spTurned) : DefOk P w K mg base CX0 5 "plane_through" ["one", "other", "third"] [] spThrough := by
  refine F.ok sc_plane_through (fun vs H Q E h => ?_) (fun f cdv A outer s H vs Q E hr h => ?_)
  · obtain ⟨r, e, t, p, o, u, rfl, _⟩ := h
    rfl
  obtain ⟨r, e, t, p, o, u, rfl, h1, h2, h3, na, q⟩ := h
  have S := sc_plane_through
  refine ⟨_, (pss_cons (ps_set (i := 3) S.nd rfl (Or.inl rfl) (pe_callD d_rough_plane (hr.mono (by decide)) rfl pass0 (pa_cons (pv 0) (pa_cons (pv 1) (pa_cons (pv 2) pa_nil se_nam) se_nam) se_nam)))
    (pss_cons (ps_set (i := 4) S.nd rfl (Or.inl rfl) (pe_callD d_made_plane (hr.mono (by decide)) rfl pass0 (pa_cons (pe_ix ix_tup (pv 3) pe_int (fun _ _ => rfl)) (pa_cons (pe_ix ix_tup (pv 3) pe_int (fun _ _ => rfl)) (pa_cons (pe_ix ix_tup (pv 3) pe_int (fun _ _ => rfl)) (pa_cons (pe_ix ix_tup (pv 3) pe_int (fun _ _ => rfl)) pa_nil se_sub) se_sub) se_sub) se_sub)))
    (pss_cons (ps_if (pt_val (pe_callD d_is_plain (hr.mono (by decide)) rfl pass0 (pa_cons (pv 4) pa_nil se_nam)))
    (pss_one (ps_ret (pv 4)))
    pss_nil)
    (pss_one (ps_ret (pe_callD d_turned_about (hr.mono (by decide)) rfl pass0 (pa_cons (pv 4) pa_nil se_nam))))))), ?_⟩
  obtain ⟨m0, m1, m2, m3⟩ := minor_sm h1.2 h2.2 h3.2
  walk_at "rf"
  refine ⟨r, e, t, p, o, u, rfl, h1, h2, h3, fun g H1 s1 e1 => ?_⟩
  have kg : SqT K H1 g [.int (minor 0 p o u), .int (-minor 1 p o u), .int (minor 2 p o u), .int (minor 3 p o u)] := SqT.of e1
  walk_at "gf"
  refine ⟨_, _, _, _, rfl, m0, m1.neg, m2, m3, fun z => na ⟨z.1, by omega, z.2.2⟩, fun g2 H2 s2 e2 => ?_⟩
  have el : ∃ a b c d, low (rgh p o u) = [a, b, c, d] := ⟨_, _, _, _, rfl⟩
  have e2' : H2 g2 = some (.tup ((low (rgh p o u)).map V.int)) := e2
  obtain ⟨a, b, c, d, el⟩ := el
  unfold pln at q
  rw [el] at q e2'
  walk_at "rf"
  refine ⟨g2, a, b, c, d, rfl, e2', fun H3 s3 => ?_⟩
  have s13 := s1.trans (s2.trans s3)
  dsimp only at q
  cases eb : plb a b c with
  | true =>
    rw [eb, if_pos rfl] at q
    walk_at "rf"
    exact q g2 H3 s13 (s3 _ _ e2')
  | false =>
    rw [eb, if_neg (by decide)] at q
    walk_at "rf"
    refine ⟨g2, [a, b, c, d], rfl, s3 _ _ e2', by simp, fun g3 H4 s4 e4 => ?_⟩
    exact q g3 H4 (s13.trans s4) e4
theorem ok_side (T : Tx K mg t1 t2) (F : At K mg "side_of" s_side_of ["plane", "spot"] []) (d_sign_of : DefOk P w K mg base CX0 1 "sign_of" ["number"] [] spSign) (d_height_over : DefOk P w K mg base CX0 1 "height_over" ["plane", "spot"] [] spHt) : DefOk P w K mg base CX0 2 "side_of" ["plane", "spot"] [] spSide := by
  refine F.ok sc_side_of (fun vs H Q E h => ?_) (fun f cdv A outer s H vs Q E hr h => ?_)
  · obtain ⟨r, e, a, b, c, d, p, rfl, _⟩ := h
    rfl
  obtain ⟨r, e, a, b, c, d, p, rfl, h1, sa, sb, sc, sd, h2, q⟩ := h
  have S := sc_side_of
  refine ⟨_, (pss_one (ps_ret (pe_callD d_sign_of (hr.mono (by decide)) rfl pass0 (pa_cons (pe_callD d_height_over (hr.mono (by decide)) rfl pass0 (pa_cons (pv 0) (pa_cons (pv 1) pa_nil se_nam) se_nam)) pa_nil se_cal)))), ?_⟩
  walk_at "rf"
  exact ⟨r, e, a, b, c, d, p, rfl, h1, sa, sb, sc, sd, h2, _, rfl, q⟩
theorem ok_first (T : Tx K mg t1 t2) (F : At K mg "stands_first" s_stands_first ["one", "other"] []) : DefOk P w K mg base CX0 1 "stands_first" ["one", "other"] [] spFirst := by
  refine F.ok sc_stands_first (fun vs H Q E h => ?_) (fun f cdv A outer s H vs Q E hr h => ?_)
  · obtain ⟨r, e, p, o, rfl, _⟩ := h
    rfl
  obtain ⟨r, e, p, o, rfl, h1, h2, q⟩ := h
  have S := sc_stands_first
  refine ⟨_, (pss_cons (ps_for PassesOwn.never rfl (pi_range1 rfl T.m_range (pa_cons pe_int pa_nil se_con)) (pg_name (i := 2) S.nd rfl (Or.inl rfl))
    (pss_cons (ps_set (i := 3) S.nd rfl (Or.inl rfl) (pe_op op_mulB (pe_ix ix_tup (pv 0) (pv 2) (fun _ _ => rfl)) (pe_ix ix_tup (pv 1) pe_int (fun _ _ => rfl))))
    (pss_cons (ps_set (i := 4) S.nd rfl (Or.inl rfl) (pe_op op_mulB (pe_ix ix_tup (pv 1) (pv 2) (fun _ _ => rfl)) (pe_ix ix_tup (pv 0) pe_int (fun _ _ => rfl))))
    (pss_one (ps_if (pt_cmpR op_ne (pv 3) (pv 4) (nomark _))
    (pss_one (ps_ret (pe_cmpR op_lt (pv 3) (pv 4) (nomark _))))
    pss_nil)))))
    (pss_one (ps_ret pe_bl))), ?_⟩
  have k_h1 := h1.sq (K := K)
  have k_h2 := h2.sq (K := K)
  have f0 := h1.2.fx
  have f1 := h1.2.fy
  have f2 := h1.2.fz
  have f3 := h1.2.fw
  have g0 := h2.2.fx
  have g1 := h2.2.fy
  have g2 := h2.2.fz
  have g3 := h2.2.fw
  unfold sfp at q
  walk_at "rd"
  refine ⟨3, rfl, by decide, by decide, for_range (lo := 0) (n := 3) (fun i σ H2 => H2 = H ∧ ∃ (o0 o1 o2 : Option V), σ = [some (.ref r), some (.ref e), o0, o1, o2] ∧ (1 ≤ i → p.x * o.w = o.x * p.w) ∧ (2 ≤ i → p.y * o.w = o.y * p.w) ∧ (3 ≤ i → p.z * o.w = o.z * p.w)) ⟨rfl, none, none, none, rfl, by simp, by simp, by simp⟩ ?_ ?_⟩
  · rintro i σ H2 hi ⟨rfl, o0, o1, o2, rfl, e0, e1, e2⟩
    match i, hi with
    | 0, _ =>
      walk_at "rd"
      walk_at "go"
      refine ite2 (fun c => ⟨fun _ => c, fun h => absurd h (by decide), fun h => absurd h (by decide)⟩) fun c => ?_
      rw [sf, if_pos c] at q
      exact q
    | 1, _ =>
      have d0 := e0 (by decide)
      walk_at "rd"
      walk_at "go"
      refine ite2 (fun c => ⟨fun _ => d0, fun _ => c, fun h => absurd h (by decide)⟩) fun c => ?_
      rw [sf, if_neg (fun n => n d0), if_pos c] at q
      exact q
    | 2, _ =>
      have d0 := e0 (by decide)
      have d1 := e1 (by decide)
      walk_at "rd"
      walk_at "go"
      refine ite2 (fun c => ⟨fun _ => d0, fun _ => d1, fun _ => c⟩) fun c => ?_
      rw [sf, if_neg (fun n => n d0), if_neg (fun n => n d1), if_pos c] at q
      exact q
  · rintro σ H2 ⟨rfl, o0, o1, o2, rfl, e0, e1, e2⟩
    rw [sf, if_neg (fun n => n (e0 (by decide))), if_neg (fun n => n (e1 (by decide))), if_neg (fun n => n (e2 (by decide)))] at q
    walk_at "rd"
    exact q
theorem ok_axis (T : Tx K mg t1 t2) (F : At K mg "flat_axis" s_flat_axis ["plane"] []) : DefOk P w K mg base CX0 1 "flat_axis" ["plane"] [] spAxis := by
  refine F.ok sc_flat_axis (fun vs H Q E h => ?_) (fun f cdv A outer s H vs Q E hr h => ?_)
  · obtain ⟨r, a, b, c, d, rfl, _⟩ := h
    rfl
  obtain ⟨r, a, b, c, d, rfl, h1, nz, q⟩ := h
  have S := sc_flat_axis
  refine ⟨_, (pss_cons (ps_for PassesOwn.never rfl (pi_range1 rfl T.m_range (pa_cons pe_int pa_nil se_con)) (pg_name (i := 1) S.nd rfl (Or.inl rfl))
    (pss_one (ps_if (pt_cmpR op_ne (pe_ix ix_tup (pv 0) (pv 1) (fun _ _ => rfl)) pe_int (nomark _))
    (pss_one (ps_ret (pv 1)))
    pss_nil)))
    (pss_one (ps_ret pe_non))), ?_⟩
  have k1 : SqT K H r [.int a, .int b, .int c, .int d] := SqT.of h1
  walk_at "rf"
  walk_at "gf"
  refine for_range (lo := 0) (n := 3) (fun i σ H2 => H2 = H ∧ ∃ o1 : Option V, σ = [some (.ref r), o1] ∧ (1 ≤ i → a = 0) ∧ (2 ≤ i → b = 0) ∧ (3 ≤ i → c = 0)) ⟨rfl, none, rfl, by simp, by simp, by simp⟩ ?_ ?_
  · rintro i σ H2 hi ⟨rfl, o1, rfl, e0, e1, e2⟩
    match i, hi with
    | 0, _ =>
      walk_at "rf"
      walk_at "gf"
      refine ite2 (fun cc => ⟨fun _ => cc, fun h => absurd h (by decide), fun h => absurd h (by decide)⟩) fun cc => ?_
      exact q _ (.inl ⟨rfl, cc⟩)
    | 1, _ =>
      have d0 := e0 (by decide)
      walk_at "rf"
      walk_at "gf"
      refine ite2 (fun cc => ⟨fun _ => d0, fun _ => cc, fun h => absurd h (by decide)⟩) fun cc => ?_
      exact q _ (.inr (.inl ⟨rfl, d0, cc⟩))
    | 2, _ =>
      have d0 := e0 (by decide)
      have d1 := e1 (by decide)
      walk_at "rf"
      walk_at "gf"
      refine ite2 (fun cc => ⟨fun _ => d0, fun _ => d1, fun _ => cc⟩) fun cc => ?_
      exact q _ (.inr (.inr ⟨rfl, d0, d1, cc⟩))
  · rintro σ H2 ⟨rfl, o1, rfl, e0, e1, e2⟩
    exact absurd ⟨e0 (by decide), e1 (by decide), e2 (by decide)⟩ nz
theorem ok_edge (T : Tx K mg t1 t2) (F : At K mg "side_of_edge" s_side_of_edge ["edge", "spot", "axis"] []) (d_sign_of : DefOk P w K mg base CX0 1 "sign_of" ["number"] [] spSign) (d_minor_of : DefOk P w K mg base CX0 3 "minor_of" ["one", "other", "third", "place"] [] spMinor) : DefOk P w K mg base CX0 4 "side_of_edge" ["edge", "spot", "axis"] [] spEdge := by
  refine F.ok sc_side_of_edge (fun vs H Q E h => ?_) (fun f cdv A outer s H vs Q E hr h => ?_)
  · obtain ⟨g, r, e, t, k, p, o, u, rfl, _⟩ := h
    rfl
  obtain ⟨g, r, e, t, k, p, o, u, rfl, hg, h1, h2, h3, k0, k3, q⟩ := h
  have S := sc_side_of_edge
  refine ⟨_, (pss_one (ps_ret (pe_callD d_sign_of (hr.mono (by decide)) rfl pass0 (pa_cons (pe_callD d_minor_of (hr.mono (by decide)) rfl pass0 (pa_cons (pe_ix ix_tup (pv 0) pe_int (fun _ _ => rfl)) (pa_cons (pe_ix ix_tup (pv 0) pe_int (fun _ _ => rfl)) (pa_cons (pv 1) (pa_cons (pv 2) pa_nil se_nam) se_nam) se_sub) se_sub)) pa_nil se_cal)))), ?_⟩
  have kg : SqT K H g [.ref r, .ref e] := SqT.of hg
  walk_at "rf"
  walk_at "gf"
  refine ⟨r, e, t, k, p, o, u, rfl, h1, h2, h3, k0, k3, fun H1 s1 => ?_⟩
  exact ⟨_, rfl, q H1 s1⟩
def fM1 (H : Hp) (l : Addr) (ps : List Pt) : L2.St → Hp → Prop := fun σ H' => ∃ o2 : Option V, σ = [some (.ref l), some (.int (fF ps : Nat)), o2, none] ∧ H' = H
def fM2 (H : Hp) (l : Addr) (ps : List Pt) (rs : List Addr) : L2.St → Hp → Prop := fun σ H' => ∃ (g : Addr) (o1 o2 : Option V), σ = [some (.ref l), o1, o2, some (.ref g)] ∧ H' g = some (.lst ((rot (fF ps) rs).map V.ref)) ∧ Same H H'
def fM3 (H : Hp) (ps : List Pt) (rs : List Addr) : L2.St → Hp → Prop := fun σ H' => ∃ (g : Addr) (o0 o1 o2 : Option V), σ = [o0, o1, o2, some (.ref g)] ∧ H' g = some (.lst ((frm ps rs).map V.ref)) ∧ Same H H'
theorem rot_len {α : Type} {f : Nat} {l : List α} (h : f ≤ l.length) : (rot f l).length = l.length := by
  unfold rot
  rw [List.length_append, List.length_drop, List.length_take]
  omega
theorem ok_formed (T : Tx K mg t1 t2) (F : At K mg "formed" s_formed ["corners"] []) (d_stands_first : DefOk P w K mg base CX0 1 "stands_first" ["one", "other"] [] spFirst) : DefOk P w K mg base CX0 2 "formed" ["corners"] [] spFormed := by
  refine F.ok sc_formed (fun vs H Q E h => ?_) (fun f cdv A outer s H vs Q E hr h => ?_)
  · obtain ⟨l, rs, ps, rfl, _⟩ := h
    rfl
  obtain ⟨l, rs, ps, rfl, hc, n3, n8, q⟩ := h
  have S := sc_formed
  refine ⟨_, (pss_cons (ps_set (i := 1) S.nd rfl (Or.inl rfl) pe_int)
    (pss_cut (fM1 H l ps) (ps_for PassesOwn.never rfl (pi_range2 rfl T.m_range (pa_cons pe_int (pa_cons (pe_callB call_len_seq rfl T.m_len PySem.boot_len (pa_cons (pv 0) pa_nil se_nam)) pa_nil se_cal) se_con)) (pg_name (i := 2) S.nd rfl (Or.inl rfl))
    (pss_one (ps_if (pt_val (pe_callD d_stands_first (hr.mono (by decide)) rfl pass0 (pa_cons (pe_ix ix_list (pv 0) (pv 2) (fun _ _ => rfl)) (pa_cons (pe_ix ix_list (pv 0) (pv 1) (fun _ _ => rfl)) pa_nil se_sub) se_sub)))
    (pss_one (ps_set (i := 1) S.nd rfl (Or.inl rfl) (pv 2)))
    pss_nil)))
    (pss_cut (fM2 H l ps rs) (ps_set (i := 3) S.nd rfl (Or.inl rfl) (pe_op op_cat (pe_callTy call_list_of rfl T.m_list boot_list (pa_cons (pe_slice sl_list (pv 0) (po_some (pv 1)) po_none) pa_nil se_sub)) (pe_callTy call_list_of rfl T.m_list boot_list (pa_cons (pe_slice sl_list (pv 0) po_none (po_some (pv 1))) pa_nil se_sub))))
    (pss_cut (fM3 H ps rs) (ps_if (pt_val (pe_callD d_stands_first (hr.mono (by decide)) rfl pass0 (pa_cons (pe_ix ix_list (pv 3) (pe_un un_neg pe_int) (fun _ _ => rfl)) (pa_cons (pe_ix ix_list (pv 3) pe_int (fun _ _ => rfl)) pa_nil se_sub) se_sub)))
    (pss_one (ps_set (i := 3) S.nd rfl (Or.inl rfl) (pe_op op_cat (pe_slice sl_list (pv 3) po_none (po_some pe_int)) (pe_listRev rfl rfl T.m_list rfl T.m_reversed (pe_slice sl_list (pv 3) (po_some pe_int) po_none)))))
    pss_nil)
    (pss_one (ps_ret (pe_callTy call_tupleL rfl T.m_tuple boot_tuple (pa_cons (pv 3) pa_nil se_nam)))))))), ?_⟩
  have ln := hc.2.len
  have lm : (rs.map V.ref).length = ps.length := by rw [List.length_map, ln]
  have kl : SqL K H l (rs.map V.ref) := SqL.of hc.1
  walk_at "rf"
  refine ⟨⟨_, .inl kl, by decide, by decide, by omega, by omega, ?_⟩, ?_⟩
  · refine for_range (lo := 1) (n := _) (fun i σ H2 => H2 = H ∧ ∃ o2 : Option V, σ = [some (.ref l), some (.int (argF ps i : Nat)), o2, none]) ⟨rfl, none, rfl⟩ ?_ ?_
    · rintro i σ H2 hi ⟨rfl, o2, rfl⟩
      have hi2 : i + 1 < ps.length := by omega
      have al := argF_le ps i
      obtain ⟨g1, g2⟩ := hc.2.get hi2
      obtain ⟨g3, g4⟩ := hc.2.get (i := argF ps i) (by omega)
      have e1 : atI (rs.map V.ref) (1 + (i : Int)) = some (.ref (ad rs (i + 1))) := by
        have z : (1 + (i : Int)) = ((i + 1 : Nat) : Int) := by omega
        rw [z]
        exact atI_nat g1
      walk_at "rf"
      refine ixL kl e1 ?_
      refine ixL kl (atI_nat g3) ?_
      refine ⟨_, _, _, _, rfl, g2, g4, ?_⟩
      have ea : argF ps (i + 1) = if sfp (pt ps (i + 1)) (pt ps (argF ps i)) = true then i + 1 else argF ps i := rfl
      walk_at "rf"
      cases es : sfp (pt ps (i + 1)) (pt ps (argF ps i)) with
      | true =>
        rw [es, if_pos rfl] at ea
        rw [ea, if_pos rfl]
        exact ⟨by omega, _, rfl⟩
      | false =>
        rw [es, if_neg (by decide)] at ea
        rw [ea, if_neg (by decide)]
        exact ⟨rfl, _, rfl⟩
    · rintro σ H2 ⟨rfl, o2, rfl⟩
      have e : (((List.map V.ref rs).length : Int) - 1).toNat = ps.length - 1 := by omega
      rw [e]
      exact ⟨_, rfl, rfl⟩
  rintro σ1 H1 ⟨o2, rfl, rfl⟩
  have fl : fF ps < ps.length := by have := argF_le ps (ps.length - 1); unfold fF; omega
  walk_at "rf"
  refine ⟨⟨l, _, rfl, kl, fun a1 h1 => ?_⟩, ?_⟩
  · rw [cut_drop]
    have s1 := Same.new h1 (.lst ((rs.map V.ref).drop (fF ps)))
    have e1 : upd H1 a1 (.lst ((rs.map V.ref).drop (fF ps))) a1 = some (.lst ((rs.map V.ref).drop (fF ps))) := upd_same
    generalize upd H1 a1 (.lst ((rs.map V.ref).drop (fF ps))) = J1 at s1 e1 ⊢
    refine ⟨a1, rfl, _, .inl (SqL.of e1), fun a2 h2 => ?_⟩
    have s2 := Same.new h2 (.lst ((rs.map V.ref).drop (fF ps)))
    have e2 : upd J1 a2 (.lst ((rs.map V.ref).drop (fF ps))) a2 = some (.lst ((rs.map V.ref).drop (fF ps))) := upd_same
    generalize upd J1 a2 (.lst ((rs.map V.ref).drop (fF ps))) = J2 at s2 e2 ⊢
    refine ⟨l, _, rfl, (s1.trans s2).seq kl, fun a3 h3 => ?_⟩
    rw [cut_take]
    have s3 := Same.new h3 (.lst ((rs.map V.ref).take (fF ps)))
    have e3 : upd J2 a3 (.lst ((rs.map V.ref).take (fF ps))) a3 = some (.lst ((rs.map V.ref).take (fF ps))) := upd_same
    generalize upd J2 a3 (.lst ((rs.map V.ref).take (fF ps))) = J3 at s3 e3 ⊢
    refine ⟨a3, rfl, _, .inl (SqL.of e3), fun a4 h4 => ?_⟩
    have s4 := Same.new h4 (.lst ((rs.map V.ref).take (fF ps)))
    have e4 : upd J3 a4 (.lst ((rs.map V.ref).take (fF ps))) a4 = some (.lst ((rs.map V.ref).take (fF ps))) := upd_same
    generalize upd J3 a4 (.lst ((rs.map V.ref).take (fF ps))) = J4 at s4 e4 ⊢
    refine ⟨a2, a4, _, _, rfl, rfl, s4 _ _ (s3 _ _ e2), e4, ?_, fun a5 h5 => ⟨a5, _, _, rfl, ?_, s1.trans (s2.trans (s3.trans (s4.trans (Same.new h5 _))))⟩⟩
    · rw [List.length_drop, List.length_take]
      exact Nat.le_trans (show _ ≤ 1000 by omega) (by decide)
    · unfold rot
      rw [List.map_append, List.map_drop, List.map_take]
      exact upd_same
  rintro σ2 H2 ⟨g, o1, o2, rfl, hg, s2⟩
  have hr2 := (hc.2.keep s2.t).rot (fF ps)
  have rl : (rot (fF ps) ps).length = ps.length := rot_len (by omega)
  have rl2 : ((rot (fF ps) rs).map V.ref).length = ps.length := by rw [List.length_map, rot_len (by omega), ln]
  have kg : SqL K H2 g ((rot (fF ps) rs).map V.ref) := SqL.of hg
  obtain ⟨b1, b2⟩ := hr2.get (i := ps.length - 1) (by omega)
  obtain ⟨b3, b4⟩ := hr2.get (i := 1) (by omega)
  have ef : ∀ {α : Type} (x : List α), frm ps x = turn (fB ps) (rot (fF ps) x) := fun _ => rfl
  have eb : fB ps = sfp (pt (rot (fF ps) ps) (ps.length - 1)) (pt (rot (fF ps) ps) 1) := rfl
  walk_at "rf"
  refine ⟨ixL kg (atI_neg1 (n := ps.length - 1) (by omega) b1) (ixL kg (atI_nat (j := 1) b3) ?_), ?_⟩
  · refine ⟨_, _, _, _, rfl, b2, b4, ?_⟩
    rw [← eb]
    have ef := ef rs
    cases es : fB ps with
    | false =>
      rw [es] at ef
      walk_at "rf"
      exact ⟨g, _, _, _, rfl, by rw [ef]; exact hg, s2⟩
    | true =>
      rw [es] at ef
      have ef2 : frm ps rs = (rot (fF ps) rs).take 1 ++ ((rot (fF ps) rs).drop 1).reverse := ef
      walk_at "rf"
      refine ⟨g, _, rfl, kg, fun a1 h1 => ?_⟩
      have c1 : cutV ((rot (fF ps) rs).map V.ref) none (some 1) = ((rot (fF ps) rs).map V.ref).take 1 := cut_take (f := 1)
      rw [c1]
      have s3 := Same.new h1 (.lst (((rot (fF ps) rs).map V.ref).take 1))
      have e1 : upd H2 a1 (.lst (((rot (fF ps) rs).map V.ref).take 1)) a1 = some (.lst (((rot (fF ps) rs).map V.ref).take 1)) := upd_same
      generalize upd H2 a1 (.lst (((rot (fF ps) rs).map V.ref).take 1)) = J1 at s3 e1 ⊢
      refine ⟨g, _, rfl, s3.seq kg, fun a2 h2 => ?_⟩
      have c2 : cutV ((rot (fF ps) rs).map V.ref) (some 1) none = ((rot (fF ps) rs).map V.ref).drop 1 := cut_drop (f := 1)
      rw [c2]
      have s4 := Same.new h2 (.lst (((rot (fF ps) rs).map V.ref).drop 1))
      have e2 : upd J1 a2 (.lst (((rot (fF ps) rs).map V.ref).drop 1)) a2 = some (.lst (((rot (fF ps) rs).map V.ref).drop 1)) := upd_same
      generalize upd J1 a2 (.lst (((rot (fF ps) rs).map V.ref).drop 1)) = J2 at s4 e2 ⊢
      refine ⟨a2, rfl, _, SqL.of e2, fun a3 h3 => ?_⟩
      have s5 := Same.new h3 (.lst (((rot (fF ps) rs).map V.ref).drop 1).reverse)
      have e3 : upd J2 a3 (.lst (((rot (fF ps) rs).map V.ref).drop 1).reverse) a3 = some (.lst (((rot (fF ps) rs).map V.ref).drop 1).reverse) := upd_same
      generalize upd J2 a3 (.lst (((rot (fF ps) rs).map V.ref).drop 1).reverse) = J3 at s5 e3 ⊢
      refine ⟨a1, a3, _, _, rfl, rfl, s5 _ _ (s4 _ _ e1), e3, ?_, fun a4 h4 => ⟨a4, _, _, _, rfl, ?_, s2.trans (s3.trans (s4.trans (s5.trans (Same.new h4 _))))⟩⟩
      · rw [List.length_reverse, List.length_drop, List.length_take]
        exact Nat.le_trans (show _ ≤ 1000 by omega) (by decide)
      · rw [ef2, List.map_append, List.map_take, List.map_reverse, List.map_drop]
        exact upd_same
  rintro σ3 H3 ⟨g, o0, o1, o2, rfl, hg, s3⟩
  walk_at "rf"
  exact ⟨_, SqL.of hg, fun t ht => q t _ (s3.trans (Same.new ht _)) upd_same⟩
theorem atI_pred {rs : List Addr} {ps : List Pt} {H : Hp} (h : Sps H rs ps) {i : Nat} (hi : i < ps.length) : atI (rs.map V.ref) ((i : Int) - 1) = some (.ref (ad rs ((i + (ps.length - 1)) % ps.length))) := by
  have lm : (rs.map V.ref).length = ps.length := by rw [List.length_map, h.len]
  cases i with
  | zero =>
    have e : (0 + (ps.length - 1)) % ps.length = ps.length - 1 := by rw [Nat.zero_add]; exact Nat.mod_eq_of_lt (by omega)
    rw [e]
    have z : ((0 : Nat) : Int) - 1 = -1 := rfl
    rw [z]
    exact atI_neg1 (n := ps.length - 1) (by omega) (h.get (i := ps.length - 1) (by omega)).1
  | succ i =>
    have e : (i + 1 + (ps.length - 1)) % ps.length = i := by
      have z : i + 1 + (ps.length - 1) = i + ps.length := by omega
      rw [z, Nat.add_mod_right]
      exact Nat.mod_eq_of_lt (by omega)
    rw [e]
    have z : ((i + 1 : Nat) : Int) - 1 = (i : Int) := by omega
    rw [z]
    exact atI_nat (h.get (i := i) (by omega)).1
theorem ok_cvx (T : Tx K mg t1 t2) (F : At K mg "is_convex" s_is_convex ["corners", "axis"] []) (d_side_of_edge : DefOk P w K mg base CX0 4 "side_of_edge" ["edge", "spot", "axis"] [] spEdge) : DefOk P w K mg base CX0 5 "is_convex" ["corners", "axis"] [] spCvx := by
  refine F.ok sc_is_convex (fun vs H Q E h => ?_) (fun f cdv A outer s H vs Q E hr h => ?_)
  · obtain ⟨l, k, rs, ps, rfl, _⟩ := h
    rfl
  obtain ⟨l, k, rs, ps, rfl, hc, n3, n8, k0, k2, rnd, q⟩ := h
  have S := sc_is_convex
  refine ⟨_, (pss_cons (ps_set (i := 2) S.nd rfl (Or.inl rfl) (pe_callD d_side_of_edge (hr.mono (by decide)) rfl pass0 (pa_cons (pe_tup (pa_cons (pe_ix ix_list (pv 0) pe_int (fun _ _ => rfl)) (pa_cons (pe_ix ix_list (pv 0) pe_int (fun _ _ => rfl)) pa_nil se_sub) se_sub)) (pa_cons (pe_ix ix_list (pv 0) pe_int (fun _ _ => rfl)) (pa_cons (pv 1) pa_nil se_nam) se_sub) se_tup)))
    (pss_cons (ps_set (i := 3) S.nd rfl (Or.inl rfl) (pe_callB call_len_seq rfl T.m_len PySem.boot_len (pa_cons (pv 0) pa_nil se_nam)))
    (pss_cons (ps_for PassesOwn.never rfl (pi_range1 rfl T.m_range (pa_cons (pv 3) pa_nil se_nam)) (pg_name (i := 4) S.nd rfl (Or.inl rfl))
    (pss_cons (ps_set (i := 5) S.nd rfl (Or.inl rfl) (pe_tup (pa_cons (pe_ix ix_list (pv 0) (pe_op op_sub (pv 4) pe_int) (fun _ _ => rfl)) (pa_cons (pe_ix ix_list (pv 0) (pv 4) (fun _ _ => rfl)) pa_nil se_sub) se_sub)))
    (pss_one (ps_for PassesOwn.never rfl (pi_range2 rfl T.m_range (pa_cons pe_int (pa_cons (pe_op op_sub (pv 3) pe_int) pa_nil se_bin) se_con)) (pg_name (i := 6) S.nd rfl (Or.inl rfl))
    (pss_one (ps_if (pt_cmpR op_ne (pe_callD d_side_of_edge (hr.mono (by decide)) rfl pass0 (pa_cons (pv 5) (pa_cons (pe_ix ix_list (pv 0) (pe_op op_mod (pe_op op_add (pv 4) (pv 6)) (pv 3)) (fun _ _ => rfl)) (pa_cons (pv 1) pa_nil se_nam) se_sub) se_nam)) (pv 2) (nomark _))
    (pss_one (ps_ret pe_bl))
    pss_nil))))))
    (pss_one (ps_ret pe_bl))))), ?_⟩
  have ln := hc.2.len
  have lm : (rs.map V.ref).length = ps.length := by rw [List.length_map, ln]
  have kl : SqL K H l (rs.map V.ref) := SqL.of hc.1
  obtain ⟨a1, a2⟩ := hc.2.get (i := 0) (by omega)
  obtain ⟨a3, a4⟩ := hc.2.get (i := 1) (by omega)
  obtain ⟨a5, a6⟩ := hc.2.get (i := 2) (by omega)
  walk_at "rf"
  refine ixL kl (atI_nat (j := 0) a1) (ixL kl (atI_nat (j := 1) a3) ⟨by decide, fun g hg => ?_⟩)
  have s1 := Same.new hg (.tup [.ref (ad rs 0), .ref (ad rs 1)])
  have e1 : upd H g (.tup [.ref (ad rs 0), .ref (ad rs 1)]) g = some (.tup [.ref (ad rs 0), .ref (ad rs 1)]) := upd_same
  generalize upd H g (.tup [.ref (ad rs 0), .ref (ad rs 1)]) = H1 at s1 e1 ⊢
  refine ixL (s1.seq kl) (atI_nat (j := 2) a5) ?_
  refine ⟨g, _, _, _, k, _, _, _, rfl, e1, a2.keep s1, a4.keep s1, a6.keep s1, k0, by omega, fun H2 s2 => ?_⟩
  have s12 := s1.trans s2
  have kl2 := s12.seq kl
  walk_at "rf"
  refine ⟨_, .inl kl2, ?_⟩
  rw [lm]
  refine ⟨by omega, by omega, ?_⟩
  refine for_range (lo := 0) (n := _) (fun i σ H3 => Same H H3 ∧ ∃ o4 o5 o6 : Option V, σ = [some (.ref l), some (.int k), some (.int (sgn (minor k (pt ps 0) (pt ps 1) (pt ps 2)))), some (.int (ps.length : Nat)), o4, o5, o6]) ⟨s12, none, none, none, rfl⟩ ?_ ?_
  · rintro i σ H3 hi ⟨s3, o4, o5, o6, rfl⟩
    have hi2 : i < ps.length := by simpa using hi
    have kl3 := s3.seq kl
    have sp3 := hc.2.keep s3.t
    obtain ⟨b1, b2⟩ := sp3.get hi2
    have hm : (i + (ps.length - 1)) % ps.length < ps.length := Nat.mod_lt _ (by omega)
    obtain ⟨b3, b4⟩ := sp3.get hm
    have ep := atI_pred sp3 hi2
    have z0 : (0 : Int) + (i : Int) = (i : Int) := Int.zero_add _
    rw [z0]
    walk_at "rf"
    refine ixL kl3 ep (ixL kl3 (atI_nat b1) ⟨by decide, fun g3 hg3 => ?_⟩)
    have s4 := Same.new hg3 (.tup [.ref (ad rs ((i + (ps.length - 1)) % ps.length)), .ref (ad rs i)])
    have e4 : upd H3 g3 (.tup [.ref (ad rs ((i + (ps.length - 1)) % ps.length)), .ref (ad rs i)]) g3 = some (.tup [.ref (ad rs ((i + (ps.length - 1)) % ps.length)), .ref (ad rs i)]) := upd_same
    generalize upd H3 g3 (.tup [.ref (ad rs ((i + (ps.length - 1)) % ps.length)), .ref (ad rs i)]) = H4 at s4 e4 ⊢
    refine ⟨by decide, by decide, by omega, by omega, ?_⟩
    refine for_range (lo := 1) (n := _) (fun j σ H5 => Same H4 H5 ∧ ∃ o6 : Option V, σ = [some (.ref l), some (.int k), some (.int (sgn (minor k (pt ps 0) (pt ps 1) (pt ps 2)))), some (.int (ps.length : Nat)), some (.int (i : Int)), some (.ref g3), o6]) ⟨Same.refl _, _, rfl⟩ ?_ ?_
    · rintro j σ H5 hj ⟨s5, o6, rfl⟩
      have hj2 : j + 1 < ps.length - 1 := by omega
      have s35 := s4.trans s5
      have s05 := s3.trans s35
      have sp5 := hc.2.keep s05.t
      have hm2 : (i + (j + 1)) % ps.length < ps.length := Nat.mod_lt _ (by omega)
      obtain ⟨c1, c2⟩ := sp5.get hm2
      have ez : ((i : Int) + (1 + (j : Int))) % ((ps.length : Nat) : Int) = (((i + (j + 1)) % ps.length : Nat) : Int) := by
        rw [Int.natCast_emod]
        congr 1
        omega
      walk_at "rf"
      rw [ez]
      refine ⟨by omega, ixL (s05.seq kl) (atI_nat c1) ?_⟩
      refine ⟨g3, _, _, _, k, _, _, _, rfl, s5 _ _ e4, b4.keep s35, b2.keep s35, c2, k0, by omega, fun H6 s6 => ?_⟩
      rw [rnd i (j + 1) hi2 (by omega) hj2]
      walk_at "rf"
      exact ⟨s5.trans s6, _, rfl⟩
    · rintro σ H5 ⟨s5, o6, rfl⟩
      exact ⟨s3.trans (s4.trans s5), _, _, _, rfl⟩
  · rintro σ H3 ⟨s3, o4, o5, o6, rfl⟩
    exact q _ s3
theorem plb_neg {a b c : Int} (h : ¬ (a = 0 ∧ b = 0 ∧ c = 0)) (hp : plb a b c = false) : plb (-a) (-b) (-c) = true := by
  by_cases ha : a = 0
  · by_cases hb : b = 0
    · have hc : c ≠ 0 := fun z => h ⟨ha, hb, z⟩
      simp [plb, ha, hb, hc] at hp ⊢
      omega
    · simp [plb, ha, hb] at hp ⊢
      omega
  · simp [plb, ha] at hp ⊢
    omega
theorem gl_neg (ns : List Int) : gl (ns.map fun n => -n) = gl ns := by
  have d1 : gl (ns.map fun n => -n) ∣ gl ns := dvd_gl fun n hn => Int.dvd_neg.mp (gl_dvd (List.mem_map.mpr ⟨n, hn, rfl⟩))
  have d2 : gl ns ∣ gl (ns.map fun n => -n) := dvd_gl fun n hn => by
    obtain ⟨m, hm, rfl⟩ := List.mem_map.mp hn
    exact Int.dvd_neg.mpr (gl_dvd hm)
  exact Int.dvd_antisymm (gl_nonneg _) (gl_nonneg _) d1 d2
theorem pln_facts {a b c d : Int} (h : ¬ (a = 0 ∧ b = 0 ∧ c = 0)) (sa : Small a) (sb : Small b) (sc : Small c) (sd : Small d) : ∃ x y z w : Int, pln [a, b, c, d] = [x, y, z, w] ∧ Small x ∧ Small y ∧ Small z ∧ Small w ∧ gl [x, y, z, w] = 1 ∧ plb x y z = true ∧ ∀ p : Pt, hgt a b c d p = 0 → hgt x y z w p = 0 := by
  have gp := gl4 (d := d) h
  have g1 : gl (low [a, b, c, d]) = 1 := gl_div (ns := [a, b, c, d]) (by omega)
  have nz : ¬ (a / gl [a, b, c, d] = 0 ∧ b / gl [a, b, c, d] = 0 ∧ c / gl [a, b, c, d] = 0) := fun z => by
    have g : ∀ {x : Int}, x ∈ [a, b, c, d] → x / gl [a, b, c, d] = 0 → x = 0 := fun hx z => Classical.byContradiction fun q => div_ne_zero (gl_dvd hx) q z
    exact h ⟨g (by simp) z.1, g (by simp) z.2.1, g (by simp) z.2.2⟩
  have el : low [a, b, c, d] = [a / gl [a, b, c, d], b / gl [a, b, c, d], c / gl [a, b, c, d], d / gl [a, b, c, d]] := rfl
  have ea := Int.ediv_mul_cancel (gl_dvd (ns := [a, b, c, d]) (n := a) (by simp))
  have eb := Int.ediv_mul_cancel (gl_dvd (ns := [a, b, c, d]) (n := b) (by simp))
  have ec := Int.ediv_mul_cancel (gl_dvd (ns := [a, b, c, d]) (n := c) (by simp))
  have ed := Int.ediv_mul_cancel (gl_dvd (ns := [a, b, c, d]) (n := d) (by simp))
  have s1 := sa.div (g := gl [a, b, c, d])
  have s2 := sb.div (g := gl [a, b, c, d])
  have s3 := sc.div (g := gl [a, b, c, d])
  have s4 := sd.div (g := gl [a, b, c, d])
  unfold pln
  rw [el] at g1 ⊢
  generalize gl [a, b, c, d] = g at gp g1 nz ea eb ec ed s1 s2 s3 s4 ⊢
  generalize a / g = x at g1 nz ea s1 ⊢
  generalize b / g = y at g1 nz eb s2 ⊢
  generalize c / g = z at g1 nz ec s3 ⊢
  generalize d / g = w at g1 ed s4 ⊢
  have hz : ∀ p : Pt, hgt a b c d p = 0 → hgt x y z w p = 0 := fun p hp => by
    have e : hgt x y z w p * g = 0 := by
      rw [← hp, ← ea, ← eb, ← ec, ← ed]
      unfold hgt
      grind
    rcases Int.mul_eq_zero.mp e with q | q
    · exact q
    · omega
  show ∃ x' y' z' w' : Int, (if plb x y z = true then [x, y, z, w] else [-x, -y, -z, -w]) = [x', y', z', w'] ∧ _
  cases eb : plb x y z with
  | true => exact ⟨x, y, z, w, if_pos rfl, s1, s2, s3, s4, g1, eb, hz⟩
  | false =>
    refine ⟨-x, -y, -z, -w, if_neg (by decide), s1.neg, s2.neg, s3.neg, s4.neg, ?_, plb_neg nz eb, fun p hp => ?_⟩
    · rw [← g1]
      exact gl_neg [x, y, z, w]
    · have e := hz p hp
      have e2 : hgt (-x) (-y) (-z) (-w) p = -hgt x y z w p := by
        unfold hgt
        grind
      rw [e2, e]
      rfl
theorem pln_nz {a b c d x y z w : Int} (h : pln [a, b, c, d] = [x, y, z, w]) : (x ≠ 0 → a ≠ 0) ∧ (y ≠ 0 → b ≠ 0) ∧ (z ≠ 0 → c ≠ 0) := by
  have el : low [a, b, c, d] = [a / gl [a, b, c, d], b / gl [a, b, c, d], c / gl [a, b, c, d], d / gl [a, b, c, d]] := rfl
  unfold pln at h
  rw [el] at h
  generalize gl [a, b, c, d] = g at h
  have h' : (if plb (a / g) (b / g) (c / g) = true then [a / g, b / g, c / g, d / g] else [-(a / g), -(b / g), -(c / g), -(d / g)]) = [x, y, z, w] := h
  have z0 : ∀ {i : Int}, i = 0 → i / g = 0 := fun e => by rw [e]; exact Int.zero_ediv g
  split at h'
  · simp only [List.cons.injEq, and_true] at h'
    obtain ⟨e1, e2, e3, _⟩ := h'
    exact ⟨fun q e => q (by rw [← e1]; exact z0 e), fun q e => q (by rw [← e2]; exact z0 e), fun q e => q (by rw [← e3]; exact z0 e)⟩
  · simp only [List.cons.injEq, and_true] at h'
    obtain ⟨e1, e2, e3, _⟩ := h'
    exact ⟨fun q e => q (by rw [← e1, z0 e]; rfl), fun q e => q (by rw [← e2, z0 e]; rfl), fun q e => q (by rw [← e3, z0 e]; rfl)⟩
theorem plb_nz {x y z : Int} (h : plb x y z = true) : ¬ (x = 0 ∧ y = 0 ∧ z = 0) := fun e => by
  simp [plb, e.1, e.2.1, e.2.2] at h
theorem sgn0 : sgn 0 = 0 := rfl
theorem inl_na {p o u : Pt} (h : ¬ noArrow p o u) : inl p o u = false := decide_eq_false h
theorem ok_board (T : Tx K mg t1 t2) (F : At K mg "made_board" s_made_board ["corners"] []) (d_in_line : DefOk P w K mg base CX0 4 "in_line" ["one", "other", "third"] [] spLine) (d_plane_through : DefOk P w K mg base CX0 5 "plane_through" ["one", "other", "third"] [] spThrough) (d_side_of : DefOk P w K mg base CX0 2 "side_of" ["plane", "spot"] [] spSide) (d_flat_axis : DefOk P w K mg base CX0 1 "flat_axis" ["plane"] [] spAxis) (d_is_convex : DefOk P w K mg base CX0 5 "is_convex" ["corners", "axis"] [] spCvx) (d_formed : DefOk P w K mg base CX0 2 "formed" ["corners"] [] spFormed) : DefOk P w K mg base CX0 6 "made_board" ["corners"] [] spBoard := by
  refine F.ok sc_made_board (fun vs H Q E h => ?_) (fun f cdv A outer s H vs Q E hr h => ?_)
  · obtain ⟨l, rs, ps, rfl, _⟩ := h
    rfl
  obtain ⟨l, rs, ps, rfl, hc, B, q⟩ := h
  have S := sc_made_board
  refine ⟨_, (pss_cons (ps_if (PW.pt (pw_or (pt_cmpR op_lt (pe_callB call_len_seq rfl T.m_len PySem.boot_len (pa_cons (pv 0) pa_nil se_nam)) pe_int (nomark _)) (pw_or1 (pt_cmpR op_gt (pe_callB call_len_seq rfl T.m_len PySem.boot_len (pa_cons (pv 0) pa_nil se_nam)) (pe_glob rfl T.m_MOST_CORNERS T.r_MOST_CORNERS) (nomark _)))))
    pss_never
    pss_nil)
    (pss_cons (ps_if (pt_val (pe_callD d_in_line (hr.mono (by decide)) rfl pass0 (pa_cons (pe_ix ix_list (pv 0) pe_int (fun _ _ => rfl)) (pa_cons (pe_ix ix_list (pv 0) pe_int (fun _ _ => rfl)) (pa_cons (pe_ix ix_list (pv 0) pe_int (fun _ _ => rfl)) pa_nil se_sub) se_sub) se_sub)))
    pss_never
    pss_nil)
    (pss_cons (ps_set (i := 1) S.nd rfl (Or.inl rfl) (pe_callD d_plane_through (hr.mono (by decide)) rfl pass0 (pa_cons (pe_ix ix_list (pv 0) pe_int (fun _ _ => rfl)) (pa_cons (pe_ix ix_list (pv 0) pe_int (fun _ _ => rfl)) (pa_cons (pe_ix ix_list (pv 0) pe_int (fun _ _ => rfl)) pa_nil se_sub) se_sub) se_sub)))
    (pss_cons (ps_for PassesOwn.never rfl (pi_list (pv 0)) (pg_name (i := 2) S.nd rfl (Or.inl rfl))
    (pss_one (ps_if (pt_cmpR op_ne (pe_callD d_side_of (hr.mono (by decide)) rfl pass0 (pa_cons (pv 1) (pa_cons (pv 2) pa_nil se_nam) se_nam)) pe_int (nomark _))
    pss_never
    pss_nil)))
    (pss_cons (ps_if (pt_not (pt_val (pe_callD d_is_convex (hr.mono (by decide)) rfl pass0 (pa_cons (pv 0) (pa_cons (pe_callD d_flat_axis (hr.mono (by decide)) rfl pass0 (pa_cons (pv 1) pa_nil se_nam)) pa_nil se_cal) se_nam))))
    pss_never
    pss_nil)
    (pss_one (ps_ret (pe_callD d_formed (hr.mono (by decide)) rfl pass0 (pa_cons (pv 0) pa_nil se_nam))))))))), ?_⟩
  have n3 := B.n3
  have n8 := B.n8
  have ln := hc.2.len
  have lm : (rs.map V.ref).length = ps.length := by rw [List.length_map, ln]
  have kl : SqL K H l (rs.map V.ref) := SqL.of hc.1
  obtain ⟨a1, a2⟩ := hc.2.get (i := 0) (by omega)
  obtain ⟨a3, a4⟩ := hc.2.get (i := 1) (by omega)
  obtain ⟨a5, a6⟩ := hc.2.get (i := 2) (by omega)
  obtain ⟨m0, m1, m2, m3⟩ := minor_sm a2.2 a4.2 a6.2
  obtain ⟨x, y, z, v, ep, sx, sy, sz, sv, g1', pb, hz⟩ := pln_facts (a := minor 0 (pt ps 0) (pt ps 1) (pt ps 2)) (b := -minor 1 (pt ps 0) (pt ps 1) (pt ps 2)) (c := minor 2 (pt ps 0) (pt ps 1) (pt ps 2)) (d := minor 3 (pt ps 0) (pt ps 1) (pt ps 2)) (fun z => B.na ⟨z.1, by omega, z.2.2⟩) m0 m1.neg m2 m3
  obtain ⟨nx, ny, nz⟩ := pln_nz ep
  have er : rgh (pt ps 0) (pt ps 1) (pt ps 2) = [minor 0 (pt ps 0) (pt ps 1) (pt ps 2), -minor 1 (pt ps 0) (pt ps 1) (pt ps 2), minor 2 (pt ps 0) (pt ps 1) (pt ps 2), minor 3 (pt ps 0) (pt ps 1) (pt ps 2)] := rfl
  walk_at "rf"
  refine ⟨_, .inl kl, ?_⟩
  rw [lm, if_neg (by omega)]
  refine ⟨_, .inl kl, ?_⟩
  rw [lm, if_neg (by omega)]
  refine ixL kl (atI_nat (j := 0) a1) (ixL kl (atI_nat (j := 1) a3) (ixL kl (atI_nat (j := 2) a5) ?_))
  refine ⟨_, _, _, _, _, _, rfl, a2, a4, a6, fun H1 s1 => ?_⟩
  rw [inl_na B.na]
  have kl1 := s1.seq kl
  walk_at "rf"
  refine ixL kl1 (atI_nat (j := 0) a1) (ixL kl1 (atI_nat (j := 1) a3) (ixL kl1 (atI_nat (j := 2) a5) ?_))
  refine ⟨_, _, _, _, _, _, rfl, a2.keep s1, a4.keep s1, a6.keep s1, B.na, fun g H2 s2 e2 => ?_⟩
  rw [er, ep] at e2
  have s12 := s1.trans s2
  have kl2 := s12.seq kl
  try walk_at "rf"
  refine ⟨⟨_, kl2⟩, ?_⟩
  refine for_list (K := K) (a := l) (xs := rs.map V.ref) (fun i σ H3 => H3 = H2 ∧ ∃ o2 : Option V, σ = [some (.ref l), some (.ref g), o2]) ⟨rfl, none, rfl⟩ (fun i σ H3 _ ⟨h, _⟩ => by rw [h]; exact kl2) ?_ ?_
  · rintro i r σ H3 hi ⟨rfl, o2, rfl⟩
    have hlt : i < ps.length := by
      have := (List.getElem?_eq_some_iff.mp hi).1
      omega
    obtain ⟨b1, b2⟩ := (hc.2.keep s12.t).get hlt
    rw [b1] at hi
    cases hi
    walk_at "rf"
    refine ⟨g, _, x, y, z, v, _, rfl, e2, sx, sy, sz, sv, b2, ?_⟩
    rw [hz _ (B.flat i hlt)]
    walk_at "rf"
    rw [if_pos sgn0]
    exact ⟨_, rfl⟩
  · rintro σ H3 ⟨rfl, o2, rfl⟩
    walk_at "rf"
    refine ⟨g, x, y, z, v, rfl, e2, plb_nz pb, fun k hk => ?_⟩
    have kk : 0 ≤ k ∧ k ≤ 2 ∧ minor k (pt ps 0) (pt ps 1) (pt ps 2) ≠ 0 := by
      rcases hk with ⟨rfl, h⟩ | ⟨rfl, _, h⟩ | ⟨rfl, _, _, h⟩
      · exact ⟨by decide, by decide, nx h⟩
      · exact ⟨by decide, by decide, fun e => ny h (by omega)⟩
      · exact ⟨by decide, by decide, nz h⟩
    refine ⟨l, k, rs, ps, rfl, hc.keep s12, n3, n8, kk.1, kk.2.1, B.rnd k kk.1 kk.2.1 kk.2.2, fun H4 s4 => ?_⟩
    walk_at "rf"
    refine ⟨l, rs, ps, rfl, hc.keep (s12.trans s4), n3, n8, fun t H5 s5 e5 => ?_⟩
    exact q t H5 (s12.trans (s4.trans s5)) e5
structure Tri where
  x : Int
  y : Int
  z : Int
def Tri.bd (n : Nat) (v : Tri) : Prop := Bd n v.x ∧ Bd n v.y ∧ Bd n v.z
structure Sht where
  s : Tri
  w : Int
  c : Tri
  d : Tri
/-- the box: a list with one number -/
def Box (H : Hp) (L : Addr) : Prop := ∃ m : Int, H L = some (.lst [.int m])
theorem SameB.t {L : Addr} {H H' : Hp} (s : SameB L H H') (h : Box H L) : SameT H H' := fun b xs hb => by
  by_cases e : b = L
  · obtain ⟨m, hm⟩ := h
    rw [e, hm] at hb
    cases hb
  · exact s b _ e hb
theorem Bd.div {n : Nat} {i g : Int} (h : Bd n i) : Bd n (i / g) := Nat.lt_of_le_of_lt (Int.natAbs_ediv_le_natAbs i g) h
def w3 (Z : Sht) : Int := Z.w * Z.w * Z.w
theorem rot_pt {l : List Pt} {f i : Nat} (hf : f < l.length) (hi : i < l.length) : pt (rot f l) i = pt l ((f + i) % l.length) := by
  unfold pt rot
  rw [List.getD_eq_getElem?_getD, List.getD_eq_getElem?_getD]
  by_cases c : f + i < l.length
  · rw [Nat.mod_eq_of_lt c, List.getElem?_append_left (by rw [List.length_drop]; omega), List.getElem?_drop]
  · have e : (f + i) % l.length = f + i - l.length := by
      rw [Nat.mod_eq_sub_mod (by omega)]
      exact Nat.mod_eq_of_lt (by omega)
    rw [e, List.getElem?_append_right (by rw [List.length_drop]; omega), List.length_drop, List.getElem?_take, if_pos (by omega)]
    congr 2
    omega
theorem pt_mem {l : List Pt} {i : Nat} (h : i < l.length) : pt l i ∈ l := by
  unfold pt
  rw [List.getD_eq_getElem?_getD, List.getElem?_eq_getElem h]
  exact List.getElem_mem h
theorem mem_pt {l : List Pt} {p : Pt} (h : p ∈ l) : ∃ i, i < l.length ∧ pt l i = p := by
  obtain ⟨i, hi, e⟩ := List.mem_iff_getElem.mp h
  refine ⟨i, hi, ?_⟩
  unfold pt
  rw [List.getD_eq_getElem?_getD, List.getElem?_eq_getElem hi]
  exact e
theorem ix1 : ∀ n, n < 9 → ∀ a, a < n → ∀ f, f < n → ∀ i, i < n → (a + (f + i) % n) % n = ((a + f) % n + i) % n ∧ (a + (n - (f + i) % n)) % n = ((a + (n - f)) % n + (n - i)) % n := by decide +kernel
theorem ix2 : ∀ n, n < 9 → ∀ a, a < n → ∀ i, i < n → (a + (n - i) % n) % n = (a + (n - i)) % n ∧ (a + (n - (n - i) % n)) % n = (a + i) % n := by decide +kernel
theorem ix3 : ∀ n, n < 9 → ∀ a, a < n → ∀ i, i < n → (a + (n - 1 - i)) % n = ((a + (n - 1)) % n + (n - i)) % n ∧ (a + (n - (n - 1 - i))) % n = ((a + 1) % n + i) % n := by decide +kernel
theorem ix4 : ∀ n, n < 9 → ∀ a, a < n → ∀ i, i < n → (a + (i + (n - a)) % n) % n = i ∧ (a + (n - (a + (n - i)) % n)) % n = i := by decide +kernel
/-- the same ring, begun elsewhere or told the other way round -/
def Dih (ps qs : List Pt) : Prop := qs.length = ps.length ∧ ∃ a, a < ps.length ∧ ((∀ i, i < ps.length → pt qs i = pt ps ((a + i) % ps.length)) ∨ (∀ i, i < ps.length → pt qs i = pt ps ((a + (ps.length - i)) % ps.length)))
theorem Dih.refl {ps : List Pt} (h : 3 ≤ ps.length) : Dih ps ps := ⟨rfl, 0, by omega, .inl fun i hi => by rw [Nat.zero_add, Nat.mod_eq_of_lt hi]⟩
theorem Dih.rot {ps qs : List Pt} (d : Dih ps qs) (n8 : ps.length ≤ 8) {f : Nat} (hf : f < ps.length) : Dih ps (rot f qs) := by
  obtain ⟨hl, a, ha, d⟩ := d
  have rp : ∀ i, i < ps.length → pt (My.rot f qs) i = pt qs ((f + i) % ps.length) := fun i hi => by rw [rot_pt (by omega) (by omega), hl]
  have m : ∀ i, (f + i) % ps.length < ps.length := fun i => Nat.mod_lt _ (by omega)
  refine ⟨by rw [rot_len (by omega), hl], ?_⟩
  rcases d with d | d
  · refine ⟨(a + f) % ps.length, Nat.mod_lt _ (by omega), .inl fun i hi => ?_⟩
    rw [rp i hi, d _ (m i), (ix1 _ (by omega) a ha f hf i hi).1]
  · refine ⟨(a + (ps.length - f)) % ps.length, Nat.mod_lt _ (by omega), .inr fun i hi => ?_⟩
    rw [rp i hi, d _ (m i), (ix1 _ (by omega) a ha f hf i hi).2]
theorem turn_at {l : List Pt} {i : Nat} (hi : i < l.length) : pt (turn true l) i = pt l ((l.length - i) % l.length) := by
  match l, hi with
  | x :: r, hi =>
    have e : turn true (x :: r) = x :: r.reverse := rfl
    rw [e]
    cases i with
    | zero => rw [Nat.sub_zero, Nat.mod_self]; rfl
    | succ j =>
      have hj : j < r.length := by simpa using hi
      have e2 : ((x :: r).length - (j + 1)) % (x :: r).length = r.length - 1 - j + 1 := by
        rw [List.length_cons, Nat.mod_eq_of_lt (by omega)]
        omega
      rw [e2]
      unfold pt
      rw [List.getD_eq_getElem?_getD, List.getD_eq_getElem?_getD, List.getElem?_cons_succ, List.getElem?_cons_succ, List.getElem?_reverse hj]
theorem turn_len {l : List Pt} (b : Bool) : (turn b l).length = l.length := by
  unfold turn
  cases b
  · rfl
  · rw [if_pos rfl, List.length_append, List.length_reverse, List.length_take, List.length_drop]
    omega
theorem Dih.turn {ps qs : List Pt} (d : Dih ps qs) (n8 : ps.length ≤ 8) (b : Bool) : Dih ps (turn b qs) := by
  cases b with
  | false => exact d
  | true =>
    obtain ⟨hl, a, ha, d⟩ := d
    refine ⟨by rw [turn_len, hl], a, ha, ?_⟩
    have tp : ∀ i, i < ps.length → pt (My.turn true qs) i = pt qs ((ps.length - i) % ps.length) := fun i hi => by rw [turn_at (by omega), hl]
    have m : ∀ i, (ps.length - i) % ps.length < ps.length := fun i => Nat.mod_lt _ (by omega)
    rcases d with d | d
    · exact .inr fun i hi => by rw [tp i hi, d _ (m i), (ix2 _ (by omega) a ha i hi).1]
    · exact .inl fun i hi => by rw [tp i hi, d _ (m i), (ix2 _ (by omega) a ha i hi).2]
theorem rev_at {l : List Pt} {i : Nat} (hi : i < l.length) : pt l.reverse i = pt l (l.length - 1 - i) := by
  unfold pt
  rw [List.getD_eq_getElem?_getD, List.getD_eq_getElem?_getD, List.getElem?_reverse hi]
theorem Dih.rev {ps qs : List Pt} (d : Dih ps qs) (n8 : ps.length ≤ 8) : Dih ps qs.reverse := by
  obtain ⟨hl, a, ha, d⟩ := d
  refine ⟨by rw [List.length_reverse, hl], ?_⟩
  have tp : ∀ i, i < ps.length → pt qs.reverse i = pt qs (ps.length - 1 - i) := fun i hi => by rw [rev_at (by omega), hl]
  rcases d with d | d
  · exact ⟨(a + (ps.length - 1)) % ps.length, Nat.mod_lt _ (by omega), .inr fun i hi => by rw [tp i hi, d _ (by omega), (ix3 _ (by omega) a ha i hi).1]⟩
  · exact ⟨(a + 1) % ps.length, Nat.mod_lt _ (by omega), .inl fun i hi => by rw [tp i hi, d _ (by omega), (ix3 _ (by omega) a ha i hi).2]⟩
theorem fF_lt {ps : List Pt} (h : 3 ≤ ps.length) : fF ps < ps.length := by have := argF_le ps (ps.length - 1); unfold fF; omega
theorem Dih.frm {ps qs : List Pt} (d : Dih ps qs) (n3 : 3 ≤ ps.length) (n8 : ps.length ≤ 8) : Dih ps (frm qs qs) :=
  (d.rot n8 (by have := fF_lt (ps := qs) (by rw [d.1]; exact n3); rw [d.1] at this; exact this)).turn n8 _
theorem Dih.mem {ps qs : List Pt} (d : Dih ps qs) (n8 : ps.length ≤ 8) {p : Pt} : p ∈ qs ↔ p ∈ ps := by
  obtain ⟨hl, a, ha, d⟩ := d
  constructor
  · intro h
    obtain ⟨i, hi, rfl⟩ := mem_pt h
    rcases d with d | d
    · rw [d i (by omega)]
      exact pt_mem (Nat.mod_lt _ (by omega))
    · rw [d i (by omega)]
      exact pt_mem (Nat.mod_lt _ (by omega))
  · intro h
    obtain ⟨i, hi, rfl⟩ := mem_pt h
    rcases d with d | d
    · have z := d ((i + (ps.length - a)) % ps.length) (Nat.mod_lt _ (by omega))
      rw [(ix4 _ (by omega) a ha i hi).1] at z
      rw [← z]
      exact pt_mem (by rw [hl]; exact Nat.mod_lt _ (by omega))
    · have z := d ((a + (ps.length - i)) % ps.length) (Nat.mod_lt _ (by omega))
      rw [(ix4 _ (by omega) a ha i hi).2] at z
      rw [← z]
      exact pt_mem (by rw [hl]; exact Nat.mod_lt _ (by omega))
theorem third {n i j : Nat} (h : 3 ≤ n) : ∃ k, k < n ∧ j ≠ k ∧ i ≠ k := by
  by_cases h0 : i = 0 ∨ j = 0
  · by_cases h1 : i = 1 ∨ j = 1
    · exact ⟨2, by omega, by omega, by omega⟩
    · exact ⟨1, by omega, by omega, by omega⟩
  · exact ⟨0, by omega, by omega, by omega⟩
theorem ok_planeof (T : Tx K mg t1 t2) (F : At K mg "plane_of" s_plane_of ["board"] []) (d_plane_through : DefOk P w K mg base CX0 5 "plane_through" ["one", "other", "third"] [] spThrough) : DefOk P w K mg base CX0 6 "plane_of" ["board"] [] spPlaneOf := by
  refine F.ok sc_plane_of (fun vs H Q E h => ?_) (fun f cdv A outer s H vs Q E hr h => ?_)
  · obtain ⟨t, rs, ps, rfl, _⟩ := h
    rfl
  obtain ⟨t, rs, ps, rfl, ht, hc, n3, na, q⟩ := h
  have S := sc_plane_of
  refine ⟨_, (pss_one (ps_ret (pe_callD d_plane_through (hr.mono (by decide)) rfl pass0 (pa_cons (pe_ix ix_tup (pv 0) pe_int (fun _ _ => rfl)) (pa_cons (pe_ix ix_tup (pv 0) pe_int (fun _ _ => rfl)) (pa_cons (pe_ix ix_tup (pv 0) pe_int (fun _ _ => rfl)) pa_nil se_sub) se_sub) se_sub)))), ?_⟩
  have kt : SqT K H t (rs.map V.ref) := SqT.of ht
  obtain ⟨a1, a2⟩ := hc.get (i := 0) (by omega)
  obtain ⟨a3, a4⟩ := hc.get (i := 1) (by omega)
  obtain ⟨a5, a6⟩ := hc.get (i := 2) (by omega)
  walk_at "rf"
  refine ixT kt (atI_nat (j := 0) a1) (ixT kt (atI_nat (j := 1) a3) (ixT kt (atI_nat (j := 2) a5) ?_))
  exact ⟨_, _, _, _, _, _, rfl, a2, a4, a6, na, q⟩
def red (t b : Int) : Int × Int := (t / (Int.gcd t b : Nat), b / (Int.gcd t b : Nat))
def nf (t b : Int) : Int × Int := if b < 0 then red (-t) (-b) else red t b
theorem red_facts {t b : Int} (hb : 0 < b) : 1 ≤ (red t b).2 ∧ Int.gcd (red t b).1 (red t b).2 = 1 ∧ (red t b).1 * b = t * (red t b).2 ∧ (red t b).1.natAbs ≤ t.natAbs ∧ (red t b).2.natAbs ≤ b.natAbs := by
  have eg := gl_two t b
  have z := div_pos_of (ns := [t, b]) (n := b) (by simp) hb
  have gp := gl_pos (ns := [t, b]) (n := b) (by simp) (by omega)
  have g1 : gl [t / gl [t, b], b / gl [t, b]] = 1 := gl_div (ns := [t, b]) (by omega)
  have p1 := parts (ns := [t, b]) (a := t) (b := b) (by simp) (by simp)
  rw [gl_two (t / gl [t, b]) (b / gl [t, b])] at g1
  rw [eg] at z g1 p1
  have g2 : Int.gcd (t / (Int.gcd t b : Nat)) (b / (Int.gcd t b : Nat)) = 1 := by omega
  exact ⟨z, g2, p1, Int.natAbs_ediv_le_natAbs .., Int.natAbs_ediv_le_natAbs ..⟩
theorem nf_facts {t b : Int} (hb : b ≠ 0) : 1 ≤ (nf t b).2 ∧ Int.gcd (nf t b).1 (nf t b).2 = 1 ∧ (nf t b).1 * b = t * (nf t b).2 ∧ (nf t b).1.natAbs ≤ t.natAbs ∧ (nf t b).2.natAbs ≤ b.natAbs := by
  by_cases c : b < 0
  · have e : nf t b = red (-t) (-b) := if_pos c
    obtain ⟨a1, a2, a3, a4, a5⟩ := red_facts (t := -t) (b := -b) (by omega)
    rw [e]
    refine ⟨a1, a2, ?_, by omega, by omega⟩
    rw [Int.mul_neg, Int.neg_mul] at a3
    exact Int.neg_inj.mp a3
  · have e : nf t b = red t b := if_neg c
    rw [e]
    exact red_facts (by omega)
def At2 (H : Hp) (r : Addr) (p : Int × Int) : Prop := H r = some (.tup [.int p.1, .int p.2])
def spFr : Sp := fun vs H Q _ => ∃ t b : Int, vs = [.int t, .int b] ∧ Small t ∧ Small b ∧ b ≠ 0 ∧ ∀ (r : Addr) (H' : Hp), Same H H' → At2 H' r (nf t b) → Q (.ref r) H'
theorem ok_frac (T : Tx K mg t1 t2) (F : At K mg "fraction" s_fraction ["top", "bottom"] []) (d_in_lowest_terms : DefOk P w K mg base CX0 2 "in_lowest_terms" ["numbers"] [] spLow) : DefOk P w K mg base CX0 3 "fraction" ["top", "bottom"] [] spFr := by
  refine F.ok sc_fraction (fun vs H Q E h => ?_) (fun f cdv A outer s H vs Q E hr h => ?_)
  · obtain ⟨a, b, rfl, _⟩ := h
    rfl
  obtain ⟨a, b, rfl, ha, hb, hb0, q⟩ := h
  have S := sc_fraction
  refine ⟨_, (pss_cons (ps_if (pt_cmpR op_eq (pv 1) pe_int (nomark _))
    pss_never
    pss_nil)
    (pss_cons (ps_if (pt_cmpR op_lt (pv 1) pe_int (nomark _))
    (pss_one (ps_ret (pe_callD d_in_lowest_terms (hr.mono (by decide)) rfl pass0 (pa_cons (pe_tup (pa_cons (pe_un un_neg (pv 0)) (pa_cons (pe_un un_neg (pv 1)) pa_nil se_un) se_un)) pa_nil se_tup))))
    pss_nil)
    (pss_one (ps_ret (pe_callD d_in_lowest_terms (hr.mono (by decide)) rfl pass0 (pa_cons (pe_tup (pa_cons (pv 0) (pa_cons (pv 1) pa_nil se_nam) se_nam)) pa_nil se_tup)))))), ?_⟩
  walk_at "rf"
  rw [if_neg hb0]
  have two : ∀ {i j : Int}, Small i → Small j → ∀ n ∈ [i, j], Small n := fun hi hj n hn => by
    rcases List.mem_cons.mp hn with rfl | hn
    · exact hi
    · rw [List.mem_singleton] at hn; subst hn; exact hj
  refine ite2 (fun c1 => ?_) fun c1 => ?_
  · have en : nf a b = red (-a) (-b) := if_pos c1
    rw [en] at q
    refine ⟨by decide, fun p hp => ?_⟩
    refine ⟨p, [-a, -b], rfl, upd_same, by simp, two ha.neg hb.neg, ?_, fun r H' h1 h2 => q r H' ((Same.new hp _).trans h1) ?_⟩
    · have := gl_pos (ns := [-a, -b]) (n := -b) (by simp) (by omega)
      omega
    · rw [gl_two] at h2
      exact h2
  · have en : nf a b = red a b := if_neg c1
    rw [en] at q
    refine ⟨by decide, fun p hp => ?_⟩
    refine ⟨p, [a, b], rfl, upd_same, by simp, two ha hb, ?_, fun r H' h1 h2 => q r H' ((Same.new hp _).trans h1) ?_⟩
    · have := gl_pos (ns := [a, b]) (n := b) (by simp) (by omega)
      omega
    · rw [gl_two] at h2
      exact h2
def ab (n : Int) : Int := if n < 0 then -n else n
def spMSpot : Sp := fun vs H Q _ => ∃ x y z w : Int, vs = [.int x, .int y, .int z, .int w] ∧ Small x ∧ Small y ∧ Small z ∧ Small w ∧ 0 < w ∧ ∀ (r : Addr) (H' : Hp), Same H H' → H' r = some (.tup ((low [x, y, z, w]).map V.int)) → Q (.ref r) H'
theorem ok_mspot (T : Tx K mg t1 t2) (F : At K mg "made_spot" s_made_spot ["x", "y", "z", "w"] []) (d_in_lowest_terms : DefOk P w K mg base CX0 2 "in_lowest_terms" ["numbers"] [] spLow) : DefOk P w K mg base CX0 3 "made_spot" ["x", "y", "z", "w"] [] spMSpot := by
  refine F.ok sc_made_spot (fun vs H Q E h => ?_) (fun f cdv A outer s H vs Q E hr h => ?_)
  · obtain ⟨x, y, z, w, rfl, _⟩ := h
    rfl
  obtain ⟨x, y, z, w, rfl, sx, sy, sz, sw, w0, q⟩ := h
  have S := sc_made_spot
  refine ⟨_, (pss_cons (ps_if (pt_cmpR op_eq (pv 3) pe_int (nomark _))
    pss_never
    pss_nil)
    (pss_cons (ps_if (pt_cmpR op_lt (pv 3) pe_int (nomark _))
    (pss_one (ps_ret (pe_callD d_in_lowest_terms (hr.mono (by decide)) rfl pass0 (pa_cons (pe_tup (pa_cons (pe_un un_neg (pv 0)) (pa_cons (pe_un un_neg (pv 1)) (pa_cons (pe_un un_neg (pv 2)) (pa_cons (pe_un un_neg (pv 3)) pa_nil se_un) se_un) se_un) se_un)) pa_nil se_tup))))
    pss_nil)
    (pss_one (ps_ret (pe_callD d_in_lowest_terms (hr.mono (by decide)) rfl pass0 (pa_cons (pe_tup (pa_cons (pv 0) (pa_cons (pv 1) (pa_cons (pv 2) (pa_cons (pv 3) pa_nil se_nam) se_nam) se_nam) se_nam)) pa_nil se_tup)))))), ?_⟩
  walk_at "rf"
  rw [if_neg (show ¬ w = 0 by omega), if_neg (show ¬ w < 0 by omega)]
  refine ⟨by decide, fun p hp => ?_⟩
  refine ⟨p, [x, y, z, w], rfl, upd_same, by simp, mem4 sx sy sz sw, ?_, fun r H' h1 h2 => q r H' ((Same.new hp _).trans h1) h2⟩
  have := gl_pos (ns := [x, y, z, w]) (n := w) (by simp) (by omega)
  omega
def c2 (v v' : Tri) : Int := v.x * v'.y - v.y * v'.x
/-- the corners' crosses over one bottom -/
def xc (C : Nat → Int) (c : Nat → Tri) (i j : Nat) : Int := C i * C j * ((c i).x * (c j).y - (c i).y * (c j).x)
/-- a common bottom of the first n corners -/
def pz (c : Nat → Tri) : Nat → Int
  | 0 => 1
  | n + 1 => pz c n * (c n).z
theorem gcd_mod (a b : Int) : Int.gcd b (a % b) = Int.gcd a b := by
  have h1 : ((Int.gcd b (a % b) : Nat) : Int) ∣ (Int.gcd a b : Nat) := Int.dvd_coe_gcd (by
    have z : ((Int.gcd b (a % b) : Nat) : Int) ∣ b * (a / b) + a % b := Int.dvd_add (Int.dvd_trans (Int.gcd_dvd_left ..) (Int.dvd_mul_right _ _)) (Int.gcd_dvd_right ..)
    rw [Int.mul_ediv_add_emod] at z
    exact z) (Int.gcd_dvd_left ..)
  have h2 : ((Int.gcd a b : Nat) : Int) ∣ (Int.gcd b (a % b) : Nat) := Int.dvd_coe_gcd (Int.gcd_dvd_right ..) (by
    rw [Int.emod_def]
    exact Int.dvd_sub (Int.gcd_dvd_left ..) (Int.dvd_trans (Int.gcd_dvd_right ..) (Int.dvd_mul_right _ _)))
  exact Nat.dvd_antisymm (Int.natCast_dvd_natCast.mp h1) (Int.natCast_dvd_natCast.mp h2)

def PBox (H : Hp) (L : Addr) : Prop := ∃ xs : List Int, H L = some (.lst (xs.map V.int)) ∧ 1 ≤ xs.length ∧ xs.length ≤ 2
theorem SameB.tp {L : Addr} {H H' : Hp} (s : SameB L H H') (h : PBox H L) : SameT H H' := fun b xs hb => by
  by_cases e : b = L
  · obtain ⟨r, hm, _⟩ := h
    rw [e, hm] at hb
    cases hb
  · exact s b _ e hb
theorem PBox.same {H H' : Hp} {L : Addr} (h : PBox H L) (s : Same H H') : PBox H' L := by
  obtain ⟨xs, h1, h2⟩ := h
  exact ⟨xs, s _ _ h1, h2⟩
theorem PBox.ne {H : Hp} {L a : Addr} (h : PBox H L) (n : H a = none) : a ≠ L := by
  obtain ⟨xs, h1, h2⟩ := h
  exact Ne.symm (ne_of_none h1 n)
theorem PBox.one {H : Hp} {L : Addr} {a : Int} (h : H L = some (.lst [.int a])) : PBox H L := ⟨[a], h, Nat.le_refl _, Nat.le_succ _⟩
theorem PBox.two {H : Hp} {L : Addr} {a b : Int} (h : H L = some (.lst [.int a, .int b])) : PBox H L := ⟨[a, b], h, Nat.le_succ _, Nat.le_refl _⟩
def spTake : Sp := fun vs H Q _ => ∃ (L : Addr) (n : Int), vs = [.ref L, .int n] ∧ PBox H L ∧ 0 < n ∧ n < 2 ^ 60 ∧ ∀ (H' : Hp) (d : Int), SameB L H H' → PBox H' L → 0 ≤ d → d < n → Q (.int d) H'
def spPot : Sp := fun vs H Q _ => ∃ (c k : Int), vs = [.int c, .int k] ∧ 0 ≤ k ∧ k < 70 ∧ ∀ (L : Addr) (H' : Hp), H L = none → Same H H' → PBox H' L → Q (.ref L) H'
def spNumber : Sp := fun vs H Q _ => ∃ (L : Addr) (g : Bool), vs = [.ref L, .bl g] ∧ PBox H L ∧ ∀ (H' : Hp) (d : Int), SameB L H H' → PBox H' L → Bd 20 d → Q (.int d) H'
theorem ok_take (T : Tx K mg t1 t2) (F : At K mg "_law_take" s__law_take ["pot", "many"] []) : DefOk P w K mg base CX0 1 "_law_take" ["pot", "many"] [] spTake := by
  refine F.ok sc__law_take (fun vs H Q E h => ?_) (fun f cdv A outer s H vs Q E hr h => ?_)
  · obtain ⟨L, n, rfl, _⟩ := h
    rfl
  obtain ⟨L, n, rfl, ⟨xs, hL, l1, l2⟩, n0, n60, q⟩ := h
  have S := sc__law_take
  refine ⟨_, (pss_cons (ps_set (i := 2) S.nd rfl (Or.inl rfl) (pe_op op_mod (pe_ix ix_list (pv 0) (pe_un un_neg pe_int) (fun _ _ => rfl)) (pv 1)))
    (pss_cons (ps_asg (pe_op op_fdivB (pe_ix ix_list (pv 0) (pe_un un_neg pe_int) (fun _ _ => rfl)) (pv 1)) (pg_sub (pv 0) (pe_un un_neg pe_int) set_list))
    (pss_cons (ps_if (PW.pt (pw_and (pt_cmpR op_eq (pe_ix ix_list (pv 0) (pe_un un_neg pe_int) (fun _ _ => rfl)) pe_int (nomark _)) (pw_and1 (pt_cmpR op_gt (pe_callB call_len_seq rfl T.m_len PySem.boot_len (pa_cons (pv 0) pa_nil se_nam)) pe_int (nomark _)))))
    (pss_one (ps_expr (pe_bm0 PySem.F.plainAttrs_list PySem.F.slot_list_pop PySem.F.type_list_pop mt_pop (pv 0))))
    pss_nil)
    (pss_one (ps_ret (pv 2)))))), ?_⟩
  have fn : Fit n := Bd.fit (n := 61) (by unfold Bd; omega)
  try walk_at "rf"
  match xs, l1, l2, hL with
  | [a], _, _, hL =>
    have a1 := Int.emod_nonneg a (show n ≠ 0 by omega)
    have a2 := Int.emod_lt_of_pos a n0
    have k1 : SqL K H L [.int a] := SqL.of hL
    refine ixL k1 (i := -1) rfl ⟨_, rfl, n0, ixL k1 (i := -1) rfl ⟨_, rfl, n0, fn, ?_⟩⟩
    unfold gSub
    try walk_at "rf"
    refine ⟨L, _, -1, 0, rfl, rfl, hL, rfl, ?_⟩
    have e1 : upd H L (.lst (([a].map V.int).set 0 (.int (a / n)))) L = some (.lst [.int (a / n)]) := upd_same
    have s1 : SameB L H (upd H L (.lst (([a].map V.int).set 0 (.int (a / n))))) := SameB.set
    generalize upd H L (.lst (([a].map V.int).set 0 (.int (a / n)))) = H1 at e1 s1 ⊢
    refine ixL (SqL.of e1) (i := -1) rfl ?_
    try walk_at "rf"
    have fin := q H1 (a % n) s1 (PBox.one e1) a1 a2
    by_cases c : a / n = 0
    · rw [if_pos c]
      exact ⟨_, .inl (SqL.of e1), by rw [if_neg (by simp)]; exact fin⟩
    · rw [if_neg c]
      exact fin
  | [a, b], _, _, hL =>
    have a1 := Int.emod_nonneg b (show n ≠ 0 by omega)
    have a2 := Int.emod_lt_of_pos b n0
    have k1 : SqL K H L [.int a, .int b] := SqL.of hL
    refine ixL k1 (i := -1) rfl ⟨_, rfl, n0, ixL k1 (i := -1) rfl ⟨_, rfl, n0, fn, ?_⟩⟩
    unfold gSub
    try walk_at "rf"
    refine ⟨L, _, -1, 1, rfl, rfl, hL, rfl, ?_⟩
    have e1 : upd H L (.lst (([a, b].map V.int).set 1 (.int (b / n)))) L = some (.lst [.int a, .int (b / n)]) := upd_same
    have s1 : SameB L H (upd H L (.lst (([a, b].map V.int).set 1 (.int (b / n))))) := SameB.set
    generalize upd H L (.lst (([a, b].map V.int).set 1 (.int (b / n)))) = H1 at e1 s1 ⊢
    refine ixL (SqL.of e1) (i := -1) rfl ?_
    try walk_at "rf"
    by_cases c : b / n = 0
    · rw [if_pos c]
      refine ⟨_, .inl (SqL.of e1), ?_⟩
      rw [if_pos (by simp)]
      exact ⟨.inl ⟨_, SqL.of e1⟩, L, _, _, rfl, rfl, e1, rfl, q _ (b % n) (s1.trans SameB.set) (PBox.one upd_same) a1 a2⟩
    · rw [if_neg c]
      exact q H1 (b % n) s1 (PBox.two e1) a1 a2
theorem ok_number (T : Tx K mg t1 t2) (F : At K mg "_law_number" s__law_number ["pot", "great"] []) (d__law_take : DefOk P w K mg base CX0 1 "_law_take" ["pot", "many"] [] spTake) : DefOk P w K mg base CX0 2 "_law_number" ["pot", "great"] [] spNumber := by
  refine F.ok sc__law_number (fun vs H Q E h => ?_) (fun f cdv A outer s H vs Q E hr h => ?_)
  · obtain ⟨L, n, rfl, _⟩ := h
    rfl
  obtain ⟨L, g, rfl, hL, q⟩ := h
  have S := sc__law_number
  refine ⟨_, (pss_cons (ps_if (pt_val (pv 1))
    (pss_one (ps_ret (pe_op op_sub (pe_callD d__law_take (hr.mono (by decide)) rfl pass0 (pa_cons (pv 0) (pa_cons (pe_op op_add (pe_op op_mulB pe_int (pe_op op_pow pe_int pe_int)) pe_int) pa_nil se_bin) se_nam)) (pe_op op_pow pe_int pe_int))))
    pss_nil)
    (pss_one (ps_ret (pe_op op_sub (pe_callD d__law_take (hr.mono (by decide)) rfl pass0 (pa_cons (pv 0) (pa_cons pe_int pa_nil se_con) se_nam)) pe_int)))), ?_⟩
  try walk_at "rf"
  have cp : CPow 10 6 := ⟨by decide, by decide, by decide⟩
  have e6 : (10 : Int) ^ Int.toNat 6 = 1000000 := by decide
  cases g
  · rw [if_neg (by decide)]
    exact ⟨L, 13, rfl, hL, by decide, by decide, fun H1 d s1 b1 d0 d1 => ⟨d, rfl, q H1 _ s1 b1 (by unfold Bd; omega)⟩⟩
  · rw [if_pos rfl, e6]
    refine ⟨cp, Bd.fit (n := 3) (by unfold Bd; decide), Bd.fit (n := 20) (by unfold Bd; decide), L, 2000001, rfl, hL, by decide, by decide, fun H1 d s1 b1 d0 d1 => ⟨cp, d, rfl, q H1 _ s1 b1 (by unfold Bd; omega)⟩⟩
theorem ok_pot (T : Tx K mg t1 t2) (F : At K mg "_law_pot" s__law_pot ["cell", "k"] []) : DefOk P w K mg base CX0 1 "_law_pot" ["cell", "k"] [] spPot := by
  refine F.ok sc__law_pot (fun vs H Q E h => ?_) (fun f cdv A outer s H vs Q E hr h => ?_)
  · obtain ⟨L, n, rfl, _⟩ := h
    rfl
  obtain ⟨c, k, rfl, k0, k64, q⟩ := h
  have S := sc__law_pot
  refine ⟨_, (pss_cons (ps_set (i := 2) S.nd rfl (Or.inl rfl) (pe_op op_mod (pe_op op_add (pv 0) (pe_op op_mulB pe_int (pe_op op_add (pv 1) pe_int))) pe_int))
    (pss_cons (ps_set (i := 3) S.nd rfl (Or.inl rfl) (pe_lst (pa_cons pe_int pa_nil se_con)))
    (pss_cons (ps_for PassesOwn.never rfl (pi_range1 rfl T.m_range (pa_cons pe_int pa_nil se_con)) (pg_name (i := 4) S.nd rfl (Or.inl rfl))
    (pss_cons (ps_set (i := 2) S.nd rfl (Or.inl rfl) (pe_op op_mod (pe_op op_add (pe_op op_add (pe_op op_add (pe_op op_mulB (pv 2) (pv 2)) (pe_op op_mulB pe_int (pv 2))) (pe_op op_mulB pe_int (pv 4))) (pv 1)) pe_int))
    (pss_one (ps_asg (pe_op op_add (pe_op op_mulB (pe_ix ix_list (pv 3) pe_int (fun _ _ => rfl)) pe_int) (pv 2)) (pg_sub (pv 3) pe_int set_list)))))
    (pss_cons (ps_if (pt_cmpR op_ge (pv 0) (pe_op op_pow pe_int pe_int) (nomark _))
    (pss_one (ps_expr (pe_bm PySem.F.plainAttrs_list PySem.F.slot_list_append PySem.F.type_list_append mt_append (pv 3) (pa_cons (pv 0) pa_nil se_nam))))
    pss_nil)
    (pss_one (ps_ret (pv 3))))))), ?_⟩
  try walk_at "rf"
  refine ⟨Bd.fit (n := 13) (by unfold Bd; decide), Bd.fit (n := 8) (by unfold Bd; omega), by decide, by decide, fun p hp => ⟨by decide, by decide, ?_⟩⟩
  have s0 := Same.new hp (.lst [V.int 0])
  have e0 : upd H p (.lst [V.int 0]) p = some (.lst [V.int 0]) := upd_same
  generalize upd H p (.lst [V.int 0]) = H0 at s0 e0 ⊢
  have m0 := Int.emod_nonneg (c + 7919 * (k + 1)) (show (2147483647 : Int) ≠ 0 by decide)
  have m1 := Int.emod_lt_of_pos (c + 7919 * (k + 1)) (show (0 : Int) < 2147483647 by decide)
  generalize (c + 7919 * (k + 1)) % 2147483647 = m at m0 m1 ⊢
  refine for_range (lo := 0) (n := 12) (fun i σ J => Same H J ∧ ∃ (m v : Int) (o : Option V), σ = [some (.int c), some (.int k), some (.int m), some (.ref p), o] ∧ 0 ≤ m ∧ m < 2147483647 ∧ J p = some (.lst [.int v]) ∧ Bd (32 * i) v) ⟨s0, m, 0, none, rfl, m0, m1, e0, by unfold Bd; decide⟩ ?_ ?_
  · rintro i σ J hi ⟨sJ, m, v, o, rfl, m0, m1, eJ, bv⟩
    try walk_at "rf"
    have fm : Fit m := Bd.fit (n := 32) (by unfold Bd; omega)
    have n0 := Int.emod_nonneg (m * m + 48271 * m + 3 * (0 + (i : Int)) + k) (show (2147483629 : Int) ≠ 0 by decide)
    have n1 := Int.emod_lt_of_pos (m * m + 48271 * m + 3 * (0 + (i : Int)) + k) (show (0 : Int) < 2147483629 by decide)
    generalize (m * m + 48271 * m + 3 * (0 + (i : Int)) + k) % 2147483629 = m' at n0 n1 ⊢
    have fv : Fit v := Bd.fit (Bd.mono bv (m := 384) (by omega)) (by decide)
    refine ⟨fm, fm, Bd.fit (n := 17) (by unfold Bd; decide), fm, Bd.fit (n := 3) (by unfold Bd; decide), Bd.fit (n := 8) (by unfold Bd; omega), by decide, ixL (SqL.of eJ) (i := 0) rfl ⟨_, rfl, fv, Bd.fit (n := 32) (by unfold Bd; decide), ?_⟩⟩
    unfold gSub
    try walk_at "rf"
    have b1 : Bd (32 * (i + 1)) (v * 2147483629 + m') := by
      have z := Bd.add (n := 32 * i + 31) (Bd.mul bv (show Bd 31 2147483629 by unfold Bd; decide)) (Bd.mono (n := 31) (show Bd 31 m' by unfold Bd; omega) (by omega))
      exact z
    refine ⟨p, _, 0, 0, rfl, rfl, eJ, rfl, sJ.keepN hp _, n0, by omega, _, upd_same, b1⟩
  · rintro σ J ⟨sJ, m, v, o, rfl, m0, m1, eJ, bv⟩
    try walk_at "rf"
    refine ⟨⟨by decide, by decide, by decide⟩, ?_⟩
    by_cases c1 : 10 ^ Int.toNat 18 ≤ c
    · rw [if_pos c1]
      exact FoR.app eJ (lt_line (show 1 < 1000 by decide)) (q p _ hp (sJ.keepN hp _) (PBox.two upd_same))
    · rw [if_neg c1]
      exact q p _ hp sJ (PBox.one eJ)
theorem ixN_nat {n i : Nat} (h : i < n) : ixN n (i : Int) = some i := by
  unfold ixN
  simp [h]
theorem compRpB {L : Addr} {te : TE} {acc : Addr} {ρ : L2.St} {H1 : Hp} {Z : Hp → Prop} {lo : Int} {n : Nat} (p : Nat → V → Prop) (hn : n < 1000) (hacc : H1 acc = none) (b0 : PBox H1 L)
    (hs : ∀ (i : Nat) (H3 : Hp) (R : V → Hp → Prop), i < n → SameB L H1 H3 → PBox H3 L → (∀ y H4, SameB L H3 H4 → PBox H4 L → p i y → R y H4) → te (some (.int (lo + i)) :: ρ) H3 R)
    (hd : ∀ ys H', SameB L H1 H' → PBox H' L → H' acc = some (.lst ys) → ys.length = n → (∀ i y, ys[i]? = some y → p i y) → Z H') : CompGo (Itr lo n) ρ (gName 0) tNoIf te acc Z H1 := by
  have ne := b0.ne hacc
  have up : ∀ {H : Hp} {xs : List V}, PBox H L → PBox (upd H acc (.lst xs)) L := fun {H xs} ⟨ys, h1, h2⟩ => ⟨ys, by rw [upd_ne (Ne.symm ne)]; exact h1, h2⟩
  refine comp_range (fun i xs H => SameB L H1 H ∧ PBox H L ∧ H acc = some (.lst xs) ∧ xs.length = i ∧ ∀ j y, xs[j]? = some y → p j y) ⟨(Same.new hacc _).b, up b0, upd_same, rfl, fun j y h => by simp at h⟩ ?_ ?_
  · rintro i xs H hi ⟨g1, gb, g2, hl, hp⟩
    refine hs i H _ hi g1 gb fun y H4 s4 b4 py => ⟨s4 _ _ ne g2, lt_line (by omega), (g1.trans s4).acc hacc, up b4, upd_same, ?_, fun j z hz => ?_⟩
    · rw [List.length_append, hl]
      rfl
    · by_cases cj : j < xs.length
      · rw [List.getElem?_append_left cj] at hz
        exact hp j z hz
      · have ej : j = xs.length := by
          have := (List.getElem?_eq_some_iff.mp hz).1
          rw [List.length_append, List.length_singleton] at this
          omega
        subst ej
        rw [List.getElem?_append_right (Nat.le_refl _), Nat.sub_self] at hz
        cases hz
        rw [hl]
        exact py
  · rintro xs H ⟨g1, gb, g2, hl, hp⟩
    exact hd xs H g1 gb g2 hl hp
theorem three {ys : List V} {p : V → Prop} (hl : ys.length = 3) (h : ∀ (i : Nat) y, ys[i]? = some y → ∃ d : Int, y = .int d ∧ Bd 20 d) : ∃ a b c : Int, ys = [.int a, .int b, .int c] ∧ Bd 20 a ∧ Bd 20 b ∧ Bd 20 c := by
  match ys, hl with
  | [x, y, z], _ =>
    obtain ⟨a, rfl, ha⟩ := h 0 x rfl
    obtain ⟨b, rfl, hb⟩ := h 1 y rfl
    obtain ⟨c, rfl, hc⟩ := h 2 z rfl
    exact ⟨a, b, c, rfl, ha, hb, hc⟩
def Is3 (n : Nat) (H : Hp) (r : Addr) (a b c : Int) : Prop := H r = some (.tup [.int a, .int b, .int c]) ∧ Bd n a ∧ Bd n b ∧ Bd n c
def Sb (n : Nat) (p : Pt) : Prop := Bd n p.x ∧ Bd n p.y ∧ Bd n p.z ∧ 1 ≤ p.w ∧ p.w ≤ 3
def spSpot : Sp := fun vs H Q _ => ∃ (L : Addr) (g : Bool), vs = [.ref L, .bl g] ∧ PBox H L ∧ ∀ (r : Addr) (H' : Hp) (p : Pt), SameB L H H' → PBox H' L → Is4 H' r p → Sb 20 p → Q (.ref r) H'
def spArrow : Sp := fun vs H Q _ => ∃ (L : Addr) (g : Bool), vs = [.ref L, .bl g] ∧ PBox H L ∧ ∀ (r : Addr) (H' : Hp) (a b c : Int), SameB L H H' → PBox H' L → Is3 20 H' r a b c → Q (.ref r) H'
def spOther : Sp := fun vs H Q _ => ∃ (L l : Addr) (g : Bool) (x y z : Int), vs = [.ref L, .bl g, .ref l] ∧ PBox H L ∧ Is3 20 H l x y z ∧ ∀ (r : Addr) (H' : Hp) (a b c : Int), SameB L H H' → PBox H' L → Is3 20 H' r a b c → Q (.ref r) H'
def spCr : Sp := fun vs H Q _ => ∃ (r e : Addr) (a b c x y z : Int), vs = [.ref r, .ref e] ∧ Is3 100 H r a b c ∧ Is3 100 H e x y z ∧ ∀ (g : Addr) (H' : Hp), Same H H' → H' g = some (.tup [.int (b * z - c * y), .int (c * x - a * z), .int (a * y - b * x)]) → Q (.ref g) H'
def spDot : Sp := fun vs H Q _ => ∃ (r e : Addr) (a b c x y z : Int), vs = [.ref r, .ref e] ∧ Is3 300 H r a b c ∧ Is3 300 H e x y z ∧ Q (.int (a * x + b * y + c * z)) H
def spWay : Sp := fun vs H Q _ => ∃ (r e : Addr) (p o : Pt), vs = [.ref r, .ref e] ∧ Is4 H r p ∧ Is4 H e o ∧ ∀ (g : Addr) (H' : Hp), Same H H' → H' g = some (.tup [.int (o.x * p.w - p.x * o.w), .int (o.y * p.w - p.y * o.w), .int (o.z * p.w - p.z * o.w)]) → Q (.ref g) H'
theorem low_pt {x y z w : Int} (w0 : 0 < w) : ∃ p : Pt, low [x, y, z, w] = [p.x, p.y, p.z, p.w] ∧ 1 ≤ p.w ∧ gl [p.x, p.y, p.z, p.w] = 1 ∧ p.x * w = x * p.w ∧ p.y * w = y * p.w ∧ p.z * w = z * p.w ∧ p.x.natAbs ≤ x.natAbs ∧ p.y.natAbs ≤ y.natAbs ∧ p.z.natAbs ≤ z.natAbs ∧ p.w ≤ w := by
  have hp := gl_pos (ns := [x, y, z, w]) (n := w) (by simp) (by omega)
  refine ⟨⟨x / gl [x, y, z, w], y / gl [x, y, z, w], z / gl [x, y, z, w], w / gl [x, y, z, w]⟩, rfl, div_pos_of (ns := [x, y, z, w]) (by simp) w0, gl_div (ns := [x, y, z, w]) (by omega), parts (by simp) (by simp), parts (by simp) (by simp), parts (by simp) (by simp), Int.natAbs_ediv_le_natAbs .., Int.natAbs_ediv_le_natAbs .., Int.natAbs_ediv_le_natAbs .., Int.ediv_le_self _ (by omega)⟩
theorem ok_spot (T : Tx K mg t1 t2) (F : At K mg "_law_spot" s__law_spot ["pot", "great"] []) (d__law_take : DefOk P w K mg base CX0 1 "_law_take" ["pot", "many"] [] spTake) (d__law_number : DefOk P w K mg base CX0 2 "_law_number" ["pot", "great"] [] spNumber) (d_made_spot : DefOk P w K mg base CX0 3 "made_spot" ["x", "y", "z", "w"] [] spMSpot) : DefOk P w K mg base CX0 4 "_law_spot" ["pot", "great"] [] spSpot := by
  refine F.ok sc__law_spot (fun vs H Q E h => ?_) (fun f cdv A outer s H vs Q E hr h => ?_)
  · obtain ⟨L, n, rfl, _⟩ := h
    rfl
  obtain ⟨L, g, rfl, hL, q⟩ := h
  have S := sc__law_spot
  refine ⟨_, (pss_cons (ps_setComp (i := 2) rfl S.nd rfl rfl (N' := ["k", "pot", "great"]) (ix := [0, 1]) ⟨rfl, rfl, by decide +kernel, by decide +kernel, rfl, by decide +kernel, (show ∀ y : Str × NameKind, y ∈ _ → y.2 = NameKind.free → (defScope s__law_spot).names.lookup y.1 = some .cell ∨ (defScope s__law_spot).names.lookup y.1 = some .free from by decide +kernel), (.cons rfl (.inl rfl) rfl (.cons rfl (.inl rfl) rfl .nil))⟩ (pi_range1 rfl T.m_range (pa_cons pe_int pa_nil se_con)) (fun _ _ _ _ => pg_name (i := 0) (show (["k", "pot", "great"] : List Str).Nodup from by decide +kernel) rfl (Or.inl rfl)) (fun _ _ _ _ => pts_nil) (fun _ _ _ _ => (pe_callD d__law_number (hr.mono (by decide)) rfl pass0 (pa_cons (pv 1) (pa_cons (pv 2) pa_nil se_nam) se_nam))))
    (pss_one (ps_ret (pe_callD d_made_spot (hr.mono (by decide)) rfl pass0 (pa_cons (pe_ix ix_list (pv 2) pe_int (fun _ _ => rfl)) (pa_cons (pe_ix ix_list (pv 2) pe_int (fun _ _ => rfl)) (pa_cons (pe_ix ix_list (pv 2) pe_int (fun _ _ => rfl)) (pa_cons (pe_op op_add pe_int (pe_callD d__law_take (hr.mono (by decide)) rfl pass0 (pa_cons (pv 0) (pa_cons pe_int pa_nil se_con) se_nam))) pa_nil se_bin) se_sub) se_sub) se_sub))))), ?_⟩
  try walk_at "rf"
  refine ⟨by decide, by decide, fun acc hacc => compRpB (L := L) (n := 3) (fun _ y => ∃ d : Int, y = .int d ∧ Bd 20 d) (by decide) hacc hL (fun i H3 R hi s3 b3 hR => ?_) fun ys H1 s1 b1 e1 l1 p1 => ?_⟩
  · walk_at "rf"
    exact ⟨L, g, rfl, b3, fun H4 d s4 b4 hd => hR _ _ s4 b4 ⟨d, rfl, hd⟩⟩
  obtain ⟨a, b, c, rfl, ha, hb, hc⟩ := three (p := fun _ => True) l1 p1
  have k1 : SqL K H1 acc [.int a, .int b, .int c] := SqL.of e1
  have q0 : ∀ {n : Int}, Bd 20 n → Small n := fun {n} h => Bd.mono (n := 20) h
  refine ixL k1 (i := 0) rfl (ixL k1 (i := 1) rfl (ixL k1 (i := 2) rfl ?_))
  refine ⟨L, 3, rfl, b1, by decide, by decide, fun H2 d s2 b2 d0 d1 => ?_⟩
  try walk_at "rf"
  refine ⟨a, b, c, 1 + d, rfl, q0 ha, q0 hb, q0 hc, q0 (show Bd 20 (1 + d) by unfold Bd; omega), by omega, fun r H3 s3 e3 => ?_⟩
  obtain ⟨p, ep, p1, p2, p3, p4, p5, p6, p7, p8, p9⟩ := low_pt (x := a) (y := b) (z := c) (w := 1 + d) (by omega)
  rw [ep] at e3
  have Bx : Bd 20 p.x := Nat.lt_of_le_of_lt p6 ha
  have By : Bd 20 p.y := Nat.lt_of_le_of_lt p7 hb
  have Bz : Bd 20 p.z := Nat.lt_of_le_of_lt p8 hc
  have Bw : Bd 20 p.w := by unfold Bd; omega
  exact q r H3 p (s1.trans (s2.trans s3.b)) (b2.same s3) ⟨e3, Bd.mono Bx, Bd.mono By, Bd.mono Bz, Bd.mono Bw⟩ ⟨Bx, By, Bz, p1, by omega⟩
theorem ok_cr (T : Tx K mg t1 t2) (F : At K mg "_law_cross" s__law_cross ["one", "other"] []) : DefOk P w K mg base CX0 1 "_law_cross" ["one", "other"] [] spCr := by
  refine F.ok sc__law_cross (fun vs H Q E h => ?_) (fun f cdv A outer s H vs Q E hr h => ?_)
  · obtain ⟨r, e, a, b, c, x, y, z, rfl, _⟩ := h
    rfl
  obtain ⟨r, e, a, b, c, x, y, z, rfl, ⟨h1, a1, a2, a3⟩, ⟨h2, b1, b2, b3⟩, q⟩ := h
  have S := sc__law_cross
  refine ⟨_, (pss_cons (ps_asg (pv 0) (pg_tup rfl (pgs_cons (pg_name (i := 2) S.nd rfl (Or.inl rfl)) (pgs_cons (pg_name (i := 3) S.nd rfl (Or.inl rfl)) (pgs_cons (pg_name (i := 4) S.nd rfl (Or.inl rfl)) pgs_nil)))))
    (pss_cons (ps_asg (pv 1) (pg_tup rfl (pgs_cons (pg_name (i := 5) S.nd rfl (Or.inl rfl)) (pgs_cons (pg_name (i := 6) S.nd rfl (Or.inl rfl)) (pgs_cons (pg_name (i := 7) S.nd rfl (Or.inl rfl)) pgs_nil)))))
    (pss_one (ps_ret (pe_tup (pa_cons (pe_op op_sub (pe_op op_mulB (pv 3) (pv 7)) (pe_op op_mulB (pv 4) (pv 6))) (pa_cons (pe_op op_sub (pe_op op_mulB (pv 4) (pv 5)) (pe_op op_mulB (pv 2) (pv 7))) (pa_cons (pe_op op_sub (pe_op op_mulB (pv 2) (pv 6)) (pe_op op_mulB (pv 3) (pv 5))) pa_nil se_bin) se_bin) se_bin)))))), ?_⟩
  have k1 : SqT K H r [.int a, .int b, .int c] := SqT.of h1
  have k2 : SqT K H e [.int x, .int y, .int z] := SqT.of h2
  have f1 : Fit a := a1.fit
  have f2 : Fit b := a2.fit
  have f3 : Fit c := a3.fit
  have f4 : Fit x := b1.fit
  have f5 : Fit y := b2.fit
  have f6 : Fit z := b3.fit
  try walk_at "rf"
  refine ⟨_, k1, rfl, _, _, rfl, _, _, rfl, _, _, rfl, rfl, _, k2, rfl, _, _, rfl, _, _, rfl, _, _, rfl, rfl, ?_⟩
  walk_at "gf"
  exact fun p hp => q p _ (Same.new hp _) upd_same
theorem ok_dot (T : Tx K mg t1 t2) (F : At K mg "_law_dot" s__law_dot ["one", "other"] []) : DefOk P w K mg base CX0 1 "_law_dot" ["one", "other"] [] spDot := by
  refine F.ok sc__law_dot (fun vs H Q E h => ?_) (fun f cdv A outer s H vs Q E hr h => ?_)
  · obtain ⟨r, e, a, b, c, x, y, z, rfl, _⟩ := h
    rfl
  obtain ⟨r, e, a, b, c, x, y, z, rfl, ⟨h1, a1, a2, a3⟩, ⟨h2, b1, b2, b3⟩, q⟩ := h
  have S := sc__law_dot
  refine ⟨_, (pss_one (ps_ret (pe_op op_add (pe_op op_add (pe_op op_mulB (pe_ix ix_tup (pv 0) pe_int (fun _ _ => rfl)) (pe_ix ix_tup (pv 1) pe_int (fun _ _ => rfl))) (pe_op op_mulB (pe_ix ix_tup (pv 0) pe_int (fun _ _ => rfl)) (pe_ix ix_tup (pv 1) pe_int (fun _ _ => rfl)))) (pe_op op_mulB (pe_ix ix_tup (pv 0) pe_int (fun _ _ => rfl)) (pe_ix ix_tup (pv 1) pe_int (fun _ _ => rfl)))))), ?_⟩
  have k1 : SqT K H r [.int a, .int b, .int c] := SqT.of h1
  have k2 : SqT K H e [.int x, .int y, .int z] := SqT.of h2
  have f1 : Fit a := a1.fit
  have f2 : Fit b := a2.fit
  have f3 : Fit c := a3.fit
  have f4 : Fit x := b1.fit
  have f5 : Fit y := b2.fit
  have f6 : Fit z := b3.fit
  try walk_at "rf"
  walk_at "gf"
  exact q
theorem ok_way (T : Tx K mg t1 t2) (F : At K mg "_law_way" s__law_way ["one", "other"] []) : DefOk P w K mg base CX0 1 "_law_way" ["one", "other"] [] spWay := by
  refine F.ok sc__law_way (fun vs H Q E h => ?_) (fun f cdv A outer s H vs Q E hr h => ?_)
  · obtain ⟨r, e, p, o, rfl, _⟩ := h
    rfl
  obtain ⟨r, e, p, o, rfl, hp, ho, q⟩ := h
  have S := sc__law_way
  refine ⟨_, (pss_one (ps_ret (pe_callTy call_tuple_of rfl T.m_tuple boot_tuple (pa_cons (pe_comp rfl (N' := ["k", "other", "one"]) (ix := [1, 0]) ⟨rfl, rfl, by decide +kernel, by decide +kernel, rfl, by decide +kernel, (show ∀ y : Str × NameKind, y ∈ _ → y.2 = NameKind.free → (defScope s__law_way).names.lookup y.1 = some .cell ∨ (defScope s__law_way).names.lookup y.1 = some .free from by decide +kernel), (.cons rfl (.inl rfl) rfl (.cons rfl (.inl rfl) rfl .nil))⟩ (pi_range1 rfl T.m_range (pa_cons pe_int pa_nil se_con)) (fun _ _ _ _ => pg_name (i := 0) (show (["k", "other", "one"] : List Str).Nodup from by decide +kernel) rfl (Or.inl rfl)) (fun _ _ _ _ => pts_nil) (fun _ _ _ _ => (pe_op op_sub (pe_op op_mulB (pe_ix (ix_tupK (K := K) rfl) (pv 1) (pv 0) (fun _ _ => rfl)) (pe_ix (ix_tupK (K := K) rfl) (pv 2) pe_int (fun _ _ => rfl))) (pe_op op_mulB (pe_ix (ix_tupK (K := K) rfl) (pv 2) (pv 0) (fun _ _ => rfl)) (pe_ix (ix_tupK (K := K) rfl) (pv 1) pe_int (fun _ _ => rfl)))))) pa_nil se_cmp)))), ?_⟩
  try walk_at "rf"
  refine ⟨by decide, by decide, fun acc hacc => compR (n := 3) (fun i => .int ([o.x * p.w - p.x * o.w, o.y * p.w - p.y * o.w, o.z * p.w - p.z * o.w].getD i 0)) (by decide) hacc (fun i H3 R hi s3 hR => ?_) fun H1 s1 e1 => ?_⟩
  · have k1 := (hp.keep s3).sq (K := K)
    have k2 := (ho.keep s3).sq (K := K)
    have g1 := hp.2.fx
    have g2 := hp.2.fy
    have g3 := hp.2.fz
    have g4 := hp.2.fw
    have g5 := ho.2.fx
    have g6 := ho.2.fy
    have g7 := ho.2.fz
    have g8 := ho.2.fw
    have hRR := hR H3 (fun _ _ z => z)
    match i, hi, hRR with
    | 0, _, hRR => walk_at "rf"; walk_at "gf"; exact hRR
    | 1, _, hRR => walk_at "rf"; walk_at "gf"; exact hRR
    | 2, _, hRR => walk_at "rf"; walk_at "gf"; exact hRR
  exact ⟨_, .inl ⟨SqL.of e1, fun l hl => q l _ (s1.trans (Same.new hl _)) upd_same⟩⟩
def spLFrac : Sp := fun vs H Q _ => ∃ (n : Nat) (t b : Int), vs = [.int t, .int b] ∧ 0 < b ∧ n ≤ 1000 ∧ Bd n t ∧ Bd n b ∧ ∀ (g : Addr) (H' : Hp) (t' b' : Int), Same H H' → H' g = some (.tup [.int t', .int b']) → Bd n t' → Bd n b' → 0 < b' → (Int.gcd b t = 1 → t' = t ∧ b' = b) → Q (.ref g) H'
def Fr (H : Hp) (g : Addr) : Prop := ∃ t b : Int, H g = some (.tup [.int t, .int b]) ∧ Bd 40 t ∧ Bd 40 b ∧ 0 < b
theorem Fr.keep {H H' : Hp} {g : Addr} (h : Fr H g) (s : SameT H H') : Fr H' g := by
  obtain ⟨t, b, h1, h2⟩ := h
  exact ⟨t, b, s _ _ h1, h2⟩
def spPlace : Sp := fun vs H Q _ => ∃ L : Addr, vs = [.ref L] ∧ PBox H L ∧ ∀ (g u v : Addr) (H' : Hp), SameB L H H' → PBox H' L → H' g = some (.tup [.ref u, .ref v]) → Fr H' u → Fr H' v → Q (.ref g) H'
theorem ok_lfrac (T : Tx K mg t1 t2) (F : At K mg "_law_fraction" s__law_fraction ["top", "bottom"] []) : DefOk P w K mg base CX0 1 "_law_fraction" ["top", "bottom"] [] spLFrac := by
  refine F.ok sc__law_fraction (fun vs H Q E h => ?_) (fun f cdv A outer s H vs Q E hr h => ?_)
  · obtain ⟨n, t, b, rfl, _⟩ := h
    rfl
  obtain ⟨nn, t, b, rfl, b0, n1, bt, bb, q⟩ := h
  have S := sc__law_fraction
  refine ⟨_, (pss_cons (ps_set (i := 2) S.nd rfl (Or.inl rfl) (pe_callB call_abs rfl T.m_abs boot_abs (pa_cons (pv 0) pa_nil se_nam)))
    (pss_cons (ps_set (i := 3) S.nd rfl (Or.inl rfl) (pv 1))
    (pss_cons (ps_while PassesOwn.never (pt_cmpR op_gt (pv 2) pe_int (nomark _))
    (pss_one (ps_par (i := 3) (j := 2) rfl S.nd rfl rfl (by decide) rfl rfl (pa_cons (pv 2) (pa_cons (pe_op op_mod (pv 3) (pv 2)) pa_nil se_bin) se_nam) rfl)))
    (pss_one (ps_ret (pe_tup (pa_cons (pe_op op_fdivB (pv 0) (pv 3)) (pa_cons (pe_op op_fdivB (pv 1) (pv 3)) pa_nil se_bin) se_bin))))))), ?_⟩
  try walk_at "rf"
  refine ⟨fun n σ H3 => H3 = H ∧ ∃ (a c : Int), σ = [some (.int t), some (.int b), some (.int c), some (.int a)] ∧ 0 ≤ c ∧ 0 ≤ a ∧ Int.gcd a c = Int.gcd b t ∧ n = c.toNat, ⟨_, rfl, b, _, rfl, by split <;> omega, by omega, ?_, rfl⟩, ?_⟩
  · have : ((if t < 0 then -t else t : Int)) = t ∨ (if t < 0 then -t else t : Int) = -t := by split <;> simp
    rcases this with e | e
    · rw [e]
    · rw [e, Int.gcd_neg]
  rintro n σ H3 ⟨rfl, a, c, rfl, hc, ha, hg, rfl⟩
  try walk_at "rf"
  by_cases c0 : 0 < c
  · rw [if_pos c0]
    have b1 := Int.emod_nonneg a (show c ≠ 0 by omega)
    have b2 := Int.emod_lt_of_pos a c0
    have ge := gcd_mod a c
    exact ⟨fun σ' H' => σ' = [some (.int t), some (.int b), some (.int (a % c)), some (.int c)] ∧ H' = H3, fun σ' H' ⟨h1, h2⟩ => ⟨(a % c).toNat, by omega, h2, c, a % c, h1, b1, hc, ge.trans hg, rfl⟩, c0, rfl, rfl⟩
  · rw [if_neg c0]
    have c1 : c = 0 := by omega
    subst c1
    rw [Int.gcd_zero_right] at hg
    have gp : 0 < Int.gcd b t := Int.gcd_pos_of_ne_zero_left t (by omega)
    have ga : a = (Int.gcd b t : Nat) := by omega
    have gd : (a : Int) ∣ b := by rw [ga]; exact Int.gcd_dvd_left ..
    have gl' : a ≤ b := Int.le_of_dvd b0 gd
    have fa : Fit a := Bd.fit (n := nn) (Nat.lt_of_le_of_lt (by omega) bb) (Nat.le_trans n1 (by decide))
    have a0 : 0 < a := by omega
    have bp : 0 < b / a := by
      obtain ⟨k, hk⟩ := gd
      rw [hk, Int.mul_ediv_cancel_left _ (by omega)]
      rcases Int.lt_or_le 0 k with h | h
      · exact h
      · have := Int.mul_nonneg (show 0 ≤ a by omega) (show 0 ≤ -k by omega)
        rw [Int.mul_neg] at this
        omega
    exact ⟨a0, fa, a0, fa, by decide, fun p hp => q p _ _ _ (Same.new hp _) upd_same (Nat.lt_of_le_of_lt (Int.natAbs_ediv_le_natAbs ..) bt) (Nat.lt_of_le_of_lt (Int.natAbs_ediv_le_natAbs ..) bb) bp fun h => by rw [ga, h]; simp⟩
theorem ok_place (T : Tx K mg t1 t2) (F : At K mg "_law_place" s__law_place ["pot"] []) (d__law_take : DefOk P w K mg base CX0 1 "_law_take" ["pot", "many"] [] spTake) (d__law_fraction : DefOk P w K mg base CX0 1 "_law_fraction" ["top", "bottom"] [] spLFrac) : DefOk P w K mg base CX0 2 "_law_place" ["pot"] [] spPlace := by
  refine F.ok sc__law_place (fun vs H Q E h => ?_) (fun f cdv A outer s H vs Q E hr h => ?_)
  · obtain ⟨L, rfl, _⟩ := h
    rfl
  obtain ⟨L, rfl, hL, q⟩ := h
  have S := sc__law_place
  refine ⟨_, (pss_cons (ps_set (i := 1) S.nd rfl (Or.inl rfl) (pe_callD d__law_take (hr.mono (by decide)) rfl pass0 (pa_cons (pv 0) (pa_cons pe_int pa_nil se_con) se_nam)))
    (pss_cons (ps_set (i := 2) S.nd rfl (Or.inl rfl) (pe_lst pa_nil))
    (pss_cons (ps_for PassesOwn.never rfl (pi_range1 rfl T.m_range (pa_cons pe_int pa_nil se_con)) (pg_name (i := 3) S.nd rfl (Or.inl rfl))
    (pss_cons (ps_set (i := 4) S.nd rfl (Or.inl rfl) (pe_op op_add pe_int (pe_callD d__law_take (hr.mono (by decide)) rfl pass0 (pa_cons (pv 0) (pa_cons (pe_ix ix_list (pe_lst (pa_cons pe_int (pa_cons pe_int (pa_cons pe_int (pa_cons (pe_op op_pow pe_int pe_int) pa_nil se_bin) se_con) se_con) se_con)) (pv 1) (fun _ _ => rfl)) pa_nil se_sub) se_nam))))
    (pss_cons (ps_expr (pe_bm PySem.F.plainAttrs_list PySem.F.slot_list_append PySem.F.type_list_append mt_append (pv 2) (pa_cons (pe_callD d__law_fraction (hr.mono (by decide)) rfl pass0 (pa_cons (pe_callD d__law_take (hr.mono (by decide)) rfl pass0 (pa_cons (pv 0) (pa_cons (pe_op op_add (pv 4) pe_int) pa_nil se_bin) se_nam)) (pa_cons (pv 4) pa_nil se_nam) se_cal)) pa_nil se_cal)))
    (pss_one (ps_if (PW.pt (pw_and (pt_cmpR op_eq (pv 1) pe_int (nomark _)) (pw_and1 (pt_cmpR op_eq (pe_callD d__law_take (hr.mono (by decide)) rfl pass0 (pa_cons (pv 0) (pa_cons pe_int pa_nil se_con) se_nam)) pe_int (nomark _)))))
    (pss_one (ps_asg (pe_callD d__law_fraction (hr.mono (by decide)) rfl pass0 (pa_cons (pe_op op_sub (pe_callD d__law_take (hr.mono (by decide)) rfl pass0 (pa_cons (pv 0) (pa_cons (pe_op op_pow pe_int pe_int) pa_nil se_bin) se_nam)) (pe_op op_mulB pe_int (pe_op op_pow pe_int pe_int))) (pa_cons (pv 4) pa_nil se_nam) se_bin)) (pg_sub (pv 2) (pv 3) set_list)))
    pss_nil)))))
    (pss_one (ps_ret (pe_tup (pa_cons (pe_ix ix_list (pv 2) pe_int (fun _ _ => rfl)) (pa_cons (pe_ix ix_list (pv 2) pe_int (fun _ _ => rfl)) pa_nil se_sub) se_sub))))))), ?_⟩
  try walk_at "rf"
  refine ⟨L, 4, rfl, hL, by decide, by decide, fun H1 d s1 b1 d0 d1 => ?_⟩
  try walk_at "rf"
  refine ⟨by decide, fun fg hfg => ⟨by decide, by decide, ?_⟩⟩
  have s2 := Same.new hfg (.lst [])
  have e2 : upd H1 fg (.lst []) fg = some (.lst (([] : List Addr).map V.ref)) := upd_same
  have nL := b1.ne hfg
  have hH : ∀ a : Addr, a ≠ L → H1 a = none → H a = none := fun a n h => SameB.none s1 n h
  have b2 := b1.same s2
  generalize upd H1 fg (.lst []) = H2 at s2 e2 b2 ⊢
  refine for_range (lo := 0) (n := 2) (fun i σ J => SameB L H J ∧ PBox J L ∧ ∃ (o2 o3 : Option V) (fs : List Addr), σ = [some (.ref L), some (.int d), some (.ref fg), o2, o3] ∧ J fg = some (.lst (fs.map V.ref)) ∧ fs.length = i ∧ ∀ g ∈ fs, Fr J g) ⟨s1.trans s2.b, b2, none, none, [], rfl, e2, rfl, fun j hj => by simp at hj⟩ ?_ ?_
  · rintro i σ J hi ⟨sJ, bJ, o2, o3, fs, rfl, eJ, lf, pf⟩
    try walk_at "rf"
    refine ⟨⟨by decide, by decide, by decide⟩, by decide, fun p hp => ?_⟩
    have s3 := Same.new hp (.lst [V.int 6, V.int 6, V.int 40, V.int (10 ^ Int.toNat 9)])
    have e3 : upd J p (.lst [V.int 6, V.int 6, V.int 40, V.int (10 ^ Int.toNat 9)]) p = some (.lst [V.int 6, V.int 6, V.int 40, V.int (10 ^ Int.toNat 9)]) := upd_same
    generalize upd J p (.lst [V.int 6, V.int 6, V.int 40, V.int (10 ^ Int.toNat 9)]) = J3 at s3 e3 ⊢
    obtain ⟨sp, hsp, sp1, sp2⟩ : ∃ sp : Int, atI [V.int 6, V.int 6, V.int 40, V.int (10 ^ Int.toNat 9)] d = some (.int sp) ∧ 1 ≤ sp ∧ sp ≤ 1000000000 := by
      have e : d = 0 ∨ d = 1 ∨ d = 2 ∨ d = 3 := by omega
      rcases e with rfl | rfl | rfl | rfl
      · exact ⟨6, rfl, by decide, by decide⟩
      · exact ⟨6, rfl, by decide, by decide⟩
      · exact ⟨40, rfl, by decide, by decide⟩
      · exact ⟨10 ^ Int.toNat 9, rfl, by decide, by decide⟩
    refine ixL (SqL.of e3) hsp ⟨L, sp, rfl, bJ.same s3, by omega, by omega, fun J4 x s4 b4 x0 x1 => ⟨x, rfl, .inl ⟨_, SqL.of (s4 _ _ nL (s3 _ _ eJ))⟩, L, _, rfl, b4, by omega, by omega, fun J5 y s5 b5 y0 y1 => ?_⟩⟩
    refine ⟨40, y, 1 + x, rfl, by omega, by decide, by unfold Bd; omega, by unfold Bd; omega, fun g J6 t b s6 e6 bt bb b0 _ => ?_⟩
    have h6 : SameB L J J6 := s3.b.trans (s4.trans (s5.trans s6.b))
    have k6 := h6 _ _ nL eJ
    have b6 := b5.same s6
    refine ⟨fg, _, _, rfl, rfl, k6, lt_line (by rw [List.length_map]; omega), ?_⟩
    have es' : fs.map V.ref ++ [V.ref g] = (fs ++ [g]).map V.ref := by rw [List.map_append]; rfl
    have u7 : SameT J6 (upd J6 fg (.lst (fs.map V.ref ++ [V.ref g]))) := SameT.upd k6
    have t7 : SameT J (upd J6 fg (.lst (fs.map V.ref ++ [V.ref g]))) := (SameB.tp h6 bJ).trans u7
    have e7 : upd J6 fg (.lst (fs.map V.ref ++ [V.ref g])) fg = some (.lst ((fs ++ [g]).map V.ref)) := by rw [← es']; exact upd_same
    have f7 : Fr (upd J6 fg (.lst (fs.map V.ref ++ [V.ref g]))) g := ⟨t, b, u7 _ _ e6, bt, bb, b0⟩
    have b7 : PBox (upd J6 fg (.lst (fs.map V.ref ++ [V.ref g]))) L := by
      obtain ⟨zs, z1, z2⟩ := b6
      exact ⟨zs, by rw [upd_ne (Ne.symm nL)]; exact z1, z2⟩
    have s7 : SameB L H (upd J6 fg (.lst (fs.map V.ref ++ [V.ref g]))) := (sJ.trans h6).acc (hH fg nL hfg)
    have p7 : ∀ g' ∈ fs ++ [g], Fr (upd J6 fg (.lst (fs.map V.ref ++ [V.ref g]))) g' := fun g' hg => by
      rcases List.mem_append.mp hg with h | h
      · exact (pf g' h).keep t7
      · rw [List.mem_singleton] at h; subst h; exact f7
    have l7 : (fs ++ [g]).length = i + 1 := by rw [List.length_append, lf]; rfl
    generalize upd J6 fg (.lst (fs.map V.ref ++ [V.ref g])) = J7 at e7 b7 s7 p7 ⊢
    refine ite2 (fun cd => ?_) fun cd => ?_
    · refine ⟨L, 3, rfl, b7, by decide, by decide, fun J8 z s8 b8 z0 z1 => ⟨rfl, ?_⟩⟩
      have k8 := s8 _ _ nL e7
      have p8 : ∀ g' ∈ fs ++ [g], Fr J8 g' := fun g' hg => (p7 g' hg).keep (SameB.tp s8 b7)
      by_cases cz : V.int z = V.int 0
      · rw [if_pos cz]
        refine ⟨⟨by decide, by decide, by decide⟩, L, _, rfl, b8, by decide, by decide, fun J9 v s9 b9 v0 v1 => ⟨⟨by decide, by decide, by decide⟩, Bd.fit (n := 3) (by unfold Bd; decide), Bd.fit (n := 40) (by unfold Bd; decide), v, rfl, ?_⟩⟩
        have v1' : v < 1000000000000 := v1
        have e11 : (5 : Int) * 10 ^ Int.toNat 11 = 500000000000 := by decide
        rw [e11]
        refine ⟨40, _, 1 + x, rfl, by omega, by decide, by unfold Bd; omega, by unfold Bd; omega, fun g2 Ja t2' b2' sa ea bta bba b0a _ => ?_⟩
        unfold gSub
        try walk_at "rf"
        have ka := sa _ _ (s9 _ _ nL k8)
        have ta : SameT J8 Ja := (SameB.tp s9 b8).trans sa.t
        refine ⟨fg, _, (i : Int), i, rfl, by rw [Int.zero_add], ka, ?_, ?_⟩
        · exact ixN_nat (by rw [List.length_map, l7]; omega)
        · have es9 : ((fs ++ [g]).map V.ref).set i (V.ref g2) = ((fs ++ [g]).set i g2).map V.ref := (List.map_set ..).symm
          have ub : SameT Ja (upd Ja fg (.lst (((fs ++ [g]).map V.ref).set i (V.ref g2)))) := SameT.upd ka
          refine ⟨(s7.trans (s8.trans (s9.trans sa.b))).acc (hH fg nL hfg), ?_, (fs ++ [g]).set i g2, by rw [← es9]; exact upd_same, by rw [List.length_set, l7], fun g' hg => ?_⟩
          · obtain ⟨zs, z1, z2⟩ := b9.same sa
            exact ⟨zs, by rw [upd_ne (Ne.symm nL)]; exact z1, z2⟩
          · rcases List.mem_or_eq_of_mem_set hg with h | h
            · exact (p8 g' h).keep (ta.trans ub)
            · subst h
              exact ⟨_, _, ub _ _ ea, bta, bba, b0a⟩
      · rw [if_neg cz]
        exact ⟨s7.trans s8, b8, fs ++ [g], k8, l7, p8⟩
    · exact ⟨s7, b7, fs ++ [g], e7, l7, p7⟩
  · rintro σ J ⟨sJ, bJ, o2, o3, fs, rfl, eJ, lf, pf⟩
    try walk_at "rf"
    match fs, lf, eJ, pf with
    | [u, v], _, eJ, pf =>
    have kf : SqL K J fg [.ref u, .ref v] := SqL.of eJ
    refine ixL kf (i := 0) rfl (ixL kf (i := 1) rfl ⟨by decide, fun p hp => ?_⟩)
    exact q p u v _ (sJ.trans (Same.new hp _).b) (bJ.same (Same.new hp _)) upd_same ((pf u (by simp)).keep (Same.new hp _).t) ((pf v (by simp)).keep (Same.new hp _).t)
theorem Is3.keep {n : Nat} {H H' : Hp} {r : Addr} {a b c : Int} (h : Is3 n H r a b c) (s : SameT H H') : Is3 n H' r a b c := ⟨s _ _ h.1, h.2⟩
theorem Is4.kt {H H' : Hp} {r : Addr} {p : Pt} (h : Is4 H r p) (s : SameT H H') : Is4 H' r p := ⟨s _ _ h.1, h.2⟩
def Lw (p : Pt) : Prop := Bd 70 p.x ∧ Bd 70 p.y ∧ Bd 70 p.z ∧ Bd 70 p.w ∧ 1 ≤ p.w
theorem Sb.lw {p : Pt} (h : Sb 20 p) : Lw p := ⟨Bd.mono h.1, Bd.mono h.2.1, Bd.mono h.2.2.1, by have := h.2.2.2; unfold Bd; omega, h.2.2.2.1⟩
def spAlong : Sp := fun vs H Q _ => ∃ (r : Addr) (a b c : Int), vs = [.ref r] ∧ Is3 50 H r a b c ∧ ∀ (g : Addr) (H' : Hp), Same H H' → Is4 H' g ⟨a, b, c, 0⟩ → Q (.ref g) H'
theorem ok_ht (T : Tx K mg t1 t2) (F : At K mg "height_over" s_height_over ["plane", "spot"] []) : DefOk P w K mg base CX0 1 "height_over" ["plane", "spot"] [] spHt := by
  refine F.ok sc_height_over (fun vs H Q E h => ?_) (fun f cdv A outer s H vs Q E hr h => ?_)
  · obtain ⟨r, e, a, b, c, d, p, rfl, _⟩ := h
    rfl
  obtain ⟨r, e, a, b, c, d, p, rfl, h1, a1, a2, a3, a4, hp, q⟩ := h
  have S := sc_height_over
  refine ⟨_, (pss_one (ps_ret (pe_op op_sub (pe_op op_add (pe_op op_add (pe_op op_mulB (pe_ix ix_tup (pv 0) pe_int (fun _ _ => rfl)) (pe_ix ix_tup (pv 1) pe_int (fun _ _ => rfl))) (pe_op op_mulB (pe_ix ix_tup (pv 0) pe_int (fun _ _ => rfl)) (pe_ix ix_tup (pv 1) pe_int (fun _ _ => rfl)))) (pe_op op_mulB (pe_ix ix_tup (pv 0) pe_int (fun _ _ => rfl)) (pe_ix ix_tup (pv 1) pe_int (fun _ _ => rfl)))) (pe_op op_mulB (pe_ix ix_tup (pv 0) pe_int (fun _ _ => rfl)) (pe_ix ix_tup (pv 1) pe_int (fun _ _ => rfl)))))), ?_⟩
  have k1 : SqT K H r [.int a, .int b, .int c, .int d] := SqT.of h1
  have k2 := hp.sq (K := K)
  have f1 : Fit a := a1.bd.fit
  have f2 : Fit b := a2.bd.fit
  have f3 : Fit c := a3.bd.fit
  have f4 : Fit d := a4.bd.fit
  have f5 := hp.2.fx
  have f6 := hp.2.fy
  have f7 := hp.2.fz
  have f8 := hp.2.fw
  try walk_at "rf"
  walk_at "gf"
  exact q
theorem ok_along (T : Tx K mg t1 t2) (F : At K mg "along" s_along ["arrow"] []) : DefOk P w K mg base CX0 1 "along" ["arrow"] [] spAlong := by
  refine F.ok sc_along (fun vs H Q E h => ?_) (fun f cdv A outer s H vs Q E hr h => ?_)
  · obtain ⟨r, a, b, c, rfl, _⟩ := h
    rfl
  obtain ⟨r, a, b, c, rfl, ⟨h1, a1, a2, a3⟩, q⟩ := h
  have S := sc_along
  refine ⟨_, (pss_one (ps_ret (pe_tup (pa_cons (pe_ix ix_tup (pv 0) pe_int (fun _ _ => rfl)) (pa_cons (pe_ix ix_tup (pv 0) pe_int (fun _ _ => rfl)) (pa_cons (pe_ix ix_tup (pv 0) pe_int (fun _ _ => rfl)) (pa_cons pe_int pa_nil se_con) se_sub) se_sub) se_sub)))), ?_⟩
  have k1 : SqT K H r [.int a, .int b, .int c] := SqT.of h1
  try walk_at "rf"
  walk_at "gf"
  exact fun p hp => q p _ (Same.new hp _) ⟨upd_same, Bd.mono (n := 50) a1, Bd.mono (n := 50) a2, Bd.mono (n := 50) a3, show (0 : Int).natAbs < 2 ^ 200 by decide⟩
def hN (ep cp : Pt) (a1 a2 a3 u1 u2 u3 : Int) : Int := hgt (minor 0 cp ⟨a1, a2, a3, 0⟩ ⟨u1, u2, u3, 0⟩) (-minor 1 cp ⟨a1, a2, a3, 0⟩ ⟨u1, u2, u3, 0⟩) (minor 2 cp ⟨a1, a2, a3, 0⟩ ⟨u1, u2, u3, 0⟩) (minor 3 cp ⟨a1, a2, a3, 0⟩ ⟨u1, u2, u3, 0⟩) ep
def Fr2 (H : Hp) (g : Addr) (t b : Int) : Prop := H g = some (.tup [.int t, .int b]) ∧ Bd 40 t ∧ Bd 40 b ∧ 0 < b
theorem SameL {H H' : Hp} {a : Addr} {xs : List V} (e : Same H H') (h : SqL K H a xs) : SqL K H' a xs := by
  rcases h with (h | ⟨o, h⟩) | h
  · exact .inl (.inl (e _ _ h))
  · exact .inl (.inr ⟨o, e _ _ h⟩)
  · exact .inr h
theorem SameB.fresh {L : Addr} {H H3 H' : Hp} (s0 : Same H H3) (h : H L = none) (s : SameB L H3 H') : Same H H' := fun b o hb => s b o (ne_of_none hb h) (s0 b o hb)

def inner : Stmt → Stmt
  | .ClassDef (body := b) .. => b.getD 0 (.Pass ⟨0, 0, 0, 0⟩)
  | s => s
abbrev s_NotFree : Stmt := top 7
abbrev s_initN : Stmt := inner s_NotFree
theorem sc_initN : FnScope ["self", "board"] ["self", "board"] (defScope s_initN) := ⟨rfl, rfl, rfl, by decide +kernel, rfl, by decide +kernel, by decide +kernel⟩
structure Tc (K : PySem.W.Frag) (mg : Str → Option Value) (t1 t2 : Tok) (fN C : Addr) : Prop extends Tx K mg t1 t2 where
  m_NotFree : mg "NotFree" = some (.ref C)
  o_NotFree : ExcI K C fN "ValueError" "ValueError.__new__" "ValueError.__init__" [.type "ValueError", .type "Exception", .type "BaseException", .type "object"]
  xc : XCls K C
  xa : XAttr K C "board"
  em : PySem.W.exmOne K (.ref C) (.ref C) = some true
def spInit (f : Str) (C : Addr) : Sp := fun vs H Q _ => ∃ (a : Addr) (n : Int), vs = [.ref a, .int n] ∧ H a = some (Exc0 a C) ∧ ∀ dx, H dx = none → Q .non (upd (upd H dx (.xd [(f, .int n)])) a (ExcD a C dx))
def H4 (a b c d : Pt) : Int := hgt (minor 0 a b c) (-minor 1 a b c) (minor 2 a b c) (minor 3 a b c) d
def spNF : Sp := fun vs H Q _ => ∃ (L b e : Addr) (rs : List Addr) (ps : List Pt) (p : Pt), vs = [.ref L, .ref e] ∧ H L = some (.lst [.ref b]) ∧ H b = some (.tup (rs.map V.ref)) ∧ Sps H rs ps ∧ 3 ≤ ps.length ∧ ¬ noArrow (pt ps 0) (pt ps 1) (pt ps 2) ∧ Is4 H e p ∧
  (H4 (pt ps 0) (pt ps 1) (pt ps 2) p = 0 → ∀ H', Same H H' → Q (.int 0) H') ∧ (H4 (pt ps 0) (pt ps 1) (pt ps 2) p ≠ 0 → ∀ H', Same H H' → Q .non H')
def spRU (C : Addr) : Sp := fun vs H Q E => ∃ (L b e : Addr) (rs : List Addr) (ps : List Pt) (p : Pt), vs = [.ref L, .ref e] ∧ H L = some (.lst [.ref b]) ∧ H b = some (.tup (rs.map V.ref)) ∧ Sps H rs ps ∧ 3 ≤ ps.length ∧ ¬ noArrow (pt ps 0) (pt ps 1) (pt ps 2) ∧ Is4 H e p ∧
  (H4 (pt ps 0) (pt ps 1) (pt ps 2) p = 0 → ∀ dx H', Same H H' → H' dx = some (.xd [("board", .int 0)]) → E (.ref C) (some dx) H') ∧ (H4 (pt ps 0) (pt ps 1) (pt ps 2) p ≠ 0 → ∀ H', Same H H' → Q .non H')
theorem ok_initN {fd : FuncData} {fN C : Addr} (T : Tc K mg t1 t2 fN C) (F : FunD K "__init__" "NotFree.__init__" s_initN fN fd .none) : FnOk P w K mg base CX0 1 fN fd ["self", "board"] (spInit "board" C) := by
  refine F.ok sc_initN (fun vs H Q E h => ?_) (fun cdv A outer s H vs Q E hr h => ?_)
  · obtain ⟨a, n, rfl, _⟩ := h
    rfl
  obtain ⟨a, n, rfl, ha, q⟩ := h
  have S := sc_initN
  refine ⟨_, pss_one (ps_fldX (pv 0) (pv 1)), ?_⟩
  exact ⟨_, rfl, _, rfl, a, C, rfl, ha, T.xa, fun dx hd => q dx hd⟩
theorem pln_conv {a b c d x y z w : Int} (h : pln [a, b, c, d] = [x, y, z, w]) {p : Pt} (hp : hgt x y z w p = 0) : hgt a b c d p = 0 := by
  have ea := Int.ediv_mul_cancel (gl_dvd (ns := [a, b, c, d]) (n := a) (by simp))
  have eb := Int.ediv_mul_cancel (gl_dvd (ns := [a, b, c, d]) (n := b) (by simp))
  have ec := Int.ediv_mul_cancel (gl_dvd (ns := [a, b, c, d]) (n := c) (by simp))
  have ed := Int.ediv_mul_cancel (gl_dvd (ns := [a, b, c, d]) (n := d) (by simp))
  have el : low [a, b, c, d] = [a / gl [a, b, c, d], b / gl [a, b, c, d], c / gl [a, b, c, d], d / gl [a, b, c, d]] := rfl
  unfold pln at h
  rw [el] at h
  generalize gl [a, b, c, d] = g at ea eb ec ed h
  generalize a / g = x' at ea h
  generalize b / g = y' at eb h
  generalize c / g = z' at ec h
  generalize d / g = w' at ed h
  have h : (if plb x' y' z' = true then [x', y', z', w'] else [-x', -y', -z', -w']) = [x, y, z, w] := h
  have k : hgt a b c d p = hgt x' y' z' w' p * g := by
    rw [← ea, ← eb, ← ec, ← ed]
    unfold hgt
    grind
  rw [k]
  split at h
  · cases h
    rw [hp, Int.zero_mul]
  · cases h
    have e2 : hgt (-x') (-y') (-z') (-w') p = -hgt x' y' z' w' p := by
      unfold hgt
      grind
    rw [e2] at hp
    have : hgt x' y' z' w' p = 0 := by omega
    rw [this, Int.zero_mul]
theorem sgn_zero {n : Int} (h : sgn n = 0) : n = 0 := by
  unfold sgn at h
  split at h
  · cases h
  · split at h
    · cases h
    · omega
theorem ok_nf (T : Tx K mg t1 t2) (F : At K mg "first_not_free" s_first_not_free ["boards", "spot"] []) (d_side_of : DefOk P w K mg base CX0 2 "side_of" ["plane", "spot"] [] spSide) (d_plane_of : DefOk P w K mg base CX0 6 "plane_of" ["board"] [] spPlaneOf) : DefOk P w K mg base CX0 7 "first_not_free" ["boards", "spot"] [] spNF := by
  refine F.ok sc_first_not_free (fun vs H Q E h => ?_) (fun f cdv A outer s H vs Q E hr h => ?_)
  · obtain ⟨L, b, e, rs, ps, p, rfl, _⟩ := h
    rfl
  obtain ⟨L, b, e, rs, ps, p, rfl, hL, hb, hs, n3, na, hp, q1, q2⟩ := h
  have S := sc_first_not_free
  refine ⟨_, (pss_cons (ps_for PassesOwn.never rfl (pi_enum rfl T.m_enumerate (pa_cons (pv 0) pa_nil se_nam)) (pg_tup rfl (pgs_cons (pg_name (i := 2) S.nd rfl (Or.inl rfl)) (pgs_cons (pg_name (i := 3) S.nd rfl (Or.inl rfl)) pgs_nil)))
    (pss_one (ps_if (pt_cmpR op_eq (pe_callD d_side_of (hr.mono (by decide)) rfl pass0 (pa_cons (pe_callD d_plane_of (hr.mono (by decide)) rfl pass0 (pa_cons (pv 3) pa_nil se_nam)) (pa_cons (pv 1) pa_nil se_nam) se_cal)) pe_int (nomark _))
    (pss_one (ps_ret (pv 2)))
    pss_nil)))
    (pss_one (ps_ret pe_non))), ?_⟩
  try walk_at "rf"
  obtain ⟨a1, a2⟩ := hs.get (i := 0) (by omega)
  obtain ⟨a3, a4⟩ := hs.get (i := 1) (by omega)
  obtain ⟨a5, a6⟩ := hs.get (i := 2) (by omega)
  obtain ⟨m0, m1, m2, m3⟩ := minor_sm a2.2 a4.2 a6.2
  obtain ⟨x, y, z, v, ep, sx, sy, sz, sv, g1', pb, hz⟩ := pln_facts (a := minor 0 (pt ps 0) (pt ps 1) (pt ps 2)) (b := -minor 1 (pt ps 0) (pt ps 1) (pt ps 2)) (c := minor 2 (pt ps 0) (pt ps 1) (pt ps 2)) (d := minor 3 (pt ps 0) (pt ps 1) (pt ps 2)) (fun z => na ⟨z.1, by omega, z.2.2⟩) m0 m1.neg m2 m3
  have er : rgh (pt ps 0) (pt ps 1) (pt ps 2) = [minor 0 (pt ps 0) (pt ps 1) (pt ps 2), -minor 1 (pt ps 0) (pt ps 1) (pt ps 2), minor 2 (pt ps 0) (pt ps 1) (pt ps 2), minor 3 (pt ps 0) (pt ps 1) (pt ps 2)] := rfl
  refine ⟨⟨_, SqL.of hL⟩, for_enum (K := K) (a := L) (xs := [V.ref b]) (fun i σ J => Same H J ∧ (1 ≤ i → H4 (pt ps 0) (pt ps 1) (pt ps 2) p ≠ 0) ∧ ∃ o2 o3 : Option V, σ = [some (.ref L), some (.ref e), o2, o3]) ⟨Same.refl _, fun h => absurd h (by decide), none, none, rfl⟩ (fun i σ J hi hP => SqL.of (hP.1 _ _ hL)) ?_ ?_⟩
  · rintro i v' σ J tp hv ⟨sJ, _, o2, o3, rfl⟩ htp
    match i, hv with
    | 0, hv =>
      cases hv
      have s2 := Same.new htp (.tup [.int ((0 : Nat) : Int), .ref b])
      have e2 : upd J tp (.tup [.int ((0 : Nat) : Int), .ref b]) tp = some (.tup [.int ((0 : Nat) : Int), .ref b]) := upd_same
      generalize upd J tp (.tup [.int ((0 : Nat) : Int), .ref b]) = J2 at s2 e2 ⊢
      have S2 := sJ.trans s2
      try walk_at "rf"
      refine ⟨_, SqT.of e2, rfl, _, _, rfl, _, _, rfl, rfl, ?_⟩
      refine ⟨b, rs, ps, rfl, S2 _ _ hb, hs.keep S2.t, n3, na, fun g J3 s3 e3 => ?_⟩
      rw [er, ep] at e3
      refine ⟨g, e, x, y, z, v, p, rfl, e3, sx, sy, sz, sv, hp.keep (S2.trans s3), ?_⟩
      try walk_at "rf"
      refine ite2 (fun c0 => ?_) fun c0 => ?_
      · exact q1 (pln_conv ep (sgn_zero c0)) _ (S2.trans s3)
      · have nz : H4 (pt ps 0) (pt ps 1) (pt ps 2) p ≠ 0 := fun z => c0 (by rw [hz p z]; rfl)
        first | exact ⟨S2.trans s3, fun _ => nz, _, rfl⟩ | exact ⟨S2.trans s3, fun _ => nz, rfl⟩ | exact ⟨S2.trans s3, fun _ => nz⟩ | exact ⟨S2.trans s3, nz, _, rfl⟩ | exact ⟨S2.trans s3, nz⟩
    | i + 1, hv => cases hv
  · rintro σ J ⟨sJ, nn, o2, o3, rfl⟩
    try walk_at "rf"
    exact q2 (nn (Nat.le_refl 1)) _ sJ
theorem ok_ru {fN C : Addr} {fdN : FuncData} (T : Tc K mg t1 t2 fN C) (F_NotFree : FnOk P w K mg base CX0 1 fN fdN ["self", "board"] (spInit "board" C)) (b_NotFree : Binds K fdN ["self", "board"] []) (F : At K mg "refuse_unless_free" s_refuse_unless_free ["boards", "spot"] []) (d_first_not_free : DefOk P w K mg base CX0 7 "first_not_free" ["boards", "spot"] [] spNF) : DefOk P w K mg base (XOk P w) 8 "refuse_unless_free" ["boards", "spot"] [] (spRU C) := by
  refine F.okX sc_refuse_unless_free (fun vs H Q E h => ?_) (fun f cdv A outer s H vs Q E hr h => ?_)
  · obtain ⟨L, b, e, rs, ps, p, rfl, _⟩ := h
    rfl
  obtain ⟨L, b, e, rs, ps, p, rfl, hL, hb, hs, n3, na, hp, q1, q2⟩ := h
  have S := sc_refuse_unless_free
  refine ⟨_, (pss_cons (ps_set (i := 2) S.nd rfl (Or.inl rfl) (pe_callD d_first_not_free (hr.mono (by decide)) rfl pass0 (pa_cons (pv 0) (pa_cons (pv 1) pa_nil se_nam) se_nam)))
    (pss_one (ps_if (pt_cmpR op_notN (pv 2) pe_non (nomark _))
    (pss_one (ps_raiseE rfl T.o_NotFree (pe_excI T.o_NotFree F_NotFree (hr.mono (by decide)) rfl T.m_NotFree b_NotFree pass0 (pa_cons (pv 2) pa_nil se_nam)) raisesD1))
    pss_nil))), ?_⟩
  try walk_at "rf"
  refine ⟨L, b, e, rs, ps, p, rfl, hL, hb, hs, n3, na, hp, fun h0 H1 s1 => ?_, fun h0 H1 s1 => ?_⟩
  · refine ite2 (fun h => by cases h) fun _ => ?_
    simp only [L2.tExcI]
    try walk_at "rf"
    refine ⟨by decide, fun q hq => ⟨q, 0, rfl, upd_same, fun dx hd => ⟨rfl, s1.noneN hq, dx, upd_same, ?_⟩⟩⟩
    have dq : dx ≠ q := fun c => by rw [c, upd_same] at hd; cases hd
    have hd1 : H1 dx = none := by rw [upd_ne dq] at hd; exact hd
    refine q1 h0 dx _ (fun c o hc => ?_) ?_
    · have h1 := s1 c o hc
      have cq : c ≠ q := fun z => by rw [z, hq] at h1; cases h1
      have cd : c ≠ dx := fun z => by rw [z, hd1] at h1; cases h1
      rw [del_ne cq, upd_ne cq, upd_ne cd, upd_ne cq]
      exact h1
    · rw [del_ne dq, upd_ne dq]
      exact upd_same
  · exact ite2 (fun _ => q2 h0 _ s1) fun h => absurd rfl h
def Frm (H : Hp) (f e c a u : Addr) (ep cp : Pt) (a1 a2 a3 u1 u2 u3 : Int) : Prop := H f = some (.tup [.ref e, .ref c, .ref a, .ref u]) ∧ Is4 H e ep ∧ Lw ep ∧ Is4 H c cp ∧ Lw cp ∧ Is3 50 H a a1 a2 a3 ∧ Is3 50 H u u1 u2 u3
theorem Frm.keep {H H' : Hp} {g e c a u : Addr} {ep cp : Pt} {a1 a2 a3 u1 u2 u3 : Int} (h : Frm H g e c a u ep cp a1 a2 a3 u1 u2 u3) (s : SameT H H') : Frm H' g e c a u ep cp a1 a2 a3 u1 u2 u3 :=
  ⟨s _ _ h.1, h.2.1.kt s, h.2.2.1, h.2.2.2.1.kt s, h.2.2.2.2.1, h.2.2.2.2.2.1.keep s, h.2.2.2.2.2.2.keep s⟩
def Bnd (H : Hp) (b : Addr) (rs : List Addr) (ps : List Pt) : Prop := H b = some (.tup (rs.map V.ref)) ∧ Sps H rs ps ∧ 3 ≤ ps.length ∧ ps.length ≤ 8 ∧ ¬ noArrow (pt ps 0) (pt ps 1) (pt ps 2) ∧ (∀ i, i < ps.length → Bd 100 (pt ps i).x ∧ Bd 100 (pt ps i).y ∧ Bd 100 (pt ps i).z ∧ Bd 100 (pt ps i).w ∧ 1 ≤ (pt ps i).w)
/-- the three fractions of nearness, by the plane x y z v -/
def nrA (x y z v : Int) (ep : Pt) (a1 a2 a3 : Int) : Int × Int := nf (-ep.w * hgt x y z v ⟨a1, a2, a3, 0⟩) (hgt x y z v ep)
def nrC (x y z v : Int) (ep cp : Pt) : Int × Int := nf (cp.w * hgt x y z v ep - ep.w * hgt x y z v cp) (cp.w * hgt x y z v ep)
def spNear (C : Addr) : Sp := fun vs H Q E => ∃ (f e c a u b : Addr) (ep cp : Pt) (a1 a2 a3 u1 u2 u3 : Int) (rs : List Addr) (ps : List Pt), vs = [.ref f, .ref b] ∧ Frm H f e c a u ep cp a1 a2 a3 u1 u2 u3 ∧ Bnd H b rs ps ∧
  (H4 (pt ps 0) (pt ps 1) (pt ps 2) ep = 0 → ∀ dx H', Same H H' → H' dx = some (.xd [("board", .int 0)]) → E (.ref C) (some dx) H') ∧
  (H4 (pt ps 0) (pt ps 1) (pt ps 2) ep ≠ 0 → ∀ (g p q r : Addr) (x y z v : Int) (H' : Hp), Same H H' → pln (rgh (pt ps 0) (pt ps 1) (pt ps 2)) = [x, y, z, v] → H' g = some (.tup [.ref p, .ref q, .ref r]) → At2 H' p (nrA x y z v ep a1 a2 a3) → At2 H' q (nrA x y z v ep u1 u2 u3) → At2 H' r (nrC x y z v ep cp) → Q (.ref g) H')
theorem pln_abs {a b c d x y z w : Int} (h : pln [a, b, c, d] = [x, y, z, w]) : x.natAbs ≤ a.natAbs ∧ y.natAbs ≤ b.natAbs ∧ z.natAbs ≤ c.natAbs ∧ w.natAbs ≤ d.natAbs := by
  have ea := Int.natAbs_ediv_le_natAbs a (gl [a, b, c, d])
  have eb := Int.natAbs_ediv_le_natAbs b (gl [a, b, c, d])
  have ec := Int.natAbs_ediv_le_natAbs c (gl [a, b, c, d])
  have ed := Int.natAbs_ediv_le_natAbs d (gl [a, b, c, d])
  have el : low [a, b, c, d] = [a / gl [a, b, c, d], b / gl [a, b, c, d], c / gl [a, b, c, d], d / gl [a, b, c, d]] := rfl
  unfold pln at h
  rw [el] at h
  generalize a / gl [a, b, c, d] = x' at ea h
  generalize b / gl [a, b, c, d] = y' at eb h
  generalize c / gl [a, b, c, d] = z' at ec h
  generalize d / gl [a, b, c, d] = w' at ed h
  have h : (if plb x' y' z' = true then [x', y', z', w'] else [-x', -y', -z', -w']) = [x, y, z, w] := h
  split at h
  · cases h
    exact ⟨ea, eb, ec, ed⟩
  · cases h
    rw [Int.natAbs_neg, Int.natAbs_neg, Int.natAbs_neg, Int.natAbs_neg]
    exact ⟨ea, eb, ec, ed⟩
theorem minor_603 {p o u : Pt} (hp : p.sm) (ho : o.sm) (hu : u.sm) : Bd 603 (minor 0 p o u) ∧ Bd 603 (minor 1 p o u) ∧ Bd 603 (minor 2 p o u) ∧ Bd 603 (minor 3 p o u) := by
  obtain ⟨a, b, c, d⟩ := hp
  obtain ⟨a', b', c', d'⟩ := ho
  obtain ⟨a2, b2, c2, d2⟩ := hu
  exact ⟨det_bd b c d b' c' d' b2 c2 d2, det_bd a c d a' c' d' a2 c2 d2, det_bd a b d a' b' d' a2 b2 d2, det_bd a b c a' b' c' a2 b2 c2⟩
theorem hgt_bd {x y z v : Int} {p : Pt} (hx : Bd 603 x) (hy : Bd 603 y) (hz : Bd 603 z) (hv : Bd 603 v) (h1 : Bd 100 p.x) (h2 : Bd 100 p.y) (h3 : Bd 100 p.z) (h4 : Bd 100 p.w) : Bd 706 (hgt x y z v p) :=
  Bd.sub (n := 705) (Bd.add (n := 704) (Bd.add (n := 703) (Bd.mul (n := 603) (m := 100) hx h1) (Bd.mul (n := 603) (m := 100) hy h2)) (Bd.mono (n := 703) (Bd.mul (n := 603) (m := 100) hz h3))) (Bd.mono (n := 703) (Bd.mul (n := 603) (m := 100) hv h4))
theorem ok_near {fN C : Addr} (T : Tc K mg t1 t2 fN C) (F : At K mg "nearness" s_nearness ["frame", "board"] []) (d_refuse_unless_free : DefOk P w K mg base (XOk P w) 8 "refuse_unless_free" ["boards", "spot"] [] (spRU C)) (d_plane_of : DefOk P w K mg base CX0 6 "plane_of" ["board"] [] spPlaneOf) (d_height_over : DefOk P w K mg base CX0 1 "height_over" ["plane", "spot"] [] spHt) (d_along : DefOk P w K mg base CX0 1 "along" ["arrow"] [] spAlong) (d_fraction : DefOk P w K mg base CX0 3 "fraction" ["top", "bottom"] [] spFr) : DefOk P w K mg base (XOk P w) 9 "nearness" ["frame", "board"] [] (spNear C) := by
  refine F.okX sc_nearness (fun vs H Q E h => ?_) (fun f cdv A outer s H vs Q E hr h => ?_)
  · obtain ⟨f, e, c, a, u, b, ep, cp, a1, a2, a3, u1, u2, u3, rs, ps, rfl, _⟩ := h
    rfl
  obtain ⟨f', e, c, a, u, b, ep, cp, a1, a2, a3, u1, u2, u3, rs, ps, rfl, hF, hB, q1, q2⟩ := h
  have S := sc_nearness
  refine ⟨_, (pss_cons (ps_set (i := 2) S.nd rfl (Or.inl rfl) (pe_ix ix_tup (pv 0) pe_int (fun _ _ => rfl)))
    (pss_cons (ps_set (i := 3) S.nd rfl (Or.inl rfl) (pe_ix ix_tup (pv 0) pe_int (fun _ _ => rfl)))
    (pss_cons (ps_expr (pe_callD d_refuse_unless_free (hr.mono (by decide)) rfl pass1 (pa_cons (pe_lst (pa_cons (pv 1) pa_nil se_nam)) (pa_cons (pv 2) pa_nil se_nam) se_lst)))
    (pss_cons (ps_set (i := 4) S.nd rfl (Or.inl rfl) (pe_callD d_plane_of (hr.mono (by decide)) rfl pass0 (pa_cons (pv 1) pa_nil se_nam)))
    (pss_cons (ps_set (i := 5) S.nd rfl (Or.inl rfl) (pe_callD d_height_over (hr.mono (by decide)) rfl pass0 (pa_cons (pv 4) (pa_cons (pv 2) pa_nil se_nam) se_nam)))
    (pss_one (ps_ret (pe_tup (pa_cons (pe_callD d_fraction (hr.mono (by decide)) rfl pass0 (pa_cons (pe_op op_mulB (pe_un un_neg (pe_ix ix_tup (pv 2) pe_int (fun _ _ => rfl))) (pe_callD d_height_over (hr.mono (by decide)) rfl pass0 (pa_cons (pv 4) (pa_cons (pe_callD d_along (hr.mono (by decide)) rfl pass0 (pa_cons (pe_ix ix_tup (pv 0) pe_int (fun _ _ => rfl)) pa_nil se_sub)) pa_nil se_cal) se_nam))) (pa_cons (pv 5) pa_nil se_nam) se_bin)) (pa_cons (pe_callD d_fraction (hr.mono (by decide)) rfl pass0 (pa_cons (pe_op op_mulB (pe_un un_neg (pe_ix ix_tup (pv 2) pe_int (fun _ _ => rfl))) (pe_callD d_height_over (hr.mono (by decide)) rfl pass0 (pa_cons (pv 4) (pa_cons (pe_callD d_along (hr.mono (by decide)) rfl pass0 (pa_cons (pe_ix ix_tup (pv 0) pe_int (fun _ _ => rfl)) pa_nil se_sub)) pa_nil se_cal) se_nam))) (pa_cons (pv 5) pa_nil se_nam) se_bin)) (pa_cons (pe_callD d_fraction (hr.mono (by decide)) rfl pass0 (pa_cons (pe_op op_sub (pe_op op_mulB (pe_ix ix_tup (pv 3) pe_int (fun _ _ => rfl)) (pv 5)) (pe_op op_mulB (pe_ix ix_tup (pv 2) pe_int (fun _ _ => rfl)) (pe_callD d_height_over (hr.mono (by decide)) rfl pass0 (pa_cons (pv 4) (pa_cons (pv 3) pa_nil se_nam) se_nam)))) (pa_cons (pe_op op_mulB (pe_ix ix_tup (pv 3) pe_int (fun _ _ => rfl)) (pv 5)) pa_nil se_bin) se_bin)) pa_nil se_cal) se_cal) se_cal))))))))), ?_⟩
  have kf : SqT K H f' [.ref e, .ref c, .ref a, .ref u] := SqT.of hF.1
  try walk_at "rf"
  obtain ⟨h0', he, le, hc, lc, ha, hu⟩ := id hF
  obtain ⟨hb, hs, n3, n8, na, hbd⟩ := id hB
  obtain ⟨a1', a2'⟩ := hs.get (i := 0) (by omega)
  obtain ⟨a3', a4'⟩ := hs.get (i := 1) (by omega)
  obtain ⟨a5', a6'⟩ := hs.get (i := 2) (by omega)
  obtain ⟨m0, m1, m2, m3⟩ := minor_sm a2'.2 a4'.2 a6'.2
  obtain ⟨k0, k1, k2, k3⟩ := minor_603 a2'.2 a4'.2 a6'.2
  obtain ⟨x, y, z, v, epl, sx, sy, sz, sv, g1', pb, hz⟩ := pln_facts (a := minor 0 (pt ps 0) (pt ps 1) (pt ps 2)) (b := -minor 1 (pt ps 0) (pt ps 1) (pt ps 2)) (c := minor 2 (pt ps 0) (pt ps 1) (pt ps 2)) (d := minor 3 (pt ps 0) (pt ps 1) (pt ps 2)) (fun z => na ⟨z.1, by omega, z.2.2⟩) m0 m1.neg m2 m3
  have er : rgh (pt ps 0) (pt ps 1) (pt ps 2) = [minor 0 (pt ps 0) (pt ps 1) (pt ps 2), -minor 1 (pt ps 0) (pt ps 1) (pt ps 2), minor 2 (pt ps 0) (pt ps 1) (pt ps 2), minor 3 (pt ps 0) (pt ps 1) (pt ps 2)] := rfl
  obtain ⟨b1, b2, b3, b4⟩ := pln_abs epl
  have Bx : Bd 603 x := Nat.lt_of_le_of_lt b1 k0
  have By : Bd 603 y := Nat.lt_of_le_of_lt b2 (Bd.neg k1)
  have Bz : Bd 603 z := Nat.lt_of_le_of_lt b3 k2
  have Bv : Bd 603 v := Nat.lt_of_le_of_lt b4 k3
  have l1 : ∀ {p : Pt}, Lw p → Bd 100 p.x ∧ Bd 100 p.y ∧ Bd 100 p.z ∧ Bd 100 p.w := fun h => ⟨Bd.mono h.1, Bd.mono h.2.1, Bd.mono h.2.2.1, Bd.mono h.2.2.2.1⟩
  have le' := l1 le
  have lc' := l1 lc
  have bE : Bd 706 (hgt x y z v ep) := hgt_bd Bx By Bz Bv le'.1 le'.2.1 le'.2.2.1 le'.2.2.2
  have bC : Bd 706 (hgt x y z v cp) := hgt_bd Bx By Bz Bv lc'.1 lc'.2.1 lc'.2.2.1 lc'.2.2.2
  have z0 : Bd 100 (0 : Int) := by unfold Bd; decide
  have bA : Bd 706 (hgt x y z v ⟨a1, a2, a3, 0⟩) := hgt_bd Bx By Bz Bv (Bd.mono ha.2.1) (Bd.mono ha.2.2.1) (Bd.mono ha.2.2.2) z0
  have bU : Bd 706 (hgt x y z v ⟨u1, u2, u3, 0⟩) := hgt_bd Bx By Bz Bv (Bd.mono hu.2.1) (Bd.mono hu.2.2.1) (Bd.mono hu.2.2.2) z0
  have fE := bE.fit
  have fC := bC.fit
  have fA := bA.fit
  have fU := bU.fit
  have few := he.2.fw
  have fcw := hc.2.fw
  have fnw : Fit (-ep.w) := (Bd.neg le'.2.2.2).fit
  refine ixT kf (i := 0) rfl (ixT kf (i := 1) rfl ⟨by decide, fun l hl => ?_⟩)
  have s1 := Same.new hl (.lst [V.ref b])
  have e1 : upd H l (.lst [V.ref b]) l = some (.lst [V.ref b]) := upd_same
  generalize upd H l (.lst [V.ref b]) = H1 at s1 e1 ⊢
  refine ⟨l, b, e, rs, ps, ep, rfl, e1, s1 _ _ hb, hs.keep s1.t, n3, na, he.keep s1, fun h0 dx H2 s2 ed => q1 h0 dx H2 (s1.trans s2) ed, fun h0 H2 s2 => ?_⟩
  have S2 := s1.trans s2
  refine ⟨b, rs, ps, rfl, S2 _ _ hb, hs.keep S2.t, n3, na, fun g H3 s3 e3 => ?_⟩
  rw [er, epl] at e3
  have S3 := S2.trans s3
  have hE0 : hgt x y z v ep ≠ 0 := fun z => h0 (pln_conv epl z)
  refine ⟨g, e, x, y, z, v, ep, rfl, e3, sx, sy, sz, sv, he.keep S3, ?_⟩
  have ke3 := (he.keep S3).sq (K := K)
  have kf3 : SqT K H3 f' [.ref e, .ref c, .ref a, .ref u] := S3.tup kf
  refine ixT ke3 (i := 3) rfl ⟨_, rfl, ixT kf3 (i := 2) rfl ⟨a, a1, a2, a3, rfl, ha.keep S3.t, fun g4 H4' s4 h4 => ?_⟩⟩
  have S4 := S3.trans s4
  refine ⟨g, g4, x, y, z, v, _, rfl, s4 _ _ e3, sx, sy, sz, sv, h4, _, rfl, fnw, fA, ?_⟩
  refine ⟨_, _, rfl, Bd.mono (n := 806) (Bd.mul (n := 100) (m := 706) (Bd.neg le'.2.2.2) bA), Bd.mono (n := 706) bE, hE0, fun p5 H5 s5 at5 => ?_⟩
  have S5 := S4.trans s5
  have ke5 := (he.keep S5).sq (K := K)
  have kf5 : SqT K H5 f' [.ref e, .ref c, .ref a, .ref u] := S5.tup kf
  refine ixT ke5 (i := 3) rfl ⟨_, rfl, ixT kf5 (i := 3) rfl ⟨u, u1, u2, u3, rfl, hu.keep S5.t, fun g6 H6 s6 h6 => ?_⟩⟩
  have S6 := S5.trans s6
  refine ⟨g, g6, x, y, z, v, _, rfl, s6 _ _ (s5 _ _ (s4 _ _ e3)), sx, sy, sz, sv, h6, _, rfl, fnw, fU, ?_⟩
  refine ⟨_, _, rfl, Bd.mono (n := 806) (Bd.mul (n := 100) (m := 706) (Bd.neg le'.2.2.2) bU), Bd.mono (n := 706) bE, hE0, fun p7 H7 s7 at7 => ?_⟩
  have S7 := S6.trans s7
  have kc7 := (hc.keep S7).sq (K := K)
  have ke7 := (he.keep S7).sq (K := K)
  have bcw : Bd 100 cp.w := lc'.2.2.2
  have bew : Bd 100 ep.w := le'.2.2.2
  have n1 : Bd 807 (cp.w * hgt x y z v ep - ep.w * hgt x y z v cp) := Bd.sub (n := 806) (Bd.mul (n := 100) (m := 706) bcw bE) (Bd.mul (n := 100) (m := 706) bew bC)
  have n2 : Bd 806 (cp.w * hgt x y z v ep) := Bd.mul (n := 100) (m := 706) bcw bE
  have cw1 : cp.w ≠ 0 := by have := lc.2.2.2.2; omega
  refine ixT kc7 (i := 3) rfl ⟨_, rfl, _, rfl, fcw, fE, ixT ke7 (i := 3) rfl ⟨g, c, x, y, z, v, cp, rfl, s7 _ _ (s6 _ _ (s5 _ _ (s4 _ _ e3))), sx, sy, sz, sv, hc.keep S7, _, rfl, _, rfl, few, fC, ixT kc7 (i := 3) rfl ⟨_, rfl, _, rfl, fcw, fE, _, _, rfl, Bd.mono n1, Bd.mono n2, Int.mul_ne_zero cw1 hE0, fun p8 H8 s8 at8 => ⟨by decide, fun p9 hp9 => ?_⟩⟩⟩⟩
  have s9 := Same.new hp9 (.tup [V.ref p5, V.ref p7, V.ref p8])
  exact q2 h0 p9 p5 p7 p8 x y z v _ (S7.trans (s8.trans s9)) (er ▸ epl) upd_same (s9 _ _ (s8 _ _ (s7 _ _ (s6 _ _ at5)))) (s9 _ _ (s8 _ _ at7)) (s9 _ _ at8)
def spTold (K : PySem.W.Frag) : Sp := fun vs H Q _ => ∃ (f e c a u b : Addr) (ep cp : Pt) (a1 a2 a3 u1 u2 u3 : Int) (rs : List Addr) (ps : List Pt), vs = [.ref f, .ref b] ∧ Frm H f e c a u ep cp a1 a2 a3 u1 u2 u3 ∧ Bnd H b rs ps ∧
  (H4 (pt ps 0) (pt ps 1) (pt ps 2) ep = 0 → ∀ (t : Addr) (H' : Hp), Same H H' → H' t = some (.tup [.non, .int 0]) → Q (.ref t) H') ∧
  (H4 (pt ps 0) (pt ps 1) (pt ps 2) ep ≠ 0 → ∀ (t g p q r : Addr) (x y z v : Int) (H' : Hp), Same H H' → pln (rgh (pt ps 0) (pt ps 1) (pt ps 2)) = [x, y, z, v] → H' t = some (.tup [.ref g, .non]) → H' g = some (.tup [.ref p, .ref q, .ref r]) → At2 H' p (nrA x y z v ep a1 a2 a3) → At2 H' q (nrA x y z v ep u1 u2 u3) → At2 H' r (nrC x y z v ep cp) → Q (.ref t) H')
theorem ok_told {fN C : Addr} (T : Tc K mg t1 t2 fN C) (F : At K mg "_law_told" s__law_told ["frame", "board"] []) (d_nearness : DefOk P w K mg base (XOk P w) 9 "nearness" ["frame", "board"] [] (spNear C)) : DefOk P w K mg base CX0 10 "_law_told" ["frame", "board"] [] (spTold K) := by
  refine F.ok sc__law_told (fun vs H Q E h => ?_) (fun f cdv A outer s H vs Q E hr h => ?_)
  · obtain ⟨f, e, c, a, u, b, ep, cp, a1, a2, a3, u1, u2, u3, rs, ps, rfl, _⟩ := h
    rfl
  obtain ⟨f', e, c, a, u, b, ep, cp, a1, a2, a3, u1, u2, u3, rs, ps, rfl, hF, hB, q1, q2⟩ := h
  have S := sc__law_told
  refine ⟨_, (pss_cons (ps_set (i := 2) S.nd rfl (Or.inl rfl) pe_non)
    (pss_cons (ps_set (i := 3) S.nd rfl (Or.inl rfl) pe_non)
    (pss_cons (ps_tryAsD (i := 4) (top_nox top_cxX) rfl T.m_NotFree S.nd rfl rfl (Or.inl rfl) (psx_set (i := 2) S.nd rfl (Or.inl rfl) (px_callD d_nearness (hr.mono (by decide)) rfl (pa_cons (pv 0) (pa_cons (pv 1) pa_nil se_nam) se_nam))) (fun _ => (pss_one (ps_set (i := 3) S.nd rfl (Or.inl rfl) (pe_fldC (K := K) rfl (pv 4))))))
    (pss_one (ps_ret (pe_tup (pa_cons (pv 2) (pa_cons (pv 3) pa_nil se_nam) se_nam))))))), ?_⟩
  try walk_at "rf"
  refine ⟨f', e, c, a, u, b, ep, cp, a1, a2, a3, u1, u2, u3, rs, ps, rfl, hF, hB, fun h0 dx H1 s1 ed => ⟨C, rfl, dx, rfl, T.em, fun ea hea => ?_⟩, fun h0 g p q r x y z v H1 s1 epl eg e2 e3 e4 => ⟨by decide, fun t ht => q2 h0 t g p q r x y z v _ (s1.trans (Same.new ht _)) epl upd_same ((Same.new ht _) _ _ eg) ((Same.new ht _) _ _ e2) ((Same.new ht _) _ _ e3) ((Same.new ht _) _ _ e4)⟩⟩
  simp only [L2.tFldC, L2.Ends.gone]
  try walk_at "rf"
  have se := Same.new hea (CaughtD ea C dx)
  have ee : upd H1 ea (CaughtD ea C dx) ea = some (CaughtD ea C dx) := upd_same
  generalize upd H1 ea (CaughtD ea C dx) = H2 at se ee ⊢
  exact ⟨C, dx, ee, _, se _ _ ed, T.xc, T.xa, _, rfl, by decide, fun p hp => q1 h0 p _ (s1.trans (se.trans (Same.new hp _))) upd_same⟩
def N3 (a b c : Int) : Prop := ¬ (a = 0 ∧ b = 0 ∧ c = 0)
def spMF0 : Sp := fun vs H Q _ => ∃ (e c a u : Addr) (ep cp : Pt) (a1 a2 a3 u1 u2 u3 : Int), vs = [.ref e, .ref c, .ref a, .ref u] ∧ Is4 H e ep ∧ Lw ep ∧ Is4 H c cp ∧ Lw cp ∧ Is3 50 H a a1 a2 a3 ∧ Is3 50 H u u1 u2 u3 ∧ hN ep cp a1 a2 a3 u1 u2 u3 ≠ 0 ∧
  ∀ (g : Addr) (H' : Hp), Same H H' → H' g = some (.tup [.ref e, .ref c, .ref a, .ref u]) → Q (.ref g) H'
def spArrow2 : Sp := fun vs H Q _ => ∃ (L : Addr) (g : Bool), vs = [.ref L, .bl g] ∧ PBox H L ∧ ∀ (r : Addr) (H' : Hp) (a b c : Int), SameB L H H' → PBox H' L → Is3 20 H' r a b c → N3 a b c → Q (.ref r) H'
def crs (x y z a b c : Int) : Prop := N3 (y * c - z * b) (z * a - x * c) (x * b - y * a)
def spOther2 : Sp := fun vs H Q _ => ∃ (L l : Addr) (g : Bool) (x y z : Int), vs = [.ref L, .bl g, .ref l] ∧ PBox H L ∧ Is3 20 H l x y z ∧ N3 x y z ∧ ∀ (r : Addr) (H' : Hp) (a b c : Int), SameB L H H' → PBox H' L → Is3 20 H' r a b c → crs x y z a b c → Q (.ref r) H'
theorem ok_mf0 (T : Tx K mg t1 t2) (F : At K mg "made_frame" s_made_frame ["eye", "corner", "across", "up"] []) (d_height_over : DefOk P w K mg base CX0 1 "height_over" ["plane", "spot"] [] spHt) (d_rough_plane : DefOk P w K mg base CX0 4 "rough_plane" ["one", "other", "third"] [] spRough) (d_along : DefOk P w K mg base CX0 1 "along" ["arrow"] [] spAlong) : DefOk P w K mg base CX0 5 "made_frame" ["eye", "corner", "across", "up"] [] spMF0 := by
  refine F.ok sc_made_frame (fun vs H Q E h => ?_) (fun f cdv A outer s H vs Q E hr h => ?_)
  · obtain ⟨e, c, a, u, ep, cp, a1, a2, a3, u1, u2, u3, rfl, _⟩ := h
    rfl
  obtain ⟨e, c, a, u, ep, cp, a1, a2, a3, u1, u2, u3, rfl, he, le, hc, lc, ha, hu, n0, qQ⟩ := h
  have S := sc_made_frame
  refine ⟨_, (pss_cons (ps_if (pt_cmpR op_eq (pe_callD d_height_over (hr.mono (by decide)) rfl pass0 (pa_cons (pe_callD d_rough_plane (hr.mono (by decide)) rfl pass0 (pa_cons (pv 1) (pa_cons (pe_callD d_along (hr.mono (by decide)) rfl pass0 (pa_cons (pv 2) pa_nil se_nam)) (pa_cons (pe_callD d_along (hr.mono (by decide)) rfl pass0 (pa_cons (pv 3) pa_nil se_nam)) pa_nil se_cal) se_cal) se_nam)) (pa_cons (pv 0) pa_nil se_nam) se_cal)) pe_int (nomark _))
    pss_never
    pss_nil)
    (pss_one (ps_ret (pe_tup (pa_cons (pv 0) (pa_cons (pv 1) (pa_cons (pe_callTy call_tuple_of rfl T.m_tuple boot_tuple (pa_cons (pv 2) pa_nil se_nam)) (pa_cons (pe_callTy call_tuple_of rfl T.m_tuple boot_tuple (pa_cons (pv 3) pa_nil se_nam)) pa_nil se_cal) se_cal) se_nam) se_nam))))), ?_⟩
  try walk_at "rf"
  refine ⟨a, a1, a2, a3, rfl, ha, fun g1 H1 s1 h1 => ?_⟩
  refine ⟨u, u1, u2, u3, rfl, hu.keep s1.t, fun g2 H2 s2 h2 => ?_⟩
  refine ⟨c, g1, g2, cp, _, _, rfl, hc.keep (s1.trans s2), h1.keep s2, h2, fun g3 H3 s3 e3 => ?_⟩
  have q1 : Bd 70 a1 := Bd.mono ha.2.1
  have q2 : Bd 70 a2 := Bd.mono ha.2.2.1
  have q3 : Bd 70 a3 := Bd.mono ha.2.2.2
  have r1 : Bd 70 u1 := Bd.mono hu.2.1
  have r2 : Bd 70 u2 := Bd.mono hu.2.2.1
  have r3 : Bd 70 u3 := Bd.mono hu.2.2.2
  have z0 : Bd 70 (0 : Int) := by unfold Bd; decide
  have dd : ∀ {a b c x y z u v w : Int}, Bd 70 a → Bd 70 b → Bd 70 c → Bd 70 x → Bd 70 y → Bd 70 z → Bd 70 u → Bd 70 v → Bd 70 w → Small (det3 a b c x y z u v w) := fun {a b c x y z u v w} ha hb hc hx hy hz hu hv hw => by
    unfold det3
    exact Bd.mono (Bd.add (Bd.add (Bd.mul (Bd.sub (Bd.mul hb hz) (Bd.mul hc hy)) hu) (Bd.mul (Bd.sub (Bd.mul hc hx) (Bd.mul ha hz)) hv)) (Bd.mono (Bd.mul (Bd.sub (Bd.mul ha hy) (Bd.mul hb hx)) hw) (m := 212)))
  have m0 : Small (minor 0 cp ⟨a1, a2, a3, 0⟩ ⟨u1, u2, u3, 0⟩) := dd lc.2.1 lc.2.2.1 lc.2.2.2.1 q2 q3 z0 r2 r3 z0
  have m1 : Small (minor 1 cp ⟨a1, a2, a3, 0⟩ ⟨u1, u2, u3, 0⟩) := dd lc.1 lc.2.2.1 lc.2.2.2.1 q1 q3 z0 r1 r3 z0
  have m2 : Small (minor 2 cp ⟨a1, a2, a3, 0⟩ ⟨u1, u2, u3, 0⟩) := dd lc.1 lc.2.1 lc.2.2.2.1 q1 q2 z0 r1 r2 z0
  have m3 : Small (minor 3 cp ⟨a1, a2, a3, 0⟩ ⟨u1, u2, u3, 0⟩) := dd lc.1 lc.2.1 lc.2.2.1 q1 q2 q3 r1 r2 r3
  have S3 : Same H H3 := (s1.trans s2).trans s3
  refine ⟨g3, e, _, _, _, _, ep, rfl, e3, m0, m1.neg, m2, m3, he.keep S3, rfl, ?_⟩
  refine ite2 (fun c1 => absurd (V.int.inj c1) n0) fun c1 => ?_
  · have ka : SqT K H3 a [.int a1, .int a2, .int a3] := SqT.of (S3 _ _ ha.1)
    have ku : SqT K H3 u [.int u1, .int u2, .int u3] := SqT.of (S3 _ _ hu.1)
    exact ⟨_, .inr ⟨ka, _, .inr ⟨ku, by decide, fun p hp => qQ p _ (S3.trans (Same.new hp _)) upd_same⟩⟩⟩
theorem ok_arrow2 (T : Tx K mg t1 t2) (F : At K mg "_law_arrow" s__law_arrow ["pot", "great"] []) (d__law_number : DefOk P w K mg base CX0 2 "_law_number" ["pot", "great"] [] spNumber) : DefOk P w K mg base CX0 3 "_law_arrow" ["pot", "great"] [] spArrow2 := by
  refine F.ok sc__law_arrow (fun vs H Q E h => ?_) (fun f cdv A outer s H vs Q E hr h => ?_)
  · obtain ⟨L, n, rfl, _⟩ := h
    rfl
  obtain ⟨L, g, rfl, hL, q⟩ := h
  have S := sc__law_arrow
  refine ⟨_, (pss_cons (ps_set (i := 2) S.nd rfl (Or.inl rfl) (pe_callTy call_tuple_of rfl T.m_tuple boot_tuple (pa_cons (pe_comp rfl (N' := ["k", "pot", "great"]) (ix := [0, 1]) ⟨rfl, rfl, by decide +kernel, by decide +kernel, rfl, by decide +kernel, (show ∀ y : Str × NameKind, y ∈ _ → y.2 = NameKind.free → (defScope s__law_arrow).names.lookup y.1 = some .cell ∨ (defScope s__law_arrow).names.lookup y.1 = some .free from by decide +kernel), (.cons rfl (.inl rfl) rfl (.cons rfl (.inl rfl) rfl .nil))⟩ (pi_range1 rfl T.m_range (pa_cons pe_int pa_nil se_con)) (fun _ _ _ _ => pg_name (i := 0) (show (["k", "pot", "great"] : List Str).Nodup from by decide +kernel) rfl (Or.inl rfl)) (fun _ _ _ _ => pts_nil) (fun _ _ _ _ => (pe_callD d__law_number (hr.mono (by decide)) rfl pass0 (pa_cons (pv 1) (pa_cons (pv 2) pa_nil se_nam) se_nam)))) pa_nil se_cmp)))
    (pss_cons (ps_if (pt_cmpR (op_eqD (un64 hr)) (pv 2) (pe_tup (pa_cons pe_int (pa_cons pe_int (pa_cons pe_int pa_nil se_con) se_con) se_con)) (nomark _))
    (pss_one (ps_ret (pe_tup (pa_cons pe_int (pa_cons pe_int (pa_cons pe_int pa_nil se_con) se_con) se_con))))
    pss_nil)
    (pss_one (ps_ret (pv 2))))), ?_⟩
  try walk_at "rf"
  refine ⟨by decide, by decide, fun acc hacc => compRpB (L := L) (n := 3) (fun _ y => ∃ d : Int, y = .int d ∧ Bd 20 d) (by decide) hacc hL (fun i H3 R hi s3 b3 hR => ?_) fun ys H1 s1 b1 e1 l1 p1 => ?_⟩
  · walk_at "rf"
    exact ⟨L, g, rfl, b3, fun H4 d s4 b4 hd => hR _ _ s4 b4 ⟨d, rfl, hd⟩⟩
  obtain ⟨a, b, c, rfl, ha, hb, hc⟩ := three (p := fun _ => True) l1 p1
  have k1 : SqL K H1 acc [.int a, .int b, .int c] := SqL.of e1
  try walk_at "rf"
  refine ⟨_, .inl ⟨k1, fun l hl => ?_⟩⟩
  have s2 := Same.new hl (.tup [V.int a, V.int b, V.int c])
  have e2 : upd H1 l (.tup [V.int a, V.int b, V.int c]) l = some (.tup [V.int a, V.int b, V.int c]) := upd_same
  generalize upd H1 l (.tup [V.int a, V.int b, V.int c]) = H2 at s2 e2 ⊢
  have b2 := b1.same s2
  refine ⟨by decide, fun z hz => ?_⟩
  have s3 := Same.new hz (.tup [V.int 0, V.int 0, V.int 0])
  have e3 : upd H2 z (.tup [V.int 0, V.int 0, V.int 0]) z = some (.tup [V.int 0, V.int 0, V.int 0]) := upd_same
  generalize upd H2 z (.tup [V.int 0, V.int 0, V.int 0]) = H3 at s3 e3 ⊢
  refine eqT_ints (x := [a, b, c]) (y := [0, 0, 0]) (SqT.of (s3 _ _ e2)) (SqT.of e3) ?_
  try walk_at "rf"
  by_cases c0 : a = 0 ∧ b = 0 ∧ c = 0
  · rw [if_pos c0]
    exact ⟨by decide, fun p hp => q p _ 0 1 0 (s1.trans ((s2.trans s3).trans (Same.new hp _)).b) ((b2.same s3).same (Same.new hp _)) ⟨upd_same, by unfold Bd; decide, by unfold Bd; decide, by unfold Bd; decide⟩ (fun z => by have := z.2.1; omega)⟩
  · rw [if_neg c0]
    exact q l _ a b c (s1.trans (s2.trans s3).b) (b2.same s3) ⟨s3 _ _ e2, ha, hb, hc⟩ c0
theorem ok_other2 (T : Tx K mg t1 t2) (F : At K mg "_law_other" s__law_other ["pot", "great", "lead"] []) (d__law_arrow : DefOk P w K mg base CX0 3 "_law_arrow" ["pot", "great"] [] spArrow2) (d__law_cross : DefOk P w K mg base CX0 1 "_law_cross" ["one", "other"] [] spCr) : DefOk P w K mg base CX0 4 "_law_other" ["pot", "great", "lead"] [] spOther2 := by
  refine F.ok sc__law_other (fun vs H Q E h => ?_) (fun f cdv A outer s H vs Q E hr h => ?_)
  · obtain ⟨L, l, g, x, y, z, rfl, _⟩ := h
    rfl
  obtain ⟨L, l, g, x, y, z, rfl, hL, hl, nl, q⟩ := h
  have S := sc__law_other
  refine ⟨_, (pss_cons (ps_set (i := 3) S.nd rfl (Or.inl rfl) (pe_callD d__law_arrow (hr.mono (by decide)) rfl pass0 (pa_cons (pv 0) (pa_cons (pv 1) pa_nil se_nam) se_nam)))
    (pss_cons (ps_for PassesOwn.never rfl (pi_list (pe_lst (pa_cons (pv 3) (pa_cons (pe_tup (pa_cons pe_int (pa_cons pe_int (pa_cons pe_int pa_nil se_con) se_con) se_con)) (pa_cons (pe_tup (pa_cons pe_int (pa_cons pe_int (pa_cons pe_int pa_nil se_con) se_con) se_con)) pa_nil se_tup) se_tup) se_nam))) (pg_name (i := 4) S.nd rfl (Or.inl rfl))
    (pss_one (ps_if (pt_cmpR (op_neD (un64 hr)) (pe_callD d__law_cross (hr.mono (by decide)) rfl pass0 (pa_cons (pv 2) (pa_cons (pv 4) pa_nil se_nam) se_nam)) (pe_tup (pa_cons pe_int (pa_cons pe_int (pa_cons pe_int pa_nil se_con) se_con) se_con)) (nomark _))
    (pss_cons (ps_set (i := 3) S.nd rfl (Or.inl rfl) (pv 4))
    (pss_one ps_break))
    pss_nil)))
    (pss_one (ps_ret (pv 3))))), ?_⟩
  try walk_at "rf"
  refine ⟨L, g, rfl, hL, fun r H1 a b c s1 b1 h1 nz1 => ?_⟩
  try walk_at "rf"
  refine ⟨by decide, fun p hp => ⟨by decide, fun p' hp' => ⟨by decide, fun p'' hp'' => ?_⟩⟩⟩
  have j1 := Same.new hp (.tup [V.int 1, V.int 0, V.int 0])
  have i1 : Is3 20 (upd H1 p (.tup [V.int 1, V.int 0, V.int 0])) p 1 0 0 := ⟨upd_same, by unfold Bd; decide, by unfold Bd; decide, by unfold Bd; decide⟩
  generalize upd H1 p (.tup [V.int 1, V.int 0, V.int 0]) = J1 at j1 i1 hp' hp'' ⊢
  have j2 := Same.new hp' (.tup [V.int 0, V.int 1, V.int 0])
  have i2 : Is3 20 (upd J1 p' (.tup [V.int 0, V.int 1, V.int 0])) p' 0 1 0 := ⟨upd_same, by unfold Bd; decide, by unfold Bd; decide, by unfold Bd; decide⟩
  generalize upd J1 p' (.tup [V.int 0, V.int 1, V.int 0]) = J2 at j2 i2 hp'' ⊢
  have j3 := Same.new hp'' (.lst [V.ref r, V.ref p, V.ref p'])
  have i3 : upd J2 p'' (.lst [V.ref r, V.ref p, V.ref p']) p'' = some (.lst [V.ref r, V.ref p, V.ref p']) := upd_same
  generalize upd J2 p'' (.lst [V.ref r, V.ref p, V.ref p']) = J3 at j3 i3 ⊢
  have all : ∀ v ∈ [V.ref r, V.ref p, V.ref p'], ∃ (u : Addr) (a b c : Int), v = .ref u ∧ Is3 20 J3 u a b c := fun v hv => by
    rcases List.mem_cons.mp hv with rfl | hv
    · exact ⟨r, a, b, c, rfl, j3 _ _ (j2 _ _ (j1 _ _ h1.1)), h1.2⟩
    rcases List.mem_cons.mp hv with rfl | hv
    · exact ⟨p, _, _, _, rfl, j3 _ _ (j2 _ _ i1.1), i1.2⟩
    rw [List.mem_singleton] at hv; subst hv
    exact ⟨p', _, _, _, rfl, j3 _ _ i2.1, i2.2⟩
  have b3 := ((b1.same j1).same j2).same j3
  have s3 : SameB L H J3 := s1.trans ((j1.trans j2).trans j3).b
  have hl3 : Is3 20 J3 l x y z := ⟨SameB.tp s3 hL _ _ hl.1, hl.2⟩
  refine ⟨⟨_, SqL.of i3⟩, for_list (K := K) (a := p'') (xs := [V.ref r, V.ref p, V.ref p']) (fun i σ J => Same J3 J ∧ (2 ≤ i → y = 0 ∧ z = 0) ∧ (3 ≤ i → x = 0) ∧ ∃ (u : Addr) (a b c : Int) (o : Option V), σ = [some (.ref L), some (.bl g), some (.ref l), some (.ref u), o] ∧ Is3 20 J u a b c) ⟨fun _ _ z => z, fun h => absurd h (by decide), fun h => absurd h (by decide), r, a, b, c, none, rfl, j3 _ _ (j2 _ _ (j1 _ _ h1.1)), h1.2⟩ ?_ ?_ ?_⟩
  · rintro i σ J hi ⟨sJ, _⟩
    exact SqL.of (sJ _ _ i3)
  · rintro i v σ J hv ⟨sJ, w1, w2, u, a', b', c', o, rfl, iu⟩
    obtain ⟨t, ta, tb, tc, rfl, it⟩ := all v (List.mem_of_getElem? hv)
    have k1 : i = 1 → ta = 1 ∧ tb = 0 ∧ tc = 0 := fun hi => by
      subst hi
      have e : V.ref p = V.ref t := Option.some.inj hv
      cases e
      have e2 := (j3 _ _ (j2 _ _ i1.1)).symm.trans it.1
      simp only [Option.some.injEq, HO.tup.injEq, List.cons.injEq, V.int.injEq] at e2
      omega
    have k2 : i = 2 → ta = 0 ∧ tb = 1 ∧ tc = 0 := fun hi => by
      subst hi
      have e : V.ref p' = V.ref t := Option.some.inj hv
      cases e
      have e2 := (j3 _ _ i2.1).symm.trans it.1
      simp only [Option.some.injEq, HO.tup.injEq, List.cons.injEq, V.int.injEq] at e2
      omega
    have i3' : i < 3 := (List.getElem?_eq_some_iff.mp hv).1
    try walk_at "rf"
    refine ⟨l, t, x, y, z, ta, tb, tc, rfl, ⟨sJ _ _ hl3.1, Bd.mono hl3.2.1, Bd.mono hl3.2.2.1, Bd.mono hl3.2.2.2⟩, ⟨sJ _ _ it.1, Bd.mono it.2.1, Bd.mono it.2.2.1, Bd.mono it.2.2.2⟩, fun c9 J4 s4 e4 => ⟨by decide, fun z9 hz9 => ?_⟩⟩
    have s5 := Same.new hz9 (.tup [V.int 0, V.int 0, V.int 0])
    refine neT_ints (x := [_, _, _]) (y := [0, 0, 0]) (SqT.of (s5 _ _ e4)) (SqT.of upd_same) ?_
    try walk_at "rf"
    have h6 : Same J (upd J4 z9 (.tup [V.int 0, V.int 0, V.int 0])) := s4.trans s5
    refine ite2 (fun c0 => ?_) fun c0 => ?_
    · have y1 : 2 ≤ i + 1 → y = 0 ∧ z = 0 := fun h => by
        by_cases c : i = 1
        · obtain ⟨q1, q2, q3⟩ := k1 c
          rw [q1, q2, q3] at c0
          omega
        · exact w1 (by omega)
      have y2 : 3 ≤ i + 1 → x = 0 := fun h => by
        obtain ⟨q1, q2, q3⟩ := k2 (by omega)
        rw [q1, q2, q3] at c0
        omega
      first | exact ⟨sJ.trans h6, y1, y2, a', b', c', h6 _ _ iu.1, iu.2⟩
    · exact q t _ ta tb tc (s3.trans (sJ.trans h6).b) (b3.same (sJ.trans h6)) ⟨h6 _ _ (sJ _ _ it.1), it.2⟩ c0
  · rintro σ J ⟨sJ, w1, w2, u, a', b', c', o, rfl, iu⟩
    try walk_at "rf"
    exact absurd ⟨w2 (Nat.le_refl 3), (w1 (by show 2 ≤ 3; decide)).1, (w1 (by show 2 ≤ 3; decide)).2⟩ nl
def Tgt (ep cp : Pt) (a1 a2 a3 u1 u2 u3 : Int) : Prop := (Bd 44 ep.x ∧ Bd 44 ep.y ∧ Bd 44 ep.z ∧ ep.w ≤ 3) ∧ (Bd 20 cp.x ∧ Bd 20 cp.y ∧ Bd 20 cp.z ∧ cp.w ≤ 3) ∧ (Bd 20 a1 ∧ Bd 20 a2 ∧ Bd 20 a3) ∧ Bd 20 u1 ∧ Bd 20 u2 ∧ Bd 20 u3
def spFrame : Sp := fun vs H Q _ => ∃ L : Addr, vs = [.ref L] ∧ PBox H L ∧ ∀ (H' : Hp) (f e c a u : Addr) (ep cp : Pt) (a1 a2 a3 u1 u2 u3 : Int), SameB L H H' → PBox H' L → Frm H' f e c a u ep cp a1 a2 a3 u1 u2 u3 → hN ep cp a1 a2 a3 u1 u2 u3 ≠ 0 → Tgt ep cp a1 a2 a3 u1 u2 u3 → Q (.ref f) H'
theorem hN_dot (ep cp : Pt) (a1 a2 a3 u1 u2 u3 : Int) : hN ep cp a1 a2 a3 u1 u2 u3 = -((a2 * u3 - a3 * u2) * (ep.x * cp.w - cp.x * ep.w) + (a3 * u1 - a1 * u3) * (ep.y * cp.w - cp.y * ep.w) + (a1 * u2 - a2 * u1) * (ep.z * cp.w - cp.z * ep.w)) ∨ hN ep cp a1 a2 a3 u1 u2 u3 = ((a2 * u3 - a3 * u2) * (ep.x * cp.w - cp.x * ep.w) + (a3 * u1 - a1 * u3) * (ep.y * cp.w - cp.y * ep.w) + (a1 * u2 - a2 * u1) * (ep.z * cp.w - cp.z * ep.w)) := by
  unfold hN hgt minor
  first
    | (right; simp only [wo, detL, det3]; simp; grind)
    | (left; simp only [wo, detL, det3]; simp; grind)
theorem sq_pos {n : Int} (h : n ≠ 0) : 0 < n * n := by
  rcases Int.lt_or_gt_of_ne h with c | c
  · exact Int.mul_pos_of_neg_of_neg c c
  · exact Int.mul_pos c c
theorem sq_nn (n : Int) : 0 ≤ n * n := by
  by_cases h : n = 0
  · rw [h]; decide
  · exact Int.le_of_lt (sq_pos h)
theorem n3_pos {a b c : Int} (h : N3 a b c) : 0 < a * a + b * b + c * c := by
  have h1 := sq_nn a
  have h2 := sq_nn b
  have h3 := sq_nn c
  by_cases ha : a = 0
  · by_cases hb : b = 0
    · have := sq_pos (n := c) (fun hc => h ⟨ha, hb, hc⟩); omega
    · have := sq_pos hb; omega
  · have := sq_pos ha; omega
theorem hN_new {p cp : Pt} {a1 a2 a3 u1 u2 u3 : Int} (w0 : 1 ≤ cp.w) (p0 : 1 ≤ p.w) (n : crs a1 a2 a3 u1 u2 u3)
    (e1 : p.x * cp.w = (cp.x + cp.w * (a2 * u3 - a3 * u2)) * p.w) (e2 : p.y * cp.w = (cp.y + cp.w * (a3 * u1 - a1 * u3)) * p.w) (e3 : p.z * cp.w = (cp.z + cp.w * (a1 * u2 - a2 * u1)) * p.w) : hN p cp a1 a2 a3 u1 u2 u3 ≠ 0 := by
  have hd := hN_dot p cp a1 a2 a3 u1 u2 u3
  have hp := n3_pos n
  revert hd hp
  rw [e1, e2, e3]
  generalize a2 * u3 - a3 * u2 = X
  generalize a3 * u1 - a1 * u3 = Y
  generalize a1 * u2 - a2 * u1 = Z
  intro hd hp
  have e : X * ((cp.x + cp.w * X) * p.w - cp.x * p.w) + Y * ((cp.y + cp.w * Y) * p.w - cp.y * p.w) + Z * ((cp.z + cp.w * Z) * p.w - cp.z * p.w) = (cp.w * p.w) * (X * X + Y * Y + Z * Z) := by grind
  rw [e] at hd
  have := Int.mul_pos (Int.mul_pos (show 0 < cp.w by omega) (show 0 < p.w by omega)) hp
  omega
theorem ok_frame (T : Tx K mg t1 t2) (F : At K mg "_law_frame" s__law_frame ["pot"] []) (d__law_take : DefOk P w K mg base CX0 1 "_law_take" ["pot", "many"] [] spTake) (d__law_spot : DefOk P w K mg base CX0 4 "_law_spot" ["pot", "great"] [] spSpot) (d__law_arrow : DefOk P w K mg base CX0 3 "_law_arrow" ["pot", "great"] [] spArrow2) (d__law_other : DefOk P w K mg base CX0 4 "_law_other" ["pot", "great", "lead"] [] spOther2) (d__law_cross : DefOk P w K mg base CX0 1 "_law_cross" ["one", "other"] [] spCr) (d__law_dot : DefOk P w K mg base CX0 1 "_law_dot" ["one", "other"] [] spDot) (d__law_way : DefOk P w K mg base CX0 1 "_law_way" ["one", "other"] [] spWay) (d_made_spot : DefOk P w K mg base CX0 3 "made_spot" ["x", "y", "z", "w"] [] spMSpot) (d_made_frame : DefOk P w K mg base CX0 5 "made_frame" ["eye", "corner", "across", "up"] [] spMF0) : DefOk P w K mg base CX0 6 "_law_frame" ["pot"] [] spFrame := by
  refine F.ok sc__law_frame (fun vs H Q E h => ?_) (fun f cdv A outer s H vs Q E hr h => ?_)
  · obtain ⟨L, rfl, _⟩ := h
    rfl
  obtain ⟨L, rfl, hL, q⟩ := h
  have S := sc__law_frame
  refine ⟨_, (pss_cons (ps_set (i := 1) S.nd rfl (Or.inl rfl) (pe_cmpR op_eq (pe_callD d__law_take (hr.mono (by decide)) rfl pass0 (pa_cons (pv 0) (pa_cons pe_int pa_nil se_con) se_nam)) pe_int (nomark _)))
    (pss_cons (ps_set (i := 2) S.nd rfl (Or.inr rfl) (pe_callD d__law_spot (hr.mono (by decide)) rfl pass0 (pa_cons (pv 0) (pa_cons (pv 1) pa_nil se_nam) se_nam)))
    (pss_cons (ps_set (i := 3) S.nd rfl (Or.inl rfl) (pe_callD d__law_arrow (hr.mono (by decide)) rfl pass0 (pa_cons (pv 0) (pa_cons (pv 1) pa_nil se_nam) se_nam)))
    (pss_cons (ps_set (i := 4) S.nd rfl (Or.inl rfl) (pe_callD d__law_other (hr.mono (by decide)) rfl pass0 (pa_cons (pv 0) (pa_cons (pv 1) (pa_cons (pv 3) pa_nil se_nam) se_nam) se_nam)))
    (pss_cons (ps_set (i := 5) S.nd rfl (Or.inl rfl) (pe_callD d__law_spot (hr.mono (by decide)) rfl pass0 (pa_cons (pv 0) (pa_cons (pv 1) pa_nil se_nam) se_nam)))
    (pss_cons (ps_set (i := 6) S.nd rfl (Or.inr rfl) (pe_callD d__law_cross (hr.mono (by decide)) rfl pass0 (pa_cons (pv 3) (pa_cons (pv 4) pa_nil se_nam) se_nam)))
    (pss_cons (ps_if (pt_cmpR op_eq (pe_callD d__law_dot (hr.mono (by decide)) rfl pass0 (pa_cons (pv 6) (pa_cons (pe_callD d__law_way (hr.mono (by decide)) rfl pass0 (pa_cons (pv 5) (pa_cons (pv 2) pa_nil se_nam) se_nam)) pa_nil se_cal) se_nam)) pe_int (nomark _))
    (pss_cons (ps_setComp (i := 7) rfl S.nd rfl rfl (N' := ["k", "corner", "upright"]) (ix := [2, 6]) ⟨rfl, rfl, by decide +kernel, by decide +kernel, rfl, by decide +kernel, (show ∀ y : Str × NameKind, y ∈ _ → y.2 = NameKind.free → (defScope s__law_frame).names.lookup y.1 = some .cell ∨ (defScope s__law_frame).names.lookup y.1 = some .free from by decide +kernel), (.cons rfl (.inl rfl) rfl (.cons rfl (.inl rfl) rfl .nil))⟩ (pi_range1 rfl T.m_range (pa_cons pe_int pa_nil se_con)) (fun _ _ _ _ => pg_name (i := 0) (show (["k", "corner", "upright"] : List Str).Nodup from by decide +kernel) rfl (Or.inl rfl)) (fun _ _ _ _ => pts_nil) (fun _ _ _ _ => (pe_op op_add (pe_ix (ix_tupK (K := K) rfl) (pv 1) (pv 0) (fun _ _ => rfl)) (pe_op op_mulB (pe_ix (ix_tupK (K := K) rfl) (pv 1) pe_int (fun _ _ => rfl)) (pe_ix (ix_tupK (K := K) rfl) (pv 2) (pv 0) (fun _ _ => rfl))))))
    (pss_one (ps_set (i := 5) S.nd rfl (Or.inl rfl) (pe_callD d_made_spot (hr.mono (by decide)) rfl pass0 (pa_cons (pe_ix ix_list (pv 7) pe_int (fun _ _ => rfl)) (pa_cons (pe_ix ix_list (pv 7) pe_int (fun _ _ => rfl)) (pa_cons (pe_ix ix_list (pv 7) pe_int (fun _ _ => rfl)) (pa_cons (pe_ix ix_tup (pv 2) pe_int (fun _ _ => rfl)) pa_nil se_sub) se_sub) se_sub) se_sub)))))
    pss_nil)
    (pss_one (ps_ret (pe_callD d_made_frame (hr.mono (by decide)) rfl pass0 (pa_cons (pv 5) (pa_cons (pv 2) (pa_cons (pv 3) (pa_cons (pv 4) pa_nil se_nam) se_nam) se_nam) se_nam))))))))))), ?_⟩
  try walk_at "rf"
  refine ⟨L, 4, rfl, hL, by decide, by decide, fun J1 d s1 b1 d0 d4 => ?_⟩
  try walk_at "rf"
  refine ⟨L, _, rfl, b1, fun c J2 cp s2 b2 ic bc => ?_⟩
  try walk_at "rf"
  refine ⟨L, _, rfl, b2, fun a J3 a1 a2 a3 s3 b3 ia na => ?_⟩
  try walk_at "rf"
  refine ⟨L, a, _, a1, a2, a3, rfl, b3, ia, na, fun u J4 u1 u2 u3 s4 b4 iu nu => ?_⟩
  try walk_at "rf"
  refine ⟨L, _, rfl, b4, fun e J5 ep s5 b5 ie be => ?_⟩
  have t5 := SameB.tp s5 b4
  have t45 := (SameB.tp s4 b3).trans t5
  have ia5 := ia.keep t45
  have iu5 := iu.keep t5
  have ic5 := ic.kt ((SameB.tp s3 b2).trans t45)
  have i3 : ∀ {n m : Nat} {H : Hp} {r : Addr} {a b c : Int}, Is3 n H r a b c → n ≤ m → Is3 m H r a b c := fun h hm => ⟨h.1, Bd.mono h.2.1 hm, Bd.mono h.2.2.1 hm, Bd.mono h.2.2.2 hm⟩
  have S5 := (((s1.trans s2).trans s3).trans s4).trans s5
  clear s1 s2 s3 s4 s5 t5 t45 ia iu ic b1 b2 b3 b4
  try walk_at "rf"
  refine ⟨a, u, a1, a2, a3, u1, u2, u3, rfl, i3 ia5 (by decide), i3 iu5 (by decide), fun g J6 s6 e6 => ?_⟩
  try walk_at "rf"
  refine ⟨e, c, ep, cp, rfl, ie.keep s6, ic5.keep s6, fun l J7 s7 e7 => ?_⟩
  try walk_at "rf"
  have U1 : Bd 41 (a2 * u3 - a3 * u2) := Bd.sub (Bd.mul ia5.2.2.1 iu5.2.2.2) (Bd.mul ia5.2.2.2 iu5.2.2.1)
  have U2 : Bd 41 (a3 * u1 - a1 * u3) := Bd.sub (Bd.mul ia5.2.2.2 iu5.2.1) (Bd.mul ia5.2.1 iu5.2.2.2)
  have U3 : Bd 41 (a1 * u2 - a2 * u1) := Bd.sub (Bd.mul ia5.2.1 iu5.2.2.1) (Bd.mul ia5.2.2.1 iu5.2.1)
  have lc := bc.lw
  have le := be.lw
  have W1 : Bd 300 (cp.x * ep.w - ep.x * cp.w) := Bd.mono (Bd.sub (Bd.mul lc.1 le.2.2.2.1) (Bd.mul le.1 lc.2.2.2.1))
  have W2 : Bd 300 (cp.y * ep.w - ep.y * cp.w) := Bd.mono (Bd.sub (Bd.mul lc.2.1 le.2.2.2.1) (Bd.mul le.2.1 lc.2.2.2.1))
  have W3 : Bd 300 (cp.z * ep.w - ep.z * cp.w) := Bd.mono (Bd.sub (Bd.mul lc.2.2.1 le.2.2.2.1) (Bd.mul le.2.2.1 lc.2.2.2.1))
  have hd := hN_dot ep cp a1 a2 a3 u1 u2 u3
  have S7 := s6.trans s7
  refine ⟨g, l, _, _, _, _, _, _, rfl, ⟨s7 _ _ e6, Bd.mono U1, Bd.mono U2, Bd.mono U3⟩, ⟨e7, W1, W2, W3⟩, rfl, ?_⟩
  refine ite2 (fun c0 => ⟨by decide, by decide, fun acc hacc => ?_⟩) fun c0 => ?_
  · have ig : Is3 41 J7 g (a2 * u3 - a3 * u2) (a3 * u1 - a1 * u3) (a1 * u2 - a2 * u1) := ⟨s7 _ _ e6, U1, U2, U3⟩
    generalize hX : a2 * u3 - a3 * u2 = X at *
    generalize hY : a3 * u1 - a1 * u3 = Y at *
    generalize hZ : a1 * u2 - a2 * u1 = Z at *
    have ic7 := ic5.keep S7
    refine compR (n := 3) (fun i => .int ([cp.x + cp.w * X, cp.y + cp.w * Y, cp.z + cp.w * Z].getD i 0)) (by decide) hacc (fun i H3 R hi s3 hR => ?_) fun J8 s8 e8 => ?_
    · have k1 := (ic7.keep s3).sq (K := K)
      have k2 : SqT K H3 g [.int X, .int Y, .int Z] := SqT.of (s3 _ _ ig.1)
      have g1 := ic7.2.fx
      have g2 := ic7.2.fy
      have g3 := ic7.2.fz
      have g4 := ic7.2.fw
      have g5 : Fit X := U1.fit
      have g6 : Fit Y := U2.fit
      have g7 : Fit Z := U3.fit
      have hRR := hR H3 (fun _ _ z => z)
      match i, hi, hRR with
      | 0, _, hRR => (try walk_at "rf"); walk_at "gf"; exact hRR
      | 1, _, hRR => (try walk_at "rf"); walk_at "gf"; exact hRR
      | 2, _, hRR => (try walk_at "rf"); walk_at "gf"; exact hRR
    have k8 : SqL K J8 acc [.int (cp.x + cp.w * X), .int (cp.y + cp.w * Y), .int (cp.z + cp.w * Z)] := SqL.of e8
    have kc := (ic7.keep s8).sq (K := K)
    have bw : Bd 2 cp.w := by have := bc.2.2.2; unfold Bd; omega
    have nx : Bd 44 (cp.x + cp.w * X) := Bd.add (n := 43) (Bd.mono bc.1) (Bd.mul bw U1)
    have ny : Bd 44 (cp.y + cp.w * Y) := Bd.add (n := 43) (Bd.mono bc.2.1) (Bd.mul bw U2)
    have nz : Bd 44 (cp.z + cp.w * Z) := Bd.add (n := 43) (Bd.mono bc.2.2.1) (Bd.mul bw U3)
    have q0 : ∀ {n : Int}, Bd 44 n → Small n := fun {n} h => Bd.mono (n := 44) h
    have w1 := bc.2.2.2.1
    refine ixL k8 (i := 0) rfl (ixL k8 (i := 1) rfl (ixL k8 (i := 2) rfl (ixT kc (i := 3) rfl ⟨_, _, _, _, rfl, q0 nx, q0 ny, q0 nz, q0 (Bd.mono bw), by omega, fun r J9 s9 e9 => ?_⟩)))
    obtain ⟨p, epp, p1, p2, p3, p4, p5, p6, p7, p8, p9⟩ := low_pt (x := cp.x + cp.w * X) (y := cp.y + cp.w * Y) (z := cp.z + cp.w * Z) (w := cp.w) (by omega)
    rw [epp] at e9
    have Bx : Bd 44 p.x := Nat.lt_of_le_of_lt p6 nx
    have By : Bd 44 p.y := Nat.lt_of_le_of_lt p7 ny
    have Bz : Bd 44 p.z := Nat.lt_of_le_of_lt p8 nz
    have Bw : Bd 44 p.w := Nat.lt_of_le_of_lt (show p.w.natAbs ≤ cp.w.natAbs by omega) (Bd.mono (m := 44) bw)
    have s89 := s8.trans s9
    have ir : Is4 J9 r p := ⟨e9, Bd.mono Bx, Bd.mono By, Bd.mono Bz, Bd.mono Bw⟩
    have lr : Lw p := ⟨Bd.mono Bx, Bd.mono By, Bd.mono Bz, Bd.mono Bw, p1⟩
    have S9 := S7.trans s89
    have ia9 := i3 (ia5.keep S9.t) (show 20 ≤ 50 by decide)
    have iu9 := i3 (iu5.keep S9.t) (show 20 ≤ 50 by decide)
    subst hX hY hZ
    have hn := hN_new w1 p1 nu p3 p4 p5
    refine ⟨r, c, a, u, p, cp, a1, a2, a3, u1, u2, u3, rfl, ir, lr, ic7.keep s89, lc, ia9, iu9, hn, fun f J s e => ?_⟩
    exact q J f r c a u p cp a1 a2 a3 u1 u2 u3 (S5.trans (S9.trans s).b) (b5.same (S9.trans s)) ⟨e, ir.keep s, lr, (ic7.keep s89).keep s, lc, ia9.keep s.t, iu9.keep s.t⟩ hn ⟨⟨Bx, By, Bz, by have := bc.2.2.2; omega⟩, ⟨bc.1, bc.2.1, bc.2.2.1, bc.2.2.2.2⟩, ia5.2, iu5.2⟩
  · have ia9 := i3 (ia5.keep S7.t) (show 20 ≤ 50 by decide)
    have iu9 := i3 (iu5.keep S7.t) (show 20 ≤ 50 by decide)
    have hn : hN ep cp a1 a2 a3 u1 u2 u3 ≠ 0 := fun h => c0 (congrArg V.int (by rw [h] at hd; rcases hd with hd | hd <;> grind))
    refine ⟨e, c, a, u, ep, cp, a1, a2, a3, u1, u2, u3, rfl, ie.keep S7, le, ic5.keep S7, lc, ia9, iu9, hn, fun f J s e' => ?_⟩
    exact q J f e c a u ep cp a1 a2 a3 u1 u2 u3 (S5.trans (S7.trans s).b) (b5.same (S7.trans s)) ⟨e', (ie.keep S7).keep s, le, (ic5.keep S7).keep s, lc, ia9.keep s.t, iu9.keep s.t⟩ hn ⟨⟨Bd.mono be.1, Bd.mono be.2.1, Bd.mono be.2.2.1, be.2.2.2.2⟩, ⟨bc.1, bc.2.1, bc.2.2.1, bc.2.2.2.2⟩, ia5.2, iu5.2⟩
def St (x y z w : Int) : Prop := Bd 60 x ∧ Bd 60 y ∧ Bd 60 z ∧ 1 ≤ w ∧ w ≤ 100
def spStart : Sp := fun vs H Q _ => ∃ (L f e c a u : Addr) (ep cp : Pt) (a1 a2 a3 u1 u2 u3 : Int), vs = [.ref f, .ref L] ∧ PBox H L ∧ Frm H f e c a u ep cp a1 a2 a3 u1 u2 u3 ∧ Tgt ep cp a1 a2 a3 u1 u2 u3 ∧ ∀ (H' : Hp) (l : Addr) (x y z w : Int), SameB L H H' → PBox H' L → H l = none → H' l = some (.lst [.int x, .int y, .int z, .int w]) → St x y z w → Q (.ref l) H'
theorem sb_none {L p : Addr} {H J : Hp} (s : SameB L H J) (b : PBox J L) (n : J p = none) : H p = none := by
  cases h : H p with
  | none => rfl
  | some o => exact absurd ((s p o (b.ne n) h).symm.trans n) (by simp)
theorem ok_start (T : Tx K mg t1 t2) (F : At K mg "_law_start" s__law_start ["frame", "pot"] []) (d__law_take : DefOk P w K mg base CX0 1 "_law_take" ["pot", "many"] [] spTake) : DefOk P w K mg base CX0 2 "_law_start" ["frame", "pot"] [] spStart := by
  refine F.ok sc__law_start (fun vs H Q E h => ?_) (fun f cdv A outer s H vs Q E hr h => ?_)
  · obtain ⟨L, f, e, c, a, u, ep, cp, a1, a2, a3, u1, u2, u3, rfl, _⟩ := h
    rfl
  obtain ⟨L, f, e, c, a, u, ep, cp, a1, a2, a3, u1, u2, u3, rfl, hL, hF, hT, q⟩ := h
  have S := sc__law_start
  refine ⟨_, (pss_cons (ps_asg (pv 0) (pg_tup rfl (pgs_cons (pg_name (i := 2) S.nd rfl (Or.inl rfl)) (pgs_cons (pg_name (i := 3) S.nd rfl (Or.inl rfl)) (pgs_cons (pg_name (i := 4) S.nd rfl (Or.inl rfl)) (pgs_cons (pg_name (i := 5) S.nd rfl (Or.inl rfl)) pgs_nil))))))
    (pss_cons (ps_set (i := 6) S.nd rfl (Or.inl rfl) (pe_callD d__law_take (hr.mono (by decide)) rfl pass0 (pa_cons (pv 1) (pa_cons pe_int pa_nil se_con) se_nam)))
    (pss_cons (ps_set (i := 7) S.nd rfl (Or.inl rfl) (pe_callD d__law_take (hr.mono (by decide)) rfl pass0 (pa_cons (pv 1) (pa_cons pe_int pa_nil se_con) se_nam)))
    (pss_cons (ps_set (i := 8) S.nd rfl (Or.inl rfl) (pe_op op_add pe_int (pe_callD d__law_take (hr.mono (by decide)) rfl pass0 (pa_cons (pv 1) (pa_cons pe_int pa_nil se_con) se_nam))))
    (pss_cons (ps_set (i := 9) S.nd rfl (Or.inl rfl) (pe_lst pa_nil))
    (pss_cons (ps_for PassesOwn.never rfl (pi_range1 rfl T.m_range (pa_cons pe_int pa_nil se_con)) (pg_name (i := 10) S.nd rfl (Or.inl rfl))
    (pss_cons (ps_set (i := 11) S.nd rfl (Or.inl rfl) (pe_op op_add (pe_op op_mulB (pv 6) (pe_ix ix_tup (pv 4) (pv 10) (fun _ _ => rfl))) (pe_op op_mulB (pv 7) (pe_ix ix_tup (pv 5) (pv 10) (fun _ _ => rfl)))))
    (pss_cons (ps_set (i := 11) S.nd rfl (Or.inl rfl) (pe_op op_add (pe_op op_mulB pe_int (pe_ix ix_tup (pv 3) (pv 10) (fun _ _ => rfl))) (pe_op op_mulB (pe_ix ix_tup (pv 3) pe_int (fun _ _ => rfl)) (pv 11))))
    (pss_one (ps_expr (pe_bm PySem.F.plainAttrs_list PySem.F.slot_list_append PySem.F.type_list_append mt_append (pv 9) (pa_cons (pe_op op_add (pe_op op_mulB (pe_op op_mulB (pe_op op_mulB (pe_op op_sub pe_int (pv 8)) (pe_ix ix_tup (pv 2) (pv 10) (fun _ _ => rfl))) pe_int) (pe_ix ix_tup (pv 3) pe_int (fun _ _ => rfl))) (pe_op op_mulB (pe_op op_mulB (pv 8) (pv 11)) (pe_ix ix_tup (pv 2) pe_int (fun _ _ => rfl)))) pa_nil se_bin)))))))
    (pss_one (ps_ret (pe_op op_cat (pv 9) (pe_lst (pa_cons (pe_op op_mulB (pe_op op_mulB (pe_op op_mulB pe_int pe_int) (pe_ix ix_tup (pv 3) pe_int (fun _ _ => rfl))) (pe_ix ix_tup (pv 2) pe_int (fun _ _ => rfl))) pa_nil se_bin))))))))))), ?_⟩
  have kf : SqT K H f [.ref e, .ref c, .ref a, .ref u] := SqT.of hF.1
  try walk_at "rf"
  refine ⟨_, kf, rfl, _, _, rfl, _, _, rfl, _, _, rfl, _, _, rfl, rfl, L, 5, rfl, hL, by decide, by decide, fun J1 d1 s1 b1 z1 y1 => ⟨L, 5, rfl, b1, by decide, by decide, fun J2 d2 s2 b2 z2 y2 => ⟨L, 3, rfl, b2, by decide, by decide, fun J3 d3 s3 b3 z3 y3 => ⟨d3, rfl, by decide, fun p hp => ⟨by decide, by decide, ?_⟩⟩⟩⟩⟩
  have S3 := (s1.trans s2).trans s3
  clear s1 s2 s3 b1 b2
  have s4 := Same.new hp (.lst [])
  have e4 : upd J3 p (.lst []) p = some (.lst []) := upd_same
  have hn := sb_none S3 b3 hp
  have nL := b3.ne hp
  generalize upd J3 p (.lst []) = J4 at s4 e4 ⊢
  have b4 := b3.same s4
  have S4 : SameB L H J4 := S3.trans s4.b
  have t4 := SameB.tp S4 hL
  obtain ⟨tE, tC, tA, tU⟩ := hT
  have lc := hF.2.2.2.2.1
  have le := hF.2.2.1
  have bcw : Bd 2 cp.w := by have := lc.2.2.2.2; have := tC.2.2.2; unfold Bd; omega
  have bew : Bd 2 ep.w := by have := le.2.2.2.2; have := tE.2.2.2; unfold Bd; omega
  have bd1 : Bd 3 d1 := by unfold Bd; omega
  have bd2 : Bd 3 d2 := by unfold Bd; omega
  have bd3 : Bd 2 (1 + d3) := by unfold Bd; omega
  have bd4 : Bd 1 (2 - (1 + d3)) := by unfold Bd; omega
  have f1 : Fit d1 := bd1.fit
  have f2 : Fit d2 := bd2.fit
  have f3 : Fit (1 + d3) := bd3.fit
  have f4 : Fit (2 - (1 + d3)) := bd4.fit
  have f5 : Fit cp.w := bcw.fit
  have f6 : Fit ep.w := bew.fit
  have B1 : ∀ {a u : Int}, Bd 20 a → Bd 20 u → Bd 24 (d1 * a + d2 * u) := fun ha hu => Bd.add (n := 23) (Bd.mul bd1 ha) (Bd.mul bd2 hu)
  have B2 : ∀ {c a u : Int}, Bd 20 c → Bd 20 a → Bd 20 u → Bd 27 (4 * c + cp.w * (d1 * a + d2 * u)) := fun hc ha hu => Bd.add (n := 26) (Bd.mono (Bd.mul (n := 3) (by unfold Bd; decide) hc)) (Bd.mul bcw (B1 ha hu))
  have B3 : ∀ {e : Int}, Bd 44 e → Bd 45 ((2 - (1 + d3)) * e) := fun he => Bd.mul bd4 he
  have B4 : ∀ {e : Int}, Bd 44 e → Bd 48 ((2 - (1 + d3)) * e * 4) := fun he => Bd.mul (m := 3) (B3 he) (by unfold Bd; decide)
  have B5 : ∀ {c a u : Int}, Bd 20 c → Bd 20 a → Bd 20 u → Bd 29 ((1 + d3) * (4 * c + cp.w * (d1 * a + d2 * u))) := fun hc ha hu => Bd.mul bd3 (B2 hc ha hu)
  have fin : ∀ {e c a u : Int}, Bd 44 e → Bd 20 c → Bd 20 a → Bd 20 u → Bd 60 ((2 - (1 + d3)) * e * 4 * cp.w + (1 + d3) * (4 * c + cp.w * (d1 * a + d2 * u)) * ep.w) := fun he hc ha hu => Bd.mono (Bd.add (n := 50) (Bd.mul (B4 he) bcw) (Bd.mono (Bd.mul (B5 hc ha hu) bew)))
  have a1' : Fit a1 := tA.1.fit
  have a2' : Fit a2 := tA.2.1.fit
  have a3' : Fit a3 := tA.2.2.fit
  have u1' : Fit u1 := tU.1.fit
  have u2' : Fit u2 := tU.2.1.fit
  have u3' : Fit u3 := tU.2.2.fit
  have c1' := hF.2.2.2.1.2.fx
  have c2' := hF.2.2.2.1.2.fy
  have c3' := hF.2.2.2.1.2.fz
  have e1' := hF.2.1.2.fx
  have e2' := hF.2.1.2.fy
  have e3' := hF.2.1.2.fz
  have F2 : Fit 2 := Bd.fit (n := 10) (by unfold Bd; decide)
  have F4 : Fit 4 := Bd.fit (n := 10) (by unfold Bd; decide)
  have F8 : Fit (2 * 4) := Bd.fit (n := 10) (by unfold Bd; decide)
  refine for_range (lo := 0) (n := 3) (fun i σ J => SameB L H J ∧ PBox J L ∧ SameT H J ∧ ∃ (o10 o11 : Option V) (ns : List Int), σ = [some (.ref f), some (.ref L), some (.ref e), some (.ref c), some (.ref a), some (.ref u), some (.int d1), some (.int d2), some (.int (1 + d3)), some (.ref p), o10, o11] ∧ J p = some (.lst (ns.map V.int)) ∧ ns.length = i ∧ ∀ n ∈ ns, Bd 60 n) ⟨S4, b4, t4, none, none, [], rfl, e4, rfl, fun j hj => by simp at hj⟩ ?_ ?_
  · rintro i σ J hi ⟨sJ, bJ, tJ, o10, o11, ns, rfl, eJ, lf, pf⟩
    have k1 : SqT K J a [.int a1, .int a2, .int a3] := SqT.of (tJ _ _ hF.2.2.2.2.2.1.1)
    have k2 : SqT K J u [.int u1, .int u2, .int u3] := SqT.of (tJ _ _ hF.2.2.2.2.2.2.1)
    have k3 := (hF.2.2.2.1.kt tJ).sq (K := K)
    have k4 := (hF.2.1.kt tJ).sq (K := K)
    have leaf : ∀ v : Int, Bd 60 v → (SameB L H (upd J p (.lst (ns.map V.int ++ [V.int v]))) ∧ PBox (upd J p (.lst (ns.map V.int ++ [V.int v]))) L ∧ SameT H (upd J p (.lst (ns.map V.int ++ [V.int v]))) ∧ ∃ x : List Int, (upd J p (.lst (ns.map V.int ++ [V.int v]))) p = some (.lst (x.map V.int)) ∧ x.length = i + 1 ∧ ∀ n ∈ x, Bd 60 n) := fun v hv => by
      refine ⟨sJ.acc hn, ?_, tJ.trans (SameT.upd eJ), ns ++ [v], by rw [List.map_append]; exact upd_same, by rw [List.length_append, lf]; rfl, fun n hn' => ?_⟩
      · obtain ⟨zs, z1, z2⟩ := bJ
        exact ⟨zs, by rw [upd_ne (Ne.symm nL)]; exact z1, z2⟩
      · rcases List.mem_append.mp hn' with h | h
        · exact pf n h
        · rw [List.mem_singleton] at h; subst h; exact hv
    have ll : (ns.map V.int).length < sizeLine := lt_line (by rw [List.length_map]; omega)
    match i, hi with
    | 0, _ =>
      have h1 : Fit _ := (B1 tA.1 tU.1).fit
      have h2 : Fit _ := (B2 tC.1 tA.1 tU.1).fit
      have h3 : Fit _ := (B3 tE.1).fit
      have h4 : Fit _ := (B4 tE.1).fit
      have h5 : Fit _ := (B5 tC.1 tA.1 tU.1).fit
      have h6 := leaf _ (fin tE.1 tC.1 tA.1 tU.1)
      try walk_at "rf"
      walk_at "gf"
      exact ⟨.inl ⟨_, SqL.of eJ⟩, ixT k4 rfl ⟨_, rfl, f4, by assumption, h3, F4, ixT k3 (i := 3) rfl ⟨_, rfl, h4, f5, f3, h2, ixT k4 (i := 3) rfl ⟨_, rfl, h5, f6, p, _, _, rfl, rfl, eJ, ll, h6⟩⟩⟩⟩
    | 1, _ =>
      have h1 : Fit _ := (B1 tA.2.1 tU.2.1).fit
      have h2 : Fit _ := (B2 tC.2.1 tA.2.1 tU.2.1).fit
      have h3 : Fit _ := (B3 tE.2.1).fit
      have h4 : Fit _ := (B4 tE.2.1).fit
      have h5 : Fit _ := (B5 tC.2.1 tA.2.1 tU.2.1).fit
      have h6 := leaf _ (fin tE.2.1 tC.2.1 tA.2.1 tU.2.1)
      try walk_at "rf"
      walk_at "gf"
      exact ⟨.inl ⟨_, SqL.of eJ⟩, ixT k4 rfl ⟨_, rfl, f4, by assumption, h3, F4, ixT k3 (i := 3) rfl ⟨_, rfl, h4, f5, f3, h2, ixT k4 (i := 3) rfl ⟨_, rfl, h5, f6, p, _, _, rfl, rfl, eJ, ll, h6⟩⟩⟩⟩
    | 2, _ =>
      have h1 : Fit _ := (B1 tA.2.2 tU.2.2).fit
      have h2 : Fit _ := (B2 tC.2.2.1 tA.2.2 tU.2.2).fit
      have h3 : Fit _ := (B3 tE.2.2.1).fit
      have h4 : Fit _ := (B4 tE.2.2.1).fit
      have h5 : Fit _ := (B5 tC.2.2.1 tA.2.2 tU.2.2).fit
      have h6 := leaf _ (fin tE.2.2.1 tC.2.2.1 tA.2.2 tU.2.2)
      try walk_at "rf"
      walk_at "gf"
      exact ⟨.inl ⟨_, SqL.of eJ⟩, ixT k4 rfl ⟨_, rfl, f4, by assumption, h3, F4, ixT k3 (i := 3) rfl ⟨_, rfl, h4, f5, f3, h2, ixT k4 (i := 3) rfl ⟨_, rfl, h5, f6, p, _, _, rfl, rfl, eJ, ll, h6⟩⟩⟩⟩
  · rintro σ J ⟨sJ, bJ, tJ, o10, o11, ns, rfl, eJ, lf, pf⟩
    try walk_at "rf"
    match ns, lf, eJ, pf with
    | [x, y, z], _, eJ, pf =>
    have k3 := (hF.2.2.2.1.kt tJ).sq (K := K)
    have k4 := (hF.2.1.kt tJ).sq (K := K)
    have cw1 := lc.2.2.2.2
    have ew1 := le.2.2.2.2
    have cw3 := tC.2.2.2
    have ew3 := tE.2.2.2
    have f8 : Fit (2 * 4 * cp.w) := Bd.fit (n := 10) (by unfold Bd; omega)
    refine ⟨F2, F4, ixT k3 (i := 3) rfl ⟨_, rfl, F8, f5, ixT k4 (i := 3) rfl ⟨_, rfl, f8, f6, by decide, fun p5 hp5 => ?_⟩⟩⟩
    have s5 := Same.new hp5 (.lst [V.int (2 * 4 * cp.w * ep.w)])
    have e5 : upd J p5 (.lst [V.int (2 * 4 * cp.w * ep.w)]) p5 = some (.lst [V.int (2 * 4 * cp.w * ep.w)]) := upd_same
    generalize upd J p5 (.lst [V.int (2 * 4 * cp.w * ep.w)]) = J5 at s5 e5 ⊢
    refine ⟨p, p5, _, _, rfl, rfl, s5 _ _ eJ, e5, Nat.le_of_lt (lt_line (show 3 + 1 < 1000 by decide)), fun p6 hp6 => ?_⟩
    have s6 := Same.new hp6 (.lst (List.map V.int [x, y, z] ++ [V.int (2 * 4 * cp.w * ep.w)]))
    have s56 := s5.trans s6
    have w9 : 2 * 4 * cp.w * ep.w ≤ 72 := by
      have h1 : cp.w * ep.w ≤ 3 * 3 := Int.mul_le_mul cw3 ew3 (by omega) (by decide)
      have h2 : 2 * 4 * cp.w * ep.w = 8 * (cp.w * ep.w) := by grind
      omega
    have w8 : 1 ≤ 2 * 4 * cp.w * ep.w := Int.mul_pos (by omega) (by omega)
    exact q _ p6 x y z _ (sJ.trans s56.b) (bJ.same s56) (sb_none (sJ.trans s5.b) (bJ.same s5) hp6) upd_same ⟨pf x (by simp), pf y (by simp), pf z (by simp), w8, by omega⟩
/-- a written thing: what it makes stands in the new heap -/
def Mk (σ : L2.St) (te : TE) (φ : V → Hp → Prop) : Prop := ∀ H R, (∀ v H', Same H H' → φ v H' → R v H') → te σ H R
def MkA (σ : L2.St) (ta : TA) (φ : List V → Hp → Prop) : Prop := ∀ H R, (∀ v H', Same H H' → φ v H' → R v H') → ta σ H R
inductive Prs (H : Hp) : List Addr → List (Int × Int) → Prop
  | nil : Prs H [] []
  | cons {r : Addr} {p : Int × Int} {rs : List Addr} {ps : List (Int × Int)} : H r = some (.tup [.int p.1, .int p.2]) → Prs H rs ps → Prs H (r :: rs) (p :: ps)
theorem Prs.len {H : Hp} {rs : List Addr} {ps : List (Int × Int)} (h : Prs H rs ps) : rs.length = ps.length := by
  induction h with
  | nil => rfl
  | cons _ _ ih => rw [List.length_cons, List.length_cons, ih]
theorem Prs.keep {H H' : Hp} {rs : List Addr} {ps : List (Int × Int)} (h : Prs H rs ps) (s : SameT H H') : Prs H' rs ps := by
  induction h with
  | nil => exact .nil
  | cons e _ ih => exact .cons (s _ _ e) ih
def IsP (p : Int × Int) (v : V) (H : Hp) : Prop := ∃ r, v = .ref r ∧ H r = some (.tup [.int p.1, .int p.2])
def RowA (ps : List (Int × Int)) (vs : List V) (H : Hp) : Prop := ∃ rs : List Addr, vs = rs.map V.ref ∧ Prs H rs ps
def IsL (ps : List (Int × Int)) (v : V) (H : Hp) : Prop := ∃ (l : Addr) (rs : List Addr), v = .ref l ∧ H l = some (.lst (rs.map V.ref)) ∧ Prs H rs ps
def TabA : List (List (Int × Int)) → List V → Hp → Prop
  | [], vs, _ => vs = []
  | ps :: pss, vs, H => ∃ v ws, vs = v :: ws ∧ IsL ps v H ∧ TabA pss ws H
theorem IsL.keep {ps : List (Int × Int)} {v : V} {H H' : Hp} (h : IsL ps v H) (s : Same H H') : IsL ps v H' := by
  obtain ⟨l, rs, rfl, h1, h2⟩ := h
  exact ⟨l, rs, rfl, s _ _ h1, h2.keep s.t⟩
theorem TabA.len : ∀ {pss : List (List (Int × Int))} {vs : List V} {H : Hp}, TabA pss vs H → vs.length = pss.length
  | [], _, _, h => by cases h; rfl
  | _ :: _, _, _, ⟨_, _, e, _, h⟩ => by rw [e, List.length_cons, List.length_cons, h.len]
theorem TabA.keep : ∀ {pss : List (List (Int × Int))} {vs : List V} {H H' : Hp}, TabA pss vs H → Same H H' → TabA pss vs H'
  | [], _, _, _, h, _ => h
  | _ :: _, _, _, _, ⟨v, ws, e, h1, h⟩, s => ⟨v, ws, e, h1.keep s, h.keep s⟩
theorem TabA.get : ∀ {pss : List (List (Int × Int))} {vs : List V} {H : Hp} {i : Nat}, TabA pss vs H → i < pss.length → ∃ v, vs[i]? = some v ∧ IsL (pss.getD i []) v H
  | _ :: _, _, _, 0, ⟨v, ws, e, h1, _⟩, _ => ⟨v, by rw [e]; rfl, h1⟩
  | _ :: _, _, _, i + 1, ⟨v, ws, e, _, h⟩, hi => by
    obtain ⟨u, h1, h2⟩ := h.get (i := i) (Nat.lt_of_succ_lt_succ hi)
    exact ⟨u, by rw [e]; exact h1, h2⟩
def MkI (σ : L2.St) (te : TE) (a : Int) : Prop := ∀ H R, R (.int a) H → te σ H R
theorem mk_c {σ : L2.St} {a : Int} : MkI σ (tC (.int a)) a := fun _ _ h => h
theorem mk_u {σ : L2.St} {a : Int} : MkI σ (tUn (rU fun i => V.int (-i)) (tC (.int a))) (-a) := fun _ _ h => ⟨a, rfl, h⟩
theorem mk_pair {σ : L2.St} {ta tb : TE} {a b : Int} (ha : MkI σ ta a) (hb : MkI σ tb b) : Mk σ (tTup (tCons ta (tCons tb tNil))) (IsP (a, b)) := fun H R q =>
  ha _ _ (hb _ _ ⟨Nat.le_of_lt (lt_line (show 2 < 1000 by decide)), fun p hp => q _ _ (Same.new hp _) ⟨p, rfl, upd_same⟩⟩)
theorem mkA_rnil {σ : L2.St} : MkA σ tNil (RowA []) := fun H R q => q _ _ (fun _ _ z => z) ⟨[], rfl, .nil⟩
theorem mkA_rcons {σ : L2.St} {te : TE} {ta : TA} {p : Int × Int} {ps : List (Int × Int)} (h : Mk σ te (IsP p)) (k : MkA σ ta (RowA ps)) : MkA σ (tCons te ta) (RowA (p :: ps)) := fun H R q => h H _ fun v H1 s1 ⟨r, e, hr⟩ => k H1 _ fun ws H2 s2 ⟨rs, e', hs⟩ => q _ _ (s1.trans s2) ⟨r :: rs, by rw [e, e']; rfl, .cons (s2 _ _ hr) hs⟩
theorem mk_row {σ : L2.St} {ta : TA} {ps : List (Int × Int)} (k : MkA σ ta (RowA ps)) (hl : ps.length < 1000) : Mk σ (tLst ta) (IsL ps) := fun H R q => k H _ fun vs H1 s1 ⟨rs, e, hs⟩ => by
  subst e
  exact ⟨Nat.le_of_lt (lt_line (by rw [List.length_map, hs.len]; exact hl)), fun p hp => q _ _ (s1.trans (Same.new hp _)) ⟨p, rs, rfl, upd_same, hs.keep (Same.new hp _).t⟩⟩
theorem mkA_tnil {σ : L2.St} : MkA σ tNil (TabA []) := fun H R q => q _ _ (fun _ _ z => z) rfl
theorem mkA_tcons {σ : L2.St} {te : TE} {ta : TA} {ps : List (Int × Int)} {pss : List (List (Int × Int))} (h : Mk σ te (IsL ps)) (k : MkA σ ta (TabA pss)) : MkA σ (tCons te ta) (TabA (ps :: pss)) := fun H R q => h H _ fun v H1 s1 hv => k H1 _ fun ws H2 s2 hs => q _ _ (s1.trans s2) ⟨v, ws, rfl, hv.keep s2, hs⟩
theorem mk_tab {σ : L2.St} {ta : TA} {pss : List (List (Int × Int))} (k : MkA σ ta (TabA pss)) (hl : pss.length < 1000) : Mk σ (tLst ta) (fun v H => ∃ (l : Addr) (vs : List V), v = .ref l ∧ H l = some (.lst vs) ∧ TabA pss vs H) := fun H R q => k H _ fun vs H1 s1 hs =>
  ⟨Nat.le_of_lt (lt_line (by rw [hs.len]; exact hl)), fun p hp => q _ _ (s1.trans (Same.new hp _)) ⟨p, vs, rfl, upd_same, hs.keep (Same.new hp _)⟩⟩
def at2 (ps : List (Int × Int)) (i : Nat) : Int × Int := ps.getD i (0, 0)
def d2 (a b c : Int × Int) : Int := (b.1 - a.1) * (c.2 - a.2) - (b.2 - a.2) * (c.1 - a.1)
def Gd (ps : List (Int × Int)) : Prop := 3 ≤ ps.length ∧ ps.length ≤ 8 ∧ (∀ i, i < ps.length → -20 ≤ (at2 ps i).1 ∧ (at2 ps i).1 ≤ 20 ∧ -20 ≤ (at2 ps i).2 ∧ (at2 ps i).2 ≤ 20) ∧ 0 < d2 (at2 ps 0) (at2 ps 1) (at2 ps 2) ∧ ∀ i, i < ps.length → ∀ j, j < ps.length - 2 → 0 < d2 (at2 ps ((i + (ps.length - 1)) % ps.length)) (at2 ps i) (at2 ps ((i + (j + 1)) % ps.length))
instance {ps : List (Int × Int)} : Decidable (Gd ps) := by unfold Gd; infer_instance
def shapes : List (List (Int × Int)) := [[(0, 0), (1, 0), (0, 1)], [(0, 0), (1, 0), (1, 1), (0, 1)], [(0, 0), (2, -1), (3, 1), (1, 1)], [(0, 0), (2, 0), (2, 1), (1, 2), (0, 1)], [(0, 0), (1, 0), (2, 1), (2, 2), (1, 2), (0, 1)], [(-1, -1), (2, -1), (-1, 2)], [(1, 0), (2, 0), (3, 1), (3, 2), (2, 3), (1, 3), (0, 1)], [(1, 0), (2, 0), (3, 1), (3, 2), (2, 3), (1, 3), (0, 2), (0, 1)]]
theorem shapes_gd : ∀ i, i < 8 → Gd (shapes.getD i []) := by decide +kernel
theorem quad_gd {a b c d : Int} (a1 : 1 ≤ a) (a9 : a ≤ 9) (b1 : 1 ≤ b) (b9 : b ≤ 9) (c1 : 1 ≤ c) (c9 : c ≤ 9) (d1 : 1 ≤ d) (d20 : d ≤ 20) (h : b * (a - c) < a * d) : Gd [(0, 0), (a, 0), (c, d), (0, b)] := by
  have ad : 0 < a * d := Int.mul_pos (by omega) (by omega)
  have ab : 0 < a * b := Int.mul_pos (by omega) (by omega)
  have cb : 0 < c * b := Int.mul_pos (by omega) (by omega)
  have e1 : (c - a) * b + d * a = a * d - b * (a - c) := by grind
  refine ⟨Nat.le_of_ble_eq_true rfl, Nat.le_of_ble_eq_true rfl, fun i hi => ?_, ?_, fun i hi j hj => ?_⟩
  · match i, hi with
    | 0, _ => exact ⟨by show -20 ≤ (0 : Int); decide, by show (0 : Int) ≤ 20; decide, by show -20 ≤ (0 : Int); decide, by show (0 : Int) ≤ 20; decide⟩
    | 1, _ => exact ⟨by show -20 ≤ a; omega, by show a ≤ 20; omega, by show -20 ≤ (0 : Int); decide, by show (0 : Int) ≤ 20; decide⟩
    | 2, _ => exact ⟨by show -20 ≤ c; omega, by show c ≤ 20; omega, by show -20 ≤ d; omega, by show d ≤ 20; omega⟩
    | 3, _ => exact ⟨by show -20 ≤ (0 : Int); decide, by show (0 : Int) ≤ 20; decide, by show -20 ≤ b; omega, by show b ≤ 20; omega⟩
  · show 0 < (a - 0) * (d - 0) - (0 - 0) * (c - 0)
    grind
  · match i, hi, j, hj with
    | 0, _, 0, _ => (simp only [d2, at2, List.length_cons, List.length_nil, Nat.reduceAdd, Nat.reduceSub, Nat.reduceMod, List.getD_cons_zero, List.getD_cons_succ]; grind)
    | 0, _, 1, _ => (simp only [d2, at2, List.length_cons, List.length_nil, Nat.reduceAdd, Nat.reduceSub, Nat.reduceMod, List.getD_cons_zero, List.getD_cons_succ]; grind)
    | 1, _, 0, _ => (simp only [d2, at2, List.length_cons, List.length_nil, Nat.reduceAdd, Nat.reduceSub, Nat.reduceMod, List.getD_cons_zero, List.getD_cons_succ]; grind)
    | 1, _, 1, _ => (simp only [d2, at2, List.length_cons, List.length_nil, Nat.reduceAdd, Nat.reduceSub, Nat.reduceMod, List.getD_cons_zero, List.getD_cons_succ]; grind)
    | 2, _, 0, _ => (simp only [d2, at2, List.length_cons, List.length_nil, Nat.reduceAdd, Nat.reduceSub, Nat.reduceMod, List.getD_cons_zero, List.getD_cons_succ]; grind)
    | 2, _, 1, _ => (simp only [d2, at2, List.length_cons, List.length_nil, Nat.reduceAdd, Nat.reduceSub, Nat.reduceMod, List.getD_cons_zero, List.getD_cons_succ]; grind)
    | 3, _, 0, _ => (simp only [d2, at2, List.length_cons, List.length_nil, Nat.reduceAdd, Nat.reduceSub, Nat.reduceMod, List.getD_cons_zero, List.getD_cons_succ]; grind)
    | 3, _, 1, _ => (simp only [d2, at2, List.length_cons, List.length_nil, Nat.reduceAdd, Nat.reduceSub, Nat.reduceMod, List.getD_cons_zero, List.getD_cons_succ]; grind)
theorem ret_ix {r : R2} {te tb : TE} {D : Ends} {σ : L2.St} {H : Hp} (h : te σ H fun x H1 => tb σ H1 fun y H2 => r x y H2 D.rt) : tRet (tOp r te tb) D σ H := h
theorem quad_d {a b c t : Int} (a1 : 1 ≤ a) (b1 : 1 ≤ b) (b9 : b ≤ 9) (c1 : 1 ≤ c) (t0 : 0 ≤ t) (t9 : t < 9) : 1 ≤ 1 + t + (if b * (a - c) > 0 then b * (a - c) else 0) / a ∧ 1 + t + (if b * (a - c) > 0 then b * (a - c) else 0) / a ≤ 20 ∧ b * (a - c) < a * (1 + t + (if b * (a - c) > 0 then b * (a - c) else 0) / a) := by
  have bc : 0 < b * c := Int.mul_pos (by omega) (by omega)
  have ba : 0 < b * a := Int.mul_pos (by omega) (by omega)
  have e0 : b * (a - c) = b * a - b * c := Int.mul_sub ..
  have m0 : 0 ≤ (if b * (a - c) > 0 then b * (a - c) else 0) := by split <;> omega
  have mb : b * (a - c) ≤ (if b * (a - c) > 0 then b * (a - c) else 0) := by split <;> omega
  have mu : (if b * (a - c) > 0 then b * (a - c) else 0) ≤ b * a := by split <;> omega
  generalize (if b * (a - c) > 0 then b * (a - c) else 0) = m at m0 mb mu ⊢
  have q0 : 0 ≤ m / a := Int.ediv_nonneg m0 (by omega)
  have q9 : m / a ≤ b := Int.ediv_le_of_le_mul (by omega) mu
  have e1 := Int.mul_ediv_add_emod m a
  have e2 := Int.emod_lt_of_pos m (show 0 < a by omega)
  have at0 : 0 ≤ a * t := Int.mul_nonneg (by omega) t0
  have e3 : a * (1 + t + m / a) = a + a * t + a * (m / a) := by rw [Int.mul_add, Int.mul_add, Int.mul_one]
  omega
def spShape : Sp := fun vs H Q _ => ∃ L : Addr, vs = [.ref L] ∧ PBox H L ∧ ∀ (l : Addr) (rs : List Addr) (ps : List (Int × Int)) (H' : Hp), SameB L H H' → PBox H' L → H' l = some (.lst (rs.map V.ref)) → Prs H' rs ps → Gd ps → Q (.ref l) H'
theorem ok_shape (T : Tx K mg t1 t2) (F : At K mg "_law_shape" s__law_shape ["pot"] []) (d__law_take : DefOk P w K mg base CX0 1 "_law_take" ["pot", "many"] [] spTake) : DefOk P w K mg base CX0 2 "_law_shape" ["pot"] [] spShape := by
  refine F.okW sc__law_shape (fun vs H Q E h => ?_) (fun f cdv A outer s H vs Q E hr h => ?_)
  · obtain ⟨L, rfl, _⟩ := h
    rfl
  obtain ⟨L, rfl, hL, q⟩ := h
  have S := sc__law_shape
  refine ⟨_, (wss_cons ⟨(ps_set (i := 1) S.nd rfl (Or.inl rfl) (pe_callD d__law_take (hr.mono (by decide)) rfl pass0 (pa_cons (pv 0) (pa_cons pe_int pa_nil se_con) se_nam)))⟩
    (wss_cons (ws_if (pt_cmpR op_lt (pv 1) pe_int (nomark _)) (wss_one (ws_ret (we_ix ix_list (we_lst (wa_cons (we_lst (wa_cons (we_tup (wa_cons ⟨pe_int⟩ (wa_cons ⟨pe_int⟩ wa_nil se_con) se_con)) (wa_cons (we_tup (wa_cons ⟨pe_int⟩ (wa_cons ⟨pe_int⟩ wa_nil se_con) se_con)) (wa_cons (we_tup (wa_cons ⟨pe_int⟩ (wa_cons ⟨pe_int⟩ wa_nil se_con) se_con)) wa_nil se_tup) se_tup) se_tup)) (wa_cons (we_lst (wa_cons (we_tup (wa_cons ⟨pe_int⟩ (wa_cons ⟨pe_int⟩ wa_nil se_con) se_con)) (wa_cons (we_tup (wa_cons ⟨pe_int⟩ (wa_cons ⟨pe_int⟩ wa_nil se_con) se_con)) (wa_cons (we_tup (wa_cons ⟨pe_int⟩ (wa_cons ⟨pe_int⟩ wa_nil se_con) se_con)) (wa_cons (we_tup (wa_cons ⟨pe_int⟩ (wa_cons ⟨pe_int⟩ wa_nil se_con) se_con)) wa_nil se_tup) se_tup) se_tup) se_tup)) (wa_cons (we_lst (wa_cons (we_tup (wa_cons ⟨pe_int⟩ (wa_cons ⟨pe_int⟩ wa_nil se_con) se_con)) (wa_cons (we_tup (wa_cons ⟨pe_int⟩ (wa_cons ⟨(pe_un un_neg pe_int)⟩ wa_nil se_un) se_con)) (wa_cons (we_tup (wa_cons ⟨pe_int⟩ (wa_cons ⟨pe_int⟩ wa_nil se_con) se_con)) (wa_cons (we_tup (wa_cons ⟨pe_int⟩ (wa_cons ⟨pe_int⟩ wa_nil se_con) se_con)) wa_nil se_tup) se_tup) se_tup) se_tup)) (wa_cons (we_lst (wa_cons (we_tup (wa_cons ⟨pe_int⟩ (wa_cons ⟨pe_int⟩ wa_nil se_con) se_con)) (wa_cons (we_tup (wa_cons ⟨pe_int⟩ (wa_cons ⟨pe_int⟩ wa_nil se_con) se_con)) (wa_cons (we_tup (wa_cons ⟨pe_int⟩ (wa_cons ⟨pe_int⟩ wa_nil se_con) se_con)) (wa_cons (we_tup (wa_cons ⟨pe_int⟩ (wa_cons ⟨pe_int⟩ wa_nil se_con) se_con)) (wa_cons (we_tup (wa_cons ⟨pe_int⟩ (wa_cons ⟨pe_int⟩ wa_nil se_con) se_con)) wa_nil se_tup) se_tup) se_tup) se_tup) se_tup)) (wa_cons (we_lst (wa_cons (we_tup (wa_cons ⟨pe_int⟩ (wa_cons ⟨pe_int⟩ wa_nil se_con) se_con)) (wa_cons (we_tup (wa_cons ⟨pe_int⟩ (wa_cons ⟨pe_int⟩ wa_nil se_con) se_con)) (wa_cons (we_tup (wa_cons ⟨pe_int⟩ (wa_cons ⟨pe_int⟩ wa_nil se_con) se_con)) (wa_cons (we_tup (wa_cons ⟨pe_int⟩ (wa_cons ⟨pe_int⟩ wa_nil se_con) se_con)) (wa_cons (we_tup (wa_cons ⟨pe_int⟩ (wa_cons ⟨pe_int⟩ wa_nil se_con) se_con)) (wa_cons (we_tup (wa_cons ⟨pe_int⟩ (wa_cons ⟨pe_int⟩ wa_nil se_con) se_con)) wa_nil se_tup) se_tup) se_tup) se_tup) se_tup) se_tup)) (wa_cons (we_lst (wa_cons (we_tup (wa_cons ⟨(pe_un un_neg pe_int)⟩ (wa_cons ⟨(pe_un un_neg pe_int)⟩ wa_nil se_un) se_un)) (wa_cons (we_tup (wa_cons ⟨pe_int⟩ (wa_cons ⟨(pe_un un_neg pe_int)⟩ wa_nil se_un) se_con)) (wa_cons (we_tup (wa_cons ⟨(pe_un un_neg pe_int)⟩ (wa_cons ⟨pe_int⟩ wa_nil se_con) se_un)) wa_nil se_tup) se_tup) se_tup)) (wa_cons (we_lst (wa_cons (we_tup (wa_cons ⟨pe_int⟩ (wa_cons ⟨pe_int⟩ wa_nil se_con) se_con)) (wa_cons (we_tup (wa_cons ⟨pe_int⟩ (wa_cons ⟨pe_int⟩ wa_nil se_con) se_con)) (wa_cons (we_tup (wa_cons ⟨pe_int⟩ (wa_cons ⟨pe_int⟩ wa_nil se_con) se_con)) (wa_cons (we_tup (wa_cons ⟨pe_int⟩ (wa_cons ⟨pe_int⟩ wa_nil se_con) se_con)) (wa_cons (we_tup (wa_cons ⟨pe_int⟩ (wa_cons ⟨pe_int⟩ wa_nil se_con) se_con)) (wa_cons (we_tup (wa_cons ⟨pe_int⟩ (wa_cons ⟨pe_int⟩ wa_nil se_con) se_con)) (wa_cons (we_tup (wa_cons ⟨pe_int⟩ (wa_cons ⟨pe_int⟩ wa_nil se_con) se_con)) wa_nil se_tup) se_tup) se_tup) se_tup) se_tup) se_tup) se_tup)) (wa_cons (we_lst (wa_cons (we_tup (wa_cons ⟨pe_int⟩ (wa_cons ⟨pe_int⟩ wa_nil se_con) se_con)) (wa_cons (we_tup (wa_cons ⟨pe_int⟩ (wa_cons ⟨pe_int⟩ wa_nil se_con) se_con)) (wa_cons (we_tup (wa_cons ⟨pe_int⟩ (wa_cons ⟨pe_int⟩ wa_nil se_con) se_con)) (wa_cons (we_tup (wa_cons ⟨pe_int⟩ (wa_cons ⟨pe_int⟩ wa_nil se_con) se_con)) (wa_cons (we_tup (wa_cons ⟨pe_int⟩ (wa_cons ⟨pe_int⟩ wa_nil se_con) se_con)) (wa_cons (we_tup (wa_cons ⟨pe_int⟩ (wa_cons ⟨pe_int⟩ wa_nil se_con) se_con)) (wa_cons (we_tup (wa_cons ⟨pe_int⟩ (wa_cons ⟨pe_int⟩ wa_nil se_con) se_con)) (wa_cons (we_tup (wa_cons ⟨pe_int⟩ (wa_cons ⟨pe_int⟩ wa_nil se_con) se_con)) wa_nil se_tup) se_tup) se_tup) se_tup) se_tup) se_tup) se_tup) se_tup)) wa_nil se_lst) se_lst) se_lst) se_lst) se_lst) se_lst) se_lst) se_lst)) (pv 1) (fun _ _ => rfl)))) ⟨pss_nil⟩)
    ⟨(pss_cons (ps_set (i := 2) S.nd rfl (Or.inl rfl) (pe_op op_add pe_int (pe_callD d__law_take (hr.mono (by decide)) rfl pass0 (pa_cons (pv 0) (pa_cons pe_int pa_nil se_con) se_nam))))
    (pss_cons (ps_set (i := 3) S.nd rfl (Or.inl rfl) (pe_op op_add pe_int (pe_callD d__law_take (hr.mono (by decide)) rfl pass0 (pa_cons (pv 0) (pa_cons pe_int pa_nil se_con) se_nam))))
    (pss_cons (ps_set (i := 4) S.nd rfl (Or.inl rfl) (pe_op op_add pe_int (pe_callD d__law_take (hr.mono (by decide)) rfl pass0 (pa_cons (pv 0) (pa_cons pe_int pa_nil se_con) se_nam))))
    (pss_cons (ps_set (i := 5) S.nd rfl (Or.inl rfl) (pe_op op_add (pe_op op_add pe_int (pe_callD d__law_take (hr.mono (by decide)) rfl pass0 (pa_cons (pv 0) (pa_cons pe_int pa_nil se_con) se_nam))) (pe_op op_fdivB (pe_callB (call_max2 rfl) rfl T.m_max boot_max (pa_cons pe_int (pa_cons (pe_op op_mulB (pv 3) (pe_op op_sub (pv 2) (pv 4))) pa_nil se_bin) se_con)) (pv 2))))
    (pss_one (ps_ret (pe_lst (pa_cons (pe_tup (pa_cons pe_int (pa_cons pe_int pa_nil se_con) se_con)) (pa_cons (pe_tup (pa_cons (pv 2) (pa_cons pe_int pa_nil se_con) se_nam)) (pa_cons (pe_tup (pa_cons (pv 4) (pa_cons (pv 5) pa_nil se_nam) se_nam)) (pa_cons (pe_tup (pa_cons pe_int (pa_cons (pv 3) pa_nil se_nam) se_con)) pa_nil se_tup) se_tup) se_tup) se_tup))))))))⟩)), ?_⟩
  refine ⟨_, rfl, L, 10, rfl, hL, by decide, by decide, fun J1 d s1 b1 d0 d1 => ?_⟩
  refine ⟨_, rfl, _, _, rfl, rfl, _, rfl, ?_⟩
  refine ite2 (fun c0 => ?_) fun c0 => ?_
  · have d8 : d < 8 := of_decide_eq_true c0
    obtain ⟨n, rfl⟩ := Int.eq_ofNat_of_zero_le d0
    refine ret_ix ?_
    refine mk_tab (pss := shapes) ?_ (by decide) _ _ fun v J2 s2 hv => ?_
    · unfold shapes
      repeat first
        | exact mkA_tnil
        | refine mkA_tcons (mk_row ?_ (by decide)) ?_
        | exact mkA_rnil
        | refine mkA_rcons (mk_pair (by first | exact mk_c | exact mk_u) (by first | exact mk_c | exact mk_u)) ?_
    obtain ⟨l, vs, rfl, hl, hT⟩ := hv
    have n8 : n < 8 := by omega
    obtain ⟨v, e, l', rs, rfl, h1, h2⟩ := hT.get n8
    exact ⟨_, rfl, ixL (SqL.of hl) (v := .ref l') (atI_nat e) (q l' rs _ J2 (s1.trans s2.b) (b1.same s2) h1 h2 (shapes_gd n n8))⟩
  · try walk_at "rf"
    have sf : ∀ {n : Int}, n.natAbs < 1000 → Fit n := fun {n} h => Bd.fit (n := 10) (by unfold Bd; omega)
    refine ⟨L, 9, rfl, b1, by decide, by decide, fun J2 x s2 b2 x0 x9 => ⟨x, rfl, L, 9, rfl, b2, by decide, by decide, fun J3 y s3 b3 y0 y9 => ⟨y, rfl, L, 9, rfl, b3, by decide, by decide, fun J4 z s4 b4 z0 z9 => ⟨z, rfl, L, 9, rfl, b4, by decide, by decide, fun J5 t s5 b5 t0 t9 => ⟨t, rfl, sf (by omega), sf (by omega), by omega, sf (by omega), ?_⟩⟩⟩⟩⟩
    have S5 := (((s1.trans s2).trans s3).trans s4).trans s5
    obtain ⟨D1, D2, D3⟩ := quad_d (a := 1 + x) (b := 1 + y) (c := 1 + z) (t := t) (by omega) (by omega) (by omega) (by omega) t0 t9
    generalize 1 + t + (if (1 + y) * (1 + x - (1 + z)) > 0 then (1 + y) * (1 + x - (1 + z)) else 0) / (1 + x) = D at D1 D2 D3 ⊢
    have G := quad_gd (a := 1 + x) (b := 1 + y) (c := 1 + z) (d := D) (by omega) (by omega) (by omega) (by omega) (by omega) (by omega) D1 D2 D3
    refine ⟨by decide, fun p hp => ⟨by decide, fun p1 hp1 => ⟨by decide, fun p2 hp2 => ⟨by decide, fun p3 hp3 => ⟨by decide, fun p4 hp4 => ?_⟩⟩⟩⟩⟩
    have j0 := Same.new hp (.tup [V.int 0, V.int 0])
    have j1 := Same.new hp1 (.tup [V.int (1 + x), V.int 0])
    have j2 := Same.new hp2 (.tup [V.int (1 + z), V.int D])
    have j3 := Same.new hp3 (.tup [V.int 0, V.int (1 + y)])
    have j4 := Same.new hp4 (.lst [V.ref p, V.ref p1, V.ref p2, V.ref p3])
    have jj := j0.trans (j1.trans (j2.trans (j3.trans j4)))
    exact q p4 [p, p1, p2, p3] [(0, 0), (1 + x, 0), (1 + z, D), (0, 1 + y)] _ (S5.trans jj.b) (b5.same jj) upd_same (.cons (j4 _ _ (j3 _ _ (j2 _ _ (j1 _ _ upd_same)))) (.cons (j4 _ _ (j3 _ _ (j2 _ _ upd_same))) (.cons (j4 _ _ (j3 _ _ upd_same)) (.cons (j4 _ _ upd_same) .nil)))) G
structure Bs where
  x : Int
  y : Int
  z : Int
  w : Int
  a1 : Int
  a2 : Int
  a3 : Int
  u1 : Int
  u2 : Int
  u3 : Int
def Bs.X (B : Bs) (v : Int × Int) : Int := B.x + B.w * (v.1 * B.a1 + v.2 * B.u1)
def Bs.Y (B : Bs) (v : Int × Int) : Int := B.y + B.w * (v.1 * B.a2 + v.2 * B.u2)
def Bs.Z (B : Bs) (v : Int × Int) : Int := B.z + B.w * (v.1 * B.a3 + v.2 * B.u3)
/-- p is the spot of the place v -/
def Rl (B : Bs) (p : Pt) (v : Int × Int) : Prop := 1 ≤ p.w ∧ p.x * B.w = B.X v * p.w ∧ p.y * B.w = B.Y v * p.w ∧ p.z * B.w = B.Z v * p.w
def ck (B : Bs) (k : Int) : Int := if k = 0 then B.a2 * B.u3 - B.a3 * B.u2 else if k = 1 then B.a1 * B.u3 - B.a3 * B.u1 else B.a1 * B.u2 - B.a2 * B.u1
theorem det3_sc (a b c x y z u v w s t r : Int) : det3 (a * s) (b * s) (c * s) (x * t) (y * t) (z * t) (u * r) (v * r) (w * r) = s * t * r * det3 a b c x y z u v w := by
  unfold det3; grind
theorem det3_w (w a b c x y z u v t : Int) : det3 (a * w) (b * w) (c * w) (x * w) (y * w) (z * w) (u * w) (v * w) (t * w) = w * w * w * det3 a b c x y z u v t := det3_sc ..
theorem det3_pl (y z w a b c d i1 j1 i2 j2 i3 j3 : Int) : det3 (y + w * (i1 * a + j1 * b)) (z + w * (i1 * c + j1 * d)) w (y + w * (i2 * a + j2 * b)) (z + w * (i2 * c + j2 * d)) w (y + w * (i3 * a + j3 * b)) (z + w * (i3 * c + j3 * d)) w = w * w * w * ((a * d - c * b) * ((i2 - i1) * (j3 - j1) - (j2 - j1) * (i3 - i1))) := by
  unfold det3; grind
theorem det_row {w y1 z1 w1 y2 z2 w2 y3 z3 w3 y z a b c d : Int} {v1 v2 v3 : Int × Int} (w0 : 1 ≤ w)
    (p1 : y1 * w = (y + w * (v1.1 * a + v1.2 * b)) * w1) (p2 : z1 * w = (z + w * (v1.1 * c + v1.2 * d)) * w1)
    (q1 : y2 * w = (y + w * (v2.1 * a + v2.2 * b)) * w2) (q2 : z2 * w = (z + w * (v2.1 * c + v2.2 * d)) * w2)
    (r1 : y3 * w = (y + w * (v3.1 * a + v3.2 * b)) * w3) (r2 : z3 * w = (z + w * (v3.1 * c + v3.2 * d)) * w3) :
    det3 y1 z1 w1 y2 z2 w2 y3 z3 w3 = w1 * w2 * w3 * ((a * d - c * b) * d2 v1 v2 v3) := by
  have e1 := det3_w w y1 z1 w1 y2 z2 w2 y3 z3 w3
  rw [p1, p2, q1, q2, r1, r2, Int.mul_comm w1 w, Int.mul_comm w2 w, Int.mul_comm w3 w, det3_sc, det3_pl] at e1
  have hw : w * w * w ≠ 0 := by
    have := Int.mul_pos (Int.mul_pos (show 0 < w by omega) (show 0 < w by omega)) (show 0 < w by omega)
    omega
  refine Int.eq_of_mul_eq_mul_left hw ?_
  rw [← e1]
  unfold d2
  generalize w * w * w = W
  grind
theorem rl_minor {B : Bs} {p q r : Pt} {a b c : Int × Int} (w0 : 1 ≤ B.w) (hp : Rl B p a) (hq : Rl B q b) (hr : Rl B r c) {k : Int} (k0 : 0 ≤ k) (k2 : k ≤ 2) : minor k p q r = p.w * q.w * r.w * (ck B k * d2 a b c) := by
  obtain ⟨_, px, py, pz⟩ := hp
  obtain ⟨_, qx, qy, qz⟩ := hq
  obtain ⟨_, rx, ry, rz⟩ := hr
  have : k = 0 ∨ k = 1 ∨ k = 2 := by omega
  rcases this with rfl | rfl | rfl
  · exact det_row w0 py pz qy qz ry rz
  · exact det_row w0 px pz qx qz rx rz
  · exact det_row w0 px py qx qy rx ry
theorem h4_self (a b c : Pt) : hgt (minor 0 a b c) (-minor 1 a b c) (minor 2 a b c) (minor 3 a b c) a = 0 := by
  unfold hgt minor
  simp only [wo, detL, det3]
  simp
  grind
theorem flat_at {A0 A1 A2 A3 : Int} {B : Bs} {p q : Pt} {a b : Int × Int} (w0 : 1 ≤ B.w) (hp : Rl B p a) (hq : Rl B q b) (h0 : hgt A0 A1 A2 A3 p = 0) (ha : A0 * B.a1 + A1 * B.a2 + A2 * B.a3 = 0) (hu : A0 * B.u1 + A1 * B.u2 + A2 * B.u3 = 0) : hgt A0 A1 A2 A3 q = 0 := by
  obtain ⟨p0, px, py, pz⟩ := hp
  obtain ⟨q0, qx, qy, qz⟩ := hq
  unfold hgt at h0 ⊢
  unfold Bs.X at px qx
  unfold Bs.Y at py qy
  unfold Bs.Z at pz qz
  have e : (B.w * p.w) * (A0 * q.x + A1 * q.y + A2 * q.z - A3 * q.w) = 0 := by
    have e1 : (B.w * p.w) * (A0 * q.x + A1 * q.y + A2 * q.z - A3 * q.w) = p.w * (A0 * (q.x * B.w) + A1 * (q.y * B.w) + A2 * (q.z * B.w)) - B.w * q.w * (A3 * p.w) := by grind
    have e2 : A3 * p.w = A0 * p.x + A1 * p.y + A2 * p.z := by omega
    have e3 : B.w * q.w * (A0 * p.x + A1 * p.y + A2 * p.z) = q.w * (A0 * (p.x * B.w) + A1 * (p.y * B.w) + A2 * (p.z * B.w)) := by grind
    rw [e1, e2, e3, px, py, pz, qx, qy, qz]
    have e4 : p.w * (A0 * ((B.x + B.w * (b.1 * B.a1 + b.2 * B.u1)) * q.w) + A1 * ((B.y + B.w * (b.1 * B.a2 + b.2 * B.u2)) * q.w) + A2 * ((B.z + B.w * (b.1 * B.a3 + b.2 * B.u3)) * q.w)) - q.w * (A0 * ((B.x + B.w * (a.1 * B.a1 + a.2 * B.u1)) * p.w) + A1 * ((B.y + B.w * (a.1 * B.a2 + a.2 * B.u2)) * p.w) + A2 * ((B.z + B.w * (a.1 * B.a3 + a.2 * B.u3)) * p.w)) = p.w * q.w * B.w * ((b.1 - a.1) * (A0 * B.a1 + A1 * B.a2 + A2 * B.a3) + (b.2 - a.2) * (A0 * B.u1 + A1 * B.u2 + A2 * B.u3)) := by grind
    rw [e4, ha, hu]
    simp
  rcases Int.mul_eq_zero.mp e with h | h
  · exact absurd h (by have := Int.mul_pos (show 0 < B.w by omega) (show 0 < p.w by omega); omega)
  · exact h
theorem sgn_pd {P c d : Int} (hP : 0 < P) (hd : 0 < d) : sgn (P * (c * d)) = sgn c := by
  unfold sgn
  rcases Int.lt_or_le 0 c with h | h
  · rw [if_pos (Int.mul_pos hP (Int.mul_pos h hd)), if_pos h]
  · rcases Int.lt_or_eq_of_le h with h | h
    · have h1 : P * (c * d) < 0 := Int.mul_neg_of_pos_of_neg hP (Int.mul_neg_of_neg_of_pos h hd)
      rw [if_neg (by omega), if_pos h1, if_neg (by omega), if_pos h]
    · rw [h]; simp
theorem d2_rev (a b c : Int × Int) : d2 c b a = -d2 a b c := by unfold d2; grind
theorem arrow_of {B : Bs} {p q r : Pt} {a b c : Int × Int} (w0 : 1 ≤ B.w) (nz : crs B.a1 B.a2 B.a3 B.u1 B.u2 B.u3) (hp : Rl B p a) (hq : Rl B q b) (hr : Rl B r c) (hd : d2 a b c ≠ 0) : ¬ noArrow p q r := fun ⟨m0, m1, m2⟩ => by
  rw [rl_minor w0 hp hq hr (by decide) (by decide)] at m0 m1 m2
  have pw := Int.mul_pos (Int.mul_pos (show 0 < p.w from hp.1) (show 0 < q.w from hq.1)) (show 0 < r.w from hr.1)
  have z : ∀ {t : Int}, p.w * q.w * r.w * (t * d2 a b c) = 0 → t = 0 := fun {t} h => by
    rcases Int.mul_eq_zero.mp h with h | h
    · omega
    · rcases Int.mul_eq_zero.mp h with h | h
      · exact h
      · exact absurd h hd
  have z0 : B.a2 * B.u3 - B.a3 * B.u2 = 0 := z m0
  have z1 : B.a1 * B.u3 - B.a3 * B.u1 = 0 := z m1
  have z2 : B.a1 * B.u2 - B.a2 * B.u1 = 0 := z m2
  exact nz ⟨z0, by omega, z2⟩
theorem brd_of {B : Bs} {ps : List Pt} {vs : List (Int × Int)} (w0 : 1 ≤ B.w) (nz : crs B.a1 B.a2 B.a3 B.u1 B.u2 B.u3) (hl : ps.length = vs.length) (h : ∀ i, i < vs.length → Rl B (pt ps i) (at2 vs i)) (g : Gd vs) : Brd ps := by
  obtain ⟨g3, g8, gb, gd, gr⟩ := g
  have h0 := h 0 (by omega)
  have h1 := h 1 (by omega)
  have h2 := h 2 (by omega)
  have pw := Int.mul_pos (Int.mul_pos (show 0 < (pt ps 0).w from h0.1) (show 0 < (pt ps 1).w from h1.1)) (show 0 < (pt ps 2).w from h2.1)
  refine ⟨by omega, by omega, arrow_of w0 nz h0 h1 h2 (by omega), fun i hi => ?_, fun k k0 k2 hk i j hi hj hj2 => ?_⟩
  · refine flat_at w0 h0 (h i (by omega)) (h4_self _ _ _) ?_ ?_
    · rw [rl_minor w0 h0 h1 h2 (by decide) (by decide), rl_minor w0 h0 h1 h2 (by decide) (by decide), rl_minor w0 h0 h1 h2 (by decide) (by decide)]
      show _ * ((B.a2 * B.u3 - B.a3 * B.u2) * _) * _ + -(_ * ((B.a1 * B.u3 - B.a3 * B.u1) * _)) * _ + _ * ((B.a1 * B.u2 - B.a2 * B.u1) * _) * _ = 0
      generalize (pt ps 0).w * (pt ps 1).w * (pt ps 2).w = G
      generalize d2 (at2 vs 0) (at2 vs 1) (at2 vs 2) = D
      grind
    · rw [rl_minor w0 h0 h1 h2 (by decide) (by decide), rl_minor w0 h0 h1 h2 (by decide) (by decide), rl_minor w0 h0 h1 h2 (by decide) (by decide)]
      show _ * ((B.a2 * B.u3 - B.a3 * B.u2) * _) * _ + -(_ * ((B.a1 * B.u3 - B.a3 * B.u1) * _)) * _ + _ * ((B.a1 * B.u2 - B.a2 * B.u1) * _) * _ = 0
      generalize (pt ps 0).w * (pt ps 1).w * (pt ps 2).w = G
      generalize d2 (at2 vs 0) (at2 vs 1) (at2 vs 2) = D
      grind
  · rw [rl_minor w0 h0 h1 h2 k0 k2, sgn_pd pw gd]
    obtain ⟨j, rfl⟩ : ∃ j', j = j' + 1 := ⟨j - 1, by omega⟩
    have m1 : (i + (ps.length - 1)) % ps.length < vs.length := by rw [hl]; exact Nat.mod_lt _ (by omega)
    have m2 : (i + (j + 1)) % ps.length < vs.length := by rw [hl]; exact Nat.mod_lt _ (by omega)
    have r1 := h _ m1
    have r2 := h i (by omega)
    have r3 := h _ m2
    rw [rl_minor w0 r1 r2 r3 k0 k2]
    refine sgn_pd (Int.mul_pos (Int.mul_pos r1.1 r2.1) r3.1) ?_
    rw [hl]
    exact gr i (by omega) j (by omega)
theorem mod_f : ∀ n, n < 9 → 3 ≤ n → ∀ a, a < n → ((a + 1) % n + (n - 1)) % n = (a + 0) % n ∧ ((a + 1) % n + (0 + 1)) % n = (a + 2) % n := by decide
theorem mod_b : ∀ n, n < 9 → 3 ≤ n → ∀ a, a < n → ((a + (n - 1)) % n + (n - 1)) % n = (a + (n - 2)) % n ∧ ((a + (n - 1)) % n + (0 + 1)) % n = (a + (n - 0)) % n := by decide
theorem dih_arrow {B : Bs} {ps qs : List Pt} {vs : List (Int × Int)} (w0 : 1 ≤ B.w) (nz : crs B.a1 B.a2 B.a3 B.u1 B.u2 B.u3) (hl : ps.length = vs.length) (h : ∀ i, i < vs.length → Rl B (pt ps i) (at2 vs i)) (g : Gd vs) (d : Dih ps qs) : ¬ noArrow (pt qs 0) (pt qs 1) (pt qs 2) := by
  obtain ⟨g3, g8, gb, gd, gr⟩ := g
  obtain ⟨hq, a, ha, d⟩ := d
  have m : ∀ i, i % ps.length < vs.length := fun i => by rw [hl]; exact Nat.mod_lt _ (by omega)
  rcases d with d | d
  · rw [d 0 (by omega), d 1 (by omega), d 2 (by omega)]
    refine arrow_of w0 nz (h _ (m _)) (h _ (m _)) (h _ (m _)) ?_
    have e := mod_f ps.length (by omega) (by omega) a ha
    have z := gr ((a + 1) % ps.length) (m _) 0 (by omega)
    rw [← hl, e.1, e.2] at z
    omega
  · rw [d 0 (by omega), d 1 (by omega), d 2 (by omega)]
    refine arrow_of w0 nz (h _ (m _)) (h _ (m _)) (h _ (m _)) ?_
    have e := mod_b ps.length (by omega) (by omega) a ha
    have z := gr ((a + (ps.length - 1)) % ps.length) (m _) 0 (by omega)
    rw [← hl, e.1, e.2] at z
    rw [d2_rev]
    omega
def bM (H : Hp) (L f : Addr) (th : Bool) : L2.St → Hp → Prop := fun σ H' => ∃ (g : Bool) (l : Addr) (x y z w : Int), σ = [some (.ref f), some (.ref L), some (.bl th), some (.bl g), some (.ref l), none, none, none, none, none, none, none, none] ∧ SameB L H H' ∧ PBox H' L ∧ l ≠ L ∧ H' l = some (.lst [.int x, .int y, .int z, .int w]) ∧ St x y z w
theorem Prs.get {H : Hp} {rs : List Addr} {ps : List (Int × Int)} (h : Prs H rs ps) : ∀ {i : Nat}, i < ps.length → ∃ r, (rs.map V.ref)[i]? = some (.ref r) ∧ H r = some (.tup [.int (at2 ps i).1, .int (at2 ps i).2]) := by
  induction h with
  | nil => intro i hi; exact absurd hi (by simp)
  | cons e _ ih =>
    intro i hi
    cases i with
    | zero => exact ⟨_, rfl, e⟩
    | succ i => exact ih (Nat.lt_of_succ_lt_succ hi)
theorem SameB.tl {p : Addr} {J J' : Hp} {xs : List V} (s : SameB p J J') (h : J p = some (.lst xs)) : SameT J J' := fun b ys hb => by
  by_cases e : b = p
  · rw [e, h] at hb; simp at hb
  · exact s b _ e hb
def Bt (ps : List Pt) : Prop := ∀ i, i < ps.length → Bd 61 (pt ps i).x ∧ Bd 61 (pt ps i).y ∧ Bd 61 (pt ps i).z ∧ Bd 7 (pt ps i).w
def spLBoard : Sp := fun vs H Q _ => ∃ (L f e c a u : Addr) (th : Bool) (ep cp : Pt) (a1 a2 a3 u1 u2 u3 : Int), vs = [.ref f, .ref L, .bl th] ∧ PBox H L ∧ Frm H f e c a u ep cp a1 a2 a3 u1 u2 u3 ∧ Tgt ep cp a1 a2 a3 u1 u2 u3 ∧ ∀ (H' : Hp) (b : Addr) (rs : List Addr) (ps : List Pt), SameB L H H' → PBox H' L → Bnd H' b rs ps → Bt ps → Q (.ref b) H'
theorem ok_lboard (T : Tx K mg t1 t2) (F : At K mg "_law_board" s__law_board ["frame", "pot", "through"] []) (d__law_take : DefOk P w K mg base CX0 1 "_law_take" ["pot", "many"] [] spTake) (d__law_start : DefOk P w K mg base CX0 2 "_law_start" ["frame", "pot"] [] spStart) (d__law_spot : DefOk P w K mg base CX0 4 "_law_spot" ["pot", "great"] [] spSpot) (d__law_arrow : DefOk P w K mg base CX0 3 "_law_arrow" ["pot", "great"] [] spArrow2) (d__law_other : DefOk P w K mg base CX0 4 "_law_other" ["pot", "great", "lead"] [] spOther2) (d__law_shape : DefOk P w K mg base CX0 2 "_law_shape" ["pot"] [] spShape) (d_made_spot : DefOk P w K mg base CX0 3 "made_spot" ["x", "y", "z", "w"] [] spMSpot) (d_made_board : DefOk P w K mg base CX0 6 "made_board" ["corners"] [] spBoard) : DefOk P w K mg base CX0 7 "_law_board" ["frame", "pot", "through"] [] spLBoard := by
  refine F.ok sc__law_board (fun vs H Q E h => ?_) (fun f cdv A outer s H vs Q E hr h => ?_)
  · obtain ⟨L, f, e, c, a, u, th, ep, cp, a1, a2, a3, u1, u2, u3, rfl, _⟩ := h
    rfl
  obtain ⟨L, f, e, c, a, u, th, ep, cp, a1, a2, a3, u1, u2, u3, rfl, hL, hF, hT, q⟩ := h
  have S := sc__law_board
  refine ⟨_, (pss_cons (ps_set (i := 3) S.nd rfl (Or.inl rfl) (pe_cmpR op_eq (pe_callD d__law_take (hr.mono (by decide)) rfl pass0 (pa_cons (pv 1) (pa_cons pe_int pa_nil se_con) se_nam)) pe_int (nomark _)))
    (pss_cons (ps_set (i := 4) S.nd rfl (Or.inl rfl) (pe_callD d__law_start (hr.mono (by decide)) rfl pass0 (pa_cons (pv 0) (pa_cons (pv 1) pa_nil se_nam) se_nam)))
    (pss_cut (bM H L f th) (ps_if (pt_cmpR op_eq (pe_callD d__law_take (hr.mono (by decide)) rfl pass0 (pa_cons (pv 1) (pa_cons pe_int pa_nil se_con) se_nam)) pe_int (nomark _))
    (pss_one (ps_set (i := 4) S.nd rfl (Or.inl rfl) (pe_callTy call_list_of rfl T.m_list boot_list (pa_cons (pe_callD d__law_spot (hr.mono (by decide)) rfl pass0 (pa_cons (pv 1) (pa_cons (pv 3) pa_nil se_nam) se_nam)) pa_nil se_cal))))
    pss_nil)
    (pss_cut (bM H L f th) (ps_if (pt_val (pv 2))
    (pss_one (ps_set (i := 4) S.nd rfl (Or.inl rfl) (pe_callTy call_list_of rfl T.m_list boot_list (pa_cons (pe_ix ix_tup (pv 0) pe_int (fun _ _ => rfl)) pa_nil se_sub))))
    pss_nil)
    (pss_cons (ps_set (i := 5) S.nd rfl (Or.inl rfl) (pe_callD d__law_arrow (hr.mono (by decide)) rfl pass0 (pa_cons (pv 1) (pa_cons (pv 3) pa_nil se_nam) se_nam)))
    (pss_cons (ps_set (i := 6) S.nd rfl (Or.inl rfl) (pe_callD d__law_other (hr.mono (by decide)) rfl pass0 (pa_cons (pv 1) (pa_cons (pv 3) (pa_cons (pv 5) pa_nil se_nam) se_nam) se_nam)))
    (pss_cons (ps_set (i := 7) S.nd rfl (Or.inl rfl) (pe_lst pa_nil))
    (pss_cons (ps_for PassesOwn.never rfl (pi_list (pe_callD d__law_shape (hr.mono (by decide)) rfl pass0 (pa_cons (pv 1) pa_nil se_nam))) (pg_tup rfl (pgs_cons (pg_name (i := 8) S.nd rfl (Or.inl rfl)) (pgs_cons (pg_name (i := 9) S.nd rfl (Or.inl rfl)) pgs_nil)))
    (pss_cons (ps_set (i := 10) S.nd rfl (Or.inl rfl) (pe_lst pa_nil))
    (pss_cons (ps_for PassesOwn.never rfl (pi_range1 rfl T.m_range (pa_cons pe_int pa_nil se_con)) (pg_name (i := 11) S.nd rfl (Or.inl rfl))
    (pss_cons (ps_set (i := 12) S.nd rfl (Or.inl rfl) (pe_op op_add (pe_op op_mulB (pv 8) (pe_ix ix_tup (pv 5) (pv 11) (fun _ _ => rfl))) (pe_op op_mulB (pv 9) (pe_ix ix_tup (pv 6) (pv 11) (fun _ _ => rfl)))))
    (pss_one (ps_expr (pe_bm PySem.F.plainAttrs_list PySem.F.slot_list_append PySem.F.type_list_append mt_append (pv 10) (pa_cons (pe_op op_add (pe_ix ix_list (pv 4) (pv 11) (fun _ _ => rfl)) (pe_op op_mulB (pe_ix ix_list (pv 4) pe_int (fun _ _ => rfl)) (pv 12))) pa_nil se_bin))))))
    (pss_one (ps_expr (pe_bm PySem.F.plainAttrs_list PySem.F.slot_list_append PySem.F.type_list_append mt_append (pv 7) (pa_cons (pe_callD d_made_spot (hr.mono (by decide)) rfl pass0 (pa_cons (pe_ix ix_list (pv 10) pe_int (fun _ _ => rfl)) (pa_cons (pe_ix ix_list (pv 10) pe_int (fun _ _ => rfl)) (pa_cons (pe_ix ix_list (pv 10) pe_int (fun _ _ => rfl)) (pa_cons (pe_ix ix_list (pv 4) pe_int (fun _ _ => rfl)) pa_nil se_sub) se_sub) se_sub) se_sub)) pa_nil se_cal)))))))
    (pss_one (ps_ret (pe_callD d_made_board (hr.mono (by decide)) rfl pass0 (pa_cons (pv 7) pa_nil se_nam)))))))))))), ?_⟩
  have kf : SqT K H f [.ref e, .ref c, .ref a, .ref u] := SqT.of hF.1
  try walk_at "rf"
  refine ⟨L, 4, rfl, hL, by decide, by decide, fun J1 d s1 b1 d0 d4 => ⟨rfl, ?_⟩⟩
  refine ⟨L, f, e, c, a, u, ep, cp, a1, a2, a3, u1, u2, u3, rfl, b1, hF.keep (SameB.tp s1 hL), hT, fun J2 l x y z w s2 b2 nl e2 hs => ?_⟩
  have tP : ∀ {J : Hp} {r : Addr} {p : Pt} {n : Nat} {g : Bool}, SameB L H J → PBox J L → Is4 J r p → Bd 60 p.x → Bd 60 p.y → Bd 60 p.z → 1 ≤ p.w → p.w ≤ 100 → ∀ l, J l = none → bM H L f th [some (.ref f), some (.ref L), some (.bl th), some (.bl g), some (.ref l), none, none, none, none, none, none, none, none] (upd J l (.lst [.int p.x, .int p.y, .int p.z, .int p.w])) := fun {J r p n g} s b i h1 h2 h3 h4 h5 l hl =>
    ⟨g, l, p.x, p.y, p.z, p.w, rfl, s.trans (Same.new hl _).b, b.same (Same.new hl _), b.ne hl, upd_same, h1, h2, h3, h4, h5⟩
  refine ⟨?_, ?_⟩
  · refine ⟨L, 4, rfl, b2, by decide, by decide, fun J3 d' s3 b3 _ _ => ⟨rfl, ?_⟩⟩
    have S3 := (s1.trans s2).trans s3
    have nl' : l ≠ L := b1.ne nl
    have e3 := s3 l _ nl' e2
    refine ite2 (fun _ => ?_) fun _ => ?_
    · exact ⟨L, _, rfl, b3, fun r J4 p s4 b4 ir sb => ⟨r, rfl, _, .inr ir.sq, fun l hl => tP (r := r) (n := 0) (S3.trans s4) b4 ir (Bd.mono sb.1) (Bd.mono sb.2.1) (Bd.mono sb.2.2.1) sb.2.2.2.1 (by have := sb.2.2.2.2; omega) l hl⟩⟩
    · exact ⟨_, l, x, y, z, w, rfl, S3, b3, nl', e3, hs⟩
  rintro σ' H' ⟨g, l, x, y, z, w, rfl, sH, bH, nl, el, st⟩
  try walk_at "rf"
  refine ⟨?_, ?_⟩
  · have F' := hF.keep (SameB.tp sH hL)
    have kf' : SqT K H' f [.ref e, .ref c, .ref a, .ref u] := SqT.of F'.1
    refine ite2 (fun _ => ?_) fun _ => ?_
    · refine ixT kf' (i := 0) rfl ⟨e, rfl, _, .inr F'.2.1.sq, fun l hl => tP (r := e) (n := 0) sH bH F'.2.1 (Bd.mono hT.1.1) (Bd.mono hT.1.2.1) (Bd.mono hT.1.2.2.1) F'.2.2.1.2.2.2.2 (by have := hT.1.2.2.2; omega) l hl⟩
    · exact ⟨g, l, x, y, z, w, rfl, sH, bH, nl, el, st⟩
  clear sH bH nl el st
  rintro σ' H' ⟨g, l, x, y, z, w, rfl, sH, bH, nl, el, st⟩
  try walk_at "rf"
  refine ⟨L, _, rfl, bH, fun o J1 o1 o2 o3 s1 b1 io no => ?_⟩
  try walk_at "rf"
  refine ⟨L, o, _, o1, o2, o3, rfl, b1, io, no, fun t J2 v1 v2 v3 s2 b2 it nc => ?_⟩
  try walk_at "rf"
  refine ⟨by decide, fun p hp => ?_⟩
  have s3 := Same.new hp (.lst [])
  have e3 : upd J2 p (.lst []) p = some (.lst []) := upd_same
  generalize upd J2 p (.lst []) = J3 at s3 e3 ⊢
  have pL := b2.ne hp
  have S2 := (sH.trans s1).trans s2
  have hpn := sb_none S2 b2 hp
  have b3 := b2.same s3
  refine ⟨L, rfl, b3, fun sh rs vs J4 s4 b4 esh hvs G => ?_⟩
  have S4 := S2.trans (s3.b.trans s4)
  have e4 := s4 p _ pL e3
  have el4 := s4 l _ nl (s3 _ _ (s2 l _ nl (s1 l _ nl el)))
  have T24 := (s3.t).trans (SameB.tp s4 b3)
  have it4 := it.keep T24
  have io4 := io.keep ((SameB.tp s2 b1).trans T24)
  clear s1 s2 s3 s4 b1 b2 b3 e3 el sH bH io it T24
  try walk_at "rf"
  have lr : rs.length = vs.length := hvs.len
  have np : sh ≠ p := fun e => by
    rw [e, e4] at esh
    have z : ([] : List V) = rs.map V.ref := by injection esh with h; injection h
    have z2 := congrArg List.length z
    rw [List.length_map, lr] at z2
    have := G.1
    simp at z2
    omega
  have nlp : l ≠ p := fun e => by rw [e, e4] at el4; simp at el4
  have st' : Bd 60 x ∧ Bd 60 y ∧ Bd 60 z ∧ 1 ≤ w ∧ w ≤ 100 := st
  obtain ⟨bx, by', bz, w1, w100⟩ := st'
  have bw : Bd 7 w := by unfold Bd; omega
  have fw : Fit w := bw.fit
  refine ⟨⟨_, SqL.of esh⟩, for_list (K := K) (a := sh) (xs := rs.map V.ref) (fun i σ J => SameB p J4 J ∧ ∃ (o8 o9 o10 o11 o12 : Option V) (qs : List Addr) (ps : List Pt), σ = [some (.ref f), some (.ref L), some (.bl th), some (.bl g), some (.ref l), some (.ref o), some (.ref t), some (.ref p), o8, o9, o10, o11, o12] ∧ J p = some (.lst (qs.map V.ref)) ∧ Sps J qs ps ∧ ps.length = i ∧ ∀ j, j < i → Rl ⟨x, y, z, w, o1, o2, o3, v1, v2, v3⟩ (pt ps j) (at2 vs j) ∧ Bd 61 (pt ps j).x ∧ Bd 61 (pt ps j).y ∧ Bd 61 (pt ps j).z ∧ Bd 7 (pt ps j).w) ⟨fun _ _ _ z => z, none, none, none, none, none, [], [], rfl, e4, .nil, rfl, fun j hj => absurd hj (Nat.not_lt_zero j)⟩ ?_ ?_ ?_⟩
  · rintro i σ J hi ⟨sJ, _⟩
    exact SqL.of (sJ _ _ np esh)
  · rintro i v σ J hv ⟨sJ, o8, o9, o10, o11, o12, qs, ps, rfl, eJ, hps, lps, hR⟩
    have iv : i < vs.length := by
      have := (List.getElem?_eq_some_iff.mp hv).1
      rw [List.length_map, lr] at this
      exact this
    obtain ⟨r, er, hr'⟩ := hvs.get iv
    rw [hv] at er
    cases er
    have tJ := SameB.tl sJ e4
    have kr : SqT K J r [.int (at2 vs i).1, .int (at2 vs i).2] := SqT.of (tJ _ _ hr')
    have gb := G.2.2.1 i iv
    try walk_at "rf"
    refine ⟨_, kr, rfl, _, _, rfl, _, _, rfl, rfl, by decide, fun m hm => ⟨by decide, by decide, ?_⟩⟩
    have s5 := Same.new hm (.lst [])
    have e5 : upd J m (.lst []) m = some (.lst []) := upd_same
    generalize upd J m (.lst []) = J5 at s5 e5 ⊢
    have mp : p ≠ m := ne_of_none eJ hm
    have elJ := sJ l _ nlp el4
    have ml : l ≠ m := ne_of_none elJ hm
    have bi : Bd 5 (at2 vs i).1 := by unfold Bd; omega
    have bj : Bd 5 (at2 vs i).2 := by unfold Bd; omega
    have fi : Fit (at2 vs i).1 := bi.fit
    have fj : Fit (at2 vs i).2 := bj.fit
    have B1 : ∀ {a u : Int}, Bd 20 a → Bd 20 u → Bd 26 ((at2 vs i).1 * a + (at2 vs i).2 * u) := fun ha hu => Bd.add (n := 25) (Bd.mul bi ha) (Bd.mul bj hu)
    have B2 : ∀ {s a u : Int}, Bd 60 s → Bd 20 a → Bd 20 u → Bd 61 (s + w * ((at2 vs i).1 * a + (at2 vs i).2 * u)) := fun hs ha hu => Bd.add (n := 60) hs (Bd.mono (Bd.mul bw (B1 ha hu)))
    have f1 : Fit o1 := io4.2.1.fit
    have f2 : Fit o2 := io4.2.2.1.fit
    have f3 : Fit o3 := io4.2.2.2.fit
    have f4 : Fit v1 := it4.2.1.fit
    have f5 : Fit v2 := it4.2.2.1.fit
    have f6 : Fit v3 := it4.2.2.2.fit
    have h1 : Fit _ := (B1 io4.2.1 it4.2.1).fit
    have h2 : Fit _ := (B1 io4.2.2.1 it4.2.2.1).fit
    have h3 : Fit _ := (B1 io4.2.2.2 it4.2.2.2).fit
    have bX := B2 bx io4.2.1 it4.2.1
    have bY := B2 by' io4.2.2.1 it4.2.2.1
    have bZ := B2 bz io4.2.2.2 it4.2.2.2
    refine for_range (lo := 0) (n := 3) (fun k σ J6 => SameB m J5 J6 ∧ ∃ o11 o12 : Option V, σ = [some (.ref f), some (.ref L), some (.bl th), some (.bl g), some (.ref l), some (.ref o), some (.ref t), some (.ref p), some (.int (at2 vs i).1), some (.int (at2 vs i).2), some (.ref m), o11, o12] ∧ J6 m = some (.lst (([x + w * ((at2 vs i).1 * o1 + (at2 vs i).2 * v1), y + w * ((at2 vs i).1 * o2 + (at2 vs i).2 * v2), z + w * ((at2 vs i).1 * o3 + (at2 vs i).2 * v3)].take k).map V.int))) ⟨fun _ _ _ z => z, o11, o12, rfl, e5⟩ ?_ ?_
    · rintro k σ J6 hk ⟨s6, o11, o12, rfl, e6⟩
      have t6 := (tJ.trans s5.t).trans (SameB.tl s6 e5)
      have k1 : SqT K J6 o [.int o1, .int o2, .int o3] := SqT.of (t6 _ _ io4.1)
      have k2 : SqT K J6 t [.int v1, .int v2, .int v3] := SqT.of (t6 _ _ it4.1)
      have k3 : SqL K J6 l [.int x, .int y, .int z, .int w] := SqL.of (s6 l _ ml (s5 _ _ elJ))
      have s7 := fun (xs : List V) => s6.trans ((SameB.refl m J6).box (o := .lst xs))
      match k, hk with
      | 0, _ =>
        try walk_at "rf"
        walk_at "gf"
        exact ⟨.inl ⟨_, SqL.of e6⟩, ixL k3 rfl (ixL k3 (i := 3) rfl ⟨_, rfl, fw, h1, _, rfl, m, _, _, rfl, rfl, e6, lt_line (show 0 < 1000 by decide), s7 _, upd_same⟩)⟩
      | 1, _ =>
        try walk_at "rf"
        walk_at "gf"
        exact ⟨.inl ⟨_, SqL.of e6⟩, ixL k3 rfl (ixL k3 (i := 3) rfl ⟨_, rfl, fw, h2, _, rfl, m, _, _, rfl, rfl, e6, lt_line (show 1 < 1000 by decide), s7 _, upd_same⟩)⟩
      | 2, _ =>
        try walk_at "rf"
        walk_at "gf"
        exact ⟨.inl ⟨_, SqL.of e6⟩, ixL k3 rfl (ixL k3 (i := 3) rfl ⟨_, rfl, fw, h3, _, rfl, m, _, _, rfl, rfl, e6, lt_line (show 2 < 1000 by decide), s7 _, upd_same⟩)⟩
    · rintro σ J6 ⟨s6, o11, o12, rfl, e6⟩
      try walk_at "rf"
      have k6 : SqL K J6 m [.int (x + w * ((at2 vs i).1 * o1 + (at2 vs i).2 * v1)), .int (y + w * ((at2 vs i).1 * o2 + (at2 vs i).2 * v2)), .int (z + w * ((at2 vs i).1 * o3 + (at2 vs i).2 * v3))] := SqL.of e6
      have k3 : SqL K J6 l [.int x, .int y, .int z, .int w] := SqL.of (s6 l _ ml (s5 _ _ elJ))
      have ep6 := s6 p _ mp (s5 _ _ eJ)
      have q0 : ∀ {n : Int}, Bd 61 n → Small n := fun {n} h => Bd.mono (n := 61) h
      have ll : (qs.map V.ref).length < sizeLine := lt_line (by rw [List.length_map, hps.len]; have := G.2.1; omega)
      refine ⟨.inl ⟨_, SqL.of ep6⟩, ixL k6 (i := 0) rfl (ixL k6 (i := 1) rfl (ixL k6 (i := 2) rfl (ixL k3 (i := 3) rfl ⟨_, _, _, _, rfl, q0 bX, q0 bY, q0 bZ, q0 (Bd.mono bw), by omega, fun r J7 s7 e7 => ⟨p, _, _, rfl, rfl, s7 _ _ ep6, ll, ?_⟩⟩)))⟩
      obtain ⟨np', enp, p1, p2, p3, p4, p5, p6, p7, p8, p9⟩ := low_pt (x := x + w * ((at2 vs i).1 * o1 + (at2 vs i).2 * v1)) (y := y + w * ((at2 vs i).1 * o2 + (at2 vs i).2 * v2)) (z := z + w * ((at2 vs i).1 * o3 + (at2 vs i).2 * v3)) (w := w) (by omega)
      rw [enp] at e7
      have Bx : Bd 61 np'.x := Nat.lt_of_le_of_lt p6 bX
      have By : Bd 61 np'.y := Nat.lt_of_le_of_lt p7 bY
      have Bz : Bd 61 np'.z := Nat.lt_of_le_of_lt p8 bZ
      have Bw : Bd 7 np'.w := Nat.lt_of_le_of_lt (show np'.w.natAbs ≤ w.natAbs by omega) bw
      have TU := SameT.upd (ys := qs.map V.ref ++ [V.ref r]) (s7 _ _ ep6)
      have TT := ((s5.t.trans (SameB.tl s6 e5)).trans s7.t).trans TU
      have pa : ∀ j, j < i → pt (ps ++ [np']) j = pt ps j := fun j hj => by unfold pt; rw [List.getD_eq_getElem?_getD, List.getD_eq_getElem?_getD, List.getElem?_append_left (by omega)]
      have pb : pt (ps ++ [np']) i = np' := by unfold pt; rw [List.getD_eq_getElem?_getD, List.getElem?_append_right (by omega), lps]; simp
      refine ⟨fun b o nb hb => ?_, qs ++ [r], by rw [List.map_append]; exact upd_same, ps ++ [np'], (hps.keep TT).app (.cons ⟨TU _ _ e7, Bd.mono Bx, Bd.mono By, Bd.mono Bz, Bd.mono Bw⟩ .nil), by rw [List.length_append, lps]; rfl, fun j hj => ?_⟩
      · rw [upd_ne nb]
        have hb' := sJ b _ nb hb
        exact s7 _ _ (s6 b _ (ne_of_none hb' hm) (s5 _ _ hb'))
      · by_cases c : j < i
        · rw [pa j c]; exact hR j c
        · have : j = i := by omega
          subst this
          rw [pb]
          exact ⟨⟨p1, p3, p4, p5⟩, Bx, By, Bz, Bw⟩
  · rintro σ J ⟨sJ, o8, o9, o10, o11, o12, qs, ps, rfl, eJ, hps, lps, hR⟩
    try walk_at "rf"
    rw [List.length_map, lr] at lps hR
    have n3 : 3 ≤ ps.length := by have := G.1; omega
    have n8 : ps.length ≤ 8 := by have := G.2.1; omega
    have hRl := fun i (hi : i < vs.length) => (hR i hi).1
    refine ⟨p, qs, ps, rfl, ⟨eJ, hps⟩, brd_of (B := ⟨x, y, z, w, o1, o2, o3, v1, v2, v3⟩) w1 nc lps hRl G, fun b J5 s5 e5 => ?_⟩
    have D := (Dih.refl n3).frm n3 n8
    have bt : Bt (frm ps ps) ∧ ∀ i, i < (frm ps ps).length → 1 ≤ (pt (frm ps ps) i).w := by
      obtain ⟨hq, a, ha, d⟩ := D
      have m : ∀ i, i % ps.length < vs.length := fun i => by rw [lps]; exact Nat.mod_lt _ (by omega)
      refine ⟨fun i hi => ?_, fun i hi => ?_⟩
      · rcases d with d | d
        · rw [d i (by omega)]; exact (hR _ (m _)).2
        · rw [d i (by omega)]; exact (hR _ (m _)).2
      · rcases d with d | d
        · rw [d i (by omega)]; exact (hR _ (m _)).1.1
        · rw [d i (by omega)]; exact (hR _ (m _)).1.1
    refine q J5 b (frm ps qs) (frm ps ps) (fun b o nb hb => s5 _ _ (sJ b o (ne_of_none hb hpn) (S4 b o nb hb))) ?_ ⟨e5, (hps.keep s5.t).frm, by rw [D.1]; exact n3, by rw [D.1]; exact n8, dih_arrow (B := ⟨x, y, z, w, o1, o2, o3, v1, v2, v3⟩) w1 nc lps hRl G D, fun i hi => ?_⟩ bt.1
    · obtain ⟨xs, h1, h2⟩ := b4
      exact ⟨xs, s5 _ _ (sJ L _ (Ne.symm pL) h1), h2⟩
    · have z := bt.1 i hi
      exact ⟨Bd.mono z.1, Bd.mono z.2.1, Bd.mono z.2.2.1, Bd.mono z.2.2.2, bt.2 i hi⟩
/-- the way from p to q, and the cross of two ways -/
def wy (p q : Pt) : Int × Int × Int := (q.x * p.w - p.x * q.w, q.y * p.w - p.y * q.w, q.z * p.w - p.z * q.w)
def cx (a b : Int × Int × Int) : Int × Int × Int := (a.2.1 * b.2.2 - a.2.2 * b.2.1, a.2.2 * b.1 - a.1 * b.2.2, a.1 * b.2.1 - a.2.1 * b.1)
def dotT (a b : Int × Int × Int) : Int := a.1 * b.1 + a.2.1 * b.2.1 + a.2.2 * b.2.2
def upr (ps : List Pt) : Int × Int × Int := cx (wy (pt ps 0) (pt ps 1)) (wy (pt ps 0) (pt ps 2))
def spUp : Sp := fun vs H Q _ => ∃ (b : Addr) (rs : List Addr) (ps : List Pt), vs = [.ref b] ∧ Bnd H b rs ps ∧ Bt ps ∧ ∀ (g : Addr) (H' : Hp), Same H H' → Is3 141 H' g (upr ps).1 (upr ps).2.1 (upr ps).2.2 → Q (.ref g) H'
def spFree : Sp := fun vs H Q _ => ∃ (b e : Addr) (rs : List Addr) (ps : List Pt) (ep : Pt), vs = [.ref b, .ref e] ∧ Bnd H b rs ps ∧ Bt ps ∧ Is4 H e ep ∧ Lw ep ∧ ∀ H', Same H H' → Q (.bl (decide (dotT (upr ps) (wy (pt ps 0) ep) ≠ 0))) H'
theorem wy_bd {p q : Pt} (hp : Bd 61 p.x ∧ Bd 61 p.y ∧ Bd 61 p.z ∧ Bd 7 p.w) (hq : Bd 61 q.x ∧ Bd 61 q.y ∧ Bd 61 q.z ∧ Bd 7 q.w) : Bd 69 (wy p q).1 ∧ Bd 69 (wy p q).2.1 ∧ Bd 69 (wy p q).2.2 :=
  ⟨Bd.sub (n := 68) (Bd.mul hq.1 hp.2.2.2) (Bd.mul hp.1 hq.2.2.2), Bd.sub (n := 68) (Bd.mul hq.2.1 hp.2.2.2) (Bd.mul hp.2.1 hq.2.2.2), Bd.sub (n := 68) (Bd.mul hq.2.2.1 hp.2.2.2) (Bd.mul hp.2.2.1 hq.2.2.2)⟩
theorem cx_bd {a b : Int × Int × Int} {n : Nat} (ha : Bd n a.1 ∧ Bd n a.2.1 ∧ Bd n a.2.2) (hb : Bd n b.1 ∧ Bd n b.2.1 ∧ Bd n b.2.2) : Bd (n + n + 1) (cx a b).1 ∧ Bd (n + n + 1) (cx a b).2.1 ∧ Bd (n + n + 1) (cx a b).2.2 :=
  ⟨Bd.sub (Bd.mul ha.2.1 hb.2.2) (Bd.mul ha.2.2 hb.2.1), Bd.sub (Bd.mul ha.2.2 hb.1) (Bd.mul ha.1 hb.2.2), Bd.sub (Bd.mul ha.1 hb.2.1) (Bd.mul ha.2.1 hb.1)⟩
theorem ok_up (T : Tx K mg t1 t2) (F : At K mg "_law_upright" s__law_upright ["board"] []) (d__law_cross : DefOk P w K mg base CX0 1 "_law_cross" ["one", "other"] [] spCr) (d__law_way : DefOk P w K mg base CX0 1 "_law_way" ["one", "other"] [] spWay) : DefOk P w K mg base CX0 2 "_law_upright" ["board"] [] spUp := by
  refine F.ok sc__law_upright (fun vs H Q E h => ?_) (fun f cdv A outer s H vs Q E hr h => ?_)
  · obtain ⟨b, rs, ps, rfl, _⟩ := h
    rfl
  obtain ⟨b, rs, ps, rfl, hB, bt, q⟩ := h
  have S := sc__law_upright
  refine ⟨_, (pss_one (ps_ret (pe_callD d__law_cross (hr.mono (by decide)) rfl pass0 (pa_cons (pe_callD d__law_way (hr.mono (by decide)) rfl pass0 (pa_cons (pe_ix ix_tup (pv 0) pe_int (fun _ _ => rfl)) (pa_cons (pe_ix ix_tup (pv 0) pe_int (fun _ _ => rfl)) pa_nil se_sub) se_sub)) (pa_cons (pe_callD d__law_way (hr.mono (by decide)) rfl pass0 (pa_cons (pe_ix ix_tup (pv 0) pe_int (fun _ _ => rfl)) (pa_cons (pe_ix ix_tup (pv 0) pe_int (fun _ _ => rfl)) pa_nil se_sub) se_sub)) pa_nil se_cal) se_cal)))), ?_⟩
  obtain ⟨eb, hps, n3, n8, na, hb⟩ := hB
  have kb : SqT K H b (rs.map V.ref) := SqT.of eb
  have g0 := hps.get (i := 0) (by omega)
  have g1 := hps.get (i := 1) (by omega)
  have g2 := hps.get (i := 2) (by omega)
  have w1 := wy_bd (bt 0 (by omega)) (bt 1 (by omega))
  have w2 := wy_bd (bt 0 (by omega)) (bt 2 (by omega))
  have c1 := cx_bd w1 w2
  try walk_at "rf"
  refine ixT kb (i := 0) (atI_nat g0.1) (ixT kb (i := 1) (atI_nat g1.1) ⟨_, _, _, _, rfl, g0.2, g1.2, fun r J1 s1 e1 => ?_⟩)
  have kb1 : SqT K J1 b (rs.map V.ref) := SqT.of (s1 _ _ eb)
  refine ixT kb1 (i := 0) (atI_nat g0.1) (ixT kb1 (i := 2) (atI_nat g2.1) ⟨_, _, _, _, rfl, g0.2.keep s1, g2.2.keep s1, fun r2 J2 s2 e2 => ?_⟩)
  exact ⟨r, r2, _, _, _, _, _, _, rfl, ⟨s2 _ _ e1, Bd.mono w1.1, Bd.mono w1.2.1, Bd.mono w1.2.2⟩, ⟨e2, Bd.mono w2.1, Bd.mono w2.2.1, Bd.mono w2.2.2⟩, fun g J3 s3 e3 => q g J3 ((s1.trans s2).trans s3) ⟨e3, Bd.mono c1.1, Bd.mono c1.2.1, Bd.mono c1.2.2⟩⟩
theorem wy_lw {p q : Pt} (hp : Bd 61 p.x ∧ Bd 61 p.y ∧ Bd 61 p.z ∧ Bd 7 p.w) (hq : Lw q) : Bd 132 (wy p q).1 ∧ Bd 132 (wy p q).2.1 ∧ Bd 132 (wy p q).2.2 :=
  ⟨Bd.sub (n := 131) (Bd.mono (Bd.mul hq.1 hp.2.2.2)) (Bd.mul hp.1 hq.2.2.2.1), Bd.sub (n := 131) (Bd.mono (Bd.mul hq.2.1 hp.2.2.2)) (Bd.mul hp.2.1 hq.2.2.2.1), Bd.sub (n := 131) (Bd.mono (Bd.mul hq.2.2.1 hp.2.2.2)) (Bd.mul hp.2.2.1 hq.2.2.2.1)⟩
theorem Bnd.keep {H H' : Hp} {b : Addr} {rs : List Addr} {ps : List Pt} (h : Bnd H b rs ps) (s : SameT H H') : Bnd H' b rs ps := ⟨s _ _ h.1, h.2.1.keep s, h.2.2⟩
theorem ok_free (T : Tx K mg t1 t2) (F : At K mg "_law_free" s__law_free ["board", "eye"] []) (d__law_dot : DefOk P w K mg base CX0 1 "_law_dot" ["one", "other"] [] spDot) (d__law_upright : DefOk P w K mg base CX0 2 "_law_upright" ["board"] [] spUp) (d__law_way : DefOk P w K mg base CX0 1 "_law_way" ["one", "other"] [] spWay) : DefOk P w K mg base CX0 3 "_law_free" ["board", "eye"] [] spFree := by
  refine F.ok sc__law_free (fun vs H Q E h => ?_) (fun f cdv A outer s H vs Q E hr h => ?_)
  · obtain ⟨b, e, rs, ps, ep, rfl, _⟩ := h
    rfl
  obtain ⟨b, e, rs, ps, ep, rfl, hB, bt, he, le, q⟩ := h
  have S := sc__law_free
  refine ⟨_, (pss_one (ps_ret (pe_cmpR op_ne (pe_callD d__law_dot (hr.mono (by decide)) rfl pass0 (pa_cons (pe_callD d__law_upright (hr.mono (by decide)) rfl pass0 (pa_cons (pv 0) pa_nil se_nam)) (pa_cons (pe_callD d__law_way (hr.mono (by decide)) rfl pass0 (pa_cons (pe_ix ix_tup (pv 0) pe_int (fun _ _ => rfl)) (pa_cons (pv 1) pa_nil se_nam) se_sub)) pa_nil se_cal) se_cal)) pe_int (nomark _)))), ?_⟩
  try walk_at "rf"
  refine ⟨b, rs, ps, rfl, hB, bt, fun g J1 s1 i1 => ?_⟩
  have hB1 := hB.keep s1.t
  have kb : SqT K J1 b (rs.map V.ref) := SqT.of hB1.1
  have n3 := hB.2.2.1
  have g0 := hB1.2.1.get (i := 0) (by omega)
  have w1 := wy_lw (bt 0 (by omega)) le
  refine ixT kb (i := 0) (atI_nat g0.1) ⟨_, _, _, _, rfl, g0.2, he.keep s1, fun r J2 s2 e2 => ?_⟩
  refine ⟨g, r, _, _, _, _, _, _, rfl, ⟨s2 _ _ i1.1, Bd.mono i1.2.1, Bd.mono i1.2.2.1, Bd.mono i1.2.2.2⟩, ⟨e2, Bd.mono w1.1, Bd.mono w1.2.1, Bd.mono w1.2.2⟩, ?_⟩
  have z := q J2 (s1.trans s2)
  unfold dotT at z
  refine ⟨rfl, ?_⟩
  have ee : ∀ n : Int, (!decide (V.int n = V.int 0)) = decide (n ≠ 0) := fun n => by by_cases h : n = 0 <;> simp [h]
  rw [ee]
  exact z
theorem free_h4 (a b c e : Pt) : dotT (cx (wy a b) (wy a c)) (wy a e) = a.w * a.w * H4 a b c e ∨ dotT (cx (wy a b) (wy a c)) (wy a e) = -(a.w * a.w * H4 a b c e) := by
  obtain ⟨ax, ay, az, aw⟩ := a
  obtain ⟨bx, by', bz, bw⟩ := b
  obtain ⟨cx', cy, cz, cw⟩ := c
  obtain ⟨ex, ey, ez, ew⟩ := e
  unfold dotT cx wy H4 hgt minor
  first
    | (right; simp only [wo, detL, det3]; simp; grind)
    | (left; simp only [wo, detL, det3]; simp; grind)
theorem free_iff {ps : List Pt} {ep : Pt} (w1 : 1 ≤ (pt ps 0).w) : dotT (upr ps) (wy (pt ps 0) ep) ≠ 0 ↔ H4 (pt ps 0) (pt ps 1) (pt ps 2) ep ≠ 0 := by
  have h := free_h4 (pt ps 0) (pt ps 1) (pt ps 2) ep
  have e : upr ps = cx (wy (pt ps 0) (pt ps 1)) (wy (pt ps 0) (pt ps 2)) := rfl
  rw [e]
  generalize dotT (cx (wy (pt ps 0) (pt ps 1)) (wy (pt ps 0) (pt ps 2))) (wy (pt ps 0) ep) = D at h ⊢
  have ww := Int.mul_pos (show 0 < (pt ps 0).w from w1) (show 0 < (pt ps 0).w from w1)
  constructor
  · intro hd h0
    rw [h0] at h
    simp at h
    exact hd h
  · intro hh hd
    have z : (pt ps 0).w * (pt ps 0).w * H4 (pt ps 0) (pt ps 1) (pt ps 2) ep = 0 := by omega
    rcases Int.mul_eq_zero.mp z with z | z
    · omega
    · exact hh z
def ryC (c e cw ew a u t b t' b' : Int) : Int := (c * ew - e * cw) * b * b' + cw * ew * (t * b' * a + t' * b * u)
def Plce (H : Hp) (pl r r' : Addr) (t b t' b' : Int) : Prop := H pl = some (.tup [.ref r, .ref r']) ∧ Fr2 H r t b ∧ Fr2 H r' t' b'
def spRay : Sp := fun vs H Q _ => ∃ (f e c a u pl r r' : Addr) (ep cp : Pt) (a1 a2 a3 u1 u2 u3 t b t' b' : Int), vs = [.ref f, .ref pl] ∧ Frm H f e c a u ep cp a1 a2 a3 u1 u2 u3 ∧ Plce H pl r r' t b t' b' ∧ ∀ (g : Addr) (H' : Hp), Same H H' → Is3 290 H' g (ryC cp.x ep.x cp.w ep.w a1 u1 t b t' b') (ryC cp.y ep.y cp.w ep.w a2 u2 t b t' b') (ryC cp.z ep.z cp.w ep.w a3 u3 t b t' b') → Q (.ref g) H'
theorem ok_ray (T : Tx K mg t1 t2) (F : At K mg "_law_ray" s__law_ray ["frame", "place"] []) : DefOk P w K mg base CX0 1 "_law_ray" ["frame", "place"] [] spRay := by
  refine F.ok sc__law_ray (fun vs H Q E h => ?_) (fun f cdv A outer s H vs Q E hr h => ?_)
  · obtain ⟨f, e, c, a, u, pl, r, r', ep, cp, a1, a2, a3, u1, u2, u3, t, b, t', b', rfl, _⟩ := h
    rfl
  obtain ⟨f, e, c, a, u, pl, r, r', ep, cp, a1, a2, a3, u1, u2, u3, t, b, t', b', rfl, hF, hP, q⟩ := h
  have S := sc__law_ray
  refine ⟨_, (pss_cons (ps_asg (pv 0) (pg_tup rfl (pgs_cons (pg_name (i := 2) S.nd rfl (Or.inl rfl)) (pgs_cons (pg_name (i := 3) S.nd rfl (Or.inl rfl)) (pgs_cons (pg_name (i := 4) S.nd rfl (Or.inl rfl)) (pgs_cons (pg_name (i := 5) S.nd rfl (Or.inl rfl)) pgs_nil))))))
    (pss_cons (ps_asg (pv 1) (pg_tup rfl (pgs_cons (pg_name (i := 6) S.nd rfl (Or.inl rfl)) (pgs_cons (pg_name (i := 7) S.nd rfl (Or.inl rfl)) pgs_nil))))
    (pss_cons (ps_set (i := 8) S.nd rfl (Or.inl rfl) (pe_lst pa_nil))
    (pss_cons (ps_for PassesOwn.never rfl (pi_range1 rfl T.m_range (pa_cons pe_int pa_nil se_con)) (pg_name (i := 9) S.nd rfl (Or.inl rfl))
    (pss_cons (ps_set (i := 10) S.nd rfl (Or.inl rfl) (pe_op op_add (pe_op op_mulB (pe_op op_mulB (pe_ix ix_tup (pv 6) pe_int (fun _ _ => rfl)) (pe_ix ix_tup (pv 7) pe_int (fun _ _ => rfl))) (pe_ix ix_tup (pv 4) (pv 9) (fun _ _ => rfl))) (pe_op op_mulB (pe_op op_mulB (pe_ix ix_tup (pv 7) pe_int (fun _ _ => rfl)) (pe_ix ix_tup (pv 6) pe_int (fun _ _ => rfl))) (pe_ix ix_tup (pv 5) (pv 9) (fun _ _ => rfl)))))
    (pss_cons (ps_set (i := 11) S.nd rfl (Or.inl rfl) (pe_op op_mulB (pe_op op_mulB (pe_op op_sub (pe_op op_mulB (pe_ix ix_tup (pv 3) (pv 9) (fun _ _ => rfl)) (pe_ix ix_tup (pv 2) pe_int (fun _ _ => rfl))) (pe_op op_mulB (pe_ix ix_tup (pv 2) (pv 9) (fun _ _ => rfl)) (pe_ix ix_tup (pv 3) pe_int (fun _ _ => rfl)))) (pe_ix ix_tup (pv 6) pe_int (fun _ _ => rfl))) (pe_ix ix_tup (pv 7) pe_int (fun _ _ => rfl))))
    (pss_one (ps_expr (pe_bm PySem.F.plainAttrs_list PySem.F.slot_list_append PySem.F.type_list_append mt_append (pv 8) (pa_cons (pe_op op_add (pv 11) (pe_op op_mulB (pe_op op_mulB (pe_ix ix_tup (pv 3) pe_int (fun _ _ => rfl)) (pe_ix ix_tup (pv 2) pe_int (fun _ _ => rfl))) (pv 10))) pa_nil se_bin)))))))
    (pss_one (ps_ret (pe_callTy call_tuple_of rfl T.m_tuple boot_tuple (pa_cons (pv 8) pa_nil se_nam)))))))), ?_⟩
  have kf : SqT K H f [.ref e, .ref c, .ref a, .ref u] := SqT.of hF.1
  have kp : SqT K H pl [.ref r, .ref r'] := SqT.of hP.1
  try walk_at "rf"
  refine ⟨_, kf, rfl, _, _, rfl, _, _, rfl, _, _, rfl, _, _, rfl, rfl, _, kp, rfl, _, _, rfl, _, _, rfl, rfl, by decide, fun p hp => ⟨by decide, by decide, ?_⟩⟩
  have s4 := Same.new hp (.lst [])
  have e4 : upd H p (.lst []) p = some (.lst []) := upd_same
  generalize upd H p (.lst []) = J4 at s4 e4 ⊢
  obtain ⟨_, ⟨kr, bt, bb, b0⟩, kr', bt', bb', b0'⟩ := hP
  have lc := hF.2.2.2.2.1
  have le := hF.2.2.1
  have A' := hF.2.2.2.2.2.1
  have U' := hF.2.2.2.2.2.2
  have ft : Fit t := bt.fit
  have fb : Fit b := bb.fit
  have ft' : Fit t' := bt'.fit
  have fb' : Fit b' := bb'.fit
  have fcw : Fit cp.w := lc.2.2.2.1.fit
  have few : Fit ep.w := le.2.2.2.1.fit
  have c1' := hF.2.2.2.1.2.fx
  have c2' := hF.2.2.2.1.2.fy
  have c3' := hF.2.2.2.1.2.fz
  have e1' := hF.2.1.2.fx
  have e2' := hF.2.1.2.fy
  have e3' := hF.2.1.2.fz
  have a1' : Fit a1 := A'.2.1.fit
  have a2' : Fit a2 := A'.2.2.1.fit
  have a3' : Fit a3 := A'.2.2.2.fit
  have u1' : Fit u1 := U'.2.1.fit
  have u2' : Fit u2 := U'.2.2.1.fit
  have u3' : Fit u3 := U'.2.2.2.fit
  have Bcw : Bd 140 (cp.w * ep.w) := Bd.mul lc.2.2.2.1 le.2.2.2.1
  have fce : Fit (cp.w * ep.w) := Bcw.fit
  have Btb : Bd 80 (t * b') := Bd.mul bt bb'
  have Btb' : Bd 80 (t' * b) := Bd.mul bt' bb
  have ftb : Fit (t * b') := Btb.fit
  have ftb' : Fit (t' * b) := Btb'.fit
  have B1 : ∀ {a u : Int}, Bd 50 a → Bd 50 u → Bd 131 (t * b' * a + t' * b * u) := fun ha hu => Bd.add (n := 130) (Bd.mul Btb ha) (Bd.mul Btb' hu)
  have B2 : ∀ {c e : Int}, Bd 70 c → Bd 70 e → Bd 141 (c * ep.w - e * cp.w) := fun hc he => Bd.sub (n := 140) (Bd.mul hc le.2.2.2.1) (Bd.mul he lc.2.2.2.1)
  have B3 : ∀ {c e : Int}, Bd 70 c → Bd 70 e → Bd 181 ((c * ep.w - e * cp.w) * b) := fun hc he => Bd.mul (B2 hc he) bb
  have fin : ∀ {c e a u : Int}, Bd 70 c → Bd 70 e → Bd 50 a → Bd 50 u → Bd 290 (ryC c e cp.w ep.w a u t b t' b') := fun hc he ha hu => Bd.mono (Bd.add (n := 280) (Bd.mono (Bd.mul (B3 hc he) bb')) (Bd.mono (Bd.mul Bcw (B1 ha hu))))
  refine for_range (lo := 0) (n := 3) (fun k σ J => SameB p J4 J ∧ ∃ o9 o10 o11 : Option V, σ = [some (.ref f), some (.ref pl), some (.ref e), some (.ref c), some (.ref a), some (.ref u), some (.ref r), some (.ref r'), some (.ref p), o9, o10, o11] ∧ J p = some (.lst (([ryC cp.x ep.x cp.w ep.w a1 u1 t b t' b', ryC cp.y ep.y cp.w ep.w a2 u2 t b t' b', ryC cp.z ep.z cp.w ep.w a3 u3 t b t' b'].take k).map V.int))) ⟨fun _ _ _ z => z, none, none, none, rfl, e4⟩ ?_ ?_
  · rintro k σ J hk ⟨sJ, o9, o10, o11, rfl, eJ⟩
    have tJ := s4.t.trans (SameB.tl sJ e4)
    have k1 : SqT K J a [.int a1, .int a2, .int a3] := SqT.of (tJ _ _ A'.1)
    have k2 : SqT K J u [.int u1, .int u2, .int u3] := SqT.of (tJ _ _ U'.1)
    have k3 := (hF.2.2.2.1.kt tJ).sq (K := K)
    have k4 := (hF.2.1.kt tJ).sq (K := K)
    have k5 : SqT K J r [.int t, .int b] := SqT.of (tJ _ _ kr)
    have k6 : SqT K J r' [.int t', .int b'] := SqT.of (tJ _ _ kr')
    have s7 := fun (xs : List V) => sJ.trans ((SameB.refl p J).box (o := .lst xs))
    match k, hk with
    | 0, _ =>
      have h1 : Fit _ := (B1 A'.2.1 U'.2.1).fit
      have h2 : Fit _ := (B2 lc.1 le.1).fit
      have h3 : Fit _ := (B3 lc.1 le.1).fit
      try walk_at "rf"
      walk_at "gf"
      exact ⟨.inl ⟨_, SqL.of eJ⟩, ixT k3 (i := 3) rfl (ixT k4 (i := 3) rfl ⟨_, rfl, _, rfl, fcw, few, fce, h1, p, _, _, rfl, rfl, eJ, lt_line (show 0 < 1000 by decide), s7 _, upd_same⟩)⟩
    | 1, _ =>
      have h1 : Fit _ := (B1 A'.2.2.1 U'.2.2.1).fit
      have h2 : Fit _ := (B2 lc.2.1 le.2.1).fit
      have h3 : Fit _ := (B3 lc.2.1 le.2.1).fit
      try walk_at "rf"
      walk_at "gf"
      exact ⟨.inl ⟨_, SqL.of eJ⟩, ixT k3 (i := 3) rfl (ixT k4 (i := 3) rfl ⟨_, rfl, _, rfl, fcw, few, fce, h1, p, _, _, rfl, rfl, eJ, lt_line (show 1 < 1000 by decide), s7 _, upd_same⟩)⟩
    | 2, _ =>
      have h1 : Fit _ := (B1 A'.2.2.2 U'.2.2.2).fit
      have h2 : Fit _ := (B2 lc.2.2.1 le.2.2.1).fit
      have h3 : Fit _ := (B3 lc.2.2.1 le.2.2.1).fit
      try walk_at "rf"
      walk_at "gf"
      exact ⟨.inl ⟨_, SqL.of eJ⟩, ixT k3 (i := 3) rfl (ixT k4 (i := 3) rfl ⟨_, rfl, _, rfl, fcw, few, fce, h1, p, _, _, rfl, rfl, eJ, lt_line (show 2 < 1000 by decide), s7 _, upd_same⟩)⟩
  · rintro σ J ⟨sJ, o9, o10, o11, rfl, eJ⟩
    try walk_at "rf"
    exact ⟨_, .inl ⟨SqL.of eJ, fun l hl => q l _ (fun x o hx => Same.new hl _ _ _ (sJ x _ (ne_of_none hx hp) (s4 _ _ hx))) ⟨upd_same, fin lc.1 le.1 A'.2.1 U'.2.1, fin lc.2.1 le.2.1 A'.2.2.1 U'.2.2.1, fin lc.2.2.1 le.2.2.1 A'.2.2.2 U'.2.2.2⟩⟩⟩
def spIsF : Sp := fun vs H Q _ => ∃ (g : Addr) (n : Nat) (t b : Int), vs = [.ref g] ∧ H g = some (.tup [.int t, .int b]) ∧ n ≤ 1000 ∧ Bd n t ∧ Bd n b ∧ 0 < b ∧ Int.gcd b t = 1 ∧ ∀ H', Same H H' → Q (.bl true) H'
theorem ok_isf (T : Tx K mg t1 t2) (F : At K mg "_law_is_fraction" s__law_is_fraction ["found"] []) (d__law_fraction : DefOk P w K mg base CX0 1 "_law_fraction" ["top", "bottom"] [] spLFrac) : DefOk P w K mg base CX0 2 "_law_is_fraction" ["found"] [] spIsF := by
  refine F.ok sc__law_is_fraction (fun vs H Q E h => ?_) (fun f cdv A outer s H vs Q E hr h => ?_)
  · obtain ⟨g, n, t, b, rfl, _⟩ := h
    rfl
  obtain ⟨g, n, t, b, rfl, hg, n1, st, sb, b0, h1, q⟩ := h
  have S := sc__law_is_fraction
  refine ⟨_, (pss_cons (ps_if (PW.pt (pw_or (pt_not (pt_val (pe_callB call_isinst rfl T.m_isinstance boot_isinstance (pa_cons (pv 0) (pa_cons (pe_bltn (v := .ty "tuple") rfl T.m_tuple boot_tuple rfl) pa_nil se_nam) se_nam)))) (pw_or1 (pt_cmpR op_ne (pe_callB call_len_seq rfl T.m_len PySem.boot_len (pa_cons (pv 0) pa_nil se_nam)) pe_int (nomark _)))))
    (pss_one (ps_ret pe_bl))
    pss_nil)
    (pss_cons (ps_for PassesOwn.never rfl (pi_tup (pv 0)) (pg_name (i := 1) S.nd rfl (Or.inl rfl))
    (pss_one (ps_if (PW.pt (pw_or (pt_not (pt_val (pe_callB call_isinst rfl T.m_isinstance boot_isinstance (pa_cons (pv 1) (pa_cons (pe_bltn (v := .ty "int") rfl T.m_int boot_int rfl) pa_nil se_nam) se_nam)))) (pw_or1 (pt_val (pe_callB call_isinst rfl T.m_isinstance boot_isinstance (pa_cons (pv 1) (pa_cons (pe_bltn (v := .ty "bool") rfl T.m_bool boot_bool rfl) pa_nil se_nam) se_nam))))))
    (pss_one (ps_ret pe_bl))
    pss_nil)))
    (pss_one (ps_ret (pe_and (pe_cmpR op_gt (pe_ix ix_tup (pv 0) pe_int (fun _ _ => rfl)) pe_int (nomark _)) (pe_one (pe_cmpR (op_eqD (un64 hr)) (pe_callD d__law_fraction (hr.mono (by decide)) rfl pass0 (pa_cons (pe_ix ix_tup (pv 0) pe_int (fun _ _ => rfl)) (pa_cons (pe_ix ix_tup (pv 0) pe_int (fun _ _ => rfl)) pa_nil se_sub) se_sub)) (pv 0) (nomark _)))))))), ?_⟩
  have kg : SqT K H g [.int t, .int b] := SqT.of hg
  try walk_at "rf"
  refine ⟨_, .tup hg, _, rfl, ?_⟩
  rw [if_neg (by decide)]
  refine ⟨_, .inr kg, ?_⟩
  rw [if_pos (show ((([V.int t, V.int b] : List V).length : Nat) : Int) = 2 from rfl)]
  refine ⟨⟨_, kg⟩, for_tup (K := K) (a := g) (xs := [V.int t, V.int b]) (fun i σ J => J = H ∧ ∃ o, σ = [some (.ref g), o]) ⟨rfl, _, rfl⟩ (fun i σ J hi hP => by obtain ⟨rfl, _⟩ := hP; exact kg) ?_ ?_⟩
  · rintro i v σ J hv ⟨rfl, o, rfl⟩
    obtain ⟨n, rfl, hn⟩ := int_of (ns := [t, b]) hv
    try walk_at "rf"
    refine ⟨_, .int n, _, rfl, ?_⟩
    rw [if_neg (by decide)]
    refine ⟨_, .int n, _, rfl, ?_⟩
    rw [if_neg (by decide)]
    exact ⟨_, rfl⟩
  · rintro σ J ⟨rfl, o, rfl⟩
    try walk_at "rf"
    refine ixT kg (i := 1) rfl ⟨_, rfl, ?_⟩
    rw [if_pos b0]
    refine ixT kg (i := 0) rfl (ixT kg (i := 1) rfl ⟨n, t, b, rfl, b0, n1, st, sb, fun r J2 t' b' s2 e2 _ _ _ he => ?_⟩)
    obtain ⟨e1, e3⟩ := he h1
    rw [e1, e3] at e2
    refine eqT_ints (x := [t, b]) (y := [t, b]) (SqT.of e2) (SqT.of (s2 _ _ hg)) ?_
    simp
    exact q _ s2
theorem pln_k {a b c d x y z w : Int} (h : pln [a, b, c, d] = [x, y, z, w]) : ∃ k : Int, a = k * x ∧ b = k * y ∧ c = k * z ∧ d = k * w := by
  have ea := Int.ediv_mul_cancel (gl_dvd (ns := [a, b, c, d]) (n := a) (by simp))
  have eb := Int.ediv_mul_cancel (gl_dvd (ns := [a, b, c, d]) (n := b) (by simp))
  have ec := Int.ediv_mul_cancel (gl_dvd (ns := [a, b, c, d]) (n := c) (by simp))
  have ed := Int.ediv_mul_cancel (gl_dvd (ns := [a, b, c, d]) (n := d) (by simp))
  have el : low [a, b, c, d] = [a / gl [a, b, c, d], b / gl [a, b, c, d], c / gl [a, b, c, d], d / gl [a, b, c, d]] := rfl
  unfold pln at h
  rw [el] at h
  generalize gl [a, b, c, d] = g at ea eb ec ed h
  generalize a / g = x' at ea h
  generalize b / g = y' at eb h
  generalize c / g = z' at ec h
  generalize d / g = w' at ed h
  have h : (if plb x' y' z' = true then [x', y', z', w'] else [-x', -y', -z', -w']) = [x, y, z, w] := h
  split at h
  · cases h
    exact ⟨g, by rw [← ea, Int.mul_comm], by rw [← eb, Int.mul_comm], by rw [← ec, Int.mul_comm], by rw [← ed, Int.mul_comm]⟩
  · cases h
    refine ⟨-g, ?_, ?_, ?_, ?_⟩
    · rw [← ea]; grind
    · rw [← eb]; grind
    · rw [← ec]; grind
    · rw [← ed]; grind
theorem right_id {p0 p1 q0 q1 r0 r1 u0 u1 v0 v1 he hA hU hc ew cw : Int} (hp : p0 * he = -ew * hA * p1) (hq : q0 * he = -ew * hU * q1) (hr : r0 * (cw * he) = (cw * he - ew * hc) * r1) :
    ((p0 * u0 * (q1 * v1) + q0 * v0 * (p1 * u1)) * r1 + r0 * (p1 * u1) * (q1 * v1)) * he * cw * u1 * v1 = -(p1 * u1 * (q1 * v1) * r1 * ((hc * ew - he * cw) * u1 * v1 + cw * ew * (u0 * v1 * hA + v0 * u1 * hU))) := by
  have e : ((p0 * u0 * (q1 * v1) + q0 * v0 * (p1 * u1)) * r1 + r0 * (p1 * u1) * (q1 * v1)) * he * cw * u1 * v1 = (p0 * he) * (u0 * (q1 * v1) * r1 * cw * u1 * v1) + (q0 * he) * (v0 * (p1 * u1) * r1 * cw * u1 * v1) + (r0 * (cw * he)) * ((p1 * u1) * (q1 * v1) * u1 * v1) := by grind
  rw [e, hp, hq, hr]
  grind
theorem ray_dot (A0 A1 A2 A3 cX cY cZ eX eY eZ cw ew a1 a2 a3 u1 u2 u3 t b t' b' : Int) :
    A0 * ryC cX eX cw ew a1 u1 t b t' b' + A1 * ryC cY eY cw ew a2 u2 t b t' b' + A2 * ryC cZ eZ cw ew a3 u3 t b t' b' = (hgt A0 A1 A2 A3 ⟨cX, cY, cZ, cw⟩ * ew - hgt A0 A1 A2 A3 ⟨eX, eY, eZ, ew⟩ * cw) * b * b' + cw * ew * (t * b' * hgt A0 A1 A2 A3 ⟨a1, a2, a3, 0⟩ + t' * b * hgt A0 A1 A2 A3 ⟨u1, u2, u3, 0⟩) := by
  unfold ryC hgt
  simp only
  have e0 : (A0 * cX + A1 * cY + A2 * cZ - A3 * cw) * ew - (A0 * eX + A1 * eY + A2 * eZ - A3 * ew) * cw = A0 * (cX * ew - eX * cw) + A1 * (cY * ew - eY * cw) + A2 * (cZ * ew - eZ * cw) := by grind
  rw [e0]
  generalize cX * ew - eX * cw = X
  generalize cY * ew - eY * cw = Y
  generalize cZ * ew - eZ * cw = Z
  generalize cw * ew = W
  generalize t * b' = T
  generalize t' * b = T'
  grind
theorem upr_m (a b c : Pt) : cx (wy a b) (wy a c) = (a.w * minor 0 a b c, a.w * -minor 1 a b c, a.w * minor 2 a b c) ∨ cx (wy a b) (wy a c) = (-a.w * minor 0 a b c, -a.w * -minor 1 a b c, -a.w * minor 2 a b c) := by
  obtain ⟨ax, ay, az, aw⟩ := a
  obtain ⟨bx, by', bz, bw⟩ := b
  obtain ⟨cx', cy, cz, cw⟩ := c
  unfold cx wy minor
  first
    | (left; simp only [wo, detL, det3, Prod.mk.injEq]; simp; refine ⟨?_, ?_, ?_⟩ <;> grind)
    | (right; simp only [wo, detL, det3, Prod.mk.injEq]; simp; refine ⟨?_, ?_, ?_⟩ <;> grind)
theorem upr_left {A0 A1 A2 A3 s : Int} {a e : Pt} (h : hgt A0 A1 A2 A3 a = 0) : dotT (s * A0, s * A1, s * A2) (wy e a) = -(s * a.w * hgt A0 A1 A2 A3 e) := by
  obtain ⟨ax, ay, az, aw⟩ := a
  obtain ⟨ex, ey, ez, ew⟩ := e
  unfold dotT wy
  unfold hgt at h ⊢
  simp only at h ⊢
  have e1 : s * A0 * (ax * ew - ex * aw) + s * A1 * (ay * ew - ey * aw) + s * A2 * (az * ew - ez * aw) = s * ((A0 * ax + A1 * ay + A2 * az - A3 * aw) * ew - (A0 * ex + A1 * ey + A2 * ez - A3 * ew) * aw) := by grind
  rw [e1, h]
  grind
theorem hgt_k (k x y z v : Int) (p : Pt) : hgt (k * x) (k * y) (k * z) (k * v) p = k * hgt x y z v p := by unfold hgt; grind
/-- what _law_right asks of the two sides -/
theorem right_eq {ps : List Pt} {ep cp : Pt} {x y z v a1 a2 a3 u1 u2 u3 t b t' b' : Int} (hpl : pln (rgh (pt ps 0) (pt ps 1) (pt ps 2)) = [x, y, z, v]) (hz : hgt x y z v ep ≠ 0) (cw1 : 1 ≤ cp.w) :
    (((nrA x y z v ep a1 a2 a3).1 * t * ((nrA x y z v ep u1 u2 u3).2 * b') + (nrA x y z v ep u1 u2 u3).1 * t' * ((nrA x y z v ep a1 a2 a3).2 * b)) * (nrC x y z v ep cp).2 + (nrC x y z v ep cp).1 * ((nrA x y z v ep a1 a2 a3).2 * b) * ((nrA x y z v ep u1 u2 u3).2 * b')) * dotT (upr ps) (wy ep (pt ps 0)) * cp.w * b * b' =
      (nrA x y z v ep a1 a2 a3).2 * b * ((nrA x y z v ep u1 u2 u3).2 * b') * (nrC x y z v ep cp).2 * (dotT (upr ps) (ryC cp.x ep.x cp.w ep.w a1 u1 t b t' b', ryC cp.y ep.y cp.w ep.w a2 u2 t b t' b', ryC cp.z ep.z cp.w ep.w a3 u3 t b t' b') * (pt ps 0).w) := by
  have fp := (nf_facts (t := -ep.w * hgt x y z v ⟨a1, a2, a3, 0⟩) hz).2.2.1
  have fq := (nf_facts (t := -ep.w * hgt x y z v ⟨u1, u2, u3, 0⟩) hz).2.2.1
  have fr := (nf_facts (t := cp.w * hgt x y z v ep - ep.w * hgt x y z v cp) (Int.mul_ne_zero (show cp.w ≠ 0 by omega) hz)).2.2.1
  have e0 : hgt (minor 0 (pt ps 0) (pt ps 1) (pt ps 2)) (-minor 1 (pt ps 0) (pt ps 1) (pt ps 2)) (minor 2 (pt ps 0) (pt ps 1) (pt ps 2)) (minor 3 (pt ps 0) (pt ps 1) (pt ps 2)) (pt ps 0) = 0 := h4_self _ _ _
  have ku := upr_m (pt ps 0) (pt ps 1) (pt ps 2)
  have er : rgh (pt ps 0) (pt ps 1) (pt ps 2) = [minor 0 (pt ps 0) (pt ps 1) (pt ps 2), -minor 1 (pt ps 0) (pt ps 1) (pt ps 2), minor 2 (pt ps 0) (pt ps 1) (pt ps 2), minor 3 (pt ps 0) (pt ps 1) (pt ps 2)] := rfl
  have ee : upr ps = cx (wy (pt ps 0) (pt ps 1)) (wy (pt ps 0) (pt ps 2)) := rfl
  rw [er] at hpl
  rw [ee]
  obtain ⟨k, k0, k1, k2, k3⟩ := pln_k hpl
  rw [k0, k1, k2, k3] at e0
  rw [k0, k1, k2] at ku
  generalize cx (wy (pt ps 0) (pt ps 1)) (wy (pt ps 0) (pt ps 2)) = U at ku ⊢
  clear hpl k0 k1 k2 k3 er ee
  have hU : ∃ s : Int, U = (s * (k * x), s * (k * y), s * (k * z)) := by
    rcases ku with h | h
    · exact ⟨_, h⟩
    · exact ⟨_, h⟩
  obtain ⟨s, rfl⟩ := hU
  have eL := upr_left (s := s) (e := ep) e0
  rw [eL, hgt_k]
  have eR : dotT (s * (k * x), s * (k * y), s * (k * z)) (ryC cp.x ep.x cp.w ep.w a1 u1 t b t' b', ryC cp.y ep.y cp.w ep.w a2 u2 t b t' b', ryC cp.z ep.z cp.w ep.w a3 u3 t b t' b') = s * k * ((hgt x y z v cp * ep.w - hgt x y z v ep * cp.w) * b * b' + cp.w * ep.w * (t * b' * hgt x y z v ⟨a1, a2, a3, 0⟩ + t' * b * hgt x y z v ⟨u1, u2, u3, 0⟩)) := by
    rw [show hgt x y z v cp = hgt x y z v ⟨cp.x, cp.y, cp.z, cp.w⟩ from rfl, show hgt x y z v ep = hgt x y z v ⟨ep.x, ep.y, ep.z, ep.w⟩ from rfl, ← ray_dot]
    unfold dotT
    simp only
    generalize ryC cp.x ep.x cp.w ep.w a1 u1 t b t' b' = R1
    generalize ryC cp.y ep.y cp.w ep.w a2 u2 t b t' b' = R2
    generalize ryC cp.z ep.z cp.w ep.w a3 u3 t b t' b' = R3
    grind
  rw [eR]
  unfold nrA nrC
  generalize hgt x y z v ⟨a1, a2, a3, 0⟩ = hA at *
  generalize hgt x y z v ⟨u1, u2, u3, 0⟩ = hU at *
  generalize hgt x y z v ep = he at *
  generalize hgt x y z v cp = hc at *
  generalize nf (-ep.w * hA) he = np at *
  generalize nf (-ep.w * hU) he = nq at *
  generalize nf (cp.w * he - ep.w * hc) (cp.w * he) = nr at *
  have id := right_id (u0 := t) (u1 := b) (v0 := t') (v1 := b') fp fq fr
  generalize np.2 * b * (nq.2 * b') * nr.2 = Bt' at *
  generalize (np.1 * t * (nq.2 * b') + nq.1 * t' * (np.2 * b)) * nr.2 + nr.1 * (np.2 * b) * (nq.2 * b') = Tp at *
  generalize (hc * ep.w - he * cp.w) * b * b' + cp.w * ep.w * (t * b' * hA + t' * b * hU) = Y at *
  have l : Tp * -(s * (pt ps 0).w * (k * he)) * cp.w * b * b' = -(s * (pt ps 0).w * k) * (Tp * he * cp.w * b * b') := by grind
  rw [l, id]
  grind
def spRight : Sp := fun vs H Q _ => ∃ (f e c a u bo g p q r pl r1 r2 : Addr) (rs : List Addr) (ps : List Pt) (ep cp : Pt) (a1 a2 a3 u1 u2 u3 x y z v t b t' b' : Int), vs = [.ref f, .ref bo, .ref g, .ref pl] ∧ Frm H f e c a u ep cp a1 a2 a3 u1 u2 u3 ∧ Bnd H bo rs ps ∧ Bt ps ∧ H4 (pt ps 0) (pt ps 1) (pt ps 2) ep ≠ 0 ∧ pln (rgh (pt ps 0) (pt ps 1) (pt ps 2)) = [x, y, z, v] ∧
  H g = some (.tup [.ref p, .ref q, .ref r]) ∧ At2 H p (nrA x y z v ep a1 a2 a3) ∧ At2 H q (nrA x y z v ep u1 u2 u3) ∧ At2 H r (nrC x y z v ep cp) ∧ Plce H pl r1 r2 t b t' b' ∧ ∀ H', Same H H' → Q (.bl true) H'
def Nr (n : Int × Int) : Prop := Bd 780 n.1 ∧ Bd 780 n.2 ∧ 0 < n.2 ∧ Int.gcd n.2 n.1 = 1
theorem nf_nr {t b : Int} (hb : b ≠ 0) (ht : Bd 780 t) (hb' : Bd 780 b) : Nr (nf t b) := by
  obtain ⟨h1, h2, _, h3, h4⟩ := nf_facts (t := t) hb
  exact ⟨Nat.lt_of_le_of_lt h3 ht, Nat.lt_of_le_of_lt h4 hb', by omega, by rw [Int.gcd_comm]; exact h2⟩
theorem near_nr {H : Hp} {f e c a u bo : Addr} {rs : List Addr} {ps : List Pt} {ep cp : Pt} {a1 a2 a3 u1 u2 u3 x y z v : Int} (hF : Frm H f e c a u ep cp a1 a2 a3 u1 u2 u3) (hB : Bnd H bo rs ps) (h4 : H4 (pt ps 0) (pt ps 1) (pt ps 2) ep ≠ 0) (hpl : pln (rgh (pt ps 0) (pt ps 1) (pt ps 2)) = [x, y, z, v]) : hgt x y z v ep ≠ 0 ∧ Nr (nrA x y z v ep a1 a2 a3) ∧ Nr (nrA x y z v ep u1 u2 u3) ∧ Nr (nrC x y z v ep cp) := by
  obtain ⟨h0', he, le, hc, lc, ha, hu⟩ := id hF
  obtain ⟨hb, hs, n3, n8, na, hbd⟩ := id hB
  obtain ⟨a1', a2'⟩ := hs.get (i := 0) (by omega)
  obtain ⟨a3', a4'⟩ := hs.get (i := 1) (by omega)
  obtain ⟨a5', a6'⟩ := hs.get (i := 2) (by omega)
  obtain ⟨k0, k1, k2, k3⟩ := minor_603 a2'.2 a4'.2 a6'.2
  have er : rgh (pt ps 0) (pt ps 1) (pt ps 2) = [minor 0 (pt ps 0) (pt ps 1) (pt ps 2), -minor 1 (pt ps 0) (pt ps 1) (pt ps 2), minor 2 (pt ps 0) (pt ps 1) (pt ps 2), minor 3 (pt ps 0) (pt ps 1) (pt ps 2)] := rfl
  rw [er] at hpl
  obtain ⟨b1, b2, b3, b4⟩ := pln_abs hpl
  have Bx : Bd 603 x := Nat.lt_of_le_of_lt b1 k0
  have By : Bd 603 y := Nat.lt_of_le_of_lt b2 (Bd.neg k1)
  have Bz : Bd 603 z := Nat.lt_of_le_of_lt b3 k2
  have Bv : Bd 603 v := Nat.lt_of_le_of_lt b4 k3
  have l1 : ∀ {p : Pt}, Lw p → Bd 100 p.x ∧ Bd 100 p.y ∧ Bd 100 p.z ∧ Bd 100 p.w := fun h => ⟨Bd.mono h.1, Bd.mono h.2.1, Bd.mono h.2.2.1, Bd.mono h.2.2.2.1⟩
  have le' := l1 le
  have lc' := l1 lc
  have bE : Bd 706 (hgt x y z v ep) := hgt_bd Bx By Bz Bv le'.1 le'.2.1 le'.2.2.1 le'.2.2.2
  have bC : Bd 706 (hgt x y z v cp) := hgt_bd Bx By Bz Bv lc'.1 lc'.2.1 lc'.2.2.1 lc'.2.2.2
  have z0 : Bd 100 (0 : Int) := by unfold Bd; decide
  have bA : Bd 706 (hgt x y z v ⟨a1, a2, a3, 0⟩) := hgt_bd Bx By Bz Bv (Bd.mono ha.2.1) (Bd.mono ha.2.2.1) (Bd.mono ha.2.2.2) z0
  have bU : Bd 706 (hgt x y z v ⟨u1, u2, u3, 0⟩) := hgt_bd Bx By Bz Bv (Bd.mono hu.2.1) (Bd.mono hu.2.2.1) (Bd.mono hu.2.2.2) z0
  have hz : hgt x y z v ep ≠ 0 := fun h => h4 (pln_conv hpl h)
  have cw0 : cp.w ≠ 0 := by have := lc.2.2.2.2; omega
  refine ⟨hz, nf_nr hz (Bd.mono (Bd.mul (n := 70) (m := 706) (Bd.neg le.2.2.2.1) bA)) (Bd.mono bE), nf_nr hz (Bd.mono (Bd.mul (n := 70) (m := 706) (Bd.neg le.2.2.2.1) bU)) (Bd.mono bE), nf_nr (Int.mul_ne_zero cw0 hz) (Bd.mono (Bd.sub (n := 776) (Bd.mul lc.2.2.2.1 bE) (Bd.mul le.2.2.2.1 bC))) (Bd.mono (Bd.mul lc.2.2.2.1 bE))⟩
theorem wy_lw2 {p q : Pt} (hp : Bd 61 p.x ∧ Bd 61 p.y ∧ Bd 61 p.z ∧ Bd 7 p.w) (hq : Lw q) : Bd 132 (wy q p).1 ∧ Bd 132 (wy q p).2.1 ∧ Bd 132 (wy q p).2.2 :=
  ⟨Bd.sub (n := 131) (Bd.mul hp.1 hq.2.2.2.1) (Bd.mono (Bd.mul hq.1 hp.2.2.2)), Bd.sub (n := 131) (Bd.mul hp.2.1 hq.2.2.2.1) (Bd.mono (Bd.mul hq.2.1 hp.2.2.2)), Bd.sub (n := 131) (Bd.mul hp.2.2.1 hq.2.2.2.1) (Bd.mono (Bd.mul hq.2.2.1 hp.2.2.2))⟩
theorem Plce.keep {H H' : Hp} {pl r r' : Addr} {t b t' b' : Int} (h : Plce H pl r r' t b t' b') (s : SameT H H') : Plce H' pl r r' t b t' b' := ⟨s _ _ h.1, ⟨s _ _ h.2.1.1, h.2.1.2⟩, ⟨s _ _ h.2.2.1, h.2.2.2⟩⟩
theorem ok_right (T : Tx K mg t1 t2) (F : At K mg "_law_right" s__law_right ["frame", "board", "found", "place"] []) (d__law_upright : DefOk P w K mg base CX0 2 "_law_upright" ["board"] [] spUp) (d__law_dot : DefOk P w K mg base CX0 1 "_law_dot" ["one", "other"] [] spDot) (d__law_way : DefOk P w K mg base CX0 1 "_law_way" ["one", "other"] [] spWay) (d__law_ray : DefOk P w K mg base CX0 1 "_law_ray" ["frame", "place"] [] spRay) : DefOk P w K mg base CX0 3 "_law_right" ["frame", "board", "found", "place"] [] spRight := by
  refine F.ok sc__law_right (fun vs H Q E h => ?_) (fun f cdv A outer s H vs Q E hr h => ?_)
  · obtain ⟨f, e, c, a, u, bo, g, p, q, r, pl, r1, r2, rs, ps, ep, cp, a1, a2, a3, u1, u2, u3, x, y, z, v, t, b, t', b', rfl, _⟩ := h
    rfl
  obtain ⟨f, e, c, a, u, bo, g, p, q, r, pl, r1, r2, rs, ps, ep, cp, a1, a2, a3, u1, u2, u3, x, y, z, v, t, b, t', b', rfl, hF, hB, bt, h4, hpl, hg, hp, hq, hr', hP, qq⟩ := h
  have S := sc__law_right
  refine ⟨_, (pss_cons (ps_asg (pv 0) (pg_tup rfl (pgs_cons (pg_name (i := 4) S.nd rfl (Or.inl rfl)) (pgs_cons (pg_name (i := 5) S.nd rfl (Or.inl rfl)) (pgs_cons (pg_name (i := 6) S.nd rfl (Or.inl rfl)) (pgs_cons (pg_name (i := 7) S.nd rfl (Or.inl rfl)) pgs_nil))))))
    (pss_cons (ps_asg (pv 3) (pg_tup rfl (pgs_cons (pg_name (i := 8) S.nd rfl (Or.inl rfl)) (pgs_cons (pg_name (i := 9) S.nd rfl (Or.inl rfl)) pgs_nil))))
    (pss_cons (ps_asg (pv 2) (pg_tup rfl (pgs_cons (pg_name (i := 10) S.nd rfl (Or.inl rfl)) (pgs_cons (pg_name (i := 11) S.nd rfl (Or.inl rfl)) (pgs_cons (pg_name (i := 12) S.nd rfl (Or.inl rfl)) pgs_nil)))))
    (pss_cons (ps_set (i := 13) S.nd rfl (Or.inl rfl) (pe_tup (pa_cons (pe_op op_mulB (pe_ix ix_tup (pv 10) pe_int (fun _ _ => rfl)) (pe_ix ix_tup (pv 8) pe_int (fun _ _ => rfl))) (pa_cons (pe_op op_mulB (pe_ix ix_tup (pv 10) pe_int (fun _ _ => rfl)) (pe_ix ix_tup (pv 8) pe_int (fun _ _ => rfl))) pa_nil se_bin) se_bin)))
    (pss_cons (ps_set (i := 14) S.nd rfl (Or.inl rfl) (pe_tup (pa_cons (pe_op op_mulB (pe_ix ix_tup (pv 11) pe_int (fun _ _ => rfl)) (pe_ix ix_tup (pv 9) pe_int (fun _ _ => rfl))) (pa_cons (pe_op op_mulB (pe_ix ix_tup (pv 11) pe_int (fun _ _ => rfl)) (pe_ix ix_tup (pv 9) pe_int (fun _ _ => rfl))) pa_nil se_bin) se_bin)))
    (pss_cons (ps_set (i := 15) S.nd rfl (Or.inl rfl) (pe_op op_add (pe_op op_mulB (pe_ix ix_tup (pv 13) pe_int (fun _ _ => rfl)) (pe_ix ix_tup (pv 14) pe_int (fun _ _ => rfl))) (pe_op op_mulB (pe_ix ix_tup (pv 14) pe_int (fun _ _ => rfl)) (pe_ix ix_tup (pv 13) pe_int (fun _ _ => rfl)))))
    (pss_cons (ps_set (i := 15) S.nd rfl (Or.inl rfl) (pe_op op_add (pe_op op_mulB (pv 15) (pe_ix ix_tup (pv 12) pe_int (fun _ _ => rfl))) (pe_op op_mulB (pe_op op_mulB (pe_ix ix_tup (pv 12) pe_int (fun _ _ => rfl)) (pe_ix ix_tup (pv 13) pe_int (fun _ _ => rfl))) (pe_ix ix_tup (pv 14) pe_int (fun _ _ => rfl)))))
    (pss_cons (ps_set (i := 16) S.nd rfl (Or.inl rfl) (pe_op op_mulB (pe_op op_mulB (pe_ix ix_tup (pv 13) pe_int (fun _ _ => rfl)) (pe_ix ix_tup (pv 14) pe_int (fun _ _ => rfl))) (pe_ix ix_tup (pv 12) pe_int (fun _ _ => rfl))))
    (pss_cons (ps_set (i := 17) S.nd rfl (Or.inl rfl) (pe_callD d__law_upright (hr.mono (by decide)) rfl pass0 (pa_cons (pv 1) pa_nil se_nam)))
    (pss_cons (ps_set (i := 18) S.nd rfl (Or.inl rfl) (pe_callD d__law_dot (hr.mono (by decide)) rfl pass0 (pa_cons (pv 17) (pa_cons (pe_callD d__law_way (hr.mono (by decide)) rfl pass0 (pa_cons (pv 4) (pa_cons (pe_ix ix_tup (pv 1) pe_int (fun _ _ => rfl)) pa_nil se_sub) se_nam)) pa_nil se_cal) se_nam)))
    (pss_cons (ps_set (i := 19) S.nd rfl (Or.inl rfl) (pe_op op_mulB (pe_callD d__law_dot (hr.mono (by decide)) rfl pass0 (pa_cons (pv 17) (pa_cons (pe_callD d__law_ray (hr.mono (by decide)) rfl pass0 (pa_cons (pv 0) (pa_cons (pv 3) pa_nil se_nam) se_nam)) pa_nil se_cal) se_nam)) (pe_ix ix_tup (pe_ix ix_tup (pv 1) pe_int (fun _ _ => rfl)) pe_int (fun _ _ => rfl))))
    (pss_one (ps_ret (pe_cmpR op_eq (pe_op op_mulB (pe_op op_mulB (pe_op op_mulB (pe_op op_mulB (pv 15) (pv 18)) (pe_ix ix_tup (pv 5) pe_int (fun _ _ => rfl))) (pe_ix ix_tup (pv 8) pe_int (fun _ _ => rfl))) (pe_ix ix_tup (pv 9) pe_int (fun _ _ => rfl))) (pe_op op_mulB (pv 16) (pv 19)) (nomark _))))))))))))))), ?_⟩
  obtain ⟨hz, N1, N2, N3⟩ := near_nr hF hB h4 hpl
  have req := right_eq (a1 := a1) (a2 := a2) (a3 := a3) (u1 := u1) (u2 := u2) (u3 := u3) (t := t) (b := b) (t' := t') (b' := b') hpl hz (cp := cp) hF.2.2.2.2.1.2.2.2.2
  generalize nrA x y z v ep a1 a2 a3 = m1 at *
  generalize nrA x y z v ep u1 u2 u3 = m2 at *
  generalize nrC x y z v ep cp = m3 at *
  have kf : SqT K H f [.ref e, .ref c, .ref a, .ref u] := SqT.of hF.1
  have kp : SqT K H pl [.ref r1, .ref r2] := SqT.of hP.1
  have kg : SqT K H g [.ref p, .ref q, .ref r] := SqT.of hg
  have k1 : SqT K H p [.int m1.1, .int m1.2] := SqT.of hp
  have k2 : SqT K H q [.int m2.1, .int m2.2] := SqT.of hq
  have k3 : SqT K H r [.int m3.1, .int m3.2] := SqT.of hr'
  have k4 : SqT K H r1 [.int t, .int b] := SqT.of hP.2.1.1
  have k5 : SqT K H r2 [.int t', .int b'] := SqT.of hP.2.2.1
  try walk_at "rf"
  refine ⟨_, kf, rfl, _, _, rfl, _, _, rfl, _, _, rfl, _, _, rfl, rfl, _, kp, rfl, _, _, rfl, _, _, rfl, rfl, _, kg, rfl, _, _, rfl, _, _, rfl, _, _, rfl, rfl, ?_⟩
  obtain ⟨_, ⟨_, Bt1, Bb1, b0⟩, _, Bt2, Bb2, b0'⟩ := id hP
  have ft : Fit t := Bt1.fit
  have fb : Fit b := Bb1.fit
  have ft' : Fit t' := Bt2.fit
  have fb' : Fit b' := Bb2.fit
  have f1 : Fit m1.1 := N1.1.fit
  have f2 : Fit m1.2 := N1.2.1.fit
  have f3 : Fit m2.1 := N2.1.fit
  have f4 : Fit m2.2 := N2.2.1.fit
  have f5 : Fit m3.1 := N3.1.fit
  have f6 : Fit m3.2 := N3.2.1.fit
  walk_at "gf"
  intro o1 ho1
  have s1 := Same.new ho1 (.tup [V.int (m1.fst * t), V.int (m1.snd * b)])
  have e1 : upd H o1 (.tup [V.int (m1.fst * t), V.int (m1.snd * b)]) o1 = some (.tup [V.int (m1.fst * t), V.int (m1.snd * b)]) := upd_same
  generalize upd H o1 (.tup [V.int (m1.fst * t), V.int (m1.snd * b)]) = J1 at s1 e1 ⊢
  have k2' := s1.tup k2
  have k5' := s1.tup k5
  have k3' := s1.tup k3
  clear k2 k3 k5
  walk_at "gf"
  intro o2 ho2
  have s2 := Same.new ho2 (.tup [V.int (m2.fst * t'), V.int (m2.snd * b')])
  have e2 : upd J1 o2 (.tup [V.int (m2.fst * t'), V.int (m2.snd * b')]) o2 = some (.tup [V.int (m2.fst * t'), V.int (m2.snd * b')]) := upd_same
  generalize upd J1 o2 (.tup [V.int (m2.fst * t'), V.int (m2.snd * b')]) = J2 at s2 e2 ⊢
  have k3 := s2.tup k3'
  have ko1 : SqT K J2 o1 [V.int (m1.fst * t), V.int (m1.snd * b)] := SqT.of (s2 _ _ e1)
  have ko2 : SqT K J2 o2 [V.int (m2.fst * t'), V.int (m2.snd * b')] := SqT.of e2
  have S2 := s1.trans s2
  clear k2' k3' k5'
  have B1 : Bd 820 (m1.fst * t) := Bd.mul (n := 780) (m := 40) N1.1 Bt1
  have B2 : Bd 820 (m1.snd * b) := Bd.mul (n := 780) (m := 40) N1.2.1 Bb1
  have B3 : Bd 820 (m2.fst * t') := Bd.mul (n := 780) (m := 40) N2.1 Bt2
  have B4 : Bd 820 (m2.snd * b') := Bd.mul (n := 780) (m := 40) N2.2.1 Bb2
  have g1 : Fit (m1.fst * t) := B1.fit
  have g2 : Fit (m1.snd * b) := B2.fit
  have g3 : Fit (m2.fst * t') := B3.fit
  have g4 : Fit (m2.snd * b') := B4.fit
  have B5 : Bd 1641 (m1.fst * t * (m2.snd * b') + m2.fst * t' * (m1.snd * b)) := Bd.add (n := 1640) (Bd.mul B1 B4) (Bd.mul B3 B2)
  have B6 : Bd 1600 (m3.fst * (m1.snd * b)) := Bd.mul (n := 780) (m := 820) N3.1 B2
  have B7 : Bd 1640 (m1.snd * b * (m2.snd * b')) := Bd.mul B2 B4
  have g5 : Fit (m1.fst * t * (m2.snd * b') + m2.fst * t' * (m1.snd * b)) := B5.fit
  have g6 : Fit (m3.fst * (m1.snd * b)) := B6.fit
  have g7 : Fit (m1.snd * b * (m2.snd * b')) := B7.fit
  walk_at "gf"
  have n3 := hB.2.2.1
  have hB2 := hB.keep S2.t
  refine ⟨bo, rs, ps, rfl, hB2, bt, fun up J3 s3 i3 => ?_⟩
  have S3 := S2.trans s3
  have hB3 := hB.keep S3.t
  have hF3 := hF.keep S3.t
  have kb : SqT K J3 bo (rs.map V.ref) := SqT.of hB3.1
  have G0 := hB3.2.1.get (i := 0) (by omega)
  have w1 := wy_lw2 (bt 0 (by omega)) hF.2.2.1
  refine ixT kb (i := 0) (atI_nat G0.1) ⟨_, _, _, _, rfl, hF3.2.1, G0.2, fun wa J4 s4 e4 => ?_⟩
  refine ⟨up, wa, _, _, _, _, _, _, rfl, ⟨s4 _ _ i3.1, Bd.mono i3.2.1, Bd.mono i3.2.2.1, Bd.mono i3.2.2.2⟩, ⟨e4, Bd.mono w1.1, Bd.mono w1.2.1, Bd.mono w1.2.2⟩, ?_⟩
  have S4 := S3.trans s4
  refine ⟨f, e, c, a, u, pl, r1, r2, ep, cp, a1, a2, a3, u1, u2, u3, t, b, t', b', rfl, hF.keep S4.t, hP.keep S4.t, fun ra J5 s5 i5 => ?_⟩
  refine ⟨up, ra, _, _, _, _, _, _, rfl, ⟨s5 _ _ (s4 _ _ i3.1), Bd.mono i3.2.1, Bd.mono i3.2.2.1, Bd.mono i3.2.2.2⟩, ⟨i5.1, Bd.mono i5.2.1, Bd.mono i5.2.2.1, Bd.mono i5.2.2.2⟩, ?_⟩
  have S5 := S4.trans s5
  have hB5 := hB.keep S5.t
  have hF5 := hF.keep S5.t
  have kb5 : SqT K J5 bo (rs.map V.ref) := SqT.of hB5.1
  have G5 := hB5.2.1.get (i := 0) (by omega)
  have kc5 := hF5.2.2.2.1.sq (K := K)
  have q1 := S5.tup k4
  have q2 : SqT K J5 r2 [.int t', .int b'] := SqT.of (S5 _ _ hP.2.2.1)
  have lt : Bd 276 (dotT (upr ps) (wy ep (pt ps 0))) := Bd.add (n := 275) (Bd.add (n := 274) (Bd.mono (Bd.mul i3.2.1 w1.1)) (Bd.mono (Bd.mul i3.2.2.1 w1.2.1))) (Bd.mono (Bd.mul i3.2.2.2 w1.2.2))
  have ah : Bd 435 (dotT (upr ps) (ryC cp.x ep.x cp.w ep.w a1 u1 t b t' b', ryC cp.y ep.y cp.w ep.w a2 u2 t b t' b', ryC cp.z ep.z cp.w ep.w a3 u3 t b t' b')) := Bd.add (n := 434) (Bd.add (n := 433) (Bd.mono (Bd.mul i3.2.1 i5.2.1)) (Bd.mono (Bd.mul i3.2.2.1 i5.2.2.1))) (Bd.mono (Bd.mul i3.2.2.2 i5.2.2.2))
  have w7 := (bt 0 (by omega)).2.2.2
  have TT : Bd 2450 ((m1.fst * t * (m2.snd * b') + m2.fst * t' * (m1.snd * b)) * m3.snd + m3.fst * (m1.snd * b) * (m2.snd * b')) := Bd.add (n := 2449) (Bd.mono (Bd.mul B5 N3.2.1)) (Bd.mono (Bd.mul B6 B4))
  have BB : Bd 2450 (m1.snd * b * (m2.snd * b') * m3.snd) := Bd.mono (Bd.mul B7 N3.2.1)
  have cwb := hF.2.2.2.2.1.2.2.2.1
  have z := qq J5 S5
  unfold dotT at req lt ah
  simp only at req lt ah
  generalize hL : (upr ps).fst * (wy ep (pt ps 0)).fst + (upr ps).snd.fst * (wy ep (pt ps 0)).snd.fst + (upr ps).snd.snd * (wy ep (pt ps 0)).snd.snd = L at *
  refine ixT kb5 (i := 0) (atI_nat G5.1) (ixT G5.2.sq (i := 3) rfl ⟨_, rfl, _, rfl, ah.fit, w7.fit, ⟨L, congrArg V.int hL, TT.fit, lt.fit, ?_⟩⟩)
  have X1 := Bd.mul TT lt
  have X2 := Bd.mul X1 cwb
  have X3 := Bd.mul X2 Bb1
  refine ixT kc5 (i := 3) rfl ⟨_, rfl, X1.fit, cwb.fit, ixT q1 (i := 1) rfl ⟨_, rfl, X2.fit, Bb1.fit, ixT q2 (i := 1) rfl ⟨_, rfl, X3.fit, Bb2.fit, ?_⟩⟩⟩
  exact ⟨BB.fit, (Bd.mul ah w7).fit, by rw [decide_eq_true req]; exact z⟩
def spAt (K : PySem.W.Frag) : Sp := fun vs H Q _ => ∃ (a : Addr) (ns : List Int), vs = [.ref a, .int 0] ∧ SqL K H a (ns.map V.int) ∧ ns.length < 100 ∧ ∀ c : Int, Q (.int c) H
theorem ok_at (T : Tx K mg t1 t2) (F : At K mg "_law_at" s__law_at ["script", "k"] []) : DefOk P w K mg base CX0 1 "_law_at" ["script", "k"] [] (spAt K) := by
  refine F.ok sc__law_at (fun vs H Q E h => ?_) (fun f cdv A outer s H vs Q E hr h => ?_)
  · obtain ⟨a, ns, rfl, _⟩ := h
    rfl
  obtain ⟨a, ns, rfl, ha, n1, q⟩ := h
  have S := sc__law_at
  refine ⟨_, (pss_cons (ps_if (pt_cmpR op_lt (pv 1) (pe_callB call_len_seq rfl T.m_len PySem.boot_len (pa_cons (pv 0) pa_nil se_nam)) (nomark _))
    (pss_one (ps_ret (pe_ix ix_list (pv 0) (pv 1) (fun _ _ => rfl))))
    pss_nil)
    (pss_one (ps_ret pe_int))), ?_⟩
  try walk_at "rf"
  refine ⟨_, .inl ha, ?_⟩
  refine ite2 (fun c => ?_) fun c => q 0
  match ns, ha, c with
  | [], _, c => simp at c
  | n :: ns', ha, _ => exact ixL ha (i := 0) (atI_nat (j := 0) rfl) (q n)
theorem ws_for {X : Cx} {tg iter : Expr} {body : List Stmt} {wi : TI} {g : TG} {tb : TS} {pos : Pos} (hp : PassesOwn (model X.prog X.w) X.A X.env X.xe) (hc : X.calm = true) (hi : PI X tg iter wi) (hg : PG X tg g) (hb : WSs X body tb) (hs : ∀ x, foldedSetIterable iter X.env x = pure x := by intro _; rfl) : WS X (.For tg iter body [] pos) (tFor wi g tb) := ⟨ps_for hp hc hi hg hb.h hs⟩
theorem fun_okW {x qual : Str} {st : Stmt} {f : Addr} {fd : FuncData} {dV : Value} {N ps : List Str} {k : Nat} {sp : Sp} (F : FunD K x qual st f fd dV) (S : FnScope N ps (defScope st)) (len : ∀ vs H Q E, sp vs H Q E → vs.length = ps.length)
    (hbody : ∀ (cdv : Value) (A : Around) (outer : List Env) (s : Shared) (H : Hp) (vs : List V) (Q : VK) (E : XK), Room k (A.deeper (envOfC qual (defScope st) s.heap.objs.size f cdv)) → sp vs H Q E →
      ∃ t, WSs (cxOf CX0 P w K mg base N qual (defScope st) f cdv A outer s H E).nox (defBody st) t ∧ t { nx := fun _ H' => Q .non H', rt := Q } (start N vs) H) : FnOk P w K mg base CX0 (k + 1) f fd ps sp :=
  F.ok S len fun cdv A outer s H vs Q E hr h => let ⟨t, h1, h2⟩ := hbody cdv A outer s H vs Q E hr h; ⟨t, h1.h, h2⟩
theorem ok_law {fN C : Addr} {e : Addr} {ed : FuncData} (T : Tc K mg t1 t2 fN C) (F : FunD K "law" "law" s_law e ed .none) (d__law_frame : DefOk P w K mg base CX0 6 "_law_frame" ["pot"] [] spFrame) (d__law_pot : DefOk P w K mg base CX0 1 "_law_pot" ["cell", "k"] [] spPot) (d__law_at : DefOk P w K mg base CX0 1 "_law_at" ["script", "k"] [] (spAt K)) (d__law_board : DefOk P w K mg base CX0 7 "_law_board" ["frame", "pot", "through"] [] spLBoard) (d__law_take : DefOk P w K mg base CX0 1 "_law_take" ["pot", "many"] [] spTake) (d__law_told : DefOk P w K mg base CX0 10 "_law_told" ["frame", "board"] [] (spTold K)) (d__law_free : DefOk P w K mg base CX0 3 "_law_free" ["board", "eye"] [] spFree) (d__law_is_fraction : DefOk P w K mg base CX0 2 "_law_is_fraction" ["found"] [] spIsF) (d__law_place : DefOk P w K mg base CX0 2 "_law_place" ["pot"] [] spPlace) (d__law_right : DefOk P w K mg base CX0 3 "_law_right" ["frame", "board", "found", "place"] [] spRight) : FnOk P w K mg base CX0 11 e ed ["script"] (spLaw K) := by
  refine fun_okW F sc_law (fun vs H Q E h => ?_) (fun cdv A outer s H vs Q E hr h => ?_)
  · obtain ⟨a, ns, rfl, _⟩ := h
    rfl
  obtain ⟨a, ns, rfl, hS, hl, q⟩ := h
  have S := sc_law
  refine ⟨_, (wss_cons ⟨(ps_set (i := 1) S.nd rfl (Or.inr rfl) (pe_callD d__law_frame (hr.mono (by decide)) rfl pass0 (pa_cons (pe_callD d__law_pot (hr.mono (by decide)) rfl pass0 (pa_cons (pe_callD d__law_at (hr.mono (by decide)) rfl pass0 (pa_cons (pv 0) (pa_cons pe_int pa_nil se_con) se_nam)) (pa_cons pe_int pa_nil se_con) se_cal)) pa_nil se_cal)))⟩
    (wss_cons (ws_for PassesOwn.never rfl (pi_enum rfl T.m_enumerate (pa_cons (pe_op op_catQ (pe_lst (pa_cons pe_int pa_nil se_con)) (pe_slice sl_list (pv 0) (po_some pe_int) po_none)) pa_nil se_bin)) (pg_tup rfl (pgs_cons (pg_name (i := 2) S.nd rfl (Or.inl rfl)) (pgs_cons (pg_name (i := 3) S.nd rfl (Or.inl rfl)) pgs_nil)))
    (wss_cons ⟨(ps_set (i := 4) S.nd rfl (Or.inl rfl) (pe_callD d__law_pot (hr.mono (by decide)) rfl pass0 (pa_cons (pv 3) (pa_cons (pe_op op_add (pv 2) pe_int) pa_nil se_bin) se_nam)))⟩
    (wss_cons ⟨(ps_set (i := 5) S.nd rfl (Or.inr rfl) (pe_callD d__law_board (hr.mono (by decide)) rfl pass0 (pa_cons (pv 1) (pa_cons (pv 4) (pa_cons (pe_cmpR op_eq (pe_callD d__law_take (hr.mono (by decide)) rfl pass0 (pa_cons (pv 4) (pa_cons pe_int pa_nil se_con) se_nam)) pe_int (nomark _)) pa_nil se_cmpr) se_nam) se_nam)))⟩
    (wss_cons ⟨(ps_asg (pe_callD d__law_told (hr.mono (by decide)) rfl pass0 (pa_cons (pv 1) (pa_cons (pv 5) pa_nil se_nam) se_nam)) (pg_tup rfl (pgs_cons (pg_name (i := 6) S.nd rfl (Or.inr rfl)) (pgs_cons (pg_name (i := 7) S.nd rfl (Or.inl rfl)) pgs_nil))))⟩
    (wss_cons ⟨(ps_if (pt_not (pt_val (pe_callD d__law_free (hr.mono (by decide)) rfl pass0 (pa_cons (pv 5) (pa_cons (pe_ix ix_tup (pv 1) pe_int (fun _ _ => rfl)) pa_nil se_sub) se_nam))))
    (pss_cons (ps_if (PW.pt (pw_or (pt_cmpR op_notN (pv 6) pe_non (nomark _)) (pw_or (pt_cmpR (op_neD (un64 hr)) (pv 7) pe_int (nomark _)) (pw_or1 (pt_val (pe_callB call_isinst rfl T.m_isinstance boot_isinstance (pa_cons (pv 7) (pa_cons (pe_bltn (v := .ty "bool") rfl T.m_bool boot_bool rfl) pa_nil se_nam) se_nam)))))))
    (pss_one (ps_ret pe_bl))
    pss_nil)
    (pss_one ps_continue))
    pss_nil)⟩
    (wss_cons ⟨(ps_if (PW.pt (pw_or (pt_cmpR op_notN (pv 7) pe_non (nomark _)) (pw_or (pt_not (pt_val (pe_callB call_isinst rfl T.m_isinstance boot_isinstance (pa_cons (pv 6) (pa_cons (pe_bltn (v := .ty "tuple") rfl T.m_tuple boot_tuple rfl) pa_nil se_nam) se_nam)))) (pw_or1 (pt_cmpR op_ne (pe_callB call_len_seq rfl T.m_len PySem.boot_len (pa_cons (pv 6) pa_nil se_nam)) pe_int (nomark _))))))
    (pss_one (ps_ret pe_bl))
    pss_nil)⟩
    (wss_cons ⟨(ps_if (pt_not (pt_val (pe_callB (call_all_bools rfl) rfl T.m_all boot_all (pa_cons (pe_comp rfl (N' := ["some"]) (ix := []) ⟨rfl, rfl, by decide +kernel, by decide +kernel, rfl, by decide +kernel, (show ∀ y : Str × NameKind, y ∈ _ → y.2 = NameKind.free → (defScope s_law).names.lookup y.1 = some .cell ∨ (defScope s_law).names.lookup y.1 = some .free from by decide +kernel), .nil⟩ (pi_tup (pv 6)) (fun _ _ _ _ => pg_name (i := 0) (show (["some"] : List Str).Nodup from by decide +kernel) rfl (Or.inl rfl)) (fun _ _ _ _ => pts_nil) (fun _ _ _ _ => (pe_callD d__law_is_fraction (hr.mono (by decide)) rfl pass0 (pa_cons (pv 0) pa_nil se_nam)))) pa_nil se_cmp))))
    (pss_one (ps_ret pe_bl))
    pss_nil)⟩
    (wss_cons (ws_asg (we_lst (wa_cons (we_tup (wa_cons (we_tup (wa_cons ⟨pe_int⟩ (wa_cons ⟨pe_int⟩ wa_nil se_con) se_con)) (wa_cons (we_tup (wa_cons ⟨pe_int⟩ (wa_cons ⟨pe_int⟩ wa_nil se_con) se_con)) wa_nil se_tup) se_tup)) (wa_cons (we_tup (wa_cons (we_tup (wa_cons ⟨pe_int⟩ (wa_cons ⟨pe_int⟩ wa_nil se_con) se_con)) (wa_cons (we_tup (wa_cons ⟨pe_int⟩ (wa_cons ⟨pe_int⟩ wa_nil se_con) se_con)) wa_nil se_tup) se_tup)) (wa_cons (we_tup (wa_cons (we_tup (wa_cons ⟨pe_int⟩ (wa_cons ⟨pe_int⟩ wa_nil se_con) se_con)) (wa_cons (we_tup (wa_cons ⟨pe_int⟩ (wa_cons ⟨pe_int⟩ wa_nil se_con) se_con)) wa_nil se_tup) se_tup)) (wa_cons ⟨(pe_callD d__law_place (hr.mono (by decide)) rfl pass0 (pa_cons (pv 4) pa_nil se_nam))⟩ (wa_cons ⟨(pe_callD d__law_place (hr.mono (by decide)) rfl pass0 (pa_cons (pv 4) pa_nil se_nam))⟩ wa_nil se_cal) se_cal) se_tup) se_tup) se_tup)) (pg_name (i := 8) S.nd rfl (Or.inl rfl)))
    (wss_one ⟨(ps_if (pt_not (pt_val (pe_callB (call_all_bools rfl) rfl T.m_all boot_all (pa_cons (pe_comp rfl (N' := ["place", "frame", "board", "found"]) (ix := [1, 5, 6]) ⟨rfl, rfl, by decide +kernel, by decide +kernel, rfl, by decide +kernel, (show ∀ y : Str × NameKind, y ∈ _ → y.2 = NameKind.free → (defScope s_law).names.lookup y.1 = some .cell ∨ (defScope s_law).names.lookup y.1 = some .free from by decide +kernel), (.cons rfl (.inl rfl) rfl (.cons rfl (.inl rfl) rfl (.cons rfl (.inl rfl) rfl .nil)))⟩ (pi_list (pv 8)) (fun _ _ _ _ => pg_name (i := 0) (show (["place", "frame", "board", "found"] : List Str).Nodup from by decide +kernel) rfl (Or.inl rfl)) (fun _ _ _ _ => pts_nil) (fun _ _ _ _ => (pe_callD d__law_right (hr.mono (by decide)) rfl pass0 (pa_cons (pv 1) (pa_cons (pv 2) (pa_cons (pv 3) (pa_cons (pv 0) pa_nil se_nam) se_nam) se_nam) se_nam)))) pa_nil se_cmp))))
    (pss_one (ps_ret pe_bl))
    pss_nil)⟩)))))))))
    ⟨(pss_one (ps_ret pe_bl))⟩)), ?_⟩
  try walk_at "rf"
  refine ⟨a, ns, rfl, hS, by omega, fun c0 => ⟨c0, 0, rfl, by decide, by decide, fun L0 H1 nL0 s1 b1 => ⟨L0, rfl, b1, fun H2 f' ea ca aa ua ep cp a1 a2 a3 u1 u2 u3 s2 b2 hF _ hT => ⟨by decide, fun p hp => ?_⟩⟩⟩⟩
  have S2 : Same H H2 := SameB.fresh s1 nL0 s2
  have s3 := Same.new hp (.lst [V.int 1])
  have e3 : upd H2 p (.lst [V.int 1]) p = some (.lst [V.int 1]) := upd_same
  generalize upd H2 p (.lst [V.int 1]) = H3 at s3 e3 ⊢
  have hS3 : SqL K H3 a (ns.map V.int) := SameL (S2.trans s3) hS
  refine ⟨a, _, rfl, hS3, fun p4 hp4 => ?_⟩
  have ecut : cutV (ns.map V.int) (some 1) none = (ns.drop 1).map V.int := by
    rw [show (some (1 : Int)) = some (((1 : Nat) : Int)) from rfl, cut_drop, List.map_drop]
  rw [ecut]
  have s4 := Same.new hp4 (.lst ((ns.drop 1).map V.int))
  have e4 : upd H3 p4 (.lst ((ns.drop 1).map V.int)) p4 = some (.lst ((ns.drop 1).map V.int)) := upd_same
  generalize upd H3 p4 (.lst ((ns.drop 1).map V.int)) = H4 at s4 e4 ⊢
  have ld : (ns.drop 1).length ≤ 62 := by rw [List.length_drop]; omega
  generalize ns.drop 1 = ms at e4 ld ⊢
  refine ⟨p, p4, _, _, rfl, rfl, SqL.of (s4 _ _ e3), SqL.of e4, by rw [List.length_map]; exact Nat.le_of_lt (lt_line (show 1 + ms.length < 1000 by omega)), fun cl hcl => ?_⟩
  have s5 := Same.new hcl (.lst ([V.int 1] ++ ms.map V.int))
  have e5 : upd H4 cl (.lst ([V.int 1] ++ ms.map V.int)) cl = some (.lst ((1 :: ms).map V.int)) := upd_same
  generalize upd H4 cl (.lst ([V.int 1] ++ ms.map V.int)) = H5 at s5 e5 ⊢
  have hF5 := hF.keep ((s3.trans s4).trans s5).t
  refine ⟨cl, rfl, ⟨_, SqL.of e5⟩, for_enum (K := K) (a := cl) (xs := (1 :: ms).map V.int) (fun i σ J => Same H5 J ∧ ∃ o2 o3 o4 o5 o6 o7 o8 : Option V, σ = [some (.ref a), some (.ref f'), o2, o3, o4, o5, o6, o7, o8]) ⟨fun _ _ z => z, none, none, none, none, none, none, none, rfl⟩ (fun i σ J hi hP => SqL.of (hP.1 _ _ e5)) ?_ ?_⟩
  · rintro i v σ J tp hv ⟨sJ, o2, o3, o4, o5, o6, o7, o8, rfl⟩ htp
    obtain ⟨cell, rfl, hc⟩ := int_of (ns := 1 :: ms) hv
    have hi : i < 64 := by
      have := (List.getElem?_eq_some_iff.mp hc).1
      rw [List.length_cons] at this
      omega
    have s6 := Same.new htp (.tup [.int (i : Int), .int cell])
    have e6 : upd J tp (.tup [.int (i : Int), .int cell]) tp = some (.tup [.int (i : Int), .int cell]) := upd_same
    generalize upd J tp (.tup [.int (i : Int), .int cell]) = J2 at s6 e6 ⊢
    have S6 : Same H5 J2 := sJ.trans s6
    try walk_at "rf"
    refine ⟨_, SqT.of e6, rfl, _, _, rfl, _, _, rfl, rfl, ?_⟩
    refine ⟨_, rfl, cell, _, rfl, by omega, by omega, fun L J3 nL s7 b3 => ⟨L, 7, rfl, b3, by decide, by decide, fun J4 d s8 b4 _ _ => ⟨rfl, ?_⟩⟩⟩
    have s78 : Same J2 J4 := SameB.fresh s7 nL s8
    have F4 := hF5.keep (S6.trans s78).t
    refine ⟨L, f', ea, ca, aa, ua, _, ep, cp, a1, a2, a3, u1, u2, u3, rfl, b4, F4, hT, fun J5 bo rs ps s9 b5 hB bt => ?_⟩
    have s79 : Same J2 J5 := SameB.fresh s7 nL (s8.trans s9)
    have F5 := hF5.keep (S6.trans s79).t
    have w1 : 1 ≤ (pt ps 0).w := (hB.2.2.2.2.2 0 (by have := hB.2.2.1; omega)).2.2.2.2
    have fi := free_iff (ep := ep) w1
    refine ⟨f', ea, ca, aa, ua, bo, ep, cp, a1, a2, a3, u1, u2, u3, rs, ps, rfl, F5, hB, fun h0 t J6 s10 e10 => ?_, fun h0 t g p q' r x y z v J6 s10 hpl e10 eg hp' hq' hr' => ?_⟩
    · have F6 := F5.keep s10.t
      refine ⟨t, rfl, _, SqT.of e10, rfl, _, _, rfl, _, _, rfl, rfl, ixT (SqT.of F6.1) (i := 0) rfl ⟨bo, ea, rs, ps, ep, rfl, hB.keep s10.t, bt, F6.2.1, F6.2.2.1, fun J7 s11 => ⟨_, rfl, ?_⟩⟩⟩
      rw [if_pos (decide_eq_false fun z => fi.mp z h0), if_pos rfl]
      refine ⟨_, _, .int 0, .int 0, rfl, rfl, _, rfl, ?_⟩
      rw [if_neg (by decide)]
      refine ⟨_, .int 0, _, rfl, ?_⟩
      rw [if_neg (by decide)]
      exact ⟨S6.trans (s79.trans (s10.trans s11)), _, rfl⟩
    · have F6 := F5.keep s10.t
      have B6 := hB.keep s10.t
      refine ⟨t, rfl, _, SqT.of e10, rfl, _, _, rfl, _, _, rfl, rfl, ixT (SqT.of F6.1) (i := 0) rfl ⟨bo, ea, rs, ps, ep, rfl, B6, bt, F6.2.1, F6.2.2.1, fun J7 s11 => ⟨_, rfl, ?_⟩⟩⟩
      rw [if_neg (by rw [decide_eq_true (fi.mpr h0)]; decide), if_pos rfl]
      refine ⟨_, .tup (s11 _ _ eg), _, rfl, ?_⟩
      rw [if_neg (by decide)]
      refine ⟨g, rfl, _, .inr (SqT.of (s11 _ _ eg)), ?_⟩
      rw [if_pos (show (([V.ref p, V.ref q', V.ref r].length : Nat) : Int) = 3 from rfl)]
      obtain ⟨hz, N1, N2, N3⟩ := near_nr F5 hB h0 hpl
      have kg : SqT K J7 g [.ref p, .ref q', .ref r] := SqT.of (s11 _ _ eg)
      refine ⟨g, rfl, ⟨_, kg⟩, fun acc hacc => compT (zs := [.ref p, .ref q', .ref r]) (fun _ => .bl true) (show 3 < 1000 by decide) hacc kg (fun z0 H3 R hz0 s3' hR => ?_) fun J8 s12 e12 => ?_⟩
      · walk_at "rf"
        rcases List.mem_cons.mp hz0 with rfl | hz0
        · exact ⟨p, 780, _, _, rfl, s3' _ _ (s11 _ _ hp'), by decide, N1.1, N1.2.1, N1.2.2.1, N1.2.2.2, hR⟩
        rcases List.mem_cons.mp hz0 with rfl | hz0
        · exact ⟨q', 780, _, _, rfl, s3' _ _ (s11 _ _ hq'), by decide, N2.1, N2.2.1, N2.2.2.1, N2.2.2.2, hR⟩
        rw [List.mem_singleton] at hz0; subst hz0
        exact ⟨r, 780, _, _, rfl, s3' _ _ (s11 _ _ hr'), by decide, N3.1, N3.2.1, N3.2.2.1, N3.2.2.2, hR⟩
      refine ⟨[true, true, true], SqL.of e12, ?_⟩
      rw [if_neg (by decide)]
      have pl3 : ∀ {J J' : Hp} {pa pb pc : Addr} {t1 b1 t2 b2 : Int}, J pa = none → upd J pa (.tup [.int t1, .int b1]) pb = none → upd (upd J pa (.tup [.int t1, .int b1])) pb (.tup [.int t2, .int b2]) pc = none → J' = upd (upd (upd J pa (.tup [.int t1, .int b1])) pb (.tup [.int t2, .int b2])) pc (.tup [.ref pa, .ref pb]) → Bd 40 t1 → Bd 40 b1 → 0 < b1 → Bd 40 t2 → Bd 40 b2 → 0 < b2 → Same J J' ∧ Plce J' pc pa pb t1 b1 t2 b2 := fun {J J' pa pb pc t1 b1 t2 b2} ha hb hc e z1 z2 z3 z4 z5 z6 => by
        subst e
        have q1 := Same.new ha (.tup [.int t1, .int b1])
        have q2 := Same.new hb (.tup [.int t2, .int b2])
        have q3 := Same.new hc (.tup [.ref pa, .ref pb])
        exact ⟨q1.trans (q2.trans q3), upd_same, ⟨q3 _ _ (q2 _ _ upd_same), z1, z2, z3⟩, ⟨q3 _ _ upd_same, z4, z5, z6⟩⟩
      have z0 : Bd 40 (0 : Int) := by unfold Bd; decide
      have z1 : Bd 40 (1 : Int) := by unfold Bd; decide
      refine ⟨by decide, fun pa ha => ⟨by decide, fun pb hb => ⟨by decide, fun pc hc => ?_⟩⟩⟩
      obtain ⟨j1, P1⟩ := pl3 ha hb hc rfl z0 z1 (by decide) z0 z1 (by decide)
      generalize upd (upd (upd J8 pa (.tup [.int 0, .int 1])) pb (.tup [.int 0, .int 1])) pc (.tup [.ref pa, .ref pb]) = K1 at j1 P1 ⊢
      refine ⟨by decide, fun pd hd => ⟨by decide, fun pe he => ⟨by decide, fun pf hf => ?_⟩⟩⟩
      obtain ⟨j2, P2⟩ := pl3 hd he hf rfl z1 z1 (by decide) z0 z1 (by decide)
      generalize upd (upd (upd K1 pd (.tup [.int 1, .int 1])) pe (.tup [.int 0, .int 1])) pf (.tup [.ref pd, .ref pe]) = K2 at j2 P2 ⊢
      refine ⟨by decide, fun pg hg => ⟨by decide, fun ph hh => ⟨by decide, fun pi hi' => ?_⟩⟩⟩
      obtain ⟨j3, P3⟩ := pl3 hg hh hi' rfl z0 z1 (by decide) z1 z1 (by decide)
      generalize upd (upd (upd K2 pg (.tup [.int 0, .int 1])) ph (.tup [.int 1, .int 1])) pi (.tup [.ref pg, .ref ph]) = K3 at j3 P3 ⊢
      have bK3 : PBox K3 L := ((((((b5.same s10).same s11).same s12).same j1).same j2).same j3)
      refine ⟨L, rfl, bK3, fun g4 u4 v4 K4 k4 bK4 eg4 hu4 hv4 => ⟨L, rfl, bK4, fun g5 u5 v5 K5 k5 bK5 eg5 hu5 hv5 => ⟨by decide, fun pq hpq => ?_⟩⟩⟩
      have jj : Same J6 K3 := s11.trans (s12.trans (j1.trans (j2.trans j3)))
      have tk : SameT K3 K5 := (SameB.tp k4 bK3).trans (SameB.tp k5 bK4)
      have s13 := Same.new hpq (.lst [V.ref pc, V.ref pf, V.ref pi, V.ref g4, V.ref g5])
      have e13 : upd K5 pq (.lst [V.ref pc, V.ref pf, V.ref pi, V.ref g4, V.ref g5]) pq = some (.lst [V.ref pc, V.ref pf, V.ref pi, V.ref g4, V.ref g5]) := upd_same
      generalize upd K5 pq (.lst [V.ref pc, V.ref pf, V.ref pi, V.ref g4, V.ref g5]) = K6 at s13 e13 ⊢
      have t6 : SameT J6 K6 := (jj.t.trans tk).trans s13.t
      have SX : Same H5 K6 := S6.trans ((SameB.fresh s7 nL (((s8.trans s9).trans (s10.trans jj).b).trans (k4.trans k5))).trans s13)
      have F7 := F6.keep t6
      have B7 := B6.keep t6
      have P1' := P1.keep (((j2.trans j3).t.trans tk).trans s13.t)
      have P2' := P2.keep ((j3.t.trans tk).trans s13.t)
      have P3' := P3.keep (tk.trans s13.t)
      have t5 : SameT K4 K6 := (SameB.tp k5 bK4).trans s13.t
      obtain ⟨x4, y4, hu4⟩ := hu4
      obtain ⟨x4', y4', hv4⟩ := hv4
      obtain ⟨x5, y5, hu5⟩ := hu5
      obtain ⟨x5', y5', hv5⟩ := hv5
      have P4' : Plce K6 g4 u4 v4 x4 y4 x4' y4' := ⟨t5 _ _ eg4, ⟨t5 _ _ hu4.1, hu4.2⟩, ⟨t5 _ _ hv4.1, hv4.2⟩⟩
      have P5' : Plce K6 g5 u5 v5 x5 y5 x5' y5' := ⟨s13 _ _ eg5, ⟨s13 _ _ hu5.1, hu5.2⟩, ⟨s13 _ _ hv5.1, hv5.2⟩⟩
      have all5 : ∀ z ∈ [V.ref pc, V.ref pf, V.ref pi, V.ref g4, V.ref g5], ∃ (pl r1 r2 : Addr) (t b t' b' : Int), z = .ref pl ∧ Plce K6 pl r1 r2 t b t' b' := fun z hz => by
        rcases List.mem_cons.mp hz with rfl | hz
        · exact ⟨_, _, _, _, _, _, _, rfl, P1'⟩
        rcases List.mem_cons.mp hz with rfl | hz
        · exact ⟨_, _, _, _, _, _, _, rfl, P2'⟩
        rcases List.mem_cons.mp hz with rfl | hz
        · exact ⟨_, _, _, _, _, _, _, rfl, P3'⟩
        rcases List.mem_cons.mp hz with rfl | hz
        · exact ⟨_, _, _, _, _, _, _, rfl, P4'⟩
        rw [List.mem_singleton] at hz; subst hz
        exact ⟨_, _, _, _, _, _, _, rfl, P5'⟩
      refine ⟨⟨_, SqL.of e13⟩, fun acc2 hacc2 => compL (zs := [V.ref pc, V.ref pf, V.ref pi, V.ref g4, V.ref g5]) (fun _ => .bl true) (show 5 < 1000 by decide) hacc2 (SqL.of e13) (fun z0' H3 R hz0 s3' hR => ?_) fun J9 s14 e14 => ⟨[true, true, true, true, true], SqL.of e14, ?_⟩⟩
      · obtain ⟨pl, r1, r2, tt, bb, tt', bb', rfl, hP⟩ := all5 z0' hz0
        walk_at "rf"
        have t3 := t6.trans s3'.t
        exact ⟨f', ea, ca, aa, ua, bo, g, p, q', r, pl, r1, r2, rs, ps, ep, cp, a1, a2, a3, u1, u2, u3, x, y, z, v, tt, bb, tt', bb', rfl, F7.keep s3'.t, B7.keep s3'.t, bt, h0, hpl, t3 _ _ eg, t3 _ _ hp', t3 _ _ hq', t3 _ _ hr', hP.keep s3'.t, hR⟩
      · rw [if_neg (by decide)]
        exact ⟨SX.trans s14, _, rfl⟩
  · rintro σ J ⟨sJ, o2, o3, o4, o5, o6, o7, o8, rfl⟩
    try walk_at "rf"
    exact q J
end
def xcOk (K : PySem.W.Frag) (C : Addr) : Bool := (PySem.W.clsIn K C).isSome && PySem.W.findIn K (.ref C) "__getattribute__" == some (some (.builtin "BaseException.__getattribute__")) && PySem.W.findIn K (.ref C) "__getattr__" == some none
  && PySem.W.subIn K (.ref C) (.type "BaseException") == some true && PySem.W.findIn K (.ref C) "__class__" == some (some (.builtin "object.__class__")) && PySem.W.specialIn K (.builtin "object.__class__") "__get__" == some (some (.builtin "getset_descriptor.__get__"))
  && PySem.W.takesIn K (.builtin "object.__class__") == some true && PySem.W.mroIn K C (.type "object") == some true
theorem xcOk.to {K : PySem.W.Frag} {C : Addr} (h : xcOk K C = true) : XCls K C := by
  unfold xcOk at h
  simp only [Bool.and_eq_true, beq_iff_eq] at h
  obtain ⟨⟨⟨⟨⟨⟨⟨h1, h2⟩, h3⟩, h4⟩, h5⟩, h6⟩, h7⟩, h8⟩ := h
  exact ⟨h1, h2, h3, h4, h5, h6, h7, h8⟩
def xaOk (K : PySem.W.Frag) (C : Addr) (f : Str) : Bool := PySem.W.findIn K (.ref C) "__setattr__" == some (some (.builtin "object.__setattr__")) && ((PySem.W.clsIn K C).any fun cd => excTail cd.mro) && PySem.W.hasDictIn K C && PySem.W.findIn K (.ref C) f == some none
theorem xaOk.to {K : PySem.W.Frag} {C : Addr} {f : Str} (h : xaOk K C f = true) : XAttr K C f := by
  unfold xaOk at h
  simp only [Bool.and_eq_true, beq_iff_eq] at h
  obtain ⟨⟨⟨h1, h2⟩, h3⟩, h4⟩ := h
  exact ⟨h1, h2, h3, h4⟩
def clsI (K : PySem.W.Frag) (C : Addr) : Bool := xcOk K C && PySem.W.keepIn K (.ref C) && PySem.W.exmOne K (.ref C) (.ref C) == some true
theorem clsI.to {K : PySem.W.Frag} {C : Addr} (h : clsI K C = true) : XCls K C ∧ PySem.W.keepIn K (.ref C) = true ∧ PySem.W.exmOne K (.ref C) (.ref C) = some true := by
  unfold clsI at h
  simp only [Bool.and_eq_true, beq_iff_eq] at h
  obtain ⟨⟨h1, h2⟩, h3⟩ := h
  exact ⟨xcOk.to h1, h2, h3⟩
theorem all_mk {l : PySem.W.OpenLaw} {w : World} {K : PySem.W.Frag} {h : Heap} {mg : Str → Option Value} {fa CR fN fF D fG E : Addr} {t1 t2 : Tok} {tD : Tok} {tE : Tok} (X : K.In h) (G : h.Ns mainGlobals mg) (hfa : mg "law" = some (.ref fa))
    {f0 f1 f2 f3 f4 f5 f6 f7 f8 f9 f10 f11 f12 f13 f14 f15 f16 f17 f18 f19 f20 f21 f22 f23 f24 f25 f26 f27 f28 f29 f30 f31 f32 f33 f34 f35 f36 f37 f38 f39 f40 f41 f42 f43 f44 f45 f46 f47 f48 f49 : Addr} {odN anN odF anF odG anG od0 an0 od1 an1 od2 an2 od3 an3 od4 an4 od5 an5 od6 an6 od7 an7 od8 an8 od9 an9 od10 an10 od11 an11 od12 an12 od13 an13 od14 an14 od15 an15 od16 an16 od17 an17 od18 an18 od19 an19 od20 an20 od21 an21 od22 an22 od23 an23 od24 an24 od25 an25 od26 an26 od27 an27 od28 an28 od29 an29 od30 an30 od31 an31 od32 an32 od33 an33 od34 an34 od35 an35 od36 an36 od37 an37 od38 an38 od39 an39 od40 an40 od41 an41 od42 an42 od43 an43 od44 an44 od45 an45 od46 an46 od47 an47 od48 an48 od49 an49 : Option Addr} {slN slF slG sl0 sl1 sl2 sl3 sl4 sl5 sl6 sl7 sl8 sl9 sl10 sl11 sl12 sl13 sl14 sl15 sl16 sl17 sl18 sl19 sl20 sl21 sl22 sl23 sl24 sl25 sl26 sl27 sl28 sl29 sl30 sl31 sl32 sl33 sl34 sl35 sl36 sl37 sl38 sl39 sl40 sl41 sl42 sl43 sl44 sl45 sl46 sl47 sl48 sl49 : Array (Option Value)} {ocN kVN dcN pmN cdN ctN ocF kVF dcF pmF cdF ctF ocG kVG dcG pmG cdG ctG oc0 kV0 dc0 pm0 cd0 ct0 oc1 kV1 dc1 pm1 cd1 ct1 oc2 kV2 dc2 pm2 cd2 ct2 oc3 kV3 dc3 pm3 cd3 ct3 oc4 kV4 dc4 pm4 cd4 ct4 oc5 kV5 dc5 pm5 cd5 ct5 oc6 kV6 dc6 pm6 cd6 ct6 oc7 kV7 dc7 pm7 cd7 ct7 oc8 kV8 dc8 pm8 cd8 ct8 oc9 kV9 dc9 pm9 cd9 ct9 oc10 kV10 dc10 pm10 cd10 ct10 oc11 kV11 dc11 pm11 cd11 ct11 oc12 kV12 dc12 pm12 cd12 ct12 oc13 kV13 dc13 pm13 cd13 ct13 oc14 kV14 dc14 pm14 cd14 ct14 oc15 kV15 dc15 pm15 cd15 ct15 oc16 kV16 dc16 pm16 cd16 ct16 oc17 kV17 dc17 pm17 cd17 ct17 oc18 kV18 dc18 pm18 cd18 ct18 oc19 kV19 dc19 pm19 cd19 ct19 oc20 kV20 dc20 pm20 cd20 ct20 oc21 kV21 dc21 pm21 cd21 ct21 oc22 kV22 dc22 pm22 cd22 ct22 oc23 kV23 dc23 pm23 cd23 ct23 oc24 kV24 dc24 pm24 cd24 ct24 oc25 kV25 dc25 pm25 cd25 ct25 oc26 kV26 dc26 pm26 cd26 ct26 oc27 kV27 dc27 pm27 cd27 ct27 oc28 kV28 dc28 pm28 cd28 ct28 oc29 kV29 dc29 pm29 cd29 ct29 oc30 kV30 dc30 pm30 cd30 ct30 oc31 kV31 dc31 pm31 cd31 ct31 oc32 kV32 dc32 pm32 cd32 ct32 oc33 kV33 dc33 pm33 cd33 ct33 oc34 kV34 dc34 pm34 cd34 ct34 oc35 kV35 dc35 pm35 cd35 ct35 oc36 kV36 dc36 pm36 cd36 ct36 oc37 kV37 dc37 pm37 cd37 ct37 oc38 kV38 dc38 pm38 cd38 ct38 oc39 kV39 dc39 pm39 cd39 ct39 oc40 kV40 dc40 pm40 cd40 ct40 oc41 kV41 dc41 pm41 cd41 ct41 oc42 kV42 dc42 pm42 cd42 ct42 oc43 kV43 dc43 pm43 cd43 ct43 oc44 kV44 dc44 pm44 cd44 ct44 oc45 kV45 dc45 pm45 cd45 ct45 oc46 kV46 dc46 pm46 cd46 ct46 oc47 kV47 dc47 pm47 cd47 ct47 oc48 kV48 dc48 pm48 cd48 ct48 oc49 kV49 dc49 pm49 cd49 ct49 : Value} {oD : Obj} {nD : Nat} {oE : Obj} {nE : Nat}
    (kCR : PySem.W.nsIn K mainGlobals "NotFree" = some (some (.ref CR)))
    (kIN : PySem.W.findIn K (.ref CR) "__init__" = some (some (.ref fN))) (lN : K.lookup fN = some ⟨ocN, odN, .func (PySem.W.fnOf "__init__" "NotFree.__init__" (defArgs s_initN) (defBody s_initN) (defScope s_initN) .none kVN dcN pmN anN cdN ctN), slN⟩) (cN : PySem.W.codeIn K cdN "NotFree.__init__" = true) (kN : PySem.W.keepIn K (.ref fN) = true) (nN : PySem.W.isFn K (.ref fN) = true)
    (rCR : clsI K CR = true) (xCR : excInI K CR [.type "ValueError", .type "Exception", .type "BaseException", .type "object"] "ValueError.__new__" fN = true) (wCR : xaOk K CR "board" = true)
    (aS0 : PySem.W.nsIn K mainGlobals "SHORT_BITS" = some (some (.int 2000 t1)))
    (aS1 : PySem.W.nsIn K mainGlobals "MOST_CORNERS" = some (some (.int 8 t2)))
    (aF : PySem.W.nsIn K mainGlobals "made_spot" = some (some (.ref fF))) (lF : K.lookup fF = some ⟨ocF, odF, .func (PySem.W.fnOf "made_spot" "made_spot" (defArgs s_made_spot) (defBody s_made_spot) (defScope s_made_spot) (.ref D) kVF dcF pmF anF cdF ctF), slF⟩) (cF : PySem.W.codeIn K cdF "made_spot" = true) (kF : PySem.W.keepIn K (.ref fF) = true) (lD : K.lookup D = some oD) (hD : oD.data = .seq #[.int 1 tD] nD)
    (aG : PySem.W.nsIn K mainGlobals "fraction" = some (some (.ref fG))) (lG : K.lookup fG = some ⟨ocG, odG, .func (PySem.W.fnOf "fraction" "fraction" (defArgs s_fraction) (defBody s_fraction) (defScope s_fraction) (.ref E) kVG dcG pmG anG cdG ctG), slG⟩) (cG : PySem.W.codeIn K cdG "fraction" = true) (kG : PySem.W.keepIn K (.ref fG) = true) (lE : K.lookup E = some oE) (hE : oE.data = .seq #[.int 1 tE] nE)
    (a0 : PySem.W.nsIn K mainGlobals "_law_take" = some (some (.ref f0))) (l0 : K.lookup f0 = some ⟨oc0, od0, .func (PySem.W.fnOf "_law_take" "_law_take" (defArgs s__law_take) (defBody s__law_take) (defScope s__law_take) .none kV0 dc0 pm0 an0 cd0 ct0), sl0⟩) (c0 : PySem.W.codeIn K cd0 "_law_take" = true) (k0 : PySem.W.keepIn K (.ref f0) = true)
    (a1 : PySem.W.nsIn K mainGlobals "_law_number" = some (some (.ref f1))) (l1 : K.lookup f1 = some ⟨oc1, od1, .func (PySem.W.fnOf "_law_number" "_law_number" (defArgs s__law_number) (defBody s__law_number) (defScope s__law_number) .none kV1 dc1 pm1 an1 cd1 ct1), sl1⟩) (c1 : PySem.W.codeIn K cd1 "_law_number" = true) (k1 : PySem.W.keepIn K (.ref f1) = true)
    (a2 : PySem.W.nsIn K mainGlobals "greatest_divisor" = some (some (.ref f2))) (l2 : K.lookup f2 = some ⟨oc2, od2, .func (PySem.W.fnOf "greatest_divisor" "greatest_divisor" (defArgs s_greatest_divisor) (defBody s_greatest_divisor) (defScope s_greatest_divisor) .none kV2 dc2 pm2 an2 cd2 ct2), sl2⟩) (c2 : PySem.W.codeIn K cd2 "greatest_divisor" = true) (k2 : PySem.W.keepIn K (.ref f2) = true)
    (a3 : PySem.W.nsIn K mainGlobals "in_lowest_terms" = some (some (.ref f3))) (l3 : K.lookup f3 = some ⟨oc3, od3, .func (PySem.W.fnOf "in_lowest_terms" "in_lowest_terms" (defArgs s_in_lowest_terms) (defBody s_in_lowest_terms) (defScope s_in_lowest_terms) .none kV3 dc3 pm3 an3 cd3 ct3), sl3⟩) (c3 : PySem.W.codeIn K cd3 "in_lowest_terms" = true) (k3 : PySem.W.keepIn K (.ref f3) = true)
    (a4 : PySem.W.nsIn K mainGlobals "_law_spot" = some (some (.ref f4))) (l4 : K.lookup f4 = some ⟨oc4, od4, .func (PySem.W.fnOf "_law_spot" "_law_spot" (defArgs s__law_spot) (defBody s__law_spot) (defScope s__law_spot) .none kV4 dc4 pm4 an4 cd4 ct4), sl4⟩) (c4 : PySem.W.codeIn K cd4 "_law_spot" = true) (k4 : PySem.W.keepIn K (.ref f4) = true)
    (a5 : PySem.W.nsIn K mainGlobals "_law_arrow" = some (some (.ref f5))) (l5 : K.lookup f5 = some ⟨oc5, od5, .func (PySem.W.fnOf "_law_arrow" "_law_arrow" (defArgs s__law_arrow) (defBody s__law_arrow) (defScope s__law_arrow) .none kV5 dc5 pm5 an5 cd5 ct5), sl5⟩) (c5 : PySem.W.codeIn K cd5 "_law_arrow" = true) (k5 : PySem.W.keepIn K (.ref f5) = true)
    (a6 : PySem.W.nsIn K mainGlobals "_law_cross" = some (some (.ref f6))) (l6 : K.lookup f6 = some ⟨oc6, od6, .func (PySem.W.fnOf "_law_cross" "_law_cross" (defArgs s__law_cross) (defBody s__law_cross) (defScope s__law_cross) .none kV6 dc6 pm6 an6 cd6 ct6), sl6⟩) (c6 : PySem.W.codeIn K cd6 "_law_cross" = true) (k6 : PySem.W.keepIn K (.ref f6) = true)
    (a7 : PySem.W.nsIn K mainGlobals "_law_other" = some (some (.ref f7))) (l7 : K.lookup f7 = some ⟨oc7, od7, .func (PySem.W.fnOf "_law_other" "_law_other" (defArgs s__law_other) (defBody s__law_other) (defScope s__law_other) .none kV7 dc7 pm7 an7 cd7 ct7), sl7⟩) (c7 : PySem.W.codeIn K cd7 "_law_other" = true) (k7 : PySem.W.keepIn K (.ref f7) = true)
    (a8 : PySem.W.nsIn K mainGlobals "_law_dot" = some (some (.ref f8))) (l8 : K.lookup f8 = some ⟨oc8, od8, .func (PySem.W.fnOf "_law_dot" "_law_dot" (defArgs s__law_dot) (defBody s__law_dot) (defScope s__law_dot) .none kV8 dc8 pm8 an8 cd8 ct8), sl8⟩) (c8 : PySem.W.codeIn K cd8 "_law_dot" = true) (k8 : PySem.W.keepIn K (.ref f8) = true)
    (a9 : PySem.W.nsIn K mainGlobals "_law_way" = some (some (.ref f9))) (l9 : K.lookup f9 = some ⟨oc9, od9, .func (PySem.W.fnOf "_law_way" "_law_way" (defArgs s__law_way) (defBody s__law_way) (defScope s__law_way) .none kV9 dc9 pm9 an9 cd9 ct9), sl9⟩) (c9 : PySem.W.codeIn K cd9 "_law_way" = true) (k9 : PySem.W.keepIn K (.ref f9) = true)
    (a10 : PySem.W.nsIn K mainGlobals "height_over" = some (some (.ref f10))) (l10 : K.lookup f10 = some ⟨oc10, od10, .func (PySem.W.fnOf "height_over" "height_over" (defArgs s_height_over) (defBody s_height_over) (defScope s_height_over) .none kV10 dc10 pm10 an10 cd10 ct10), sl10⟩) (c10 : PySem.W.codeIn K cd10 "height_over" = true) (k10 : PySem.W.keepIn K (.ref f10) = true)
    (a11 : PySem.W.nsIn K mainGlobals "without" = some (some (.ref f11))) (l11 : K.lookup f11 = some ⟨oc11, od11, .func (PySem.W.fnOf "without" "without" (defArgs s_without) (defBody s_without) (defScope s_without) .none kV11 dc11 pm11 an11 cd11 ct11), sl11⟩) (c11 : PySem.W.codeIn K cd11 "without" = true) (k11 : PySem.W.keepIn K (.ref f11) = true)
    (a12 : PySem.W.nsIn K mainGlobals "crossed" = some (some (.ref f12))) (l12 : K.lookup f12 = some ⟨oc12, od12, .func (PySem.W.fnOf "crossed" "crossed" (defArgs s_crossed) (defBody s_crossed) (defScope s_crossed) .none kV12 dc12 pm12 an12 cd12 ct12), sl12⟩) (c12 : PySem.W.codeIn K cd12 "crossed" = true) (k12 : PySem.W.keepIn K (.ref f12) = true)
    (a13 : PySem.W.nsIn K mainGlobals "determinant" = some (some (.ref f13))) (l13 : K.lookup f13 = some ⟨oc13, od13, .func (PySem.W.fnOf "determinant" "determinant" (defArgs s_determinant) (defBody s_determinant) (defScope s_determinant) .none kV13 dc13 pm13 an13 cd13 ct13), sl13⟩) (c13 : PySem.W.codeIn K cd13 "determinant" = true) (k13 : PySem.W.keepIn K (.ref f13) = true)
    (a14 : PySem.W.nsIn K mainGlobals "minor_of" = some (some (.ref f14))) (l14 : K.lookup f14 = some ⟨oc14, od14, .func (PySem.W.fnOf "minor_of" "minor_of" (defArgs s_minor_of) (defBody s_minor_of) (defScope s_minor_of) .none kV14 dc14 pm14 an14 cd14 ct14), sl14⟩) (c14 : PySem.W.codeIn K cd14 "minor_of" = true) (k14 : PySem.W.keepIn K (.ref f14) = true)
    (a15 : PySem.W.nsIn K mainGlobals "rough_plane" = some (some (.ref f15))) (l15 : K.lookup f15 = some ⟨oc15, od15, .func (PySem.W.fnOf "rough_plane" "rough_plane" (defArgs s_rough_plane) (defBody s_rough_plane) (defScope s_rough_plane) .none kV15 dc15 pm15 an15 cd15 ct15), sl15⟩) (c15 : PySem.W.codeIn K cd15 "rough_plane" = true) (k15 : PySem.W.keepIn K (.ref f15) = true)
    (a16 : PySem.W.nsIn K mainGlobals "along" = some (some (.ref f16))) (l16 : K.lookup f16 = some ⟨oc16, od16, .func (PySem.W.fnOf "along" "along" (defArgs s_along) (defBody s_along) (defScope s_along) .none kV16 dc16 pm16 an16 cd16 ct16), sl16⟩) (c16 : PySem.W.codeIn K cd16 "along" = true) (k16 : PySem.W.keepIn K (.ref f16) = true)
    (a17 : PySem.W.nsIn K mainGlobals "made_frame" = some (some (.ref f17))) (l17 : K.lookup f17 = some ⟨oc17, od17, .func (PySem.W.fnOf "made_frame" "made_frame" (defArgs s_made_frame) (defBody s_made_frame) (defScope s_made_frame) .none kV17 dc17 pm17 an17 cd17 ct17), sl17⟩) (c17 : PySem.W.codeIn K cd17 "made_frame" = true) (k17 : PySem.W.keepIn K (.ref f17) = true)
    (a18 : PySem.W.nsIn K mainGlobals "_law_frame" = some (some (.ref f18))) (l18 : K.lookup f18 = some ⟨oc18, od18, .func (PySem.W.fnOf "_law_frame" "_law_frame" (defArgs s__law_frame) (defBody s__law_frame) (defScope s__law_frame) .none kV18 dc18 pm18 an18 cd18 ct18), sl18⟩) (c18 : PySem.W.codeIn K cd18 "_law_frame" = true) (k18 : PySem.W.keepIn K (.ref f18) = true)
    (a19 : PySem.W.nsIn K mainGlobals "_law_pot" = some (some (.ref f19))) (l19 : K.lookup f19 = some ⟨oc19, od19, .func (PySem.W.fnOf "_law_pot" "_law_pot" (defArgs s__law_pot) (defBody s__law_pot) (defScope s__law_pot) .none kV19 dc19 pm19 an19 cd19 ct19), sl19⟩) (c19 : PySem.W.codeIn K cd19 "_law_pot" = true) (k19 : PySem.W.keepIn K (.ref f19) = true)
    (a20 : PySem.W.nsIn K mainGlobals "_law_at" = some (some (.ref f20))) (l20 : K.lookup f20 = some ⟨oc20, od20, .func (PySem.W.fnOf "_law_at" "_law_at" (defArgs s__law_at) (defBody s__law_at) (defScope s__law_at) .none kV20 dc20 pm20 an20 cd20 ct20), sl20⟩) (c20 : PySem.W.codeIn K cd20 "_law_at" = true) (k20 : PySem.W.keepIn K (.ref f20) = true)
    (a21 : PySem.W.nsIn K mainGlobals "_law_start" = some (some (.ref f21))) (l21 : K.lookup f21 = some ⟨oc21, od21, .func (PySem.W.fnOf "_law_start" "_law_start" (defArgs s__law_start) (defBody s__law_start) (defScope s__law_start) .none kV21 dc21 pm21 an21 cd21 ct21), sl21⟩) (c21 : PySem.W.codeIn K cd21 "_law_start" = true) (k21 : PySem.W.keepIn K (.ref f21) = true)
    (a22 : PySem.W.nsIn K mainGlobals "_law_shape" = some (some (.ref f22))) (l22 : K.lookup f22 = some ⟨oc22, od22, .func (PySem.W.fnOf "_law_shape" "_law_shape" (defArgs s__law_shape) (defBody s__law_shape) (defScope s__law_shape) .none kV22 dc22 pm22 an22 cd22 ct22), sl22⟩) (c22 : PySem.W.codeIn K cd22 "_law_shape" = true) (k22 : PySem.W.keepIn K (.ref f22) = true)
    (a23 : PySem.W.nsIn K mainGlobals "in_line" = some (some (.ref f23))) (l23 : K.lookup f23 = some ⟨oc23, od23, .func (PySem.W.fnOf "in_line" "in_line" (defArgs s_in_line) (defBody s_in_line) (defScope s_in_line) .none kV23 dc23 pm23 an23 cd23 ct23), sl23⟩) (c23 : PySem.W.codeIn K cd23 "in_line" = true) (k23 : PySem.W.keepIn K (.ref f23) = true)
    (a24 : PySem.W.nsIn K mainGlobals "made_plane" = some (some (.ref f24))) (l24 : K.lookup f24 = some ⟨oc24, od24, .func (PySem.W.fnOf "made_plane" "made_plane" (defArgs s_made_plane) (defBody s_made_plane) (defScope s_made_plane) .none kV24 dc24 pm24 an24 cd24 ct24), sl24⟩) (c24 : PySem.W.codeIn K cd24 "made_plane" = true) (k24 : PySem.W.keepIn K (.ref f24) = true)
    (a25 : PySem.W.nsIn K mainGlobals "is_plain" = some (some (.ref f25))) (l25 : K.lookup f25 = some ⟨oc25, od25, .func (PySem.W.fnOf "is_plain" "is_plain" (defArgs s_is_plain) (defBody s_is_plain) (defScope s_is_plain) .none kV25 dc25 pm25 an25 cd25 ct25), sl25⟩) (c25 : PySem.W.codeIn K cd25 "is_plain" = true) (k25 : PySem.W.keepIn K (.ref f25) = true)
    (a26 : PySem.W.nsIn K mainGlobals "turned_about" = some (some (.ref f26))) (l26 : K.lookup f26 = some ⟨oc26, od26, .func (PySem.W.fnOf "turned_about" "turned_about" (defArgs s_turned_about) (defBody s_turned_about) (defScope s_turned_about) .none kV26 dc26 pm26 an26 cd26 ct26), sl26⟩) (c26 : PySem.W.codeIn K cd26 "turned_about" = true) (k26 : PySem.W.keepIn K (.ref f26) = true)
    (a27 : PySem.W.nsIn K mainGlobals "plane_through" = some (some (.ref f27))) (l27 : K.lookup f27 = some ⟨oc27, od27, .func (PySem.W.fnOf "plane_through" "plane_through" (defArgs s_plane_through) (defBody s_plane_through) (defScope s_plane_through) .none kV27 dc27 pm27 an27 cd27 ct27), sl27⟩) (c27 : PySem.W.codeIn K cd27 "plane_through" = true) (k27 : PySem.W.keepIn K (.ref f27) = true)
    (a28 : PySem.W.nsIn K mainGlobals "sign_of" = some (some (.ref f28))) (l28 : K.lookup f28 = some ⟨oc28, od28, .func (PySem.W.fnOf "sign_of" "sign_of" (defArgs s_sign_of) (defBody s_sign_of) (defScope s_sign_of) .none kV28 dc28 pm28 an28 cd28 ct28), sl28⟩) (c28 : PySem.W.codeIn K cd28 "sign_of" = true) (k28 : PySem.W.keepIn K (.ref f28) = true)
    (a29 : PySem.W.nsIn K mainGlobals "side_of" = some (some (.ref f29))) (l29 : K.lookup f29 = some ⟨oc29, od29, .func (PySem.W.fnOf "side_of" "side_of" (defArgs s_side_of) (defBody s_side_of) (defScope s_side_of) .none kV29 dc29 pm29 an29 cd29 ct29), sl29⟩) (c29 : PySem.W.codeIn K cd29 "side_of" = true) (k29 : PySem.W.keepIn K (.ref f29) = true)
    (a30 : PySem.W.nsIn K mainGlobals "flat_axis" = some (some (.ref f30))) (l30 : K.lookup f30 = some ⟨oc30, od30, .func (PySem.W.fnOf "flat_axis" "flat_axis" (defArgs s_flat_axis) (defBody s_flat_axis) (defScope s_flat_axis) .none kV30 dc30 pm30 an30 cd30 ct30), sl30⟩) (c30 : PySem.W.codeIn K cd30 "flat_axis" = true) (k30 : PySem.W.keepIn K (.ref f30) = true)
    (a31 : PySem.W.nsIn K mainGlobals "side_of_edge" = some (some (.ref f31))) (l31 : K.lookup f31 = some ⟨oc31, od31, .func (PySem.W.fnOf "side_of_edge" "side_of_edge" (defArgs s_side_of_edge) (defBody s_side_of_edge) (defScope s_side_of_edge) .none kV31 dc31 pm31 an31 cd31 ct31), sl31⟩) (c31 : PySem.W.codeIn K cd31 "side_of_edge" = true) (k31 : PySem.W.keepIn K (.ref f31) = true)
    (a32 : PySem.W.nsIn K mainGlobals "is_convex" = some (some (.ref f32))) (l32 : K.lookup f32 = some ⟨oc32, od32, .func (PySem.W.fnOf "is_convex" "is_convex" (defArgs s_is_convex) (defBody s_is_convex) (defScope s_is_convex) .none kV32 dc32 pm32 an32 cd32 ct32), sl32⟩) (c32 : PySem.W.codeIn K cd32 "is_convex" = true) (k32 : PySem.W.keepIn K (.ref f32) = true)
    (a33 : PySem.W.nsIn K mainGlobals "stands_first" = some (some (.ref f33))) (l33 : K.lookup f33 = some ⟨oc33, od33, .func (PySem.W.fnOf "stands_first" "stands_first" (defArgs s_stands_first) (defBody s_stands_first) (defScope s_stands_first) .none kV33 dc33 pm33 an33 cd33 ct33), sl33⟩) (c33 : PySem.W.codeIn K cd33 "stands_first" = true) (k33 : PySem.W.keepIn K (.ref f33) = true)
    (a34 : PySem.W.nsIn K mainGlobals "formed" = some (some (.ref f34))) (l34 : K.lookup f34 = some ⟨oc34, od34, .func (PySem.W.fnOf "formed" "formed" (defArgs s_formed) (defBody s_formed) (defScope s_formed) .none kV34 dc34 pm34 an34 cd34 ct34), sl34⟩) (c34 : PySem.W.codeIn K cd34 "formed" = true) (k34 : PySem.W.keepIn K (.ref f34) = true)
    (a35 : PySem.W.nsIn K mainGlobals "made_board" = some (some (.ref f35))) (l35 : K.lookup f35 = some ⟨oc35, od35, .func (PySem.W.fnOf "made_board" "made_board" (defArgs s_made_board) (defBody s_made_board) (defScope s_made_board) .none kV35 dc35 pm35 an35 cd35 ct35), sl35⟩) (c35 : PySem.W.codeIn K cd35 "made_board" = true) (k35 : PySem.W.keepIn K (.ref f35) = true)
    (a36 : PySem.W.nsIn K mainGlobals "_law_board" = some (some (.ref f36))) (l36 : K.lookup f36 = some ⟨oc36, od36, .func (PySem.W.fnOf "_law_board" "_law_board" (defArgs s__law_board) (defBody s__law_board) (defScope s__law_board) .none kV36 dc36 pm36 an36 cd36 ct36), sl36⟩) (c36 : PySem.W.codeIn K cd36 "_law_board" = true) (k36 : PySem.W.keepIn K (.ref f36) = true)
    (a37 : PySem.W.nsIn K mainGlobals "plane_of" = some (some (.ref f37))) (l37 : K.lookup f37 = some ⟨oc37, od37, .func (PySem.W.fnOf "plane_of" "plane_of" (defArgs s_plane_of) (defBody s_plane_of) (defScope s_plane_of) .none kV37 dc37 pm37 an37 cd37 ct37), sl37⟩) (c37 : PySem.W.codeIn K cd37 "plane_of" = true) (k37 : PySem.W.keepIn K (.ref f37) = true)
    (a38 : PySem.W.nsIn K mainGlobals "first_not_free" = some (some (.ref f38))) (l38 : K.lookup f38 = some ⟨oc38, od38, .func (PySem.W.fnOf "first_not_free" "first_not_free" (defArgs s_first_not_free) (defBody s_first_not_free) (defScope s_first_not_free) .none kV38 dc38 pm38 an38 cd38 ct38), sl38⟩) (c38 : PySem.W.codeIn K cd38 "first_not_free" = true) (k38 : PySem.W.keepIn K (.ref f38) = true)
    (a39 : PySem.W.nsIn K mainGlobals "refuse_unless_free" = some (some (.ref f39))) (l39 : K.lookup f39 = some ⟨oc39, od39, .func (PySem.W.fnOf "refuse_unless_free" "refuse_unless_free" (defArgs s_refuse_unless_free) (defBody s_refuse_unless_free) (defScope s_refuse_unless_free) .none kV39 dc39 pm39 an39 cd39 ct39), sl39⟩) (c39 : PySem.W.codeIn K cd39 "refuse_unless_free" = true) (k39 : PySem.W.keepIn K (.ref f39) = true)
    (a40 : PySem.W.nsIn K mainGlobals "nearness" = some (some (.ref f40))) (l40 : K.lookup f40 = some ⟨oc40, od40, .func (PySem.W.fnOf "nearness" "nearness" (defArgs s_nearness) (defBody s_nearness) (defScope s_nearness) .none kV40 dc40 pm40 an40 cd40 ct40), sl40⟩) (c40 : PySem.W.codeIn K cd40 "nearness" = true) (k40 : PySem.W.keepIn K (.ref f40) = true)
    (a41 : PySem.W.nsIn K mainGlobals "_law_told" = some (some (.ref f41))) (l41 : K.lookup f41 = some ⟨oc41, od41, .func (PySem.W.fnOf "_law_told" "_law_told" (defArgs s__law_told) (defBody s__law_told) (defScope s__law_told) .none kV41 dc41 pm41 an41 cd41 ct41), sl41⟩) (c41 : PySem.W.codeIn K cd41 "_law_told" = true) (k41 : PySem.W.keepIn K (.ref f41) = true)
    (a42 : PySem.W.nsIn K mainGlobals "_law_upright" = some (some (.ref f42))) (l42 : K.lookup f42 = some ⟨oc42, od42, .func (PySem.W.fnOf "_law_upright" "_law_upright" (defArgs s__law_upright) (defBody s__law_upright) (defScope s__law_upright) .none kV42 dc42 pm42 an42 cd42 ct42), sl42⟩) (c42 : PySem.W.codeIn K cd42 "_law_upright" = true) (k42 : PySem.W.keepIn K (.ref f42) = true)
    (a43 : PySem.W.nsIn K mainGlobals "_law_free" = some (some (.ref f43))) (l43 : K.lookup f43 = some ⟨oc43, od43, .func (PySem.W.fnOf "_law_free" "_law_free" (defArgs s__law_free) (defBody s__law_free) (defScope s__law_free) .none kV43 dc43 pm43 an43 cd43 ct43), sl43⟩) (c43 : PySem.W.codeIn K cd43 "_law_free" = true) (k43 : PySem.W.keepIn K (.ref f43) = true)
    (a44 : PySem.W.nsIn K mainGlobals "_law_fraction" = some (some (.ref f44))) (l44 : K.lookup f44 = some ⟨oc44, od44, .func (PySem.W.fnOf "_law_fraction" "_law_fraction" (defArgs s__law_fraction) (defBody s__law_fraction) (defScope s__law_fraction) .none kV44 dc44 pm44 an44 cd44 ct44), sl44⟩) (c44 : PySem.W.codeIn K cd44 "_law_fraction" = true) (k44 : PySem.W.keepIn K (.ref f44) = true)
    (a45 : PySem.W.nsIn K mainGlobals "_law_is_fraction" = some (some (.ref f45))) (l45 : K.lookup f45 = some ⟨oc45, od45, .func (PySem.W.fnOf "_law_is_fraction" "_law_is_fraction" (defArgs s__law_is_fraction) (defBody s__law_is_fraction) (defScope s__law_is_fraction) .none kV45 dc45 pm45 an45 cd45 ct45), sl45⟩) (c45 : PySem.W.codeIn K cd45 "_law_is_fraction" = true) (k45 : PySem.W.keepIn K (.ref f45) = true)
    (a46 : PySem.W.nsIn K mainGlobals "_law_place" = some (some (.ref f46))) (l46 : K.lookup f46 = some ⟨oc46, od46, .func (PySem.W.fnOf "_law_place" "_law_place" (defArgs s__law_place) (defBody s__law_place) (defScope s__law_place) .none kV46 dc46 pm46 an46 cd46 ct46), sl46⟩) (c46 : PySem.W.codeIn K cd46 "_law_place" = true) (k46 : PySem.W.keepIn K (.ref f46) = true)
    (a47 : PySem.W.nsIn K mainGlobals "_law_ray" = some (some (.ref f47))) (l47 : K.lookup f47 = some ⟨oc47, od47, .func (PySem.W.fnOf "_law_ray" "_law_ray" (defArgs s__law_ray) (defBody s__law_ray) (defScope s__law_ray) .none kV47 dc47 pm47 an47 cd47 ct47), sl47⟩) (c47 : PySem.W.codeIn K cd47 "_law_ray" = true) (k47 : PySem.W.keepIn K (.ref f47) = true)
    (a48 : PySem.W.nsIn K mainGlobals "_law_right" = some (some (.ref f48))) (l48 : K.lookup f48 = some ⟨oc48, od48, .func (PySem.W.fnOf "_law_right" "_law_right" (defArgs s__law_right) (defBody s__law_right) (defScope s__law_right) .none kV48 dc48 pm48 an48 cd48 ct48), sl48⟩) (c48 : PySem.W.codeIn K cd48 "_law_right" = true) (k48 : PySem.W.keepIn K (.ref f48) = true)
    (a49 : PySem.W.nsIn K mainGlobals "law" = some (some (.ref f49))) (l49 : K.lookup f49 = some ⟨oc49, od49, .func (PySem.W.fnOf "law" "law" (defArgs s_law) (defBody s_law) (defScope s_law) .none kV49 dc49 pm49 an49 cd49 ct49), sl49⟩) (c49 : PySem.W.codeIn K cd49 "law" = true) (k49 : PySem.W.keepIn K (.ref f49) = true)
    (z0 : PySem.W.nsIn K mainGlobals "abs" = some none) (z1 : PySem.W.nsIn K mainGlobals "max" = some none) (z2 : PySem.W.nsIn K mainGlobals "min" = some none) (z3 : PySem.W.nsIn K mainGlobals "len" = some none) (z4 : PySem.W.nsIn K mainGlobals "all" = some none) (z5 : PySem.W.nsIn K mainGlobals "range" = some none) (z6 : PySem.W.nsIn K mainGlobals "tuple" = some none) (z7 : PySem.W.nsIn K mainGlobals "int" = some none) (z8 : PySem.W.nsIn K mainGlobals "bool" = some none) (z9 : PySem.W.nsIn K mainGlobals "isinstance" = some none) (z10 : PySem.W.nsIn K mainGlobals "list" = some none) (z11 : PySem.W.nsIn K mainGlobals "reversed" = some none) (z12 : PySem.W.nsIn K mainGlobals "enumerate" = some none) :
    ∃ fd : FuncData, (∀ (s : Shared) (v : Value), BindsTo s fd ⟨[v], []⟩ [("script", v)]) ∧ ∀ base : Heap, K.In base → base.Ns mainGlobals mg → FnOk l.prog w K mg base CX0 11 fa fd ["script"] (spLaw K) := by
  have e := hfa.symm.trans (PySem.W.mg_of X G a49)
  cases e
  have T : Tx K mg t1 t2 := ⟨PySem.W.mg_none_of X G z0, PySem.W.mg_none_of X G z1, PySem.W.mg_none_of X G z2, PySem.W.mg_none_of X G z3, PySem.W.mg_none_of X G z4, PySem.W.mg_none_of X G z5, PySem.W.mg_none_of X G z6, PySem.W.mg_none_of X G z7, PySem.W.mg_none_of X G z8, PySem.W.mg_none_of X G z9, PySem.W.mg_none_of X G z10, PySem.W.mg_none_of X G z11, PySem.W.mg_none_of X G z12, PySem.W.mg_of X G aS0, PySem.W.mg_of X G aS1⟩
  have RC := clsI.to rCR
  have TC : Tc K mg t1 t2 fN CR := { toTx := T, m_NotFree := PySem.W.mg_of X G kCR, o_NotFree := ⟨xCR, PySem.F.excBase_ValueError, nN, RC.2.1⟩, xc := RC.1, xa := xaOk.to wCR, em := RC.2.2 }
  have FN := fund_mk (st := s_initN) lN cN kN
  have BN : Binds K (PySem.W.fnOf "__init__" "NotFree.__init__" (defArgs s_initN) (defBody s_initN) (defScope s_initN) .none kVN dcN pmN anN cdN ctN) ["self", "board"] [] := .all (fun us hl => match us, hl with | [_, _], _ => rfl)
  have A__law_take := at_mk (st := s__law_take) (ps := ["pot", "many"]) X G (fun _ _ _ _ _ _ us hl => match us, hl with | [_, _], _ => rfl) a0 l0 c0 k0
  have A__law_number := at_mk (st := s__law_number) (ps := ["pot", "great"]) X G (fun _ _ _ _ _ _ us hl => match us, hl with | [_, _], _ => rfl) a1 l1 c1 k1
  have A_greatest_divisor := at_mk (st := s_greatest_divisor) (ps := ["one", "other"]) X G (fun _ _ _ _ _ _ us hl => match us, hl with | [_, _], _ => rfl) a2 l2 c2 k2
  have A_in_lowest_terms := at_mk (st := s_in_lowest_terms) (ps := ["numbers"]) X G (fun _ _ _ _ _ _ us hl => match us, hl with | [_], _ => rfl) a3 l3 c3 k3
  have A__law_spot := at_mk (st := s__law_spot) (ps := ["pot", "great"]) X G (fun _ _ _ _ _ _ us hl => match us, hl with | [_, _], _ => rfl) a4 l4 c4 k4
  have A__law_arrow := at_mk (st := s__law_arrow) (ps := ["pot", "great"]) X G (fun _ _ _ _ _ _ us hl => match us, hl with | [_, _], _ => rfl) a5 l5 c5 k5
  have A__law_cross := at_mk (st := s__law_cross) (ps := ["one", "other"]) X G (fun _ _ _ _ _ _ us hl => match us, hl with | [_, _], _ => rfl) a6 l6 c6 k6
  have A__law_other := at_mk (st := s__law_other) (ps := ["pot", "great", "lead"]) X G (fun _ _ _ _ _ _ us hl => match us, hl with | [_, _, _], _ => rfl) a7 l7 c7 k7
  have A__law_dot := at_mk (st := s__law_dot) (ps := ["one", "other"]) X G (fun _ _ _ _ _ _ us hl => match us, hl with | [_, _], _ => rfl) a8 l8 c8 k8
  have A__law_way := at_mk (st := s__law_way) (ps := ["one", "other"]) X G (fun _ _ _ _ _ _ us hl => match us, hl with | [_, _], _ => rfl) a9 l9 c9 k9
  have A_height_over := at_mk (st := s_height_over) (ps := ["plane", "spot"]) X G (fun _ _ _ _ _ _ us hl => match us, hl with | [_, _], _ => rfl) a10 l10 c10 k10
  have A_without := at_mk (st := s_without) (ps := ["spot", "place"]) X G (fun _ _ _ _ _ _ us hl => match us, hl with | [_, _], _ => rfl) a11 l11 c11 k11
  have A_crossed := at_mk (st := s_crossed) (ps := ["one", "other"]) X G (fun _ _ _ _ _ _ us hl => match us, hl with | [_, _], _ => rfl) a12 l12 c12 k12
  have A_determinant := at_mk (st := s_determinant) (ps := ["one", "other", "third"]) X G (fun _ _ _ _ _ _ us hl => match us, hl with | [_, _, _], _ => rfl) a13 l13 c13 k13
  have A_minor_of := at_mk (st := s_minor_of) (ps := ["one", "other", "third", "place"]) X G (fun _ _ _ _ _ _ us hl => match us, hl with | [_, _, _, _], _ => rfl) a14 l14 c14 k14
  have A_rough_plane := at_mk (st := s_rough_plane) (ps := ["one", "other", "third"]) X G (fun _ _ _ _ _ _ us hl => match us, hl with | [_, _, _], _ => rfl) a15 l15 c15 k15
  have A_along := at_mk (st := s_along) (ps := ["arrow"]) X G (fun _ _ _ _ _ _ us hl => match us, hl with | [_], _ => rfl) a16 l16 c16 k16
  have A_made_frame := at_mk (st := s_made_frame) (ps := ["eye", "corner", "across", "up"]) X G (fun _ _ _ _ _ _ us hl => match us, hl with | [_, _, _, _], _ => rfl) a17 l17 c17 k17
  have A__law_frame := at_mk (st := s__law_frame) (ps := ["pot"]) X G (fun _ _ _ _ _ _ us hl => match us, hl with | [_], _ => rfl) a18 l18 c18 k18
  have A__law_pot := at_mk (st := s__law_pot) (ps := ["cell", "k"]) X G (fun _ _ _ _ _ _ us hl => match us, hl with | [_, _], _ => rfl) a19 l19 c19 k19
  have A__law_at := at_mk (st := s__law_at) (ps := ["script", "k"]) X G (fun _ _ _ _ _ _ us hl => match us, hl with | [_, _], _ => rfl) a20 l20 c20 k20
  have A__law_start := at_mk (st := s__law_start) (ps := ["frame", "pot"]) X G (fun _ _ _ _ _ _ us hl => match us, hl with | [_, _], _ => rfl) a21 l21 c21 k21
  have A__law_shape := at_mk (st := s__law_shape) (ps := ["pot"]) X G (fun _ _ _ _ _ _ us hl => match us, hl with | [_], _ => rfl) a22 l22 c22 k22
  have A_in_line := at_mk (st := s_in_line) (ps := ["one", "other", "third"]) X G (fun _ _ _ _ _ _ us hl => match us, hl with | [_, _, _], _ => rfl) a23 l23 c23 k23
  have A_made_plane := at_mk (st := s_made_plane) (ps := ["a", "b", "c", "d"]) X G (fun _ _ _ _ _ _ us hl => match us, hl with | [_, _, _, _], _ => rfl) a24 l24 c24 k24
  have A_is_plain := at_mk (st := s_is_plain) (ps := ["plane"]) X G (fun _ _ _ _ _ _ us hl => match us, hl with | [_], _ => rfl) a25 l25 c25 k25
  have A_turned_about := at_mk (st := s_turned_about) (ps := ["plane"]) X G (fun _ _ _ _ _ _ us hl => match us, hl with | [_], _ => rfl) a26 l26 c26 k26
  have A_plane_through := at_mk (st := s_plane_through) (ps := ["one", "other", "third"]) X G (fun _ _ _ _ _ _ us hl => match us, hl with | [_, _, _], _ => rfl) a27 l27 c27 k27
  have A_sign_of := at_mk (st := s_sign_of) (ps := ["number"]) X G (fun _ _ _ _ _ _ us hl => match us, hl with | [_], _ => rfl) a28 l28 c28 k28
  have A_side_of := at_mk (st := s_side_of) (ps := ["plane", "spot"]) X G (fun _ _ _ _ _ _ us hl => match us, hl with | [_, _], _ => rfl) a29 l29 c29 k29
  have A_flat_axis := at_mk (st := s_flat_axis) (ps := ["plane"]) X G (fun _ _ _ _ _ _ us hl => match us, hl with | [_], _ => rfl) a30 l30 c30 k30
  have A_side_of_edge := at_mk (st := s_side_of_edge) (ps := ["edge", "spot", "axis"]) X G (fun _ _ _ _ _ _ us hl => match us, hl with | [_, _, _], _ => rfl) a31 l31 c31 k31
  have A_is_convex := at_mk (st := s_is_convex) (ps := ["corners", "axis"]) X G (fun _ _ _ _ _ _ us hl => match us, hl with | [_, _], _ => rfl) a32 l32 c32 k32
  have A_stands_first := at_mk (st := s_stands_first) (ps := ["one", "other"]) X G (fun _ _ _ _ _ _ us hl => match us, hl with | [_, _], _ => rfl) a33 l33 c33 k33
  have A_formed := at_mk (st := s_formed) (ps := ["corners"]) X G (fun _ _ _ _ _ _ us hl => match us, hl with | [_], _ => rfl) a34 l34 c34 k34
  have A_made_board := at_mk (st := s_made_board) (ps := ["corners"]) X G (fun _ _ _ _ _ _ us hl => match us, hl with | [_], _ => rfl) a35 l35 c35 k35
  have A__law_board := at_mk (st := s__law_board) (ps := ["frame", "pot", "through"]) X G (fun _ _ _ _ _ _ us hl => match us, hl with | [_, _, _], _ => rfl) a36 l36 c36 k36
  have A_plane_of := at_mk (st := s_plane_of) (ps := ["board"]) X G (fun _ _ _ _ _ _ us hl => match us, hl with | [_], _ => rfl) a37 l37 c37 k37
  have A_first_not_free := at_mk (st := s_first_not_free) (ps := ["boards", "spot"]) X G (fun _ _ _ _ _ _ us hl => match us, hl with | [_, _], _ => rfl) a38 l38 c38 k38
  have A_refuse_unless_free := at_mk (st := s_refuse_unless_free) (ps := ["boards", "spot"]) X G (fun _ _ _ _ _ _ us hl => match us, hl with | [_, _], _ => rfl) a39 l39 c39 k39
  have A_nearness := at_mk (st := s_nearness) (ps := ["frame", "board"]) X G (fun _ _ _ _ _ _ us hl => match us, hl with | [_, _], _ => rfl) a40 l40 c40 k40
  have A__law_told := at_mk (st := s__law_told) (ps := ["frame", "board"]) X G (fun _ _ _ _ _ _ us hl => match us, hl with | [_, _], _ => rfl) a41 l41 c41 k41
  have A__law_upright := at_mk (st := s__law_upright) (ps := ["board"]) X G (fun _ _ _ _ _ _ us hl => match us, hl with | [_], _ => rfl) a42 l42 c42 k42
  have A__law_free := at_mk (st := s__law_free) (ps := ["board", "eye"]) X G (fun _ _ _ _ _ _ us hl => match us, hl with | [_, _], _ => rfl) a43 l43 c43 k43
  have A__law_fraction := at_mk (st := s__law_fraction) (ps := ["top", "bottom"]) X G (fun _ _ _ _ _ _ us hl => match us, hl with | [_, _], _ => rfl) a44 l44 c44 k44
  have A__law_is_fraction := at_mk (st := s__law_is_fraction) (ps := ["found"]) X G (fun _ _ _ _ _ _ us hl => match us, hl with | [_], _ => rfl) a45 l45 c45 k45
  have A__law_place := at_mk (st := s__law_place) (ps := ["pot"]) X G (fun _ _ _ _ _ _ us hl => match us, hl with | [_], _ => rfl) a46 l46 c46 k46
  have A__law_ray := at_mk (st := s__law_ray) (ps := ["frame", "place"]) X G (fun _ _ _ _ _ _ us hl => match us, hl with | [_, _], _ => rfl) a47 l47 c47 k47
  have A__law_right := at_mk (st := s__law_right) (ps := ["frame", "board", "found", "place"]) X G (fun _ _ _ _ _ _ us hl => match us, hl with | [_, _, _, _], _ => rfl) a48 l48 c48 k48
  have AF : At K mg "made_spot" s_made_spot ["x", "y", "z", "w"] [] := at_mkD (ds := []) X G (fun _ _ _ _ _ _ us hl => match us, hl with | [_, _, _, _], _ => ⟨_, rfl, rfl⟩) aF lF cF kF lD hD .nil
  have AF1 : At K mg "made_spot" s_made_spot ["x", "y", "z", "w"] [.int 1] := at_mkD (ds := [.int 1 tD]) X G (fun _ _ _ _ _ _ us hl => by
    rw [List.length_append] at hl
    have hl2 : us.length = 3 := by simpa using hl
    match us, hl2 with
    | [u0, u1, u2], _ => exact ⟨_, rfl, rfl⟩) aF lF cF kF lD hD (.cons ⟨_, rfl⟩ .nil)
  have AG : At K mg "fraction" s_fraction ["top", "bottom"] [] := at_mkD (ds := []) X G (fun _ _ _ _ _ _ us hl => match us, hl with | [_, _], _ => ⟨_, rfl, rfl⟩) aG lG cG kG lE hE .nil
  have AG1 : At K mg "fraction" s_fraction ["top", "bottom"] [.int 1] := at_mkD (ds := [.int 1 tE]) X G (fun _ _ _ _ _ _ us hl => by
    rw [List.length_append] at hl
    have hl2 : us.length = 1 := by simpa using hl
    match us, hl2 with
    | [u0], _ => exact ⟨_, rfl, rfl⟩) aG lG cG kG lE hE (.cons ⟨_, rfl⟩ .nil)
  have FL := fund_mk (st := s_law) l49 c49 k49
  refine ⟨PySem.W.fnOf "law" "law" (defArgs s_law) (defBody s_law) (defScope s_law) .none kV49 dc49 pm49 an49 cd49 ct49, fun s v => .of_eq rfl, fun base _ _ => ?_⟩
  have D0 := ok_take (P := l.prog) (w := w) (base := base) T A__law_take
  have D1 := ok_number (P := l.prog) (w := w) (base := base) T A__law_number D0
  have D2 := ok_gd (P := l.prog) (w := w) (base := base) T A_greatest_divisor
  have D3 := ok_low (P := l.prog) (w := w) (base := base) T A_in_lowest_terms D2
  have D4 := ok_mspot (P := l.prog) (w := w) (base := base) T AF D3
  have D5 := ok_spot (P := l.prog) (w := w) (base := base) T A__law_spot D0 D1 D4
  have D6 := ok_arrow2 (P := l.prog) (w := w) (base := base) T A__law_arrow D1
  have D7 := ok_cr (P := l.prog) (w := w) (base := base) T A__law_cross
  have D8 := ok_other2 (P := l.prog) (w := w) (base := base) T A__law_other D6 D7
  have D9 := ok_dot (P := l.prog) (w := w) (base := base) T A__law_dot
  have D10 := ok_way (P := l.prog) (w := w) (base := base) T A__law_way
  have D11 := ok_ht (P := l.prog) (w := w) (base := base) T A_height_over
  have D12 := ok_without (P := l.prog) (w := w) (base := base) T A_without
  have D13 := ok_crossed (P := l.prog) (w := w) (base := base) T A_crossed
  have D14 := ok_det (P := l.prog) (w := w) (base := base) T A_determinant D13
  have D15 := ok_minor (P := l.prog) (w := w) (base := base) T A_minor_of D12 D14
  have D16 := ok_rough (P := l.prog) (w := w) (base := base) T A_rough_plane D15
  have D17 := ok_along (P := l.prog) (w := w) (base := base) T A_along
  have D18 := ok_mf0 (P := l.prog) (w := w) (base := base) T A_made_frame D11 D16 D17
  have D19 := ok_frame (P := l.prog) (w := w) (base := base) T A__law_frame D0 D5 D6 D8 D7 D9 D10 D4 D18
  have D20 := ok_pot (P := l.prog) (w := w) (base := base) T A__law_pot
  have D21 := ok_at (P := l.prog) (w := w) (base := base) T A__law_at
  have D22 := ok_start (P := l.prog) (w := w) (base := base) T A__law_start D0
  have D23 := ok_shape (P := l.prog) (w := w) (base := base) T A__law_shape D0
  have D24 := ok_line (P := l.prog) (w := w) (base := base) T A_in_line D15
  have D25 := ok_plane (P := l.prog) (w := w) (base := base) T A_made_plane D3
  have D26 := ok_plain (P := l.prog) (w := w) (base := base) T A_is_plain
  have D27 := ok_turned (P := l.prog) (w := w) (base := base) T A_turned_about
  have D28 := ok_through (P := l.prog) (w := w) (base := base) T A_plane_through D16 D25 D26 D27
  have D29 := ok_sign (P := l.prog) (w := w) (base := base) T A_sign_of
  have D30 := ok_side (P := l.prog) (w := w) (base := base) T A_side_of D29 D11
  have D31 := ok_axis (P := l.prog) (w := w) (base := base) T A_flat_axis
  have D32 := ok_edge (P := l.prog) (w := w) (base := base) T A_side_of_edge D29 D15
  have D33 := ok_cvx (P := l.prog) (w := w) (base := base) T A_is_convex D32
  have D34 := ok_first (P := l.prog) (w := w) (base := base) T A_stands_first
  have D35 := ok_formed (P := l.prog) (w := w) (base := base) T A_formed D34
  have D36 := ok_board (P := l.prog) (w := w) (base := base) T A_made_board D24 D28 D30 D31 D33 D35
  have D37 := ok_lboard (P := l.prog) (w := w) (base := base) T A__law_board D0 D22 D5 D6 D8 D23 D4 D36
  have D38 := ok_planeof (P := l.prog) (w := w) (base := base) T A_plane_of D28
  have D39 := ok_nf (P := l.prog) (w := w) (base := base) T A_first_not_free D30 D38
  have D40 := ok_ru (P := l.prog) (w := w) (base := base) TC (ok_initN TC FN) BN A_refuse_unless_free D39
  have D41 := ok_frac (P := l.prog) (w := w) (base := base) T AG D3
  have D42 := ok_near (P := l.prog) (w := w) (base := base) TC A_nearness D40 D38 D11 D17 D41
  have D43 := ok_told (P := l.prog) (w := w) (base := base) TC A__law_told D42
  have D44 := ok_up (P := l.prog) (w := w) (base := base) T A__law_upright D7 D10
  have D45 := ok_free (P := l.prog) (w := w) (base := base) T A__law_free D9 D44 D10
  have D46 := ok_lfrac (P := l.prog) (w := w) (base := base) T A__law_fraction
  have D47 := ok_isf (P := l.prog) (w := w) (base := base) T A__law_is_fraction D46
  have D48 := ok_place (P := l.prog) (w := w) (base := base) T A__law_place D0 D46
  have D49 := ok_ray (P := l.prog) (w := w) (base := base) T A__law_ray
  have D50 := ok_right (P := l.prog) (w := w) (base := base) T A__law_right D44 D9 D10 D49
  exact ok_law TC FL D19 D20 D21 D37 D0 D43 D45 D47 D48 D50
theorem walk {l : PySem.W.OpenLaw} {q : Program} {loose : List Str} {XP : (Str → Option Value) → Heap → Prop} {YP : World → Heap → Prop} {d : DefRec} {K : Params → PySem.W.Frag} (hn : l.most = some 63) (hdf : d.params.defaults = [])
    (hY : ∀ (w : World) (h : Heap), YP w h → (K w.params).In h)
    (F : ∀ (w : World) (mg : Str → Option Value) (fa : Addr) (h : Heap), (K w.params).In h → h.Ns mainGlobals mg → mg d.name = some (.ref fa) →
      ∃ fd : FuncData, (∀ (s : Shared) (u : Value), BindsTo s fd ⟨[u], []⟩ [("script", u)]) ∧ ∀ base : Heap, (K w.params).In base → base.Ns mainGlobals mg → FnOk l.prog w (K w.params) mg base CX0 11 fa fd ["script"] (spLaw (K w.params))) :
    PySem.W.WalkO q loose XP YP l.row.toRowW d [] (fun f vs => PySem.call f vs) :=
  L2.walk_of (n := 63) (k := 11) (x := "script") (CX := fun _ => CX0) (sp := fun w => spLaw (K w.params)) hn (by decide) hdf ⟨rfl, by decide, by decide⟩ hY F (fun _ _ a ns hl _ hS => ⟨a, ns, rfl, hS, hl, fun _ => rfl⟩) fun _ _ _ _ _ z => z
end My
def PySem.W.Fast.tw10244214671058393150 : Unit := ()
def PySem.W.Fast.tw10722887975106868395 : Unit := ()
def PySem.W.Fast.tw10946682409654626598 : Unit := ()
def PySem.W.Fast.tw1174697409953588369 : Unit := ()
def PySem.W.Fast.tw12301785563149318685 : Unit := ()
def PySem.W.Fast.tw12384855593619777650 : Unit := ()
def PySem.W.Fast.tw12464643156137381214 : Unit := ()
def PySem.W.Fast.tw1273003357470689565 : Unit := ()
def PySem.W.Fast.tw13898078905957461567 : Unit := ()
def PySem.W.Fast.tw14391242549903832178 : Unit := ()
def PySem.W.Fast.tw1498337681068630810 : Unit := ()
def PySem.W.Fast.tw15104173406833946133 : Unit := ()
def PySem.W.Fast.tw15354445554112235527 : Unit := ()
def PySem.W.Fast.tw15547172468600694717 : Unit := ()
def PySem.W.Fast.tw15548389142153012521 : Unit := ()
def PySem.W.Fast.tw15640774295266610043 : Unit := ()
def PySem.W.Fast.tw16399534595979961572 : Unit := ()
def PySem.W.Fast.tw16788392404862392193 : Unit := ()
def PySem.W.Fast.tw17221027418111288202 : Unit := ()
def PySem.W.Fast.tw1765827362261585670 : Unit := ()
def PySem.W.Fast.tw17928199965674698022 : Unit := ()
def PySem.W.Fast.tw18346071353730396600 : Unit := ()
def PySem.W.Fast.tw18379775632850822508 : Unit := ()
def PySem.W.Fast.tw1956962321513351084 : Unit := ()
def PySem.W.Fast.tw2200948228032513434 : Unit := ()
def PySem.W.Fast.tw2225258385537455785 : Unit := ()
def PySem.W.Fast.tw2481568957255750083 : Unit := ()
def PySem.W.Fast.tw2560891573588578740 : Unit := ()
def PySem.W.Fast.tw2737273535763740344 : Unit := ()
def PySem.W.Fast.tw2803476598996127950 : Unit := ()
def PySem.W.Fast.tw3686729476810344814 : Unit := ()
def PySem.W.Fast.tw3700980082588082066 : Unit := ()
def PySem.W.Fast.tw3746861775754378644 : Unit := ()
def PySem.W.Fast.tw4149459581547871809 : Unit := ()
def PySem.W.Fast.tw4203868288535656053 : Unit := ()
def PySem.W.Fast.tw445882040792368532 : Unit := ()
def PySem.W.Fast.tw4926382734576557676 : Unit := ()
def PySem.W.Fast.tw4993808105840601626 : Unit := ()
def PySem.W.Fast.tw5613149607924733415 : Unit := ()
def PySem.W.Fast.tw7316303256639694294 : Unit := ()
def PySem.W.Fast.tw7541551423474583829 : Unit := ()
def PySem.W.Fast.tw8022155103118238771 : Unit := ()
def PySem.W.Fast.tw8160278907397702108 : Unit := ()
def PySem.W.Fast.tw8792333770235006953 : Unit := ()
def PySem.W.Fast.tw8932890752411134717 : Unit := ()
def PySem.W.Fast.tw9099111623055331231 : Unit := ()
def PySem.W.Fast.tw9147374316971138324 : Unit := ()
def PySem.W.Fast.tw9505702119290219491 : Unit := ()
def PySem.W.Fast.tw9550638672545779230 : Unit := ()
def PySem.W.Fast.tw9965790222806099836 : Unit := ()
open PySem PySem.W PyProof.Rows
set_option maxRecDepth 100000 in
set_option maxHeartbeats 0 in
theorem PySem.Challenge.cw_boardsight_k53_nearness_by_place_holds : PySem.Challenge.rw_boardsight_k53_nearness_by_place.Holds := by
  w_on; o_law; k_head; (case hw => w_witness2)
  k_fill
  refine My.walk (l := PySem.Challenge.rw_boardsight_k53_nearness_by_place) rfl rfl (fun w h Y => PySem.W.kIn_of Y) ?F
  case F =>
    intro w mg fa h KX G hmg
    refine' My.all_mk KX G hmg ?kCR ?kIN ?lN ?cN ?kN ?nN ?rCR ?xCR ?wCR ?aS0 ?aS1 ?aF ?lF ?cF ?kF ?lD ?hD ?aG ?lG ?cG ?kG ?lE ?hE ?a0 ?l0 ?c0 ?k0 ?a1 ?l1 ?c1 ?k1 ?a2 ?l2 ?c2 ?k2 ?a3 ?l3 ?c3 ?k3 ?a4 ?l4 ?c4 ?k4 ?a5 ?l5 ?c5 ?k5 ?a6 ?l6 ?c6 ?k6 ?a7 ?l7 ?c7 ?k7 ?a8 ?l8 ?c8 ?k8 ?a9 ?l9 ?c9 ?k9 ?a10 ?l10 ?c10 ?k10 ?a11 ?l11 ?c11 ?k11 ?a12 ?l12 ?c12 ?k12 ?a13 ?l13 ?c13 ?k13 ?a14 ?l14 ?c14 ?k14 ?a15 ?l15 ?c15 ?k15 ?a16 ?l16 ?c16 ?k16 ?a17 ?l17 ?c17 ?k17 ?a18 ?l18 ?c18 ?k18 ?a19 ?l19 ?c19 ?k19 ?a20 ?l20 ?c20 ?k20 ?a21 ?l21 ?c21 ?k21 ?a22 ?l22 ?c22 ?k22 ?a23 ?l23 ?c23 ?k23 ?a24 ?l24 ?c24 ?k24 ?a25 ?l25 ?c25 ?k25 ?a26 ?l26 ?c26 ?k26 ?a27 ?l27 ?c27 ?k27 ?a28 ?l28 ?c28 ?k28 ?a29 ?l29 ?c29 ?k29 ?a30 ?l30 ?c30 ?k30 ?a31 ?l31 ?c31 ?k31 ?a32 ?l32 ?c32 ?k32 ?a33 ?l33 ?c33 ?k33 ?a34 ?l34 ?c34 ?k34 ?a35 ?l35 ?c35 ?k35 ?a36 ?l36 ?c36 ?k36 ?a37 ?l37 ?c37 ?k37 ?a38 ?l38 ?c38 ?k38 ?a39 ?l39 ?c39 ?k39 ?a40 ?l40 ?c40 ?k40 ?a41 ?l41 ?c41 ?k41 ?a42 ?l42 ?c42 ?k42 ?a43 ?l43 ?c43 ?k43 ?a44 ?l44 ?c44 ?k44 ?a45 ?l45 ?c45 ?k45 ?a46 ?l46 ?c46 ?k46 ?a47 ?l47 ?c47 ?k47 ?a48 ?l48 ?c48 ?k48 ?a49 ?l49 ?c49 ?k49 ?z0 ?z1 ?z2 ?z3 ?z4 ?z5 ?z6 ?z7 ?z8 ?z9 ?z10 ?z11 ?z12
    (case kCR => k_is)
    (case kIN => k_is)
    (case lN => k_is)
    (case cN => k_is)
    (case kN => k_is)
    (case nN => k_is)
    (case rCR => first | kernel_rfl | k_is)
    (case xCR => first | kernel_rfl | k_is)
    (case wCR => first | kernel_rfl | k_is)
    (case aS0 => k_is)
    (case aS1 => k_is)
    (case aF => k_is)
    (case lF => k_is)
    (case cF => k_is)
    (case kF => k_is)
    (case lD => k_is)
    (case hD => first | rfl | k_is)
    (case aG => k_is)
    (case lG => k_is)
    (case cG => k_is)
    (case kG => k_is)
    (case lE => k_is)
    (case hE => first | rfl | k_is)
    (case a0 => k_is)
    (case l0 => k_is)
    (case c0 => k_is)
    (case k0 => k_is)
    (case a1 => k_is)
    (case l1 => k_is)
    (case c1 => k_is)
    (case k1 => k_is)
    (case a2 => k_is)
    (case l2 => k_is)
    (case c2 => k_is)
    (case k2 => k_is)
    (case a3 => k_is)
    (case l3 => k_is)
    (case c3 => k_is)
    (case k3 => k_is)
    (case a4 => k_is)
    (case l4 => k_is)
    (case c4 => k_is)
    (case k4 => k_is)
    (case a5 => k_is)
    (case l5 => k_is)
    (case c5 => k_is)
    (case k5 => k_is)
    (case a6 => k_is)
    (case l6 => k_is)
    (case c6 => k_is)
    (case k6 => k_is)
    (case a7 => k_is)
    (case l7 => k_is)
    (case c7 => k_is)
    (case k7 => k_is)
    (case a8 => k_is)
    (case l8 => k_is)
    (case c8 => k_is)
    (case k8 => k_is)
    (case a9 => k_is)
    (case l9 => k_is)
    (case c9 => k_is)
    (case k9 => k_is)
    (case a10 => k_is)
    (case l10 => k_is)
    (case c10 => k_is)
    (case k10 => k_is)
    (case a11 => k_is)
    (case l11 => k_is)
    (case c11 => k_is)
    (case k11 => k_is)
    (case a12 => k_is)
    (case l12 => k_is)
    (case c12 => k_is)
    (case k12 => k_is)
    (case a13 => k_is)
    (case l13 => k_is)
    (case c13 => k_is)
    (case k13 => k_is)
    (case a14 => k_is)
    (case l14 => k_is)
    (case c14 => k_is)
    (case k14 => k_is)
    (case a15 => k_is)
    (case l15 => k_is)
    (case c15 => k_is)
    (case k15 => k_is)
    (case a16 => k_is)
    (case l16 => k_is)
    (case c16 => k_is)
    (case k16 => k_is)
    (case a17 => k_is)
    (case l17 => k_is)
    (case c17 => k_is)
    (case k17 => k_is)
    (case a18 => k_is)
    (case l18 => k_is)
    (case c18 => k_is)
    (case k18 => k_is)
    (case a19 => k_is)
    (case l19 => k_is)
    (case c19 => k_is)
    (case k19 => k_is)
    (case a20 => k_is)
    (case l20 => k_is)
    (case c20 => k_is)
    (case k20 => k_is)
    (case a21 => k_is)
    (case l21 => k_is)
    (case c21 => k_is)
    (case k21 => k_is)
    (case a22 => k_is)
    (case l22 => k_is)
    (case c22 => k_is)
    (case k22 => k_is)
    (case a23 => k_is)
    (case l23 => k_is)
    (case c23 => k_is)
    (case k23 => k_is)
    (case a24 => k_is)
    (case l24 => k_is)
    (case c24 => k_is)
    (case k24 => k_is)
    (case a25 => k_is)
    (case l25 => k_is)
    (case c25 => k_is)
    (case k25 => k_is)
    (case a26 => k_is)
    (case l26 => k_is)
    (case c26 => k_is)
    (case k26 => k_is)
    (case a27 => k_is)
    (case l27 => k_is)
    (case c27 => k_is)
    (case k27 => k_is)
    (case a28 => k_is)
    (case l28 => k_is)
    (case c28 => k_is)
    (case k28 => k_is)
    (case a29 => k_is)
    (case l29 => k_is)
    (case c29 => k_is)
    (case k29 => k_is)
    (case a30 => k_is)
    (case l30 => k_is)
    (case c30 => k_is)
    (case k30 => k_is)
    (case a31 => k_is)
    (case l31 => k_is)
    (case c31 => k_is)
    (case k31 => k_is)
    (case a32 => k_is)
    (case l32 => k_is)
    (case c32 => k_is)
    (case k32 => k_is)
    (case a33 => k_is)
    (case l33 => k_is)
    (case c33 => k_is)
    (case k33 => k_is)
    (case a34 => k_is)
    (case l34 => k_is)
    (case c34 => k_is)
    (case k34 => k_is)
    (case a35 => k_is)
    (case l35 => k_is)
    (case c35 => k_is)
    (case k35 => k_is)
    (case a36 => k_is)
    (case l36 => k_is)
    (case c36 => k_is)
    (case k36 => k_is)
    (case a37 => k_is)
    (case l37 => k_is)
    (case c37 => k_is)
    (case k37 => k_is)
    (case a38 => k_is)
    (case l38 => k_is)
    (case c38 => k_is)
    (case k38 => k_is)
    (case a39 => k_is)
    (case l39 => k_is)
    (case c39 => k_is)
    (case k39 => k_is)
    (case a40 => k_is)
    (case l40 => k_is)
    (case c40 => k_is)
    (case k40 => k_is)
    (case a41 => k_is)
    (case l41 => k_is)
    (case c41 => k_is)
    (case k41 => k_is)
    (case a42 => k_is)
    (case l42 => k_is)
    (case c42 => k_is)
    (case k42 => k_is)
    (case a43 => k_is)
    (case l43 => k_is)
    (case c43 => k_is)
    (case k43 => k_is)
    (case a44 => k_is)
    (case l44 => k_is)
    (case c44 => k_is)
    (case k44 => k_is)
    (case a45 => k_is)
    (case l45 => k_is)
    (case c45 => k_is)
    (case k45 => k_is)
    (case a46 => k_is)
    (case l46 => k_is)
    (case c46 => k_is)
    (case k46 => k_is)
    (case a47 => k_is)
    (case l47 => k_is)
    (case c47 => k_is)
    (case k47 => k_is)
    (case a48 => k_is)
    (case l48 => k_is)
    (case c48 => k_is)
    (case k48 => k_is)
    (case a49 => k_is)
    (case l49 => k_is)
    (case c49 => k_is)
    (case k49 => k_is)
    (case z0 => k_is)
    (case z1 => k_is)
    (case z2 => k_is)
    (case z3 => k_is)
    (case z4 => k_is)
    (case z5 => k_is)
    (case z6 => k_is)
    (case z7 => k_is)
    (case z8 => k_is)
    (case z9 => k_is)
    (case z10 => k_is)
    (case z11 => k_is)
    (case z12 => k_is)


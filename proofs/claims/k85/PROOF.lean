import PyProof.Rows.All
import Wide.All
import OpenK.AllK
import Wide.FinOn
import Lean
import PyProof.EqAt
import PyProof.EqKinds
import PyProof.TupleCall
-- CHANGE: your row's module here, as the last of these rows
import PySem.Challenge.RW_boardsight_k85_no_spots

set_option Elab.async false
set_option linter.all false
set_option maxRecDepth 100000
/-! THE HAND LAYER, for ints, bools, texts, own classes, LISTS and tuples (index, slices, in, append, pop ..), calls, loops. Paste it whole ahead of your own text; what your proof does not reach may be deleted. -/
namespace L2
open PySem PySem.Spec PyProof.Rows

/-- a key: an int or a str -/
abbrev Key := Sum Int Str
def keyIs : Key → Value → Bool
  | .inl k, v => Value.isInt k v
  | .inr x, v => Value.isStrOf x v
def keyH (w : World) : Key → Int
  | .inl k => hashInt k
  | .inr x => hashStr w x
theorem keyIs_shape : ∀ {k : Key} {v : Value}, keyIs k v = true → (∃ i t, k = Sum.inl i ∧ v = Value.int i t) ∨ (∃ x t, k = Sum.inr x ∧ v = Value.str x t)
  | .inl i, v, h => by
    obtain ⟨t, e⟩ := Value.isInt_shape (k := i) (v := v) h
    exact .inl ⟨i, t, rfl, e⟩
  | .inr x, v, h => by
    obtain ⟨t, e⟩ := Value.isStrOf_shape (x := x) (v := v) h
    exact .inr ⟨x, t, rfl, e⟩
theorem key_ll (a b : Int) : decide ((Sum.inl a : Key) = Sum.inl b) = (a == b) := by
  by_cases e : a = b
  · subst e; simp
  · have h : ¬ (Sum.inl a : Key) = Sum.inl b := fun q => e (Sum.inl.inj q)
    rw [decide_eq_false h]
    exact (beq_eq_false_iff_ne.mpr e).symm
theorem key_rr (a b : Str) : decide ((Sum.inr a : Key) = Sum.inr b) = decide (a = b) := by
  by_cases e : a = b
  · subst e; simp
  · have h : ¬ (Sum.inr a : Key) = Sum.inr b := fun q => e (Sum.inr.inj q)
    rw [decide_eq_false h, decide_eq_false e]
theorem key_lr (a : Int) (b : Str) : decide ((Sum.inl a : Key) = Sum.inr b) = false := decide_eq_false (fun q => nomatch q)
theorem key_rl (a : Str) (b : Int) : decide ((Sum.inr a : Key) = Sum.inl b) = false := decide_eq_false (fun q => nomatch q)

def mixKind (prog : Program) (w : World) : PySem.KeyKind prog w Key where
  is := keyIs
  hash := keyH w
  inj := fun v a b ha hb => by
    rcases keyIs_shape ha with ⟨i, t, rfl, rfl⟩ | ⟨x, t, rfl, rfl⟩
    · rcases keyIs_shape hb with ⟨j, u, rfl, e⟩ | ⟨y, u, rfl, e⟩
      · injection e with e1 _; rw [e1]
      · exact nomatch e
    · rcases keyIs_shape hb with ⟨j, u, rfl, e⟩ | ⟨y, u, rfl, e⟩
      · exact nomatch e
      · injection e with e1 _; rw [e1]
  byValue := fun k v h => by
    rcases keyIs_shape h with ⟨i, t, rfl, rfl⟩ | ⟨x, t, rfl, rfl⟩ <;> rfl
  pyHash := fun hv h => by
    rcases keyIs_shape hv with ⟨i, t, rfl, rfl⟩ | ⟨x, t, rfl, rfl⟩
    · exact wpAny_pyHash_int h
    · exact wpAny_pyHash_str h
  eqBool := fun hu hv h => by
    rcases keyIs_shape hu with ⟨i, t, rfl, rfl⟩ | ⟨x, t, rfl, rfl⟩
    · rcases keyIs_shape hv with ⟨j, u, rfl, rfl⟩ | ⟨y, u, rfl, rfl⟩
      · rw [key_ll] at h; exact wpAny_eqBool_int h
      · rw [key_lr] at h; exact SeqAt.EqAt.int_str i t y u _ _ _ _ h
    · rcases keyIs_shape hv with ⟨j, u, rfl, rfl⟩ | ⟨y, u, rfl, rfl⟩
      · rw [key_rl] at h; exact SeqAt.EqAt.str_int x t j u _ _ _ _ h
      · rw [key_rr] at h; exact wpAny_eqBool_str h
  «strs» := fun k x t v h => by
    rcases keyIs_shape h with ⟨i, u, rfl, e⟩ | ⟨y, u, rfl, e⟩
    · exact nomatch e
    · injection e with e1 _
      subst e1
      cases v <;> rfl

end L2

namespace L2
open PySem PySem.Spec PyProof.Rows

/-- a value, without the heap -/
inductive V where
  | non | bl (b : Bool) | int (i : Int) | str (x : Str) | byt (b : Array UInt8) | flt (b : UInt64) | ref (a : Addr) | ty (n : String)
  deriving DecidableEq

def RelV : V → Value → Prop
  | .non, u => u = Value.none
  | .bl b, u => u = Value.bool b
  | .int i, u => ∃ t, u = Value.int i t
  | .str x, u => ∃ t, u = Value.str x t
  | .byt b, u => ∃ t, u = Value.bytes b t
  | .flt b, u => ∃ t, u = Value.float b t
  | .ref a, u => u = Value.ref a
  | .ty n, u => u = Value.type n

abbrev Vals : List V → List Value → Prop := Paired RelV
theorem Vals.length {xs : List V} {us : List Value} (r : Vals xs us) : xs.length = us.length := Paired.length r
theorem Vals.get : ∀ {xs : List V} {us : List Value} {i : Nat} {x : V}, Vals xs us → xs[i]? = some x → ∃ u, us[i]? = some u ∧ RelV x u
  | _, _, _, _, .nil, e => by simp at e
  | _, _, 0, _, .cons r _, e => by simp at e; subst e; exact ⟨_, rfl, r⟩
  | _, _, i + 1, x, .cons _ t, e => by
    obtain ⟨u, h1, h2⟩ := Vals.get (i := i) (x := x) t (by simpa using e)
    exact ⟨u, by simpa using h1, h2⟩
theorem Vals.set {x : V} {u : Value} (r : RelV x u) : ∀ {xs : List V} {us : List Value} (i : Nat), Vals xs us → Vals (xs.set i x) (us.set i u)
  | _, _, _, .nil => .nil
  | _, _, 0, .cons _ t => .cons r t
  | _, _, i + 1, .cons q t => .cons q (Vals.set r i t)
theorem Vals.append : ∀ {xs ys : List V} {us ws : List Value}, Vals xs us → Vals ys ws → Vals (xs ++ ys) (us ++ ws)
  | _, _, _, _, .nil, s => s
  | _, _, _, _, .cons r t, s => .cons r (Vals.append t s)
theorem Vals.take : ∀ {xs : List V} {us : List Value} (n : Nat), Vals xs us → Vals (xs.take n) (us.take n)
  | _, _, 0, _ => .nil
  | _, _, _ + 1, .nil => .nil
  | _, _, n + 1, .cons r t => .cons r (Vals.take n t)
theorem Vals.drop : ∀ {xs : List V} {us : List Value} (n : Nat), Vals xs us → Vals (xs.drop n) (us.drop n)
  | _, _, 0, r => r
  | _, _, _ + 1, .nil => .nil
  | _, _, n + 1, .cons _ t => Vals.drop n t
def RelO : Option V → Option Value → Prop
  | some v, some u => RelV v u
  | none, none => True
  | _, _ => False
def KV {κ : Type} : List (κ × V) → List (κ × Value) → Prop := Paired fun (p : κ × V) (q : κ × Value) => p.1 = q.1 ∧ RelV p.2 q.2

/-- a key of a dict (00_mix): an int or a text -/
def kV : Key → V
  | .inl i => .int i
  | .inr x => .str x

/-- what stands at a tracked address -/
inductive HO where
  /-- a list -/
  | lst (xs : List V)
  /-- a tuple (never changes) -/
  | tup (xs : List V)
  /-- a dict whose keys are ints and texts; one whose keys are tuples of ints and texts (the empty one is both) -/
  | dK (kvs : List (Key × V)) | dT (kvs : List (List Key × V))
  /-- a set of ints: its members, its size -/
  | set (S : Int → Bool) (n : Nat)
  /-- an instance of the class at C, its dict at dx, its attributes -/
  | ins (C dx : Addr) (fs : List (Str × V))
  /-- the dict of the instance at x -/
  | own (x : Addr)
  /-- the dict of an exception -/
  | xd (fs : List (Str × V))
  /-- a bound method, f of x -/
  | met (f x : Addr)
  /-- a range object lo, lo + 1, .. below hi -/
  | rng (lo hi : Int)
  /-- a thing that is known to the object (the script; a dict while a loop walks it): read, never written while it is so -/
  | frz (o : Obj) (u : HO)
  /-- a code object's table -/
  | tbl (ps : Array Value)
  /-- any other thing, by what is true of its one object (a def of one's own: SetO a S n := HO.ext fun h => ..) -/
  | ext (φ : Heap → Prop)

abbrev Hp := Addr → Option HO
def upd (H : Hp) (a : Addr) (o : HO) : Hp := fun b => if b = a then some o else H b
theorem upd_same {H : Hp} {a : Addr} {o : HO} : upd H a o a = some o := by unfold upd; rw [if_pos rfl]
theorem upd_ne {H : Hp} {a b : Addr} {o : HO} (h : b ≠ a) : upd H a o b = H b := by unfold upd; rw [if_neg h]
/-- two objects of different content stand apart -/
theorem ne_of {H : Hp} {a b : Addr} {o u : HO} (h : H a = some o) (h' : H b = some u) (d : o ≠ u) : a ≠ b := by
  intro e; subst e; rw [h] at h'; exact d (Option.some.inj h')
theorem ne_of_none {H : Hp} {a b : Addr} {o : HO} (h : H a = some o) (h' : H b = none) : a ≠ b := by
  intro e; subst e; rw [h] at h'; cases h'

section
variable (P : Program) (w : World)
def ObjOk (H : Hp) (h : Heap) (a : Addr) : HO → Prop
  | .lst xs => xs.length ≤ sizeLine ∧ ∃ (its : List Value) (n : Nat), Vals xs its ∧ h.get? a = some { cls := .type "list", data := .seq its.toArray n }
  | .tup xs => xs.length ≤ sizeLine ∧ ∃ its : List Value, Vals xs its ∧ IsTup h a its.toArray
  | .dK kvs => kvs.length ≤ sizeLine ∧ (a == sysModules) = false ∧ ∃ vs, KV kvs vs ∧ h.DictOf (mixKind P w) a vs
  | .dT kvs => kvs.length ≤ sizeLine ∧ (a == sysModules) = false ∧ ∃ xs : List (List Key × Addr × Value),
      Paired (fun (p : List Key × V) (q : List Key × Addr × Value) => p.1 = q.1 ∧ H q.2.1 = some (.tup (p.1.map kV)) ∧ RelV p.2 q.2.2) kvs xs ∧
      ∃ o es ep, h.get? a = some o ∧ o.ExactDict ∧ o.data = .dict es ep ∧ es.toList = xs.map (entryOfKey (tupleKind (mixKind P w))) ∧ (xs.map (·.1)).Nodup
  | .set S n => h.SetOf (intKind P w) a S n
  | .ins C dx fs => H dx = some (.own a) ∧ fs.length ≤ 1000 ∧ dx ≠ a ∧ h.get? a = some (PySem.W.instObj C dx) ∧
      ∃ mA, h.Ns1 dx mA ∧ (∀ f, RelO (fs.lookup f) (mA f)) ∧ PySem.Within mA (fs.map (·.1))
  | .own _ => ∃ o, h.get? a = some o
  | .xd fs => ∃ mA, h.Ns1 a mA ∧ ∀ f, RelO (fs.lookup f) (mA f)
  | .rng lo hi => ∃ t u v, h.get? a = some { cls := .type "range", data := .fields #[.int lo t, .int hi u, .int 1 v] }
  | .frz o u => h.get? a = some o ∧ ObjOk H h a u
  | .tbl ps => h.get? a = some { cls := .none, data := .fields ps }
  | .met f x => h.get? a = some (PySem.W.methodObj (.ref f) (.ref x))
  | .ext φ => φ h ∧ (∃ o, h.get? a = some o) ∧ ∀ h1 h2 : Heap, φ h1 → (∀ o, h1.get? a = some o → h2.get? a = some o) → φ h2
/-- the abstract heap is held -/
def HOk (H : Hp) (h : Heap) : Prop := ∀ a o, H a = some o → ObjOk P w H h a o
end

section
variable {P : Program} {w : World} {H H' : Hp} {h h' : Heap} {a : Addr} {o : HO}
theorem ObjOk.lt (x : ObjOk P w H h a o) : a < h.objs.size := by
  cases o with
  | lst xs => obtain ⟨_, _, _, _, e⟩ := x; exact Heap.lt_size e
  | tup xs => obtain ⟨_, _, _, p⟩ := x; exact p.lt
  | dK kvs => obtain ⟨_, _, _, _, o, _, _, e, _⟩ := x; exact Heap.lt_size e
  | dT kvs => obtain ⟨_, _, _, _, o, _, _, e, _⟩ := x; exact Heap.lt_size e
  | set S n => obtain ⟨o, _, _, _, e, _⟩ := x; exact Heap.lt_size e
  | ins C dx fs => obtain ⟨_, _, _, e, _⟩ := x; exact Heap.lt_size e
  | own y => obtain ⟨_, e⟩ := x; exact Heap.lt_size e
  | xd fs => obtain ⟨_, ⟨_, _, _, e, _⟩, _⟩ := x; exact Heap.lt_size e
  | rng lo hi => obtain ⟨_, _, _, e⟩ := x; exact Heap.lt_size e
  | frz ob u => obtain ⟨e, _⟩ := x; exact Heap.lt_size e
  | tbl ps => exact Heap.lt_size (show h.get? a = some _ from x)
  | met f y => exact Heap.lt_size (show h.get? a = some _ from x)
  | ext φ => obtain ⟨_, ⟨_, e⟩, _⟩ := x; exact Heap.lt_size e
theorem Paired.mapP {α β : Type} {F G : α → β → Prop} : ∀ {l₁ : List α} {l₂ : List β}, Paired F l₁ l₂ → (∀ a b, F a b → G a b) → Paired G l₁ l₂
  | _, _, .nil, _ => .nil
  | _, _, .cons r t, f => .cons (f _ _ r) (Paired.mapP t f)
/-- what an object's description leans on: its own object, its own dict, the tuples -/
theorem ObjOk.stay (x : ObjOk P w H h a o) (k : ∀ b u, (b = a ∨ H b = some (.own a)) → h.get? b = some u → h'.get? b = some u)
    (ho : ∀ b, H b = some (.own a) → H' b = some (.own a)) (ht : ∀ b xs, H b = some (.tup xs) → H' b = some (.tup xs)) : ObjOk P w H' h' a o := by
  induction o with
  | lst xs => obtain ⟨z, its, n, r, e⟩ := x; exact ⟨z, its, n, r, k _ _ (.inl rfl) e⟩
  | tup xs => obtain ⟨z, its, r, ob, e, c⟩ := x; exact ⟨z, its, r, ob, k _ _ (.inl rfl) e, c⟩
  | dK kvs => obtain ⟨z, y, vs, r, ob, es, ep, e, c⟩ := x; exact ⟨z, y, vs, r, ob, es, ep, k _ _ (.inl rfl) e, c⟩
  | dT kvs =>
    obtain ⟨z, y, xs, r, ob, es, ep, e, c⟩ := x
    exact ⟨z, y, xs, Paired.mapP r fun p q z => ⟨z.1, ht _ _ z.2.1, z.2.2⟩, ob, es, ep, k _ _ (.inl rfl) e, c⟩
  | set S n => obtain ⟨ob, es, ep, t, e, c⟩ := x; exact ⟨ob, es, ep, t, k _ _ (.inl rfl) e, c⟩
  | ins C dx fs =>
    obtain ⟨d, z, ne, e, mA, ⟨od, es, ep, e2, c⟩, r⟩ := x
    exact ⟨ho _ d, z, ne, k _ _ (.inl rfl) e, mA, ⟨od, es, ep, k _ _ (.inr d) e2, c⟩, r⟩
  | own y => obtain ⟨ob, e⟩ := x; exact ⟨ob, k _ _ (.inl rfl) e⟩
  | xd fs => obtain ⟨mA, ⟨od, es, ep, e, c⟩, r⟩ := x; exact ⟨mA, ⟨od, es, ep, k _ _ (.inl rfl) e, c⟩, r⟩
  | rng lo hi => obtain ⟨t, u, v, e⟩ := x; exact ⟨t, u, v, k _ _ (.inl rfl) e⟩
  | frz ob u ih => obtain ⟨e, q⟩ := x; exact ⟨k _ _ (.inl rfl) e, ih q⟩
  | tbl ps =>
    have e : h.get? a = some { cls := .none, data := .fields ps } := x
    show h'.get? a = some { cls := .none, data := .fields ps }
    exact k a _ (.inl rfl) e
  | met f y =>
    have e : h.get? a = some (PySem.W.methodObj (.ref f) (.ref y)) := x
    show h'.get? a = some (PySem.W.methodObj (.ref f) (.ref y))
    exact k a _ (.inl rfl) e
  | ext φ => obtain ⟨p, ⟨o, e⟩, st⟩ := x; exact ⟨st _ _ p fun o q => k _ _ (.inl rfl) q, ⟨o, k _ _ (.inl rfl) e⟩, st⟩
theorem HOk.lt (x : HOk P w H h) (e : H a = some o) : a < h.objs.size := (x a o e).lt
theorem HOk.fresh (x : HOk P w H h) (e : h.objs.size ≤ a) : H a = none := by
  cases q : H a with
  | none => rfl
  | some u => exact absurd (Nat.lt_of_lt_of_le (x.lt q) e) (Nat.lt_irrefl _)
/-- every object of the heap is kept -/
theorem HOk.kept (x : HOk P w H h) (k : ∀ b u, h.get? b = some u → h'.get? b = some u) : HOk P w H h' := fun a o e =>
  (x a o e).stay (fun b u _ q => k b u q) (fun _ q => q) fun _ _ q => q
/-- a new object is laid and tracked -/
theorem HOk.laid (x : HOk P w H h) (k : ∀ b u, h.get? b = some u → h'.get? b = some u) (hp : h.objs.size ≤ a) (new : ObjOk P w (upd H a o) h' a o) : HOk P w (upd H a o) h' := fun b u e => by
  have hn := x.fresh hp
  by_cases hb : b = a
  · subst hb; rw [upd_same] at e; cases e; exact new
  · rw [upd_ne hb] at e
    exact (x b u e).stay (fun c v _ q => k c v q) (fun c q => by rw [upd_ne (ne_of_none q hn)]; exact q) fun c xs q => by rw [upd_ne (ne_of_none q hn)]; exact q
end

/-- what may be read as u: it is u, or a known u -/
def Rd (H : Hp) (a : Addr) (u : HO) : Prop := H a = some u ∨ ∃ o, H a = some (.frz o u)
theorem Rd.of {H : Hp} {a : Addr} {u : HO} (h : H a = some u) : Rd H a u := .inl h
theorem Rd.ok {P : Program} {w : World} {H : Hp} {h : Heap} {a : Addr} {u : HO} (r : Rd H a u) (x : HOk P w H h) : ObjOk P w H h a u := by
  rcases r with r | ⟨o, r⟩
  · exact x a u r
  · obtain ⟨_, q⟩ := x a _ r
    exact q
/-- what may be written -/
def Mut : Option HO → Prop
  | some (.lst _) => True
  | some (.dK _) => True
  | some (.dT _) => True
  | some (.set _ _) => True
  | some (.ins _ _ _) => True
  | some (.ext _) => True
  | _ => False
section
variable {P : Program} {w : World} {H : Hp} {h h' : Heap} {x e : Addr} {o' : HO}
/-- the object at e is changed: x itself, or the dict of the instance x -/
theorem HOk.write (ok : HOk P w H h) (mu : Mut (H x)) (he : e = x ∨ H e = some (.own x)) (k : ∀ b u, b ≠ e → h.get? b = some u → h'.get? b = some u) (heo : ∃ u, h'.get? e = some u)
    (new : ObjOk P w (upd H x o') h' x o') : HOk P w (upd H x o') h' := fun b u q => by
  have nown : ∀ c y, H c = some (.own y) → c ≠ x := fun c y r z => by subst z; rw [r] at mu; exact mu
  have ntup : ∀ c xs, H c = some (.tup xs) → c ≠ x := fun c xs r z => by subst z; rw [r] at mu; exact mu
  by_cases hb : b = x
  · subst hb; rw [upd_same] at q; cases q; exact new
  · rw [upd_ne hb] at q
    by_cases hbe : b = e
    · have q' : H b = some (.own x) := by
        rcases he with z | z
        · exact absurd (hbe.trans z) hb
        · rw [hbe]; exact z
      rw [q] at q'; cases q'
      obtain ⟨v, hv⟩ := heo
      exact ⟨v, by rw [hbe]; exact hv⟩
    · refine (ok b u q).stay (fun c v hc r => k c v ?_ r) (fun c r => by rw [upd_ne (nown c b r)]; exact r) fun c xs r => by rw [upd_ne (ntup c xs r)]; exact r
      rcases hc with rfl | hc
      · exact hbe
      · rintro rfl
        rcases he with z | z
        · exact nown c b hc z
        · rw [hc] at z; cases z; exact hb rfl
end

/-! ### kept unless tracked; of the frames at fs (the callers') the slots may change (an exception that passes writes there); of the records at ex (iterators) nothing is said -/
structure Un (fs ex : List Addr) (H H' : Hp) (h h' : Heap) : Prop where
  keep : ∀ b o, h.get? b = some o → H b = none → b ∉ fs → b ∉ ex → h'.get? b = some o
  slot : ∀ b o, h.get? b = some o → H b = none → b ∈ fs → b ∉ ex → ∃ sl, h'.get? b = some { o with slots := sl }
  free : ∀ b o, h.get? b = some o → H b = none → b ∉ ex → H' b = none
  there : ∀ b o, h.get? b = some o → b ∉ ex → ∃ o', h'.get? b = some o'
  tups : ∀ b xs, H b = some (.tup xs) → H' b = some (.tup xs)
  frzs : ∀ b o u, H b = some (.frz o u) → H' b = some (.frz o u)
  tbls : ∀ b ps, H b = some (.tbl ps) → ∃ more, H' b = some (.tbl (ps ++ more))
section
variable {fs fs' ex ex' : List Addr} {H H1 H2 : Hp} {h h1 h2 h' : Heap} {a x e : Addr} {o : HO}
theorem Un.any (u : Un fs ex H H1 h h1) {b : Addr} {ob : Obj} (q : h.get? b = some ob) (n : H b = none) (hx : b ∉ ex) : ∃ sl, h1.get? b = some { ob with slots := sl } := by
  by_cases hb : b ∈ fs
  · exact u.slot b ob q n hb hx
  · exact ⟨ob.slots, u.keep b ob q n hb hx⟩
theorem Un.trans (a : Un fs ex H H1 h h1) (b : Un fs ex H1 H2 h1 h2) : Un fs ex H H2 h h2 where
  keep := fun c ob q n hc hx => b.keep c ob (a.keep c ob q n hc hx) (a.free c ob q n hx) hc hx
  slot := fun c ob q n hc hx => by
    obtain ⟨sl, e1⟩ := a.slot c ob q n hc hx
    obtain ⟨sl', e2⟩ := b.slot c _ e1 (a.free c ob q n hx) hc hx
    exact ⟨sl', e2⟩
  free := fun c ob q n hx => by
    obtain ⟨o', e1⟩ := a.there c ob q hx
    exact b.free c o' e1 (a.free c ob q n hx) hx
  there := fun c ob q hx => by
    obtain ⟨o', e1⟩ := a.there c ob q hx
    exact b.there c o' e1 hx
  tups := fun c xs q => b.tups c xs (a.tups c xs q)
  frzs := fun c ob xs q => b.frzs c ob xs (a.frzs c ob xs q)
  tbls := fun c ps q => by
    obtain ⟨m1, e1⟩ := a.tbls c ps q
    obtain ⟨m2, e2⟩ := b.tbls c _ e1
    exact ⟨m1 ++ m2, by rw [e2, Array.append_assoc]⟩
theorem Un.kept (k : ∀ b u, h.get? b = some u → h'.get? b = some u) : Un fs ex H H h h' :=
  ⟨fun b ob q _ _ _ => k b ob q, fun b ob q _ _ _ => ⟨ob.slots, k b ob q⟩, fun _ _ _ n _ => n, fun b ob q _ => ⟨ob, k b ob q⟩, fun _ _ q => q, fun _ _ _ q => q, fun _ ps q => ⟨#[], by rw [q]; simp⟩⟩
theorem Un.refl : Un fs ex H H h h := Un.kept fun _ _ q => q
theorem Un.laid (k : ∀ b u, h.get? b = some u → h'.get? b = some u) (hp : h.objs.size ≤ a) (hn : H a = none) : Un fs ex H (upd H a o) h h' where
  keep := fun b u q _ _ _ => k b u q
  slot := fun b u q _ _ _ => ⟨u.slots, k b u q⟩
  free := fun b u q n _ => by rw [upd_ne (Nat.ne_of_lt (Nat.lt_of_lt_of_le (Heap.lt_size q) hp))]; exact n
  there := fun b u q _ => ⟨u, k b u q⟩
  tups := fun b xs q => by rw [upd_ne (ne_of_none q hn)]; exact q
  frzs := fun b u xs q => by rw [upd_ne (ne_of_none q hn)]; exact q
  tbls := fun b ps q => ⟨#[], by rw [upd_ne (ne_of_none q hn), q]; simp⟩
theorem Un.write (mu : Mut (H x)) (he : e = x ∨ H e = some (.own x)) (k : ∀ b u, b ≠ e → h.get? b = some u → h'.get? b = some u) (heo : ∃ u, h'.get? e = some u) : Un fs ex H (upd H x o) h h' := by
  have hx : ∀ b, H b = none → b ≠ x := fun b n z => by subst z; rw [n] at mu; exact mu
  have hb : ∀ b, H b = none → b ≠ e := fun b n z => by
    subst z
    rcases he with r | r
    · exact hx b n r
    · rw [n] at r; cases r
  have hm : ∀ b u, H b = some u → ¬ Mut (some u) → b ≠ x := fun b u q nm z => by subst z; rw [q] at mu; exact nm mu
  refine ⟨fun b u q n _ _ => k b u (hb b n) q, fun b u q n _ _ => ⟨u.slots, k b u (hb b n) q⟩, fun b u q n _ => by rw [upd_ne (hx b n)]; exact n, fun b u q _ => ?_,
    fun b xs q => by rw [upd_ne (hm b _ q fun z => z)]; exact q, fun b u xs q => by rw [upd_ne (hm b _ q fun z => z)]; exact q, fun b ps q => ⟨#[], by rw [upd_ne (hm b _ q fun z => z), q]; simp⟩⟩
  by_cases hbe : b = e
  · subst hbe; exact heo
  · exact ⟨u, k b u hbe q⟩
theorem Un.mono (u : Un fs ex H H1 h h1) (hs : ∀ b ∈ fs, b ∈ fs') (hx : ∀ b ∈ ex, b ∈ ex') : Un fs' ex' H H1 h h1 :=
  ⟨fun b ob q n hb he => u.keep b ob q n (fun z => hb (hs b z)) fun z => he (hx b z), fun _ _ q n _ he => u.any q n fun z => he (hx _ z), fun b ob q n he => u.free b ob q n fun z => he (hx b z), fun b ob q he => u.there b ob q fun z => he (hx b z), u.tups, u.frzs, u.tbls⟩
end

/-! ### the heap without what is tracked -/
def trk (h : Heap) (H : Hp) : List Addr := (List.range h.objs.size).filter fun a => (H a).isSome
def hidT (h : Heap) (H : Hp) : Heap := PySem.W.hideAll h (trk h H)
theorem hidT_size (h : Heap) (H : Hp) : (hidT h H).objs.size = h.objs.size := PySem.W.hideAll_size _ _
theorem hidT_get {h : Heap} {H : Hp} {b : Addr} {o : Obj} (e : h.get? b = some o) (n : H b = none) : (hidT h H).get? b = some o :=
  PySem.W.hideAll_get _ e fun hm => by
    have q : (H b).isSome = true := (List.mem_filter.mp hm).2
    rw [n] at q; simp at q
theorem of_hidT {h : Heap} {H : Hp} {b : Addr} {o : Obj} (e : (hidT h H).get? b = some o) : h.get? b = some o ∧ H b = none := by
  have e' : h.get? b = some o := PySem.W.of_hideAll (trk h H) e
  refine ⟨e', ?_⟩
  cases q : H b with
  | none => rfl
  | some x =>
    have hm : b ∈ trk h H := List.mem_filter.mpr ⟨List.mem_range.mpr (Heap.lt_size e'), by simp [q]⟩
    have z : (hidT h H).get? b = none := PySem.W.hideAll_none (trk h H) hm
    rw [z] at e; cases e

/-! ### OpenK's ledger, filled with every new object but one -/
def allNews (g h : Heap) (L : Addr) : List (Addr × Obj) := (List.range h.objs.size).filterMap fun a => if a = L ∨ (g.get? a).isSome = true then none else (h.get? a).map fun o => (a, o)
def rest (g h : Heap) (L d : Addr) : List (Addr × Obj) := (allNews g h L).filter fun p => decide (p.1 ≠ d)
end L2

namespace L2
open PySem PySem.Spec PyProof.Rows

/-- the module's facts, over the base: the heap at the law's entry without what is tracked there -/
structure Mod (K : PySem.W.Frag) (mg : Str → Option Value) (base : Heap) : Prop where
  kin : K.In base
  glob : base.Ns mainGlobals mg
  blt : ∃ mb, base.Ns builtinsNs mb ∧ ∀ x : Str, x ≠ "__name__" → mb x = bootBuiltins x
  nolimit : base.NoLimit

/-- the context: a def's body (or a comprehension's block) running. base: fixed through the whole law; s₀, H₀: the entry; outer: the frames whose slots others may change (a def's callers); stack: all frames that run;
   ex: iterators that were made ahead of the entry and are walked here (a comprehension's); fn: the names whose cells were made at the entry (a def: all; a comprehension's block: its own); calm: not within an except suite; pn: pins that every state bears; xe: what is wanted of an exception that leaves the code -/
structure Cx where
  prog : Program
  w : World
  K : PySem.W.Frag
  mg : Str → Option Value
  base : Heap
  A : Around
  N : List Str
  s₀ : Shared
  H₀ : Hp
  env : Env
  outer : List Env
  stack : List Env
  ex : List Addr
  fn : Str → Bool
  calm : Bool
  pn : List (Addr × Obj)
  xe : Value → Shared → Prop
/-- the callers' frames -/
def frs (l : List Env) : List Addr := l.filterMap (·.frame)
abbrev Cx.fs (X : Cx) : List Addr := frs X.outer

def Vis (sc : Scope) (x : Str) : Prop := sc.names.lookup x = some .local ∨ sc.names.lookup x = some .cell ∨ sc.names.lookup x = some .free
def Loc (sc : Scope) (x : Str) : Prop := sc.names.lookup x = some .local ∨ sc.names.lookup x = some .cell
def Look (env : Env) (h : Heap) (m : Str → Option Value) (x : Str) (u : Value) : Prop :=
  (env.kindOf x = some .local ∧ m x = some u) ∨ ((env.kindOf x = some .cell ∨ env.kindOf x = some .free) ∧ ∃ c, env.cells.lookup x = some c ∧ h.IsCell c (some u))

structure Cx.Ok (X : Cx) : Prop where
  mod : Mod X.K X.mg X.base
  kind : X.env.scope.kind = .function
  glob : X.env.globals = mainGlobals
  blt : X.env.builtins = builtinsNs
  above : X.s₀.heap.objs.size ≤ X.env.locals
  inj : ∀ x y c, X.env.cells.lookup x = some c → X.env.cells.lookup y = some c → x = y
  has : ∀ x, (X.env.kindOf x = some .cell ∨ X.env.kindOf x = some .free) → ∃ c, X.env.cells.lookup x = some c
  cab : ∀ x c, X.fn x = true → X.env.cells.lookup x = some c → X.s₀.heap.objs.size ≤ c
  hd : X.calm = true → X.A.handled = none
  frames : X.A.frames = some X.stack
  stk : X.stack = X.outer ∨ (X.stack = X.env :: X.outer ∧ X.env.frame = some X.env.locals)
  exf : ∀ b ∈ X.ex, b ≠ X.env.locals ∧ ∀ x c, X.env.cells.lookup x = some c → c ≠ b
  bs : ∀ b o, X.base.get? b = some o → X.s₀.heap.get? b = some o ∧ X.H₀ b = none
  bsz : X.base.objs.size ≤ X.s₀.heap.objs.size
  noex : ∀ b o, X.base.get? b = some o → b ∉ X.ex
  exfs : ∀ b ∈ X.ex, b ∉ X.fs
  funs : X.s₀.heap.FunFrames X.base X.outer
  frf : ∀ b ∈ X.fs, X.H₀ b = none

structure Inv (X : Cx) (pins : List (Addr × Obj)) (σ : List (Option V)) (H : Hp) (s : Shared) : Prop where
  ok : X.Ok
  os : s.os = X.s₀.os
  bare : AllBare s.gens
  base : Un X.fs X.ex X.H₀ H X.s₀.heap s.heap
  loc : ∃ m, s.heap.Ns X.env.locals m ∧ ∀ (i : Nat) (x : Str) (v : V), X.N[i]? = some x → σ[i]? = some (some v) → Vis X.env.scope x → ∃ u, RelV v u ∧ Look X.env s.heap m x u
  cell : ∀ x c, X.env.cells.lookup x = some c → ∃ v, s.heap.IsCell c v
  free : H X.env.locals = none
  freeC : ∀ x c, X.env.cells.lookup x = some c → H c = none
  pin : ∀ p ∈ X.pn ++ pins, s.heap.get? p.1 = some p.2 ∧ H p.1 = none ∧ p.1 ≠ X.env.locals ∧ p.1 ∉ X.fs ∧ ∀ v, p.2.data ≠ .cell v
  hok : HOk X.prog X.w H s.heap
  len : σ.length = X.N.length

section
variable {X : Cx} {pins : List (Addr × Obj)} {σ : List (Option V)} {H H' : Hp} {s : Shared} {h' : Heap}

theorem Cx.Ok.nofr (ok : X.Ok) {b : Addr} {o : Obj} (e : X.base.get? b = some o) : b ∉ X.fs := fun hb => by
  have := (ok.funs.mem hb).1
  rw [e] at this; cases this
theorem Inv.bs (I : Inv X pins σ H s) : ∀ b o, X.base.get? b = some o → s.heap.get? b = some o ∧ H b = none := fun b o e =>
  ⟨I.base.keep b o (I.ok.bs b o e).1 (I.ok.bs b o e).2 (I.ok.nofr e) (I.ok.noex b o e), I.base.free b o (I.ok.bs b o e).1 (I.ok.bs b o e).2 (I.ok.noex b o e)⟩
theorem Inv.bk (I : Inv X pins σ H s) : ∀ b o, X.base.get? b = some o → s.heap.get? b = some o := fun b o e => (I.bs b o e).1
theorem Inv.mod (I : Inv X pins σ H s) : Mod X.K X.mg X.base := I.ok.mod
theorem Inv.kIn (I : Inv X pins σ H s) : X.K.In s.heap := I.ok.mod.kin.keeps I.bk
theorem Inv.nolimit (I : Inv X pins σ H s) : s.heap.NoLimit := I.ok.mod.nolimit.keeps I.bk
/-- the frame over the base: for OpenK's rules (K.In X.base is I.mod.kin) -/
theorem Inv.fr (I : Inv X pins σ H s) : ∃ m, Fr X.base X.env.locals s.heap m :=
  let ⟨m, hn, _⟩ := I.loc
  ⟨m, hn, I.bk, Nat.le_trans I.ok.bsz I.ok.above⟩
theorem Inv.lt (I : Inv X pins σ H s) : X.env.locals < s.heap.objs.size := let ⟨_, hn, _⟩ := I.loc; hn.lt
theorem Inv.sz (I : Inv X pins σ H s) : X.s₀.heap.objs.size ≤ s.heap.objs.size := Nat.le_trans I.ok.above (Nat.le_of_lt I.lt)
theorem Inv.nofs (I : Inv X pins σ H s) {a : Addr} (h : s.heap.objs.size ≤ a) : a ∉ X.fs := fun hb => by
  obtain ⟨_, o, ho, _⟩ := I.ok.funs.mem hb
  exact absurd (Nat.lt_of_lt_of_le (Heap.lt_size ho) (Nat.le_trans I.sz h)) (Nat.lt_irrefl _)
theorem Inv.cne (I : Inv X pins σ H s) : ∀ x c, X.env.cells.lookup x = some c → c ≠ X.env.locals := fun x c e z => by
  obtain ⟨v, o, ho, hd⟩ := I.cell x c e
  obtain ⟨m, ⟨o', es, ep, ho', hd', _⟩, _⟩ := I.loc
  rw [z, ho'] at ho; cases ho; rw [hd'] at hd; cases hd
theorem Inv.funs (I : Inv X pins σ H s) : s.heap.FunFrames X.base X.outer := by
  have all : ∀ (l : List Env), (∀ b ∈ frs l, b ∈ X.fs) → X.s₀.heap.FunFrames X.base l → s.heap.FunFrames X.base l := by
    intro l
    induction l with
    | nil => intro _ _; trivial
    | cons env r ih =>
      intro hs hl
      obtain ⟨hk, ⟨L, o, hf, hn, ho, hd⟩, hr⟩ := hl
      have hL : L ∈ X.fs := hs L (by unfold frs; rw [List.filterMap_cons, hf]; exact List.mem_cons_self)
      obtain ⟨sl, e⟩ := I.base.slot L o ho (I.ok.frf L hL) hL fun z => I.ok.exfs L z hL
      exact ⟨hk, ⟨L, _, hf, hn, e, hd⟩, ih (fun b hb => hs b (by unfold frs; rw [List.filterMap_cons, hf]; exact List.mem_cons_of_mem _ hb)) hr⟩
  exact all X.outer (fun _ hb => hb) I.ok.funs

/-- the frames that run, for a call -/
theorem Inv.stack (I : Inv X pins σ H s) : s.heap.FunFrames X.base X.stack := by
  rcases I.ok.stk with e | ⟨e, hf⟩
  · rw [e]; exact I.funs
  · rw [e]
    obtain ⟨m, hn, _⟩ := I.loc
    refine .cons (by rw [I.ok.kind]; decide) hf hn ?_ I.funs
    exact Heap.get?_none_of_le (Nat.le_trans I.ok.bsz I.ok.above)
theorem Inv.stkSub (I : Inv X pins σ H s) : ∀ b ∈ frs X.stack, b ∈ X.env.locals :: X.fs := fun b hb => by
  rcases I.ok.stk with e | ⟨e, hf⟩
  · rw [e] at hb; exact List.mem_cons_of_mem _ hb
  · rw [e] at hb
    unfold frs at hb
    rw [List.filterMap_cons, hf] at hb
    exact hb
theorem Inv.stkFree (I : Inv X pins σ H s) : ∀ b ∈ frs X.stack, H b = none := fun b hb => by
  rcases List.mem_cons.mp (I.stkSub b hb) with e | hb
  · rw [e]; exact I.free
  · obtain ⟨_, o, ho, _⟩ := I.ok.funs.mem hb
    exact I.base.free b o ho (I.ok.frf b hb) fun z => I.ok.exfs b z hb

/-- THE STEP: the untracked objects but the frame and the records at ch are kept (the callers' frames up to slots), the frame's map is kept, the new abstract heap is held -/
theorem Inv.step {g' : Array GenState} {t' : Nat} {d' : Drawn} {ch : List Addr} (I : Inv X pins σ H s)
    (hch : ∀ b ∈ ch, (b ∈ X.ex ∨ X.s₀.heap.objs.size ≤ b) ∧ b ≠ X.env.locals ∧ (∀ x c, X.env.cells.lookup x = some c → c ≠ b) ∧ ∀ p ∈ X.pn ++ pins, p.1 ≠ b)
    (keep : ∀ b o, b ≠ X.env.locals → b ∉ X.fs → b ∉ ch → s.heap.get? b = some o → H b = none → h'.get? b = some o)
    (slot : ∀ b o, b ≠ X.env.locals → b ∈ X.fs → b ∉ ch → s.heap.get? b = some o → H b = none → ∃ sl, h'.get? b = some { o with slots := sl }) (free : ∀ b o, b ∉ ch → s.heap.get? b = some o → H b = none → H' b = none)
    (there : ∀ b o, b ∉ ch → s.heap.get? b = some o → ∃ o', h'.get? b = some o')
    (tups : ∀ b xs, H b = some (.tup xs) → H' b = some (.tup xs)) (frzs : ∀ b o u, H b = some (.frz o u) → H' b = some (.frz o u)) (tbls : ∀ b ps, H b = some (.tbl ps) → ∃ more, H' b = some (.tbl (ps ++ more)))
    (ns : ∀ m, s.heap.Ns X.env.locals m → h'.Ns X.env.locals m) (hok : HOk X.prog X.w H' h') (hg : AllBare g') :
    Inv X pins σ H' { s with heap := h', gens := g', drawn := d', toks := t' } := by
  have neL : ∀ b o, X.s₀.heap.get? b = some o → b ≠ X.env.locals := fun b o e => Nat.ne_of_lt (Nat.lt_of_lt_of_le (Heap.lt_size e) I.ok.above)
  have neC : ∀ b o, X.s₀.heap.get? b = some o → b ∉ X.ex → b ∉ ch := fun b o e hx hb => by
    rcases (hch b hb).1 with z | z
    · exact hx z
    · exact absurd (Nat.lt_of_lt_of_le (Heap.lt_size e) z) (Nat.lt_irrefl _)
  have cellK : ∀ x c, X.env.cells.lookup x = some c → ∀ v, s.heap.IsCell c v → h'.IsCell c v := fun x c e v ⟨o, ho, hd⟩ => by
    have nch : c ∉ ch := fun z => (hch c z).2.2.1 x c e rfl
    by_cases hc : c ∈ X.fs
    · obtain ⟨sl, q⟩ := slot c o (I.cne x c e) hc nch ho (I.freeC x c e)
      exact ⟨_, q, hd⟩
    · exact ⟨o, keep c o (I.cne x c e) hc nch ho (I.freeC x c e), hd⟩
  refine ⟨I.ok, I.os, hg, ⟨fun b o e n hb hx => ?_, fun b o e n hb hx => ?_, fun b o e n hx => ?_, fun b o e hx => ?_, fun b xs e => tups b xs (I.base.tups b xs e), fun b o xs e => frzs b o xs (I.base.frzs b o xs e), fun b ps e => ?_⟩, ?_, fun x c e => ?_, ?_, fun x c e => ?_, fun p hp => ?_, hok, I.len⟩
  · exact keep b o (neL b o e) hb (neC b o e hx) (I.base.keep b o e n hb hx) (I.base.free b o e n hx)
  · obtain ⟨sl, e1⟩ := I.base.slot b o e n hb hx
    obtain ⟨sl', e2⟩ := slot b _ (neL b o e) hb (neC b o e hx) e1 (I.base.free b o e n hx)
    exact ⟨sl', e2⟩
  · obtain ⟨o', e1⟩ := I.base.there b o e hx
    exact free b o' (neC b o e hx) e1 (I.base.free b o e n hx)
  · obtain ⟨o', e1⟩ := I.base.there b o e hx
    exact there b o' (neC b o e hx) e1
  · obtain ⟨m1, e1⟩ := I.base.tbls b ps e
    obtain ⟨m2, e2⟩ := tbls b _ e1
    exact ⟨m1 ++ m2, by rw [e2, Array.append_assoc]⟩
  · obtain ⟨m, hn, hl⟩ := I.loc
    refine ⟨m, ns m hn, fun i x v e1 e2 e3 => ?_⟩
    obtain ⟨u, r, l⟩ := hl i x v e1 e2 e3
    refine ⟨u, r, ?_⟩
    rcases l with l | ⟨k, c, e, z⟩
    · exact .inl l
    · exact .inr ⟨k, c, e, cellK x c e _ z⟩
  · obtain ⟨v, z⟩ := I.cell x c e
    exact ⟨v, cellK x c e v z⟩
  · obtain ⟨m, ⟨o, _, _, ho, _⟩, _⟩ := I.loc
    exact free _ o (fun z => (hch _ z).2.1 rfl) ho I.free
  · obtain ⟨v, o, ho, hd⟩ := I.cell x c e
    exact free c o (fun z => (hch c z).2.2.1 x c e rfl) ho (I.freeC x c e)
  · obtain ⟨e, n, ne, nf, d⟩ := I.pin p hp
    have nch : p.1 ∉ ch := fun z => (hch p.1 z).2.2.2 p hp rfl
    exact ⟨keep p.1 p.2 ne nf nch e n, free p.1 p.2 nch e n, ne, nf, d⟩
/-- .. where the frame's own object is kept too -/
theorem Inv.un {t' : Nat} (I : Inv X pins σ H s) (u : Un X.fs [] H H' s.heap h') (hok : HOk X.prog X.w H' h') : Inv X pins σ H' { s with heap := h', toks := t' } := by
  obtain ⟨m, ⟨o, es, ep, ho, r⟩, _⟩ := id I.loc
  obtain ⟨sl, hL⟩ := u.any ho I.free (by simp)
  exact I.step (g' := s.gens) (d' := s.drawn) (ch := []) (fun _ z => nomatch z) (fun b o _ hb _ e n => u.keep b o e n hb (by simp)) (fun b o _ hb _ e n => u.slot b o e n hb (by simp)) (fun b o _ e n => u.free b o e n (by simp)) (fun b o _ e => u.there b o e (by simp)) u.tups u.frzs u.tbls (fun m' hm => by
    obtain ⟨o', es', ep', ho', r'⟩ := hm
    rw [ho] at ho'; cases ho'
    exact ⟨_, es', ep', hL, r'⟩) hok I.bare
/-- behind a call (or a comprehension's block): the slots of this frame may have changed too, the records at ch may have turned -/
theorem Inv.call {g' : Array GenState} {t' : Nat} {d' : Drawn} {ch : List Addr} (I : Inv X pins σ H s) (u : Un (frs X.stack) ch H H' s.heap h') (hok : HOk X.prog X.w H' h') (hg : AllBare g')
    (hch : ∀ b ∈ ch, (b ∈ X.ex ∨ X.s₀.heap.objs.size ≤ b) ∧ b ≠ X.env.locals ∧ (∀ x c, X.env.cells.lookup x = some c → c ≠ b) ∧ ∀ p ∈ X.pn ++ pins, p.1 ≠ b) :
    Inv X pins σ H' { s with heap := h', gens := g', drawn := d', toks := t' } := by
  obtain ⟨m, ⟨o, es, ep, ho, r⟩, _⟩ := id I.loc
  obtain ⟨sl, hL⟩ := u.any ho I.free fun z => (hch _ z).2.1 rfl
  exact I.step (ch := ch) hch (fun b o hL hb hc e n => u.keep b o e n (fun z => (List.mem_cons.mp (I.stkSub b z)).elim hL hb) hc) (fun b o _ _ hc e n => u.any e n hc) (fun b o hc e n => u.free b o e n hc) (fun b o hc e => u.there b o e hc) u.tups u.frzs u.tbls (fun m' hm => by
    obtain ⟨o', es', ep', ho', r'⟩ := hm
    rw [ho] at ho'; cases ho'
    exact ⟨_, es', ep', hL, r'⟩) hok hg
/-- an untracked record of ours (an iterator) has turned -/
theorem Inv.turned {t' : Nat} {it : Addr} (I : Inv X pins σ H s) (k : ∀ b o, b ≠ it → s.heap.get? b = some o → h'.get? b = some o) (hn : H it = none) (hL : it ≠ X.env.locals)
    (h1 : it ∈ X.ex ∨ X.s₀.heap.objs.size ≤ it) (h2 : ∀ x c, X.env.cells.lookup x = some c → c ≠ it) (h3 : ∀ p ∈ X.pn ++ pins, p.1 ≠ it) : Inv X pins σ H { s with heap := h', toks := t' } := by
  have nit : ∀ b u, H b = some u → b ≠ it := fun b u e z => by rw [z, hn] at e; cases e
  refine I.step (g' := s.gens) (d' := s.drawn) (ch := [it]) (fun b hb => ?_) (fun b o _ _ hc e _ => k b o (fun z => hc (by simp [z])) e) (fun b o _ _ hc e _ => ⟨o.slots, k b o (fun z => hc (by simp [z])) e⟩) (fun _ _ _ _ n => n)
    (fun b o hc e => ⟨o, k b o (fun z => hc (by simp [z])) e⟩) (fun _ _ e => e) (fun _ _ _ e => e) (fun b ps e => ⟨#[], by rw [e]; simp⟩) (fun m hm => ?_) (fun b u e => ?_) I.bare
  · have e : b = it := by simpa using hb
    subst e
    exact ⟨h1, hL, h2, h3⟩
  · obtain ⟨o, es, ep, ho, r⟩ := hm
    exact ⟨o, es, ep, k _ o (Ne.symm hL) ho, r⟩
  · refine (I.hok b u e).stay (fun c v hc q => k c v ?_ q) (fun _ q => q) fun _ _ q => q
    rcases hc with z | z
    · rw [z]; exact nit b u e
    · exact nit c _ z
theorem Inv.tok (I : Inv X pins σ H s) (t : Nat) : Inv X pins σ H { s with toks := t } := I.un (h' := s.heap) (t' := t) Un.refl I.hok
/-- all objects kept -/
theorem Inv.kept {t' : Nat} (I : Inv X pins σ H s) (k : ∀ b u, s.heap.get? b = some u → h'.get? b = some u) : Inv X pins σ H { s with heap := h', toks := t' } := I.un (Un.kept k) (I.hok.kept k)
/-- a new object laid and tracked -/
theorem Inv.laid {a : Addr} {o : HO} {t' : Nat} (I : Inv X pins σ H s) (k : ∀ b u, s.heap.get? b = some u → h'.get? b = some u) (hp : s.heap.objs.size ≤ a) (new : ObjOk X.prog X.w (upd H a o) h' a o) :
    Inv X pins σ (upd H a o) { s with heap := h', toks := t' } := I.un (Un.laid k hp (I.hok.fresh hp)) (I.hok.laid k hp new)
/-- an object written -/
theorem Inv.write {x e : Addr} {o : HO} {t' : Nat} (I : Inv X pins σ H s) (mu : Mut (H x)) (he : e = x ∨ H e = some (.own x)) (k : ∀ b u, b ≠ e → s.heap.get? b = some u → h'.get? b = some u) (heo : ∃ u, h'.get? e = some u)
    (new : ObjOk X.prog X.w (upd H x o) h' x o) : Inv X pins σ (upd H x o) { s with heap := h', toks := t' } := I.un (Un.write mu he k heo) (I.hok.write mu he k heo new)
theorem Inv.pins_of {pins' : List (Addr × Obj)} (I : Inv X pins σ H s) (h : ∀ p ∈ pins', s.heap.get? p.1 = some p.2 ∧ H p.1 = none ∧ p.1 ≠ X.env.locals ∧ p.1 ∉ X.fs ∧ ∀ v, p.2.data ≠ .cell v) : Inv X pins' σ H s :=
  ⟨I.ok, I.os, I.bare, I.base, I.loc, I.cell, I.free, I.freeC, fun p hp => (List.mem_append.mp hp).elim (fun z => I.pin p (List.mem_append_left _ z)) (h p), I.hok, I.len⟩

theorem nodup_ix {N : List Str} (hN : N.Nodup) {i j : Nat} {x : Str} (a : N[i]? = some x) (b : N[j]? = some x) : i = j := by
  obtain ⟨h1, e1⟩ := List.getElem?_eq_some_iff.mp a
  obtain ⟨h2, e2⟩ := List.getElem?_eq_some_iff.mp b
  exact (List.getElem_inj hN).mp (e1.trans e2.symm)

/-- a name is stored; what changed -/
theorem store_ok2 {M : Model} {A : Around} {E : Value → Shared → Prop} {i : Nat} {x : Str} {v : V} {u : Value} {Q : Unit → Shared → Prop} (I : Inv X pins σ H s) (hN : X.N.Nodup) (hi : X.N[i]? = some x) (hx : Loc X.env.scope x) (r : RelV v u)
    (h : ∀ s', Inv X pins (σ.set i (some v)) H s' → (∃ a, Heap.SameBut a s.heap s'.heap ∧ (a = X.env.locals ∨ X.env.cells.lookup x = some a)) → Q () s') (hf : X.fn x = true ∨ X.env.scope.names.lookup x = some .local := by first | exact .inl rfl | exact .inr rfl | assumption) : wpAny M A (storeName X.env x u) Q E s := by
  obtain ⟨m, hn, hl⟩ := id I.loc
  have hcls : (X.env.scope.kind == .class || (X.env.scope.kind == .module && X.env.locals != X.env.globals)) = false := by rw [I.ok.kind]; rfl
  have hiσ : i < σ.length := by rw [I.len]; exact (List.getElem?_eq_some_iff.mp hi).1
  have cne := I.cne
  have tracked : ∀ {a : Addr} {h' : Heap}, (∃ o, s.heap.get? a = some o ∧ H a = none) → Heap.SameBut a s.heap h' → HOk X.prog X.w H h' := fun {a h'} ha hs b ob e => by
    obtain ⟨_, _, hfree⟩ := ha
    refine (I.hok b ob e).stay (fun c w' hc q => (hs.2 c ?_).trans q) (fun _ q => q) fun _ _ q => q
    rintro rfl
    rcases hc with rfl | hc
    · rw [hfree] at e; cases e
    · rw [hfree] at hc; cases hc
  rcases hx with hk | hk
  · refine wpAny_storeName_local hk hn (fun h' hn' hs => ?_) hcls
    obtain ⟨oL, _, _, hoL, _⟩ := id hn
    refine h _ ⟨I.ok, I.os, I.bare, ⟨fun b o e n hb hx => ?_, fun b o e n hb hx => ?_, I.base.free, fun b o e hx => ?_, I.base.tups, I.base.frzs, I.base.tbls⟩, ⟨_, hn', fun j y v' e1 e2 e3 => ?_⟩, fun y c e => ?_, I.free, I.freeC, fun p hp => ?_, tracked ⟨oL, hoL, I.free⟩ hs, by simpa using I.len⟩ ⟨_, hs, .inl rfl⟩
    · exact (hs.2 b (Nat.ne_of_lt (Nat.lt_of_lt_of_le (Heap.lt_size e) I.ok.above))).trans (I.base.keep b o e n hb hx)
    · obtain ⟨sl, e1⟩ := I.base.slot b o e n hb hx
      exact ⟨sl, (hs.2 b (Nat.ne_of_lt (Nat.lt_of_lt_of_le (Heap.lt_size e) I.ok.above))).trans e1⟩
    · obtain ⟨o', e1⟩ := I.base.there b o e hx
      exact ⟨o', (hs.2 b (Nat.ne_of_lt (Nat.lt_of_lt_of_le (Heap.lt_size e) I.ok.above))).trans e1⟩
    · by_cases hj : j = i
      · subst hj
        rw [hi] at e1; cases e1
        rw [List.getElem?_set_self hiσ] at e2
        cases e2
        exact ⟨u, r, .inl ⟨hk, by simp⟩⟩
      · rw [List.getElem?_set_ne (Ne.symm hj)] at e2
        obtain ⟨u', r', q⟩ := hl j y v' e1 e2 e3
        refine ⟨u', r', ?_⟩
        rcases q with ⟨k, e⟩ | ⟨k, c, e, z⟩
        · refine .inl ⟨k, ?_⟩
          have : y ≠ x := fun e => hj (nodup_ix hN e1 (e ▸ hi))
          simp [this, e]
        · exact .inr ⟨k, c, e, z.sameBut hs (cne y c e)⟩
    · obtain ⟨w', z⟩ := I.cell y c e
      exact ⟨w', z.sameBut hs (cne y c e)⟩
    · obtain ⟨e, n, ne, nf, d⟩ := I.pin p hp
      exact ⟨(hs.2 p.1 ne).trans e, n, ne, nf, d⟩
  · have hfn : X.fn x = true := by
      rcases hf with z | z
      · exact z
      · rw [z] at hk; cases hk
    obtain ⟨c, hc⟩ := I.ok.has x (.inl hk)
    obtain ⟨w', z⟩ := I.cell x c hc
    refine wpAny_storeName_cell I.ok.kind hk hc z (fun h' hc' hs => ?_)
    obtain ⟨oc, hoc, hocd⟩ := id z
    refine h { s with heap := h' } ⟨I.ok, I.os, I.bare, ⟨fun b o e n hb hx => ?_, fun b o e n hb hx => ?_, I.base.free, fun b o e hx => ?_, I.base.tups, I.base.frzs, I.base.tbls⟩, ⟨m, hn.sameBut hs (Ne.symm (cne x c hc)), fun j y v' e1 e2 e3 => ?_⟩, fun y c' e => ?_, I.free, I.freeC, fun p hp => ?_, tracked ⟨oc, hoc, I.freeC x c hc⟩ hs, by simpa using I.len⟩ ⟨c, hs, .inr hc⟩
    · exact (hs.2 b (Nat.ne_of_lt (Nat.lt_of_lt_of_le (Heap.lt_size e) (I.ok.cab x c hfn hc)))).trans (I.base.keep b o e n hb hx)
    · obtain ⟨sl, e1⟩ := I.base.slot b o e n hb hx
      exact ⟨sl, (hs.2 b (Nat.ne_of_lt (Nat.lt_of_lt_of_le (Heap.lt_size e) (I.ok.cab x c hfn hc)))).trans e1⟩
    · obtain ⟨o', e1⟩ := I.base.there b o e hx
      exact ⟨o', (hs.2 b (Nat.ne_of_lt (Nat.lt_of_lt_of_le (Heap.lt_size e) (I.ok.cab x c hfn hc)))).trans e1⟩
    · by_cases hj : j = i
      · subst hj
        rw [hi] at e1; cases e1
        rw [List.getElem?_set_self hiσ] at e2
        cases e2
        exact ⟨u, r, .inr ⟨.inl hk, c, hc, hc'⟩⟩
      · rw [List.getElem?_set_ne (Ne.symm hj)] at e2
        obtain ⟨u', r', q⟩ := hl j y v' e1 e2 e3
        refine ⟨u', r', ?_⟩
        rcases q with q | ⟨k, c', e, z'⟩
        · exact .inl q
        · refine .inr ⟨k, c', e, z'.sameBut hs ?_⟩
          rintro rfl
          exact hj (nodup_ix hN e1 (I.ok.inj _ _ _ e hc ▸ hi))
    · by_cases hcc : c' = c
      · subst hcc; exact ⟨_, hc'⟩
      · obtain ⟨w2, z2⟩ := I.cell y c' e
        exact ⟨w2, z2.sameBut hs hcc⟩
    · obtain ⟨e, n, ne, nf, d⟩ := I.pin p hp
      refine ⟨(hs.2 p.1 ?_).trans e, n, ne, nf, d⟩
      intro q
      rw [q, hoc] at e
      have q' : oc = p.2 := Option.some.inj e
      exact d w' (by rw [← q']; exact hocd)
theorem store_ok {M : Model} {A : Around} {E : Value → Shared → Prop} {i : Nat} {x : Str} {v : V} {u : Value} {Q : Unit → Shared → Prop} (I : Inv X pins σ H s) (hN : X.N.Nodup) (hi : X.N[i]? = some x) (hx : Loc X.env.scope x) (r : RelV v u)
    (h : ∀ s', Inv X pins (σ.set i (some v)) H s' → Q () s') (hf : X.fn x = true ∨ X.env.scope.names.lookup x = some .local := by first | exact .inl rfl | exact .inr rfl | assumption) : wpAny M A (storeName X.env x u) Q E s :=
  store_ok2 I hN hi hx r (fun s' I' _ => h s' I') hf
/-- behind a call or a block, the state as it is -/
theorem Inv.call' {s' : Shared} {ch : List Addr} (I : Inv X pins σ H s) (ho : s'.os = s.os) (u : Un (frs X.stack) ch H H' s.heap s'.heap) (hok : HOk X.prog X.w H' s'.heap) (hg : AllBare s'.gens)
    (hch : ∀ b ∈ ch, (b ∈ X.ex ∨ X.s₀.heap.objs.size ≤ b) ∧ b ≠ X.env.locals ∧ (∀ x c, X.env.cells.lookup x = some c → c ≠ b) ∧ ∀ p ∈ X.pn ++ pins, p.1 ≠ b) : Inv X pins σ H' s' := by
  obtain ⟨h', g', d', t', o'⟩ := s'
  have e : o' = s.os := ho
  subst e
  exact I.call (g' := g') (t' := t') (d' := d') u hok hg hch
end

/-! ### the judgements -/
/-- an exception: its class, its own dict's address (where it has one), the abstract heap behind it -/
abbrev XK := Value → Option Addr → Hp → Prop
abbrev St := List (Option V)
abbrev VK := V → Hp → Prop
/-- an expression's reading; a test's; an argument list's -/
abbrev TE := St → Hp → VK → Prop
abbrev TT := St → Hp → (Bool → Hp → Prop) → Prop
abbrev TA := St → Hp → (List V → Hp → Prop) → Prop
/-- what is wanted behind a statement -/
structure Ends where
  nx : St → Hp → Prop
  rt : VK
  bk : St → Hp → Prop := fun _ _ => False
  ct : St → Hp → Prop := fun _ _ => False
abbrev TS := Ends → St → Hp → Prop

def EP (X : Cx) (pins : List (Addr × Obj)) (σ : St) (Q : VK) (u : Value) (s' : Shared) : Prop := ∃ v H', Inv X pins σ H' s' ∧ RelV v u ∧ Q v H'
def TP (X : Cx) (pins : List (Addr × Obj)) (σ : St) (Q : Bool → Hp → Prop) (b : Bool) (s' : Shared) : Prop := ∃ H', Inv X pins σ H' s' ∧ Q b H'
def AP (X : Cx) (pins : List (Addr × Obj)) (σ : St) (Q : List V → Hp → Prop) (us : List Value) (s' : Shared) : Prop := ∃ vs H', Inv X pins σ H' s' ∧ Vals vs us ∧ Q vs H'
def SP (X : Cx) (pins : List (Addr × Obj)) (D : Ends) (f : Flow) (s' : Shared) : Prop :=
  match f with
  | .next => ∃ σ' H', Inv X pins σ' H' s' ∧ D.nx σ' H'
  | .brk => ∃ σ' H', Inv X pins σ' H' s' ∧ D.bk σ' H'
  | .cont => ∃ σ' H', Inv X pins σ' H' s' ∧ D.ct σ' H'
  | .ret u => ∃ v σ' H', Inv X pins σ' H' s' ∧ RelV v u ∧ D.rt v H'

def PE (X : Cx) (e : Expr) (t : TE) : Prop :=
  ∀ (pins : List (Addr × Obj)) (s : Shared) (σ : St) (H : Hp) (Q : VK), Inv X pins σ H s → t σ H Q → wpAny (model X.prog X.w) X.A (eval e X.env) (EP X pins σ Q) X.xe s
def PT (X : Cx) (e : Expr) (t : TT) : Prop :=
  ∀ (pins : List (Addr × Obj)) (s : Shared) (σ : St) (H : Hp) (Q : Bool → Hp → Prop), Inv X pins σ H s → t σ H Q → wpAny (model X.prog X.w) X.A (isTrue e X.env (eval e X.env)) (TP X pins σ Q) X.xe s
/-- a test whatever its 'whole' is (and, or) -/
def PW (X : Cx) (e : Expr) (t : TT) : Prop :=
  ∀ (whole : Sem Value) (pins : List (Addr × Obj)) (s : Shared) (σ : St) (H : Hp) (Q : Bool → Hp → Prop), Inv X pins σ H s → t σ H Q → wpAny (model X.prog X.w) X.A (isTrue e X.env whole) (TP X pins σ Q) X.xe s
theorem PW.pt {X : Cx} {e : Expr} {t : TT} (h : PW X e t) : PT X e t := h _
/-- an argument list (no star), from the left -/
def PA (X : Cx) (es : List Expr) (t : TA) : Prop :=
  ∀ (pos : Pos) (pins : List (Addr × Obj)) (s : Shared) (σ : St) (H : Hp) (Q : List V → Hp → Prop), Inv X pins σ H s → t σ H Q → wpAny (model X.prog X.w) X.A (spliced (backTo pos (starEach es X.env))) (AP X pins σ Q) X.xe s
def PS (X : Cx) (st : Stmt) (t : TS) : Prop :=
  ∀ (pins : List (Addr × Obj)) (s : Shared) (σ : St) (H : Hp) (D : Ends), Inv X pins σ H s → t D σ H → wpAny (model X.prog X.w) X.A (exec st X.env) (SP X pins D) X.xe s
def PSs (X : Cx) (st : List Stmt) (t : TS) : Prop :=
  ∀ (pins : List (Addr × Obj)) (s : Shared) (σ : St) (H : Hp) (D : Ends), Inv X pins σ H s → t D σ H → wpAny (model X.prog X.w) X.A (execs st X.env) (SP X pins D) X.xe s
/-- weaken the end -/
theorem thn {α : Type} {t : Sem α} {Q Q' : α → Shared → Prop} {M : Model} {A : Around} {E : Value → Shared → Prop} {s : Shared} (h : wpAny M A t Q E s) (hQ : ∀ a s, Q a s → Q' a s) : wpAny M A t Q' E s := wpAny_mono h hQ fun _ _ x => x
end L2

namespace L2
open PySem PySem.Spec PyProof.Rows
section
variable {X : Cx}

/-! ### names and constants -/
def tVar (i : Nat) : TE := fun σ H Q => ∃ v, σ[i]? = some (some v) ∧ Q v H
def tC (v : V) : TE := fun _ H Q => Q v H
theorem pe_var {i : Nat} {x : Str} {pos : Pos} (hN : X.N[i]? = some x) (hv : Vis X.env.scope x) (hd : (x == ("__debug__" : Str)) = false := by decide) (hcd : (x == ("__classdict__" : Str)) = false := by decide) : PE X (.Name x pos) (tVar i) := by
  intro pins s σ H Q I h
  obtain ⟨v, e, h⟩ := h
  obtain ⟨m, hn, hl⟩ := I.loc
  obtain ⟨u, r, l⟩ := hl i x v hN e hv
  have fin : EP X pins σ Q u s := ⟨v, H, I, r, h⟩
  rcases l with ⟨hk, hm⟩ | ⟨hk, c, hc, hcell⟩
  · exact wpAny_Name (wpAny_loadName_local I.ok.kind hk hn hm fin) hd
  · rcases hk with hk | hk
    · exact wpAny_Name (wpAny_loadName_cell I.ok.kind hk hc hcell fin) hd
    · exact wpAny_Name (wpAny_loadName_free I.ok.kind hk hc hcell fin hcd) hd
theorem pe_int {i j pos} : PE X (.Constant (.int i) j pos) (tC (.int i)) := fun _ _ _ H _ I h => wpAny_Constant_int ⟨.int i, H, I.tok _, ⟨_, rfl⟩, h⟩
theorem pe_bl {b j pos} : PE X (.Constant (.bool b) j pos) (tC (.bl b)) := fun _ _ _ H _ I h => Constant_bool ⟨.bl b, H, I, rfl, h⟩
theorem pe_non {j pos} : PE X (.Constant .none j pos) (tC .non) := fun _ _ _ H _ I h => Constant_none ⟨.non, H, I, rfl, h⟩
theorem pe_str {x j pos} : PE X (.Constant (.str x) j pos) (tC (.str x)) := fun _ _ _ H _ I h => Calls.Constant_str ⟨.str x, H, I.tok _, ⟨_, rfl⟩, h⟩

/-- a global name of the def -/
def Gl (X : Cx) (x : Str) : Prop := X.env.kindOf x = some .globalImplicit
theorem ld_glob {E : Value → Shared → Prop} {pins : List (Addr × Obj)} {s : Shared} {σ : St} {H : Hp} {x : Str} {u : Value} {pos : Pos} {Q : Value → Shared → Prop} (I : Inv X pins σ H s) (hg : Gl X x) (hm : X.mg x = some u) (h : Q u s)
    (hd : (x == ("__debug__" : Str)) = false := by decide) : wpAny (model X.prog X.w) X.A (eval (.Name x pos) X.env) Q E s :=
  Calls.Name_function_global I.ok.kind hg (Calls.loadGlobal_global (by rw [I.ok.glob]; exact I.mod.glob.keeps I.bk) hm h) hd
theorem ld_blt {E : Value → Shared → Prop} {pins : List (Addr × Obj)} {s : Shared} {σ : St} {H : Hp} {x : Str} {u : Value} {pos : Pos} {Q : Value → Shared → Prop} (I : Inv X pins σ H s) (hg : Gl X x) (hm : X.mg x = none) (hv : bootBuiltins x = some u) (h : Q u s)
    (hn : x ≠ "__name__" := by decide) (hd : (x == ("__debug__" : Str)) = false := by decide) : wpAny (model X.prog X.w) X.A (eval (.Name x pos) X.env) Q E s := by
  obtain ⟨mb, h1, h2⟩ := I.mod.blt
  exact Calls.Name_function_global I.ok.kind hg (Calls.loadGlobal_builtin (by rw [I.ok.glob]; exact I.mod.glob.keeps I.bk) hm (by rw [I.ok.blt]; exact h1.keeps I.bk) ((h2 x hn).trans hv) h) hd
/-- a module's constant, a class, a function, as a value -/
theorem pe_glob {x : Str} {v : V} {u : Value} {pos : Pos} (hg : Gl X x) (hm : X.mg x = some u) (r : RelV v u) (hd : (x == ("__debug__" : Str)) = false := by decide) : PE X (.Name x pos) (tC v) :=
  fun _ _ _ H _ I h => ld_glob I hg hm ⟨v, H, I, r, h⟩ hd
theorem pe_bltn {x : Str} {v : V} {u : Value} {pos : Pos} (hg : Gl X x) (hm : X.mg x = none) (hv : bootBuiltins x = some u) (r : RelV v u) (hn : x ≠ "__name__" := by decide) (hd : (x == ("__debug__" : Str)) = false := by decide) : PE X (.Name x pos) (tC v) :=
  fun _ _ _ H _ I h => ld_blt I hg hm hv ⟨v, H, I, r, h⟩ hn hd

/-! ### arithmetic -/
/-- two ints -/
def t2I (ta tb : TE) (k : Int → Int → Hp → Prop) : St → Hp → Prop := fun σ H => ta σ H fun x H1 => tb σ H1 fun y H2 => ∃ i j, x = .int i ∧ y = .int j ∧ k i j H2
def tAdd (ta tb : TE) : TE := fun σ H Q => t2I ta tb (fun i j H2 => Q (.int (i + j)) H2) σ H
def tSub (ta tb : TE) : TE := fun σ H Q => t2I ta tb (fun i j H2 => Q (.int (i - j)) H2) σ H
/-- the left factor below 2^64 -/
def tMul (ta tb : TE) : TE := fun σ H Q => t2I ta tb (fun i j H2 => (-(2 ^ 64) < i ∧ i < 2 ^ 64) ∧ Q (.int (i * j)) H2) σ H
variable {a b : Expr} {ta tb : TE} {pos : Pos}
/-! ### comparisons -/
def PC (X : Cx) (op : CmpOp) (a b : Expr) (t : TE) : Prop :=
  ∀ (pins : List (Addr × Obj)) (s : Shared) (σ : St) (H : Hp) (Q : VK), Inv X pins σ H s → t σ H Q →
    wpAny (model X.prog X.w) X.A (eval a X.env) (fun v s₁ => wpAny (model X.prog X.w) X.A (eval b X.env) (fun u s₂ => wpAny (model X.prog X.w) X.A (compareOp op v u) (EP X pins σ Q) X.xe s₂) X.xe s₁) X.xe s
def tCmp (p : Int → Int → Bool) (ta tb : TE) : TE := fun σ H Q => t2I ta tb (fun i j H2 => Q (.bl (p i j)) H2) σ H
abbrev tLt : TE → TE → TE := tCmp fun i j => decide (i < j)
abbrev tLe : TE → TE → TE := tCmp fun i j => decide (i ≤ j)
abbrev tGt : TE → TE → TE := tCmp fun i j => decide (j < i)
abbrev tGe : TE → TE → TE := tCmp fun i j => decide (j ≤ i)
abbrev tEqI : TE → TE → TE := tCmp fun i j => decide (i = j)
abbrev tNeI : TE → TE → TE := tCmp fun i j => !decide (i = j)
/-- is None -/
def tIsN (ta : TE) : TE := fun σ H Q => ta σ H fun x H1 => Q (.bl (decide (x = .non))) H1
def tNotN (ta : TE) : TE := fun σ H Q => ta σ H fun x H1 => Q (.bl (!decide (x = .non))) H1
/-- a comparison as a value, as a test -/
def tB (t : TE) : TT := fun σ H Q => t σ H fun x H1 => ∃ c, x = .bl c ∧ Q c H1
/-- an expression whose value is a bool, as a test -/
theorem pt_val {e : Expr} {t : TE} (h : PE X e t) (he : ∀ whole, isTrue e X.env whole = (do let v ← whole; standAt e.pos; holding [v] (truthy v)) := by intro _; rfl) : PT X e (tB t) := by
  intro pins s σ H Q I hw
  refine isTrue_plain (thn (h pins s σ H _ I hw) fun v s1 ⟨x, H1, I1, r1, q1⟩ => ?_) (he _)
  obtain ⟨d, rfl, q⟩ := q1
  cases r1
  exact wpAny_truthy_bool ⟨H1, I1, q⟩

/-! ### and, or, not -/
variable {tA tB' : TT} {rest : List Expr}
def tAnd (t u : TT) : TT := fun σ H Q => t σ H fun c H1 => if c = true then u σ H1 Q else Q false H1
def tOr (t u : TT) : TT := fun σ H Q => t σ H fun c H1 => if c = true then Q true H1 else u σ H1 Q
def tNot (t : TT) : TT := fun σ H Q => t σ H fun c H1 => Q (!c) H1
theorem pw_and1 (ha : PT X a tA) : PW X (.BoolOp .And [a] pos) tA := by
  intro wh pins s σ H Q I h
  refine isTrue_and (thn (ha pins s σ H Q I h) fun c s1 e => ?_)
  cases c with
  | true => exact isTrue_and_nil e
  | false => exact e
theorem pw_or1 (ha : PT X a tA) : PW X (.BoolOp .Or [a] pos) tA := by
  intro wh pins s σ H Q I h
  refine isTrue_or (thn (ha pins s σ H Q I h) fun c s1 e => ?_)
  cases c with
  | false => exact isTrue_or_nil e
  | true => exact e
theorem pw_and (ha : PT X a tA) (hb : PW X (.BoolOp .And (b :: rest) pos) tB') : PW X (.BoolOp .And (a :: b :: rest) pos) (tAnd tA tB') := by
  intro wh pins s σ H Q I h
  refine isTrue_and (thn (ha pins s σ H _ I h) fun c s1 ⟨H1, I1, q1⟩ => ?_)
  cases c with
  | true => exact hb wh pins s1 σ H1 Q I1 q1
  | false => exact ⟨H1, I1, q1⟩
theorem pw_or (ha : PT X a tA) (hb : PW X (.BoolOp .Or (b :: rest) pos) tB') : PW X (.BoolOp .Or (a :: b :: rest) pos) (tOr tA tB') := by
  intro wh pins s σ H Q I h
  refine isTrue_or (thn (ha pins s σ H _ I h) fun c s1 ⟨H1, I1, q1⟩ => ?_)
  cases c with
  | true => exact ⟨H1, I1, q1⟩
  | false => exact hb wh pins s1 σ H1 Q I1 q1
theorem pt_not (ha : PT X a tA) : PT X (.UnaryOp .Not a pos) (tNot tA) := by
  intro pins s σ H Q I h
  exact isTrue_not (ha pins s σ H (fun c H1 => Q (!c) H1) I h)
/-- .. as values (bools) -/
def tAndV (ta tb : TE) : TE := fun σ H Q => ta σ H fun x H1 => ∃ c, x = .bl c ∧ if c = true then tb σ H1 Q else Q (.bl false) H1
def tOrV (ta tb : TE) : TE := fun σ H Q => ta σ H fun x H1 => ∃ c, x = .bl c ∧ if c = true then Q (.bl true) H1 else tb σ H1 Q
def tNotV (ta : TE) : TE := fun σ H Q => ta σ H fun x H1 => ∃ c, x = .bl c ∧ Q (.bl (!c)) H1
theorem pe_one {op} {t : TE} (h : PE X a t) : PE X (.BoolOp op [a] pos) t := fun pins s σ H Q I hw => BoolOp_one (h pins s σ H Q I hw)
theorem pe_and (ha : PE X a ta) (hb : PE X (.BoolOp .And (b :: rest) pos) tb) : PE X (.BoolOp .And (a :: b :: rest) pos) (tAndV ta tb) := by
  intro pins s σ H Q I h
  refine BoolOp_and (thn (ha pins s σ H _ I h) fun v s1 ⟨x, H1, I1, r1, q1⟩ => ?_)
  obtain ⟨c, rfl, q1⟩ := q1
  cases r1
  refine wpAny_truthy_bool ?_
  cases c with
  | true => exact hb pins s1 σ H1 Q I1 q1
  | false => exact ⟨.bl false, H1, I1, rfl, q1⟩
theorem pe_not (ha : PE X a ta) : PE X (.UnaryOp .Not a pos) (tNotV ta) := by
  intro pins s σ H Q I h
  refine UnaryOp_ (thn (ha pins s σ H _ I h) fun v s1 ⟨x, H1, I1, r1, q1⟩ => ?_)
  obtain ⟨c, rfl, q1⟩ := q1
  cases r1
  exact not_of (wpAny_truthy_bool ⟨.bl (!c), H1, I1, rfl, q1⟩)
/-- a if t else b -/
def tIf (t : TT) (ta tb : TE) : TE := fun σ H Q => t σ H fun c H1 => if c = true then ta σ H1 Q else tb σ H1 Q
theorem pe_ifExp {c : Expr} (hc : PT X c tA) (ha : PE X a ta) (hb : PE X b tb) : PE X (.IfExp c a b pos) (tIf tA ta tb) := by
  intro pins s σ H Q I h
  refine wpAny_IfExp (thn (hc pins s σ H _ I h) fun d s1 ⟨H1, I1, q1⟩ => ?_)
  cases d with
  | true => exact ha pins s1 σ H1 Q I1 q1
  | false => exact hb pins s1 σ H1 Q I1 q1
end
end L2

namespace L2
open PySem PySem.Spec PyProof.Rows

/-! ### a list, a tuple that is read: tracked, frozen, or an object of the module -/
def SqL (K : PySem.W.Frag) (H : Hp) (a : Addr) (xs : List V) : Prop :=
  Rd H a (.lst xs) ∨
    ∃ (o : Obj) (its : Array Value) (n : Nat), K.lookup a = some o ∧ o.cls = .type "list" ∧ o.dict = none ∧ o.data = .seq its n ∧ its.size ≤ sizeLine ∧ Vals xs its.toList
def SqT (K : PySem.W.Frag) (H : Hp) (a : Addr) (xs : List V) : Prop :=
  Rd H a (.tup xs) ∨
    ∃ (o : Obj) (its : Array Value) (n : Nat), K.lookup a = some o ∧ o.cls = .type "tuple" ∧ o.data = .seq its n ∧ its.size ≤ sizeLine ∧ Vals xs its.toList
def absV : Value → Option V
  | .none => some .non
  | .bool b => some (.bl b)
  | .int i _ => some (.int i)
  | .str x _ => some (.str x)
  | .bytes b _ => some (.byt b)
  | .float b _ => some (.flt b)
  | .ref a => some (.ref a)
  | .type n => some (.ty n)
  | _ => none
theorem RelV.abs {x : V} {u : Value} (r : RelV x u) : absV u = some x := by
  cases x with
  | non => cases r; rfl
  | bl _ => cases r; rfl
  | int _ => obtain ⟨t, rfl⟩ := r; rfl
  | str _ => obtain ⟨t, rfl⟩ := r; rfl
  | byt _ => obtain ⟨t, rfl⟩ := r; rfl
  | flt _ => obtain ⟨t, rfl⟩ := r; rfl
  | ref _ => cases r; rfl
  | ty _ => cases r; rfl
theorem RelV.inj {x y : V} {u : Value} (r : RelV x u) (q : RelV y u) : x = y := Option.some.inj (r.abs.symm.trans q.abs)
theorem Vals.inj : ∀ {xs ys : List V} {us : List Value}, Vals xs us → Vals ys us → xs = ys
  | _, _, _, .nil, .nil => rfl
  | _, _, _, .cons r t, .cons r' t' => by rw [r.inj r', Vals.inj t t']
section
variable {X : Cx} {pins : List (Addr × Obj)} {σ : St} {H : Hp} {s : Shared} {a : Addr} {xs ys : List V}
theorem SqL.of {K : PySem.W.Frag} (h : H a = some (.lst xs)) : SqL K H a xs := .inl (.inl h)
theorem SqT.of {K : PySem.W.Frag} (h : H a = some (.tup xs)) : SqT K H a xs := .inl (.inl h)
theorem Inv.list (I : Inv X pins σ H s) (h : SqL X.K H a xs) : ∃ its : List Value, Vals xs its ∧ PlainL s.heap a its.toArray ∧ xs.length ≤ sizeLine := by
  rcases h with h | ⟨o, its, n, hk, hc, hd, hs, hz, r⟩
  · obtain ⟨z, its, n, r, e⟩ := h.ok I.hok
    exact ⟨its, r, ⟨_, n, e, rfl, rfl, rfl⟩, z⟩
  · refine ⟨its.toList, r, ⟨o, n, I.kIn a o hk, hc, hd, by simpa using hs⟩, ?_⟩
    have e := r.length
    simp only [Array.length_toList] at e
    omega
theorem Inv.tuple (I : Inv X pins σ H s) (h : SqT X.K H a xs) : ∃ its : List Value, Vals xs its ∧ IsTup s.heap a its.toArray ∧ xs.length ≤ sizeLine := by
  rcases h with h | ⟨o, its, n, hk, hc, hs, hz, r⟩
  · obtain ⟨z, its, r, p⟩ := h.ok I.hok
    exact ⟨its, r, p, z⟩
  · refine ⟨its.toList, r, ⟨o, I.kIn a o hk, hc, n, by simpa using hs⟩, ?_⟩
    have e := r.length
    simp only [Array.length_toList] at e
    omega
theorem Inv.list_inj (I : Inv X pins σ H s) (h : SqL X.K H a xs) (h' : SqL X.K H a ys) : xs = ys := by
  obtain ⟨its, r, ⟨o, n, e, _, _, d⟩, _⟩ := I.list h
  obtain ⟨its', r', ⟨o', n', e', _, _, d'⟩, _⟩ := I.list h'
  rw [e] at e'; cases e'
  rw [d] at d'
  injection d' with d1 _
  have : its = its' := by simpa using congrArg Array.toList d1
  subst this
  exact r.inj r'
theorem Inv.tuple_inj (I : Inv X pins σ H s) (h : SqT X.K H a xs) (h' : SqT X.K H a ys) : xs = ys := by
  obtain ⟨its, r, ⟨o, e, _, n, d⟩, _⟩ := I.tuple h
  obtain ⟨its', r', ⟨o', e', _, n', d'⟩, _⟩ := I.tuple h'
  rw [e] at e'; cases e'
  rw [d] at d'
  injection d' with d1 _
  have : its = its' := by simpa using congrArg Array.toList d1
  subst this
  exact r.inj r'
end

/-! ### another wish about exceptions -/
abbrev Cx.wish (X : Cx) (E : Value → Shared → Prop) : Cx := { X with xe := E }
/-- no exception leaves -/
abbrev Cx.nox (X : Cx) : Cx := X.wish fun _ _ => False
theorem Cx.Ok.wish {X : Cx} (ok : X.Ok) (E : Value → Shared → Prop) : (X.wish E).Ok :=
  ⟨ok.mod, ok.kind, ok.glob, ok.blt, ok.above, ok.inj, ok.has, ok.cab, ok.hd, ok.frames, ok.stk, ok.exf, ok.bs, ok.bsz, ok.noex, ok.exfs, ok.funs, ok.frf⟩
theorem Cx.Ok.unwish {X : Cx} {E : Value → Shared → Prop} (ok : (X.wish E).Ok) : X.Ok :=
  ⟨ok.mod, ok.kind, ok.glob, ok.blt, ok.above, ok.inj, ok.has, ok.cab, ok.hd, ok.frames, ok.stk, ok.exf, ok.bs, ok.bsz, ok.noex, ok.exfs, ok.funs, ok.frf⟩
section
variable {X : Cx} {pins : List (Addr × Obj)} {σ : St} {H : Hp} {s : Shared} {E : Value → Shared → Prop}
theorem Inv.wish (I : Inv X pins σ H s) (E : Value → Shared → Prop) : Inv (X.wish E) pins σ H s := ⟨I.ok.wish E, I.os, I.bare, I.base, I.loc, I.cell, I.free, I.freeC, I.pin, I.hok, I.len⟩
theorem Inv.unwish (I : Inv (X.wish E) pins σ H s) : Inv X pins σ H s := ⟨I.ok.unwish, I.os, I.bare, I.base, I.loc, I.cell, I.free, I.freeC, I.pin, I.hok, I.len⟩
theorem SP.unwish {D : Ends} {f : Flow} {s' : Shared} (h : SP (X.wish E) pins D f s') : SP X pins D f s' := by
  cases f with
  | next => obtain ⟨σ', H', I, q⟩ := h; exact ⟨σ', H', I.unwish, q⟩
  | brk => obtain ⟨σ', H', I, q⟩ := h; exact ⟨σ', H', I.unwish, q⟩
  | cont => obtain ⟨σ', H', I, q⟩ := h; exact ⟨σ', H', I.unwish, q⟩
  | ret u => obtain ⟨v, σ', H', I, r, q⟩ := h; exact ⟨v, σ', H', I.unwish, r, q⟩
theorem PE.nox {e : Expr} {t : TE} (h : PE X.nox e t) : PE X e t := fun pins s σ H Q I hw =>
  wpAny_mono (h pins s σ H Q (I.wish _) hw) (fun _ _ ⟨v, H', I', r, q⟩ => ⟨v, H', I'.unwish, r, q⟩) fun _ _ z => False.elim z
theorem PT.nox {e : Expr} {t : TT} (h : PT X.nox e t) : PT X e t := fun pins s σ H Q I hw =>
  wpAny_mono (h pins s σ H Q (I.wish _) hw) (fun _ _ ⟨H', I', q⟩ => ⟨H', I'.unwish, q⟩) fun _ _ z => False.elim z
theorem PSs.nox {st : List Stmt} {t : TS} (h : PSs X.nox st t) : PSs X st t := fun pins s σ H D I hw =>
  wpAny_mono (h pins s σ H D (I.wish _) hw) (fun _ _ q => q.unwish) fun _ _ z => False.elim z
end

/-! ### blocks and small statements -/
section
variable {X : Cx} {st : Stmt} {rest : List Stmt} {t u : TS} {e : Expr} {te : TE} {pos : Pos}
def tNext : TS := fun D σ H => D.nx σ H
def tSeq (t u : TS) : TS := fun D σ H => t { D with nx := u D } σ H
theorem pss_nil : PSs X [] tNext := fun _ _ σ H _ I h => wpAny_execs_nil ⟨σ, H, I, h⟩
theorem pss_cons (h1 : PS X st t) (h2 : PSs X rest u) : PSs X (st :: rest) (tSeq t u) := by
  intro pins s σ H D I h
  refine wpAny_execs_cons (thn (h1 pins s σ H { D with nx := u D } I h) fun f s1 q => ?_)
  cases f with
  | next =>
    obtain ⟨σ', H', I', q⟩ := q
    exact h2 pins s1 σ' H' D I' q
  | ret v => exact q
  | brk => exact q
  | cont => exact q
theorem pss_one (h1 : PS X st t) : PSs X [st] t := by
  intro pins s σ H D I h
  refine wpAny_execs_cons (thn (h1 pins s σ H D I h) fun f s1 q => ?_)
  cases f with
  | next => exact wpAny_execs_nil q
  | ret v => exact q
  | brk => exact q
  | cont => exact q
def tBreak : TS := fun D σ H => D.bk σ H
def tCont : TS := fun D σ H => D.ct σ H
/-- in a def's body nothing is shown -/
theorem Inv.quiet {pins : List (Addr × Obj)} {σ : St} {H : Hp} {s : Shared} (I : Inv X pins σ H s) : interactive X.env = false := by simp [interactive, I.ok.kind]
/-- an expression whose value is dropped -/
def tDrop (te : TE) : TS := fun D σ H => te σ H fun _ H1 => D.nx σ H1
theorem ps_expr (he : PE X e te) (hs : swapsWith e none pos.line X.env = pure false := by rfl) : PS X (.Expr e pos) (tDrop te) := by
  intro pins s σ H D I h
  exact wpAny_Expr_any (thn (he pins s σ H _ I h) fun v s1 ⟨x, H1, I1, r1, q1⟩ => ⟨σ, H1, I1, q1⟩) I.quiet hs
def tRet (te : TE) : TS := fun D σ H => te σ H D.rt
theorem ps_ret (he : PE X e te) : PS X (.Return (some e) pos) (tRet te) := by
  intro pins s σ H D I h
  exact wpAny_Return_some (thn (he pins s σ H _ I h) fun v s1 ⟨x, H1, I1, r1, q1⟩ => ⟨x, σ, H1, I1, r1, q1⟩)
def tRetN : TS := fun D _ H => D.rt .non H
def tIfS (c : TT) (t u : TS) : TS := fun D σ H => c σ H fun b H1 => if b = true then t D σ H1 else u D σ H1
theorem ps_if {c : Expr} {a b : List Stmt} {tc : TT} (hc : PT X c tc) (ha : PSs X a t) (hb : PSs X b u) : PS X (.If c a b pos) (tIfS tc t u) := by
  intro pins s σ H D I h
  refine wpAny_If (thn (hc pins s σ H _ I h) fun d s1 ⟨H1, I1, q1⟩ => ?_)
  cases d with
  | true => exact ha pins s1 σ H1 D I1 q1
  | false => exact hb pins s1 σ H1 D I1 q1
/-- code that the proof never comes to -/
def tNever : TS := fun _ _ _ => False
theorem pss_never {sts : List Stmt} : PSs X sts tNever := fun _ _ _ _ _ _ h => h.elim
end

/-! ### targets -/
abbrev TG := V → St → Hp → (St → Hp → Prop) → Prop
abbrev TGs := List V → St → Hp → (St → Hp → Prop) → Prop
def PG (X : Cx) (target : Expr) (t : TG) : Prop :=
  ∀ (pins : List (Addr × Obj)) (s : Shared) (σ : St) (H : Hp) (v : V) (u : Value) (Q : St → Hp → Prop), Inv X pins σ H s → RelV v u → t v σ H Q →
    wpAny (model X.prog X.w) X.A (assign target X.env u) (fun _ s' => ∃ σ' H', Inv X pins σ' H' s' ∧ Q σ' H') X.xe s
/-- several targets, one after another -/
def PGs (X : Cx) (ts : List Expr) (t : TGs) : Prop :=
  ∀ (pins : List (Addr × Obj)) (s : Shared) (σ : St) (H : Hp) (vs : List V) (us : List Value) (Q : St → Hp → Prop), Inv X pins σ H s → Vals vs us → t vs σ H Q →
    wpAny (model X.prog X.w) X.A (assignInOrder ((assignEach ts X.env).map (·.2)) us) (fun _ s' => ∃ σ' H', Inv X pins σ' H' s' ∧ Q σ' H') X.xe s
/-- o[i] = v, by values -/
abbrev TSet := V → V → V → Hp → (Hp → Prop) → Prop
def PSet (X : Cx) (t : TSet) : Prop :=
  ∀ (pins : List (Addr × Obj)) (s : Shared) (σ : St) (H : Hp) (o i v : V) (ov iv u : Value) (Q : Hp → Prop), Inv X pins σ H s → RelV o ov → RelV i iv → RelV v u → t o i v H Q →
    wpAny (model X.prog X.w) X.A (setItem ov iv u) (fun _ s' => ∃ H', Inv X pins σ H' s' ∧ Q H') X.xe s
/-- a op= b, by values -/
abbrev TIp := V → V → Hp → VK → Prop
def PIp (X : Cx) (op : Operator) (t : TIp) : Prop :=
  ∀ (pins : List (Addr × Obj)) (s : Shared) (σ : St) (H : Hp) (x y : V) (v u : Value) (Q : VK), Inv X pins σ H s → RelV x v → RelV y u → t x y H Q →
    wpAny (model X.prog X.w) X.A (inplaceOp op v u) (EP X pins σ Q) X.xe s
section
variable {X : Cx} {pos : Pos}
def gName (i : Nat) : TG := fun v σ H Q => Q (σ.set i (some v)) H
theorem pg_name {i : Nat} {x : Str} (hN : X.N.Nodup) (hi : X.N[i]? = some x) (hx : Loc X.env.scope x) (hf : X.fn x = true ∨ X.env.scope.names.lookup x = some .local := by first | exact .inl rfl | exact .inr rfl | assumption) : PG X (.Name x pos) (gName i) := by
  intro pins s σ H v u Q I r h
  exact wpAny_assign_Name (store_ok I hN hi hx r (fun s' I' => ⟨_, H, I', h⟩) hf)
def gNil : TGs := fun vs σ H Q => vs = [] ∧ Q σ H
def gCons (t : TG) (u : TGs) : TGs := fun vs σ H Q => ∃ v r, vs = v :: r ∧ t v σ H fun σ' H' => u r σ' H' Q
/-- (a, b, ..) = a tuple of that length -/
def gTup (K : PySem.W.Frag) (n : Nat) (t : TGs) : TG := fun v σ H Q => ∃ a xs, v = .ref a ∧ SqT K H a xs ∧ xs.length = n ∧ t xs σ H Q
/-- o[i] = .. -/
def gSub (to ti : TE) (t : TSet) : TG := fun v σ H Q => to σ H fun o H1 => ti σ H1 fun i H2 => t o i v H2 fun H3 => Q σ H3
theorem pg_sub {o i : Expr} {to ti : TE} {t : TSet} (ho : PE X o to) (hi : PE X i ti) (hs : PSet X t)
    (ha : ∀ v, assign (.Subscript o i pos) X.env v = (do
      let ov ← holding [v] (eval o X.env)
      let iv ← holding [v, ov] (eval i X.env)
      standAt pos
      holding [v, ov, iv] (setItem ov iv v)
      release [v, ov, iv] []) := by intro _; rfl) : PG X (.Subscript o i pos) (gSub to ti t) := by
  intro pins s σ H v u Q I r h
  rw [ha]
  refine wpAny_bind (wpAny_holding (thn (ho pins s σ H _ I h) fun ov s1 ⟨x, H1, I1, r1, q1⟩ => ?_))
  refine wpAny_bind (wpAny_holding (thn (hi pins s1 σ H1 _ I1 q1) fun iv s2 ⟨y, H2, I2, r2, q2⟩ => ?_))
  refine wpAny_bind (wpAny_standAt (wpAny_bind (wpAny_holding (thn (hs pins s2 σ H2 x y v ov iv u _ I2 r1 r2 r q2) fun _ s3 ⟨H3, I3, q3⟩ => ?_))))
  exact wpAny_release ⟨σ, H3, I3, q3⟩
/-- target = value -/
def tAsg (te : TE) (g : TG) : TS := fun D σ H => te σ H fun x H1 => g x σ H1 D.nx
theorem ps_asg {tg e : Expr} {te : TE} {g : TG} (he : PE X e te) (hg : PG X tg g) (hs : swapsWithSole [tg] e pos.line X.env = pure false := by rfl) (hw : swappedStores [tg] e X.env = pure none := by rfl)
    (h1 : (assignEach [tg] X.env).map (·.2) = [assign tg X.env] := by rfl) : PS X (.Assign [tg] e pos) (tAsg te g) := by
  intro pins s σ H D I h
  refine wpAny_Assign_stores (thn (he pins s σ H _ I h) fun v s1 ⟨x, H1, I1, r1, q1⟩ => ?_) hs hw
  rw [h1]
  exact thn (hg pins s1 σ H1 x v _ I1 r1 q1) fun _ s2 q => q
/-- name = value -/
theorem ps_set {i : Nat} {x : Str} {e : Expr} {te : TE} {pos' : Pos} (hN : X.N.Nodup) (hi : X.N[i]? = some x) (hx : Loc X.env.scope x) (he : PE X e te) (hs : swapsWith e (some (.Name x pos')) pos.line X.env = pure false := by rfl) (hf : X.fn x = true ∨ X.env.scope.names.lookup x = some .local := by first | exact .inl rfl | exact .inr rfl | assumption) :
    PS X (.Assign [.Name x pos'] e pos) (tAsg te (gName i)) := by
  intro pins s σ H D I h
  refine wpAny_Assign_Name (thn (he pins s σ H _ I h) fun v s1 ⟨y, H1, I1, r1, q1⟩ => ?_) hs
  exact store_ok I1 hN hi hx r1 (fun s2 I2 => ⟨_, H1, I2, q1⟩) hf
/-- a, b = x, y with plain local names: stored from the right; the pair itself is not tracked (the opening rows as in PyProof/Rows/TupAssign.lean:23) -/
def tPar (i j : Nat) (ta : TA) : TS := fun D σ H => ta σ H fun vs H1 => ∃ v w, vs = [v, w] ∧ D.nx ((σ.set i (some v)).set j (some w)) H1
theorem ps_par {i j : Nat} {x y : Str} {a b : Expr} {ta : TA} {px py pt : Pos} {kt k2 pt2} (hc : X.calm = true) (hN : X.N.Nodup) (hi : X.N[i]? = some x) (hj : X.N[j]? = some y) (hij : i ≠ j)
    (hx : X.env.scope.names.lookup x = some .local) (hy : X.env.scope.names.lookup y = some .local) (ha : PA X [a, b] ta)
    (hw : swappedStores [.Tuple [.Name x px, .Name y py] kt pt] (.Tuple [a, b] k2 pt2) X.env = pure (some [x, y]))
    (hs : swapsWithSole [.Tuple [.Name x px, .Name y py] kt pt] (.Tuple [a, b] k2 pt2) pos.line X.env = pure false := by rfl) :
    PS X (.Assign [.Tuple [.Name x px, .Name y py] kt pt] (.Tuple [a, b] k2 pt2) pos) (tPar i j ta) := by
  intro pins s σ H D I h
  rw [exec_Assign_arm]
  refine wpAny_bind (wpAny_standAt ?_)
  rw [hs]
  refine wpAny_bind (wpAny_pure ?_)
  rw [if_neg (by decide)]
  refine wpAny_bind (Tuple_ (thn (ha _ pins s σ H _ I h) fun us s1 ⟨vs, H1, I1, r1, q1⟩ => ?_))
  obtain ⟨v, w, e1, q1⟩ := q1
  subst e1
  obtain ⟨u1, u2, rfl, rv, rw'⟩ : ∃ u1 u2, us = [u1, u2] ∧ RelV v u1 ∧ RelV w u2 := by
    cases r1 with
    | cons p q =>
      cases q with
      | cons p' q' =>
        cases q'
        exact ⟨_, _, rfl, p, p'⟩
  refine wpAny_newObj_type ?_ (by show 2 ≤ sizeLine; decide)
  have I2 : Inv X pins σ H1 { s1 with heap := s1.heap.push { cls := .type "tuple", data := .seq [u1, u2].toArray } } := I1.kept (t' := s1.toks) fun b o e => Heap.get?_push_of_some _ e
  rw [hw]
  refine wpAny_bind (wpAny_pure ?_)
  show wpAny (model X.prog X.w) X.A (do rule "assign.swapped-stores"; let items ← unpackItems (.ref s1.heap.objs.size) 2 none; assignInOrder [fun v => bindName X.env y v, fun v => bindName X.env x v] items.reverse; pure Flow.next) _ _ _
  refine wpAny_bind (wpAny_rule (wpAny_bind (unpackItems_tuple (items := #[u1, u2]) (I.ok.hd hc) (IsTup.new s1.heap _) fun h' hx' => ?_)))
  have I3 := I2.kept (h' := h') (t' := s1.toks) fun b o e => hx' b o (Nat.ne_of_lt (Heap.lt_size e)) e
  show wpAny _ _ (assignInOrder [fun v => bindName X.env y v, fun v => bindName X.env x v] [u2, u1] >>= fun _ => pure Flow.next) _ _ _
  refine wpAny_bind (assignInOrder_cons (wpAny_bindName (store_ok I3 hN hj (.inl hy) rw' (fun s2 I4 => ?_) (.inr hy))))
  refine assignInOrder_cons (wpAny_bindName (store_ok I4 hN hi (.inl hx) rv (fun s3 I5 => assignInOrder_nil (wpAny_pure ?_)) (.inr hx)))
  rw [List.set_comm _ _ (Ne.symm hij)] at I5
  exact ⟨_, H1, I5, q1⟩
/-- name op= e -/
def tAug (i : Nat) (te : TE) (ti : TIp) : TS := fun D σ H => ∃ x, σ[i]? = some (some x) ∧ te σ H fun y H1 => ti x y H1 fun z H2 => D.nx (σ.set i (some z)) H2
/-- o[i] op= e -/
def tAugS (to ti te : TE) (tget : V → V → Hp → VK → Prop) (tip : TIp) (tset : TSet) : TS := fun D σ H => to σ H fun o H1 => ti σ H1 fun i H2 => tget o i H2 fun x H3 => te σ H3 fun y H4 => tip x y H4 fun z H5 => tset o i z H5 fun H6 => D.nx σ H6
/-- o[i], by values -/
def PGet (X : Cx) (t : V → V → Hp → VK → Prop) : Prop :=
  ∀ (pins : List (Addr × Obj)) (s : Shared) (σ : St) (H : Hp) (o i : V) (ov iv : Value) (Q : VK), Inv X pins σ H s → RelV o ov → RelV i iv → t o i H Q →
    wpAny (model X.prog X.w) X.A (getItem ov iv) (EP X pins σ Q) X.xe s
/-- ints -/
def ipI (f : Int → Int → Int) : TIp := fun x y H Q => ∃ i j, x = .int i ∧ y = .int j ∧ Q (.int (f i j)) H
end

/-! ### while -/
section
variable {X : Cx} {pos : Pos}
/-- the invariant W with its measure -/
def tWhile (c : TT) (tb : TS) : TS := fun D σ H => ∃ W : Nat → St → Hp → Prop, (∃ m, W m σ H) ∧ ∀ m σ H, W m σ H →
  c σ H fun b H1 => if b = true then ∃ N : St → Hp → Prop, (∀ σ' H', N σ' H' → ∃ m', m' < m ∧ W m' σ' H') ∧ tb { D with nx := N, ct := N, bk := D.nx } σ H1 else D.nx σ H1
theorem ps_while {c : Expr} {body : List Stmt} {tc : TT} {tb : TS} (hp : PassesOwn (model X.prog X.w) X.A X.env X.xe) (hc : PT X c tc) (hb : PSs X body tb) : PS X (.While c body [] pos) (tWhile tc tb) := by
  intro pins s σ H D I h
  obtain ⟨W, ⟨m0, w0⟩, turn⟩ := h
  refine wpAny_While (codeAny_whileLoop (fun n s' => ∃ σ' H', Inv X pins σ' H' s' ∧ W n σ' H') ?_ m0 ⟨σ, H, I, w0⟩)
  rintro n s1 ⟨σ1, H1, I1, w1⟩
  refine wpAny_passesOwn hp (thn (hc pins s1 σ1 H1 _ I1 (turn n σ1 H1 w1)) fun b s2 ⟨H2, I2, q2⟩ => ?_)
  cases b with
  | true =>
    obtain ⟨N, hN, q2⟩ := q2
    rw [if_pos rfl]
    refine wpAny_passesOwn hp (thn (hb pins s2 σ1 H2 _ I2 q2) fun f s3 q3 => ?_)
    cases f with
    | next =>
      obtain ⟨σ3, H3, I3, n3⟩ := q3
      obtain ⟨m', hm, w3⟩ := hN σ3 H3 n3
      exact ⟨m', hm, σ3, H3, I3, w3⟩
    | cont =>
      obtain ⟨σ3, H3, I3, n3⟩ := q3
      obtain ⟨m', hm, w3⟩ := hN σ3 H3 n3
      exact ⟨m', hm, σ3, H3, I3, w3⟩
    | brk => exact q3
    | ret v => exact q3
  | false =>
    rw [if_neg Bool.false_ne_true]
    exact wpAny_execs_nil ⟨σ1, H2, I2, q2⟩
end

/-! ### what a loop or a comprehension walks -/
/-- at turn i: it yields x (the heap may grow), or it stops -/
structure It where
  go : Nat → Hp → Prop
  yld : Nat → Hp → V → Hp → Prop
  stop : Nat → Hp → Prop
/-- the iterator's own objects may turn: they are not the frame's, not pinned, younger than the entry (or a comprehension's own) -/
def FpOk (X : Cx) (pins : List (Addr × Obj)) (H : Hp) (b : Addr) : Prop :=
  H b = none ∧ b ≠ X.env.locals ∧ b ∉ X.fs ∧ (b ∈ X.ex ∨ X.s₀.heap.objs.size ≤ b) ∧ (∀ x c, X.env.cells.lookup x = some c → c ≠ b) ∧ ∀ p ∈ X.pn ++ pins, p.1 ≠ b
theorem Inv.fpOk {X : Cx} {pins : List (Addr × Obj)} {σ : St} {H H' : Hp} {s : Shared} {b : Addr} (I : Inv X pins σ H s) (hb : s.heap.objs.size ≤ b) (hn : H' b = none) : FpOk X pins H' b := by
  refine ⟨hn, Nat.ne_of_gt (Nat.lt_of_lt_of_le I.lt hb), I.nofs hb, .inr (Nat.le_trans I.sz hb), fun x c e z => ?_, fun p hp z => ?_⟩
  · obtain ⟨v, q⟩ := I.cell x c e
    exact absurd (Nat.lt_of_lt_of_le q.lt (by rw [z]; exact hb)) (Nat.lt_irrefl _)
  · exact absurd (Nat.lt_of_lt_of_le (Heap.lt_size (I.pin p hp).1) (by rw [z]; exact hb)) (Nat.lt_irrefl _)
structure Turn (P : Program) (w : World) (K : PySem.W.Frag) (tg : Expr) (J : It) (fp : List Addr) (it : Addr) (tn : Nat → Heap → Prop) : Prop where
  mem : it ∈ fp
  obj : ∀ i h, tn i h → ∀ b ∈ fp, ∃ o, h.get? b = some o ∧ ∀ v, o.data ≠ .cell v
  keep : ∀ i h h', tn i h → (∀ b ∈ fp, ∀ o, h.get? b = some o → h'.get? b = some o) → tn i h'
  item : ∀ (X : Cx), X.prog = P → X.w = w → X.K = K → X.calm = true → ∀ (i : Nat) (pins : List (Addr × Obj)) (s : Shared) (σ : St) (H : Hp) (E : Value → Shared → Prop), Inv X pins σ H s → (∀ b ∈ fp, FpOk X pins H b) → tn i s.heap → J.go i H →
    wpAny (model P w) X.A (pyNext (.ref it)) (fun r s1 => ∃ u, r = some u ∧
      wpAny (model P w) X.A (letOwnedTupleGo tg (.ref it) u) (fun _ s2 => ∃ x H', Inv X pins σ H' s2 ∧ RelV x u ∧ J.yld i H x H' ∧ tn (i + 1) s2.heap ∧ ∀ b ∈ fp, H' b = none) E s1) E s
  done : ∀ (X : Cx), X.prog = P → X.w = w → X.K = K → X.calm = true → ∀ (i : Nat) (pins : List (Addr × Obj)) (s : Shared) (σ : St) (H : Hp) (E : Value → Shared → Prop), Inv X pins σ H s → (∀ b ∈ fp, FpOk X pins H b) → tn i s.heap → J.stop i H →
    wpAny (model P w) X.A (pyNext (.ref it)) (fun r s1 => r = none ∧ Inv X pins σ H s1) E s
  self : ∀ (A : Around) (i : Nat) (s : Shared) (Q : Value → Shared → Prop) (E : Value → Shared → Prop), tn i s.heap → Q (.ref it) s → wpAny (model P w) A (pyIter (.ref it)) Q E s
abbrev TI := St → Hp → (It → Hp → Prop) → Prop
/-- an iterator has come -/
def PIE (X : Cx) (pins : List (Addr × Obj)) (σ : St) (tg : Expr) (R : It → Hp → Prop) (itv : Value) (s2 : Shared) : Prop :=
  ∃ (it : Addr) (fp : List Addr) (tn : Nat → Heap → Prop) (J : It) (H' : Hp), itv = .ref it ∧ Inv X pins σ H' s2 ∧ Turn X.prog X.w X.K tg J fp it tn ∧ tn 0 s2.heap ∧ (∀ b ∈ fp, FpOk X pins H' b) ∧ R J H'
def PI (X : Cx) (tg iter : Expr) (wi : TI) : Prop :=
  ∀ (pins : List (Addr × Obj)) (s : Shared) (σ : St) (H : Hp) (R : It → Hp → Prop), Inv X pins σ H s → wi σ H R →
    wpAny (model X.prog X.w) X.A (eval iter X.env) (fun v s1 => wpAny (model X.prog X.w) X.A (pyIter v) (PIE X pins σ tg R) X.xe s1) X.xe s

/-- the step ahead of the store is nothing for an iterator that keeps no tuple -/
theorem go_of {M : Model} {A : Around} {E : Value → Shared → Prop} {s : Shared} {tg : Expr} {it : Addr} {u : Value} {o : Obj} {n : String} {vs : Array Value} {Q : Unit → Shared → Prop} (ho : s.heap.get? it = some o) (hc : o.cls = .type n) (hd : o.data = .fields vs)
    (hn : ["enumerate", "zip", "dict_itemiterator", "dict_reverseitemiterator", "odict_iterator", "itertools.zip_longest", "itertools.pairwise"].contains n = false) (hQ : Q () s) : wpAny M A (letOwnedTupleGo tg (.ref it) u) Q E s := by
  unfold letOwnedTupleGo
  cases tg <;> first
    | exact wpAny_pure hQ
    | (cases u <;> first
        | exact wpAny_pure hQ
        | (refine wpAny_bind (wpAny_load ho ?_)
           rw [hc, hd]
           show wpAny M A (if (["enumerate", "zip", "dict_itemiterator", "dict_reverseitemiterator", "odict_iterator", "itertools.zip_longest", "itertools.pairwise"].contains n && vs[0]? == some (rawInt _)) = true then _ else _) Q E s
           rw [if_neg (by intro h; rw [hn, Bool.false_and] at h; cases h)]
           exact wpAny_pure hQ))

/-- the list at a, as it stands at each turn (a loop may append to it) -/
def Itl (K : PySem.W.Frag) (a : Addr) : It :=
  ⟨fun i H => ∃ xs x, SqL K H a xs ∧ xs[i]? = some x, fun i H x H' => H' = H ∧ ∀ xs, SqL K H a xs → xs[i]? = some x, fun i H => ∃ xs, SqL K H a xs ∧ xs.length ≤ i⟩
def Itt (K : PySem.W.Frag) (a : Addr) : It :=
  ⟨fun i H => ∃ xs x, SqT K H a xs ∧ xs[i]? = some x, fun i H x H' => H' = H ∧ ∀ xs, SqT K H a xs → xs[i]? = some x, fun i H => ∃ xs, SqT K H a xs ∧ xs.length ≤ i⟩
/-- lo, lo + 1, .. (n of them) -/
def Itr (lo : Int) (n : Nat) : It := ⟨fun i _ => i < n, fun i H x H' => H' = H ∧ x = .int (lo + i), fun i _ => n ≤ i⟩
theorem turn_list {P : Program} {w : World} {K : PySem.W.Frag} {tg : Expr} (a it : Addr) : Turn P w K tg (Itl K a) [it] it (fun i h => h.IsListIter it a i) where
  mem := by simp
  obj := fun i h st b hb => by
    have e : b = it := by simpa using hb
    subst e
    obtain ⟨o, e, c, d⟩ := st
    exact ⟨o, e, fun v z => by rw [d] at z; cases z⟩
  keep := fun i h h' st k => st.at fun o e => k it (by simp) o e
  item := by
    intro X hP hw hK hc i pins s σ H E I hf st hg
    subst hP hw hK
    obtain ⟨xs, x, hq, hx⟩ := hg
    obtain ⟨its, rv, p, hz⟩ := I.list hq
    obtain ⟨u, hu, ru⟩ := rv.get hx
    obtain ⟨f0, f1, f2, f3, f4, f5⟩ := hf it (by simp)
    refine wpAny_pyNext_list_item st p.isList (x := u) (by simpa using hu) fun h' st' sb => ?_
    have I1 : Inv X pins σ H { s with heap := h' } := I.turned (t' := s.toks) (fun b o hb e => (sb.2 b hb).trans e) f0 f1 f3 f4 f5
    obtain ⟨o, e, c, d⟩ := id st'
    exact ⟨u, rfl, go_of (s := { s with heap := h' }) e c d (by decide) ⟨x, H, I1, ru, ⟨rfl, fun ys hy => by rw [I.list_inj hy hq]; exact hx⟩, st', fun b hb => (hf b hb).1⟩⟩
  done := by
    intro X hP hw hK hc i pins s σ H E I hf st hg
    subst hP hw hK
    obtain ⟨xs, hq, hx⟩ := hg
    obtain ⟨its, rv, p, hz⟩ := I.list hq
    obtain ⟨f0, f1, f2, f3, f4, f5⟩ := hf it (by simp)
    have hl := rv.length
    exact wpAny_pyNext_list_end (I.ok.hd hc) st p.isList (by simp; omega) fun h' eb => ⟨rfl, I.turned (t' := s.toks) (fun b o hb e => eb b o hb e) f0 f1 f3 f4 f5⟩
  self := fun _ _ _ _ _ st h => wpAny_pyIter_listiter st h
theorem turn_tuple {P : Program} {w : World} {K : PySem.W.Frag} {tg : Expr} (a it : Addr) : Turn P w K tg (Itt K a) [it] it (fun i h => h.IsTupleIter it a i) where
  mem := by simp
  obj := fun i h st b hb => by
    have e : b = it := by simpa using hb
    subst e
    obtain ⟨o, e, c, d⟩ := st
    exact ⟨o, e, fun v z => by rw [d] at z; cases z⟩
  keep := fun i h h' st k => st.at fun o e => k it (by simp) o e
  item := by
    intro X hP hw hK hc i pins s σ H E I hf st hg
    subst hP hw hK
    obtain ⟨xs, x, hq, hx⟩ := hg
    obtain ⟨its, rv, p, hz⟩ := I.tuple hq
    obtain ⟨u, hu, ru⟩ := rv.get hx
    obtain ⟨f0, f1, f2, f3, f4, f5⟩ := hf it (by simp)
    refine wpAny_pyNext_tuple_item st (show s.heap.IsTuple a its.toArray from p) (x := u) (by simpa using hu) fun h' st' sb => ?_
    have I1 : Inv X pins σ H { s with heap := h' } := I.turned (t' := s.toks) (fun b o hb e => (sb.2 b hb).trans e) f0 f1 f3 f4 f5
    obtain ⟨o, e, c, d⟩ := id st'
    exact ⟨u, rfl, go_of (s := { s with heap := h' }) e c d (by decide) ⟨x, H, I1, ru, ⟨rfl, fun ys hy => by rw [I.tuple_inj hy hq]; exact hx⟩, st', fun b hb => (hf b hb).1⟩⟩
  done := by
    intro X hP hw hK hc i pins s σ H E I hf st hg
    subst hP hw hK
    obtain ⟨xs, hq, hx⟩ := hg
    obtain ⟨its, rv, p, hz⟩ := I.tuple hq
    obtain ⟨f0, f1, f2, f3, f4, f5⟩ := hf it (by simp)
    have hl := rv.length
    exact wpAny_pyNext_tuple_end (I.ok.hd hc) st (show s.heap.IsTuple a its.toArray from p) (by simp; omega) fun h' eb => ⟨rfl, I.turned (t' := s.toks) (fun b o hb e => eb b o hb e) f0 f1 f3 f4 f5⟩
  self := fun _ _ _ _ _ st h => wpAny_pyIter_tupleiter st h
theorem turn_range {P : Program} {w : World} {K : PySem.W.Frag} {tg : Expr} (it : Addr) (lo : Int) (n : Nat) : Turn P w K tg (Itr lo n) [it] it (fun i h => IsRangeIter h it (lo + (i : Nat) * 1) ((n : Int) - (i : Nat)) 1) where
  mem := by simp
  obj := fun i h st b hb => by
    have e : b = it := by simpa using hb
    subst e
    exact ⟨_, st, fun v z => by
      have z' : Data.fields _ = Data.cell v := z
      cases z'⟩
  keep := fun i h h' st k => k it (by simp) _ st
  item := by
    intro X hP hw hK hc i pins s σ H E I hf st hg
    subst hP hw hK
    obtain ⟨f0, f1, f2, f3, f4, f5⟩ := hf it (by simp)
    have W := Walks.range (prog := X.prog) (w := X.w) (I.ok.hd hc) it lo 1 n
    refine W.item i s _ _ hg st fun v h' tk hv st' kk => ?_
    obtain ⟨t, rfl⟩ := hv
    have I1 : Inv X pins σ H { s with heap := h', toks := tk } := I.turned (fun b o hb e => kk b o (by simpa using hb) e) f0 f1 f3 f4 f5
    refine ⟨_, rfl, go_of (s := { s with heap := h', toks := tk }) (n := "range_iterator") st' rfl rfl (by decide) ⟨.int (lo + i), H, I1, ⟨t, ?_⟩, ⟨rfl, rfl⟩, st', fun b hb => (hf b hb).1⟩⟩
    rw [Int.mul_one]
  done := by
    intro X hP hw hK hc i pins s σ H E I hf st hg
    subst hP hw hK
    obtain ⟨f0, f1, f2, f3, f4, f5⟩ := hf it (by simp)
    exact wpAny_pyNext_range_end (I.ok.hd hc) st (by have : n ≤ i := hg; omega) fun h' eb => ⟨rfl, I.turned (t' := s.toks) (fun b o hb e => eb b o hb e) f0 f1 f3 f4 f5⟩
  self := fun _ _ _ _ _ st h => wpAny_pyIter_rangeiter st h
end L2

namespace L2
open PySem PySem.Spec PyProof.Rows
section
variable {X : Cx} {tg : Expr}
def iList (K : PySem.W.Frag) (tl : TE) : TI := fun σ H R => tl σ H fun x H1 => ∃ a, x = .ref a ∧ (∃ xs, SqL K H1 a xs) ∧ R (Itl K a) H1
def iTup (K : PySem.W.Frag) (tl : TE) : TI := fun σ H R => tl σ H fun x H1 => ∃ a, x = .ref a ∧ (∃ xs, SqT K H1 a xs) ∧ R (Itt K a) H1
theorem pi_list {l : Expr} {tl : TE} (hl : PE X l tl) : PI X tg l (iList X.K tl) := by
  intro pins s σ H R I h
  refine thn (hl pins s σ H _ I h) fun v s1 ⟨x, H1, I1, r1, q1⟩ => ?_
  obtain ⟨a, e, ⟨xs, hq⟩, q⟩ := q1
  subst e
  cases r1
  obtain ⟨its, rv, p, hz⟩ := I1.list hq
  refine wpAny_pyIter_list p.isList ?_
  refine ⟨s1.heap.objs.size, [s1.heap.objs.size], _, _, H1, rfl, I1.kept (t' := s1.toks) fun b o e => Heap.get?_push_of_some _ e, turn_list a _, ⟨_, Heap.get?_push_size _ rfl, rfl, rfl⟩, fun b hb => ?_, q⟩
  have e : b = s1.heap.objs.size := by simpa using hb
  subst e
  exact I1.fpOk (Nat.le_refl _) (I1.hok.fresh (Nat.le_refl _))
theorem pi_tup {l : Expr} {tl : TE} (hl : PE X l tl) : PI X tg l (iTup X.K tl) := by
  intro pins s σ H R I h
  refine thn (hl pins s σ H _ I h) fun v s1 ⟨x, H1, I1, r1, q1⟩ => ?_
  obtain ⟨a, e, ⟨xs, hq⟩, q⟩ := q1
  subst e
  cases r1
  obtain ⟨its, rv, p, hz⟩ := I1.tuple hq
  refine wpAny_pyIter_tuple (show s1.heap.IsTuple a its.toArray from p) ?_
  refine ⟨s1.heap.objs.size, [s1.heap.objs.size], _, _, H1, rfl, I1.kept (t' := s1.toks) fun b o e => Heap.get?_push_of_some _ e, turn_tuple a _, ⟨_, Heap.get?_push_size _ rfl, rfl, rfl⟩, fun b hb => ?_, q⟩
  have e : b = s1.heap.objs.size := by simpa using hb
  subst e
  exact I1.fpOk (Nat.le_refl _) (I1.hok.fresh (Nat.le_refl _))
/-- a range object just made, walked -/
theorem range_it {pins : List (Addr × Obj)} {σ : St} {H : Hp} {s : Shared} {R : It → Hp → Prop} {E : Value → Shared → Prop} {lo hi : Int} {t u v : Tok} {tk : Nat} (I : Inv X pins σ H s) (h1 : -(2 ^ 62) ≤ lo) (h2 : lo < 2 ^ 62) (h3 : -(2 ^ 62) ≤ hi) (h4 : hi < 2 ^ 62)
    (q : R (Itr lo (hi - lo).toNat) H) : wpAny (model X.prog X.w) X.A (pyIter (.ref s.heap.objs.size)) (PIE X pins σ tg R) E { s with heap := s.heap.push { cls := .type "range", data := .fields #[.int lo t, .int hi u, .int 1 v] }, toks := tk } := by
  refine wpAny_pyIter_range (IsRange.new ..) (small_one h1 h2 h3 h4) ?_
  have I1 : Inv X pins σ H { s with heap := s.heap.push { cls := .type "range", data := .fields #[.int lo t, .int hi u, .int 1 v] }, toks := tk } := I.kept fun b o e => Heap.get?_push_of_some _ e
  refine ⟨(s.heap.push { cls := .type "range", data := .fields #[.int lo t, .int hi u, .int 1 v] }).objs.size, [(s.heap.push { cls := .type "range", data := .fields #[.int lo t, .int hi u, .int 1 v] }).objs.size], _, _, H, rfl,
    I1.kept (t' := tk) fun b o e => Heap.get?_push_of_some _ e, turn_range _ lo (hi - lo).toNat, ?_, fun b hb => ?_, q⟩
  · have e1 : lo + ((0 : Nat) : Int) * 1 = lo := by simp
    have e2 : (((hi - lo).toNat : Nat) : Int) - ((0 : Nat) : Int) = Builtin.Range.rangeSize lo hi 1 := by rw [rangeSize_one]; split <;> omega
    show IsRangeIter _ _ (lo + ((0 : Nat) : Int) * 1) ((((hi - lo).toNat : Nat) : Int) - ((0 : Nat) : Int)) 1
    rw [e1, e2]
    exact Heap.get?_push_size _ rfl
  · have e : b = (s.heap.push { cls := .type "range", data := .fields #[.int lo t, .int hi u, .int 1 v] }).objs.size := by simpa using hb
    subst e
    exact I1.fpOk (Nat.le_refl _) (I1.hok.fresh (Nat.le_refl _))
def iRng1 (ta : TA) : TI := fun σ H R => ta σ H fun vs H1 => ∃ j : Int, vs = [.int j] ∧ -(2 ^ 62) ≤ j ∧ j < 2 ^ 62 ∧ R (Itr 0 j.toNat) H1
def iRng2 (ta : TA) : TI := fun σ H R => ta σ H fun vs H1 => ∃ i j : Int, vs = [.int i, .int j] ∧ (-(2 ^ 62) ≤ i ∧ i < 2 ^ 62 ∧ -(2 ^ 62) ≤ j ∧ j < 2 ^ 62) ∧ R (Itr i (j - i).toNat) H1
theorem pi_range1 {a : Expr} {ta : TA} {p pos : Pos} (hg : Gl X "range") (hm : X.mg "range" = none) (ha : PA X [a] ta) (hs : starEach [a] X.env = [(false, eval a X.env)] := by rfl) : PI X tg (.Call (.Name "range" p) [a] [] pos) (iRng1 ta) := by
  intro pins s σ H R I h
  refine Call_ (ld_blt I hg hm boot_range (PyProof.Rows.callWith_type1 (thn (ha pos pins s σ H _ I h) fun us s1 ⟨vs, H1, I1, r1, q1⟩ => ?_) hs rfl))
  obtain ⟨j, e, q1, q2, q⟩ := q1
  subst e
  cases r1 with
  | cons r rr =>
    cases rr
    obtain ⟨t, rfl⟩ := r
    exact call_range_1 (range_it I1 (by omega) (by omega) q1 q2 (by simpa using q))
/-! ### for -/
/-- W: the invariant by the turn and a measure; N: what the body is to reach -/
def tFor (wi : TI) (g : TG) (tb : TS) : TS := fun D σ H => wi σ H fun J H1 => ∃ W : Nat → Nat → St → Hp → Prop, (∃ m, W 0 m σ H1) ∧ ∀ i m σ H, W i m σ H →
  (J.stop i H ∧ D.nx σ H) ∨ (J.go i H ∧ ∃ N : St → Hp → Prop, (∀ σ' H', N σ' H' → ∃ m', m' < m ∧ W (i + 1) m' σ' H') ∧ ∀ x H', J.yld i H x H' → g x σ H' fun σ2 H2 => tb { D with nx := N, ct := N, bk := D.nx } σ2 H2)
/-- the records at fp as they stand -/
def pinsAt (fp : List Addr) (h : Heap) : List (Addr × Obj) := fp.filterMap fun b => (h.get? b).map fun o => (b, o)
theorem mem_pinsAt {fp : List Addr} {h : Heap} {b : Addr} {o : Obj} (hb : b ∈ fp) (e : h.get? b = some o) : (b, o) ∈ pinsAt fp h := List.mem_filterMap.mpr ⟨b, hb, by rw [e]; rfl⟩
theorem of_pinsAt {fp : List Addr} {h : Heap} {p : Addr × Obj} (hp : p ∈ pinsAt fp h) : p.1 ∈ fp ∧ h.get? p.1 = some p.2 := by
  obtain ⟨b, hb, e⟩ := List.mem_filterMap.mp hp
  cases q : h.get? b with
  | none => rw [q] at e; cases e
  | some o =>
    rw [q] at e
    have e' : (b, o) = p := Option.some.inj e
    subst e'
    exact ⟨hb, q⟩
theorem Inv.pinned {pins : List (Addr × Obj)} {σ : St} {H : Hp} {s : Shared} {fp : List Addr} (I : Inv X pins σ H s) (hf : ∀ b ∈ fp, FpOk X pins H b) (ho : ∀ b ∈ fp, ∃ o, s.heap.get? b = some o ∧ ∀ v, o.data ≠ .cell v) : Inv X (pins ++ pinsAt fp s.heap) σ H s :=
  I.pins_of fun p hp => (List.mem_append.mp hp).elim (fun z => I.pin p (List.mem_append_right _ z)) fun z => by
    obtain ⟨hb, e⟩ := of_pinsAt z
    obtain ⟨f0, f1, f2, _⟩ := hf p.1 hb
    obtain ⟨o, e', d⟩ := ho p.1 hb
    rw [e] at e'; cases e'
    exact ⟨e, f0, f1, f2, d⟩
theorem Inv.unpinned {pins pl : List (Addr × Obj)} {σ : St} {H : Hp} {s : Shared} (I : Inv X (pins ++ pl) σ H s) : Inv X pins σ H s := I.pins_of fun p hp => I.pin p (List.mem_append_right _ (List.mem_append_left _ hp))
theorem ps_for {iter : Expr} {body : List Stmt} {wi : TI} {g : TG} {tb : TS} {pos : Pos} (hp : PassesOwn (model X.prog X.w) X.A X.env X.xe) (hc : X.calm = true) (hi : PI X tg iter wi) (hg : PG X tg g) (hb : PSs X body tb)
    (hs : ∀ x, foldedSetIterable iter X.env x = pure x := by intro _; rfl) : PS X (.For tg iter body [] pos) (tFor wi g tb) := by
  intro pins s σ H D I h
  refine wpAny_For (thn (hi pins s σ H _ I h) fun v s1 h1 => thn h1 fun itv s2 h2 => ?_) hs
  obtain ⟨it, fp, tn, J, H2, e, I2, T, st2, f2, W, ⟨m0, w0⟩, turn⟩ := h2
  subst e
  -- what stays true of the iterator's objects through the loop
  have stat : ∀ {H' : Hp}, (∀ b ∈ fp, H' b = none) → ∀ b ∈ fp, FpOk X pins H' b := fun hn b hb => ⟨hn b hb, (f2 b hb).2⟩
  refine codeAny_forLoop_any (fun n s' => ∃ i σ' H', Inv X pins σ' H' s' ∧ tn i s'.heap ∧ (∀ b ∈ fp, H' b = none) ∧ W i n σ' H') ?_ m0 ⟨0, σ, H2, I2, st2, fun b hb => (f2 b hb).1, w0⟩
  rintro n s3 ⟨i, σ3, H3, I3, st3, fr3, w3⟩
  rcases turn i n σ3 H3 w3 with ⟨stop, qn⟩ | ⟨go, N, hN, step⟩
  · refine wpAny_passesOwn hp (thn (T.done X rfl rfl rfl hc i pins s3 σ3 H3 X.xe I3 (stat fr3) st3 stop) fun r s4 ⟨hr, I4⟩ => ?_)
    subst hr
    exact wpAny_execs_nil ⟨σ3, H3, I4, qn⟩
  · refine wpAny_passesOwn hp (thn (T.item X rfl rfl rfl hc i pins s3 σ3 H3 X.xe I3 (stat fr3) st3 go) fun r s4 ⟨u, hr, h4⟩ => ?_)
    subst hr
    refine wpAny_passesOwn hp (thn h4 fun _ s5 ⟨x, H5, I5, r5, y5, st5, fr5⟩ => ?_)
    have I5' := I5.pinned (stat fr5) (T.obj _ _ st5)
    refine wpAny_passesOwn hp (thn (hg _ s5 σ3 H5 x u _ I5' r5 (step x H5 y5)) fun _ s6 ⟨σ6, H6, I6, q6⟩ => ?_)
    refine wpAny_passesOwn hp (thn (hb _ s6 σ6 H6 _ I6 q6) fun f s7 q7 => ?_)
    have again : ∀ {σ7 : St} {H7 : Hp}, Inv X (pins ++ pinsAt fp s5.heap) σ7 H7 s7 → N σ7 H7 → ∃ m, m < n ∧ ∃ i σ' H', Inv X pins σ' H' s7 ∧ tn i s7.heap ∧ (∀ b ∈ fp, H' b = none) ∧ W i m σ' H' := fun {σ7 H7} I7 n7 => by
      obtain ⟨m', hm, w7⟩ := hN σ7 H7 n7
      refine ⟨m', hm, i + 1, σ7, H7, I7.unpinned, T.keep _ _ _ st5 fun b hb o e => (I7.pin (b, o) (List.mem_append_right _ (List.mem_append_right _ (mem_pinsAt hb e)))).1, fun b hb => ?_, w7⟩
      obtain ⟨o, e, d⟩ := T.obj _ _ st5 b hb
      exact (I7.pin (b, o) (List.mem_append_right _ (List.mem_append_right _ (mem_pinsAt hb e)))).2.1
    cases f with
    | next => obtain ⟨σ7, H7, I7, n7⟩ := q7; exact again I7 n7
    | cont => obtain ⟨σ7, H7, I7, n7⟩ := q7; exact again I7 n7
    | brk => obtain ⟨σ7, H7, I7, q7⟩ := q7; exact ⟨σ7, H7, I7.unpinned, q7⟩
    | ret v => obtain ⟨x7, σ7, H7, I7, r7, q7⟩ := q7; exact ⟨x7, σ7, H7, I7.unpinned, r7, q7⟩
end

/-! ### the forms one uses -/
/-- over a list that the body leaves as it is -/
theorem for_list {K : PySem.W.Frag} {a : Addr} {xs : List V} {g : TG} {tb : TS} {D : Ends} {σ : St} {H : Hp} (Pv : Nat → St → Hp → Prop) (h0 : Pv 0 σ H) (hl : ∀ i σ H, i ≤ xs.length → Pv i σ H → SqL K H a xs)
    (hs : ∀ i x σ H, xs[i]? = some x → Pv i σ H → g x σ H fun σ2 H2 => tb { D with nx := Pv (i + 1), ct := Pv (i + 1), bk := D.nx } σ2 H2) (hd : ∀ σ H, Pv xs.length σ H → D.nx σ H) :
    ∃ W : Nat → Nat → St → Hp → Prop, (∃ m, W 0 m σ H) ∧ ∀ i m σ H, W i m σ H →
      ((Itl K a).stop i H ∧ D.nx σ H) ∨ ((Itl K a).go i H ∧ ∃ N : St → Hp → Prop, (∀ σ' H', N σ' H' → ∃ m', m' < m ∧ W (i + 1) m' σ' H') ∧ ∀ x H', (Itl K a).yld i H x H' → g x σ H' fun σ2 H2 => tb { D with nx := N, ct := N, bk := D.nx } σ2 H2) := by
  refine ⟨fun i m σ H => m = xs.length - i ∧ i ≤ xs.length ∧ Pv i σ H, ⟨xs.length, by simp, Nat.zero_le _, h0⟩, ?_⟩
  rintro i m σ H ⟨rfl, hi, p⟩
  have q := hl i σ H hi p
  by_cases hlt : i < xs.length
  · refine .inr ⟨⟨xs, xs[i], q, by simp [hlt]⟩, Pv (i + 1), fun σ' H' p' => ⟨xs.length - (i + 1), by omega, rfl, hlt, p'⟩, fun x H' y => ?_⟩
    obtain ⟨e, y⟩ := y
    subst e
    exact hs i x σ _ (y xs q) p
  · have e : i = xs.length := by omega
    subst e
    exact .inl ⟨⟨xs, q, Nat.le_refl _⟩, hd σ H p⟩
theorem for_tup {K : PySem.W.Frag} {a : Addr} {xs : List V} {g : TG} {tb : TS} {D : Ends} {σ : St} {H : Hp} (Pv : Nat → St → Hp → Prop) (h0 : Pv 0 σ H) (hl : ∀ i σ H, i ≤ xs.length → Pv i σ H → SqT K H a xs)
    (hs : ∀ i x σ H, xs[i]? = some x → Pv i σ H → g x σ H fun σ2 H2 => tb { D with nx := Pv (i + 1), ct := Pv (i + 1), bk := D.nx } σ2 H2) (hd : ∀ σ H, Pv xs.length σ H → D.nx σ H) :
    ∃ W : Nat → Nat → St → Hp → Prop, (∃ m, W 0 m σ H) ∧ ∀ i m σ H, W i m σ H →
      ((Itt K a).stop i H ∧ D.nx σ H) ∨ ((Itt K a).go i H ∧ ∃ N : St → Hp → Prop, (∀ σ' H', N σ' H' → ∃ m', m' < m ∧ W (i + 1) m' σ' H') ∧ ∀ x H', (Itt K a).yld i H x H' → g x σ H' fun σ2 H2 => tb { D with nx := N, ct := N, bk := D.nx } σ2 H2) := by
  refine ⟨fun i m σ H => m = xs.length - i ∧ i ≤ xs.length ∧ Pv i σ H, ⟨xs.length, by simp, Nat.zero_le _, h0⟩, ?_⟩
  rintro i m σ H ⟨rfl, hi, p⟩
  have q := hl i σ H hi p
  by_cases hlt : i < xs.length
  · refine .inr ⟨⟨xs, xs[i], q, by simp [hlt]⟩, Pv (i + 1), fun σ' H' p' => ⟨xs.length - (i + 1), by omega, rfl, hlt, p'⟩, fun x H' y => ?_⟩
    obtain ⟨e, y⟩ := y
    subst e
    exact hs i x σ _ (y xs q) p
  · have e : i = xs.length := by omega
    subst e
    exact .inl ⟨⟨xs, q, Nat.le_refl _⟩, hd σ H p⟩
theorem for_range {lo : Int} {n : Nat} {g : TG} {tb : TS} {D : Ends} {σ : St} {H : Hp} (Pv : Nat → St → Hp → Prop) (h0 : Pv 0 σ H)
    (hs : ∀ i σ H, i < n → Pv i σ H → g (.int (lo + i)) σ H fun σ2 H2 => tb { D with nx := Pv (i + 1), ct := Pv (i + 1), bk := D.nx } σ2 H2) (hd : ∀ σ H, Pv n σ H → D.nx σ H) :
    ∃ W : Nat → Nat → St → Hp → Prop, (∃ m, W 0 m σ H) ∧ ∀ i m σ H, W i m σ H →
      ((Itr lo n).stop i H ∧ D.nx σ H) ∨ ((Itr lo n).go i H ∧ ∃ N : St → Hp → Prop, (∀ σ' H', N σ' H' → ∃ m', m' < m ∧ W (i + 1) m' σ' H') ∧ ∀ x H', (Itr lo n).yld i H x H' → g x σ H' fun σ2 H2 => tb { D with nx := N, ct := N, bk := D.nx } σ2 H2) := by
  refine ⟨fun i m σ H => m = n - i ∧ i ≤ n ∧ Pv i σ H, ⟨n, by simp, Nat.zero_le _, h0⟩, ?_⟩
  rintro i m σ H ⟨rfl, hi, p⟩
  by_cases hlt : i < n
  · refine .inr ⟨hlt, Pv (i + 1), fun σ' H' p' => ⟨n - (i + 1), by omega, rfl, hlt, p'⟩, fun x H' y => ?_⟩
    obtain ⟨e, y⟩ := y
    subst e y
    exact hs i σ _ hlt p
  · have e : i = n := by omega
    subst e
    exact .inl ⟨Nat.le_refl _, hd σ H p⟩
end L2

namespace L2
open PySem PySem.Spec PyProof.Rows

abbrev R2 := V → V → Hp → VK → Prop
/-- a two-place operation on values: f is binaryOp op, inplaceOp op or compareOp op -/
def OpR (X : Cx) (f : Value → Value → Sem Value) (r : R2) : Prop :=
  ∀ (pins : List (Addr × Obj)) (s : Shared) (σ : St) (H : Hp) (x y : V) (v u : Value) (Q : VK), Inv X pins σ H s → RelV x v → RelV y u → r x y H Q →
    wpAny (model X.prog X.w) X.A (f v u) (EP X pins σ Q) X.xe s
/-- a one-place operation -/
def UnR (X : Cx) (f : Value → Sem Value) (r : V → Hp → VK → Prop) : Prop :=
  ∀ (pins : List (Addr × Obj)) (s : Shared) (σ : St) (H : Hp) (x : V) (v : Value) (Q : VK), Inv X pins σ H s → RelV x v → r x H Q →
    wpAny (model X.prog X.w) X.A (f v) (EP X pins σ Q) X.xe s
/-- a call of a value that is known (a builtin, a type) with values -/
def CallR (X : Cx) (f : Value) (r : List V → Hp → VK → Prop) : Prop :=
  ∀ (pins : List (Addr × Obj)) (s : Shared) (σ : St) (H : Hp) (xs : List V) (us : List Value) (Q : VK), Inv X pins σ H s → Vals xs us → r xs H Q →
    wpAny (model X.prog X.w) X.A (call f us) (EP X pins σ Q) X.xe s
/-- a value's truth -/
def TruR (X : Cx) (r : V → Hp → (Bool → Hp → Prop) → Prop) : Prop :=
  ∀ (pins : List (Addr × Obj)) (s : Shared) (σ : St) (H : Hp) (x : V) (v : Value) (Q : Bool → Hp → Prop), Inv X pins σ H s → RelV x v → r x H Q →
    wpAny (model X.prog X.w) X.A (truthy v) (TP X pins σ Q) X.xe s

def tOp (r : R2) (ta tb : TE) : TE := fun σ H Q => ta σ H fun x H1 => tb σ H1 fun y H2 => r x y H2 Q
def tUn (r : V → Hp → VK → Prop) (ta : TE) : TE := fun σ H Q => ta σ H fun x H1 => r x H1 Q
/-- ints in, under C, and a value out -/
def rI (C : Int → Int → Prop) (g : Int → Int → V) : R2 := fun x y H Q => ∃ i j, x = .int i ∧ y = .int j ∧ C i j ∧ Q (g i j) H
def rI0 (g : Int → Int → V) : R2 := fun x y H Q => ∃ i j, x = .int i ∧ y = .int j ∧ Q (g i j) H
def rU (g : Int → V) : V → Hp → VK → Prop := fun x H Q => ∃ i, x = .int i ∧ Q (g i) H

section
variable {X : Cx} {a b c : Expr} {ta tb tc : TE} {pos : Pos}

theorem binT (ha : PE X a ta) (hb : PE X b tb) {pins : List (Addr × Obj)} {s : Shared} {σ : St} {H : Hp} {R : V → V → Hp → Prop} (I : Inv X pins σ H s)
    (h : ta σ H fun x H1 => tb σ H1 fun y H2 => R x y H2) {Q : Value → Shared → Prop} {f : Value → Value → Sem Value}
    (hf : ∀ v u s2 x y H2, Inv X pins σ H2 s2 → RelV x v → RelV y u → R x y H2 → wpAny (model X.prog X.w) X.A (f v u) Q X.xe s2) :
    wpAny (model X.prog X.w) X.A (eval a X.env) (fun v s₁ => wpAny (model X.prog X.w) X.A (eval b X.env) (fun u s₂ => wpAny (model X.prog X.w) X.A (f v u) Q X.xe s₂) X.xe s₁) X.xe s := by
  refine thn (ha pins s σ H _ I h) fun v s1 ⟨x, H1, I1, r1, q1⟩ => ?_
  refine thn (hb pins s1 σ H1 _ I1 q1) fun u s2 ⟨y, H2, I2, r2, q2⟩ => ?_
  exact hf v u s2 x y H2 I2 r1 r2 q2

theorem pe_op {op : Operator} {r : R2} (ho : OpR X (binaryOp op) r) (ha : PE X a ta) (hb : PE X b tb) : PE X (.BinOp a op b pos) (tOp r ta tb) := by
  intro pins s σ H Q I h
  exact wpAny_BinOp (binT ha hb I h fun v u s2 x y H2 I2 rx ry q => ho pins s2 σ H2 x y v u Q I2 rx ry q)
theorem pe_un {op : UnaryOp} {r : V → Hp → VK → Prop} (ho : UnR X (unaryOp op) r) (ha : PE X a ta) : PE X (.UnaryOp op a pos) (tUn r ta) := by
  intro pins s σ H Q I h
  exact UnaryOp_ (thn (ha pins s σ H _ I h) fun v s1 ⟨x, H1, I1, r1, q1⟩ => ho pins s1 σ H1 x v Q I1 r1 q1)
/-! ### ints -/
theorem opI {f : Value → Value → Sem Value} {C : Int → Int → Prop} {g : Int → Int → Int}
    (rule : ∀ (i j : Int) (t u : Tok) (s : Shared) (Q : Value → Shared → Prop) (E : Value → Shared → Prop), C i j → Q (.int (g i j) s.toks) { s with toks := s.toks + 1 } → wpAny (model X.prog X.w) X.A (f (.int i t) (.int j u)) Q E s) :
    OpR X f (rI C fun i j => .int (g i j)) := by
  intro pins s σ H x y v u Q I rx ry h
  obtain ⟨i, j, rfl, rfl, hc, q⟩ := h
  obtain ⟨t, rfl⟩ := rx
  obtain ⟨t', rfl⟩ := ry
  exact rule i j t t' s _ _ hc ⟨.int (g i j), H, I.tok _, ⟨_, rfl⟩, q⟩
theorem opI0 {f : Value → Value → Sem Value} {g : Int → Int → Int}
    (rule : ∀ (i j : Int) (t u : Tok) (s : Shared) (Q : Value → Shared → Prop) (E : Value → Shared → Prop), Q (.int (g i j) s.toks) { s with toks := s.toks + 1 } → wpAny (model X.prog X.w) X.A (f (.int i t) (.int j u)) Q E s) :
    OpR X f (rI0 fun i j => .int (g i j)) := by
  intro pins s σ H x y v u Q I rx ry h
  obtain ⟨i, j, rfl, rfl, q⟩ := h
  obtain ⟨t, rfl⟩ := rx
  obtain ⟨t', rfl⟩ := ry
  exact rule i j t t' s _ _ ⟨.int (g i j), H, I.tok _, ⟨_, rfl⟩, q⟩
theorem opB0 {f : Value → Value → Sem Value} {g : Int → Int → Bool}
    (rule : ∀ (i j : Int) (t u : Tok) (s : Shared) (Q : Value → Shared → Prop) (E : Value → Shared → Prop), Q (.bool (g i j)) s → wpAny (model X.prog X.w) X.A (f (.int i t) (.int j u)) Q E s) :
    OpR X f (rI0 fun i j => .bl (g i j)) := by
  intro pins s σ H x y v u Q I rx ry h
  obtain ⟨i, j, rfl, rfl, q⟩ := h
  obtain ⟨t, rfl⟩ := rx
  obtain ⟨t', rfl⟩ := ry
  exact rule i j t t' s _ _ ⟨.bl (g i j), H, I, rfl, q⟩

def CDiv (i j : Int) : Prop := 0 < j ∧ j < 1073741824
def CDivN (i j : Int) : Prop := j ≠ 0 ∧ j.natAbs < 1073741824
def CPow (i j : Int) : Prop := 0 ≤ j ∧ j ≤ 1000000 ∧ i.natAbs < 2 ^ 64
def CMul (i j : Int) : Prop := (-(2 ^ 64) < i ∧ i < 2 ^ 64) ∨ (-(2 ^ 64) < j ∧ j < 2 ^ 64)
theorem CMul.ok {i j : Int} (h : CMul i j) : IntMulOk i j := by
  rcases h with ⟨h1, h2⟩ | ⟨h1, h2⟩
  · exact .of_left (intBits_le_64 h1 h2)
  · exact .of_right (intBits_le_64 h1 h2)
theorem op_add : OpR X (binaryOp .Add) (rI0 fun i j => .int (i + j)) := opI0 fun _ _ _ _ _ _ _ q => add_int q
theorem op_sub : OpR X (binaryOp .Sub) (rI0 fun i j => .int (i - j)) := opI0 fun _ _ _ _ _ _ _ q => sub_int q
/-- % by a positive divisor of any size -/
theorem op_mod : OpR X (binaryOp .Mod) (rI (fun _ j => 0 < j) fun i j => .int (i % j)) := opI fun i j _ _ _ _ _ hc q => by
  have h1 : (0 : Int) < j := hc
  exact mod_int' (by omega) (by rw [Int.fmod_eq_emod_of_nonneg i (by omega)]; exact q)
theorem op_pow : OpR X (binaryOp .Pow) (rI CPow fun i j => .int (i ^ j.toNat)) := opI fun _ _ _ _ _ _ _ hc q => pow_int_small hc.1 hc.2.1 hc.2.2 q
theorem unI {f : Value → Sem Value} {g : Int → Int}
    (rule : ∀ (i : Int) (t : Tok) (s : Shared) (Q : Value → Shared → Prop) (E : Value → Shared → Prop), Q (.int (g i) s.toks) { s with toks := s.toks + 1 } → wpAny (model X.prog X.w) X.A (f (.int i t)) Q E s) :
    UnR X f (rU fun i => .int (g i)) := by
  intro pins s σ H x v Q I rx h
  obtain ⟨i, rfl, q⟩ := h
  obtain ⟨t, rfl⟩ := rx
  exact rule i t s _ _ ⟨.int (g i), H, I.tok _, ⟨_, rfl⟩, q⟩
theorem un_neg : UnR X (unaryOp .USub) (rU fun i => .int (-i)) := unI fun _ _ _ _ _ q => neg_int q
/-! ### bools among ints: n += (a < b) -/
end

/-! ### comparisons -/
/-- the scalars that == tells apart as data does -/
def scal : V → V → Bool
  | .non, .non => true | .non, .int _ => true | .int _, .non => true | .non, .bl _ => true | .bl _, .non => true | .non, .str _ => true | .str _, .non => true
  | .int _, .int _ => true | .bl _, .bl _ => true | .str _, .str _ => true | .byt _, .byt _ => true
  | .int _, .str _ => true | .str _, .int _ => true | .bl _, .str _ => true | .str _, .bl _ => true
  | _, _ => false
def rEq : R2 := fun x y H Q => scal x y = true ∧ Q (.bl (decide (x = y))) H
def rNe : R2 := fun x y H Q => scal x y = true ∧ Q (.bl (!decide (x = y))) H

theorem dec_int {i j : Int} : decide (V.int i = V.int j) = (i == j) := by
  rw [Bool.eq_iff_iff]
  simp
theorem dec_bl {i j : Bool} : decide (V.bl i = V.bl j) = (i == j) := by
  rw [Bool.eq_iff_iff]
  simp
theorem dec_str {i j : Str} : decide (V.str i = V.str j) = (i == j) := by
  rw [Bool.eq_iff_iff]
  simp
theorem dec_byt {i j : Array UInt8} : decide (V.byt i = V.byt j) = (i.toList == j.toList) := by
  rw [Bool.eq_iff_iff]
  cases i
  cases j
  simp

section
variable {X : Cx} {a b c : Expr} {ta tb tc : TE} {pos : Pos}
theorem fin_bl {pins : List (Addr × Obj)} {σ : St} {H : Hp} {s : Shared} {Q : VK} {k k' : Bool} (I : Inv X pins σ H s) (q : Q (.bl k) H) (e : k = k') : EP X pins σ Q (.bool k') s := by
  subst e
  exact ⟨.bl k, H, I, rfl, q⟩
theorem op_eq : OpR X (compareOp .Eq) rEq := by
  intro pins s σ H x y v u Q I rx ry h
  obtain ⟨hs, q⟩ := h
  cases x with
  | non =>
    cases rx
    cases y with
    | non => cases ry; exact PySem.EqNone.eq_none_none (fin_bl I q (by simp))
    | bl j => cases ry; exact PySem.EqNone.eq_none_bool (fin_bl I q (by simp))
    | int j => obtain ⟨t', rfl⟩ := ry; exact PySem.EqNone.eq_none_int (fin_bl I q (by simp))
    | str j => obtain ⟨t', rfl⟩ := ry; exact PySem.EqNone.eq_none_str (fin_bl I q (by simp))
    | _ => exact absurd (show false = true from hs) Bool.false_ne_true
  | bl i =>
    cases rx
    cases y with
    | non => cases ry; exact PySem.EqNone.eq_bool_none (fin_bl I q (by simp))
    | bl j => cases ry; exact eq_bool (fin_bl I q dec_bl)
    | str j => obtain ⟨t', rfl⟩ := ry; exact PySem.EqMixed.eq_bool_str (fin_bl I q (by simp))
    | _ => exact absurd (show false = true from hs) Bool.false_ne_true
  | int i =>
    obtain ⟨t, rfl⟩ := rx
    cases y with
    | non => cases ry; exact PySem.EqNone.eq_int_none (fin_bl I q (by simp))
    | int j => obtain ⟨t', rfl⟩ := ry; exact eq_int (fin_bl I q dec_int)
    | str j => obtain ⟨t', rfl⟩ := ry; exact PySem.EqMixed.eq_int_str (fin_bl I q (by simp))
    | _ => exact absurd (show false = true from hs) Bool.false_ne_true
  | str i =>
    obtain ⟨t, rfl⟩ := rx
    cases y with
    | non => cases ry; exact PySem.EqNone.eq_str_none (fin_bl I q (by simp))
    | bl j => cases ry; exact PySem.EqMixed.eq_str_bool (fin_bl I q (by simp))
    | int j => obtain ⟨t', rfl⟩ := ry; exact PySem.EqMixed.eq_str_int (fin_bl I q (by simp))
    | str j => obtain ⟨t', rfl⟩ := ry; exact eq_str (fin_bl I q dec_str)
    | _ => exact absurd (show false = true from hs) Bool.false_ne_true
  | byt i =>
    obtain ⟨t, rfl⟩ := rx
    cases y with
    | byt j => obtain ⟨t', rfl⟩ := ry; exact PySem.W.eq_bytes (fin_bl I q dec_byt)
    | _ => exact absurd (show false = true from hs) Bool.false_ne_true
  | _ => cases y <;> exact absurd (show false = true from hs) Bool.false_ne_true
theorem op_ne : OpR X (compareOp .NotEq) rNe := by
  intro pins s σ H x y v u Q I rx ry h
  obtain ⟨hs, q⟩ := h
  cases x with
  | non =>
    cases rx
    cases y with
    | non => cases ry; exact PySem.EqNone.ne_none_none (fin_bl I q (by simp))
    | bl j => cases ry; exact PySem.EqNone.ne_none_bool (fin_bl I q (by simp))
    | int j => obtain ⟨t', rfl⟩ := ry; exact PySem.EqNone.ne_none_int (fin_bl I q (by simp))
    | str j => obtain ⟨t', rfl⟩ := ry; exact PySem.EqNone.ne_none_str (fin_bl I q (by simp))
    | _ => exact absurd (show false = true from hs) Bool.false_ne_true
  | bl i =>
    cases rx
    cases y with
    | non => cases ry; exact PySem.EqNone.ne_bool_none (fin_bl I q (by simp))
    | bl j => cases ry; exact ne_bool (fin_bl I q (congrArg not dec_bl))
    | str j => obtain ⟨t', rfl⟩ := ry; exact PySem.EqMixed.ne_bool_str (fin_bl I q (by simp))
    | _ => exact absurd (show false = true from hs) Bool.false_ne_true
  | int i =>
    obtain ⟨t, rfl⟩ := rx
    cases y with
    | non => cases ry; exact PySem.EqNone.ne_int_none (fin_bl I q (by simp))
    | int j => obtain ⟨t', rfl⟩ := ry; exact ne_int (fin_bl I q (congrArg not dec_int))
    | str j => obtain ⟨t', rfl⟩ := ry; exact PySem.EqMixed.ne_int_str (fin_bl I q (by simp))
    | _ => exact absurd (show false = true from hs) Bool.false_ne_true
  | str i =>
    obtain ⟨t, rfl⟩ := rx
    cases y with
    | non => cases ry; exact PySem.EqNone.ne_str_none (fin_bl I q (by simp))
    | bl j => cases ry; exact PySem.EqMixed.ne_str_bool (fin_bl I q (by simp))
    | int j => obtain ⟨t', rfl⟩ := ry; exact PySem.EqMixed.ne_str_int (fin_bl I q (by simp))
    | str j => obtain ⟨t', rfl⟩ := ry; exact ne_str (fin_bl I q (congrArg not dec_str))
    | _ => exact absurd (show false = true from hs) Bool.false_ne_true
  | byt i =>
    obtain ⟨t, rfl⟩ := rx
    cases y with
    | byt j => obtain ⟨t', rfl⟩ := ry; exact PySem.W.ne_bytes (fin_bl I q (congrArg not dec_byt))
    | _ => exact absurd (show false = true from hs) Bool.false_ne_true
  | _ => cases y <;> exact absurd (show false = true from hs) Bool.false_ne_true

theorem op_le : OpR X (compareOp .LtE) (rI0 fun i j => .bl (decide (i ≤ j))) := opB0 fun _ _ _ _ _ _ _ q => le_int q
theorem op_gt : OpR X (compareOp .Gt) (rI0 fun i j => .bl (decide (j < i))) := opB0 fun _ _ _ _ _ _ _ q => gt_int q
theorem op_ge : OpR X (compareOp .GtE) (rI0 fun i j => .bl (decide (j ≤ i))) := opB0 fun _ _ _ _ _ _ _ q => ge_int q
/-- the one string within the other -/
theorem op_in_str : OpR X (compareOp .In) (fun x y H Q => ∃ i j, x = .str i ∧ y = .str j ∧ Q (.bl (!(Builtin.Str.occurrences j i 0 j.length 1).isEmpty)) H) := by
  intro pins s σ H x y v u Q I rx ry h
  obtain ⟨i, j, rfl, rfl, q⟩ := h
  obtain ⟨t, rfl⟩ := rx
  obtain ⟨t', rfl⟩ := ry
  exact in_str (fin_bl I q rfl)

/-- is, is not of two objects that are tracked lists or instances -/
def isObj : HO → Bool
  | .lst _ => true
  | .ins _ _ _ => true
  | _ => false
/-- two rules for one operation: by cases -/
theorem OpR.or {f : Value → Value → Sem Value} {r r' : R2} (h : OpR X f r) (h' : OpR X f r') : OpR X f (fun x y H Q => r x y H Q ∨ r' x y H Q) := by
  intro pins s σ H x y v u Q I rx ry q
  rcases q with q | q
  · exact h pins s σ H x y v u Q I rx ry q
  · exact h' pins s σ H x y v u Q I rx ry q

theorem nomark (b : Expr) {op : CmpOp} (h : op ≠ .In := by decide) (h2 : op ≠ .NotIn := by decide) : behindInMarks op b = false := by
  have e1 : (op == CmpOp.In) = false := by cases op <;> first | rfl | exact absurd rfl h
  have e2 : (op == CmpOp.NotIn) = false := by cases op <;> first | rfl | exact absurd rfl h2
  cases b <;> simp [behindInMarks, e1, e2]
/-- a comparison as a value; hm: nomark b, or (for in, not in) by with_unfolding_all rfl -/
theorem pe_cmpR {op : CmpOp} {r : R2} (ho : OpR X (compareOp op) r) (ha : PE X a ta) (hb : PE X b tb) (hm : behindInMarks op b = false) : PE X (.Compare a [op] [b] pos) (tOp r ta tb) := by
  intro pins s σ H Q I h
  exact wpAny_Compare1 (binT ha hb I h fun v u s2 x y H2 I2 rx ry q => ho pins s2 σ H2 x y v u Q I2 rx ry q) hm
/-- a reading of a value as a test -/
def tTest (t : TE) : TT := fun σ H Q => t σ H fun x H' => ∃ k, x = .bl k ∧ Q k H'
theorem pt_cmpR {op : CmpOp} {r : R2} (ho : OpR X (compareOp op) r) (ha : PE X a ta) (hb : PE X b tb) (hm : behindInMarks op b = false) : PT X (.Compare a [op] [b] pos) (tTest (tOp r ta tb)) := by
  intro pins s σ H Q I h
  refine wpAny_isTrue_Compare1 (thn (ha pins s σ H _ I h) fun v s1 ⟨x, H1, I1, r1, q1⟩ => thn (hb pins s1 σ H1 _ I1 q1) fun u s2 ⟨y, H2, I2, r2, q2⟩ =>
    thn (ho pins s2 σ H2 x y v u _ I2 r1 r2 q2) fun c s3 ⟨z, H3, I3, r3, k, e, q3⟩ => ?_) hm
  subst e
  cases r3
  exact wpAny_truthy_bool ⟨H3, I3, q3⟩
/-- a op1 b op2 c -/
def tChain (r r' : R2) (ta tb tc : TE) : TE := fun σ H Q => ta σ H fun x H1 => tb σ H1 fun y H2 => r x y H2 fun z H3 => ∃ k, z = .bl k ∧
  (if k = true then tc σ H3 fun w' H4 => r' y w' H4 Q else Q (.bl false) H3)
theorem pt_chain {op op' : CmpOp} {r r' : R2} (ho : OpR X (compareOp op) r) (ho' : OpR X (compareOp op') r') (ha : PE X a ta) (hb : PE X b tb) (hc : PE X c tc)
    (hm : lastMarks [op, op'] [b, c] = false := by with_unfolding_all rfl) : PT X (.Compare a [op, op'] [b, c] pos) (tTest (tChain r r' ta tb tc)) := by
  intro pins s σ H Q I h
  refine isTrue_chain (thn (ha pins s σ H _ I h) fun v s1 ⟨x, H1, I1, r1, q1⟩ => test_link (thn (hb pins s1 σ H1 _ I1 q1) fun u s2 ⟨y, H2, I2, r2, q2⟩ =>
    thn (ho pins s2 σ H2 x y v u _ I2 r1 r2 q2) fun d s3 ⟨z, H3, I3, r3, k, e, q3⟩ => ?_)) hm
  subst e
  cases r3
  refine wpAny_truthy_bool ?_
  cases k with
  | false =>
    obtain ⟨k', e', q'⟩ := q3
    cases e'
    exact ite_ff ⟨H3, I3, q'⟩
  | true =>
    refine ite_tt (test_last (thn (hc pins s3 σ H3 _ I3 q3) fun w' s4 ⟨z', H4, I4, r4, q4⟩ => thn (ho' pins s4 σ H4 y z' u w' _ I4 r2 r4 q4) fun d' s5 ⟨z2, H5, I5, r5, k2, e2, q5⟩ => ?_))
    subst e2
    cases r5
    exact wpAny_truthy_bool ⟨H5, I5, q5⟩

/-! ### truth -/
/-- a value's truth by the abstract heap -/
def TruV (K : PySem.W.Frag) (x : V) (H : Hp) (k : Bool) : Prop :=
  match x with
  | .non => k = false
  | .bl b => k = b
  | .int i => k = (i != 0)
  | .str y => y.length ≤ sizeLine ∧ k = ((y.length : Int) != 0)
  | .byt y => y.size ≤ sizeLine ∧ k = ((y.size : Int) != 0)
  | .ref p => (∃ xs, SqL K H p xs ∧ k = !xs.isEmpty) ∨ (∃ xs, SqT K H p xs ∧ k = !xs.isEmpty) ∨ ∃ kvs, H p = some (.dK kvs) ∧ k = !kvs.isEmpty
  | _ => False
theorem line63 : (sizeLine : Nat) < 2 ^ 63 := by rw [sizeLine_eq]; decide
/-! ### strs and bytes -/
theorem op_add_str : OpR X (binaryOp .Add) (fun x y H Q => ∃ i j, x = .str i ∧ y = .str j ∧ i.length + j.length ≤ sizeLine ∧ Q (.str (i ++ j)) H) := by
  intro pins s σ H x y v u Q I rx ry h
  obtain ⟨i, j, rfl, rfl, hz, q⟩ := h
  obtain ⟨t, rfl⟩ := rx
  obtain ⟨t', rfl⟩ := ry
  exact add_str (fun t' tk => ⟨.str (i ++ j), H, I.tok _, ⟨_, rfl⟩, q⟩) hz
def PlainIxT (b : Expr) : Prop := ∀ o i, subscripted b false o i = operate [o, i] (getItem o i)
/-- s[i], 0 ≤ i < len -/
theorem pe_item_str (ha : PE X a ta) (hb : PE X b tb) (hs : PlainIxT b) :
    PE X (.Subscript a b pos) (tOp (fun x y H Q => ∃ z i c, x = .str z ∧ y = .int i ∧ 0 ≤ i ∧ i < 2 ^ 63 ∧ i < z.length ∧ z.cps[i.toNat]? = some c ∧ Q (.str ⟨#[c]⟩) H) ta tb) := by
  intro pins s σ H Q I h
  refine Subscript_ (binT ha hb I h fun v u s2 x y H2 I2 rx ry q => ?_)
  obtain ⟨z, i, c, rfl, rfl, h0, h63, h1, hc, q⟩ := q
  obtain ⟨t, rfl⟩ := rx
  obtain ⟨t', rfl⟩ := ry
  have e : seqIndex? i z.length = some i.toNat := PySem.StrLaws.seqIndex_nonneg h0 h1
  exact tail_any (typeIs_str s2 z t) slot_str_getitem.lookup (getItem_str (c := c) (by
    have e1 : decide (i < -(2 ^ 63 : Int)) = false := decide_eq_false (by omega)
    have e2 : decide (i ≥ 2 ^ 63) = false := decide_eq_false (by omega)
    rw [e1, e2] <;> rfl) (by rw [e]; exact hc) ⟨.str ⟨#[c]⟩, H2, I2.tok _, ⟨_, rfl⟩, q⟩) (hs _ _)
/-! ### scalar builtins, by CallR -/
theorem vals1 {x : V} {us : List Value} (r : Vals [x] us) : ∃ u, us = [u] ∧ RelV x u := by
  cases r with
  | cons r1 r2 => cases r2; exact ⟨_, rfl, r1⟩
theorem vals2 {x y : V} {us : List Value} (r : Vals [x, y] us) : ∃ u w', us = [u, w'] ∧ RelV x u ∧ RelV y w' := by
  cases r with
  | cons r1 r2 =>
    cases r2 with
    | cons r3 r4 => cases r4; exact ⟨_, _, rfl, r1, r3⟩
theorem call_abs : CallR X (.builtin "abs") (fun xs H Q => ∃ i, xs = [.int i] ∧ Q (.int (if i < 0 then -i else i)) H) := by
  intro pins s σ H xs us Q I r h
  obtain ⟨i, rfl, q⟩ := h
  obtain ⟨u, rfl, t, rfl⟩ := vals1 r
  exact call_abs_int fun u tk => ⟨.int (if i < 0 then -i else i), H, I.tok _, ⟨_, rfl⟩, q⟩
theorem call_max2 (hc : X.calm = true) : CallR X (.builtin "max") (fun xs H Q => ∃ i j, xs = [.int i, .int j] ∧ Q (.int (if j > i then j else i)) H) := by
  intro pins s σ H xs us Q I r h
  obtain ⟨i, j, rfl, q⟩ := h
  obtain ⟨u, w', rfl, ⟨t, rfl⟩, ⟨t', rfl⟩⟩ := vals2 r
  refine max_two_ints (I.ok.hd hc) fun h' tk k => ⟨_, H, I.kept k, ?_, q⟩
  by_cases hj : j > i
  · rw [if_pos hj, if_pos hj]; exact ⟨_, rfl⟩
  · rw [if_neg hj, if_neg hj]; exact ⟨_, rfl⟩
theorem call_min2 (hc : X.calm = true) : CallR X (.builtin "min") (fun xs H Q => ∃ i j, xs = [.int i, .int j] ∧ Q (.int (if j < i then j else i)) H) := by
  intro pins s σ H xs us Q I r h
  obtain ⟨i, j, rfl, q⟩ := h
  obtain ⟨u, w', rfl, ⟨t, rfl⟩, ⟨t', rfl⟩⟩ := vals2 r
  refine min_two_ints (I.ok.hd hc) fun h' tk k => ⟨_, H, I.kept k, ?_, q⟩
  by_cases hj : j < i
  · rw [if_pos hj, if_pos hj]; exact ⟨_, rfl⟩
  · rw [if_neg hj, if_neg hj]; exact ⟨_, rfl⟩
/-- len of a str, a bytes, a list, a tuple -/
def LenV (K : PySem.W.Frag) (x : V) (H : Hp) (n : Nat) : Prop :=
  match x with
  | .str y => y.length ≤ sizeLine ∧ n = y.length
  | .byt y => y.size ≤ sizeLine ∧ n = y.size
  | .ref p => (∃ xs, SqL K H p xs ∧ n = xs.length) ∨ ∃ xs, SqT K H p xs ∧ n = xs.length
  | _ => False
theorem call_len : CallR X (.builtin "len") (fun xs H Q => ∃ x n, xs = [x] ∧ LenV X.K x H n ∧ Q (.int n) H) := by
  intro pins s σ H xs us Q I r h
  obtain ⟨x, n, rfl, e, q⟩ := h
  obtain ⟨u, rfl, rx⟩ := vals1 r
  have hl := line63
  have hs : sizeLine = 16777216 := sizeLine_eq
  cases x with
  | str y =>
    obtain ⟨t, rfl⟩ := rx
    obtain ⟨hy, e'⟩ : y.length ≤ sizeLine ∧ n = y.length := e
    subst e'
    exact len_str (by omega) ⟨.int _, H, I.tok _, ⟨_, rfl⟩, q⟩
  | byt y =>
    obtain ⟨t, rfl⟩ := rx
    obtain ⟨hy, e'⟩ : y.size ≤ sizeLine ∧ n = y.size := e
    subst e'
    exact PySem.W.len_bytes (by omega) ⟨.int _, H, I.tok _, ⟨_, rfl⟩, q⟩
  | ref p =>
    cases rx
    have e' : (∃ xs, SqL X.K H p xs ∧ n = xs.length) ∨ ∃ xs, SqT X.K H p xs ∧ n = xs.length := e
    rcases e' with ⟨xs, hx, e'⟩ | ⟨xs, hx, e'⟩
    · subst e'
      obtain ⟨its, r', pl, hz⟩ := I.list hx
      have hlen := r'.length
      exact Calls.call_len_list pl.isList (by simp only [List.size_toArray]; omega) ⟨.int xs.length, H, I.tok _, ⟨_, by simp only [List.size_toArray]; rw [hlen]⟩, q⟩
    · subst e'
      obtain ⟨its, r', pl, hz⟩ := I.tuple hx
      have hlen := r'.length
      exact len_tuple pl (by simp only [List.size_toArray]; omega) ⟨.int xs.length, H, I.tok _, ⟨_, by simp only [List.size_toArray]; rw [hlen]⟩, q⟩
  | _ => exact (show False from e).elim
end
end L2

namespace L2
open PySem PySem.Spec PyProof.Rows

/-! ### an instance, its attributes a map -/
structure ObjM (h : Heap) (x dx C : Addr) (mA : Str → Option Value) : Prop where
  obj : h.get? x = some (PySem.W.instObj C dx)
  ns : h.Ns1 dx mA
  ne : dx ≠ x

theorem lookIn_ns {h : Heap} {dx : Addr} {mA : Str → Option Value} (n : h.Ns1 dx mA) : ∃ od, h.get? dx = some od ∧ ∀ name, PySem.W.lookIn name od = some (mA name) := by
  obtain ⟨o, es, ep, ho, hd, hk, _, hm⟩ := n
  refine ⟨o, ho, fun name => ?_⟩
  have e := hm name
  unfold nsFind findBy at e
  rw [← Array.find?_toList] at e
  unfold PySem.W.lookIn
  rw [hd]
  dsimp only
  split
  · rename_i y q
    rw [q] at e
    exact congrArg some e
  · rename_i q
    rw [q] at e
    have a : es.toList.any (·.refKey) = false := by
      rw [List.any_eq_false]
      intro y hy
      obtain ⟨z, t, hkey⟩ := hk y (Array.mem_toList_iff.mp hy)
      simp [DictEntry.refKey, hkey]
    have a' : ¬ es.toList.any (·.refKey) = true := by rw [a]; exact Bool.false_ne_true
    rw [if_neg a']
    exact congrArg some e

theorem ObjM.look {h : Heap} {x dx C : Addr} {mA : Str → Option Value} (I : ObjM h x dx C mA) : ∃ od, PySem.W.InstAt h x (PySem.W.instObj C dx) C (some od) ∧ ∀ name, PySem.W.lookIn name od = some (mA name) :=
  let ⟨od, ho, hl⟩ := lookIn_ns I.ns
  ⟨od, ⟨I.obj, rfl, rfl, ho⟩, hl⟩

section
variable {prog : Program} {w : World} {A : Around} {E : Value → Shared → Prop} {s : Shared} {K : PySem.W.Frag} {x dx C f : Addr} {mA : Str → Option Value} {name : Str} {v : Value}

end

/-! ### the attributes as a list of pairs -/
def putF (f : Str) (v : V) : List (Str × V) → List (Str × V)
  | [] => [(f, v)]
  | (g, x) :: r => if g = f then (g, v) :: r else (g, x) :: putF f v r
theorem RelO.some_of {v : V} {o : Option Value} (r : RelO (some v) o) : ∃ u, o = some u ∧ RelV v u := by
  cases o with
  | none => exact (show False from r).elim
  | some u => exact ⟨u, rfl, r⟩
theorem handed_of {v : V} {u : Value} (r : RelV v u) : PySem.W.handedIn u = true := by
  cases v with
  | non => cases (show u = Value.none from r); rfl
  | bl b => cases (show u = Value.bool b from r); rfl
  | int i => obtain ⟨t, e⟩ := (show ∃ t, u = Value.int i t from r); cases e; rfl
  | str x => obtain ⟨t, e⟩ := (show ∃ t, u = Value.str x t from r); cases e; rfl
  | byt b => obtain ⟨t, e⟩ := (show ∃ t, u = Value.bytes b t from r); cases e; rfl
  | flt b => obtain ⟨t, e⟩ := (show ∃ t, u = Value.float b t from r); cases e; rfl
  | ref a => cases (show u = Value.ref a from r); rfl
  | ty n => cases (show u = Value.type n from r); rfl

section
variable {P : Program} {w : World} {H H' : Hp} {h h' : Heap} {a C dx : Addr} {fs fs' : List (Str × V)}
theorem ins_get (hok : HOk P w H h) (e : H a = some (.ins C dx fs)) : ∃ mA, ObjM h a dx C mA ∧ (∀ f, RelO (fs.lookup f) (mA f)) ∧ PySem.Within mA (fs.map (·.1)) ∧ fs.length ≤ 1000 ∧ H dx = some (.own a) := by
  obtain ⟨d, z, ne, ob, mA, n, r, q⟩ := (show ObjOk P w H h a (.ins C dx fs) from hok a _ e)
  exact ⟨mA, ⟨ob, n, ne⟩, r, q, z, d⟩
end

/-! ### what of the text a class must have -/
structure Cls (K : PySem.W.Frag) (C : Addr) : Prop where
  pg : PySem.W.plainGet K C Str.empty = true
  hd : PySem.W.hasDictIn K C = true
  po : PySem.W.plainOver K C = true
  sa : PySem.W.findIn K (.ref C) "__setattr__" = some (some (.builtin "object.__setattr__"))
theorem Cls.get {K : PySem.W.Frag} {C : Addr} (c : Cls K C) (f : Str) : PySem.W.plainGet K C f = true := c.pg
/-- no class of it has the name -/
def NoAttr (K : PySem.W.Frag) (C : Addr) (f : Str) : Prop := PySem.W.findIn K (.ref C) f = some none
/-- a constant of the class -/
structure Con (K : PySem.W.Frag) (C : Addr) (f : Str) (v : V) (u : Value) : Prop where
  at_ : PySem.W.findIn K (.ref C) f = some (some u)
  rel : RelV v u
  get : PySem.W.specialIn K u "__get__" = some none
  cp : PySem.W.copiedNames.contains f = false
/-- a method: a plain def of the class or of one above it -/
structure Meth (K : PySem.W.Frag) (C : Addr) (m : Str) (f : Addr) : Prop where
  at_ : PySem.W.findIn K (.ref C) m = some (some (.ref f))
  fn : PySem.W.isFn K (.ref f) = true
  kp : PySem.W.keepIn K (.ref f) = true

section
variable {X : Cx} {pins : List (Addr × Obj)} {σ : St} {H : Hp} {s : Shared} {a C dx : Addr} {fs : List (Str × V)} {f : Str} {v : V} {A : Around} {E : Value → Shared → Prop}

/-- a new instance, tracked, without attributes -/
theorem Inv.made (I : Inv X pins σ H s) : Inv X pins σ (upd (upd H s.heap.objs.size (.own (s.heap.objs.size + 1))) (s.heap.objs.size + 1) (.ins C s.heap.objs.size []))
    { s with heap := (s.heap.push PySem.W.emptyDict).push (PySem.W.instObj C s.heap.objs.size) } := by
  have e1 : (s.heap.push PySem.W.emptyDict).get? s.heap.objs.size = some PySem.W.emptyDict := Heap.get?_push_size s.heap rfl
  have e2 : ((s.heap.push PySem.W.emptyDict).push (PySem.W.instObj C s.heap.objs.size)).get? (s.heap.objs.size + 1) = some (PySem.W.instObj C s.heap.objs.size) := by
    have := Heap.get?_push_size (s.heap.push PySem.W.emptyDict) (o := PySem.W.instObj C s.heap.objs.size) rfl
    rwa [Heap.size_push] at this
  have e3 : (s.heap.push PySem.W.emptyDict).Ns s.heap.objs.size (fun _ => none) := ⟨PySem.W.emptyDict, #[], _, e1, rfl, (fun e he => absurd he (by simp)), fun _ => rfl⟩
  have I1 := I.laid (a := s.heap.objs.size) (o := .own (s.heap.objs.size + 1)) (h' := s.heap.push PySem.W.emptyDict) (t' := s.toks) (fun b u q => Heap.get?_push_of_some _ q) (Nat.le_refl _) ⟨_, e1⟩
  refine I1.laid (a := s.heap.objs.size + 1) (o := .ins C s.heap.objs.size []) (t' := s.toks) (fun b u q => Heap.get?_push_of_some _ q) (Nat.le_of_eq (Heap.size_push _ _)) ?_
  have ne : s.heap.objs.size ≠ s.heap.objs.size + 1 := Nat.ne_of_lt (Nat.lt_succ_self _)
  refine ⟨by rw [upd_ne ne, upd_same], Nat.zero_le _, ne, e2, fun _ => none, (Heap.Ns1.of_empty e3).at fun o q => Heap.get?_push_of_some _ q, fun _ => True.intro, fun y hy => absurd rfl hy⟩

/-- e.f where nothing but the object is asked: through attributeBase (super) and the last hold -/
theorem attr_of {prog : Program} {w : World} {env : Env} {e : Expr} {f : Str} {pos : Pos} {s : Shared} {Q : Value → Shared → Prop} (hb : attributeBase e f env (eval e env) = eval e env)
    (h : wpAny (model prog w) A (eval e env) (fun o s₁ => wpAny (model prog w) A (getAttr o f true) Q E s₁) E s) : wpAny (model prog w) A (eval (.Attribute e f pos) env) Q E s :=
  Attribute_any_ h (by rw [arm_eval_Attribute, hb])
end

/-! ### readings and rules -/
/-- e.f, an attribute of the instance -/
def tFld (K : PySem.W.Frag) (ta : TE) (f : Str) : TE := fun σ H Q => ta σ H fun x H1 => ∃ a C dx fs v, x = .ref a ∧ H1 a = some (.ins C dx fs) ∧ Cls K C ∧ NoAttr K C f ∧ fs.lookup f = some v ∧ Q v H1
/-- e.f, a constant of the class -/
def tCon (K : PySem.W.Frag) (ta : TE) (f : Str) : TE := fun σ H Q => ta σ H fun x H1 => ∃ a C dx fs v u, x = .ref a ∧ H1 a = some (.ins C dx fs) ∧ Cls K C ∧ Con K C f v u ∧ fs.lookup f = none ∧ Q v H1
/-- e.f = value -/
def sFld (K : PySem.W.Frag) (ta tv : TE) (f : Str) : TS := fun D σ H => tv σ H fun y H1 => ta σ H1 fun x H2 => ∃ a C dx fs, x = .ref a ∧ H2 a = some (.ins C dx fs) ∧ Cls K C ∧ NoAttr K C f ∧ fs.length < 1000 ∧
  D.nx σ (upd H2 a (.ins C dx (putF f y fs)))
/-- an augmented operator on two values -/
def InOp (X : Cx) (op : Operator) (rd : V → V → Hp → VK → Prop) : Prop :=
  ∀ (pins : List (Addr × Obj)) (s : Shared) (σ : St) (H : Hp) (x y : V) (u v : Value) (Q : VK), Inv X pins σ H s → RelV x u → RelV y v → rd x y H Q → wpAny (model X.prog X.w) X.A (inplaceOp op u v) (EP X pins σ Q) X.xe s
/-- e.f op= value -/
def sFldAug (K : PySem.W.Frag) (ta tv : TE) (rd : V → V → Hp → VK → Prop) (f : Str) : TS := fun D σ H => ta σ H fun x H1 => ∃ a C dx fs v, x = .ref a ∧ H1 a = some (.ins C dx fs) ∧ Cls K C ∧ NoAttr K C f ∧ fs.lookup f = some v ∧
  tv σ H1 fun y H2 => rd v y H2 fun z H3 => ∃ dx' fs', H3 a = some (.ins C dx' fs') ∧ fs'.length < 1000 ∧ D.nx σ (upd H3 a (.ins C dx' (putF f z fs')))

section
variable {X : Cx} {o e value : Expr} {f : Str} {pos pos' tpos : Pos} {ta tv : TE}
def rAdd : V → V → Hp → VK → Prop := fun x y H Q => ∃ i j, x = .int i ∧ y = .int j ∧ Q (.int (i + j)) H
def rSub : V → V → Hp → VK → Prop := fun x y H Q => ∃ i j, x = .int i ∧ y = .int j ∧ Q (.int (i - j)) H
end

/-! ### isinstance -/
section
variable {X : Cx} {pins : List (Addr × Obj)} {σ : St} {H : Hp} {s : Shared} {A : Around} {E : Value → Shared → Prop} {Q : Value → Shared → Prop} {c : Value} {b : Bool}
/-- the type of a value, as the fragment's deciders take it; for an instance its class -/
inductive TyOf (K : PySem.W.Frag) (H : Hp) : V → Value → Prop where
  | non : TyOf K H .non (.type "NoneType")
  | bl (x : Bool) : TyOf K H (.bl x) (.type "bool")
  | int (i : Int) : TyOf K H (.int i) (.type "int")
  | str (x : Str) : TyOf K H (.str x) (.type "str")
  | flt (x : UInt64) : TyOf K H (.flt x) (.type "float")
  | lst {a : Addr} {xs : List V} (e : H a = some (.lst xs)) : TyOf K H (.ref a) (.type "list")
  | frz {a : Addr} {o : Obj} {xs : List V} (e : H a = some (.frz o (.lst xs))) : TyOf K H (.ref a) (.type "list")
  | tup {a : Addr} {xs : List V} (e : H a = some (.tup xs)) : TyOf K H (.ref a) (.type "tuple")
  | dK {a : Addr} {kvs : List (Key × V)} (e : H a = some (.dK kvs)) : TyOf K H (.ref a) (.type "dict")
  | dT {a : Addr} {kvs : List (List Key × V)} (e : H a = some (.dT kvs)) : TyOf K H (.ref a) (.type "dict")
  | ins {a C dx : Addr} {fs : List (Str × V)} (e : H a = some (.ins C dx fs)) (cl : Cls K C) (ha : PySem.W.findIn K (.ref C) "__class__" = some (some (.builtin "object.__class__")))
      (hn : PySem.W.specialIn K (.builtin "object.__class__") "__get__" = some (some (.builtin "getset_descriptor.__get__"))) (htk : PySem.W.takesIn K (.builtin "object.__class__") = some true)
      (hm : PySem.W.mroIn K C (.type "object") = some true) : TyOf K H (.ref a) (.ref C)
/-- isinstance(x, c) for one class c, a built-in or an own one: kitOne's answer -/
theorem isinst_ok {x : V} {u t : Value} (I : Inv X pins σ H s) (rx : RelV x u) (ty : TyOf X.K H x t) (e : PySem.W.kitOne X.K t c = some b) (h : ∀ tk, Q (.bool b) { s with toks := tk }) :
    wpAny (model X.prog X.w) A (call (.builtin "isinstance") [u, c]) Q E s := by
  cases ty with
  | non => cases (show u = Value.none from rx); exact PySem.W.kia_one PySem.W.kitx_none I.kIn True.intro e (fun z => nomatch z) h
  | bl y => cases (show u = Value.bool y from rx); exact PySem.W.kia_one PySem.W.kitx_bool I.kIn True.intro e (fun z => nomatch z) h
  | int i => obtain ⟨t, q⟩ := (show ∃ t, u = Value.int i t from rx); cases q; exact PySem.W.kia_one PySem.W.kitx_int I.kIn True.intro e (fun z => nomatch z) h
  | str y => obtain ⟨t, q⟩ := (show ∃ t, u = Value.str y t from rx); cases q; exact PySem.W.kia_one PySem.W.kitx_str I.kIn True.intro e (fun z => nomatch z) h
  | flt y => obtain ⟨t, q⟩ := (show ∃ t, u = Value.float y t from rx); cases q; exact PySem.W.kia_one PySem.W.kitx_float I.kIn True.intro e (fun z => nomatch z) h
  | @lst a xs ea =>
    cases (show u = Value.ref a from rx)
    obtain ⟨_, _, n, _, h1⟩ := (show ObjOk X.prog X.w H s.heap a (.lst xs) from I.hok a _ ea)
    exact PySem.W.kia_one PySem.W.kitx_list I.kIn ⟨_, h1, rfl⟩ e (fun z => nomatch z) h
  | @frz a ob xs ea =>
    cases (show u = Value.ref a from rx)
    obtain ⟨_, _, _, n, _, h1⟩ := (show ObjOk X.prog X.w H s.heap a (.frz ob (.lst xs)) from I.hok a _ ea)
    exact PySem.W.kia_one PySem.W.kitx_list I.kIn ⟨_, h1, rfl⟩ e (fun z => nomatch z) h
  | @tup a xs ea =>
    cases (show u = Value.ref a from rx)
    obtain ⟨_, _, _, p⟩ := (show ObjOk X.prog X.w H s.heap a (.tup xs) from I.hok a _ ea)
    obtain ⟨o, h1, h2, _⟩ := p
    exact PySem.W.kia_one PySem.W.kitx_tuple I.kIn ⟨o, h1, h2⟩ e (fun z => nomatch z) h
  | @dK a kvs ea =>
    cases (show u = Value.ref a from rx)
    obtain ⟨_, _, vs, _, p⟩ := (show ObjOk X.prog X.w H s.heap a (.dK kvs) from I.hok a _ ea)
    obtain ⟨o, es, ep, h1, h2, _⟩ := p
    exact PySem.W.kia_one PySem.W.kitx_dict I.kIn ⟨o, h1, h2.1⟩ e (fun z => nomatch z) h
  | @dT a kvs ea =>
    cases (show u = Value.ref a from rx)
    obtain ⟨_, _, xs, _, o, es, ep, h1, h2, _⟩ := (show ObjOk X.prog X.w H s.heap a (.dT kvs) from I.hok a _ ea)
    exact PySem.W.kia_one PySem.W.kitx_dict I.kIn ⟨o, h1, h2.1⟩ e (fun z => nomatch z) h
  | @ins a C dx fs ea cl ha hn htk hm =>
    cases (show u = Value.ref a from rx)
    obtain ⟨mA, O, _⟩ := ins_get I.hok ea
    obtain ⟨od, J, _⟩ := O.look
    exact PySem.W.kia_one (PySem.W.kitx_own (cl.get _) cl.hd ha hn htk hm) I.kIn J e (fun z => nomatch z) h
end
end L2

namespace L2
open PySem PySem.Spec PyProof.Rows

/-! ### room -/
structure Room (k : Nat) (A : Around) : Prop where
  hd : A.handled = none
  dp : A.depth + 3 * k + 5 < recursionLimit
  un : A.units + 16 * k + 200 < cLine
theorem Room.mono {j k : Nat} {A : Around} (r : Room k A) (h : j ≤ k) : Room j A := ⟨r.hd, by have := r.dp; omega, by have := r.un; omega⟩
theorem Room.deeper {k : Nat} {A : Around} (r : Room (k + 1) A) (env : Env) : Room k (A.deeper env) :=
  ⟨r.hd, by have := r.dp; show A.depth + 1 + 3 * k + 5 < _; omega, by have := r.un; show A.units + 3 + 16 * k + 200 < _; omega⟩
theorem Room.in1 {k : Nat} {A : Around} (r : Room (k + 1) A) : Room k A.in1 :=
  ⟨r.hd, by have := r.dp; show A.depth + 3 * k + 5 < _; omega, by have := r.un; show A.units + 1 + 16 * k + 200 < _; omega⟩
theorem make_depth {A : Around} {C : Addr} {us : List Value} {kw : List (Str × Value)} : (A.under (.builtin "type.__call__" ⟨.ref C :: us, kw⟩)).depth = A.depth + 1 := by
  first | rfl | simp [Around.under, Code.weight, Code.isCreation, Code.isGuard, Code.isCaller, Code.frames, Code.isFrame, guardIds]
theorem make_units {A : Around} {C : Addr} {us : List Value} {kw : List (Str × Value)} : (A.under (.builtin "type.__call__" ⟨.ref C :: us, kw⟩)).units = A.units + 1 := by
  first | rfl | simp [Around.under, Code.cUnits, Code.frames, Code.isFrame]
theorem Room.make {k : Nat} {A : Around} (r : Room (k + 1) A) (C : Addr) (us : List Value) (kw : List (Str × Value)) : Room k (A.under (.builtin "type.__call__" ⟨.ref C :: us, kw⟩)) :=
  ⟨r.hd, by have := r.dp; rw [make_depth]; omega, by have := r.un; rw [make_units]; omega⟩
theorem Room.depth {k : Nat} {A : Around} (r : Room k A) : A.depth < recursionLimit := by have := r.dp; omega
theorem Room.units {k : Nat} {A : Around} (r : Room k A) : A.units + 64 < cLine := by have := r.un; omega
/-! ### argument lists and displays -/
def tNil : TA := fun _ H Q => Q [] H
def tCons (ta : TE) (tr : TA) : TA := fun σ H Q => ta σ H fun x H1 => tr σ H1 fun xs H2 => Q (x :: xs) H2
section
variable {X : Cx} {e : Expr} {es : List Expr} {te : TE} {t : TA} {pos : Pos}
theorem pa_nil : PA X [] tNil := fun _ _ _ _ H Q I h => Calls.spliced_nil ⟨[], H, I, .nil, h⟩
theorem pa_cons (ha : PE X e te) (hr : PA X es t) (hs : starEach (e :: es) X.env = (false, eval e X.env) :: starEach es X.env := by rfl) : PA X (e :: es) (tCons te t) := by
  intro pos pins s σ H Q I h
  rw [hs]
  show wpAny _ _ (spliced ((false, eval e X.env) :: backTo pos (starEach es X.env))) _ _ s
  refine Calls.spliced_cons (thn (ha pins s σ H _ I h) fun u s1 ⟨x, H1, I1, r1, q1⟩ => ?_)
  exact thn (hr pos pins s1 σ H1 _ I1 q1) fun us s2 ⟨xs, H2, I2, r2, q2⟩ => ⟨x :: xs, H2, I2, .cons r1 r2, q2⟩

/-- a tuple, a list of written items -/
def tTup (t : TA) : TE := fun σ H Q => t σ H fun xs H1 => xs.length ≤ sizeLine ∧ ∀ p, H1 p = none → Q (.ref p) (upd H1 p (.tup xs))
def tLst (t : TA) : TE := fun σ H Q => t σ H fun xs H1 => xs.length ≤ sizeLine ∧ ∀ p, H1 p = none → Q (.ref p) (upd H1 p (.lst xs))
theorem pe_tup {x1} (h : PA X es t) : PE X (.Tuple es x1 pos) (tTup t) := by
  intro pins s σ H Q I hq
  refine wpAny_Tuple_spliced (thn (h pos pins s σ H _ I hq) fun us s1 ⟨xs, H1, I1, r, z, q⟩ => ⟨by rw [← r.length]; exact z, ?_⟩)
  have hf : H1 s1.heap.objs.size = none := I1.hok.fresh (Nat.le_refl _)
  refine ⟨.ref s1.heap.objs.size, upd H1 s1.heap.objs.size (.tup xs), I1.laid (t' := s1.toks) (fun b u e => Heap.get?_push_of_some _ e) (Nat.le_refl _) ?_, rfl, q _ hf⟩
  exact ⟨z, us, r, ⟨_, Heap.get?_push_size _ rfl, rfl, _, rfl⟩⟩
theorem pe_lst (h : PA X es t) : PE X (.List es pos) (tLst t) := by
  intro pins s σ H Q I hq
  refine wpAny_List_spliced (thn (h pos pins s σ H _ I hq) fun us s1 ⟨xs, H1, I1, r, z, q⟩ => ⟨by rw [← r.length]; exact z, ?_⟩)
  have hf : H1 s1.heap.objs.size = none := I1.hok.fresh (Nat.le_refl _)
  refine ⟨.ref s1.heap.objs.size, upd H1 s1.heap.objs.size (.lst xs), I1.laid (t' := s1.toks) (fun b u e => Heap.get?_push_of_some _ e) (Nat.le_refl _) ?_, rfl, q _ hf⟩
  exact ⟨z, us, 0, r, Heap.get?_push_size _ rfl⟩
end

/-! ### what a def promises -/
/-- a def's promise: the bound arguments in the parameters' order, the heap, the wanted end, the wanted exception -/
abbrev Sp := List V → Hp → VK → XK → Prop
/-- how an exception lies behind a call (file 08 gives it): the callers' frames, abstract heap and state ahead of the call, the wish, the exception, the state -/
abbrev CXT := List Env → Hp → Shared → XK → Value → Shared → Prop

/-- the state at a call -/
structure Env0 (P : Program) (w : World) (K : PySem.W.Frag) (mg : Str → Option Value) (base : Heap) (A : Around) (outer : List Env) (s : Shared) (H : Hp) : Prop where
  frames : A.frames = some outer
  mod : Mod K mg base
  bs : ∀ b o, base.get? b = some o → s.heap.get? b = some o ∧ H b = none
  bsz : base.objs.size ≤ s.heap.objs.size
  funs : s.heap.FunFrames base outer
  frf : ∀ b ∈ frs outer, H b = none
  hok : HOk P w H s.heap
  bare : AllBare s.gens
/-- a call's end -/
def CE (outer : List Env) (P : Program) (w : World) (H : Hp) (s : Shared) (Q : VK) (u : Value) (s' : Shared) : Prop :=
  ∃ v H', s'.os = s.os ∧ AllBare s'.gens ∧ Un (frs outer) [] H H' s.heap s'.heap ∧ HOk P w H' s'.heap ∧ RelV v u ∧ Q v H'
def CR (CX : CXT) (outer : List Env) (P : Program) (w : World) (H : Hp) (s : Shared) (Q : VK) (E : XK) (r : Result) (s' : Shared) : Prop :=
  match r with
  | .ok (.ret u) => CE outer P w H s Q u s'
  | .ok _ => False
  | .error e => CX outer H s E e s'
structure FnOk (P : Program) (w : World) (K : PySem.W.Frag) (mg : Str → Option Value) (base : Heap) (CX : CXT) (k : Nat) (f : Addr) (fd : FuncData) (ps : List Str) (sp : Sp) : Prop where
  len : ∀ vs H Q E, sp vs H Q E → vs.length = ps.length
  run : ∀ (A : Around) (outer : List Env) (s : Shared) (H : Hp) (args : Args) (us : List Value) (vs : List V) (Q : VK) (E : XK), Room k A → Env0 P w K mg base A outer s H → BindsTo s fd args (ps.zip us) → Vals vs us → sp vs H Q E →
    codeAny (model P w) A (.call (.ref f) args) (CR CX outer P w H s Q E) s
theorem FnOk.mono {P : Program} {w : World} {K : PySem.W.Frag} {mg : Str → Option Value} {base : Heap} {CX : CXT} {j k : Nat} {f : Addr} {fd : FuncData} {ps : List Str} {sp : Sp} (F : FnOk P w K mg base CX j f fd ps sp) (h : j ≤ k) :
    FnOk P w K mg base CX k f fd ps sp := ⟨F.len, fun A outer s H args us vs Q E hr => F.run A outer s H args us vs Q E (hr.mono h)⟩
/-- a weaker promise -/
theorem FnOk.imp {P : Program} {w : World} {K : PySem.W.Frag} {mg : Str → Option Value} {base : Heap} {CX : CXT} {k : Nat} {f : Addr} {fd : FuncData} {ps : List Str} {sp sp' : Sp} (F : FnOk P w K mg base CX k f fd ps sp)
    (h : ∀ vs H Q E, sp' vs H Q E → sp vs H Q E) : FnOk P w K mg base CX k f fd ps sp' :=
  ⟨fun vs H Q E q => F.len vs H Q E (h _ _ _ _ q), fun A outer s H args us vs Q E hr he hb hv hs => F.run A outer s H args us vs Q E hr he hb hv (h _ _ _ _ hs)⟩

theorem Env0.make {P : Program} {w : World} {K : PySem.W.Frag} {mg : Str → Option Value} {base : Heap} {A : Around} {outer : List Env} {s : Shared} {H : Hp} (e : Env0 P w K mg base A outer s H) (C : Addr) (us : List Value) (kw : List (Str × Value)) :
    Env0 P w K mg base (A.under (.builtin "type.__call__" ⟨.ref C :: us, kw⟩)) outer s H := ⟨by first | exact e.frames | (simpa [Around.under, Code.envs, Code.isFrame, pushEnvs] using e.frames), e.mod, e.bs, e.bsz, e.funs, e.frf, e.hok, e.bare⟩
theorem Env0.in1 {P : Program} {w : World} {K : PySem.W.Frag} {mg : Str → Option Value} {base : Heap} {A : Around} {outer : List Env} {s : Shared} {H : Hp} (e : Env0 P w K mg base A outer s H) :
    Env0 P w K mg base A.in1 outer s H := ⟨e.frames, e.mod, e.bs, e.bsz, e.funs, e.frf, e.hok, e.bare⟩

section
variable {X : Cx} {pins : List (Addr × Obj)} {σ : St} {H : Hp} {s s' : Shared}
/-- from a body: what a callee wants -/
theorem Inv.env0 (I : Inv X pins σ H s) : Env0 X.prog X.w X.K X.mg X.base X.A X.stack s H :=
  ⟨I.ok.frames, I.ok.mod, I.bs, Nat.le_trans I.ok.bsz I.sz, I.stack, I.stkFree, I.hok, I.bare⟩
/-- behind a call -/
theorem Inv.after {Q : VK} {u : Value} (I : Inv X pins σ H s) (h : CE X.stack X.prog X.w H s Q u s') : EP X pins σ Q u s' := by
  obtain ⟨v, H', os, bare, un, hok, r, q⟩ := h
  obtain ⟨hh, g, d, t, os'⟩ := s'
  obtain rfl : os' = s.os := os
  exact ⟨v, H', I.call (h' := hh) (g' := g) (d' := d) (t' := t) (ch := []) un hok bare (fun b z => absurd z (by simp)), r, q⟩
end

/-! ### calls -/
/-- f(..): the written arguments, then the defaults dvs; E: what is wanted of an exception -/
def tCall (sp : Sp) (dvs : List V) (E : XK) (t : TA) : TE := fun σ H Q => t σ H fun vs H1 => sp (vs ++ dvs) H1 Q E
/-- o.m(..) of an instance of the class at C -/
def tMeth (C : Addr) (m : Str) (sp : Sp) (dvs : List V) (E : XK) (ta : TE) (t : TA) : TE := fun σ H Q => ta σ H fun x H1 => ∃ a dx fs, x = .ref a ∧ H1 a = some (.ins C dx fs) ∧ fs.lookup m = none ∧
  t σ H1 fun vs H2 => sp (x :: (vs ++ dvs)) H2 Q E
/-- C(..): a new instance and its dict, then __init__ -/
def tMake (C : Addr) (sp : Sp) (dvs : List V) (E : XK) (t : TA) : TE := fun σ H Q => t σ H fun vs H1 => ∀ x dx, H1 x = none → H1 dx = none → dx ≠ x →
  sp (.ref x :: (vs ++ dvs)) (upd (upd H1 dx (.own x)) x (.ins C dx [])) (fun v H2 => v = .non ∧ Q (.ref x) H2) E

/-- how the parameters are bound: us the positional arguments, kw the keywords' values by name, ds the defaults that fill up -/
def Binds (K : PySem.W.Frag) (fd : FuncData) (ps : List Str) (ds : List Value) : Prop :=
  ∀ (s : Shared) (us : List Value), K.In s.heap → (us ++ ds).length = ps.length → BindsTo s fd ⟨us, []⟩ (ps.zip (us ++ ds))
/-- every parameter is given -/
theorem Binds.all {K : PySem.W.Frag} {fd : FuncData} {ps : List Str} (h : ∀ us : List Value, us.length = ps.length → bindArgs fd ⟨us, []⟩ = pure (ps.zip us)) : Binds K fd ps [] := fun s us _ hl => by
  rw [List.append_nil] at hl ⊢
  exact .of_eq (h us hl)

/-- an exception of a callee reaches what this body wants of exceptions -/
def Passes (CX : CXT) (X : Cx) (E : XK) : Prop := ∀ (pins : List (Addr × Obj)) (σ : St) (H : Hp) (s : Shared) (e : Value) (s' : Shared), Inv X pins σ H s → CX X.stack H s E e s' → X.xe e s'

section
variable {X : Cx} {CX : CXT} {k : Nat} {f C : Addr} {fd : FuncData} {ps : List Str} {sp : Sp} {dvs : List V} {ds : List Value} {E : XK} {x m : Str} {p pos apos : Pos} {e o : Expr} {es : List Expr} {ta : TE} {t : TA}

/-- the callee runs -/
theorem run_fn {pins : List (Addr × Obj)} {σ : St} {H : Hp} {s : Shared} {Q : VK} {us : List Value} {vs : List V} (F : FnOk X.prog X.w X.K X.mg X.base CX k f fd ps sp) (hr : Room k X.A) (hb : Binds X.K fd ps ds) (hd : Vals dvs ds) (hx : Passes CX X E)
    (I : Inv X pins σ H s) (r : Vals vs us) (h : sp (vs ++ dvs) H Q E) : wpAny (model X.prog X.w) X.A (call (.ref f) us) (EP X pins σ Q) X.xe s := by
  have r2 : Vals (vs ++ dvs) (us ++ ds) := r.append hd
  have hl : (us ++ ds).length = ps.length := by rw [← r2.length]; exact F.len _ _ _ _ h
  refine wpAny_call (codeAny_mono (F.run X.A X.stack s H ⟨us, []⟩ (us ++ ds) (vs ++ dvs) Q E hr I.env0 (hb s us I.kIn hl) r2 h) fun r s' hq => ?_)
  cases r with
  | error e => exact hx pins σ H s e s' I hq
  | ok fl =>
    cases fl with
    | ret u => exact I.after hq
    | next => exact False.elim hq
    | brk => exact False.elim hq
    | cont => exact False.elim hq

theorem pe_call (F : FnOk X.prog X.w X.K X.mg X.base CX k f fd ps sp) (hr : Room k X.A) (hg : Gl X x) (hm : X.mg x = some (.ref f)) (hk : PySem.W.keepIn X.K (.ref f) = true) (hb : Binds X.K fd ps ds) (hd : Vals dvs ds) (hx : Passes CX X E)
    (ha : PA X (e :: es) t) (hdb : (x == ("__debug__" : Str)) = false := by decide) (he : starEach (e :: es) X.env = (false, eval e X.env) :: starEach es X.env := by rfl) (hpl : (backTo pos (starEach es X.env)).any (·.1) = false := by rfl) :
    PE X (.Call (.Name x p) (e :: es) [] pos) (tCall sp dvs E t) := by
  intro pins s σ H Q I h
  refine wpAny_Call_Name_kw (ld_glob I hg hm ?_ hdb)
  refine PySem.W.callWith_K (h₀ := X.base) I.ok.mod.kin hk (thn (ha pos pins s σ H _ I h) fun us s1 ⟨vs, H1, I1, r, q⟩ => ⟨I1.kIn, ?_⟩) he hpl
  exact run_fn F hr hb hd hx I1 r q
/-- what a class must have to be made -/
structure Mk (K : PySem.W.Frag) (C f : Addr) : Prop where
  makes : PySem.W.makesIn K C = true
  init : PySem.W.findIn K (.ref C) "__init__" = some (some (.ref f))
  fn : PySem.W.isFn K (.ref f) = true
  kp : PySem.W.keepIn K (.ref C) = true

end

/-! ### keywords -/
/-- the values of the keywords, from the left -/
def PK (X : Cx) (kws : List Keyword) (t : TA) : Prop :=
  ∀ (pos : Pos) (pins : List (Addr × Obj)) (s : Shared) (σ : St) (H : Hp) (Q : List V → Hp → Prop), Inv X pins σ H s → t σ H Q → wpAny (model X.prog X.w) X.A (evalAll ((backToKw pos (keywordEach kws X.env)).map (·.2))) (AP X pins σ Q) X.xe s
section
variable {X : Cx} {CX : CXT} {k : Nat} {f C : Addr} {fd : FuncData} {ps ks : List Str} {sp : Sp} {E : XK} {x m : Str} {p pos apos kpos : Pos} {e o : Expr} {es : List Expr} {kws : List Keyword} {te ta : TE} {t tk : TA} {nm : Option Str}
/-- how a call with keywords binds: g puts the positional values us and the keywords' values ws (names ks) in the parameters' order, defaults among them -/
structure KBinds (K : PySem.W.Frag) (fd : FuncData) (ps ks : List Str) (g : List Value → List Value → List Value) (gV : List V → List V → List V) : Prop where
  to : ∀ (s : Shared) (us ws : List Value), K.In s.heap → (g us ws).length = ps.length → BindsTo s fd ⟨us, ks.zip ws⟩ (ps.zip (g us ws))
  rel : ∀ {vs : List V} {us : List Value} {zs : List V} {ws : List Value}, Vals vs us → Vals zs ws → Vals (gV vs zs) (g us ws)
def tCallK (sp : Sp) (gV : List V → List V → List V) (E : XK) (t tk : TA) : TE := fun σ H Q => t σ H fun vs H1 => tk σ H1 fun zs H2 => sp (gV vs zs) H2 Q E
variable {g : List Value → List Value → List Value} {gV : List V → List V → List V}
end

/-! ### a def's body keeps its promise -/
/-- names: the parameters first -/
structure FnScope (N P : List Str) (sc : Scope) : Prop where
  kind : sc.kind = .function
  co : sc.isCoroutine = false
  gen : sc.isGenerator = false
  nd : N.Nodup
  pre : N.take P.length = P
  par : ∀ x ∈ P, sc.names.lookup x = some .local ∨ sc.names.lookup x = some .cell
  nofree : ∀ y ∈ sc.names, y.2 ≠ .free

theorem bindL_out {kindOf : Str → Option NameKind} {x : Str} : ∀ {binds : List (Str × Value)} {m : Str → Option Value}, (∀ v, (x, v) ∉ binds) → bindL kindOf binds m x = m x
  | [], _, _ => rfl
  | (n, v) :: r, m, h => by
    unfold bindL
    rw [bindL_out fun w hw => h w (List.mem_cons_of_mem _ hw)]
    split
    · have : x ≠ n := by rintro rfl; exact h v List.mem_cons_self
      simp [this]
    · rfl
theorem bindC_out {kindOf : Str → Option NameKind} {x : Str} : ∀ {binds : List (Str × Value)} {m : Str → Option Value}, (∀ v, (x, v) ∉ binds) → bindC kindOf binds m x = m x
  | [], _, _ => rfl
  | (n, v) :: r, m, h => by
    unfold bindC
    rw [bindC_out fun w hw => h w (List.mem_cons_of_mem _ hw)]
    split
    · rfl
    · have : x ≠ n := by rintro rfl; exact h v List.mem_cons_self
      simp [this]
theorem bindL_get {kindOf : Str → Option NameKind} {x : Str} {v : Value} : ∀ {P : List Str} {vs : List Value} {i : Nat} {m : Str → Option Value}, P.Nodup → P[i]? = some x → vs[i]? = some v → kindOf x = some .local →
    bindL kindOf (P.zip vs) m x = some v
  | [], _, _, _, _, h, _, _ => by simp at h
  | _ :: _, [], _, _, _, _, h, _ => by simp at h
  | p :: P, w :: vs, 0, m, nd, h1, h2, hk => by
    simp at h1 h2; subst h1; subst h2
    show bindL kindOf ((p, w) :: P.zip vs) m p = _
    unfold bindL
    rw [bindL_out fun v hv => (List.nodup_cons.mp nd).1 (List.of_mem_zip hv).1, if_pos hk]
    simp
  | p :: P, w :: vs, i + 1, m, nd, h1, h2, hk => by
    show bindL kindOf ((p, w) :: P.zip vs) m x = _
    unfold bindL
    exact bindL_get (i := i) (List.nodup_cons.mp nd).2 (by simpa using h1) (by simpa using h2) hk
theorem bindC_get {kindOf : Str → Option NameKind} {x : Str} {v : Value} : ∀ {P : List Str} {vs : List Value} {i : Nat} {m : Str → Option Value}, P.Nodup → P[i]? = some x → vs[i]? = some v → kindOf x ≠ some .local →
    bindC kindOf (P.zip vs) m x = some v
  | [], _, _, _, _, h, _, _ => by simp at h
  | _ :: _, [], _, _, _, _, h, _ => by simp at h
  | p :: P, w :: vs, 0, m, nd, h1, h2, hk => by
    simp at h1 h2; subst h1; subst h2
    show bindC kindOf ((p, w) :: P.zip vs) m p = _
    unfold bindC
    rw [bindC_out fun v hv => (List.nodup_cons.mp nd).1 (List.of_mem_zip hv).1, if_neg hk]
    simp
  | p :: P, w :: vs, i + 1, m, nd, h1, h2, hk => by
    show bindC kindOf ((p, w) :: P.zip vs) m x = _
    unfold bindC
    exact bindC_get (i := i) (List.nodup_cons.mp nd).2 (by simpa using h1) (by simpa using h2) hk

/-- the names' values at the entry -/
def start (N : List Str) (vs : List V) : St := vs.map some ++ List.replicate (N.length - vs.length) none

/-- the context of a def's body, at its entry; an exception leaves the frame, then lies as CX says -/
def cxOf (CX : CXT) (P : Program) (w : World) (K : PySem.W.Frag) (mg : Str → Option Value) (base : Heap) (N : List Str) (qual : Str) (scope : Scope) (f : Addr) (cd : Value) (A : Around) (outer : List Env) (s : Shared) (H : Hp) (E : XK) : Cx where
  prog := P
  w := w
  K := K
  mg := mg
  base := base
  A := A.deeper (envOfC qual scope s.heap.objs.size f cd)
  N := N
  s₀ := s
  H₀ := H
  env := envOfC qual scope s.heap.objs.size f cd
  outer := outer
  stack := envOfC qual scope s.heap.objs.size f cd :: outer
  ex := []
  calm := true
  fn := fun _ => true
  pn := []
  xe := fun e s' => wpAny (model P w) (A.deeper (envOfC qual scope s.heap.objs.size f cd)) (leaving (envOfC qual scope s.heap.objs.size f cd) e) (fun _ s'' => CX outer H s E e s'') (fun e' s'' => CX outer H s E e' s'') s'

theorem cell_has {sc : Scope} {n : Nat} {x : Str} (h : sc.names.lookup x = some .cell) : ∃ c, (cellsFrom n sc.names []).lookup x = some c := by
  have q := PySem.W.cellsFrom_some sc.names n [] (.inl h)
  exact Option.isSome_iff_exists.mp q

theorem inv_start {CX : CXT} {P : Program} {w : World} {K : PySem.W.Frag} {mg : Str → Option Value} {base : Heap} {N ps : List Str} {qual : Str} {scope : Scope} {f : Addr} {cd : Value} {A : Around} {outer : List Env} {s s1 : Shared} {H : Hp} {E : XK} {us : List Value} {vs : List V}
    (S : FnScope N ps scope) (hd : A.handled = none) (e0 : Env0 P w K mg base A outer s H) (hl : vs.length = ps.length) (r : Vals vs us)
    (x : InCallC s s.heap.objs.size (bindL (envOfC qual scope s.heap.objs.size f cd).kindOf (ps.zip us) fun _ => none) (cellsFrom (s.heap.objs.size + 1) scope.names []) (bindC (envOfC qual scope s.heap.objs.size f cd).kindOf (ps.zip us) fun _ => none) s1) :
    Inv (cxOf CX P w K mg base N qual scope f cd A outer s H E) [] (start N vs) H s1 := by
  have hpl : ps.length ≤ N.length := by have := congrArg List.length S.pre; rw [List.length_take] at this; omega
  obtain ⟨h1, tk, rfl, hk⟩ := x.done
  have noA : ∀ b : Addr, b ∉ (cxOf CX P w K mg base N qual scope f cd A outer s H E).ex := fun b z => absurd (show b ∈ ([] : List Addr) from z) (by simp)
  refine ⟨⟨e0.mod, S.kind, rfl, rfl, Nat.le_refl _, fun y z c h1 h2 => ?_, fun y hy => ?_, fun y c _ h => ?_, fun _ => hd, Around.frames_deeper e0.frames, .inr ⟨rfl, rfl⟩, fun b z => absurd z (noA b), e0.bs, e0.bsz, fun b _ _ => noA b, fun b z => absurd z (noA b), e0.funs, e0.frf⟩,
    rfl, e0.bare, Un.kept hk, ⟨_, x.toInCall.ns, fun i y v h1 h2 h3 => ?_⟩, fun y c h => ⟨_, x.cell y c h⟩, e0.hok.fresh (Nat.le_refl _), fun y c h => ?_, fun p hp => absurd (show p ∈ ([] : List (Addr × Obj)) from hp) (by simp), e0.hok.kept hk, ?_⟩
  · exact name_of_addr x.apart (PySem.mem_of_lookup h1) (PySem.mem_of_lookup h2)
  · have hy : scope.names.lookup y = some .cell ∨ scope.names.lookup y = some .free := hy
    rcases hy with hy | hy
    · exact cell_has hy
    · exact absurd rfl (S.nofree _ (PySem.mem_of_lookup hy))
  · exact Nat.le_of_lt (x.above y c (PySem.mem_of_lookup h))
  · have hi : i < vs.length := by
      unfold start at h2
      by_cases hi : i < vs.length
      · exact hi
      · rw [List.getElem?_append_right (by simpa using hi)] at h2
        rw [List.getElem?_replicate] at h2
        split at h2 <;> cases h2
    have ha : vs[i]? = some v := by
      unfold start at h2
      rw [List.getElem?_append_left (by simpa using hi), List.getElem?_map] at h2
      cases e : vs[i]? with
      | none => rw [e] at h2; cases h2
      | some a => rw [e] at h2; cases h2; rfl
    obtain ⟨u, hu, rv⟩ := r.get ha
    have hp : ps[i]? = some y := by
      rw [← S.pre, List.getElem?_take_of_lt (by omega)]; exact h1
    have ndP : ps.Nodup := by rw [← S.pre]; exact S.nd.sublist (List.take_sublist _ _)
    refine ⟨u, rv, ?_⟩
    rcases S.par y (List.mem_of_getElem? hp) with k | k
    · exact .inl ⟨k, bindL_get ndP hp hu k⟩
    · obtain ⟨c, e⟩ := cell_has (n := s.heap.objs.size + 1) k
      refine .inr ⟨.inl k, c, e, ?_⟩
      have q := x.cell y c e
      rw [bindC_get ndP hp hu (by show scope.names.lookup y ≠ _; rw [k]; decide)] at q
      exact q
  · exact e0.hok.fresh (Nat.le_of_lt (x.above y c (PySem.mem_of_lookup h)))
  · unfold start
    show _ = N.length
    rw [List.length_append, List.length_map, List.length_replicate]
    omega

/-- THE RULE: a def (or a method) of the text, by its body. The body's reading t is chosen for each entry; it is run at the parameters' values -/
theorem fn_of {CX : CXT} {P : Program} {w : World} {K : PySem.W.Frag} {mg : Str → Option Value} {base : Heap} {k : Nat} {f : Addr} {name qual : Str} {params : Arguments} {body : List Stmt} {scope : Scope} {dV kV doc pm cdv ct oc : Value} {an od : Option Addr}
    {osl : Array (Option Value)} {N ps : List Str} {sp : Sp} (lk : K.lookup f = some ⟨oc, od, .func (PySem.W.fnOf name qual params body scope dV kV doc pm an cdv ct), osl⟩) (hcd : PySem.W.codeIn K cdv qual = true) (S : FnScope N ps scope)
    (len : ∀ vs H Q E, sp vs H Q E → vs.length = ps.length)
    (hbody : ∀ (A : Around) (outer : List Env) (s : Shared) (H : Hp) (vs : List V) (Q : VK) (E : XK), Room k (A.deeper (envOfC qual scope s.heap.objs.size f cdv)) → sp vs H Q E →
      ∃ t, PSs (cxOf CX P w K mg base N qual scope f cdv A outer s H E) body t ∧ t { nx := fun _ H' => Q .non H', rt := Q } (start N vs) H) :
    FnOk P w K mg base CX (k + 1) f (PySem.W.fnOf name qual params body scope dV kV doc pm an cdv ct) ps sp := by
  refine ⟨len, fun A outer s H args us vs Q E hr e0 hb r hsp => ?_⟩
  have hl := len _ _ _ _ hsp
  have KX : K.In s.heap := e0.mod.kin.keeps fun b o e => (e0.bs b o e).1
  have lim : s.heap.NoLimit := e0.mod.nolimit.keeps fun b o e => (e0.bs b o e).1
  have hkind : ∀ y ∈ ps.zip us, scope.names.lookup y.1 = some .local ∨ (scope.names.lookup y.1 = some .cell ∧ ((cellsFrom (s.heap.objs.size + 1) scope.names []).lookup y.1).isSome = true) := fun ⟨n, v⟩ hy => by
    rcases S.par n (List.of_mem_zip hy).1 with q | q
    · exact .inl q
    · exact .inr ⟨q, PySem.W.cellsFrom_some _ _ _ (.inl q)⟩
  refine codeAny_call_function hr.depth (KX _ _ lk) rfl S.co S.gen rfl (PySem.W.codeRec_of KX hcd) (hb _ _ _ _ ?_)
  refine wpAny_newFunctionEnv_cells S.kind hkind fun env he s1 x => ?_
  subst he
  refine ⟨lim.keeps x.toInCall.keep, codeAny_func ?_⟩
  obtain ⟨t, ht, hq⟩ := hbody A outer s H vs Q E (hr.deeper _) hsp
  have I : Inv (cxOf CX P w K mg base N qual scope f cdv A outer s H E) [] (start N vs) H s1 := inv_start S hr.hd e0 hl r x
  refine wpAny_mono (ht [] s1 (start N vs) H _ I hq) (fun fl s' hs => ?_) fun e s' hs => hs
  have fin : ∀ {σ' : St} {H' : Hp} {v : V} {u : Value}, Inv (cxOf CX P w K mg base N qual scope f cdv A outer s H E) [] σ' H' s' → RelV v u → Q v H' → CE outer P w H s Q u s' :=
    fun {σ' H' v u} J rv q => ⟨v, H', J.os, J.bare, J.base, J.hok, rv, q⟩
  cases fl with
  | ret u =>
    obtain ⟨v, σ', H', J, rv, q⟩ := hs
    exact fin J rv q
  | next =>
    obtain ⟨σ', H', J, q⟩ := hs
    exact fin (v := V.non) (u := Value.none) J rfl q
  | brk =>
    obtain ⟨_, _, _, q⟩ := hs
    exact False.elim q
  | cont =>
    obtain ⟨_, _, _, q⟩ := hs
    exact False.elim q
end L2

namespace L2
open PySem PySem.Spec PyProof.Rows
section
variable {X : Cx} {x : Str} {p pos : Pos} {e : Expr} {es : List Expr} {t : TA} {id T : String} {r : List V → Hp → VK → Prop}

def tCB (r : List V → Hp → VK → Prop) (t : TA) : TE := fun σ H Q => t σ H fun vs H1 => r vs H1 Q
/-- f(e, ..), f a built-in function -/
theorem pe_callB (hc : CallR X (.builtin id) r) (hg : Gl X x) (hm : X.mg x = none) (hv : bootBuiltins x = some (.builtin id)) (ha : PA X (e :: es) t) (hn : x ≠ "__name__" := by decide) (hdb : (x == ("__debug__" : Str)) = false := by decide)
    (he : starEach (e :: es) X.env = (false, eval e X.env) :: starEach es X.env := by rfl) (hpl : (backTo pos (starEach es X.env)).any (·.1) = false := by rfl) : PE X (.Call (.Name x p) (e :: es) [] pos) (tCB r t) := by
  intro pins s σ H Q I h
  refine wpAny_Call_Name_kw (ld_blt I hg hm hv ?_ hn hdb)
  exact PyProof.Rows.callWith_builtin1 (thn (ha pos pins s σ H _ I h) fun us s1 ⟨vs, H1, I1, r1, q1⟩ => hc pins s1 σ H1 vs us Q I1 r1 q1) he hpl
/-- T(e, ..), T a built-in type -/
theorem pe_callTy (hc : CallR X (.type T) r) (hg : Gl X x) (hm : X.mg x = none) (hv : bootBuiltins x = some (.type T)) (ha : PA X (e :: es) t) (hn : x ≠ "__name__" := by decide) (hdb : (x == ("__debug__" : Str)) = false := by decide)
    (he : starEach (e :: es) X.env = (false, eval e X.env) :: starEach es X.env := by rfl) (hpl : (backTo pos (starEach es X.env)).any (·.1) = false := by rfl) : PE X (.Call (.Name x p) (e :: es) [] pos) (tCB r t) := by
  intro pins s σ H Q I h
  refine wpAny_Call_Name_kw (ld_blt I hg hm hv ?_ hn hdb)
  exact PyProof.Rows.callWith_type1 (thn (ha pos pins s σ H _ I h) fun us s1 ⟨vs, H1, I1, r1, q1⟩ => hc pins s1 σ H1 vs us Q I1 r1 q1) he hpl
end
end L2

namespace HT
open PySem PyProof.Rows

/-- t < u of tuples of ints -/
def lexLt : List Int → List Int → Bool
  | [], [] => false
  | [], _ :: _ => true
  | _ :: _, [] => false
  | x :: xs, y :: ys => if x = y then lexLt xs ys else decide (x < y)
section
open PySem.SeqAt
open PySem.AutoSeq1 (wpAny_loadPart')
open PySem.MeetsSeq PySem.MeetsSeq2 PySem.MeetsSeq3

end

section
variable {prog : Program} {w : World} {A : Around} {E : Value → Shared → Prop} {s : Shared}

/-- t + u, t not empty -/
theorem cat_tup {t b : Addr} {vs ws : List Value} {Q : Value → Shared → Prop} (ht : IsTup s.heap t vs.toArray) (hb : IsTup s.heap b ws.toArray) (hv : vs ≠ [])
    (h1 : ws = [] → Q (.ref t) s) (h2 : ws ≠ [] → Q (.ref s.heap.objs.size) { s with heap := s.heap.push { cls := .type "tuple", data := .seq (vs ++ ws).toArray } })
    (hsz : vs.length + ws.length ≤ sizeLine) : wpAny (model prog w) A (binaryOp .Add (.ref t) (.ref b)) Q E s := by
  obtain ⟨⟨cls, dd, data, sl⟩, ho, hc, n, hd⟩ := id ht
  obtain ⟨⟨cls2, dd2, data2, sl2⟩, ho2, hc2, n2, hd2⟩ := id hb
  simp only at hc hd hc2 hd2
  subst hc hd hc2 hd2
  have e : vs.toArray ++ ws.toArray = (vs ++ ws).toArray := by simp
  by_cases hw : ws = []
  · exact concat_meets ⟨_, ho, rfl⟩ ⟨_, ho2, rfl⟩ noFill_tuple_add seq_tuple_add PySem.F.slot_tuple_add PySem.F.entry_tuple_add (PySem.F.args_tuple_add_2 _ _)
      (tuple_addW1 t b vs.toArray ws.toArray n n2 dd dd2 sl sl2 (by simpa using hv) (by simp [hw])) ⟨ho, ho2, h1 hw⟩
  · refine concat_meets ⟨_, ho, rfl⟩ ⟨_, ho2, rfl⟩ noFill_tuple_add seq_tuple_add PySem.F.slot_tuple_add PySem.F.entry_tuple_add (PySem.F.args_tuple_add_2 _ _)
      (tuple_addW2 t b vs.toArray ws.toArray n n2 dd dd2 sl sl2 (by simpa using hv) (by simpa using hw) (by rw [List.size_toArray, List.size_toArray]; exact hsz)) ⟨ho, ho2, ?_⟩
    rw [e]
    exact h2 hw

/-! ### t[a:b], not the whole -/
/-- a slice's bound as a place among n (d where it is left out) -/
def sIx (n d : Nat) : Option Int → Nat
  | none => d
  | some v => if v < 0 then (v + (n : Int)).toNat else min v.toNat n
theorem sIx_le (n d : Nat) (hd : d ≤ n) (o : Option Int) : sIx n d o ≤ n := by
  cases o with
  | none => exact hd
  | some v =>
    show (if v < 0 then (v + (n : Int)).toNat else min v.toNat n) ≤ n
    by_cases hv : v < 0
    · rw [if_pos hv]; omega
    · rw [if_neg hv]; exact Nat.min_le_right _ _
theorem clip_eq (v : Int) (n d : Nat) : (if v < 0 then max (v + (n : Int)) 0 else min v (n : Int)) = ((sIx n d (some v) : Nat) : Int) := by
  show (if v < 0 then max (v + (n : Int)) 0 else min v (n : Int)) = (((if v < 0 then (v + (n : Int)).toNat else min v.toNat n) : Nat) : Int)
  by_cases hv : v < 0
  · simp only [if_pos hv]; omega
  · simp only [if_neg hv]; omega
theorem adjust_gen (lo hi : Option Int) (n : Nat) : Builtin.Slice.sliceAdjust lo hi 1 (n : Int) = (((sIx n 0 lo : Nat) : Int), ((sIx n n hi : Nat) : Int)) := by
  have h1 : ¬ ((1 : Int) < 0) := by omega
  unfold Builtin.Slice.sliceAdjust
  simp only [h1, if_false]
  refine Prod.ext ?_ ?_
  · cases lo with
    | none => rfl
    | some v => exact clip_eq v n 0
  · cases hi with
    | none => rfl
    | some v => exact clip_eq v n n
theorem places_gen (i j : Nat) : Builtin.Slice.slicePlaces (i : Int) (j : Int) 1 = j - i := by
  unfold Builtin.Slice.slicePlaces
  have h1 : (1 : Int) > 0 := by omega
  simp only [h1, if_true, Int.ediv_one]
  split <;> omega
theorem slicePart_ {v : Value} {o : Option Int} {Q : Option Int → Shared → Prop} (p : IsPart v o) (h : Q o s) : wpAny (model prog w) A (Builtin.Slice.slicePartIndex v) Q E s := by
  cases p with
  | none => exact slicePart_none h
  | int i t => exact slicePart_int h
theorem sliceApplied_gen {sl : Addr} {vl vu : Value} {lo hi : Option Int} {n : Nat} {Q : Int × Int × Nat → Shared → Prop} (hs : s.heap.IsSliceOf sl vl vu .none) (pl : IsPart vl lo) (pu : IsPart vu hi)
    (h : Q (((sIx n 0 lo : Nat) : Int), 1, sIx n n hi - sIx n 0 lo) s) : wpAny (model prog w) A (Builtin.Slice.sliceApplied (.ref sl) (pure (n : Int))) Q E s := by
  obtain ⟨os, hos, hcs, hds⟩ := id hs
  unfold Builtin.Slice.sliceApplied Builtin.Slice.sliceFields
  refine wpAny_bind (wpAny_bind (wpAny_field hos hds (x := vl) rfl (wpAny_bind (wpAny_field hos hds (x := vu) rfl (wpAny_bind (wpAny_field hos hds (x := .none) rfl (wpAny_pure ?_)))))))
  refine wpAny_bind (slicePart_none ?_)
  show wpAny _ _ (if ((1 : Int) == 0) = true then _ else _) _ _ s
  rw [if_neg (by decide)]
  refine wpAny_bind (slicePart_ pl (wpAny_bind (slicePart_ pu (wpAny_bind (wpAny_pure ?_)))))
  show wpAny _ _ (match Builtin.Slice.sliceAdjust lo hi 1 (n : Int) with | (lo, hi) => pure (lo, (1 : Int), Builtin.Slice.slicePlaces lo hi 1)) _ _ s
  rw [adjust_gen lo hi n]
  show wpAny _ _ (pure (((sIx n 0 lo : Nat) : Int), (1 : Int), Builtin.Slice.slicePlaces ((sIx n 0 lo : Nat) : Int) ((sIx n n hi : Nat) : Int) 1)) _ _ s
  rw [places_gen]
  exact wpAny_pure h
theorem pick_gen (xs : Array Value) (i k : Nat) : ((List.range k).filterMap fun (m : Nat) => xs[((i : Int) + (m : Int) * 1).toNat]?).toArray = ((xs.toList.drop i).take k).toArray := by
  have e : (fun (m : Nat) => xs[((i : Int) + (m : Int) * 1).toNat]?) = fun m => xs[i + m]? := by
    funext m
    have : ((i : Int) + (m : Int) * 1).toNat = i + m := by omega
    rw [this]
  rw [e]
  have := pick_run xs i k
  rw [List.filterMap_map] at this
  have e2 : ((fun x => xs[x]?) ∘ fun x => i + x) = fun m => xs[i + m]? := rfl
  rw [e2] at this
  rw [this]

theorem getItem_tuple_cut {t sl : Addr} {items : Array Value} {vl vu : Value} {lo hi : Option Int} {Q : Value → Shared → Prop} (ht : IsTup s.heap t items) (hs : s.heap.IsSliceOf sl vl vu .none) (pl : IsPart vl lo) (pu : IsPart vu hi)
    (hw : ¬ (sIx items.size 0 lo = 0 ∧ sIx items.size items.size hi = items.size))
    (h : Q (.ref s.heap.objs.size) { s with heap := s.heap.push { cls := .type "tuple", data := .seq ((items.toList.drop (sIx items.size 0 lo)).take (sIx items.size items.size hi - sIx items.size 0 lo)).toArray } })
    (hsz : items.size ≤ sizeLine) : wpAny (model prog w) A (getItem (.ref t) (.ref sl)) Q E s := by
  have htake : sizeOk (.seq ((items.toList.drop (sIx items.size 0 lo)).take (sIx items.size items.size hi - sIx items.size 0 lo)).toArray) := by
    show ((items.toList.drop (sIx items.size 0 lo)).take (sIx items.size items.size hi - sIx items.size 0 lo)).toArray.size ≤ sizeLine
    rw [List.size_toArray, List.length_take, List.length_drop, Array.length_toList]
    omega
  have hj : sIx items.size items.size hi ≤ items.size := sIx_le _ _ (Nat.le_refl _) hi
  obtain ⟨os, hos, hcs, hds⟩ := id hs
  have hTs : s.TypeIs (.ref sl) "slice" := ⟨os, hos, hcs⟩
  unfold getItem
  try with_reducible refine wpAny_holding ?_
  first | refine wpAny_bind (wpAny_pure ?_) | skip
  refine wpAny_bind (wpAny_sequenceKey ht.typeIs (by decide) ?_)
  refine wpAny_bind (wpAny_callSpecial?_slot (name := Str.ofString "__getitem__") ht.typeIs PyProof.Rows.slot_tuple_getitem
    (wpAny_call_entry PyProof.Rows.slot_tuple_getitem ht.typeIs entry_tuple_getitem ?_ (args_tuple_getitem _ _)))
  show wpAny _ _ (Builtin.Tuple.tupleItemsOf (.ref t) >>= _) _ _ s
  refine wpAny_bind (tupleItemsOf_ ht ?_)
  refine wpAny_bind (wpAny_typeOf hTs ?_)
  rw [if_pos (by decide)]
  refine wpAny_bind (sliceApplied_gen hs pl pu ?_)
  have hno : ¬ ((((sIx items.size 0 lo : Nat) : Int) == 0 && (1 : Int) == 1 && (sIx items.size items.size hi - sIx items.size 0 lo) == items.size) = true) := by
    intro q
    rw [Bool.and_eq_true, Bool.and_eq_true] at q
    have q1 : ((sIx items.size 0 lo : Nat) : Int) = 0 := eq_of_beq q.1.1
    have q2 : sIx items.size items.size hi - sIx items.size 0 lo = items.size := eq_of_beq q.2
    exact hw ⟨by omega, by omega⟩
  show wpAny _ _ (if (((sIx items.size 0 lo : Nat) : Int) == 0 && (1 : Int) == 1 && (sIx items.size items.size hi - sIx items.size 0 lo) == items.size) = true then _ else _) _ _ s
  rw [if_neg hno, pick_gen]
  first
    | exact wpAny_bind (m := Builtin.Tuple.tupleExact _) (wpAny_newObj_type (wpAny_pure ⟨_, rfl, wpAny_pure h⟩) htake)
    | exact wpAny_bind (m := Builtin.Tuple.tupleExact _) (wpAny_newObj_type (wpAny_bind (wpAny_pure (wpAny_pure ⟨_, rfl, wpAny_pure h⟩))) htake)
    | exact wpAny_bind (wpAny_bind (m := Builtin.Tuple.tupleExact _) (wpAny_newObj_type (wpAny_pure (wpAny_pure ⟨_, rfl, wpAny_pure h⟩)) htake))
    | exact wpAny_bind (wpAny_bind (m := Builtin.Tuple.tupleExact _) (wpAny_newObj_type (wpAny_pure ⟨_, rfl, wpAny_pure h⟩) htake))
end
end HT

namespace L2
open PySem PySem.Spec PyProof.Rows

/-! ### the parts of a slice -/
abbrev TO := St → Hp → (Option Int → Hp → Prop) → Prop
/-- a slice's part (left out, or an int) -/
def PO (X : Cx) (e : Option Expr) (t : TO) : Prop :=
  ∀ (pins : List (Addr × Obj)) (s : Shared) (σ : St) (H : Hp) (Q : Option Int → Hp → Prop), Inv X pins σ H s → t σ H Q →
    wpAny (model X.prog X.w) X.A (evalPart e X.env) (fun u s' => ∃ o H', Inv X pins σ H' s' ∧ IsPart u o ∧ Q o H') X.xe s
def tNoPart : TO := fun _ H Q => Q none H
def tPart (t : TE) : TO := fun σ H Q => t σ H fun x H1 => ∃ i, x = .int i ∧ Q (some i) H1

section
variable {X : Cx} {e : Expr} {te : TE} {lo hi : Option Expr} {tl th : TO} {pos p2 : Pos}

theorem po_none : PO X none tNoPart := by
  intro pins s σ H Q I h
  rw [evalPart_none]
  exact wpAny_pure ⟨none, H, I, .none, h⟩
theorem po_some (h : PE X e te) : PO X (some e) (tPart te) := by
  intro pins s σ H Q I hw
  rw [evalPart_some]
  refine thn (h pins s σ H _ I hw) fun u s1 ⟨x, H1, I1, r1, q1⟩ => ?_
  obtain ⟨i, rfl, q⟩ := q1
  obtain ⟨t, rfl⟩ := r1
  exact ⟨some i, H1, I1, .int i t, q⟩

/-- what a slice of a value is, by values: the slice object stands at sl -/
def SlR (X : Cx) (r : V → Option Int → Option Int → Hp → VK → Prop) : Prop :=
  ∀ (pins : List (Addr × Obj)) (s : Shared) (σ : St) (H : Hp) (x : V) (v vl vu : Value) (lo hi : Option Int) (sl : Addr) (Q : VK), Inv X pins σ H s → RelV x v → s.heap.IsSliceOf sl vl vu .none → IsPart vl lo → IsPart vu hi → r x lo hi H Q →
    ∃ T id, typeLookup (.type T) "__getitem__" = pure (some (.builtin id)) ∧ s.TypeIs v T ∧ wpAny (model X.prog X.w) X.A (getItem v (.ref sl)) (EP X pins σ Q) X.xe s
theorem SlR.or {r r' : V → Option Int → Option Int → Hp → VK → Prop} (h : SlR X r) (h' : SlR X r') : SlR X (fun x lo hi H Q => r x lo hi H Q ∨ r' x lo hi H Q) := by
  intro pins s σ H x v vl vu lo hi sl Q I rx hs pl pu q
  rcases q with q | q
  · exact h pins s σ H x v vl vu lo hi sl Q I rx hs pl pu q
  · exact h' pins s σ H x v vl vu lo hi sl Q I rx hs pl pu q
def tSl (r : V → Option Int → Option Int → Hp → VK → Prop) (te : TE) (tl th : TO) : TE := fun σ H Q => te σ H fun x H1 => tl σ H1 fun l H2 => th σ H2 fun u H3 => r x l u H3 Q
/-- a[lo:hi], any a -/
theorem pe_slice {r : V → Option Int → Option Int → Hp → VK → Prop} (hr : SlR X r) (he : PE X e te) (hl : PO X lo tl) (hu : PO X hi th) : PE X (.Subscript e (.Slice lo hi none p2) pos) (tSl r te tl th) := by
  intro pins s σ H Q I h
  refine Subscript_ (thn (he pins s σ H _ I h) fun v s1 ⟨x, H1, I1, r1, q1⟩ => ?_)
  refine wpAny_Slice (thn (hl pins s1 σ H1 _ I1 q1) fun vl s2 ⟨l, H2, I2, pl, q2⟩ => thn (hu pins s2 σ H2 _ I2 q2) fun vu s3 ⟨u, H3, I3, pu, q3⟩ => ?_)
  rw [evalPart_none]
  refine wpAny_pure ?_
  have I4 : Inv X pins σ H3 { s3 with heap := s3.heap.push { cls := .type "slice", data := .fields #[vl, vu, .none] } } := I3.kept (t' := s3.toks) fun b ob q => Heap.get?_push_of_some _ q
  obtain ⟨T, id, hT, ht, hg⟩ := hr pins { s3 with heap := s3.heap.push { cls := .type "slice", data := .fields #[vl, vu, .none] } } σ H3 x v vl vu l u s3.heap.objs.size Q I4 r1 (Heap.IsSliceOf.new ..) pl pu q3
  show wpAny (model X.prog X.w) X.A (subscriptTail e (.Slice lo hi none p2) v (.ref s3.heap.objs.size)) (EP X pins σ Q) X.xe { s3 with heap := s3.heap.push { cls := .type "slice", data := .fields #[vl, vu, .none] } }
  exact tail_any (ops := [.ref s3.heap.objs.size, v]) ht hT hg (by with_unfolding_all rfl)

/-- the items of xs[lo:hi] -/
def cutV (xs : List V) (lo hi : Option Int) : List V := (xs.drop (HT.sIx xs.length 0 lo)).take (HT.sIx xs.length xs.length hi - HT.sIx xs.length 0 lo)
theorem cutV_length (xs : List V) (lo hi : Option Int) : (cutV xs lo hi).length ≤ xs.length := by
  unfold cutV
  rw [List.length_take, List.length_drop]
  omega
/-- t[lo:hi], not the whole of it (the whole would be t itself) -/
def rSlT (K : PySem.W.Frag) : V → Option Int → Option Int → Hp → VK → Prop := fun x lo hi H Q => ∃ a xs, x = .ref a ∧ SqT K H a xs ∧
  ¬ (HT.sIx xs.length 0 lo = 0 ∧ HT.sIx xs.length xs.length hi = xs.length) ∧ ∀ p, H p = none → Q (.ref p) (upd H p (.tup (cutV xs lo hi)))
theorem sl_tup : SlR X (rSlT X.K) := by
  intro pins s σ H x v vl vu lo hi sl Q I rx hs pl pu h
  obtain ⟨a, xs, rfl, hx, hw, q⟩ := h
  cases rx
  obtain ⟨its, r, ht, hz⟩ := I.tuple hx
  have hlen : its.toArray.size = xs.length := by rw [List.size_toArray]; exact r.length.symm
  refine ⟨"tuple", _, PyProof.Rows.slot_tuple_getitem.lookup, ht.typeIs, ?_⟩
  refine HT.getItem_tuple_cut ht hs pl pu (by rw [hlen]; exact hw) ?_ (by rw [hlen]; exact hz)
  rw [hlen]
  refine ⟨.ref s.heap.objs.size, _, I.laid (t' := s.toks) (o := .tup (cutV xs lo hi)) (fun b ob q => Heap.get?_push_of_some _ q) (Nat.le_refl _) ?_, rfl, q _ (I.hok.fresh (Nat.le_refl _))⟩
  exact ⟨Nat.le_trans (cutV_length xs lo hi) hz, _, (r.drop (HT.sIx xs.length 0 lo)).take (HT.sIx xs.length xs.length hi - HT.sIx xs.length 0 lo), IsTup.new _ _⟩

/-! ### t < u, t + u -/
def rLtT (K : PySem.W.Frag) : R2 := fun x y H Q => ∃ a b ns ms, x = .ref a ∧ y = .ref b ∧ SqT K H a (ns.map V.int) ∧ SqT K H b (ms.map V.int) ∧ Q (.bl (HT.lexLt ns ms)) H
/-- t + u, t not empty: u empty gives t itself -/
def rCatT (K : PySem.W.Frag) : R2 := fun x y H Q => ∃ a b xs ys, x = .ref a ∧ y = .ref b ∧ SqT K H a xs ∧ SqT K H b ys ∧ xs ≠ [] ∧ xs.length + ys.length ≤ sizeLine ∧
  (ys = [] → Q (.ref a) H) ∧ (ys ≠ [] → ∀ p, H p = none → Q (.ref p) (upd H p (.tup (xs ++ ys))))
theorem Vals.nil_iff {xs : List V} {us : List Value} (r : Vals xs us) : us = [] ↔ xs = [] := by
  cases r with
  | nil => simp
  | cons _ _ => simp
theorem op_catT : OpR X (binaryOp .Add) (rCatT X.K) := by
  intro pins s σ H x y v u Q I rx ry h
  obtain ⟨a, b, xs, ys, rfl, rfl, ha, hb, hx, hz, q1, q2⟩ := h
  cases rx
  cases ry
  obtain ⟨its, r1, p1, _⟩ := I.tuple ha
  obtain ⟨its2, r2, p2, _⟩ := I.tuple hb
  refine HT.cat_tup p1 p2 (fun z => hx (r1.nil_iff.mp z)) (fun z => ⟨.ref a, H, I, rfl, q1 (r2.nil_iff.mp z)⟩) (fun z => ?_) (by rw [← r1.length, ← r2.length]; exact hz)
  refine ⟨.ref s.heap.objs.size, _, I.laid (t' := s.toks) (o := .tup (xs ++ ys)) (fun b ob q => Heap.get?_push_of_some _ q) (Nat.le_refl _) ?_, rfl, q2 (fun w => z (r2.nil_iff.mpr w)) _ (I.hok.fresh (Nat.le_refl _))⟩
  exact ⟨by rw [List.length_append]; exact hz, _, r1.append r2, IsTup.new _ _⟩
end
end L2

namespace L2
open PySem PySem.Spec PyProof.Rows

/-! ### places -/
/-- the place that an index of any sign means -/
def ixN (n : Nat) (i : Int) : Option Nat := if 0 ≤ i then (if i < n then some i.toNat else none) else if -(n : Int) ≤ i then some (i + n).toNat else none
def atI {α : Type} (xs : List α) (i : Int) : Option α := (ixN xs.length i).bind fun j => xs[j]?
theorem ixN_seq {n : Nat} {i : Int} {j : Nat} (h : ixN n i = some j) : seqIndex? i n = some j ∧ j < n ∧ -(n : Int) ≤ i ∧ i < n := by
  unfold ixN at h
  by_cases h0 : 0 ≤ i
  · rw [if_pos h0] at h
    by_cases h1 : i < n
    · rw [if_pos h1] at h
      have e : i.toNat = j := Option.some.inj h
      exact ⟨by rw [seqIndex_of h0 h1, e], by omega, by omega, h1⟩
    · rw [if_neg h1] at h; cases h
  · rw [if_neg h0] at h
    by_cases h1 : -(n : Int) ≤ i
    · rw [if_pos h1] at h
      have e : (i + n).toNat = j := Option.some.inj h
      exact ⟨by rw [seqIndex_neg (by omega) h1, e], by omega, h1, by omega⟩
    · rw [if_neg h1] at h; cases h
theorem atI_get {α : Type} {xs : List α} {i : Int} {v : α} (h : atI xs i = some v) : ∃ j, seqIndex? i xs.length = some j ∧ xs[j]? = some v ∧ j < xs.length ∧ -(xs.length : Int) ≤ i ∧ i < xs.length := by
  unfold atI at h
  cases e : ixN xs.length i with
  | none => rw [e] at h; cases h
  | some j =>
    rw [e] at h
    obtain ⟨h1, h2, h3, h4⟩ := ixN_seq e
    exact ⟨j, h1, h, h2, h3, h4⟩
theorem atI_nat {α : Type} {xs : List α} {j : Nat} {v : α} (h : xs[j]? = some v) : atI xs (j : Int) = some v := by
  have hj : j < xs.length := (List.getElem?_eq_some_iff.mp h).1
  have e : ixN xs.length (j : Int) = some j := by
    unfold ixN
    rw [if_pos (by omega), if_pos (by omega)]; simp
  unfold atI; rw [e]; exact h
/-! ### what may be subscripted -/
/-- what stands as an index of a plain subscript -/
def PlainIx (b : Expr) : Prop := ∀ o i, subscripted b false o i = operate [o, i] (getItem o i)
/-- a subscript by values -/
def IxR (X : Cx) (r : R2) : Prop :=
  ∀ (value slice : Expr) (pins : List (Addr × Obj)) (s : Shared) (σ : St) (H : Hp) (x y : V) (v u : Value) (Q : VK), Inv X pins σ H s → RelV x v → RelV y u → r x y H Q →
    subscripted slice false v u = operate [v, u] (getItem v u) → wpAny (model X.prog X.w) X.A (subscriptTail value slice v u) (EP X pins σ Q) X.xe s
/-- a call of a builtin's method by values: the receiver, the arguments -/
def MtR (X : Cx) (id : String) (r : V → List V → Hp → VK → Prop) : Prop :=
  ∀ (pins : List (Addr × Obj)) (s : Shared) (σ : St) (H : Hp) (x : V) (xs : List V) (v : Value) (us : List Value) (Q : VK), Inv X pins σ H s → RelV x v → Vals xs us → r x xs H Q →
    wpAny (model X.prog X.w) X.A (call (.builtin id) (v :: us)) (EP X pins σ Q) X.xe s
section
variable {X : Cx} {a b : Expr} {ta tb : TE} {pos : Pos}
theorem IxR.or {r r' : R2} (h : IxR X r) (h' : IxR X r') : IxR X (fun x y H Q => r x y H Q ∨ r' x y H Q) := by
  intro value slice pins s σ H x y v u Q I rx ry q hs
  rcases q with q | q
  · exact h value slice pins s σ H x y v u Q I rx ry q hs
  · exact h' value slice pins s σ H x y v u Q I rx ry q hs
theorem MtR.or {id : String} {r r' : V → List V → Hp → VK → Prop} (h : MtR X id r) (h' : MtR X id r') : MtR X id (fun x xs H Q => r x xs H Q ∨ r' x xs H Q) := by
  intro pins s σ H x xs v us Q I rx rs q
  rcases q with q | q
  · exact h pins s σ H x xs v us Q I rx rs q
  · exact h' pins s σ H x xs v us Q I rx rs q
/-- a[b] -/
theorem pe_ix {r : R2} (hr : IxR X r) (ha : PE X a ta) (hb : PE X b tb) (hs : PlainIx b) : PE X (.Subscript a b pos) (tOp r ta tb) := by
  intro pins s σ H Q I h
  exact Subscript_ (binT ha hb I h fun v u s2 x y H2 I2 rx ry q => hr a b pins s2 σ H2 x y v u Q I2 rx ry q (hs _ _))

def rIxL (K : PySem.W.Frag) : R2 := fun x y H Q => ∃ p xs i v, x = .ref p ∧ y = .int i ∧ SqL K H p xs ∧ atI xs i = some v ∧ Q v H
def rIxT (K : PySem.W.Frag) : R2 := fun x y H Q => ∃ p xs i v, x = .ref p ∧ y = .int i ∧ SqT K H p xs ∧ atI xs i = some v ∧ Q v H
def rIxS : R2 := fun x y H Q => ∃ z i c, x = .str z ∧ y = .int i ∧ z.length ≤ sizeLine ∧ atI z.cps.toList i = some c ∧ Q (.str ⟨#[c]⟩) H
theorem ix_list : IxR X (rIxL X.K) := by
  intro value slice pins s σ H x y v u Q I rx ry h hs
  obtain ⟨p, xs, i, z, rfl, rfl, hq, he, q⟩ := h
  cases rx
  obtain ⟨t, rfl⟩ := ry
  obtain ⟨its, r, pl, hz⟩ := I.list hq
  obtain ⟨j, h1, h2, h3, h4, h5⟩ := atI_get he
  obtain ⟨w, ew, rw'⟩ := r.get h2
  have hl := r.length
  have hn := line63
  have fin : EP X pins σ Q w s := ⟨z, H, I, rw', q⟩
  by_cases h0 : 0 ≤ i
  · have hj : i.toNat = j := by
      rw [seqIndex_of h0 h5] at h1
      exact Option.some.inj h1
    exact item_listR pl.isList h0 (by omega) (by rw [hj]; simpa using ew) fin hs
  · have hj : (i + (its.toArray.size : Int)).toNat = j := by
      rw [seqIndex_neg (by omega) h4] at h1
      rw [List.size_toArray, ← hl]
      exact Option.some.inj h1
    exact subscriptTail_builtinR (x := w) pl.isList.typeIs slot_list_getitem.lookup
      (wpAny_getItem_list_neg (Q := fun r s' => r = w ∧ EP X pins σ Q r s') pl.isList (by omega) (by rw [List.size_toArray] <;> omega) (by omega) (by rw [hj]; simpa using ew) ⟨rfl, fin⟩) hs
theorem ix_tup : IxR X (rIxT X.K) := by
  intro value slice pins s σ H x y v u Q I rx ry h hs
  obtain ⟨p, xs, i, z, rfl, rfl, hq, he, q⟩ := h
  cases rx
  obtain ⟨t, rfl⟩ := ry
  obtain ⟨its, r, pl, hz⟩ := I.tuple hq
  obtain ⟨j, h1, h2, h3, h4, h5⟩ := atI_get he
  obtain ⟨w, ew, rw'⟩ := r.get h2
  have hl := r.length
  have hn := line63
  have fin : EP X pins σ Q w s := ⟨z, H, I, rw', q⟩
  exact subscriptTail_builtinR (x := w) pl.typeIs slot_tuple_getitem.lookup
    (getItem_tuple (j := j) (Q := fun r s' => r = w ∧ EP X pins σ Q r s') pl (by omega) (by omega) (by rw [List.size_toArray, ← hl]; exact h1) (by simpa using ew) ⟨rfl, fin⟩) hs
/-- list, tuple or str -/
def rIx (K : PySem.W.Frag) : R2 := fun x y H Q => rIxL K x y H Q ∨ rIxT K x y H Q ∨ rIxS x y H Q
/-! ### xs[i] = v, any sign -/
/-- the list's object behind a store -/
theorem mapSeq_set (its : List Value) (n j : Nat) (u : Value) : Obj.mapSeq (·.setIfInBounds j u) { cls := .type "list", data := .seq its.toArray n } = { cls := .type "list", data := .seq (its.set j u).toArray n } := by
  simp [Obj.mapSeq]
theorem Inv.lst {pins : List (Addr × Obj)} {σ : St} {H : Hp} {s : Shared} {p : Addr} {xs : List V} (I : Inv X pins σ H s) (h : H p = some (.lst xs)) :
    ∃ (its : List Value) (n : Nat), Vals xs its ∧ s.heap.get? p = some { cls := .type "list", data := .seq its.toArray n } ∧ xs.length ≤ sizeLine := by
  obtain ⟨z, its, n, r, e⟩ := I.hok p _ h
  exact ⟨its, n, r, e, z⟩
/-- the list at p is written by an update of its object -/
theorem Inv.lstUpd {pins : List (Addr × Obj)} {σ : St} {H : Hp} {s : Shared} {p : Addr} {xs ys : List V} {its its' : List Value} {n n' : Nat} {f : Obj → Obj} (I : Inv X pins σ H s) (h : H p = some (.lst xs))
    (ho : s.heap.get? p = some { cls := .type "list", data := .seq its.toArray n }) (hf : f { cls := .type "list", data := .seq its.toArray n } = { cls := .type "list", data := .seq its'.toArray n' }) (r : Vals ys its') (hz : ys.length ≤ sizeLine) (t : Nat) :
    Inv X pins σ (upd H p (.lst ys)) { s with heap := s.heap.update p f, toks := t } := by
  have e : (s.heap.update p f).get? p = some { cls := .type "list", data := .seq its'.toArray n' } := by
    rw [Heap.get?_update_self f ho (by rw [hf] <;> rfl), hf]
  refine I.write (x := p) (e := p) (by rw [h]; trivial) (.inl rfl) (fun b u hb q => (Heap.get?_update_other _ _ (Ne.symm hb)).trans q) ⟨_, e⟩ ?_
  exact ⟨hz, its', n', r, e⟩
def rSetL : V → V → V → Hp → (Hp → Prop) → Prop := fun o i v H Q => ∃ p xs k j, o = .ref p ∧ i = .int k ∧ H p = some (.lst xs) ∧ ixN xs.length k = some j ∧ Q (upd H p (.lst (xs.set j v)))
theorem set_list : PSet X rSetL := by
  intro pins s σ H o i v ov iv u Q I ro ri rv h
  obtain ⟨p, xs, k, j, rfl, rfl, hp, hj, q⟩ := h
  cases ro
  obtain ⟨t, rfl⟩ := ri
  obtain ⟨its, n, r, ho, hz⟩ := I.lst hp
  obtain ⟨h1, h2, h3, h4⟩ := ixN_seq hj
  have hl := r.length
  have hn := line63
  have I' : Inv X pins σ (upd H p (.lst (xs.set j v))) { s with heap := s.heap.update p (Obj.mapSeq (·.setIfInBounds j u)) } :=
    I.lstUpd hp ho (mapSeq_set its n j u) (r.set rv j) (by rw [List.length_set]; exact hz) s.toks
  by_cases h0 : 0 ≤ k
  · have hk : k.toNat = j := by
      rw [seqIndex_of h0 h4] at h1
      exact Option.some.inj h1
    exact PySem.W.ki_setAt ho h0 (by omega) (by rw [List.size_toArray, ← hl]; exact h4) (by rw [hk]; exact ⟨_, I', q⟩)
  · have hk : (k + (its.toArray.size : Int)).toNat = j := by
      rw [seqIndex_neg (by omega) h3] at h1
      rw [List.size_toArray, ← hl]
      exact Option.some.inj h1
    exact PySem.W.ki_setBack ho (by omega) (by rw [List.size_toArray, ← hl]; exact h3) (by omega) (by rw [hk]; exact ⟨_, I', q⟩)

/-! ### slices -/
theorem slice_bounds (lo hi : Option Int) (n : Nat) : (sliceBounds lo hi none n).1 = ((HT.sIx n 0 lo : Nat) : Int) ∧ (sliceBounds lo hi none n).2.1 = ((HT.sIx n n hi : Nat) : Int) ∧ (sliceBounds lo hi none n).2.2 = 1 := by
  refine ⟨?_, ?_, rfl⟩
  · cases lo with
    | none => simp [sliceBounds, HT.sIx]
    | some i =>
      simp only [sliceBounds, HT.sIx, Option.getD_none, show (1 : Int) > 0 by decide, if_true]
      by_cases h : i < 0
      · simp only [h, if_true] <;> omega
      · simp only [h, if_false] <;> omega
  · cases hi with
    | none => simp [sliceBounds, HT.sIx]
    | some i =>
      simp only [sliceBounds, HT.sIx, Option.getD_none, show (1 : Int) > 0 by decide, if_true]
      by_cases h : i < 0
      · simp only [h, if_true] <;> omega
      · simp only [h, if_false] <;> omega
theorem slicePick_cut (its : List Value) (lo hi : Option Int) : slicePick its.toArray lo hi none = ((its.drop (HT.sIx its.length 0 lo)).take (HT.sIx its.length its.length hi - HT.sIx its.length 0 lo)).toArray := by
  obtain ⟨h1, h2, h3⟩ := slice_bounds lo hi its.toArray.size
  unfold slicePick
  rw [h1, h2, h3]
  simp only [sliceRange_one, pick_run, List.size_toArray] <;> rfl
/-- xs[lo:hi] of a list: a new list -/
def rSlL (K : PySem.W.Frag) : V → Option Int → Option Int → Hp → VK → Prop := fun x lo hi H Q => ∃ a xs, x = .ref a ∧ SqL K H a xs ∧ ∀ p, H p = none → Q (.ref p) (upd H p (.lst (cutV xs lo hi)))
theorem sl_list : SlR X (rSlL X.K) := by
  intro pins s σ H x v vl vu lo hi sl Q I rx hs pl pu h
  obtain ⟨a, xs, rfl, hx, q⟩ := h
  cases rx
  obtain ⟨its, r, ht, hz⟩ := I.list hx
  have hlen := r.length
  refine ⟨"list", _, slot_list_getitem.lookup, ht.isList.typeIs, ?_⟩
  refine wpAny_getItem_list_slice ht.isList hs pl pu .none (by simp) ?_ (by rw [List.size_toArray] <;> omega)
  rw [slicePick_cut, ← hlen]
  refine ⟨.ref s.heap.objs.size, _, I.laid (t' := s.toks) (o := .lst (cutV xs lo hi)) (fun b ob q => Heap.get?_push_of_some _ q) (Nat.le_refl _) ?_, rfl, q _ (I.hok.fresh (Nat.le_refl _))⟩
  exact ⟨Nat.le_trans (cutV_length xs lo hi) hz, _, 0, (r.drop (HT.sIx xs.length 0 lo)).take (HT.sIx xs.length xs.length hi - HT.sIx xs.length 0 lo), Heap.get?_push_size _ rfl⟩

/-! ### in, not in: flat items -/
def flatV : V → Bool
  | .non => true
  | .bl _ => true
  | .int _ => true
  | .str _ => true
  | _ => false
/-- == of flat values -/
def eqV : V → V → Bool
  | .non, .non => true
  | .bl a, .bl b => a == b
  | .bl a, .int b => (if a then 1 else 0) == b
  | .int a, .bl b => a == (if b then 1 else 0)
  | .int a, .int b => a == b
  | .str a, .str b => a == b
  | _, _ => false
/-- the items' answers, read off the values (a value's own answer does not lean on its token) -/
def eqU (x : V) (u : Value) : Bool := match u with
  | .none => eqV .non x
  | .bool b => eqV (.bl b) x
  | .int i _ => eqV (.int i) x
  | .str z _ => eqV (.str z) x
  | _ => false
def inV (x : V) (xs : List V) : Bool := xs.any fun y => eqV y x
/-- x in a list or tuple of flat items -/
def rIn (K : PySem.W.Frag) (neg : Bool) : R2 := fun x y H Q => ∃ p xs, y = .ref p ∧ (SqL K H p xs ∨ SqT K H p xs) ∧ flatV x = true ∧ xs.all flatV = true ∧ Q (.bl (if neg then !inV x xs else inV x xs)) H
/-! ### len, list(x), tuple(x) of any list or tuple that is read -/
theorem call_len_seq : CallR X (.builtin "len") (fun xs H Q => ∃ p ys, xs = [.ref p] ∧ (SqL X.K H p ys ∨ SqT X.K H p ys) ∧ Q (.int ys.length) H) := by
  intro pins s σ H xs us Q I r h
  obtain ⟨p, ys, rfl, hq, q⟩ := h
  obtain ⟨u, rfl, rx⟩ := vals1 r
  cases rx
  have hn := line63
  rcases hq with hq | hq
  · obtain ⟨its, r', pl, hz⟩ := I.list hq
    have hlen := r'.length
    exact Calls.call_len_list pl.isList (by simp only [List.size_toArray] <;> omega) ⟨.int ys.length, H, I.tok _, ⟨s.toks + 1, by rw [List.size_toArray, hlen]⟩, q⟩
  · obtain ⟨its, r', pl, hz⟩ := I.tuple hq
    have hlen := r'.length
    exact len_tuple pl (by simp only [List.size_toArray] <;> omega) ⟨.int ys.length, H, I.tok _, ⟨s.toks + 1, by rw [List.size_toArray, hlen]⟩, q⟩
theorem CallR.or {f : Value} {r r' : List V → Hp → VK → Prop} (h : CallR X f r) (h' : CallR X f r') : CallR X f (fun xs H Q => r xs H Q ∨ r' xs H Q) := by
  intro pins s σ H xs us Q I rs q
  rcases q with q | q
  · exact h pins s σ H xs us Q I rs q
  · exact h' pins s σ H xs us Q I rs q
theorem call_tuple_of : CallR X (.type "tuple") (fun xs H Q => ∃ p ys, xs = [.ref p] ∧ ((SqL X.K H p ys ∧ ∀ l, H l = none → Q (.ref l) (upd H l (.tup ys))) ∨ (SqT X.K H p ys ∧ Q (.ref p) H))) := by
  intro pins s σ H xs us Q I r h
  obtain ⟨p, ys, rfl, h⟩ := h
  obtain ⟨u, rfl, rx⟩ := vals1 r
  cases rx
  rcases h with ⟨hq, q⟩ | ⟨hq, q⟩
  · obtain ⟨its, r', pl, hz⟩ := I.list hq
    have hlen := r'.length
    refine call_tuple_list pl.isList (fun h' kp => ?_) (by simp only [List.size_toArray] <;> omega)
    have I1 : Inv X pins σ H { s with heap := h' } := I.kept (t' := s.toks) kp
    have I2 : Inv X pins σ (upd H h'.objs.size (.tup ys)) { s with heap := h'.push { cls := .type "tuple", data := .seq its.toArray } } :=
      I1.laid (t' := s.toks) (fun b o e => Heap.get?_push_of_some _ e) (Nat.le_refl _) (show ObjOk X.prog X.w _ _ _ (.tup ys) from ⟨hz, its, r', IsTup.new _ _⟩)
    exact ⟨.ref h'.objs.size, _, I2, rfl, q _ (I1.hok.fresh (Nat.le_refl _))⟩
  · obtain ⟨its, r', pl, hz⟩ := I.tuple hq
    exact call_tuple_same pl ⟨.ref p, H, I, rfl, q⟩

/-! ### the call of a builtin's method: o.m(..) -/
/-- the value is of that builtin type -/
def tyV (K : PySem.W.Frag) (T : String) (x : V) (H : Hp) : Prop := match x with
  | .str _ => T = "str"
  | .int _ => T = "int"
  | .ref p => (T = "list" ∧ ∃ xs, SqL K H p xs) ∨ (T = "tuple" ∧ ∃ o, K.lookup p = some o ∧ o.cls = .type "tuple" ∧ o.dict = none) ∨
      (T = "dict" ∧ ((∃ kvs, H p = some (.dK kvs)) ∨ ∃ kvs, H p = some (.dT kvs))) ∨ (T = "set" ∧ ∃ S n, H p = some (.set S n))
  | _ => False
theorem tyV_is {pins : List (Addr × Obj)} {σ : St} {H : Hp} {s : Shared} {T : String} {x : V} {v : Value} (I : Inv X pins σ H s) (r : RelV x v) (ty : tyV X.K T x H) :
    s.TypeIs v T ∧ ∀ a, v = .ref a → ∃ ob, s.heap.get? a = some ob ∧ ob.dict = none := by
  cases x with
  | str z =>
    obtain ⟨t, rfl⟩ := r
    cases (show T = "str" from ty)
    exact ⟨typeIs_str s z t, fun _ e => nomatch e⟩
  | int i =>
    obtain ⟨t, rfl⟩ := r
    cases (show T = "int" from ty)
    exact ⟨typeIs_int s i t, fun _ e => nomatch e⟩
  | ref p =>
    cases r
    rcases ty with ⟨rfl, xs, hq⟩ | ⟨rfl, o, hk, hc, hd⟩ | ⟨rfl, hk⟩ | ⟨rfl, S, n, hk⟩
    · obtain ⟨its, _, pl, _⟩ := I.list hq
      refine ⟨pl.isList.typeIs, fun a e => ?_⟩
      cases e
      obtain ⟨o, n, e, c, hd, _⟩ := pl
      exact ⟨o, e, hd⟩
    · refine ⟨⟨o, I.kIn p o hk, hc⟩, fun a e => ?_⟩
      cases e
      exact ⟨o, I.kIn _ o hk, hd⟩
    · have z : ∃ o, s.heap.get? p = some o ∧ o.ExactDict := by
        rcases hk with ⟨kvs, hk⟩ | ⟨kvs, hk⟩
        · obtain ⟨_, _, _, _, o, _, _, e, ex, _⟩ := I.hok p _ hk
          exact ⟨o, e, ex⟩
        · obtain ⟨_, _, _, _, o, _, _, e, ex, _⟩ := I.hok p _ hk
          exact ⟨o, e, ex⟩
      obtain ⟨o, e, ex⟩ := z
      refine ⟨⟨o, e, ex.1⟩, fun a e2 => ?_⟩
      cases e2
      exact ⟨o, e, ex.2.1⟩
    · obtain ⟨o, _, _, _, e, ex, _⟩ := I.hok p _ hk
      refine ⟨⟨o, e, ex.1⟩, fun a e2 => ?_⟩
      cases e2
      exact ⟨o, e, ex.2.1⟩
  | _ => exact False.elim ty
def tBM0 (K : PySem.W.Frag) (T : String) (r : V → List V → Hp → VK → Prop) (to : TE) : TE := fun σ H Q => to σ H fun x H1 => tyV K T x H1 ∧ r x [] H1 Q
def tBM (K : PySem.W.Frag) (T : String) (r : V → List V → Hp → VK → Prop) (to : TE) (t : TA) : TE := fun σ H Q => to σ H fun x H1 => tyV K T x H1 ∧ t σ H1 fun xs H2 => r x xs H2 Q
variable {o e : Expr} {es : List Expr} {to : TE} {t : TA} {name : Str} {apos cpos : Pos} {T id : String} {r : V → List V → Hp → VK → Prop}
theorem pe_bm0 (pa : PlainAttrs T) (slot : Slot T name id) (hty : typeOf (.builtin id) = pure (.type "method_descriptor")) (hm : MtR X id r) (ho : PE X o to)
    (hbase : attributeBase o name X.env (eval o X.env) = eval o X.env := by rfl) (hline : (apos.endLine == cpos.line) = true := by rfl) : PE X (.Call (.Attribute o name apos) [] [] cpos) (tBM0 X.K T r to) := by
  intro pins s σ H Q I h
  refine wpAny_Call_method0_late hbase hline (thn (ho pins s σ H _ I h) fun v s1 ⟨x, H1, I1, r1, ty, q1⟩ => ?_)
  obtain ⟨h1, h2⟩ := tyV_is I1 r1 ty
  exact ⟨T, id, pa, slot, hty, h1, h2, Calls.callWith_builtin rfl (PySem.evalArgs_none (hm pins s1 σ H1 x [] v [] Q I1 r1 .nil q1))⟩
theorem pe_bm (pa : PlainAttrs T) (slot : Slot T name id) (hty : typeOf (.builtin id) = pure (.type "method_descriptor")) (hm : MtR X id r) (ho : PE X o to) (ha : PA X (e :: es) t)
    (hbase : attributeBase o name X.env (eval o X.env) = eval o X.env := by rfl)
    (hfew : ((backTo cpos (starEach (e :: es) X.env)).all (fun x => !x.1) && (backToKw cpos (keywordEach [] X.env)).all (fun x => x.1.isSome)
      && decide ((e :: es).length + ([] : List Keyword).length + (if ([] : List Keyword).isEmpty then 0 else 1) < 30)) = true := by rfl)
    (hline : (apos.endLine == cpos.line) = true := by rfl) (hs : starEach (e :: es) X.env = (false, eval e X.env) :: starEach es X.env := by rfl) (hplain : (backTo cpos (starEach es X.env)).any (·.1) = false := by rfl) :
    PE X (.Call (.Attribute o name apos) (e :: es) [] cpos) (tBM X.K T r to t) := by
  intro pins s σ H Q I h
  refine wpAny_Call_method_late hbase hfew hline rfl (thn (ho pins s σ H _ I h) fun v s1 ⟨x, H1, I1, r1, ty, q1⟩ => ?_)
  obtain ⟨h1, h2⟩ := tyV_is I1 r1 ty
  refine ⟨T, id, pa, slot, hty, h1, h2, ?_⟩
  have hA := ha cpos pins s1 σ H1 _ I1 q1
  rw [hs] at hA ⊢
  refine Calls.callWith_builtin (by show (false || (backTo cpos (starEach es X.env)).any (·.1)) = false; rw [hplain] <;> rfl) (Calls.evalArgs_plain ?_)
  exact thn hA fun us s2 ⟨vs, H2, I2, r2, q2⟩ => hm pins s2 σ H2 x vs v us Q I2 r1 r2 q2
/- xs.append(e), list.index on a module's tuple .. are MtR facts of 06m -/
end
end L2

namespace L2
open PySem PySem.Spec PyProof.Rows

def MtM (X : Cx) (id : String) (r : V → List V → Hp → VK → Prop) : Prop :=
  ∀ (pins : List (Addr × Obj)) (s : Shared) (σ : St) (H : Hp) (x : V) (xs : List V) (v : Value) (us : List Value) (Q : VK), Inv X pins σ H s → RelV x v → Vals xs us → r x xs H Q →
    wpAny (model X.prog X.w) X.A (call (.builtin id) (v :: us)) (EP X pins σ Q) X.xe s

/-! ### lists of values -/
theorem Vals.one : ∀ {x : V} {us : List Value}, Vals [x] us → ∃ u, us = [u] ∧ RelV x u
  | _, _, .cons r .nil => ⟨_, rfl, r⟩
theorem Vals.two : ∀ {x y : V} {us : List Value}, Vals [x, y] us → ∃ u v, us = [u, v] ∧ RelV x u ∧ RelV y v
  | _, _, _, .cons r (.cons q .nil) => ⟨_, _, rfl, r, q⟩
theorem Vals.zero : ∀ {us : List Value}, Vals [] us → us = []
  | _, .nil => rfl
theorem Vals.dropLast {xs : List V} {us : List Value} (h : Vals xs us) : Vals xs.dropLast us.dropLast := by
  induction h with
  | nil => exact .nil
  | cons r t ih =>
    cases t with
    | nil => exact .nil
    | cons q t' => exact .cons r ih
theorem Vals.eraseIdx : ∀ {xs : List V} {us : List Value} (i : Nat), Vals xs us → Vals (xs.eraseIdx i) (us.eraseIdx i)
  | _, _, _, .nil => .nil
  | _, _, 0, .cons _ t => t
  | _, _, i + 1, .cons r t => .cons r (Vals.eraseIdx i t)
theorem Vals.reverse {xs : List V} {us : List Value} (h : Vals xs us) : Vals xs.reverse us.reverse := by
  induction h with
  | nil => exact .nil
  | cons r t ih => rw [List.reverse_cons, List.reverse_cons]; exact Vals.append ih (.cons r .nil)
section
variable {X : Cx} {pins : List (Addr × Obj)} {σ : St} {H : Hp} {s : Shared} {l b : Addr} {xs ys zs : List V}

/-! ### the two steps: a tracked list is rewritten, a new list is laid -/
theorem Inv.lset {its its' : List Value} {n : Nat} {f : Array Value → Array Value} {t' : Nat} (I : Inv X pins σ H s) (hH : H l = some (.lst xs))
    (e : s.heap.get? l = some { cls := .type "list", data := .seq its.toArray n }) (hf : f its.toArray = its'.toArray) (hv : Vals ys its') (hz : ys.length ≤ sizeLine) :
    Inv X pins σ (upd H l (.lst ys)) { s with heap := s.heap.update l (Obj.mapSeq f), toks := t' } := by
  have q := PySem.IsL.update e f
  rw [hf] at q
  refine I.write (x := l) (e := l) (by rw [hH]; exact trivial) (.inl rfl) (fun b' u hb hu => (Heap.get?_update_other s.heap (Obj.mapSeq f) (Ne.symm hb)).trans hu) ⟨_, q⟩ ?_
  exact ⟨hz, its', _, hv, q⟩
theorem Inv.lnew {its : List Value} {t' : Nat} (I : Inv X pins σ H s) (hv : Vals ys its) (hz : ys.length ≤ sizeLine) :
    Inv X pins σ (upd H s.heap.objs.size (.lst ys)) { s with heap := s.heap.push { cls := .type "list", data := .seq its.toArray }, toks := t' } :=
  I.laid (fun _ _ q => Heap.get?_push_of_some _ q) (Nat.le_refl _) ⟨hz, its, 0, hv, Heap.get?_push_size _ rfl⟩
theorem Inv.fresh (I : Inv X pins σ H s) : H s.heap.objs.size = none := I.hok.fresh (Nat.le_refl _)
theorem Inv.lstM (I : Inv X pins σ H s) (hH : H l = some (.lst xs)) : xs.length ≤ sizeLine ∧ ∃ (its : List Value) (n : Nat), Vals xs its ∧ xs.length = its.length ∧ s.heap.get? l = some { cls := .type "list", data := .seq its.toArray n } := by
  obtain ⟨z, its, n, r, e⟩ := I.hok l _ hH
  exact ⟨z, its, n, r, r.length, e⟩

theorem notLongL {n : Nat} (h : n ≤ sizeLine) : Builtin.List.listTooLong n = false := by
  unfold Builtin.List.listTooLong
  exact decide_eq_false (by omega)
end

section
variable {X : Cx}

/-! ### methods -/
def rAppend : V → List V → Hp → VK → Prop := fun x vs H Q => ∃ l xs y, x = .ref l ∧ vs = [y] ∧ H l = some (.lst xs) ∧ xs.length < sizeLine ∧ Q .non (upd H l (.lst (xs ++ [y])))
theorem mt_append : MtM X "list.append" rAppend := by
  intro pins s σ H x vs v us Q I rx rv h
  obtain ⟨l, xs, y, rfl, rfl, hH, hz, q⟩ := h
  cases rx
  obtain ⟨u, rfl, ru⟩ := rv.one
  obtain ⟨z, its, n, r, hl, e⟩ := I.lstM hH
  refine call_meets F.slot_list_append ⟨_, e, rfl⟩ F.entry_list_append (F.args_list_append_2 _ _) (PySem.list_append l its.toArray n u (by rw [List.size_toArray]; omega)) ⟨e, ?_⟩
  refine ⟨.non, _, I.lset (its' := its ++ [u]) hH e (by simp) (r.append (.cons ru .nil)) ?_, rfl, q⟩
  rw [List.length_append, List.length_singleton]
  omega

def rExtend : V → List V → Hp → VK → Prop := fun x vs H Q => ∃ l b xs zs, x = .ref l ∧ vs = [.ref b] ∧ H l = some (.lst xs) ∧ H b = some (.lst zs) ∧ xs.length + zs.length ≤ sizeLine ∧ Q .non (upd H l (.lst (xs ++ zs)))
theorem mt_extend : MtM X "list.extend" rExtend := by
  intro pins s σ H x vs v us Q I rx rv h
  obtain ⟨l, b, xs, zs, rfl, rfl, hH, hB, hz, q⟩ := h
  cases rx
  obtain ⟨u, rfl, ru⟩ := rv.one
  cases ru
  obtain ⟨z, its, n, r, hl, e⟩ := I.lstM hH
  obtain ⟨z2, its2, n2, r2, hl2, e2⟩ := I.lstM hB
  have hsz : its.toArray.size + its2.toArray.size ≤ sizeLine := by rw [List.size_toArray, List.size_toArray]; omega
  have hlong : ¬ (!its.toArray.isEmpty && Builtin.List.listTooLong (its.toArray.size + its2.toArray.size)) = true := by
    rw [notLongL hsz, Bool.and_false]
    exact Bool.false_ne_true
  refine call_meets F.slot_list_extend ⟨_, e, rfl⟩ F.entry_list_extend (F.args_list_extend_2 _ _)
    (AutoSeq1.list_extend_list_list_0 l its.toArray n b its2.toArray n2 hlong (by rw [List.size_toArray]; omega) (by omega)) ⟨e, e2, ?_⟩
  refine ⟨.non, _, I.lset (its' := its ++ its2) hH e (by simp) (r.append r2) ?_, rfl, q⟩
  rw [List.length_append]
  omega

def rPop : V → List V → Hp → VK → Prop := fun x vs H Q => ∃ l xs y, x = .ref l ∧ vs = [] ∧ H l = some (.lst xs) ∧ xs[xs.length - 1]? = some y ∧ Q y (upd H l (.lst xs.dropLast))
def rPopAt : V → List V → Hp → VK → Prop := fun x vs H Q => ∃ l xs i k y, x = .ref l ∧ vs = [.int i] ∧ H l = some (.lst xs) ∧ -(2 ^ 63) ≤ i ∧ i < 2 ^ 63 ∧ seqIndex? i xs.length = some k ∧ xs[k]? = some y ∧ Q y (upd H l (.lst (xs.eraseIdx k)))
def rReverse : V → List V → Hp → VK → Prop := fun x vs H Q => ∃ l xs, x = .ref l ∧ vs = [] ∧ H l = some (.lst xs) ∧ Q .non (upd H l (.lst xs.reverse))
def rClear : V → List V → Hp → VK → Prop := fun x vs H Q => ∃ l xs, x = .ref l ∧ vs = [] ∧ H l = some (.lst xs) ∧ Q .non (upd H l (.lst []))
/-! ### list + list, list += list, list * int -/
def rCat : R2 := fun x y H Q => ∃ l b xs zs, x = .ref l ∧ y = .ref b ∧ H l = some (.lst xs) ∧ H b = some (.lst zs) ∧ xs.length + zs.length ≤ sizeLine ∧ ∀ p, H p = none → Q (.ref p) (upd H p (.lst (xs ++ zs)))
/-- a list times an int (a negative one is nothing) -/
def rRep : R2 := fun x y H Q => ∃ l k xs, x = .ref l ∧ y = .int k ∧ H l = some (.lst xs) ∧ -(2 ^ 63) ≤ k ∧ k < 2 ^ 63 ∧ xs.length * k.toNat ≤ sizeLine ∧
  ∀ p, H p = none → Q (.ref p) (upd H p (.lst (List.replicate k.toNat xs).flatten))
/-! ### del xs[i] -/
end

/-! ### xs[a:b] = ys -/
section
variable {prog : Program} {w : World} {A : Around} {E : Value → Shared → Prop} {s : Shared}
end

section
variable {X : Cx}
end
end L2

namespace Att
open PySem PySem.W PySem.Calls PyProof.Rows

/-! ### the script -/
theorem ints_of_wellAll {P : Params} {h : Heap} : ∀ (ns : List Int) (vs : List Value), WellAll P h vs (ns.map WData.int) → IntsAre vs ns := by
  intro ns
  induction ns with
  | nil =>
    intro vs w
    rw [List.map_nil] at w
    cases w
    exact .nil
  | cons n ns ih =>
    intro vs w
    rw [List.map_cons] at w
    cases w with
    | cons a b =>
      cases a
      exact .cons _ _ (ih _ b)

theorem script_of {l : OpenLaw} {n : Nat} (hn : l.most = some n) {P : Params} {h : Heap} {args : List WData} {vals : List Value}
    (hpre : l.row.toRowW.claim.pre args = true) (hwl : WellAll P h vals args) :
    ∃ a vs ns, vals = [Value.ref a] ∧ args = [WData.list (ns.map WData.int)] ∧ h.get? a = some { cls := .type "list", data := .seq vs.toArray } ∧ IntsAre vs ns ∧ ns.length ≤ n := by
  have hsh : WShape.hasAll [] args [.list .int] = true := (pre_splitW hpre).1
  have hc : l.pre.holds [] { args := args } = true := (pre_splitW hpre).2
  obtain ⟨d, r, rfl, h1, h2⟩ := hasAllW_cons hsh
  obtain rfl := hasAllW_nil h2
  obtain ⟨xs, rfl, h3⟩ := hasW_list h1
  obtain ⟨ns, rfl⟩ := items_int h3
  have hlen : ns.length ≤ n := by
    unfold OpenLaw.pre at hc
    have h4 : (WTm.not (.lt (.lit (.int (n : Int))) (.len (.arg 0)))).holds [] { args := [.list (ns.map .int)] } = true := by
      have h4 := (holds_andW hc).1
      rw [hn] at h4
      exact h4
    have h5 := condW_of h4 (w_not (w_lt w_lit (w_len_list (w_arg rfl))))
    rw [List.length_map] at h5
    refine Nat.le_of_not_lt fun q => ?_
    have q' : (n : Int) < ((ns.length : Nat) : Int) := by omega
    first
      | (rw [decide_eq_true q'] at h5; exact absurd h5 (by decide))
      | (simp at h5; omega)
  cases hwl with
  | cons w1 w2 =>
    cases w2
    cases w1 with
    | list ho hall => exact ⟨_, _, ns, rfl, rfl, ho, ints_of_wellAll ns _ hall, hlen⟩

theorem post_true (l : OpenLaw) (args : List WData) : l.row.toRowW.claim.post args (.bool true) args = true :=
  postW_of (r := l.row.toRowW) (X := (true == true))
    (show WShape.has [] (.bool true) .bool = true by first | rfl | decide | simp [WShape.has, WShape.arms, WShape.armsAll])
    (show (WTm.eq .res (.lit (.bool true))).value [] { args := args, res := some (.bool true), after := args } = some (.bool (true == true)) from w_eq_bool (w_res rfl) w_lit) rfl

/-! ### the attachment: holds_open's last premise (the goal 'hc' behind k_head) from a wpAny of the law's body -/
/-- the same from a codeAny of the CALL (for a layer whose function contracts speak of calls) -/
theorem attach_call {l : OpenLaw} {n : Nat} {q : Program} {loose : List Str} {XP : (Str → Option Value) → Heap → Prop} {YP : World → Heap → Prop} {d : DefRec}
    (hn : l.most = some n) (hdf : d.params.defaults = [])
    (call : ∀ (w : World) (s₀ s₁ : Shared) (mg mb : Str → Option Value) (fa : Addr) (o : Obj) (pm cd doc : Value) (a : Addr) (vs : List Value) (ns : List Int),
      Ground q loose [] XP w s₀ mg mb s₁.heap → YP w s₁.heap →
      s₁.heap.get? fa = some o → o.data = .func (docDef d.name d.params d.body d.scope pm cd doc) → s₁.heap.CodeRec cd d.name → mg d.name = some (.ref fa) →
      s₁.heap.get? a = some { cls := .type "list", data := .seq vs.toArray } → IntsAre vs ns → ns.length ≤ n → s₁.gens = #[] →
      codeAny (model l.prog w) callerA (.call (.ref fa) ⟨[.ref a], []⟩) (fun r s' => r = .ok (.ret (.bool true)) ∧ OldK s₁.heap s'.heap ∧ s'.os = s₁.os ∧ AllBare s'.gens) s₁) :
    WalkO q loose XP YP l.row.toRowW d [] (fun f vs => PySem.call f vs) := by
  intro w s₀ s₁ mg mb G Y fa o pm cd doc dV kV ho hd hcd hD hmg hg args vals as hpre hlay hrd hwl hlo
  obtain rfl : dV = .none := Dflts.none hD hdf
  obtain rfl : kV = .none := Dflts.noKw hD
  obtain ⟨a, vs, ns, rfl, rfl, hobj, hints, hlen⟩ := script_of hn hpre hwl
  refine enter_call (codeAny_mono (call w s₀ s₁ mg mb fa o pm cd doc a vs ns G Y ho (fd_plain hd) hcd hmg hobj hints hlen hg) fun r s' hq => ?_)
  obtain ⟨rfl, h2, h3, h4⟩ := hq
  exact ⟨.inl ⟨.bool true, .bool true, [], rfl, fun _ => rfl, .bool true, post_true l _, fun _ => ⟨List.Pairwise.nil, fun _ hm => (nomatch hm)⟩⟩, h2, h3, h4⟩

/-! ### rules over ANY heap (no ledger) from facts about the written part K: the library's own take a ledger (News) for what they write -/
section
variable {prog : Program} {w : World} {A : Around} {E : Value → Shared → Prop} {s : Shared} {K : Frag}

/-! the whole heap as the ledger: makes every rule that writes through a ledger a rule over any heap -/
def noObjs (h : Heap) : Heap := { h with objs := #[] }
def ledger (h : Heap) (L d : Addr) : List (Addr × Obj) := (List.range h.objs.size).filterMap fun a => if a = L ∨ a = d then none else (h.get? a).map fun o => (a, o)
end
end Att

namespace L2
open PySem PySem.Spec PyProof.Rows

theorem vals_ints : ∀ {vs : List Value} {ns : List Int}, IntsAre vs ns → Vals (ns.map V.int) vs
  | _, _, .nil => .nil
  | _, _, .cons n t h => .cons ⟨t, rfl⟩ (vals_ints h)

/-- nothing is tracked but the script, known to the object (or it is an object of the module) -/
def Only (H : Hp) : Prop := ∀ b, H b = none ∨ ∃ o xs, H b = some (.frz o (.lst xs))

/-- THE HEAD: the law's promise, at the heap behind the top. F, the promise of the law's def, may use that base is part of the heap (so K.In base, base.Ns mainGlobals mg stand in Mod) -/
theorem law_call {P : Program} {w : World} {K : PySem.W.Frag} {mg mb : Str → Option Value} {CX : CXT} {k : Nat} {fa a : Addr} {fd : FuncData} {x : Str} {sp : Sp} {s₁ : Shared} {vs : List Value} {ns : List Int}
    (KX : K.In s₁.heap) (hns : s₁.heap.Ns mainGlobals mg) (hb : s₁.heap.Ns builtinsNs mb) (hbb : ∀ x : Str, x ≠ "__name__" → mb x = bootBuiltins x) (hlim : s₁.heap.NoLimit) (hg : s₁.gens = #[])
    (ha : s₁.heap.get? a = some { cls := .type "list", data := .seq vs.toArray }) (hi : IntsAre vs ns) (hl : ns.length ≤ sizeLine) (hr : Room k callerA)
    (F : ∀ base : Heap, K.In base → base.Ns mainGlobals mg → FnOk P w K mg base CX k fa fd [x] sp) (hbind : ∀ (s : Shared) (u : Value), BindsTo s fd ⟨[u], []⟩ [(x, u)])
    (hsp : ∀ H : Hp, Only H → SqL K H a (ns.map V.int) → sp [.ref a] H (fun v _ => v = .bl true) fun _ _ _ => False)
    (hCX : ∀ H e s', CX [] H s₁ (fun _ _ _ => False) e s' → False) :
    codeAny (model P w) callerA (.call (.ref fa) ⟨[.ref a], []⟩) (fun r s' => r = .ok (.ret (.bool true)) ∧ OldK s₁.heap s'.heap ∧ s'.os = s₁.os ∧ AllBare s'.gens) s₁ := by
  have rv := vals_ints hi
  have lenV := hi.length
  -- from an abstract heap in which nothing but the script may be tracked
  have core : ∀ H : Hp, Only H → SqL K H a (ns.map V.int) → HOk P w H s₁.heap → (∀ b, H b ≠ none → b = a) → (H a ≠ none → K.lookup a = none) →
      codeAny (model P w) callerA (.call (.ref fa) ⟨[.ref a], []⟩) (fun r s' => r = .ok (.ret (.bool true)) ∧ OldK s₁.heap s'.heap ∧ s'.os = s₁.os ∧ AllBare s'.gens) s₁ := by
    intro H hO hS hok hA hK
    have base_of : ∀ {b : Addr} {o : Obj}, s₁.heap.get? b = some o → H b = none → (hidT s₁.heap H).get? b = some o := fun e n => hidT_get e n
    have noA : ∀ {b : Addr} {o : Obj} {es : Array DictEntry} {ep : Nat}, s₁.heap.get? b = some o → o.data = .dict es ep → H b = none := fun {b o es ep} e d => by
      cases q : H b with
      | none => rfl
      | some u =>
        have e' : b = a := hA b (by rw [q]; simp)
        subst e'
        rw [ha] at e; cases e
        have d' : Data.seq vs.toArray _ = Data.dict es ep := d
        cases d'
    have nsK : ∀ {b : Addr} {m : Str → Option Value}, s₁.heap.Ns b m → (hidT s₁.heap H).Ns b m := fun {b m} ⟨o, es, ep, e, d, r⟩ => ⟨o, es, ep, base_of e (noA e d), d, r⟩
    have hKb : K.In (hidT s₁.heap H) := fun b o e => base_of (KX b o e) (by
      cases q : H b with
      | none => rfl
      | some u =>
        have e' : b = a := hA b (by rw [q]; simp)
        subst e'
        rw [hK (by rw [q]; simp)] at e; cases e)
    have hM : Mod K mg (hidT s₁.heap H) := ⟨hKb, nsK hns, ⟨mb, nsK hb, hbb⟩, let ⟨mc, h1, h2⟩ := hlim; ⟨mc, nsK h1, h2⟩⟩
    have e0 : Env0 P w K mg (hidT s₁.heap H) callerA [] s₁ H := ⟨rfl, hM, fun b o e => of_hidT e, Nat.le_of_eq (hidT_size _ _), trivial, fun b hb => absurd (show b ∈ ([] : List Addr) from hb) (by simp), hok, .of_eq hg⟩
    refine codeAny_mono ((F _ hKb (nsK hns)).run callerA [] s₁ H ⟨[.ref a], []⟩ [.ref a] [.ref a] _ _ hr e0 (hbind s₁ (.ref a)) (.cons rfl .nil) (hsp H hO hS)) fun r s' h => ?_
    cases r with
    | error e => exact (hCX H e s' h).elim
    | ok fl =>
      cases fl with
      | next => exact False.elim h
      | brk => exact False.elim h
      | cont => exact False.elim h
      | ret u =>
        obtain ⟨v, H', os, bare, un, hok', r', q⟩ := h
        have q' : v = .bl true := q
        subst q'
        obtain rfl : u = Value.bool true := r'
        refine ⟨rfl, OldK.of_keep fun b o e => ?_, os, bare⟩
        cases q : H b with
        | none => exact un.keep b o e q (by intro z; exact absurd (show b ∈ ([] : List Addr) from z) (by simp)) (by simp)
        | some u =>
          rcases hO b with z | ⟨ob, xs, z⟩
          · rw [q] at z; cases z
          · have z2 := un.frzs b ob _ z
            obtain ⟨e1, _⟩ := hok b _ z
            obtain ⟨e2, _⟩ := hok' b _ z2
            rw [e] at e1; cases e1
            exact e2
  cases hk : K.lookup a with
  | some o =>
    -- the script is one of the module's own objects
    have e := KX a o hk
    rw [ha] at e
    cases e
    refine core (fun _ => none) (fun _ => .inl rfl) (.inr ⟨_, vs.toArray, _, hk, rfl, rfl, rfl, by rw [List.size_toArray, lenV]; exact hl, by simpa using rv⟩) (fun b u z => by have z' : (none : Option HO) = some u := z; cases z') (fun b z => absurd rfl z) fun z => absurd rfl z
  | none =>
    refine core (fun b => if b = a then some (.frz { cls := .type "list", data := .seq vs.toArray } (.lst (ns.map V.int))) else none) (fun b => ?_) (.inl (.inr ⟨{ cls := .type "list", data := .seq vs.toArray }, if_pos rfl⟩)) (fun b u z => ?_) (fun b z => ?_) fun _ => hk
    · by_cases hb : b = a
      · exact .inr ⟨_, _, if_pos hb⟩
      · exact .inl (if_neg hb)
    · by_cases hb : b = a
      · have z' := (if_pos hb).symm.trans z
        cases z'
        subst hb
        exact ⟨ha, by rw [List.length_map]; exact hl, vs, _, rv, ha⟩
      · have z' := (if_neg hb).symm.trans z
        cases z'
    · by_cases hb : b = a
      · exact hb
      · exact absurd (if_neg hb) z
end L2

namespace L2
open PySem PySem.Spec PyProof.Rows

abbrev KOf {K : PySem.W.Frag} {h : Heap} (_ : K.In h) : PySem.W.Frag := K

/-- the goal that k_head leaves (case hc), from the law's promise. F gives the function object fd (K's own) once, then the promise over every base -/
theorem walk_of {l : PySem.W.OpenLaw} {n k : Nat} {q : Program} {loose : List Str} {XP : (Str → Option Value) → Heap → Prop} {YP : World → Heap → Prop} {d : DefRec} {K : Params → PySem.W.Frag} {CX : World → CXT} {sp : World → Sp} {x : Str}
    (hn : l.most = some n) (hn2 : n ≤ sizeLine) (hdf : d.params.defaults = []) (hr : Room k callerA)
    (hY : ∀ (w : World) (h : Heap), YP w h → (K w.params).In h)
    (F : ∀ (w : World) (mg : Str → Option Value) (fa : Addr) (h : Heap), (K w.params).In h → h.Ns mainGlobals mg → mg d.name = some (.ref fa) →
      ∃ fd : FuncData, (∀ (s : Shared) (u : Value), BindsTo s fd ⟨[u], []⟩ [(x, u)]) ∧
        ∀ base : Heap, (K w.params).In base → base.Ns mainGlobals mg → FnOk l.prog w (K w.params) mg base (CX w) k fa fd [x] (sp w))
    (hsp : ∀ (w : World) (H : Hp) (a : Addr) (ns : List Int), ns.length ≤ n → Only H → SqL (K w.params) H a (ns.map V.int) → sp w [.ref a] H (fun v _ => v = .bl true) fun _ _ _ => False)
    (hCX : ∀ (w : World) (H : Hp) (s : Shared) (e : Value) (s' : Shared), CX w [] H s (fun _ _ _ => False) e s' → False) :
    PySem.W.WalkO q loose XP YP l.row.toRowW d [] (fun f vs => PySem.call f vs) := by
  refine Att.attach_call hn hdf fun w s₀ s₁ mg mb fa o pm cd doc a vs ns G Y ho hd hcd hmg hobj hints hlen hg => ?_
  have KX := hY w _ Y
  obtain ⟨fd, hb, hF⟩ := F w mg fa _ KX G.T.g hmg
  exact law_call KX G.T.g G.T.b G.T.builtins G.T.nolimit hg hobj hints (Nat.le_trans hlen hn2) hr hF hb (fun H hO hS => hsp w H a ns hlen hO hS) fun H e s' => hCX w H s₁ e s'
end L2

/-! SHORT WORDS over the layer: a def of the text, its body, what a loop and a test want. -/
namespace L2
open PySem PySem.Spec PyProof.Rows

/-! ### the text by places -/
/-- the j-th statement of a class's body -/
def inClass (s : Stmt) (j : Nat) : Stmt := match s with
  | .ClassDef _ _ _ body _ _ _ _ _ _ _ => body.getD j (.Pass ⟨0, 0, 0, 0⟩)
  | _ => .Pass ⟨0, 0, 0, 0⟩
def defArgs (s : Stmt) : Arguments := match s with
  | .FunctionDef _ a _ _ _ _ _ _ _ _ => a
  | _ => { posonlyargs := [], args := [], vararg := none, kwonlyargs := [], kw_defaults := [], kwarg := none, defaults := [] }
def defBody (s : Stmt) : List Stmt := match s with
  | .FunctionDef _ _ b _ _ _ _ _ _ _ => b
  | _ => []
def defScope (s : Stmt) : Scope := match s with
  | .FunctionDef _ _ _ _ _ _ sc _ _ _ => sc
  | _ => { kind := .function, names := [], isGenerator := false, isCoroutine := false }

/-! ### no exception leaves a def -/
abbrev CX0 : CXT := fun _ _ _ _ _ _ => False
abbrev E0 : XK := fun _ _ _ => False
theorem pass0 {X : Cx} : Passes CX0 X E0 := fun _ _ _ _ _ _ _ h => h.elim

/-! ### a def (or method) of the text as it stands behind the top -/
structure Fun (K : PySem.W.Frag) (x qual : Str) (st : Stmt) (f : Addr) (fd : FuncData) : Prop where
  ex : ∃ (oc : Value) (od : Option Addr) (kV doc pm : Value) (an : Option Addr) (cdv ct : Value) (osl : Array (Option Value)),
    fd = PySem.W.fnOf x qual (defArgs st) (defBody st) (defScope st) .none kV doc pm an cdv ct ∧ K.lookup f = some ⟨oc, od, .func fd, osl⟩ ∧ PySem.W.codeIn K cdv qual = true
  kp : PySem.W.keepIn K (.ref f) = true
section
variable {P : Program} {w : World} {K : PySem.W.Frag} {mg : Str → Option Value} {base : Heap}
/-- THE RULE for a def: its body as a term of rules, and the reading of that term -/
theorem Fun.ok {x qual : Str} {st : Stmt} {f : Addr} {fd : FuncData} {N ps : List Str} {k : Nat} {sp : Sp} (F : Fun K x qual st f fd) (S : FnScope N ps (defScope st)) (len : ∀ vs H Q E, sp vs H Q E → vs.length = ps.length)
    (hbody : ∀ (cdv : Value) (A : Around) (outer : List Env) (s : Shared) (H : Hp) (vs : List V) (Q : VK) (E : XK), Room k (A.deeper (envOfC qual (defScope st) s.heap.objs.size f cdv)) → sp vs H Q E →
      ∃ t, PSs (cxOf CX0 P w K mg base N qual (defScope st) f cdv A outer s H E).nox (defBody st) t ∧ t { nx := fun _ H' => Q .non H', rt := Q } (start N vs) H) : FnOk P w K mg base CX0 (k + 1) f fd ps sp := by
  obtain ⟨oc, od, kV, doc, pm, an, cdv, ct, osl, rfl, lk, hcd⟩ := F.ex
  refine fn_of lk hcd S len fun A outer s H vs Q E hr hsp => ?_
  obtain ⟨t, h, q⟩ := hbody cdv A outer s H vs Q E hr hsp
  exact ⟨t, h.nox, q⟩
/-- how its arguments bind (no defaults): h is «fun _ _ _ _ _ _ us hl => match us, hl with | [_, _], _ => rfl», one _ a parameter -/
theorem Fun.binds {x qual : Str} {st : Stmt} {f : Addr} {fd : FuncData} {ps : List Str} (F : Fun K x qual st f fd)
    (h : ∀ (kV doc pm : Value) (an : Option Addr) (cdv ct : Value) (us : List Value), us.length = ps.length → bindArgs (PySem.W.fnOf x qual (defArgs st) (defBody st) (defScope st) .none kV doc pm an cdv ct) ⟨us, []⟩ = pure (ps.zip us)) : Binds K fd ps [] := by
  obtain ⟨oc, od, kV, doc, pm, an, cdv, ct, osl, rfl, lk, hcd⟩ := F.ex
  exact .all (h kV doc pm an cdv ct)
end
theorem small1000 {n : Nat} (h : n ≤ 1000) : n < sizeLine := Nat.lt_of_le_of_lt h (by decide)

/-! ### expressions in short: the name that stands in the i-th slot -/
section
variable {X : Cx}
theorem pv (i : Nat) {x : Str} {pos : Pos} (hN : X.N[i]? = some x := by rfl) (hv : Vis X.env.scope x := by first | exact Or.inl rfl | exact Or.inr (Or.inl rfl) | exact Or.inr (Or.inr rfl)) (hd : (x == ("__debug__" : Str)) = false := by decide)
    (hcd : (x == ("__classdict__" : Str)) = false := by decide) : PE X (.Name x pos) (tVar i) := pe_var hN hv hd hcd
end

/-! ### tests -/
theorem ite2 {c A B : Prop} [Decidable c] (h1 : c → A) (h2 : ¬ c → B) : if c then A else B := by
  by_cases h : c
  · rw [if_pos h]
    exact h1 h
  · rw [if_neg h]
    exact h2 h
/-! ### heaps -/
/-- all that was tracked is as it was -/
def Same (H H' : Hp) : Prop := ∀ b o, H b = some o → H' b = some o
theorem Same.refl (H : Hp) : Same H H := fun _ _ h => h
theorem Same.trans {H H1 H2 : Hp} (a : Same H H1) (b : Same H1 H2) : Same H H2 := fun c o h => b c o (a c o h)
theorem Same.free {H H' : Hp} (e : Same H H') {l : Addr} (h : H' l = Option.none) : H l = Option.none := by
  cases q : H l with
  | none => rfl
  | some o =>
    rw [e l o q] at h
    cases h
theorem Same.seq {K : PySem.W.Frag} {H H' : Hp} {a : Addr} {xs : List V} (e : Same H H') (h : SqL K H a xs) : SqL K H' a xs := by
  rcases h with (h | ⟨o, h⟩) | h
  · exact .inl (.inl (e _ _ h))
  · exact .inl (.inr ⟨o, e _ _ h⟩)
  · exact .inr h

end L2

/-! EXTENSION A of the hand layer: list comprehensions. -/
namespace L2
open PySem PySem.Spec PyProof.Rows

section
variable {prog : Program} {w : World} {A : Around} {R : Result → Shared → Prop} {s : Shared}
theorem compLoop_any {elt target iter : Expr} {ifs : List Expr} {scope : Scope} {pos : Pos} {it acc : Value} {env : Env} (I : Nat → Shared → Prop)
    (turn : ∀ n s, I n s → wpAny (model prog w) A (pyNext it) (fun r s₁ => match r with
      | none => R (.ok .next) s₁
      | some v => wpAny (model prog w) A (letOwnedTupleGo target it v) (fun _ s₁' => wpAny (model prog w) A (assign target env v) (fun _ s₂ =>
          wpAny (model prog w) A (forIn ifs true fun c r => if r = true then do let ok ← isTrue c env (eval c env); pure (ForInStep.yield ok) else pure (ForInStep.yield r)) (fun ok s₃ =>
            if ok = true then wpAny (model prog w) A (eval elt env) (fun x s₄ =>
              wpAny (model prog w) A (call (.builtin "list.append") [acc, x]) (fun _ s₅ => ∃ m, m < n ∧ I m s₅) (notedBy (model prog w) A env fun e s' => R (.error e) s') s₄) (notedBy (model prog w) A env fun e s' => R (.error e) s') s₃
            else ∃ m, m < n ∧ I m s₃) (notedBy (model prog w) A env fun e s' => R (.error e) s') s₂) (notedBy (model prog w) A env fun e s' => R (.error e) s') s₁') (notedBy (model prog w) A env fun e s' => R (.error e) s') s₁) (notedBy (model prog w) A env fun e s' => R (.error e) s') s)
    (n : Nat) (h : I n s) :
    codeAny (model prog w) A (.compLoop (.ListComp elt [⟨target, iter, ifs, 0⟩] scope pos) 0 it acc env) R s := by
  refine codeAny_loop rfl I (fun n s hI => ?_) n h
  show wpAny _ A ((compTurn (.ListComp elt [⟨target, iter, ifs, 0⟩] scope pos) 0 it acc env).onRaise (fun x => do noteFrame x env; theTreesLotGoes x)) _ _ s
  refine wpAny_noted ?_
  rw [compTurn_list]
  refine wpAny_bind (wpAny_standAt (wpAny_bind (wpAny_mono (turn n s hI) (fun r s₁ h₁ => ?_) fun _ _ h' => h')))
  cases r with
  | none => exact wpAny_pure h₁
  | some v =>
    refine wpAny_bind (wpAny_mono h₁ (fun _ s₁' h₁' => ?_) fun _ _ h' => h')
    refine wpAny_bind (wpAny_mono h₁' (fun _ s₂ h₂ => wpAny_bind (wpAny_mono h₂ (fun ok s₃ h₃ => ?_) fun _ _ h' => h')) fun _ _ h' => h')
    cases ok with
    | false => exact wpAny_pure ⟨rfl, h₃⟩
    | true =>
      exact wpAny_bind (wpAny_bind (wpAny_mono h₃ (fun x s₄ h₄ => wpAny_bind (wpAny_mono h₄ (fun _ s₅ h₅ => wpAny_pure (wpAny_pure ⟨rfl, h₅⟩)) fun _ _ h' => h')) fun _ _ h' => h'))
end

/-! ### the closure -/
theorem closure_go {env : Env} : ∀ (names : List (Str × NameKind)) (cs : List (Str × Addr)), (∀ y ∈ names, y.2 = .free → ∃ c, env.cells.lookup y.1 = some c) →
    (∀ y c, cs.lookup y = some c → env.cells.lookup y = some c) →
    ∃ cl : List (Str × Addr), (forIn (m := Sem) names cs fun x r => do
        if (x.2 == NameKind.free) = true then do
          let a ← cellOf env x.1
          pure (ForInStep.yield ((x.1, a) :: r))
        else pure (ForInStep.yield r)) = pure cl ∧ (∀ y c, cl.lookup y = some c → env.cells.lookup y = some c) ∧
      (∀ y, ((y, NameKind.free) ∈ names ∨ ∃ c, cs.lookup y = some c) → ∃ c, cl.lookup y = some c)
  | [], cs, _, hc => ⟨cs, rfl, hc, fun y h => h.elim (fun z => nomatch z) id⟩
  | (n, k) :: r, cs, hn, hc => by
    by_cases hk : k = .free
    · subst hk
      obtain ⟨c, e⟩ := hn (n, .free) List.mem_cons_self rfl
      have hc' : ∀ y d, ((n, c) :: cs).lookup y = some d → env.cells.lookup y = some d := fun y d q => by
        rw [List.lookup_cons] at q
        cases z : y == n with
        | true =>
          rw [z] at q
          have := beq_iff_eq.mp z
          subst this
          cases q
          exact e
        | false => rw [z] at q; exact hc y d q
      obtain ⟨cl, h1, h2, h3⟩ := closure_go r ((n, c) :: cs) (fun y hy => hn y (List.mem_cons_of_mem _ hy)) hc'
      refine ⟨cl, ?_, h2, fun y hy => h3 y ?_⟩
      · rw [List.forIn_cons]
        have ec : cellOf env n = pure c := by unfold cellOf; rw [e]
        show ((if (NameKind.free == NameKind.free) = true then _ else _) >>= _) = _
        rw [if_pos (by rfl)]
        show ((cellOf env n >>= _) >>= _) = _
        rw [ec]
        exact h1
      · rcases hy with hy | ⟨d, hy⟩
        · rcases List.mem_cons.mp hy with z | z
          · cases z
            exact .inr ⟨c, by rw [List.lookup_cons, beq_self_eq_true]⟩
          · exact .inl z
        · refine .inr ?_
          rw [List.lookup_cons]
          cases z : y == n with
          | true => exact ⟨c, rfl⟩
          | false => exact ⟨d, hy⟩
    · obtain ⟨cl, h1, h2, h3⟩ := closure_go r cs (fun y hy => hn y (List.mem_cons_of_mem _ hy)) hc
      refine ⟨cl, ?_, h2, fun y hy => h3 y ?_⟩
      · rw [List.forIn_cons]
        have hb : (k == NameKind.free) = false := by simpa using hk
        show ((if (k == NameKind.free) = true then _ else _) >>= _) = _
        rw [if_neg (by rw [hb]; decide)]
        exact h1
      · rcases hy with hy | hy
        · rcases List.mem_cons.mp hy with z | z
          · cases z; exact absurd rfl hk
          · exact .inl z
        · exact .inr hy
theorem closure_ok {env : Env} {scope : Scope} (hn : ∀ y ∈ scope.names, y.2 = .free → ∃ c, env.cells.lookup y.1 = some c) :
    ∃ cl : List (Str × Addr), closureFor scope env = pure cl ∧ (∀ y c, cl.lookup y = some c → env.cells.lookup y = some c) ∧ (∀ y, (y, NameKind.free) ∈ scope.names → ∃ c, cl.lookup y = some c) := by
  obtain ⟨cl, h1, h2, h3⟩ := closure_go (env := env) scope.names [] hn (fun y c q => nomatch q)
  refine ⟨cl, ?_, h2, fun y hy => h3 y (.inl hy)⟩
  unfold closureFor
  show (_ >>= fun cs => pure cs) = _
  have e : ∀ m : Sem (List (Str × Addr)), (m >>= fun cs => pure cs) = m := fun m => bind_pure m
  rw [e]
  exact h1

/-! ### the block -/
/-- names of the comprehension's block that stand in the enclosing frame as cells: their slots there -/
inductive Ixs (N : List Str) (sc cs : Scope) : List Str → List Nat → Prop
  | nil : Ixs N sc cs [] []
  | cons {y r j q} (h1 : N[j]? = some y) (h2 : sc.names.lookup y = some .cell ∨ sc.names.lookup y = some .free) (h3 : cs.names.lookup y = some .free) (t : Ixs N sc cs r q) : Ixs N sc cs (y :: r) (j :: q)
structure CompScope (N : List Str) (sc : Scope) (N' : List Str) (ix : List Nat) (x : Str) (r : List Str) (cs : Scope) : Prop where
  eq : N' = x :: r
  kind : cs.kind = .function
  hcell : ∀ y ∈ cs.names, y.2 ≠ .cell
  hnames : ∀ y ∈ cs.names, y.2 = .local → cs.names.lookup y.1 = some .local
  hx : cs.names.lookup x = some .local
  nd : (x :: r).Nodup
  fr : ∀ y ∈ cs.names, y.2 = .free → sc.names.lookup y.1 = some .cell ∨ sc.names.lookup y.1 = some .free
  ixs : Ixs N sc cs r ix
def slotsAt (σ : St) (ix : List Nat) : St := ix.map fun j => (σ[j]?).getD none
def compCx (X : Cx) (N' : List Str) (cs : Scope) (cl : List (Str × Addr)) (s3 : Shared) (H3 : Hp) (fp : List Addr) : Cx :=
  { X with N := N', s₀ := s3, H₀ := H3, env := compEnvC cs cl s3.heap.objs.size X.env, outer := X.stack, stack := X.stack, ex := fp, fn := fun _ => false, pn := [], xe := fun _ _ => False }

theorem relabel_free {env : Env} {cs : Scope} (hcell : ∀ y ∈ cs.names, y.2 ≠ .cell) {y : Str} {k : NameKind} (h : (relabel cs env).names.lookup y = some k) (hk : k = .cell ∨ k = .free) : (y, NameKind.free) ∈ cs.names := by
  have m := PySem.mem_of_lookup h
  obtain ⟨⟨n, k0⟩, h1, h2⟩ := List.mem_map.mp m
  by_cases c : (k0 == NameKind.free && env.scope.kind == .function && env.kindOf n == some .cell) = true
  · have h2' : (n, NameKind.cell) = (y, k) := by rw [← h2]; exact (if_pos c).symm
    cases h2'
    have : k0 = .free := by
      have z := (Bool.and_eq_true_iff.mp (Bool.and_eq_true_iff.mp c).1).1
      exact beq_iff_eq.mp z
    rw [this] at h1
    exact h1
  · have h2' : (n, k0) = (y, k) := by rw [← h2]; exact (if_neg c).symm
    cases h2'
    rcases hk with rfl | rfl
    · exact absurd rfl (hcell _ h1)
    · exact h1

theorem lookup_relabel_free {env : Env} : ∀ {names : List (Str × NameKind)} {x : Str}, names.lookup x = some .free →
    (names.map fun (n, k) => if (k == NameKind.free && env.scope.kind == .function && env.kindOf n == some .cell) then (n, NameKind.cell) else (n, k)).lookup x = some .cell ∨
    (names.map fun (n, k) => if (k == NameKind.free && env.scope.kind == .function && env.kindOf n == some .cell) then (n, NameKind.cell) else (n, k)).lookup x = some .free
  | [], _, h => by simp at h
  | (n, k) :: r, x, h => by
    have ih := @lookup_relabel_free env r x
    rw [List.map_cons]
    show List.lookup x ((if (k == NameKind.free && env.scope.kind == .function && env.kindOf n == some .cell) = true then (n, NameKind.cell) else (n, k)) :: _) = _ ∨ List.lookup x ((if (k == NameKind.free && env.scope.kind == .function && env.kindOf n == some .cell) = true then (n, NameKind.cell) else (n, k)) :: _) = _
    cases hx : x == n with
    | true =>
      simp only [List.lookup_cons, hx] at h
      cases h
      by_cases hc : (NameKind.free == NameKind.free && env.scope.kind == .function && env.kindOf n == some .cell) = true
      · rw [if_pos hc]; exact .inl (by simp only [List.lookup_cons, hx])
      · rw [if_neg hc]; exact .inr (by simp only [List.lookup_cons, hx])
    | false =>
      simp only [List.lookup_cons, hx] at h
      by_cases hc : (k == NameKind.free && env.scope.kind == .function && env.kindOf n == some .cell) = true
      · rw [if_pos hc]; simp only [List.lookup_cons, hx]; exact ih h
      · rw [if_neg hc]; simp only [List.lookup_cons, hx]; exact ih h

theorem Ixs.get {N : List Str} {sc cs : Scope} : ∀ {r : List Str} {ix : List Nat}, Ixs N sc cs r ix → ∀ {i : Nat} {y : Str}, r[i]? = some y →
    ∃ j, ix[i]? = some j ∧ N[j]? = some y ∧ (sc.names.lookup y = some .cell ∨ sc.names.lookup y = some .free) ∧ cs.names.lookup y = some .free
  | _, _, .nil, i, y, h => by simp at h
  | _, _, .cons h1 h2 h3 t, 0, y, h => by simp at h; subst h; exact ⟨_, rfl, h1, h2, h3⟩
  | _, _, .cons h1 h2 h3 t, i + 1, y, h => by
    obtain ⟨j, a, b⟩ := Ixs.get t (i := i) (y := y) (by simpa using h)
    exact ⟨j, by simpa using a, b⟩
theorem Ixs.len {N : List Str} {sc cs : Scope} : ∀ {r : List Str} {ix : List Nat}, Ixs N sc cs r ix → r.length = ix.length
  | _, _, .nil => rfl
  | _, _, .cons _ _ _ t => by rw [List.length_cons, List.length_cons, t.len]

section
variable {X : Cx} {pins : List (Addr × Obj)} {σ : St} {H : Hp} {s : Shared}
theorem Inv.compOk {N' r : List Str} {ix : List Nat} {x : Str} {cs : Scope} {cl : List (Str × Addr)} {fp : List Addr} (I : Inv X pins σ H s) (S : CompScope X.N X.env.scope N' ix x r cs)
    (h2 : ∀ y c, cl.lookup y = some c → X.env.cells.lookup y = some c) (h3 : ∀ y, (y, NameKind.free) ∈ cs.names → ∃ c, cl.lookup y = some c) (hf : ∀ b ∈ fp, FpOk X pins H b) (hfp : ∀ b ∈ fp, b < s.heap.objs.size) :
    (compCx X N' cs cl s H fp).Ok where
  mod := I.ok.mod
  kind := S.kind
  glob := I.ok.glob
  blt := I.ok.blt
  above := Nat.le_refl _
  inj := fun a b c ha hb => I.ok.inj a b c (h2 a c ha) (h2 b c hb)
  has := fun y hy => h3 y (hy.elim (fun z => relabel_free S.hcell z (.inl rfl)) fun z => relabel_free S.hcell z (.inr rfl))
  cab := fun _ _ z => nomatch z
  hd := I.ok.hd
  frames := I.ok.frames
  stk := .inl rfl
  exf := fun b hb => ⟨Nat.ne_of_lt (hfp b hb), fun y c e => (hf b hb).2.2.2.2.1 y c (h2 y c e)⟩
  bs := I.bs
  bsz := Nat.le_trans I.ok.bsz I.sz
  noex := fun b o e hb => by
    rcases (hf b hb).2.2.2.1 with z | z
    · exact I.ok.noex b o e z
    · exact absurd (Nat.lt_of_lt_of_le (Heap.lt_size e) (Nat.le_trans I.ok.bsz z)) (Nat.lt_irrefl _)
  exfs := fun b hb hs => by
    rcases List.mem_cons.mp (I.stkSub b hs) with z | z
    · exact (hf b hb).2.1 z
    · exact (hf b hb).2.2.1 z
  funs := I.stack
  frf := I.stkFree
theorem slotsAt_get {σ : St} {ix : List Nat} {i : Nat} {v : V} (h : (slotsAt σ ix)[i]? = some (some v)) : ∃ j, ix[i]? = some j ∧ σ[j]? = some (some v) := by
  unfold slotsAt at h
  rw [List.getElem?_map] at h
  cases e : ix[i]? with
  | none => rw [e] at h; cases h
  | some j =>
    rw [e] at h
    refine ⟨j, rfl, ?_⟩
    cases q : σ[j]? with
    | none =>
      have h' : ((σ[j]?).getD none) = some v := by simpa using h
      rw [q] at h'; cases h'
    | some o =>
      have h' : ((σ[j]?).getD none) = some v := by simpa using h
      rw [q] at h'
      cases o with
      | none => cases h'
      | some u => cases h'; rfl
theorem Inv.compStart {N' r : List Str} {ix : List Nat} {x : Str} {cs : Scope} {cl : List (Str × Addr)} {fp : List Addr} {h1 : Heap} {tk : Nat} {m : Str → Option Value} (I : Inv X pins σ H s) (S : CompScope X.N X.env.scope N' ix x r cs)
    (h2 : ∀ y c, cl.lookup y = some c → X.env.cells.lookup y = some c) (h3 : ∀ y, (y, NameKind.free) ∈ cs.names → ∃ c, cl.lookup y = some c) (hf : ∀ b ∈ fp, FpOk X pins H b) (hfp : ∀ b ∈ fp, b < s.heap.objs.size)
    (hn : h1.Ns s.heap.objs.size m) (hk : ∀ b o, s.heap.get? b = some o → h1.get? b = some o) :
    Inv (compCx X N' cs cl s H fp) [] (none :: slotsAt σ ix) H { s with heap := h1, toks := tk } := by
  have ok := I.compOk (N' := N') (fp := fp) S h2 h3 hf hfp
  obtain ⟨mo, hno, hlo⟩ := id I.loc
  refine ⟨ok, rfl, I.bare, Un.kept hk, ⟨m, hn, fun i y v e1 e2 e3 => ?_⟩, fun y c e => ?_, I.hok.fresh (Nat.le_refl _), fun y c e => I.freeC y c (h2 y c e), fun p hp => absurd (show p ∈ ([] : List (Addr × Obj)) from hp) (by simp), I.hok.kept hk, ?_⟩
  · cases i with
    | zero => cases e2
    | succ i =>
      have e1' : r[i]? = some y := by
        have : N'[i + 1]? = some y := e1
        rw [S.eq] at this
        simpa using this
      obtain ⟨j, j1, j2, j3, j4⟩ := S.ixs.get e1'
      obtain ⟨j', k1, k2⟩ := slotsAt_get (σ := σ) (ix := ix) (i := i) (v := v) (by simpa using e2)
      rw [j1] at k1; cases k1
      obtain ⟨u, ru, lk⟩ := hlo j y v j2 k2 (j3.elim (fun z => .inr (.inl z)) fun z => .inr (.inr z))
      refine ⟨u, ru, ?_⟩
      obtain ⟨c, hc⟩ := h3 y (PySem.mem_of_lookup j4)
      rcases lk with ⟨k, _⟩ | ⟨k, c', e', z⟩
      · have k' : X.env.scope.names.lookup y = some .local := k
        rcases j3 with q | q <;> (rw [q] at k'; cases k')
      · rw [h2 y c hc] at e'
        cases e'
        refine .inr ⟨?_, c, hc, ?_⟩
        · exact lookup_relabel_free (env := X.env) j4
        · obtain ⟨o, ho, hd⟩ := z
          exact ⟨o, hk c o ho, hd⟩
  · obtain ⟨v, o, ho, hd⟩ := I.cell y c (h2 y c e)
    exact ⟨v, o, hk c o ho, hd⟩
  · show (none :: slotsAt σ ix).length = N'.length
    rw [S.eq, List.length_cons, List.length_cons, S.ixs.len]
    unfold slotsAt
    rw [List.length_map]

/-- the tests of a comprehension's clause -/
def PTs (X : Cx) (ifs : List Expr) (t : TT) : Prop :=
  ∀ (E : Value → Shared → Prop) (pins : List (Addr × Obj)) (s : Shared) (σ : St) (H : Hp) (Q : Bool → Hp → Prop), (∀ e s', X.xe e s' → E e s') → Inv X pins σ H s → t σ H Q →
    wpAny (model X.prog X.w) X.A (forIn ifs true fun c r => if r = true then do let ok ← isTrue c X.env (eval c X.env); pure (ForInStep.yield ok) else pure (ForInStep.yield r)) (TP X pins σ Q) E s
def tNoIf : TT := fun _ H Q => Q true H
theorem pts_nil {X : Cx} : PTs X [] tNoIf := fun _ _ _ _ H _ _ I h => wpAny_tests_nil ⟨H, I, h⟩
/-- how a comprehension goes: W by the turn, a measure, the items so far, the heap; Nx, Nn: what the element, a failed test are to reach -/
def CompGo (J : It) (ρ : St) (g : TG) (tt : TT) (te : TE) (acc : Addr) (Z : Hp → Prop) (H1 : Hp) : Prop :=
  ∃ W : Nat → Nat → List V → Hp → Prop, (∃ m, W 0 m [] (upd H1 acc (.lst []))) ∧ ∀ i m xs H, W i m xs H →
    ((J.stop i H ∧ Z H) ∨ (J.go i H ∧ ∃ (Nx : V → Hp → Prop) (Nn : Hp → Prop), (∀ y H4, Nx y H4 → H4 acc = some (.lst xs) ∧ xs.length < sizeLine ∧ ∃ m', m' < m ∧ W (i + 1) m' (xs ++ [y]) (upd H4 acc (.lst (xs ++ [y])))) ∧
      (∀ H3, Nn H3 → ∃ m', m' < m ∧ W (i + 1) m' xs H3) ∧ ∀ v0 x H', J.yld i H x H' → g x (v0 :: ρ) H' fun σ2 H2 => (∃ v, σ2 = v :: ρ) ∧ tt σ2 H2 fun b H3 => if b = true then te σ2 H3 Nx else Nn H3))

theorem comp_core {N' r : List Str} {ix : List Nat} {x : Str} {cs : Scope} {cl : List (Str × Addr)} {tg iter elt : Expr} {ifs : List Expr} {pos : Pos} {J : It} {fp : List Addr} {it : Addr} {tn : Nat → Heap → Prop} {g : TG} {tt : TT} {te : TE} {Z : Addr → Hp → Prop}
    {RR : Value → Addr → Result → Shared → Prop} {E : Value → Shared → Prop}
    (I : Inv X pins σ H s) (hc : X.calm = true) (S : CompScope X.N X.env.scope N' ix x r cs) (h2 : ∀ y c, cl.lookup y = some c → X.env.cells.lookup y = some c) (h3 : ∀ y, (y, NameKind.free) ∈ cs.names → ∃ c, cl.lookup y = some c)
    (T : Turn X.prog X.w X.K tg J fp it tn) (st : tn 0 s.heap) (hf : ∀ b ∈ fp, FpOk X pins H b)
    (hg : ∀ s3 H3, PG (compCx X N' cs cl s3 H3 fp) tg g) (ht : ∀ s3 H3, PTs (compCx X N' cs cl s3 H3 fp) ifs tt) (he : ∀ s3 H3, PE (compCx X N' cs cl s3 H3 fp) elt te)
    (go : ∀ acc, H acc = none → CompGo J (slotsAt σ ix) g tt te acc (Z acc) H)
    (fin : ∀ acc C s' H' m, Inv X pins σ H' s' → FpOk X pins H' C → s'.heap.Ns C m → Z acc H' → RR (.ref acc) C (.ok .next) s') :
    wpAny (model X.prog X.w) X.A (newList []) (fun acc s₃ => wpAny (model X.prog X.w) X.A (newFunctionEnv cs X.env.globals cl [] X.env.qual none .none (some X.env)) (fun cenv s₄ =>
      codeAny (model X.prog X.w) X.A (.compStart (.ListComp elt [⟨tg, iter, ifs, 0⟩] cs pos) 0 (.ref it) acc { cenv with scope := relabel cs X.env }) (RR acc cenv.locals) s₄) E s₃) E s := by
  refine wpAny_newObj_type (wpAny_newFunctionEnv S.hcell (by intro y hy; simp at hy) (fun h₁ hns₁ hsb₁ => ?_) S.kind)
  dsimp only at hns₁ hsb₁ ⊢
  have hfs : ∀ b ∈ fp, b < s.heap.objs.size := fun b hb => by
    obtain ⟨o, e, _⟩ := T.obj _ _ st b hb
    exact Heap.lt_size e
  have I3 : Inv X pins σ (upd H s.heap.objs.size (.lst [])) { s with heap := s.heap.push { cls := .type "list", data := .seq ([] : List Value).toArray } } := I.lnew (its := []) (t' := s.toks) .nil (Nat.zero_le _)
  have nacc : H s.heap.objs.size = none := I.fresh
  have hf3 : ∀ b ∈ fp, FpOk X pins (upd H s.heap.objs.size (.lst [])) b := fun b hb => ⟨by rw [upd_ne (Nat.ne_of_lt (hfs b hb))]; exact (hf b hb).1, (hf b hb).2⟩
  have hfs3 : ∀ b ∈ fp, b < (s.heap.push { cls := .type "list", data := .seq ([] : List Value).toArray }).objs.size := fun b hb => by
    rw [Heap.size_push]; exact Nat.lt_succ_of_lt (hfs b hb)
  generalize hs3 : ({ s with heap := s.heap.push { cls := .type "list", data := .seq ([] : List Value).toArray } } : Shared) = s3 at I3
  generalize hH3 : upd H s.heap.objs.size (.lst []) = H3 at I3 hf3
  have eh : s.heap.push { cls := .type "list", data := .seq ([] : List Value).toArray } = s3.heap := by rw [← hs3]
  rw [eh] at hns₁ hsb₁ hfs3
  have kp : ∀ b o, s3.heap.get? b = some o → h₁.get? b = some o := fun b o e => hsb₁.extBut b o (Nat.ne_of_lt (Heap.lt_size e)) (Heap.get?_push_of_some _ e)
  have I4 : Inv (compCx X N' cs cl s3 H3 fp) [] (none :: slotsAt σ ix) H3 { s3 with heap := h₁, toks := s3.toks + ([] : List (Str × Value)).length } :=
    I3.compStart S h2 h3 hf3 hfs3 hns₁ kp
  have kp2 : ∀ b o, s.heap.get? b = some o → h₁.get? b = some o := fun b o e => kp b o (by rw [← eh]; exact Heap.get?_push_of_some _ e)
  have st4 : tn 0 h₁ := T.keep _ _ _ st fun b hb o e => kp2 b o e
  obtain ⟨W, ⟨m0, w0⟩, turn⟩ := go s.heap.objs.size nacc
  rw [hH3] at w0
  have stat : ∀ {H' : Hp}, (∀ b ∈ fp, H' b = none) → ∀ b ∈ fp, FpOk (compCx X N' cs cl s3 H3 fp) [] H' b := fun hn b hb =>
    ⟨hn b hb, Nat.ne_of_lt (hfs3 b hb), fun hs => by
      rcases List.mem_cons.mp (I.stkSub b hs) with z | z
      · exact (hf b hb).2.1 z
      · exact (hf b hb).2.2.1 z, .inl hb, fun y c e => (hf b hb).2.2.2.2.1 y c (h2 y c e), fun p hp => absurd (show p ∈ ([] : List (Addr × Obj)) from hp) (by simp)⟩
  have es : s3.heap.objs.size = s.heap.objs.size + 1 := by rw [← eh, Heap.size_push]
  have loop : codeAny (model X.prog X.w) X.A (.compLoop (.ListComp elt [⟨tg, iter, ifs, 0⟩] cs pos) 0 (.ref it) (.ref s.heap.objs.size) (compCx X N' cs cl s3 H3 fp).env)
      (RR (.ref s.heap.objs.size) s3.heap.objs.size) { s3 with heap := h₁, toks := s3.toks + ([] : List (Str × Value)).length } := by
    refine compLoop_any (fun n s' => ∃ i v0 H' xs, Inv (compCx X N' cs cl s3 H3 fp) [] (v0 :: slotsAt σ ix) H' s' ∧ tn i s'.heap ∧ (∀ b ∈ fp, H' b = none) ∧ W i n xs H') ?_ m0
      ⟨0, none, H3, [], I4, st4, fun b hb => (hf3 b hb).1, w0⟩
    rintro n s5 ⟨i, v0, H5, xs, I5, st5, fr5, w5⟩
    rcases turn i n xs H5 w5 with ⟨stop, q⟩ | ⟨hgo, Nx, Nn, hNx, hNn, step⟩
    · refine thn (T.done (compCx X N' cs cl s3 H3 fp) rfl rfl rfl hc i [] s5 _ H5 _ I5 (stat fr5) st5 stop) fun r' s6 ⟨hr, I6⟩ => ?_
      subst hr
      have u : Un (frs X.stack) fp H H5 s.heap s6.heap := by
        refine Un.trans (H1 := H3) (h1 := s3.heap) ?_ I6.base
        rw [← hH3, ← eh]
        exact Un.laid (fun _ _ q => Heap.get?_push_of_some _ q) (Nat.le_refl _) nacc
      have e3 : s3.os = s.os := by rw [← hs3]
      have os6 : s6.os = s.os := I6.os.trans e3
      have J6 : Inv X pins σ H5 s6 := I.call' os6 u I6.hok I6.bare fun b hb => ⟨(hf b hb).2.2.2.1, (hf b hb).2.1, (hf b hb).2.2.2.2.1, (hf b hb).2.2.2.2.2⟩
      obtain ⟨m6, n6, _⟩ := I6.loc
      exact fin _ _ s6 H5 m6 J6 (I.fpOk (by rw [es]; exact Nat.le_succ _) I6.free) n6 q
    · refine thn (T.item (compCx X N' cs cl s3 H3 fp) rfl rfl rfl hc i [] s5 _ H5 _ I5 (stat fr5) st5 hgo) fun r' s6 ⟨u, hr, h6⟩ => ?_
      subst hr
      refine thn h6 fun _ s7 ⟨y, H7, I7, r7, y7, st7, fr7⟩ => ?_
      have I7' := I7.pinned (stat fr7) (T.obj _ _ st7)
      refine wpAny_mono (hg s3 H3 _ s7 _ H7 y u _ I7' r7 (step v0 y H7 y7)) (fun _ s8 ⟨σ8, H8, I8, ⟨v8, e8⟩, q8⟩ => ?_) fun _ _ z => z.elim
      subst e8
      have back : ∀ {s9 : Shared} {H9 : Hp} {m' : Nat} {xs' : List V}, Inv (compCx X N' cs cl s3 H3 fp) ([] ++ pinsAt fp s7.heap) (v8 :: slotsAt σ ix) H9 s9 → m' < n → W (i + 1) m' xs' H9 →
          ∃ m, m < n ∧ ∃ i v0 H' xs, Inv (compCx X N' cs cl s3 H3 fp) [] (v0 :: slotsAt σ ix) H' s9 ∧ tn i s9.heap ∧ (∀ b ∈ fp, H' b = none) ∧ W i m xs H' := fun {s9 H9 m' xs'} I9 hm w9 =>
        ⟨m', hm, i + 1, v8, H9, xs', I9.unpinned, T.keep _ _ _ st7 fun b hb o e => (I9.pin (b, o) (List.mem_append_right _ (List.mem_append_right _ (mem_pinsAt hb e)))).1, fun b hb => by
          obtain ⟨o, e, d⟩ := T.obj _ _ st7 b hb
          exact (I9.pin (b, o) (List.mem_append_right _ (List.mem_append_right _ (mem_pinsAt hb e)))).2.1, w9⟩
      refine thn (ht s3 H3 _ _ s8 _ H8 _ (fun _ _ z => z.elim) I8 q8) fun b s9 ⟨H9, I9, q9⟩ => ?_
      cases b with
      | false =>
        rw [if_neg Bool.false_ne_true] at q9 ⊢
        obtain ⟨m', hm, w9⟩ := hNn H9 q9
        exact back I9 hm w9
      | true =>
        rw [if_pos rfl] at q9 ⊢
        refine wpAny_mono (he s3 H3 _ s9 _ H9 _ I9 q9) (fun u2 s10 ⟨y2, H10, I10, r10, q10⟩ => ?_) fun _ _ z => z.elim
        obtain ⟨a10, z10, m', hm, w10⟩ := hNx y2 H10 q10
        refine wpAny_mono (mt_append (X := compCx X N' cs cl s3 H3 fp) _ s10 _ H10 (.ref s.heap.objs.size) [y2] (.ref s.heap.objs.size) [u2] (fun _ H' => H' = upd H10 s.heap.objs.size (.lst (xs ++ [y2]))) I10 rfl (.cons r10 .nil) ⟨_, xs, y2, rfl, rfl, a10, z10, rfl⟩) (fun _ s11 ⟨_, H11, I11, _, e11⟩ => ?_) fun _ _ z => z.elim
        subst e11
        exact back I11 hm w10
  subst hs3
  exact codeAny_compStart_list loop (T.self X.A 0 _ _ _ st4 loop)
end

section
variable {X : Cx} {N' r : List Str} {ix : List Nat} {x : Str} {cs : Scope} {tg iter elt : Expr} {ifs : List Expr} {pos : Pos} {wi : TI} {g : TG} {tt : TT} {te : TE}
/-- [elt for tg in iter if ..] -/
def tComp (wi : TI) (ix : List Nat) (g : TG) (tt : TT) (te : TE) : TE := fun σ H Q => wi σ H fun J H1 => ∀ acc, H1 acc = none → CompGo J (slotsAt σ ix) g tt te acc (fun H' => Q (.ref acc) H') H1
theorem CompScope.clos {sc : Scope} {N : List Str} (S : CompScope N sc N' ix x r cs) {env : Env} (he : env.scope = sc) (has : ∀ y, (env.kindOf y = some .cell ∨ env.kindOf y = some .free) → ∃ c, env.cells.lookup y = some c) :
    ∃ cl : List (Str × Addr), closureFor cs env = pure cl ∧ (∀ y c, cl.lookup y = some c → env.cells.lookup y = some c) ∧ (∀ y, (y, NameKind.free) ∈ cs.names → ∃ c, cl.lookup y = some c) :=
  closure_ok fun y hy hk => has y.1 (by
    subst he
    exact S.fr y hy hk)
theorem pe_comp (hc : X.calm = true) (S : CompScope X.N X.env.scope N' ix x r cs) (hi : PI X tg iter wi)
    (hg : ∀ cl s3 H3 fp, PG (compCx X N' cs cl s3 H3 fp) tg g) (ht : ∀ cl s3 H3 fp, PTs (compCx X N' cs cl s3 H3 fp) ifs tt) (he : ∀ cl s3 H3 fp, PE (compCx X N' cs cl s3 H3 fp) elt te)
    (hs : ∀ x, foldedSetIterable iter X.env x = pure x := by intro _; rfl) : PE X (.ListComp elt [⟨tg, iter, ifs, 0⟩] cs pos) (tComp wi ix g tt te) := by
  intro pins s σ H Q I h
  obtain ⟨cl, c1, c2, c3⟩ := S.clos rfl I.ok.has
  rw [eval_ListComp]
  refine wpAny_comprehension_free (use := none) rfl hs c1 S.kind S.hnames (thn (hi pins s σ H _ I h) fun v s1 h1 => thn h1 fun itv s2 h2 => ?_)
  obtain ⟨it, fp, tn, J, H2, e, I2, T, st2, f2, R⟩ := h2
  subst e
  refine comp_core (RR := fun acc C => compPost (model X.prog X.w) X.A X.xe none (EP X pins σ Q) acc C) I2 hc S c2 c3 T st2 f2 (fun s3 H3 => hg cl s3 H3 fp) (fun s3 H3 => ht cl s3 H3 fp) (fun s3 H3 => he cl s3 H3 fp) R ?_
  intro acc C s' H' m I' fC hn q
  refine ⟨m, hn, fun h' hb => ⟨.ref acc, H', ?_, rfl, q⟩⟩
  exact I'.turned (t' := s'.toks) (fun b o hne e => (hb.2 b hne).trans e) fC.1 fC.2.1 fC.2.2.2.1 fC.2.2.2.2.1 fC.2.2.2.2.2
/-- y = [elt for tg in iter if ..], y a plain local -/
theorem ps_setComp {i : Nat} {y : Str} {py spos : Pos} (hc : X.calm = true) (hN : X.N.Nodup) (hiN : X.N[i]? = some y) (hy : X.env.scope.names.lookup y = some .local) (S : CompScope X.N X.env.scope N' ix x r cs) (hi : PI X tg iter wi)
    (hg : ∀ cl s3 H3 fp, PG (compCx X N' cs cl s3 H3 fp) tg g) (ht : ∀ cl s3 H3 fp, PTs (compCx X N' cs cl s3 H3 fp) ifs tt) (he : ∀ cl s3 H3 fp, PE (compCx X N' cs cl s3 H3 fp) elt te)
    (hsw : swapsWith (.ListComp elt [⟨tg, iter, ifs, 0⟩] cs pos) (some (.Name y py)) spos.line X.env = pure true := by rfl)
    (hs : ∀ x, foldedSetIterable iter X.env x = pure x := by intro _; rfl) : PS X (.Assign [.Name y py] (.ListComp elt [⟨tg, iter, ifs, 0⟩] cs pos) spos) (tAsg (tComp wi ix g tt te) (gName i)) := by
  intro pins s σ H D I h
  obtain ⟨cl, c1, c2, c3⟩ := S.clos rfl I.ok.has
  rw [exec_Assign_Name_used _ _ _ _ hsw]
  refine wpAny_bind (wpAny_standAt (wpAny_bind ?_))
  show wpAny _ X.A (do let _ ← comprehension (.ListComp elt [⟨tg, iter, ifs, 0⟩] cs pos) cs X.env _ (newList []) false (eval iter X.env) (some (assign (.Name y py) X.env))) _ _ s
  refine wpAny_bind (wpAny_mono (wpAny_comprehension_free (use := some (assign (.Name y py) X.env)) (Q := fun _ s' => SP X pins D .next s') rfl hs c1 S.kind S.hnames
    (thn (hi pins s σ H _ I h) fun v s1 h1 => thn h1 fun itv s2 h2 => ?_)) (fun _ s' hq => wpAny_pure (wpAny_pure hq)) fun _ _ e => e)
  obtain ⟨it, fp, tn, J, H2, e, I2, T, st2, f2, R⟩ := h2
  subst e
  refine comp_core (RR := fun acc C => compPost (model X.prog X.w) X.A X.xe (some (assign (.Name y py) X.env)) (fun _ s' => SP X pins D .next s') acc C) I2 hc S c2 c3 T st2 f2 (fun s3 H3 => hg cl s3 H3 fp) (fun s3 H3 => ht cl s3 H3 fp) (fun s3 H3 => he cl s3 H3 fp) R ?_
  intro acc C s' H' m I' fC hn q
  show wpAny _ X.A (assign (.Name y py) X.env (.ref acc)) _ _ _
  refine wpAny_assign_Name (store_ok2 (v := .ref acc) I' hN hiN (.inl hy) rfl (fun s'' I'' ⟨a, hb, ha⟩ => ?_) (.inr hy))
  have hCa : C ≠ a := fun z => by
    rcases ha with ha | ha
    · exact fC.2.1 (z.trans ha)
    · exact fC.2.2.2.2.1 y a ha z.symm
  refine ⟨m, hn.sameBut hb hCa, fun h' hb' => ⟨_, H', ?_, q⟩⟩
  exact I''.turned (t' := s''.toks) (fun b o hne e => (hb'.2 b hne).trans e) fC.1 fC.2.1 fC.2.2.2.1 fC.2.2.2.2.1 fC.2.2.2.2.2
end

/-! ### the forms one uses -/
section
variable {ρ : St} {g : TG} {tt : TT} {te : TE} {acc : Addr} {Z : Hp → Prop} {H1 : Hp}
/-- over a range: Pv by the turn, the items so far, the heap; nothing is left out -/
theorem comp_range {lo : Int} {n : Nat} (Pv : Nat → List V → Hp → Prop) (h0 : Pv 0 [] (upd H1 acc (.lst [])))
    (hs : ∀ i xs H, i < n → Pv i xs H → te (some (.int (lo + i)) :: ρ) H fun y H4 => H4 acc = some (.lst xs) ∧ xs.length < sizeLine ∧ Pv (i + 1) (xs ++ [y]) (upd H4 acc (.lst (xs ++ [y]))))
    (hd : ∀ xs H, Pv n xs H → Z H) : CompGo (Itr lo n) ρ (gName 0) tNoIf te acc Z H1 := by
  refine ⟨fun i m xs H => Pv i xs H ∧ i ≤ n ∧ m = n - i, ⟨n, h0, Nat.zero_le _, rfl⟩, ?_⟩
  rintro i m xs H ⟨hp, hi, rfl⟩
  by_cases hlt : i < n
  · refine .inr ⟨hlt, (fun y H4 => H4 acc = some (.lst xs) ∧ xs.length < sizeLine ∧ Pv (i + 1) (xs ++ [y]) (upd H4 acc (.lst (xs ++ [y])))), fun _ => False, fun y H4 q => ⟨q.1, q.2.1, n - (i + 1), by omega, q.2.2, hlt, rfl⟩, fun _ z => z.elim, ?_⟩
    rintro v0 x H' ⟨rfl, rfl⟩
    exact ⟨⟨_, rfl⟩, by simp only [tNoIf, if_true]; exact hs i xs H' hlt hp⟩
  · have : i = n := by omega
    subst this
    exact .inl ⟨Nat.le_refl _, hd xs H hp⟩
/-- over a tuple that stays -/
theorem comp_tup {K : PySem.W.Frag} {a : Addr} {zs : List V} (Pv : Nat → List V → Hp → Prop) (h0 : Pv 0 [] (upd H1 acc (.lst []))) (hl : ∀ i xs H, i ≤ zs.length → Pv i xs H → SqT K H a zs)
    (hs : ∀ i z xs H, zs[i]? = some z → Pv i xs H → te (some z :: ρ) H fun y H4 => H4 acc = some (.lst xs) ∧ xs.length < sizeLine ∧ Pv (i + 1) (xs ++ [y]) (upd H4 acc (.lst (xs ++ [y]))))
    (hd : ∀ xs H, Pv zs.length xs H → Z H) : CompGo (Itt K a) ρ (gName 0) tNoIf te acc Z H1 := by
  refine ⟨fun i m xs H => Pv i xs H ∧ i ≤ zs.length ∧ m = zs.length - i, ⟨zs.length, h0, Nat.zero_le _, rfl⟩, ?_⟩
  rintro i m xs H ⟨hp, hi, rfl⟩
  have sq := hl i xs H hi hp
  by_cases hlt : i < zs.length
  · refine .inr ⟨⟨zs, zs[i], sq, List.getElem?_eq_getElem hlt⟩, (fun y H4 => H4 acc = some (.lst xs) ∧ xs.length < sizeLine ∧ Pv (i + 1) (xs ++ [y]) (upd H4 acc (.lst (xs ++ [y])))), fun _ => False, fun y H4 q => ⟨q.1, q.2.1, zs.length - (i + 1), by omega, q.2.2, hlt, rfl⟩, fun _ z => z.elim, ?_⟩
    rintro v0 x H' ⟨rfl, hx⟩
    exact ⟨⟨_, rfl⟩, by simp only [tNoIf, if_true]; exact hs i x xs H' (hx zs sq) hp⟩
  · have : i = zs.length := by omega
    subst this
    exact .inl ⟨⟨zs, sq, Nat.le_refl _⟩, hd xs H hp⟩
/-- over a list that stays -/
theorem comp_list {K : PySem.W.Frag} {a : Addr} {zs : List V} (Pv : Nat → List V → Hp → Prop) (h0 : Pv 0 [] (upd H1 acc (.lst []))) (hl : ∀ i xs H, i ≤ zs.length → Pv i xs H → SqL K H a zs)
    (hs : ∀ i z xs H, zs[i]? = some z → Pv i xs H → te (some z :: ρ) H fun y H4 => H4 acc = some (.lst xs) ∧ xs.length < sizeLine ∧ Pv (i + 1) (xs ++ [y]) (upd H4 acc (.lst (xs ++ [y]))))
    (hd : ∀ xs H, Pv zs.length xs H → Z H) : CompGo (Itl K a) ρ (gName 0) tNoIf te acc Z H1 := by
  refine ⟨fun i m xs H => Pv i xs H ∧ i ≤ zs.length ∧ m = zs.length - i, ⟨zs.length, h0, Nat.zero_le _, rfl⟩, ?_⟩
  rintro i m xs H ⟨hp, hi, rfl⟩
  have sq := hl i xs H hi hp
  by_cases hlt : i < zs.length
  · refine .inr ⟨⟨zs, zs[i], sq, List.getElem?_eq_getElem hlt⟩, (fun y H4 => H4 acc = some (.lst xs) ∧ xs.length < sizeLine ∧ Pv (i + 1) (xs ++ [y]) (upd H4 acc (.lst (xs ++ [y])))), fun _ => False, fun y H4 q => ⟨q.1, q.2.1, zs.length - (i + 1), by omega, q.2.2, hlt, rfl⟩, fun _ z => z.elim, ?_⟩
    rintro v0 x H' ⟨rfl, hx⟩
    exact ⟨⟨_, rfl⟩, by simp only [tNoIf, if_true]; exact hs i x xs H' (hx zs sq) hp⟩
  · have : i = zs.length := by omega
    subst this
    exact .inl ⟨⟨zs, sq, Nat.le_refl _⟩, hd xs H hp⟩
end
end L2
/-! EXTENSION B of the hand layer: great ints, isinstance, == of data, all, max, sum of a list, bit_length. -/
namespace L2
open PySem PySem.Spec PyProof.Rows
section
variable {X : Cx}
/-! ### great ints -/
theorem intBits_le {k : Int} {n : Nat} (h : k.natAbs < 2 ^ n) : Builtin.Int.intBits k ≤ n := by
  unfold Builtin.Int.intBits
  split
  · exact Nat.zero_le _
  · rename_i h0
    have hk : k.natAbs ≠ 0 := by
      intro z
      apply h0
      have : k = 0 := Int.natAbs_eq_zero.mp z
      subst this
      rfl
    have : k.natAbs.log2 < n := (Nat.log2_lt hk).mpr h
    omega
/-- below so many bits products are made -/
def Fit (i : Int) : Prop := i.natAbs < 2 ^ 8000
theorem Fit.mul {i j : Int} (hi : Fit i) (hj : Fit j) : IntMulOk i j := by
  have h1 := intBits_le hi
  have h2 := intBits_le hj
  unfold IntMulOk
  intro h
  have h3 := (Bool.and_eq_true_iff.mp h).2
  unfold Builtin.Int.intTooBig at h3
  have h4 := of_decide_eq_true h3
  have h5 : (bitsLine : Int) = 134217728 := by decide
  omega
theorem op_mulB : OpR X (binaryOp .Mult) (rI (fun i j => Fit i ∧ Fit j) fun i j => .int (i * j)) := opI fun _ _ _ _ _ _ _ hc q => mul_int q (hc.1.mul hc.2)
theorem Fit.log {i : Int} (h : Fit i) : i.natAbs.log2 < 9000 := by
  by_cases h0 : i.natAbs = 0
  · rw [h0]; decide +kernel
  · have := (Nat.log2_lt h0).mpr h
    omega
theorem op_fdivB : OpR X (binaryOp .FloorDiv) (rI (fun _ j => 0 < j ∧ Fit j) fun i j => .int (i / j)) := opI fun i j _ _ _ _ _ hc q => by
  have h1 : (0 : Int) < j := hc.1
  exact floordiv_int (by omega) (by rw [Int.fdiv_eq_ediv_of_nonneg i (by omega)]; exact q) (.inl (PyProof.noPylong_of_log2 hc.2.log))
theorem Fit.of {i : Int} {n : Nat} (h : i.natAbs < 2 ^ n) (hn : n ≤ 8000 := by decide) : Fit i := Nat.lt_of_lt_of_le h (Nat.pow_le_pow_right (by decide) hn)

/-! ### isinstance(x, T) -/
theorem call_isinst : CallR X (.builtin "isinstance") (fun xs H Q => ∃ x c t b, xs = [x, .ty c] ∧ TyOf X.K H x t ∧ PySem.W.kitOne X.K t (.type c) = some b ∧ Q (.bl b) H) := by
  intro pins s σ H xs us Q I r h
  obtain ⟨x, c, t, b, rfl, ty, e, q⟩ := h
  obtain ⟨u, w', rfl, r1, r2⟩ := vals2 r
  cases r2
  exact isinst_ok I r1 ty e fun tk => ⟨.bl b, H, I.tok tk, rfl, q⟩
/-! ### data: lists and tuples of scalars and of one another -/
mutual
inductive Rds (K : PySem.W.Frag) (H : Hp) : V → PyData → Prop
  | non : Rds K H .non .none
  | bl (b : Bool) : Rds K H (.bl b) (.bool b)
  | int (i : Int) : Rds K H (.int i) (.int i)
  | str (x : Str) : Rds K H (.str x) (.str x)
  | lst {a : Addr} {xs : List V} {ds : List PyData} (h : SqL K H a xs) (t : RdsAll K H xs ds) : Rds K H (.ref a) (.list ds)
  | tup {a : Addr} {xs : List V} {ds : List PyData} (h : SqT K H a xs) (t : RdsAll K H xs ds) : Rds K H (.ref a) (.tuple ds)
inductive RdsAll (K : PySem.W.Frag) (H : Hp) : List V → List PyData → Prop
  | nil : RdsAll K H [] []
  | cons {v : V} {vs : List V} {d : PyData} {ds : List PyData} (h : Rds K H v d) (t : RdsAll K H vs ds) : RdsAll K H (v :: vs) (d :: ds)
end
mutual
theorem Rds.reads {pins : List (Addr × Obj)} {σ : St} {H : Hp} {s : Shared} (I : Inv X pins σ H s) : ∀ {x : V} {d : PyData} {u : Value}, Rds X.K H x d → RelV x u → ∃ as, Reads s.heap u d as
  | _, _, _, .non, r => by cases r; exact ⟨_, .none⟩
  | _, _, _, .bl b, r => by cases r; exact ⟨_, .bool b⟩
  | _, _, _, .int i, r => by obtain ⟨t, rfl⟩ := r; exact ⟨_, .int i t⟩
  | _, _, _, .str x, r => by obtain ⟨t, rfl⟩ := r; exact ⟨_, .str x t⟩
  | _, _, _, .lst h t, r => by
    cases r
    obtain ⟨its, rv, pl, _⟩ := I.list h
    obtain ⟨o, ho, hc, n, hd⟩ := pl.isList
    obtain ⟨as, q⟩ := RdsAll.reads I t rv
    exact ⟨_, .list ho hc hd q⟩
  | _, _, _, .tup h t, r => by
    cases r
    obtain ⟨its, rv, pl, _⟩ := I.tuple h
    obtain ⟨o, ho, hc, n, hd⟩ := pl
    obtain ⟨as, q⟩ := RdsAll.reads I t rv
    exact ⟨_, .tuple ho hc hd q⟩
theorem RdsAll.reads {pins : List (Addr × Obj)} {σ : St} {H : Hp} {s : Shared} (I : Inv X pins σ H s) : ∀ {xs : List V} {ds : List PyData} {us : List Value}, RdsAll X.K H xs ds → Vals xs us → ∃ as, ReadsAll s.heap us ds as
  | _, _, _, .nil, r => by cases r; exact ⟨_, .nil⟩
  | _, _, _, .cons h t, r => by
    cases r with
    | cons r1 r2 =>
      obtain ⟨as, q1⟩ := Rds.reads I h r1
      obtain ⟨bs, q2⟩ := RdsAll.reads I t r2
      exact ⟨_, .cons q1 q2⟩
end
theorem RdsAll.ints {K : PySem.W.Frag} {H : Hp} : ∀ ns : List Int, RdsAll K H (ns.map V.int) (ns.map PyData.int)
  | [] => .nil
  | n :: r => .cons (.int n) (RdsAll.ints r)
def rEqD (K : PySem.W.Frag) (neg : Bool) : R2 := fun x y H Q => ∃ dx dy, Rds K H x dx ∧ Rds K H y dy ∧ SeqAt.shaped dx = true ∧ SeqAt.shaped dy = true ∧ Q (.bl (if neg then !PyData.eqv dx dy else PyData.eqv dx dy)) H
theorem op_neD (hu : X.A.units + 64 < cLine) : OpR X (compareOp .NotEq) (rEqD X.K true) := by
  intro pins s σ H x y v u Q I rx ry ⟨dx, dy, hx, hy, sx, sy, q⟩
  obtain ⟨as, ra⟩ := hx.reads I rx
  obtain ⟨bs, rb⟩ := hy.reads I ry
  exact ne_dataH ra rb sx sy hu ⟨.bl _, H, I, rfl, q⟩

/-! ### all, max, sum of a list -/
theorem call_all_bools (hc : X.calm = true) : CallR X (.builtin "all") (fun xs H Q => ∃ (a : Addr) (bs : List Bool), xs = [.ref a] ∧ SqL X.K H a (bs.map V.bl) ∧ Q (.bl (bs.all id)) H) := by
  intro pins s σ H xs us Q I r h
  obtain ⟨a, bs, rfl, hq, q⟩ := h
  obtain ⟨u, rfl, rx⟩ := vals1 r
  cases rx
  obtain ⟨its, rv, pl, hz⟩ := I.list hq
  have hl := pl.isList
  have hlt : a < s.heap.objs.size := by obtain ⟨_, e, _⟩ := hl; exact Heap.lt_size e
  refine call_all_walk (wpAny_pyIter_list hl ?_)
  refine ⟨_, [s.heap.objs.size, a], [s.heap.objs.size], _, _, _, fun i => (bs[i]?).getD true, rfl, Walks.list (A := X.A.in1) (I.ok.hd hc) _ a (Nat.ne_of_lt hlt) its.toArray, ⟨⟨_, Heap.get?_push_size _ rfl, rfl, rfl⟩, hl.push _⟩, ?_, ?_⟩
  · intro i v s' Q' E' hP hQ
    have hP' : its[i]? = some v := by simpa using hP
    have hb : ∃ b, bs[i]? = some b ∧ v = Value.bool b := by
      cases e : bs[i]? with
      | none =>
        have l1 : its.length = (bs.map V.bl).length := rv.length.symm
        rw [List.length_map] at l1
        have l2 := List.getElem?_eq_none_iff.mp e
        have l3 := (List.getElem?_eq_some_iff.mp hP').1
        omega
      | some b =>
        obtain ⟨u, e1, e2⟩ := rv.get (i := i) (x := V.bl b) (by rw [List.getElem?_map, e]; rfl)
        rw [e1] at hP'
        cases hP'
        exact ⟨b, rfl, e2⟩
    obtain ⟨b, eb, rfl⟩ := hb
    have hQ2 : Q' ((bs[i]?).getD true) s' := hQ
    rw [eb] at hQ2
    exact wpAny_truthy_bool hQ2
  · intro h' tk hk
    have kp : ∀ b o, s.heap.get? b = some o → h'.get? b = some o := fun b o e => hk b o (fun hm => by
      rcases List.mem_cons.mp hm with e1 | hm
      · exact absurd (e1 ▸ Heap.lt_size e) (Nat.lt_irrefl _)
      · cases hm) (Heap.get?_push_of_some _ e)
    refine ⟨.bl _, H, I.kept kp, rfl, ?_⟩
    have l1 : its.length = bs.length := by rw [← rv.length, List.length_map]
    have ea : (List.range its.toArray.size).all (fun i => (bs[i]?).getD true) = bs.all id := by
      rw [List.size_toArray, l1, Bool.eq_iff_iff, List.all_eq_true, List.all_eq_true]
      constructor
      · intro h b hb
        obtain ⟨i, hi, e⟩ := List.mem_iff_getElem.mp hb
        have z := h i (List.mem_range.mpr hi)
        rw [List.getElem?_eq_getElem hi, e] at z
        exact z
      · intro h i hi
        have hi' := List.mem_range.mp hi
        rw [List.getElem?_eq_getElem hi']
        exact h _ (List.getElem_mem hi')
    rw [ea]
    exact q
end
end L2
/-! EXTENSION V: what a call-free piece of the model leaves as it was. -/
namespace L2
open PySem PySem.Spec PyProof.Rows
/-- no step of t breaks Z (no call in it) -/
def Keep {α : Type} (Z : Heap → Prop) : Sem α → Prop
  | .pure _ => True
  | .raise _ => True
  | .unsupported _ => True
  | .finish _ => True
  | .rule _ k => Keep Z (k ())
  | .at _ k => Keep Z (k ())
  | .load _ _ k => ∀ o, Keep Z (k o)
  | .update a _ f k => (∀ h, Z h → Z (h.update a f)) ∧ Keep Z (k ())
  | .alloc o k => (∀ h, Z h → Z (h.push o)) ∧ ∀ a, Keep Z (k a)
  | .loadIfAlive _ k => ∀ o, Keep Z (k o)
  | .point _ k => Keep Z (k ())
  | .register _ _ => True
  | .fresh k => ∀ t, Keep Z (k t)
  | .ask k => ∀ x, Keep Z (k x)
  | .choose _ _ k => ∀ n, Keep Z (k n)
  | .os _ _ k => ∀ r, Keep Z (k r)
  | .call .. => False
  | .handled _ k => ∀ x, Keep Z (k x)
  | .newGen _ k => ∀ n, Keep Z (k n)
  | .genState _ k => ∀ x, Keep Z (k x)
  | .resume .. => False
  | .yield .. => True
  | .stack k => ∀ l, Keep Z (k l)
  | .fork .. => True
  | .thread k => ∀ n, Keep Z (k n)
  | .await .. => True
theorem Keep.bind {α β : Type} {Z : Heap → Prop} {t : Sem α} {g : α → Sem β} (h : Keep Z t) (k : ∀ a, Keep Z (g a)) : Keep Z (t >>= g) := by
  show Keep Z (Sem.bind t g)
  induction t with
  | pure a => exact k a
  | raise _ => trivial
  | unsupported _ => trivial
  | finish _ => trivial
  | rule _ _ ih => exact ih () h
  | «at» _ _ ih => exact ih () h
  | load _ _ _ ih => exact fun o => ih o (h o)
  | update _ _ _ _ ih => exact ⟨h.1, ih () h.2⟩
  | alloc _ _ ih => exact ⟨h.1, fun a => ih a (h.2 a)⟩
  | loadIfAlive _ _ ih => exact fun o => ih o (h o)
  | point _ _ ih => exact ih () h
  | register _ _ _ => trivial
  | fresh _ ih => exact fun o => ih o (h o)
  | ask _ ih => exact fun o => ih o (h o)
  | choose _ _ _ ih => exact fun o => ih o (h o)
  | os _ _ _ ih => exact fun o => ih o (h o)
  | call _ _ _ _ _ _ => exact h.elim
  | handled _ _ ih => exact fun o => ih o (h o)
  | newGen _ _ ih => exact fun o => ih o (h o)
  | genState _ _ ih => exact fun o => ih o (h o)
  | resume _ _ _ _ _ => exact h.elim
  | yield _ _ _ _ _ => trivial
  | stack _ ih => exact fun o => ih o (h o)
  | fork _ _ _ => trivial
  | thread _ ih => exact fun o => ih o (h o)
  | await _ _ _ _ _ _ => trivial
theorem Keep.wp {α : Type} {Z : Heap → Prop} {M : Model} {Γ : PySem.Ctx} {t : Sem α} (h : Keep Z t) : ∀ {Q : α → Pos → Shared → Prop} {E : Value → Pos → Shared → Prop} {p : Pos} {s : Shared}, Z s.heap → Sem.wp M Γ t Q E p s →
    Sem.wp M Γ t (fun a p s' => Q a p s' ∧ Z s'.heap) (fun e p s' => E e p s' ∧ Z s'.heap) p s := by
  induction t with
  | pure a => intro Q E p s z q; rw [Sem.wp] at q ⊢; exact ⟨q, z⟩
  | raise e => intro Q E p s z q; rw [Sem.wp] at q ⊢; exact ⟨q, z⟩
  | unsupported _ => intro Q E p s z q; rw [Sem.wp] at q; exact q.elim
  | finish _ => intro Q E p s z q; rw [Sem.wp] at q; exact q.elim
  | rule _ _ ih => intro Q E p s z q; rw [Sem.wp] at q ⊢; exact ih () h z q
  | «at» _ _ ih => intro Q E p s z q; rw [Sem.wp] at q ⊢; exact ih () h z q
  | load _ _ _ ih => intro Q E p s z q; rw [Sem.wp] at q ⊢; obtain ⟨o, ho, q⟩ := q; exact ⟨o, ho, ih o (h o) z q⟩
  | update _ _ _ _ ih => intro Q E p s z q; rw [Sem.wp] at q ⊢; exact ⟨q.1, ih () h.2 (h.1 _ z) q.2⟩
  | alloc _ _ ih => intro Q E p s z q; rw [Sem.wp] at q ⊢; exact ih _ (h.2 _) (h.1 _ z) q
  | loadIfAlive _ _ ih => intro Q E p s z q; rw [Sem.wp] at q ⊢; exact ih _ (h _) z q
  | point _ _ ih => intro Q E p s z q; rw [Sem.wp] at q ⊢; exact ih () h z q
  | register _ _ _ => intro Q E p s z q; rw [Sem.wp] at q; exact q.elim
  | fresh _ ih => intro Q E p s z q; rw [Sem.wp] at q ⊢; exact ih _ (h _) z q
  | ask _ ih => intro Q E p s z q; rw [Sem.wp] at q ⊢; exact ih _ (h _) z q
  | choose _ _ _ ih => intro Q E p s z q; rw [Sem.wp] at q ⊢; exact ⟨q.1, ih _ (h _) z q.2⟩
  | os _ _ _ ih => intro Q E p s z q; rw [Sem.wp] at q ⊢; exact ih _ (h _) z q
  | call _ _ _ _ _ _ => exact h.elim
  | handled _ _ ih => intro Q E p s z q; rw [Sem.wp] at q ⊢; exact ih _ (h _) z q
  | newGen _ _ ih => intro Q E p s z q; rw [Sem.wp] at q ⊢; exact ih _ (h _) z q
  | genState _ _ ih => intro Q E p s z q; rw [Sem.wp] at q ⊢; obtain ⟨o, ho, q⟩ := q; exact ⟨o, ho, ih _ (h _) z q⟩
  | resume _ _ _ _ _ => exact h.elim
  | yield _ _ _ _ _ => intro Q E p s z q; rw [Sem.wp] at q; exact q.elim
  | stack _ ih => intro Q E p s z q; rw [Sem.wp] at q ⊢; exact ih _ (h _) z q
  | fork _ _ _ => intro Q E p s z q; rw [Sem.wp] at q; exact q.elim
  | thread _ ih => intro Q E p s z q; rw [Sem.wp] at q ⊢; exact ih _ (h _) z q
  | await _ _ _ _ _ _ => intro Q E p s z q; rw [Sem.wp] at q; exact q.elim
theorem Keep.any {α : Type} {Z : Heap → Prop} {M : Model} {A : Around} {t : Sem α} {Q : α → Shared → Prop} {E : Value → Shared → Prop} {s : Shared} (h : Keep Z t) (z : Z s.heap) (q : wpAny M A t Q E s) :
    wpAny M A t (fun a s' => Q a s' ∧ Z s'.heap) (fun e s' => E e s' ∧ Z s'.heap) s := fun Γ p hΓ => h.wp z (q Γ p hΓ)
/-- the dict of the thing at e -/
def DictAt (e dx : Addr) (h : Heap) : Prop := ∃ o, h.get? e = some o ∧ o.dict = some dx
theorem DictAt.push {e dx : Addr} {h : Heap} {o : Obj} (z : DictAt e dx h) : DictAt e dx (h.push o) := by
  obtain ⟨x, h1, h2⟩ := z
  exact ⟨x, Heap.get?_push_of_some _ h1, h2⟩
theorem DictAt.update {e dx a : Addr} {h : Heap} {f : Obj → Obj} (hd : ∀ o, (f o).dict = o.dict) (hf : ∀ o, o.isFreed = false → (f o).isFreed = false) (z : DictAt e dx h) : DictAt e dx (h.update a f) := by
  obtain ⟨x, h1, h2⟩ := z
  by_cases c : a = e
  · subst c
    exact ⟨f x, Heap.get?_update_self f h1 (hf x (Heap.get?_some_iff.mp h1).2), (hd x).trans h2⟩
  · exact ⟨x, (Heap.get?_update_other _ _ c).trans h1, h2⟩
theorem mapF_dict (g : Array Value → Array Value) (o : Obj) : (Obj.mapFields g o).dict = o.dict := by
  obtain ⟨c, d, dt, sl⟩ := o
  cases dt <;> rfl
theorem mapF_live (g : Array Value → Array Value) (o : Obj) (h : o.isFreed = false) : (Obj.mapFields g o).isFreed = false := by
  obtain ⟨c, d, dt, sl⟩ := o
  cases dt <;> first | rfl | exact h
section
variable {e dx : Addr}
theorem keep_fields (v : Value) : Keep (DictAt e dx) (fieldsOf v) := by
  unfold fieldsOf
  cases v with
  | ref a =>
    refine fun o => ?_
    show Keep _ (match o.data with | .fields vs => _ | _ => _)
    cases o.data <;> trivial
  | _ => trivial
theorem keep_field (v : Value) (i : Nat) : Keep (DictAt e dx) (field v i) := by
  refine Keep.bind (keep_fields v) fun vs => ?_
  cases vs[i]? <;> trivial
theorem keep_setField (v : Value) (i : Nat) (x : Value) : Keep (DictAt e dx) (setField v i x) := by
  unfold setField
  cases v with
  | ref a =>
    refine fun o => ?_
    show Keep _ (match o.data with | .fields vs => _ | _ => _)
    cases o.data with
    | fields vs =>
      show Keep _ (if i < vs.size then _ else _)
      split
      · exact ⟨fun h z => z.update (mapF_dict _) (mapF_live _), trivial⟩
      · trivial
    | _ => trivial
  | _ => trivial
theorem keep_flight (v : Value) (f : Option Addr) : Keep (DictAt e dx) (setFlight v f) := by
  refine Keep.bind (keep_field v 1) fun tb => ?_
  split
  · exact keep_setField _ _ _
  · trivial
theorem keep_newFields (T : String) (vs : List Value) : Keep (DictAt e dx) (newFields T vs) := by
  unfold newFields newObj
  have k : Keep (DictAt e dx) (newObjAsIs (.type T) (.fields vs.toArray)) := ⟨fun h z => z.push, fun a => trivial⟩
  show Keep (DictAt e dx) (if vs.toArray.size > sizeLine + 2 then _ else newObjAsIs (.type T) (.fields vs.toArray))
  split
  · trivial
  · exact k
theorem keep_back (env : Env) (b : Bool) (l : List Env) : Keep (DictAt e dx) (keptBack env b l) := by
  cases l with
  | nil =>
    show Keep (DictAt e dx) (if (env.scope.isGenerator || env.scope.isCoroutine) = true then _ else _)
    split
    · trivial
    · refine Keep.bind (t := underTheClaimsCaller) ?_ fun c => trivial
      exact fun l => trivial
  | cons x r => trivial
theorem keep_import (env : Env) (l : List Env) : Keep (DictAt e dx) (behindIsImport env l) := by
  unfold behindIsImport
  split
  · trivial
  · split
    · trivial
    · exact Keep.bind (keep_field _ _) fun _ => trivial
theorem keep_ready : ∀ l : List Env, Keep (DictAt e dx) (readyFrames l)
  | [] => trivial
  | env :: outer => by
    unfold readyFrames
    cases env.frame with
    | none => trivial
    | some f =>
      refine fun o => ?_
      show Keep (DictAt e dx) (if (o.slots.getD 3 none).isSome = true then _ else _)
      split
      · trivial
      · refine Keep.bind (keep_import _ _) fun b => Keep.bind (keep_back _ _ _) fun c => ⟨fun h z => z.update (fun o => rfl) (fun o ho => ?_), keep_ready outer⟩
        obtain ⟨c', d', dt, sl⟩ := o
        cases dt <;> first | rfl | exact ho
theorem keep_frameOf (env : Env) : Keep (DictAt e dx) (PySem.frameOf env) := by
  unfold PySem.frameOf
  refine Keep.bind (fun l => trivial) fun l => Keep.bind ?_ fun x => ?_
  · unfold frameObject
    cases l.dropWhile (·.frame != env.frame) with
    | nil => trivial
    | cons x r => exact Keep.bind (keep_ready _) fun _ => trivial
  · cases x <;> trivial
theorem keep_place (f : Addr) (b : Bool) : Keep (DictAt e dx) (entryPlaceOf f b) := by
  refine fun acts => ?_
  show Keep _ (match acts.find? _ with | some (_, pos) => _ | none => _)
  split <;> trivial
theorem keep_note (v : Value) (env : Env) : Keep (DictAt e dx) (noteFrame v env) := by
  unfold noteFrame
  cases env.frame with
  | none => trivial
  | some f =>
    refine Keep.bind (keep_field v 1) fun head => ?_
    have last : Keep (DictAt e dx) (do setField v 1 (← EntryCells.newEntry head (← PySem.frameOf env) .none (rawInt f) .none (← entryPlaceOf f (head != .none)))) :=
      Keep.bind (keep_frameOf env) fun a => Keep.bind (keep_place _ _) fun pl => Keep.bind (keep_newFields _ _) fun b => keep_setField _ _ _
    show Keep (DictAt e dx) (if (head != Value.none) = true then _ else _)
    split
    · refine Keep.bind (keep_field _ _) fun x => ?_
      split
      · trivial
      · exact Keep.bind (keep_setField _ _ _) fun _ => last
    · exact last
theorem keep_leaving (env : Env) (v : Value) : Keep (DictAt e dx) (leaving env v) := Keep.bind (keep_note v env) fun _ => keep_flight v none
end
end L2
/-! EXTENSION C of the hand layer: exceptions of own classes, raised, passed on, caught. -/
namespace L2
open PySem PySem.Spec PyProof.Rows

/-- an exception behind a call: of the own class at C; B: all that stays while it flies -/
def XOk (P : Program) (w : World) : CXT := fun outer H s E e s' => ∃ (ea C : Addr) (a0 : Value) (H' : Hp) (B : Heap) (pd : Option Addr), e = .ref ea ∧ Heap.FlyingW B outer ea (.ref C) a0 s'.heap ∧ s'.os = s.os ∧ AllBare s'.gens ∧
  Un (frs outer) [] H H' s.heap s'.heap ∧ HOk P w H' B ∧ (∀ b o, s.heap.get? b = some o → H b = none → b ∉ frs outer → B.get? b = some o) ∧ (∀ b o, s.heap.get? b = some o → b ∉ frs outer → ∃ o', B.get? b = some o') ∧ (∀ dx, pd = some dx → DictAt ea dx s'.heap) ∧ E (.ref C) pd H'

/-- a def's own frame stands on top -/
structure Top1 (X : Cx) : Prop where
  stk : X.stack = X.env :: X.outer
  frm : X.env.frame = some X.env.locals
  ex : X.ex = []

section
variable {X : Cx} {pins : List (Addr × Obj)} {σ : St} {H : Hp} {s : Shared}
theorem Top1.mem (T : Top1 X) {b : Addr} : b ∈ frs X.stack ↔ b = X.env.locals ∨ b ∈ X.fs := by
  rw [T.stk]
  unfold frs
  rw [List.filterMap_cons, T.frm]
  exact List.mem_cons
/-- an exception of a callee goes through this frame -/
theorem pass_out {E : XK} {E' : Value → Shared → Prop} {e : Value} {s' : Shared} (T : Top1 X) (I : Inv X pins σ H s) (h : XOk X.prog X.w X.stack H s E e s') :
    wpAny (model X.prog X.w) X.A (leaving X.env e) (fun _ s'' => XOk X.prog X.w X.outer X.H₀ X.s₀ E e s'') E' s' := by
  obtain ⟨ea, C, a0, H', B, pd, rfl, fl, os, ba, un, hk, kb, tb, dk, q⟩ := h
  have hfr : X.A.frames = some (X.env :: X.outer) := by rw [← T.stk]; exact I.ok.frames
  have out : ∀ b o, X.s₀.heap.get? b = some o → b ∉ X.fs → b ∉ frs X.stack := fun b o e hb hm => by
    rcases T.mem.mp hm with z | z
    · exact absurd (Nat.lt_of_lt_of_le (Heap.lt_size e) I.ok.above) (by rw [z]; exact Nat.lt_irrefl _)
    · exact hb z
  have nx : ∀ b : Addr, b ∉ X.ex := fun b z => by rw [T.ex] at z; cases z
  have n0 : ∀ b : Addr, b ∉ ([] : List Addr) := fun b z => nomatch z
  have fl' := fl
  rw [T.stk] at fl
  have main : ∀ h', Heap.FlyingW B X.outer ea (.ref C) a0 h' → s'.heap.UpToSlots h' → (∀ dx, pd = some dx → DictAt ea dx h') → XOk X.prog X.w X.outer X.H₀ X.s₀ E (.ref ea) { s' with heap := h' } := ?_
  · cases pd with
    | none => exact wpAny_leaves_onW hfr T.frm fl fun h' x1 x2 => main h' x1 x2 (fun _ z => nomatch z)
    | some dx =>
      refine wpAny_mono (Keep.any (keep_leaving (e := ea) (dx := dx) X.env (.ref ea)) (dk dx rfl) (wpAny_leaves_onW hfr T.frm fl (Q := fun _ s'' => ∃ h', s'' = { s' with heap := h' } ∧ Heap.FlyingW B X.outer ea (.ref C) a0 h' ∧ s'.heap.UpToSlots h') (E := E') fun h' x1 x2 => ⟨h', rfl, x1, x2⟩)) (fun _ s'' z => ?_) fun _ _ z => z.1
      obtain ⟨⟨h', rfl, x1, x2⟩, z⟩ := z
      exact main h' x1 x2 (fun dx' e => by cases e; exact z)
  intro h' x1 x2 dk'
  have slot : ∀ b, b ∈ frs X.stack → ∀ o, s'.heap.get? b = some o → ∃ sl, h'.get? b = some { o with slots := sl } := fun b hb o e => by
    obtain ⟨_, o2, e2, nf⟩ := fl'.2.2.1.mem hb
    rw [e] at e2; cases e2
    exact x2 b o e nf
  refine ⟨ea, C, a0, H', B, pd, rfl, x1, os.trans I.os, ba, ⟨fun b o e n hb _ => ?_, fun b o e n hb _ => ?_, fun b o e n _ => ?_, fun b o e _ => ?_, fun b xs z => un.tups b xs (I.base.tups b xs z), fun b o u z => un.frzs b o u (I.base.frzs b o u z), fun b ps z => ?_⟩, hk, fun b o e n hb => ?_, fun b o e hb => ?_, dk', q⟩
  · exact x1.1 b o (kb b o (I.base.keep b o e n hb (nx b)) (I.base.free b o e n (nx b)) (out b o e hb))
  · obtain ⟨sl, e1⟩ := I.base.slot b o e n hb (nx b)
    obtain ⟨sl1, e2⟩ := un.slot b _ e1 (I.base.free b o e n (nx b)) (T.mem.mpr (.inr hb)) (n0 b)
    obtain ⟨sl2, e3⟩ := slot b (T.mem.mpr (.inr hb)) _ e2
    exact ⟨sl2, e3⟩
  · obtain ⟨o', e1⟩ := I.base.there b o e (nx b)
    exact un.free b o' e1 (I.base.free b o e n (nx b)) (n0 b)
  · obtain ⟨o', e1⟩ := I.base.there b o e (nx b)
    by_cases hb : b ∈ frs X.stack
    · obtain ⟨o2, e2⟩ := un.there b o' e1 (n0 b)
      obtain ⟨sl, e3⟩ := slot b hb o2 e2
      exact ⟨_, e3⟩
    · obtain ⟨o2, e2⟩ := tb b o' e1 hb
      exact ⟨o2, x1.1 b o2 e2⟩
  · obtain ⟨m1, z1⟩ := I.base.tbls b ps z
    obtain ⟨m2, z2⟩ := un.tbls b _ z1
    exact ⟨m1 ++ m2, by rw [z2, Array.append_assoc]⟩
  · exact kb b o (I.base.keep b o e n hb (nx b)) (I.base.free b o e n (nx b)) (out b o e hb)
  · obtain ⟨o', e1⟩ := I.base.there b o e (nx b)
    exact tb b o' e1 (out b o e hb)

/-! ### raise -/
/-- what the text's top must have written of an own exception class -/
structure Exc (K : PySem.W.Frag) (C : Addr) (B newId initId : String) (bmB : List Value) : Prop where
  at_ : PySem.W.excIn K C bmB newId = true
  base : ExcBaseFacts B newId initId bmB
/-! ### expressions and statements that may raise -/
def XP (X : Cx) (pins : List (Addr × Obj)) (σ : St) (E : XK) (ex : Value) (s' : Shared) : Prop := ∃ H1 s1, Inv X pins σ H1 s1 ∧ XOk X.prog X.w X.stack H1 s1 E ex s'
abbrev TX := St → Hp → VK → XK → Prop
def PX (X : Cx) (e : Expr) (t : TX) : Prop :=
  ∀ (pins : List (Addr × Obj)) (s : Shared) (σ : St) (H : Hp) (Q : VK) (E : XK), Inv X pins σ H s → t σ H Q E → wpAny (model X.prog X.w) X.A (eval e X.env) (EP X pins σ Q) (XP X pins σ E) s
theorem px_call {k : Nat} {f : Addr} {fd : FuncData} {ps : List Str} {sp : Sp} {dvs : List V} {ds : List Value} {x : Str} {p pos : Pos} {e : Expr} {es : List Expr} {t : TA}
    (F : FnOk X.prog X.w X.K X.mg X.base (XOk X.prog X.w) k f fd ps sp) (hr : Room k X.A) (hg : Gl X x) (hm : X.mg x = some (.ref f)) (hk : PySem.W.keepIn X.K (.ref f) = true) (hb : Binds X.K fd ps ds) (hd : Vals dvs ds)
    (ha : PA X.nox (e :: es) t) (hdb : (x == ("__debug__" : Str)) = false := by decide) (he : starEach (e :: es) X.env = (false, eval e X.env) :: starEach es X.env := by rfl) (hpl : (backTo pos (starEach es X.env)).any (·.1) = false := by rfl) :
    PX X (.Call (.Name x p) (e :: es) [] pos) (fun σ H Q E => t σ H fun vs H1 => sp (vs ++ dvs) H1 Q E) := by
  intro pins s σ H Q E I h
  refine wpAny_Call_Name_kw (ld_glob I hg hm ?_ hdb)
  refine PySem.W.callWith_K (h₀ := X.base) I.ok.mod.kin hk (wpAny_mono (ha pos pins s σ H _ (I.wish _) h) (fun us s1 ⟨vs, H1, I1', r, q⟩ => ?_) fun _ _ z => z.elim) he hpl
  have I1 : Inv X pins σ H1 s1 := I1'.unwish
  refine ⟨I1.kIn, ?_⟩
  have r2 : Vals (vs ++ dvs) (us ++ ds) := r.append hd
  have hl : (us ++ ds).length = ps.length := by rw [← r2.length]; exact F.len _ _ _ _ q
  refine wpAny_call (codeAny_mono (F.run X.A X.stack s1 H1 ⟨us, []⟩ (us ++ ds) (vs ++ dvs) Q E hr I1.env0 (hb s1 us I1.kIn hl) r2 q) fun r s' hq => ?_)
  cases r with
  | error e => exact ⟨H1, s1, I1, hq⟩
  | ok fl =>
    cases fl with
    | ret u => exact I1.after hq
    | next => exact False.elim hq
    | brk => exact False.elim hq
    | cont => exact False.elim hq
abbrev TSX := Ends → (St → XK) → St → Hp → Prop
def PSX (X : Cx) (st : List Stmt) (t : TSX) : Prop :=
  ∀ (pins : List (Addr × Obj)) (s : Shared) (σ : St) (H : Hp) (D : Ends) (E : St → XK), Inv X pins σ H s → t D E σ H → wpAny (model X.prog X.w) X.A (execs st X.env) (SP X pins D) (fun ex s' => ∃ σ1, XP X pins σ1 (E σ1) ex s') s
/-! ### try .. except C: .. -/
def Cx.caught (X : Cx) (e : Value) : Cx := { X with A := X.A.mark (some e), calm := false, xe := fun _ _ => False }
theorem Inv.caught (I : Inv X pins σ H s) (e : Value) (hfr : (X.A.mark (some e)).frames = X.A.frames := by rfl) : Inv (X.caught e) pins σ H s :=
  ⟨⟨I.ok.mod, I.ok.kind, I.ok.glob, I.ok.blt, I.ok.above, I.ok.inj, I.ok.has, I.ok.cab, (fun z => nomatch z), hfr.trans I.ok.frames, I.ok.stk, I.ok.exf, I.ok.bs, I.ok.bsz, I.ok.noex, I.ok.exfs, I.ok.funs, I.ok.frf⟩, I.os, I.bare, I.base, I.loc, I.cell, I.free, I.freeC, I.pin, I.hok, I.len⟩
theorem Inv.uncaught {e : Value} (ok : X.Ok) (I : Inv (X.caught e) pins σ H s) : Inv X pins σ H s := ⟨ok, I.os, I.bare, I.base, I.loc, I.cell, I.free, I.freeC, I.pin, I.hok, I.len⟩
theorem SP.uncaught {e : Value} {D : Ends} {f : Flow} {s' : Shared} (ok : X.Ok) (h : SP (X.caught e) pins D f s') : SP X pins D f s' := by
  cases f with
  | next => obtain ⟨a, b, I, q⟩ := h; exact ⟨a, b, I.uncaught ok, q⟩
  | brk => obtain ⟨a, b, I, q⟩ := h; exact ⟨a, b, I.uncaught ok, q⟩
  | cont => obtain ⟨a, b, I, q⟩ := h; exact ⟨a, b, I.uncaught ok, q⟩
  | ret u => obtain ⟨v, a, b, I, r, q⟩ := h; exact ⟨v, a, b, I.uncaught ok, r, q⟩
/-- the heap behind the landing -/
theorem Inv.landed {s' : Shared} {H' : Hp} {B h5 : Heap} (T : Top1 X) (I : Inv X pins σ H s) (os : s'.os = s.os) (ba : AllBare s'.gens) (un : Un (frs X.stack) [] H H' s.heap s'.heap) (hk : HOk X.prog X.w H' B)
    (kb : ∀ b o, s.heap.get? b = some o → H b = none → b ∉ frs X.stack → B.get? b = some o) (tb : ∀ b o, s.heap.get? b = some o → b ∉ frs X.stack → ∃ o', B.get? b = some o')
    (st : B.StaysIn h5) (sm : s'.heap.UpToSlots h5) (ff : s'.heap.FunFrames B X.stack) : Inv X pins σ H' { s' with heap := h5 } := by
  have n0 : ∀ b : Addr, b ∉ ([] : List Addr) := fun b z => nomatch z
  have slot : ∀ b, b ∈ frs X.stack → ∀ o, s'.heap.get? b = some o → ∃ sl, h5.get? b = some { o with slots := sl } := fun b hb o e => by
    obtain ⟨_, o2, e2, nf⟩ := ff.mem hb
    rw [e] at e2; cases e2
    exact sm b o e nf
  refine I.call' (s' := { s' with heap := h5 }) (ch := []) os ⟨fun b o e n hb _ => st b o (kb b o e n hb), fun b o e n hb _ => ?_, fun b o e n _ => un.free b o e n (n0 b), fun b o e _ => ?_, un.tups, un.frzs, un.tbls⟩ (hk.kept st) ba fun b hb => nomatch hb
  · obtain ⟨sl, e1⟩ := un.slot b o e n hb (n0 b)
    obtain ⟨sl2, e2⟩ := slot b hb _ e1
    exact ⟨sl2, e2⟩
  · by_cases hb : b ∈ frs X.stack
    · obtain ⟨o1, e1⟩ := un.there b o e (n0 b)
      obtain ⟨sl, e2⟩ := slot b hb o1 e1
      exact ⟨_, e2⟩
    · obtain ⟨o1, e1⟩ := tb b o e hb
      exact ⟨o1, st b o1 e1⟩
end

/-! ### a def that raises -/
section
variable {P : Program} {w : World} {K : PySem.W.Frag} {mg : Str → Option Value} {base : Heap}
abbrev cxX (P : Program) (w : World) (K : PySem.W.Frag) (mg : Str → Option Value) (base : Heap) (N : List Str) (qual : Str) (scope : Scope) (f : Addr) (cd : Value) (A : Around) (outer : List Env) (s : Shared) (H : Hp) (E : XK) : Cx := cxOf (XOk P w) P w K mg base N qual scope f cd A outer s H E
theorem top_cxX {N : List Str} {qual : Str} {scope : Scope} {f : Addr} {cd : Value} {A : Around} {outer : List Env} {s : Shared} {H : Hp} {E : XK} {CX : CXT} : Top1 (cxOf CX P w K mg base N qual scope f cd A outer s H E) := ⟨rfl, rfl, rfl⟩
theorem top_nox {X : Cx} (T : Top1 X) : Top1 X.nox := ⟨T.stk, T.frm, T.ex⟩
theorem pass1 {N : List Str} {qual : Str} {scope : Scope} {f : Addr} {cd : Value} {A : Around} {outer : List Env} {s : Shared} {H : Hp} {E : XK} : Passes (XOk P w) (cxX P w K mg base N qual scope f cd A outer s H E) E :=
  fun pins σ H1 s1 e s' I h => pass_out (E' := fun e' s'' => XOk P w outer H s E e' s'') top_cxX I h
/-- a def of the text (defaults dV), that may raise -/
structure FunD (K : PySem.W.Frag) (x qual : Str) (st : Stmt) (f : Addr) (fd : FuncData) (dV : Value) : Prop where
  ex : ∃ (oc : Value) (od : Option Addr) (kV doc pm : Value) (an : Option Addr) (cdv ct : Value) (osl : Array (Option Value)),
    fd = PySem.W.fnOf x qual (defArgs st) (defBody st) (defScope st) dV kV doc pm an cdv ct ∧ K.lookup f = some ⟨oc, od, .func fd, osl⟩ ∧ PySem.W.codeIn K cdv qual = true
  kp : PySem.W.keepIn K (.ref f) = true
theorem FunD.okX {x qual : Str} {st : Stmt} {f : Addr} {fd : FuncData} {dV : Value} {N ps : List Str} {k : Nat} {sp : Sp} (F : FunD K x qual st f fd dV) (S : FnScope N ps (defScope st)) (len : ∀ vs H Q E, sp vs H Q E → vs.length = ps.length)
    (hbody : ∀ (cdv : Value) (A : Around) (outer : List Env) (s : Shared) (H : Hp) (vs : List V) (Q : VK) (E : XK), Room k (A.deeper (envOfC qual (defScope st) s.heap.objs.size f cdv)) → sp vs H Q E →
      ∃ t, PSs (cxX P w K mg base N qual (defScope st) f cdv A outer s H E) (defBody st) t ∧ t { nx := fun _ H' => Q .non H', rt := Q } (start N vs) H) : FnOk P w K mg base (XOk P w) (k + 1) f fd ps sp := by
  obtain ⟨oc, od, kV, doc, pm, an, cdv, ct, osl, rfl, lk, hcd⟩ := F.ex
  exact fn_of lk hcd S len fun A outer s H vs Q E hr hsp => hbody cdv A outer s H vs Q E hr hsp
theorem FunD.ok {x qual : Str} {st : Stmt} {f : Addr} {fd : FuncData} {dV : Value} {N ps : List Str} {k : Nat} {sp : Sp} (F : FunD K x qual st f fd dV) (S : FnScope N ps (defScope st)) (len : ∀ vs H Q E, sp vs H Q E → vs.length = ps.length)
    (hbody : ∀ (cdv : Value) (A : Around) (outer : List Env) (s : Shared) (H : Hp) (vs : List V) (Q : VK) (E : XK), Room k (A.deeper (envOfC qual (defScope st) s.heap.objs.size f cdv)) → sp vs H Q E →
      ∃ t, PSs (cxOf CX0 P w K mg base N qual (defScope st) f cdv A outer s H E).nox (defBody st) t ∧ t { nx := fun _ H' => Q .non H', rt := Q } (start N vs) H) : FnOk P w K mg base CX0 (k + 1) f fd ps sp := by
  obtain ⟨oc, od, kV, doc, pm, an, cdv, ct, osl, rfl, lk, hcd⟩ := F.ex
  refine fn_of lk hcd S len fun A outer s H vs Q E hr hsp => ?_
  obtain ⟨t, h, q⟩ := hbody cdv A outer s H vs Q E hr hsp
  exact ⟨t, h.nox, q⟩
theorem fund_mk {x qual : Str} {st : Stmt} {f : Addr} {oc dV : Value} {od an : Option Addr} {osl : Array (Option Value)} {kV doc pm cdv ct : Value} (l : K.lookup f = some ⟨oc, od, .func (PySem.W.fnOf x qual (defArgs st) (defBody st) (defScope st) dV kV doc pm an cdv ct), osl⟩)
    (c : PySem.W.codeIn K cdv qual = true) (k : PySem.W.keepIn K (.ref f) = true) : FunD K x qual st f (PySem.W.fnOf x qual (defArgs st) (defBody st) (defScope st) dV kV doc pm an cdv ct) dV := ⟨⟨oc, od, kV, doc, pm, an, cdv, ct, osl, rfl, l, c⟩, k⟩
end
end L2
/-! EXTENSION D of the hand layer: defs by their names; rules by kinds joined; a reading by simp. -/
namespace L2
open PySem PySem.Spec PyProof.Rows
/-- a def of the top, as it stands, with the defaults dvs that fill up -/
def At (K : PySem.W.Frag) (mg : Str → Option Value) (x : Str) (st : Stmt) (ps : List Str) (dvs : List V) : Prop :=
  ∃ f fd dV ds, FunD K x x st f fd dV ∧ mg x = some (.ref f) ∧ Binds K fd ps ds ∧ Vals dvs ds
/-- .. and its promise -/
def DefOk (P : Program) (w : World) (K : PySem.W.Frag) (mg : Str → Option Value) (base : Heap) (CX : CXT) (k : Nat) (x : Str) (ps : List Str) (dvs : List V) (sp : Sp) : Prop :=
  ∃ f fd ds, FnOk P w K mg base CX k f fd ps sp ∧ mg x = some (.ref f) ∧ PySem.W.keepIn K (.ref f) = true ∧ Binds K fd ps ds ∧ Vals dvs ds
section
variable {P : Program} {w : World} {K : PySem.W.Frag} {mg : Str → Option Value} {base : Heap}
theorem At.ok {x : Str} {st : Stmt} {N ps : List Str} {dvs : List V} {k : Nat} {sp : Sp} (F : At K mg x st ps dvs) (S : FnScope N ps (defScope st)) (len : ∀ vs H Q E, sp vs H Q E → vs.length = ps.length)
    (hbody : ∀ (f : Addr) (cdv : Value) (A : Around) (outer : List Env) (s : Shared) (H : Hp) (vs : List V) (Q : VK) (E : XK), Room k (A.deeper (envOfC x (defScope st) s.heap.objs.size f cdv)) → sp vs H Q E →
      ∃ t, PSs (cxOf CX0 P w K mg base N x (defScope st) f cdv A outer s H E).nox (defBody st) t ∧ t { nx := fun _ H' => Q .non H', rt := Q } (start N vs) H) : DefOk P w K mg base CX0 (k + 1) x ps dvs sp := by
  obtain ⟨f, fd, dV, ds, F1, hm, hb, hd⟩ := F
  exact ⟨f, fd, ds, F1.ok S len (hbody f), hm, F1.kp, hb, hd⟩
theorem At.okX {x : Str} {st : Stmt} {N ps : List Str} {dvs : List V} {k : Nat} {sp : Sp} (F : At K mg x st ps dvs) (S : FnScope N ps (defScope st)) (len : ∀ vs H Q E, sp vs H Q E → vs.length = ps.length)
    (hbody : ∀ (f : Addr) (cdv : Value) (A : Around) (outer : List Env) (s : Shared) (H : Hp) (vs : List V) (Q : VK) (E : XK), Room k (A.deeper (envOfC x (defScope st) s.heap.objs.size f cdv)) → sp vs H Q E →
      ∃ t, PSs (cxX P w K mg base N x (defScope st) f cdv A outer s H E) (defBody st) t ∧ t { nx := fun _ H' => Q .non H', rt := Q } (start N vs) H) : DefOk P w K mg base (XOk P w) (k + 1) x ps dvs sp := by
  obtain ⟨f, fd, dV, ds, F1, hm, hb, hd⟩ := F
  exact ⟨f, fd, ds, F1.okX S len (hbody f), hm, F1.kp, hb, hd⟩
end
section
variable {X : Cx} {CX : CXT} {k : Nat} {ps : List Str} {sp : Sp} {dvs : List V} {E : XK} {x : Str} {p pos : Pos} {e : Expr} {es : List Expr} {t : TA}
theorem pe_callD (D : DefOk X.prog X.w X.K X.mg X.base CX k x ps dvs sp) (hr : Room k X.A) (hg : Gl X x) (hx : Passes CX X E) (ha : PA X (e :: es) t) (hdb : (x == ("__debug__" : Str)) = false := by decide)
    (he : starEach (e :: es) X.env = (false, eval e X.env) :: starEach es X.env := by rfl) (hpl : (backTo pos (starEach es X.env)).any (·.1) = false := by rfl) : PE X (.Call (.Name x p) (e :: es) [] pos) (tCall sp dvs E t) := by
  obtain ⟨f, fd, ds, F, hm, hk, hb, hd⟩ := D
  exact pe_call F hr hg hm hk hb hd hx ha hdb he hpl
theorem px_callD (D : DefOk X.prog X.w X.K X.mg X.base (XOk X.prog X.w) k x ps dvs sp) (hr : Room k X.A) (hg : Gl X x) (ha : PA X.nox (e :: es) t) (hdb : (x == ("__debug__" : Str)) = false := by decide)
    (he : starEach (e :: es) X.env = (false, eval e X.env) :: starEach es X.env := by rfl) (hpl : (backTo pos (starEach es X.env)).any (·.1) = false := by rfl) : PX X (.Call (.Name x p) (e :: es) [] pos) (fun σ H Q E => t σ H fun vs H1 => sp (vs ++ dvs) H1 Q E) := by
  obtain ⟨f, fd, ds, F, hm, hk, hb, hd⟩ := D
  exact px_call F hr hg hm hk hb hd ha hdb he hpl
/-! ### operations by kinds joined -/
/-! ### bit_length -/
theorem mt_bits : MtR X "int.bit_length" (fun x xs H Q => ∃ i, x = .int i ∧ xs = [] ∧ Q (.int (Builtin.Int.intBits i : Nat)) H) := by
  intro pins s σ H x xs v us Q I rx rv h
  obtain ⟨i, rfl, rfl, q⟩ := h
  obtain ⟨t, rfl⟩ := rx
  cases rv
  refine wpAny_call (codeAny_call_builtin F.slot_int_bit_length.plain F.entry_int_bit_length (F.slot_int_bit_length.check _ _ _ _ _ _ _ _ (typeIs_int s i t) (F.args_int_bit_length_1 _) (AutoIntG2.int_bit_length_int_0 i t _ _ _ (wants _ _) s ?_)))
  exact ⟨.int _, H, I.tok _, ⟨_, rfl⟩, q⟩
end
end L2
namespace L2
open PySem PySem.Spec PyProof.Rows
theorem un64 {k : Nat} {A : Around} (hr : Room k A) : A.units + 64 < cLine := hr.units
theorem passF {P : Program} {w : World} {X : Cx} : Passes (XOk P w) X (fun _ _ _ => False) := fun _ _ _ _ _ _ _ h => by
  obtain ⟨_, _, _, _, _, _, _, _, _, _, _, _, _, _, _, q⟩ := h
  exact q.elim
theorem Same.tup {K : PySem.W.Frag} {H H' : Hp} {a : Addr} {xs : List V} (e : Same H H') (h : SqT K H a xs) : SqT K H' a xs := by
  rcases h with (h | ⟨o, h⟩) | h
  · exact .inl (.inl (e _ _ h))
  · exact .inl (.inr ⟨o, e _ _ h⟩)
  · exact .inr h
theorem Same.new {H : Hp} {p : Addr} (h : H p = none) (o : HO) : Same H (upd H p o) := fun b u q => by rw [upd_ne (ne_of_none q h)]; exact q
end L2
namespace L2
open PySem PySem.Spec PyProof.Rows
theorem at_mk {K : PySem.W.Frag} {h : Heap} {mg : Str → Option Value} {x : Str} {st : Stmt} {ps : List Str} {f : Addr} {oc kV doc pm cdv ct : Value} {od an : Option Addr} {osl : Array (Option Value)} (X : K.In h) (G : h.Ns mainGlobals mg)
    (hb : ∀ (kV doc pm : Value) (an : Option Addr) (cdv ct : Value) (us : List Value), us.length = ps.length → bindArgs (PySem.W.fnOf x x (defArgs st) (defBody st) (defScope st) .none kV doc pm an cdv ct) ⟨us, []⟩ = pure (ps.zip us))
    (a : PySem.W.nsIn K mainGlobals x = some (some (.ref f))) (l : K.lookup f = some ⟨oc, od, .func (PySem.W.fnOf x x (defArgs st) (defBody st) (defScope st) .none kV doc pm an cdv ct), osl⟩) (c : PySem.W.codeIn K cdv x = true) (k : PySem.W.keepIn K (.ref f) = true) :
    At K mg x st ps [] := ⟨f, _, .none, [], fund_mk l c k, PySem.W.mg_of X G a, .all (hb kV doc pm an cdv ct), .nil⟩
end L2
namespace L2
open PySem PySem.Spec PyProof.Rows
section
variable {X : Cx} {st : Stmt} {rest : List Stmt} {t u : TS}
/-- a statement, what holds behind it, the rest -/
def tCut (M : St → Hp → Prop) (t u : TS) : TS := fun D σ H => t { D with nx := M } σ H ∧ ∀ σ' H', M σ' H' → u D σ' H'
theorem pss_cut (M : St → Hp → Prop) (h1 : PS X st t) (h2 : PSs X rest u) : PSs X (st :: rest) (tCut M t u) := by
  intro pins s σ H D I h
  refine wpAny_execs_cons (thn (h1 pins s σ H { D with nx := M } I h.1) fun f s1 q => ?_)
  cases f with
  | next =>
    obtain ⟨σ', H', I', q⟩ := q
    exact h2 pins s1 σ' H' D I' (h.2 σ' H' q)
  | ret v => exact q
  | brk => exact q
  | cont => exact q
end
/-- a number below 2 to the n-th either way -/
def Bd (n : Nat) (i : Int) : Prop := i.natAbs < 2 ^ n
theorem Bd.mul {n m : Nat} {i j : Int} (hi : Bd n i) (hj : Bd m j) : Bd (n + m) (i * j) := by
  unfold Bd at *
  rw [Int.natAbs_mul, Nat.pow_add]
  exact Nat.mul_lt_mul_of_lt_of_le hi (Nat.le_of_lt hj) (Nat.two_pow_pos m)
theorem Bd.mono {n m : Nat} {i : Int} (hi : Bd n i) (h : n ≤ m := by decide) : Bd m i := Nat.lt_of_lt_of_le hi (Nat.pow_le_pow_right (by decide) h)
theorem Bd.add {n : Nat} {i j : Int} (hi : Bd n i) (hj : Bd n j) : Bd (n + 1) (i + j) := by
  unfold Bd at *
  rw [Nat.pow_succ]
  have := Int.natAbs_add_le i j
  omega
theorem Bd.sub {n : Nat} {i j : Int} (hi : Bd n i) (hj : Bd n j) : Bd (n + 1) (i - j) := by
  unfold Bd at *
  rw [Nat.pow_succ]
  have := Int.natAbs_sub_le i j
  omega
theorem Bd.neg {n : Nat} {i : Int} (hi : Bd n i) : Bd n (-i) := by unfold Bd at *; rw [Int.natAbs_neg]; exact hi
theorem Bd.fit {n : Nat} {i : Int} (hi : Bd n i) (h : n ≤ 8000 := by decide) : Fit i := Nat.lt_of_lt_of_le hi (Nat.pow_le_pow_right (by decide) h)
theorem Bd.of {i : Int} (h1 : -1606938044258990275541962092341162602522202993782792835301376 < i) (h2 : i < 1606938044258990275541962092341162602522202993782792835301376) : Bd 200 i := by
  unfold Bd
  have e : (2 ^ 200 : Nat) = 1606938044258990275541962092341162602522202993782792835301376 := by decide
  rw [e]
  omega
theorem Fit.o {i : Int} (h1 : -1606938044258990275541962092341162602522202993782792835301376 < i) (h2 : i < 1606938044258990275541962092341162602522202993782792835301376) : Fit i := (Bd.of h1 h2).fit
end L2
/-! EXTENSION E: calls with keywords that may raise. -/
namespace L2
open PySem PySem.Spec PyProof.Rows
/-- n arguments by place, m by name -/
def gk {α : Type} (n m : Nat) (us ws : List α) : List α := if us.length = n ∧ ws.length = m then us ++ ws else []
def AtK (K : PySem.W.Frag) (mg : Str → Option Value) (x : Str) (st : Stmt) (ps ks : List Str) (n m : Nat) : Prop :=
  ∃ f fd dV, FunD K x x st f fd dV ∧ mg x = some (.ref f) ∧ KBinds K fd ps ks (gk n m) (gk n m)
def DefOkK (P : Program) (w : World) (K : PySem.W.Frag) (mg : Str → Option Value) (base : Heap) (CX : CXT) (k : Nat) (x : Str) (ps ks : List Str) (n m : Nat) (sp : Sp) : Prop :=
  ∃ f fd, FnOk P w K mg base CX k f fd ps sp ∧ mg x = some (.ref f) ∧ PySem.W.keepIn K (.ref f) = true ∧ KBinds K fd ps ks (gk n m) (gk n m)
section
variable {P : Program} {w : World} {K : PySem.W.Frag} {mg : Str → Option Value} {base : Heap}
theorem AtK.okX {x : Str} {st : Stmt} {N ps ks : List Str} {n m k : Nat} {sp : Sp} (F : AtK K mg x st ps ks n m) (S : FnScope N ps (defScope st)) (len : ∀ vs H Q E, sp vs H Q E → vs.length = ps.length)
    (hbody : ∀ (f : Addr) (cdv : Value) (A : Around) (outer : List Env) (s : Shared) (H : Hp) (vs : List V) (Q : VK) (E : XK), Room k (A.deeper (envOfC x (defScope st) s.heap.objs.size f cdv)) → sp vs H Q E →
      ∃ t, PSs (cxX P w K mg base N x (defScope st) f cdv A outer s H E) (defBody st) t ∧ t { nx := fun _ H' => Q .non H', rt := Q } (start N vs) H) : DefOkK P w K mg base (XOk P w) (k + 1) x ps ks n m sp := by
  obtain ⟨f, fd, dV, F1, hm, hb⟩ := F
  exact ⟨f, fd, F1.okX S len (hbody f), hm, F1.kp, hb⟩
end
section
variable {X : Cx} {k n m : Nat} {ps ks : List Str} {sp : Sp} {x : Str} {p pos : Pos} {e : Expr} {es : List Expr} {kws : List Keyword} {t tk : TA}
end
end L2
namespace L2
open PySem PySem.Spec PyProof.Rows
theorem ix_listK {X : Cx} {K : PySem.W.Frag} (h : X.K = K) : IxR X (rIxL K) := h ▸ ix_list
end L2
namespace L2
open PySem PySem.Spec PyProof.Rows
end L2
/-! EXTENSION F: readings folded. -/
namespace L2
open PySem
theorem ixT {K : PySem.W.Frag} {H : Hp} {r : Addr} {xs : List V} {i : Int} {v : V} {Q : VK} (k : SqT K H r xs) (e : atI xs i = some v) (q : Q v H) : rIxT K (.ref r) (.int i) H Q := ⟨r, xs, i, v, rfl, rfl, k, e, q⟩
theorem ixL {K : PySem.W.Frag} {H : Hp} {r : Addr} {xs : List V} {i : Int} {v : V} {Q : VK} (k : SqL K H r xs) (e : atI xs i = some v) (q : Q v H) : rIxL K (.ref r) (.int i) H Q := ⟨r, xs, i, v, rfl, rfl, k, e, q⟩
/-- the turns of a for -/
def ForG (J : It) (g : TG) (tb : TS) (D : Ends) (σ : St) (H1 : Hp) : Prop := ∃ W : Nat → Nat → St → Hp → Prop, (∃ m, W 0 m σ H1) ∧ ∀ i m σ H, W i m σ H →
  (J.stop i H ∧ D.nx σ H) ∨ (J.go i H ∧ ∃ N : St → Hp → Prop, (∀ σ' H', N σ' H' → ∃ m', m' < m ∧ W (i + 1) m' σ' H') ∧ ∀ x H', J.yld i H x H' → g x σ H' fun σ2 H2 => tb { D with nx := N, ct := N, bk := D.nx } σ2 H2)
section
variable {K : PySem.W.Frag} {ta : TA} {tl : TE} {g : TG} {tb : TS} {D : Ends} {σ : St} {H : Hp} {ix : List Nat} {tt : TT} {te : TE} {Q : VK}
theorem tFor_R1 : tFor (iRng1 ta) g tb D σ H = ta σ H fun vs H1 => ∃ j : Int, vs = [.int j] ∧ -(2 ^ 62) ≤ j ∧ j < 2 ^ 62 ∧ ForG (Itr 0 j.toNat) g tb D σ H1 := rfl
theorem tFor_R2 : tFor (iRng2 ta) g tb D σ H = ta σ H fun vs H1 => ∃ i j : Int, vs = [.int i, .int j] ∧ (-(2 ^ 62) ≤ i ∧ i < 2 ^ 62 ∧ -(2 ^ 62) ≤ j ∧ j < 2 ^ 62) ∧ ForG (Itr i (j - i).toNat) g tb D σ H1 := rfl
theorem tFor_L : tFor (iList K tl) g tb D σ H = tl σ H fun x H1 => ∃ a, x = .ref a ∧ (∃ xs, SqL K H1 a xs) ∧ ForG (Itl K a) g tb D σ H1 := rfl
theorem tFor_T : tFor (iTup K tl) g tb D σ H = tl σ H fun x H1 => ∃ a, x = .ref a ∧ (∃ xs, SqT K H1 a xs) ∧ ForG (Itt K a) g tb D σ H1 := rfl
theorem tComp_R1 : tComp (iRng1 ta) ix g tt te σ H Q = ta σ H fun vs H1 => ∃ j : Int, vs = [.int j] ∧ -(2 ^ 62) ≤ j ∧ j < 2 ^ 62 ∧ ∀ acc, H1 acc = none → CompGo (Itr 0 j.toNat) (slotsAt σ ix) g tt te acc (fun H' => Q (.ref acc) H') H1 := rfl
theorem tComp_R2 : tComp (iRng2 ta) ix g tt te σ H Q = ta σ H fun vs H1 => ∃ i j : Int, vs = [.int i, .int j] ∧ (-(2 ^ 62) ≤ i ∧ i < 2 ^ 62 ∧ -(2 ^ 62) ≤ j ∧ j < 2 ^ 62) ∧ ∀ acc, H1 acc = none → CompGo (Itr i (j - i).toNat) (slotsAt σ ix) g tt te acc (fun H' => Q (.ref acc) H') H1 := rfl
theorem tComp_L : tComp (iList K tl) ix g tt te σ H Q = tl σ H fun x H1 => ∃ a, x = .ref a ∧ (∃ xs, SqL K H1 a xs) ∧ ∀ acc, H1 acc = none → CompGo (Itl K a) (slotsAt σ ix) g tt te acc (fun H' => Q (.ref acc) H') H1 := rfl
theorem tComp_T : tComp (iTup K tl) ix g tt te σ H Q = tl σ H fun x H1 => ∃ a, x = .ref a ∧ (∃ xs, SqT K H1 a xs) ∧ ∀ acc, H1 acc = none → CompGo (Itt K a) (slotsAt σ ix) g tt te acc (fun H' => Q (.ref acc) H') H1 := rfl
theorem FoR.lst {P : Prop} {a : Addr} {xs : List V} (k : SqL K H a xs) (h : P) : (∃ xs, SqL K H a xs) ∧ P := ⟨⟨xs, k⟩, h⟩
theorem FoR.tup {P : Prop} {a : Addr} {xs : List V} (k : SqT K H a xs) (h : P) : (∃ xs, SqT K H a xs) ∧ P := ⟨⟨xs, k⟩, h⟩
/-- len -/
theorem FoR.len {P : List V → Prop} {a : Addr} {xs : List V} (k : SqL K H a xs) (h : P xs) : ∃ x, (SqL K H a x ∨ SqT K H a x) ∧ P x := ⟨xs, .inl k, h⟩
theorem FoR.lenT {P : List V → Prop} {a : Addr} {xs : List V} (k : SqT K H a xs) (h : P xs) : ∃ x, (SqL K H a x ∨ SqT K H a x) ∧ P x := ⟨xs, .inr k, h⟩
end
end L2
/-! EXTENSION G: comprehensions whose items are told. -/
namespace L2
open PySem PySem.Spec PyProof.Rows
theorem Same.keepN {H H' : Hp} {p : Addr} (h : Same H H') (n : H p = none) (o : HO) : Same H (upd H' p o) := fun b u q => by rw [upd_ne (ne_of_none q n)]; exact h b u q
theorem Same.noneN {H H' : Hp} {p : Addr} (h : Same H H') (n : H' p = none) : H p = none := by
  cases e : H p with
  | none => rfl
  | some o =>
    have z := h _ _ e
    rw [n] at z
    cases z
theorem lt_line {n : Nat} (h : n < 1000) : n < sizeLine := Nat.lt_of_lt_of_le h (by decide)
section
variable {ρ : St} {te : TE} {tt : TT} {acc : Addr} {Z : Hp → Prop} {H1 : Hp}
theorem compT {K : PySem.W.Frag} {a : Addr} {zs : List V} (f : V → V) (hn : zs.length < 1000) (hacc : H1 acc = none) (hz : SqT K H1 a zs)
    (hs : ∀ (z : V) (H3 : Hp) (R : V → Hp → Prop), z ∈ zs → Same H1 H3 → (∀ H4, Same H3 H4 → R (f z) H4) → te (some z :: ρ) H3 R)
    (hd : ∀ H', Same H1 H' → H' acc = some (.lst (zs.map f)) → Z H') : CompGo (Itt K a) ρ (gName 0) tNoIf te acc Z H1 := by
  refine comp_tup (zs := zs) (fun i xs H => Same H1 H ∧ H acc = some (.lst xs) ∧ xs = (zs.take i).map f) ⟨Same.new hacc _, upd_same, rfl⟩ (fun i xs H _ h => h.1.tup hz) ?_ ?_
  · rintro i z xs H hi ⟨g1, g2, rfl⟩
    refine hs z H _ (List.mem_of_getElem? hi) g1 fun H4 s4 => ⟨s4 _ _ g2, lt_line ?_, Same.keepN (g1.trans s4) hacc _, upd_same, ?_⟩
    · rw [List.length_map, List.length_take]
      omega
    · rw [List.take_add_one, hi, List.map_append]
      rfl
  · rintro xs H ⟨g1, g2, rfl⟩
    rw [List.take_length] at g2
    exact hd H g1 g2
theorem compL {K : PySem.W.Frag} {a : Addr} {zs : List V} (f : V → V) (hn : zs.length < 1000) (hacc : H1 acc = none) (hz : SqL K H1 a zs)
    (hs : ∀ (z : V) (H3 : Hp) (R : V → Hp → Prop), z ∈ zs → Same H1 H3 → (∀ H4, Same H3 H4 → R (f z) H4) → te (some z :: ρ) H3 R)
    (hd : ∀ H', Same H1 H' → H' acc = some (.lst (zs.map f)) → Z H') : CompGo (Itl K a) ρ (gName 0) tNoIf te acc Z H1 := by
  refine comp_list (zs := zs) (fun i xs H => Same H1 H ∧ H acc = some (.lst xs) ∧ xs = (zs.take i).map f) ⟨Same.new hacc _, upd_same, rfl⟩ (fun i xs H _ h => h.1.seq hz) ?_ ?_
  · rintro i z xs H hi ⟨g1, g2, rfl⟩
    refine hs z H _ (List.mem_of_getElem? hi) g1 fun H4 s4 => ⟨s4 _ _ g2, lt_line ?_, Same.keepN (g1.trans s4) hacc _, upd_same, ?_⟩
    · rw [List.length_map, List.length_take]
      omega
    · rw [List.take_add_one, hi, List.map_append]
      rfl
  · rintro xs H ⟨g1, g2, rfl⟩
    rw [List.take_length] at g2
    exact hd H g1 g2
end
end L2
/-! EXTENSION H: == and != of lists and tuples of ints, and of lists of such. -/
namespace L2
open PySem PySem.Spec PyProof.Rows
section
variable {K : PySem.W.Frag} {H : Hp} {a b : Addr} {Q : VK}
theorem shapedT (ns : List Int) : SeqAt.shaped (.tuple (ns.map PyData.int)) = true := by
  simp [SeqAt.shaped, PyData.canLay0, PyData.depth, PySem.W.ke_canLayAll0, PySem.W.ke_depthAll]
theorem neT_ints {x y : List Int} (h1 : SqT K H a (x.map V.int)) (h2 : SqT K H b (y.map V.int)) (q : Q (.bl (!decide (x = y))) H) : rEqD K true (.ref a) (.ref b) H Q :=
  ⟨.tuple (x.map PyData.int), .tuple (y.map PyData.int), .tup h1 (RdsAll.ints _), .tup h2 (RdsAll.ints _), shapedT _, shapedT _, by
    have e : PyData.eqv (.tuple (x.map PyData.int)) (.tuple (y.map PyData.int)) = decide (x = y) := PySem.W.ked_eqvAll x y
    simp only [if_true, e]
    exact q⟩
/-- tuples of ints behind a row of references -/
def TupsAt (K : PySem.W.Frag) (H : Hp) (vs : List V) (nss : List (List Int)) : Prop := vs.length = nss.length ∧ ∀ (i : Nat) (v : V) (ns : List Int), vs[i]? = some v → nss[i]? = some ns → ∃ p, v = .ref p ∧ SqT K H p (ns.map V.int)
def tupD (nss : List (List Int)) : List PyData := nss.map fun ns => .tuple (ns.map PyData.int)
theorem TupsAt.nil : TupsAt K H [] [] := ⟨rfl, fun i v ns h => by simp at h⟩
end
end L2
/-! EXTENSION I: sum and min of a list of ints. -/
namespace L2
open PySem PySem.Spec PyProof.Rows
end L2
namespace L2
open PySem PySem.Spec PyProof.Rows
end L2
namespace L2
open PySem PySem.Spec PyProof.Rows
theorem se_tup {es : List Expr} {k : Nat} {rest : List Expr} {pos : Pos} {env : Env} : starEach (.Tuple es k pos :: rest) env = (false, eval (.Tuple es k pos) env) :: starEach rest env := by
  rw [starEach]
  intro e p h
  cases h
theorem se_con {c : Const} {k : Nat} {rest : List Expr} {pos : Pos} {env : Env} : starEach (.Constant c k pos :: rest) env = (false, eval (.Constant c k pos) env) :: starEach rest env := by
  rw [starEach]
  intro e p h
  cases h
theorem se_nam {x : Str} {rest : List Expr} {pos : Pos} {env : Env} : starEach (.Name x pos :: rest) env = (false, eval (.Name x pos) env) :: starEach rest env := by
  rw [starEach]
  intro e p h
  cases h
theorem se_cal {a : Expr} {es : List Expr} {ks : List Keyword} {rest : List Expr} {pos : Pos} {env : Env} : starEach (.Call a es ks pos :: rest) env = (false, eval (.Call a es ks pos) env) :: starEach rest env := by
  rw [starEach]
  intro e p h
  cases h
theorem se_bin {a b : Expr} {op : Operator} {rest : List Expr} {pos : Pos} {env : Env} : starEach (.BinOp a op b pos :: rest) env = (false, eval (.BinOp a op b pos) env) :: starEach rest env := by
  rw [starEach]
  intro e p h
  cases h
theorem se_sub {a b : Expr} {rest : List Expr} {pos : Pos} {env : Env} : starEach (.Subscript a b pos :: rest) env = (false, eval (.Subscript a b pos) env) :: starEach rest env := by
  rw [starEach]
  intro e p h
  cases h
theorem se_lst {es : List Expr} {rest : List Expr} {pos : Pos} {env : Env} : starEach (.List es pos :: rest) env = (false, eval (.List es pos) env) :: starEach rest env := by
  rw [starEach]
  intro e p h
  cases h
theorem se_cmp {a : Expr} {gs : List Comprehension} {sc : Scope} {rest : List Expr} {pos : Pos} {env : Env} : starEach (.ListComp a gs sc pos :: rest) env = (false, eval (.ListComp a gs sc pos) env) :: starEach rest env := by
  rw [starEach]
  intro e p h
  cases h
end L2
/-! EXTENSION J: the promises as structures (a text that begins with a long list of written tuples is else run while it is read). -/
namespace L2
open PySem PySem.Spec PyProof.Rows
structure WE (X : Cx) (e : Expr) (t : TE) : Prop where
  h : PE X e t
structure WA (X : Cx) (es : List Expr) (t : TA) : Prop where
  h : PA X es t
structure WS (X : Cx) (st : Stmt) (t : TS) : Prop where
  h : PS X st t
structure WSs (X : Cx) (st : List Stmt) (t : TS) : Prop where
  h : PSs X st t
section
variable {X : Cx} {pos : Pos}
end
section
variable {P : Program} {w : World} {K : PySem.W.Frag} {mg : Str → Option Value} {base : Heap}
end
end L2
/-! EXTENSION K: xs[:c] = ys. -/
namespace L2
open PySem PySem.Spec PyProof.Rows
section
variable {prog : Program} {w : World} {A : Around} {E : Value → Shared → Prop} {s : Shared}
end
section
variable {X : Cx} {pos p2 : Pos}
def gSl0 (to : TE) (tl th : TO) : TG := fun v σ H Q => to σ H fun o H1 => tl σ H1 fun lo H2 => th σ H2 fun hi H3 => lo = none ∧ ∃ (c : Nat) (l b : Addr) (xs ys : List V), hi = some (c : Int) ∧ o = .ref l ∧ v = .ref b ∧ l ≠ b ∧ H3 l = some (.lst xs) ∧ H3 b = some (.lst ys) ∧ c ≤ xs.length ∧ xs.length + ys.length ≤ sizeLine ∧ Q σ (upd H3 l (.lst (ys ++ xs.drop c)))
end
end L2
namespace L2
open PySem PySem.Spec PyProof.Rows
section
variable {ρ : St} {te : TE} {tt : TT} {acc : Addr} {Z : Hp → Prop} {H1 : Hp}
end
end L2
/-! EXTENSION L: comprehensions whose items are references of which something is known, and filters by place. -/
namespace L2
open PySem PySem.Spec PyProof.Rows
section
variable {X : Cx}
end
section
variable {ρ : St} {te : TE} {tt : TT} {acc : Addr} {Z : Hp → Prop} {H1 : Hp}
/-- all tuples stay -/
def SameT (H H' : Hp) : Prop := ∀ a xs, H a = some (.tup xs) → H' a = some (.tup xs)
theorem Same.t {H H' : Hp} (s : Same H H') : SameT H H' := fun a xs h => s a _ h
theorem SameT.trans {H H' J : Hp} (s : SameT H H') (t : SameT H' J) : SameT H J := fun a xs h => t a xs (s a xs h)
theorem SameT.refl (H : Hp) : SameT H H := fun _ _ h => h
theorem SameT.upd {H : Hp} {a : Addr} {xs ys : List V} (h : H a = some (.lst xs)) : SameT H (upd H a (.lst ys)) := fun b zs hb => by
  have ne : b ≠ a := fun e => by
    subst e
    rw [h] at hb
    cases hb
  rw [upd_ne ne]
  exact hb
def Stab (p : Nat → V → Hp → Prop) : Prop := ∀ i y H H', p i y H → SameT H H' → p i y H'
theorem snocP {p : Nat → V → Hp → Prop} {xs : List V} {y : V} {i : Nat} {H : Hp} (hl : xs.length = i) (hp : ∀ j z, xs[j]? = some z → p j z H) (py : p i y H) : ∀ j z, (xs ++ [y])[j]? = some z → p j z H := fun j z hz => by
  by_cases cj : j < xs.length
  · rw [List.getElem?_append_left cj] at hz
    exact hp j z hz
  · have cj2 : j < (xs ++ [y]).length := (List.getElem?_eq_some_iff.mp hz).1
    rw [List.length_append] at cj2
    have e : j = i := by
      have : j < xs.length + 1 := cj2
      omega
    subst e
    rw [List.getElem?_append_right (by omega), hl, Nat.sub_self] at hz
    cases hz
    exact py
theorem compLq {K : PySem.W.Frag} {a : Addr} {zs : List V} (p : Nat → V → Hp → Prop) (st : Stab p) (hn : zs.length < 1000) (hacc : H1 acc = none) (hz : SqL K H1 a zs)
    (hs : ∀ (i : Nat) (z : V) (H3 : Hp) (R : V → Hp → Prop), zs[i]? = some z → Same H1 H3 → (∀ y H4, Same H3 H4 → p i y H4 → R y H4) → te (some z :: ρ) H3 R)
    (hd : ∀ ys H', Same H1 H' → H' acc = some (.lst ys) → ys.length = zs.length → (∀ i y, ys[i]? = some y → p i y H') → Z H') : CompGo (Itl K a) ρ (gName 0) tNoIf te acc Z H1 := by
  refine comp_list (zs := zs) (fun i xs H => Same H1 H ∧ H acc = some (.lst xs) ∧ xs.length = i ∧ ∀ j y, xs[j]? = some y → p j y H) ⟨Same.new hacc _, upd_same, rfl, fun j y h => by simp at h⟩ (fun i xs H _ h => h.1.seq hz) ?_ ?_
  · rintro i z xs H hi ⟨g1, g2, hl, hp⟩
    have hlt := (List.getElem?_eq_some_iff.mp hi).1
    refine hs i z H _ hi g1 fun y H4 s4 py => ⟨s4 _ _ g2, lt_line (by omega), Same.keepN (g1.trans s4) hacc _, upd_same, ?_, ?_⟩
    · rw [List.length_append, hl]
      rfl
    · have u := SameT.upd (ys := xs ++ [y]) (s4 _ _ g2)
      exact snocP hl (fun j z hz => st _ _ _ _ (hp j z hz) (s4.t.trans u)) (st _ _ _ _ py u)
  · rintro xs H ⟨g1, g2, hl, hp⟩
    exact hd xs H g1 g2 hl hp
end
end L2
/-! EXTENSION M: texts: walked, compared, repeated, cut; a def without parameters. -/
namespace L2
open PySem PySem.Spec PyProof.Rows
section
variable {X : Cx} {tg : Expr}
def Asc (x : Str) : Prop := (x.cps.all fun c => decide (c < 128)) = true
/-- the signs of a text -/
def Its (x : Str) : It := ⟨fun i _ => i < x.cps.size, fun i H v H' => H' = H ∧ ∃ c, x.cps[i]? = some c ∧ v = .str ⟨#[c]⟩, fun i _ => x.cps.size ≤ i⟩
theorem turn_str {P : Program} {w : World} {K : PySem.W.Frag} {tg : Expr} (it : Addr) (x : Str) (t : Tok) : Turn P w K tg (Its x) [it] it (fun i h => h.IsStrIter it "str_ascii_iterator" x t i) where
  mem := by simp
  obj := fun i h st b hb => by
    have e : b = it := by simpa using hb
    subst e
    obtain ⟨o, e, c, d⟩ := st
    exact ⟨o, e, fun v z => by rw [d] at z; cases z⟩
  keep := fun i h h' st k => by
    obtain ⟨o, e, c, d⟩ := st
    exact ⟨o, k it (by simp) o e, c, d⟩
  item := by
    intro X hP hw hK hc i pins s σ H E I hf st hg
    subst hP hw hK
    have hg' : i < x.cps.size := hg
    have hx : x.cps[i]? = some x.cps[i] := Array.getElem?_eq_getElem hg'
    obtain ⟨f0, f1, f2, f3, f4, f5⟩ := hf it (by simp)
    refine wpAny_pyNext_ascii_item st hx fun h' st' sb => ?_
    have I1 : Inv X pins σ H { s with heap := h', toks := s.toks + 1 } := I.turned (fun b o hb e => (sb.2 b hb).trans e) f0 f1 f3 f4 f5
    obtain ⟨o, e, c, d⟩ := id st'
    exact ⟨_, rfl, go_of (s := { s with heap := h', toks := s.toks + 1 }) e c d (by decide) ⟨.str ⟨#[x.cps[i]]⟩, H, I1, ⟨_, rfl⟩, ⟨rfl, _, hx, rfl⟩, st', fun b hb => (hf b hb).1⟩⟩
  done := by
    intro X hP hw hK hc i pins s σ H E I hf st hg
    subst hP hw hK
    have hg' : x.cps.size ≤ i := hg
    obtain ⟨f0, f1, f2, f3, f4, f5⟩ := hf it (by simp)
    exact wpAny_pyNext_ascii_end (I.ok.hd hc) st (by simpa using hg') fun h' eb => ⟨rfl, I.turned (t' := s.toks) (fun b o hb e => eb b o hb e) f0 f1 f3 f4 f5⟩
  self := fun _ _ _ _ _ st h => wpAny_pyIter_striter_ascii st h
def iStr (tl : TE) : TI := fun σ H R => tl σ H fun v H1 => ∃ x, v = .str x ∧ Asc x ∧ R (Its x) H1
theorem pi_str {l : Expr} {tl : TE} (hl : PE X l tl) : PI X tg l (iStr tl) := by
  intro pins s σ H R I h
  refine thn (hl pins s σ H _ I h) fun v s1 ⟨x, H1, I1, r1, q1⟩ => ?_
  obtain ⟨y, e, ha, q⟩ := q1
  subst e
  obtain ⟨t, rfl⟩ := r1
  refine wpAny_pyIter_ascii ha ?_
  refine ⟨s1.heap.objs.size, [s1.heap.objs.size], _, _, H1, rfl, I1.kept (t' := s1.toks) fun b o e => Heap.get?_push_of_some _ e, turn_str _ y t, ⟨_, Heap.get?_push_size _ rfl, rfl, rfl⟩, fun b hb => ?_, q⟩
  have e : b = s1.heap.objs.size := by simpa using hb
  subst e
  exact I1.fpOk (Nat.le_refl _) (I1.hok.fresh (Nat.le_refl _))
theorem op_mul_str : OpR X (binaryOp .Mult) (fun x y H Q => ∃ i n, x = .str i ∧ y = .int n ∧ MulOk i n ∧ Q (.str (Txt.mul i n)) H) := by
  intro pins s σ H x y v u Q I rx ry h
  obtain ⟨i, n, rfl, rfl, hm, q⟩ := h
  obtain ⟨t, rfl⟩ := rx
  obtain ⟨t', rfl⟩ := ry
  exact PySem.SB.mul hm fun t' k => ⟨.str (Txt.mul i n), H, I.tok _, ⟨_, rfl⟩, q⟩
end
section
variable {X : Cx} {e : Expr} {lo hi : Option Expr} {te : TE} {tl th : TO} {pos p2 : Pos}
theorem str_cut {pins : List (Addr × Obj)} {σ : St} {H : Hp} {s : Shared} {z : Str} {t : Tok} {vl vu : Value} {l u : Option Int} {Q : VK} (I : Inv X pins σ H s) (hz : z.length ≤ sizeLine) (pl : IsPart vl l) (pu : IsPart vu u) (h : l = none ∧ u ≠ none ∨ l ≠ none ∧ u = none) (q : Q (.str (Txt.slice z l u)) H) :
    ItemOn (model X.prog X.w) X.A X.xe (.str z t) (.ref s.heap.objs.size) (EP X pins σ Q) { s with heap := s.heap.push { cls := .type "slice", data := .fields #[vl, vu, .none] } } := by
  cases pl with
  | none =>
    cases pu with
    | none => simp at h
    | int j tj => exact SBH.sliceItem_ns (P := fun h' => ∀ b o, s.heap.get? b = some o → h'.get? b = some o) (fun h ob p b o e => Heap.get?_push_of_some _ (p b o e)) (fun b o e => e) (fun h' t' k p => ⟨.str _, H, I.kept p, ⟨_, rfl⟩, q⟩) hz
  | int i t1 =>
    cases pu with
    | none => exact SBH.sliceItem_sn (P := fun h' => ∀ b o, s.heap.get? b = some o → h'.get? b = some o) (fun h ob p b o e => Heap.get?_push_of_some _ (p b o e)) (fun b o e => e) (fun h' t' k p => ⟨.str _, H, I.kept p, ⟨_, rfl⟩, q⟩) hz
    | int j tj => simp at h
def rSlS : V → Option Int → Option Int → Hp → VK → Prop := fun x l u H Q => ∃ z, x = .str z ∧ z.length ≤ sizeLine ∧ (l = none ∧ u ≠ none ∨ l ≠ none ∧ u = none) ∧ Q (.str (Txt.slice z l u)) H
theorem pe_sliceS (he : PE X e te) (hl : PO X lo tl) (hu : PO X hi th) : PE X (.Subscript e (.Slice lo hi none p2) pos) (tSl rSlS te tl th) := by
  intro pins s σ H Q I h
  refine Subscript_ (thn (he pins s σ H _ I h) fun v s1 ⟨x, H1, I1, r1, q1⟩ => ?_)
  refine wpAny_Slice (thn (hl pins s1 σ H1 _ I1 q1) fun vl s2 ⟨l, H2, I2, pl, q2⟩ => thn (hu pins s2 σ H2 _ I2 q2) fun vu s3 ⟨u, H3, I3, pu, q3⟩ => ?_)
  rw [evalPart_none]
  refine wpAny_pure ?_
  obtain ⟨z, rfl, hz, hh, q⟩ := q3
  obtain ⟨t, rfl⟩ := r1
  obtain ⟨T, id, hT, ht, hg⟩ := str_cut (t := t) I3 hz pl pu hh q
  show wpAny (model X.prog X.w) X.A (subscriptTail e (.Slice lo hi none p2) (.str z t) (.ref s3.heap.objs.size)) (EP X pins σ Q) X.xe { s3 with heap := s3.heap.push { cls := .type "slice", data := .fields #[vl, vu, .none] } }
  exact tail_any (ops := [.ref s3.heap.objs.size, .str z t]) ht hT hg (by with_unfolding_all rfl)
end
section
variable {X : Cx} {CX : CXT} {k : Nat} {x : Str} {ps : List Str} {dvs : List V} {sp : Sp} {E : XK} {p pos : Pos}
end
section
variable {tl : TE} {g : TG} {tb : TS} {D : Ends} {σ : St} {H : Hp} {ix : List Nat} {tt : TT} {te : TE} {Q : VK}
theorem tFor_S : tFor (iStr tl) g tb D σ H = tl σ H fun v H1 => ∃ x, v = .str x ∧ Asc x ∧ ForG (Its x) g tb D σ H1 := rfl
theorem tComp_S : tComp (iStr tl) ix g tt te σ H Q = tl σ H fun v H1 => ∃ x, v = .str x ∧ Asc x ∧ ∀ acc, H1 acc = none → CompGo (Its x) (slotsAt σ ix) g tt te acc (fun H' => Q (.ref acc) H') H1 := rfl
end
section
variable {ρ : St} {te : TE} {acc : Addr} {Z : Hp → Prop} {H1 : Hp}
theorem compS {x : Str} (f : Nat → V) (hn : x.cps.size < 1000) (hacc : H1 acc = none)
    (hs : ∀ (c : Nat) (H3 : Hp) (R : V → Hp → Prop), c ∈ x.cps.toList → Same H1 H3 → (∀ H4, Same H3 H4 → R (f c) H4) → te (some (.str ⟨#[c]⟩) :: ρ) H3 R)
    (hd : ∀ H', Same H1 H' → H' acc = some (.lst (x.cps.toList.map f)) → Z H') : CompGo (Its x) ρ (gName 0) tNoIf te acc Z H1 := by
  have hl : x.cps.toList.length = x.cps.size := Array.length_toList
  refine ⟨fun i m xs H => (Same H1 H ∧ H acc = some (.lst xs) ∧ xs = (x.cps.toList.take i).map f) ∧ i ≤ x.cps.size ∧ m = x.cps.size - i, ⟨x.cps.size, ⟨Same.new hacc _, upd_same, rfl⟩, Nat.zero_le _, rfl⟩, ?_⟩
  rintro i m xs H ⟨⟨g1, g2, rfl⟩, hi, rfl⟩
  by_cases hlt : i < x.cps.size
  · refine .inr ⟨hlt, (fun y H4 => y = f x.cps[i] ∧ Same H1 H4 ∧ H4 acc = some (.lst ((x.cps.toList.take i).map f))), fun _ => False, ?_, fun _ z => z.elim, ?_⟩
    · rintro y H4 ⟨rfl, s4, a4⟩
      refine ⟨a4, lt_line (by rw [List.length_map, List.length_take]; omega), x.cps.size - (i + 1), by omega, ⟨Same.keepN s4 hacc _, upd_same, ?_⟩, hlt, rfl⟩
      have ez : x.cps.toList[i]? = some x.cps[i] := by simp [hlt]
      rw [List.take_add_one, ez, List.map_append]
      rfl
    · rintro v0 v H' ⟨rfl, c, hc, rfl⟩
      have ec : c = x.cps[i] := by
        rw [Array.getElem?_eq_getElem hlt] at hc
        exact (Option.some.inj hc).symm
      subst ec
      refine ⟨⟨_, rfl⟩, ?_⟩
      simp only [tNoIf, if_true]
      exact hs _ H' _ (by simp) g1 fun H4 s4 => ⟨rfl, g1.trans s4, s4 _ _ g2⟩
  · have : i = x.cps.size := by omega
    subst this
    rw [← hl, List.take_length] at g2
    exact .inl ⟨Nat.le_refl _, hd H g1 g2⟩
end
end L2
namespace L2
open PySem PySem.Spec PyProof.Rows
section
variable {X : Cx} {e : Expr} {te : TE} {p p' pos pos' : Pos}
def tListRev (K : PySem.W.Frag) (te : TE) : TE := fun σ H Q => te σ H fun x H1 => ∃ a ys, x = .ref a ∧ SqL K H1 a ys ∧ ∀ l, H1 l = none → Q (.ref l) (upd H1 l (.lst ys.reverse))
end
end L2
/-! EXTENSION N: comprehensions whose target is a tuple of names; lists joined that are only read; a mutable box. -/
namespace L2
open PySem PySem.Spec PyProof.Rows
structure CompScopeM (N : List Str) (sc : Scope) (N' : List Str) (ix : List Nat) (xs0 : List Str) (r : List Str) (cs : Scope) : Prop where
  eq : N' = xs0 ++ r
  kind : cs.kind = .function
  hcell : ∀ y ∈ cs.names, y.2 ≠ .cell
  hnames : ∀ y ∈ cs.names, y.2 = .local → cs.names.lookup y.1 = some .local
  nd : (xs0 ++ r).Nodup
  fr : ∀ y ∈ cs.names, y.2 = .free → sc.names.lookup y.1 = some .cell ∨ sc.names.lookup y.1 = some .free
  ixs : Ixs N sc cs r ix
def CompGoM (J : It) (n : Nat) (ρ : St) (g : TG) (tt : TT) (te : TE) (acc : Addr) (Z : Hp → Prop) (H1 : Hp) : Prop :=
  ∃ W : Nat → Nat → List V → Hp → Prop, (∃ m, W 0 m [] (upd H1 acc (.lst []))) ∧ ∀ i m xs H, W i m xs H →
    ((J.stop i H ∧ Z H) ∨ (J.go i H ∧ ∃ (Nx : V → Hp → Prop) (Nn : Hp → Prop), (∀ y H4, Nx y H4 → H4 acc = some (.lst xs) ∧ xs.length < sizeLine ∧ ∃ m', m' < m ∧ W (i + 1) m' (xs ++ [y]) (upd H4 acc (.lst (xs ++ [y])))) ∧
      (∀ H3, Nn H3 → ∃ m', m' < m ∧ W (i + 1) m' xs H3) ∧ ∀ (v0 : St) x H', v0.length = n → J.yld i H x H' → g x (v0 ++ ρ) H' fun σ2 H2 => (∃ v : St, v.length = n ∧ σ2 = v ++ ρ) ∧ tt σ2 H2 fun b H3 => if b = true then te σ2 H3 Nx else Nn H3))
section
variable {X : Cx} {pins : List (Addr × Obj)} {σ : St} {H : Hp} {s : Shared}
end
section
variable {X : Cx} {N' r xs0 : List Str} {ix : List Nat} {cs : Scope} {tg iter elt : Expr} {ifs : List Expr} {pos : Pos} {wi : TI} {g : TG} {tt : TT} {te : TE}
def tCompM (wi : TI) (ix : List Nat) (n : Nat) (g : TG) (tt : TT) (te : TE) : TE := fun σ H Q => wi σ H fun J H1 => ∀ acc, H1 acc = none → CompGoM J n (slotsAt σ ix) g tt te acc (fun H' => Q (.ref acc) H') H1
theorem CompScopeM.clos {sc : Scope} {N : List Str} (S : CompScopeM N sc N' ix xs0 r cs) {env : Env} (he : env.scope = sc) (has : ∀ y, (env.kindOf y = some .cell ∨ env.kindOf y = some .free) → ∃ c, env.cells.lookup y = some c) :
    ∃ cl : List (Str × Addr), closureFor cs env = pure cl ∧ (∀ y c, cl.lookup y = some c → env.cells.lookup y = some c) ∧ (∀ y, (y, NameKind.free) ∈ cs.names → ∃ c, cl.lookup y = some c) :=
  closure_ok fun y hy hk => has y.1 (by
    subst he
    exact S.fr y hy hk)
end
section
variable {K : PySem.W.Frag} {ta : TA} {tl : TE} {ix : List Nat} {n : Nat} {g : TG} {tt : TT} {te : TE} {σ : St} {H : Hp} {Q : VK}
theorem tCompM_L : tCompM (iList K tl) ix n g tt te σ H Q = tl σ H fun x H1 => ∃ a, x = .ref a ∧ (∃ xs, SqL K H1 a xs) ∧ ∀ acc, H1 acc = none → CompGoM (Itl K a) n (slotsAt σ ix) g tt te acc (fun H' => Q (.ref acc) H') H1 := rfl
end
section
variable {X : Cx}
def rCatQ (K : PySem.W.Frag) : R2 := fun x y H Q => ∃ l b xs zs, x = .ref l ∧ y = .ref b ∧ SqL K H l xs ∧ SqL K H b zs ∧ xs.length + zs.length ≤ sizeLine ∧ ∀ p, H p = none → Q (.ref p) (upd H p (.lst (xs ++ zs)))
theorem add_listsQ {prog : Program} {w : World} {A : Around} {E : Value → Shared → Prop} {s : Shared} {l b : Addr} {vs ws : List Value} {Q : Value → Shared → Prop} (h1 : s.heap.IsList l vs.toArray) (h2 : s.heap.IsList b ws.toArray) (hz : vs.length + ws.length ≤ sizeLine)
    (q : Q (.ref s.heap.objs.size) { s with heap := s.heap.push { cls := .type "list", data := .seq (vs ++ ws).toArray } }) : wpAny (model prog w) A (binaryOp .Add (.ref l) (.ref b)) Q E s := by
  obtain ⟨⟨cl, dd, da, sl⟩, ho, hc, n, hd⟩ := id h1
  obtain ⟨⟨cl2, dd2, da2, sl2⟩, ho2, hc2, n2, hd2⟩ := id h2
  simp only at hc hd hc2 hd2
  subst hc hd hc2 hd2
  have hz' : vs.toArray.size + ws.toArray.size ≤ sizeLine := by rw [List.size_toArray, List.size_toArray]; exact hz
  refine concat_meets (T := "list") ⟨_, ho, rfl⟩ ⟨_, ho2, rfl⟩ noFill_list_add seq_list_add F.slot_list_add F.entry_list_add (F.args_list_add_2 _ _) (list_addW l b vs.toArray ws.toArray n n2 dd dd2 sl sl2 hz') ⟨ho, ho2, ?_⟩
  have ea : vs.toArray ++ ws.toArray = (vs ++ ws).toArray := by simp
  rw [ea]
  exact q
theorem op_catQ : OpR X (binaryOp .Add) (rCatQ X.K) := by
  intro pins s σ H x y v u Q I rx ry h
  obtain ⟨l, b, xs, zs, rfl, rfl, hH, hB, hz, q⟩ := h
  cases rx
  cases ry
  obtain ⟨its, r, p, _⟩ := I.list hH
  obtain ⟨its2, r2, p2, _⟩ := I.list hB
  have hl := r.length
  have hl2 := r2.length
  refine add_listsQ p.isList p2.isList (by omega) ?_
  exact ⟨.ref _, _, I.lnew (t' := s.toks) (r.append r2) (by rw [List.length_append]; omega), rfl, q _ I.fresh⟩
end
theorem call_tupleL {X : Cx} : CallR X (.type "tuple") (fun xs H Q => ∃ p ys, xs = [.ref p] ∧ SqL X.K H p ys ∧ ∀ l, H l = none → Q (.ref l) (upd H l (.tup ys))) := fun pins s σ H xs us Q I r ⟨p, ys, e, k, q⟩ => call_tuple_of pins s σ H xs us Q I r ⟨p, ys, e, .inl ⟨k, q⟩⟩
/-- all but the box at L stays -/
def SameB (L : Addr) (H H' : Hp) : Prop := ∀ b o, b ≠ L → H b = some o → H' b = some o
theorem SameB.refl (L : Addr) (H : Hp) : SameB L H H := fun _ _ _ h => h
theorem SameB.trans {L : Addr} {H H' J : Hp} (s : SameB L H H') (t : SameB L H' J) : SameB L H J := fun b o n h => t b o n (s b o n h)
theorem Same.b {L : Addr} {H H' : Hp} (s : Same H H') : SameB L H H' := fun b o _ h => s b o h
theorem SameB.acc {L acc : Addr} {H H' : Hp} {o : HO} (s : SameB L H H') (h : H acc = none) : SameB L H (upd H' acc o) := fun b u n q => by rw [upd_ne (ne_of_none q h)]; exact s b u n q
theorem SameB.box {L : Addr} {H H' : Hp} {o : HO} (s : SameB L H H') : SameB L H (upd H' L o) := fun b u n q => by rw [upd_ne n]; exact s b u n q
theorem SameB.none {L b : Addr} {H H' : Hp} (s : SameB L H H') (n : b ≠ L) (h : H' b = none) : H b = none := by
  cases e : H b with
  | none => rfl
  | some o => rw [s b o n e] at h; cases h
theorem SameB.set {L : Addr} {H : Hp} {o : HO} : SameB L H (upd H L o) := fun b u n h => by rw [upd_ne n]; exact h
end L2
/-! # xs[::-1] -/
namespace L2
open PySem PyProof.Rows PySem.Calls
section
variable {X : Cx} {e st : Expr} {te ts : TE} {pos p2 : Pos}
def tSlRev (K : PySem.W.Frag) (te ts : TE) : TE := fun σ H Q => te σ H fun x H1 => ts σ H1 fun k H2 => k = .int (-1) ∧ ∃ a xs, x = .ref a ∧ SqL K H2 a xs ∧ ∀ p, H2 p = none → Q (.ref p) (upd H2 p (.lst xs.reverse))
theorem call_len_seqK {K : PySem.W.Frag} (h : X.K = K) : CallR X (.builtin "len") (fun xs H Q => ∃ p ys, xs = [.ref p] ∧ (SqL K H p ys ∨ SqT K H p ys) ∧ Q (.int ys.length) H) := h ▸ call_len_seq
end
end L2
/-! # range(i, j, c) -/
namespace L2
open PySem PySem.Spec PyProof.Rows
section
variable {X : Cx} {tg : Expr}
def It3 (lo c : Int) (n : Nat) : It := ⟨fun i _ => i < n, fun i H x H' => H' = H ∧ x = .int (lo + i * c), fun i _ => n ≤ i⟩
def iRng3 (ta : TA) : TI := fun σ H R => ta σ H fun vs H1 => ∃ i j c : Int, vs = [.int i, .int j, .int c] ∧ (-(2 ^ 30) ≤ i ∧ i < 2 ^ 30 ∧ -(2 ^ 30) ≤ j ∧ j < 2 ^ 30 ∧ 1 ≤ c ∧ c < 2 ^ 30) ∧ R (It3 i c (Builtin.Range.rangeSize i j c).toNat) H1
end
section
variable {ρ : St} {te : TE} {acc : Addr} {Z : Hp → Prop} {H1 : Hp}
end
end L2
namespace L2
section
variable {K : PySem.W.Frag} {tl : TE} {ta : TA} {ix : List Nat} {g : TG} {tt : TT} {te : TE} {σ : St} {H : Hp} {Q : VK}
theorem tComp_R3 : tComp (iRng3 ta) ix g tt te σ H Q = ta σ H fun vs H1 => ∃ i j c : Int, vs = [.int i, .int j, .int c] ∧ (-(2 ^ 30) ≤ i ∧ i < 2 ^ 30 ∧ -(2 ^ 30) ≤ j ∧ j < 2 ^ 30 ∧ 1 ≤ c ∧ c < 2 ^ 30) ∧ ∀ acc, H1 acc = none → CompGo (It3 i c (PySem.Builtin.Range.rangeSize i j c).toNat) (slotsAt σ ix) g tt te acc (fun H' => Q (.ref acc) H') H1 := rfl
end
end L2
/-! EXTENSION Q: comprehensions whose own name is read by a block within (a cell of the comprehension's block). -/
namespace L2
open PySem PySem.Spec PyProof.Rows
structure CfOk (n : Nat) (cs : List (Str × Addr)) : Prop where
  lt : ∀ y c, cs.lookup y = some c → c < n
  inj : ∀ x y c, cs.lookup x = some c → cs.lookup y = some c → x = y
structure CompScopeC (N : List Str) (sc : Scope) (N' : List Str) (ix : List Nat) (x : Str) (r : List Str) (cs : Scope) : Prop where
  eq : N' = x :: r
  kind : cs.kind = .function
  hown : ∀ y ∈ cs.names, y.2 = .cell → cs.names.lookup y.1 = some .cell
  hnames : ∀ y ∈ cs.names, y.2 = .local → cs.names.lookup y.1 = some .local
  nd : (x :: r).Nodup
  fr : ∀ y ∈ cs.names, y.2 = .free → sc.names.lookup y.1 = some .cell ∨ sc.names.lookup y.1 = some .free
  ixs : Ixs N sc cs r ix
def compCxC (X : Cx) (N' : List Str) (cs : Scope) (cl : List (Str × Addr)) (s3 : Shared) (H3 : Hp) (fp : List Addr) : Cx :=
  { X with N := N', s₀ := s3, H₀ := H3, env := compEnvC cs (cellsFrom (s3.heap.objs.size + 1) cs.names cl) s3.heap.objs.size X.env, outer := X.stack, stack := X.stack, ex := fp, fn := fun y => cs.names.lookup y == some .cell, pn := [], xe := fun _ _ => False }
section
variable {X : Cx} {pins : List (Addr × Obj)} {σ : St} {H : Hp} {s : Shared}
end

section
variable {X : Cx} {N' r : List Str} {ix : List Nat} {x : Str} {cs : Scope} {tg iter elt : Expr} {ifs : List Expr} {pos : Pos} {wi : TI} {g : TG} {tt : TT} {te : TE}
theorem CompScopeC.clos {sc : Scope} {N : List Str} (S : CompScopeC N sc N' ix x r cs) {env : Env} (he : env.scope = sc) (has : ∀ y, (env.kindOf y = some .cell ∨ env.kindOf y = some .free) → ∃ c, env.cells.lookup y = some c) :
    ∃ cl : List (Str × Addr), closureFor cs env = pure cl ∧ (∀ y c, cl.lookup y = some c → env.cells.lookup y = some c) ∧ (∀ y, (y, NameKind.free) ∈ cs.names → ∃ c, cl.lookup y = some c) :=
  closure_ok fun y hy hk => has y.1 (by
    subst he
    exact S.fr y hy hk)
end
end L2
namespace L2
open PySem PyProof.Rows
section
variable {X : Cx} {K : PySem.W.Frag} {tg l : Expr} {tl : TE}
end
end L2
/-! EXTENSION R: for k, x in enumerate(xs). -/
namespace L2
open PySem PySem.Spec PyProof.Rows
section
variable {X : Cx} {pins : List (Addr × Obj)} {σ : St} {H : Hp} {s : Shared} {h' : Heap}
end
/-- (0, x), (1, y), .. of the list at a: a new tuple each turn -/
def Ite (K : PySem.W.Frag) (a : Addr) : It :=
  ⟨fun i H => ∃ xs x, SqL K H a xs ∧ xs[i]? = some x, fun i H x H' => ∃ T v, x = .ref T ∧ H T = none ∧ H' = upd H T (.tup [.int i, v]) ∧ ∀ xs, SqL K H a xs → xs[i]? = some v, fun i H => ∃ xs, SqL K H a xs ∧ xs.length ≤ i⟩
section
variable {X : Cx} {elts : List Expr} {x1 : Nat} {tpos : Pos}
def iEnum (K : PySem.W.Frag) (ta : TA) : TI := fun σ H R => ta σ H fun vs H1 => ∃ a, vs = [.ref a] ∧ (∃ xs, SqL K H1 a xs) ∧ R (Ite K a) H1
end
section
variable {K : PySem.W.Frag} {ta : TA} {tl : TE} {g : TG} {tb : TS} {D : Ends} {σ : St} {H : Hp}
theorem tFor_E : tFor (iEnum K ta) g tb D σ H = ta σ H fun vs H1 => ∃ a, vs = [.ref a] ∧ (∃ xs, SqL K H1 a xs) ∧ ForG (Ite K a) g tb D σ H1 := rfl
end
end L2
/-! # x not in xs, of data: the answer is not told -/
namespace L2
open PySem PySem.Spec PyProof.Rows
section
variable {X : Cx}
def rNotInQ (K : PySem.W.Frag) : R2 := fun x y H Q => ∃ p xs, y = .ref p ∧ SqL K H p xs ∧ (∃ dx, Rds K H x dx ∧ PyData.canLay0 dx = true ∧ dx.depth ≤ 8) ∧ (∀ v ∈ xs, ∃ d, Rds K H v d ∧ PyData.canLay0 d = true ∧ d.depth ≤ 8) ∧ ∀ k, Q (.bl k) H
end
end L2
/-! # y = [.. for a, b in ..], y a plain local -/
namespace L2
open PySem PySem.Spec PyProof.Rows
section
variable {X : Cx} {N' r xs0 : List Str} {ix : List Nat} {cs : Scope} {tg iter elt : Expr} {ifs : List Expr} {pos : Pos} {wi : TI} {g : TG} {tt : TT} {te : TE}
end
end L2
/-! EXTENSION S of the hand layer: exceptions of own classes as values: made, asked for their class, their attributes read and written. -/
namespace L2
open PySem PySem.Spec PyProof.Rows

/-- what the text's top must have written of an own exception class whose things are asked -/
structure XCls (K : PySem.W.Frag) (C : Addr) : Prop where
  cls : (PySem.W.clsIn K C).isSome = true
  ga : PySem.W.findIn K (.ref C) "__getattribute__" = some (some (.builtin "BaseException.__getattribute__"))
  gh : PySem.W.findIn K (.ref C) "__getattr__" = some none
  be : PySem.W.subIn K (.ref C) (.type "BaseException") = some true
  ca : PySem.W.findIn K (.ref C) "__class__" = some (some (.builtin "object.__class__"))
  cg : PySem.W.specialIn K (.builtin "object.__class__") "__get__" = some (some (.builtin "getset_descriptor.__get__"))
  ct : PySem.W.takesIn K (.builtin "object.__class__") = some true
  ob : PySem.W.mroIn K C (.type "object") = some true

section
variable {prog : Program} {w : World} {A : Around} {E : Value → Shared → Prop} {K : PySem.W.Frag} {x C : Addr} {ox : Obj} {od : Option Obj} {s : Shared} {name : Str} {tk : Tok} {v : Value}

theorem xga_check {M : Model} {nameV : Value} {Q : Unit → Shared → Prop} (X : K.In s.heap) (Z : XCls K C) (I : PySem.W.InstAt s.heap x ox C od) (hq : Q () s) :
    wpAny M A (checkBuiltinCall "BaseException.__getattribute__" ⟨[.ref x, nameV], []⟩) Q E s := by
  have hk : builtinKind "BaseException.__getattribute__" = some .slot := by decide +kernel
  have hsplit : splitId "BaseException.__getattribute__" = some ("BaseException", "__getattribute__") := by decide +kernel
  have ha := F.args_bexc_ga (.ref x) nameV
  have L0 := I.type (M := M)
  have L1 := PySem.W.looks_subIn (M := M) X Z.be
  obtain ⟨h, g, d, t, os⟩ := s
  simp only [checkBuiltinCall, hk, hsplit]
  refine wpAny_bind ?_
  unfold isInstance
  refine wpAny_bind (L0.at (L1.at ?_))
  repeat (first | exact hq | wp_step)

/-- any attribute of an exception, once object's own way to it is known -/
theorem xga_by {fill expr : Bool} {Q : Value → Shared → Prop} (X : K.In s.heap) (Z : XCls K C) (I : PySem.W.InstAt s.heap x ox C od) (hh : PySem.W.handedIn v = true)
    (hin : ∀ (A : Around) (Q : Fin → Shared → Prop) (E : Value → Shared → Prop), Q (.done (.ret v)) s → wpAny (model prog w) A (Builtin.«object.__getattribute__» ⟨[.ref x, .str name tk], []⟩) Q E s) (hq : Q v s) :
    wpAny (model prog w) A (getAttrBy (.ref x) (.str name tk) fill expr) Q E s := by
  have FB := F.excAttr_ValueError
  have f3 := FB.ga.bind (.ref x)
  have hx0 : (expr && onTheHeap (Value.builtin "BaseException.__getattribute__")) = false := by cases expr <;> rfl
  have hx2 : (Value.builtin "BaseException.__getattribute__" == Value.builtin "object.__getattribute__") = false := by decide +kernel
  have hx1 : (onTheHeap (Value.ref C) && Value.builtin "BaseException.__getattribute__" == Value.builtin "object.__getattribute__") = false := by rw [hx2]; rfl
  have L0 := I.type (M := model prog w)
  have L1 := PySem.W.looks_findIn (M := model prog w) X Z.ga
  have L2 := PySem.W.looks_findIn (M := model prog w) X Z.gh
  have hcall : ∀ (A : Around) (R : Result → Shared → Prop), R (.ok (.ret v)) s → codeAny (model prog w) A (.call (.builtin "BaseException.__getattribute__") ⟨[.ref x, .str name tk], []⟩) R s := fun A R hR =>
    codeAny_call_builtin FB.ga.plain F.entry_bexc_ga (xga_check X Z I (hin _ _ _ hR))
  have hho := PySem.W.handedOut_of hh
  obtain ⟨h, g, d, t, os⟩ := s
  unfold getAttrBy
  refine wpAny_holding (wpAny_bind (L0.at (wpAny_bind (L1.at ?_))))
  show wpAny _ _ (if (onTheHeap (Value.ref C) && Value.builtin "BaseException.__getattribute__" == Value.builtin "object.__getattribute__") = true then _ else _) _ _ _
  rw [if_neg (by rw [hx1]; exact Bool.false_ne_true)]
  unfold getAttrByItsOwn hookBefore
  refine wpAny_bind ?_
  show wpAny _ _ (typeLookup (.ref C) "__getattr__") _ _ _
  refine L2.at ?_
  refine wpAny_bind (wpAny_attempt (wpAny_holding ?_))
  unfold callGetattribute
  rw [if_neg (by rw [hx0]; exact Bool.false_ne_true)]
  unfold boundAndCalled
  refine wpAny_bind (wpAny_of_eq f3 ?_)
  refine wpAny_call (hcall _ _ ?_)
  show wpAny _ _ (handedOut v) _ _ _
  rw [hho]
  exact wpAny_pure hq

end

/-! ### the thing itself -/
/-- an exception of the own class at C, no attribute of its own written -/
def excObj (C t : Addr) (d : Option Addr) : Obj := { cls := .ref C, dict := d, data := .fields #[.ref t, .none, .none, .none, .bool false, .none] }
def Exc0 (a C : Addr) : HO := .ext fun h => ∃ o, h.get? a = some o ∧ ∃ t, o = excObj C t none
/-- one whose attributes stand in the dict at dx -/
def ExcD (a C dx : Addr) : HO := .ext fun h => ∃ o, h.get? a = some o ∧ ∃ t, o = excObj C t (some dx)
/-- it is an exception of the own class at C -/
def IsExc (H : Hp) (a C : Addr) : Prop := H a = some (Exc0 a C) ∨ ∃ dx fs, H a = some (ExcD a C dx) ∧ H dx = some (.xd fs)
section
variable {X : Cx} {pins : List (Addr × Obj)} {σ : St} {H : Hp} {s : Shared} {A : Around} {E : Value → Shared → Prop} {Q : Value → Shared → Prop} {c : Value} {b : Bool} {a C : Addr}
theorem IsExc.at (I : Inv X pins σ H s) (h : IsExc H a C) : ∃ ox od, PySem.W.InstAt s.heap a ox C od := by
  rcases h with h | ⟨dx, fs, h, h2⟩
  · obtain ⟨⟨o, e, t, rfl⟩, _⟩ := (show ObjOk X.prog X.w H s.heap a (Exc0 a C) from I.hok a _ h)
    exact ⟨_, none, e, rfl, rfl, trivial⟩
  · obtain ⟨⟨o, e, t, rfl⟩, _⟩ := (show ObjOk X.prog X.w H s.heap a (ExcD a C dx) from I.hok a _ h)
    obtain ⟨mA, ⟨od, es, ep, e2, _⟩, _⟩ := (show ObjOk X.prog X.w H s.heap dx (.xd fs) from I.hok dx _ h2)
    exact ⟨_, some od, e, rfl, rfl, e2⟩
end

/-! ### making one -/
section
variable {P : Program} {w : World} {H : Hp} {h h' : Heap} {a : Addr} {o : HO}
theorem ObjOk.get (x : ObjOk P w H h a o) : ∃ ob, h.get? a = some ob := by
  cases o with
  | lst xs => obtain ⟨_, _, _, _, e⟩ := x; exact ⟨_, e⟩
  | tup xs => obtain ⟨_, _, _, ob, e, _⟩ := x; exact ⟨_, e⟩
  | dK kvs => obtain ⟨_, _, _, _, o, _, _, e, _⟩ := x; exact ⟨_, e⟩
  | dT kvs => obtain ⟨_, _, _, _, o, _, _, e, _⟩ := x; exact ⟨_, e⟩
  | set S n => obtain ⟨o, _, _, _, e, _⟩ := x; exact ⟨_, e⟩
  | ins C dx fs => obtain ⟨_, _, _, e, _⟩ := x; exact ⟨_, e⟩
  | own y => exact x
  | xd fs => obtain ⟨_, ⟨_, _, _, e, _⟩, _⟩ := x; exact ⟨_, e⟩
  | rng lo hi => obtain ⟨_, _, _, e⟩ := x; exact ⟨_, e⟩
  | frz ob u => obtain ⟨e, _⟩ := x; exact ⟨_, e⟩
  | tbl ps => exact ⟨_, (show h.get? a = some _ from x)⟩
  | met f y => exact ⟨_, (show h.get? a = some _ from x)⟩
  | ext φ => obtain ⟨_, e, _⟩ := x; exact e
theorem HOk.freshN (x : HOk P w H h) (e : h.get? a = none) : H a = none := by
  cases q : H a with
  | none => rfl
  | some u => obtain ⟨_, z⟩ := (x a u q).get; rw [e] at z; cases z
theorem HOk.laidN (x : HOk P w H h) (k : ∀ b u, h.get? b = some u → h'.get? b = some u) (hp : h.get? a = none) (new : ObjOk P w (upd H a o) h' a o) : HOk P w (upd H a o) h' := fun b u e => by
  have hn := x.freshN hp
  by_cases hb : b = a
  · subst hb; rw [upd_same] at e; cases e; exact new
  · rw [upd_ne hb] at e
    exact (x b u e).stay (fun c v _ q => k c v q) (fun c q => by rw [upd_ne (ne_of_none q hn)]; exact q) fun c xs q => by rw [upd_ne (ne_of_none q hn)]; exact q
theorem Un.laidN {fs ex : List Addr} (k : ∀ b u, h.get? b = some u → h'.get? b = some u) (hp : h.get? a = none) (hn : H a = none) : Un fs ex H (upd H a o) h h' where
  keep := fun b u q _ _ _ => k b u q
  slot := fun b u q _ _ _ => ⟨u.slots, k b u q⟩
  free := fun b u q n _ => by rw [upd_ne (fun z => by rw [z, hp] at q; cases q)]; exact n
  there := fun b u q _ => ⟨u, k b u q⟩
  tups := fun b xs q => by rw [upd_ne (ne_of_none q hn)]; exact q
  frzs := fun b u xs q => by rw [upd_ne (ne_of_none q hn)]; exact q
  tbls := fun b ps q => ⟨#[], by rw [upd_ne (ne_of_none q hn), q]; simp⟩
end
section
variable {X : Cx} {pins : List (Addr × Obj)} {σ : St} {H : Hp} {s : Shared} {h' : Heap} {C : Addr} {x : Str} {p pos : Pos} {e : Expr} {es : List Expr} {t : TA}
theorem Inv.laidN {a : Addr} {o : HO} {t' : Nat} (I : Inv X pins σ H s) (k : ∀ b u, s.heap.get? b = some u → h'.get? b = some u) (hp : s.heap.get? a = none) (new : ObjOk X.prog X.w (upd H a o) h' a o) :
    Inv X pins σ (upd H a o) { s with heap := h', toks := t' } := I.un (Un.laidN k hp (I.hok.freshN hp)) (I.hok.laidN k hp new)
theorem ext_ok {P : Program} {w : World} {h : Heap} {a : Addr} {φ : Obj → Prop} {ob : Obj} (e : h.get? a = some ob) (q : φ ob) : ObjOk P w H h a (.ext fun h => ∃ o, h.get? a = some o ∧ φ o) :=
  ⟨⟨ob, e, q⟩, ⟨ob, e⟩, fun h1 h2 ⟨o, e1, q1⟩ k => ⟨o, k o e1, q1⟩⟩
theorem Inv.madeX {ea : Addr} {vs : List Value} {t' : Nat} (I : Inv X pins σ H s) (m : Heap.MadeExcOf s.heap h' ea (.ref C) vs) : Inv X pins σ (upd H ea (Exc0 ea C)) { s with heap := h', toks := t' } := by
  obtain ⟨tt, et, _, _⟩ := m.there
  exact I.laidN m.keeps m.new (ext_ok (φ := fun o => ∃ t, o = excObj C t none) et ⟨tt, rfl⟩)
/-- C(e, ..) where C is an own exception class without an __init__ -/
def tExc (C : Addr) (t : TA) : TE := fun σ H Q => t σ H fun vs H1 => vs.length ≤ sizeLine ∧ ∀ q, H1 q = none → Q (.ref q) (upd H1 q (Exc0 q C))
end

/-! ### an attribute of one, written and read -/
def excTail : List Value → Bool
  | [.type a, .type b, .type c, .type d] => a == "ValueError" && b == "Exception" && c == "BaseException" && d == "object"
  | .ref _ :: r => excTail r
  | _ => false
theorem refuse_exc (self : Value) : ∀ {l : List Value}, excTail l = true → PySem.refuseLoop self "__setattr__" l = pure ()
  | [.type a, .type b, .type c, .type d], e => by
    unfold excTail at e
    simp only [Bool.and_eq_true, beq_iff_eq] at e
    obtain ⟨⟨⟨rfl, rfl⟩, rfl⟩, rfl⟩ := e
    kernel_rfl
  | .ref c :: r, e => by rw [PySem.refuseLoop_ref]; exact refuse_exc self (by first | exact e | (rcases r with _ | ⟨a, r⟩ <;> first | exact e | cases e))
theorem excTail_has : ∀ {l : List Value}, excTail l = true → l.contains (.type "object") = true
  | [.type a, .type b, .type c, .type d], e => by
    unfold excTail at e
    simp only [Bool.and_eq_true, beq_iff_eq] at e
    obtain ⟨⟨⟨rfl, rfl⟩, rfl⟩, rfl⟩ := e
    decide +kernel
  | .ref c :: r, e => by rw [List.contains_cons, excTail_has (l := r) (by first | exact e | (rcases r with _ | ⟨a, r⟩ <;> first | exact e | cases e)), Bool.or_true]
/-- what of the text the class must have so that the attribute f of its things may be written and read -/
structure XAttr (K : PySem.W.Frag) (C : Addr) (f : Str) : Prop where
  sa : PySem.W.findIn K (.ref C) "__setattr__" = some (some (.builtin "object.__setattr__"))
  po : ((PySem.W.clsIn K C).any fun cd => excTail cd.mro) = true
  hd : PySem.W.hasDictIn K C = true
  no : PySem.W.findIn K (.ref C) f = some none
section
open PySem.W PySem.Calls PySem.Builtin PySem.Builtin.ObjectAttr
variable {prog : Program} {w : World} {A : Around} {K : PySem.W.Frag} {x C : Addr} {ox : Obj} {od : Option Obj} {s : Shared} {name : Str} {tk : Tok} {v : Value} {R : Result → Shared → Prop}
theorem osa_exc (X : K.In s.heap) (I : PySem.W.InstAt s.heap x ox C od) (Z : XAttr K C name)
    (h : ∀ b, wpAny (model prog w) A.in1 (storeInOwnDict (.ref x) (.ref C) (.str name tk) name v b)
      (fun fin s' => match fin with | .done f => R (.ok f) s' | .again c' => c'.quiet = true ∧ codeAny (model prog w) A c' R s') (fun e s' => R (.error e) s') s) :
    codeAny (model prog w) A (.call (.builtin "object.__setattr__") ⟨[.ref x, .str name tk, v], []⟩) R s := by
  have SF := PySem.F.store_object
  obtain ⟨cd, hc, ho⟩ := any_some Z.po
  have ne : cd.mro.isEmpty = false := by cases q : cd.mro with | nil => rw [q] at ho; cases ho | cons _ _ => rfl
  have sub : Looks (model prog w) s.heap (isInstance (.ref x) (.type "object")) true := I.type.andThen (looks_mroIn X (by unfold mroIn; rw [hc, Option.bind_some, if_neg (by rw [ne]; decide), excTail_has ho]))
  refine codeAny_call_builtin SF.slot.plain SF.entry (@check_slot (model prog w) _ _ s "object.__setattr__" "object" "__setattr__" (.ref x) [.str name tk, v] [] _ SF.kind SF.split sub (SF.args (.ref x) (.str name tk) v) ?_)
  have hm : Looks (model prog w) s.heap (mroOf (.ref C)) cd.mro := (looks_clsIn X hc).andThen .now
  have L3 : Looks (model prog w) s.heap (storeTaker? none) none := .now
  rw [osa_eq, refuse_eq]
  refine wpAny_bind (wpAny_bind (I.type.here (wpAny_bind (hm.here ?_))))
  rw [refuse_exc _ ho]
  refine wpAny_pure (wpAny_bind (I.type.here (wpAny_bind ((looks_findIn X Z.no).here (wpAny_bind (L3.here ?_))))))
  exact h _
end
section
variable {X : Cx} {pins : List (Addr × Obj)} {σ : St} {H : Hp} {s : Shared} {a C dx : Addr} {f : Str} {A : Around} {E : Value → Shared → Prop}
theorem setattr_exc {y : V} {u : Value} {Q : Unit → Shared → Prop} (I : Inv X pins σ H s) (e : H a = some (Exc0 a C)) (Z : XAttr X.K C f) (ry : RelV y u)
    (h : ∀ dx s', H dx = none → Inv X pins σ (upd (upd H dx (.xd [(f, y)])) a (ExcD a C dx)) s' → Q () s') : wpAny (model X.prog X.w) A (setAttr (.ref a) f u) Q E s := by
  obtain ⟨⟨o, hx, t, rfl⟩, _⟩ := (show ObjOk X.prog X.w H s.heap a (Exc0 a C) from I.hok a _ e)
  have J : PySem.W.InstAt s.heap a (excObj C t none) C none := ⟨hx, rfl, rfl, trivial⟩
  have XK := I.kIn
  refine PySem.W.set_plain XK J Z.sa (osa_exc (s := { s with toks := s.toks + 1 }) XK J Z fun b => ?_)
  obtain ⟨cd, hc, hd'⟩ := PySem.W.any_some Z.hd
  refine wpAny_bind (wpAny_pure (wpAny_bind (wpAny_bind (wpAny_loadPart hx (wpAny_bind (PySem.W.Looks.here (s := { s with toks := s.toks + 1 }) (PySem.W.looks_clsIn XK hc) ?_))))))
  rw [hd']
  have hx1 : (s.heap.push { cls := .type "dict", data := .dict #[] }).get? a = some (excObj C t none) := Heap.get?_push_of_some _ hx
  have ne : a ≠ s.heap.objs.size := Nat.ne_of_lt (Heap.lt_size hx)
  show wpAny _ _ (alloc { cls := .type "dict", data := .dict #[] } >>= fun d => update a (fun o => { cls := o.cls, dict := some d, data := o.data, slots := o.slots }) >>= fun _ => dictMade (.ref C) a d) _ _ _
  refine wpAny_bind (wpAny_alloc (wpAny_bind (wpAny_update (o := excObj C t none) hx1 ?_)))
  refine wpAny_pure (a := some s.heap.objs.size) (wpAny_bind (wpAny_pure (wpAny_bind ?_)))
  have hn0 : ((s.heap.push { cls := .type "dict", data := .dict #[] }).update a (fun o => { cls := o.cls, dict := some s.heap.objs.size, data := o.data, slots := o.slots })).Ns1 s.heap.objs.size (fun _ => none) := by
    refine Heap.Ns1.of_empty ⟨{ cls := .type "dict", data := .dict #[] }, #[], _, ?_, rfl, fun e he => absurd he (by simp), fun _ => rfl⟩
    rw [Heap.get?_update_other _ _ ne]
    exact Heap.get?_push_at rfl rfl
  refine wpAny_nsSet1 (s := { s with heap := (s.heap.push { cls := .type "dict", data := .dict #[] }).update a (fun o => { cls := o.cls, dict := some s.heap.objs.size, data := o.data, slots := o.slots }), toks := s.toks + 1 }) hn0 fun h' hn2 hs2 => ?_
  obtain ⟨oD, esD, epD, hoD, hdD, hcD⟩ := hn2.count (PySem.Within.cons f u PySem.Within.nil)
  refine wpAny_bind (wpAny_lookBehind hoD (by rw [hdD]; exact pastItsLine_dict (Nat.le_trans hcD (by rw [List.length_cons, sizeLine_eq]; decide))) ?_)
  refine wpAny_pure ?_
  have hnd : H s.heap.objs.size = none := I.hok.fresh (Nat.le_refl _)
  refine h s.heap.objs.size _ hnd ?_
  have ha' : h'.get? a = some (excObj C t (some s.heap.objs.size)) := by
    rw [hs2.2 a ne]
    exact Heap.get?_update_self _ hx1 rfl
  have k : ∀ b v, b ≠ a → s.heap.get? b = some v → h'.get? b = some v := fun b v hb q => by
    rw [hs2.2 b (Nat.ne_of_lt (Heap.lt_size q)), Heap.get?_update_other _ _ (Ne.symm hb)]
    exact Heap.get?_push_of_some _ q
  have nd : ∀ b v, H b = some v → b ≠ s.heap.objs.size := fun b v q => ne_of_none q hnd
  have na : ∀ b v, H b = some v → v ≠ Exc0 a C → b ≠ a := fun b v q z => ne_of q e z
  have up : ∀ b v, H b = some v → v ≠ Exc0 a C → upd (upd H s.heap.objs.size (.xd [(f, y)])) a (ExcD a C s.heap.objs.size) b = some v := fun b v q z => by
    rw [upd_ne (na b v q z), upd_ne (nd b v q)]; exact q
  refine I.un (t' := s.toks + 2) ⟨fun b v q n _ _ => k b v (fun z => by rw [z, e] at n; cases n) q, fun b v q n _ _ => ⟨v.slots, k b v (fun z => by rw [z, e] at n; cases n) q⟩, fun b v q n _ => ?_, fun b v q _ => ?_,
    fun b xs q => up b _ q (fun z => nomatch z), fun b u xs q => up b _ q (fun z => nomatch z), fun b ps q => ⟨#[], by rw [up b _ q (fun z => nomatch z)]; simp⟩⟩ fun b v q => ?_
  · rw [upd_ne (fun z => by rw [z, e] at n; cases n), upd_ne (Nat.ne_of_lt (Heap.lt_size q))]; exact n
  · by_cases hb : b = a
    · rw [hb]; exact ⟨_, ha'⟩
    · exact ⟨v, k b v hb q⟩
  · by_cases hb : b = a
    · subst hb
      rw [upd_same] at q; cases q
      exact ext_ok (φ := fun o => ∃ t, o = excObj C t (some s.heap.objs.size)) ha' ⟨t, rfl⟩
    · rw [upd_ne hb] at q
      by_cases hb2 : b = s.heap.objs.size
      · subst hb2
        rw [upd_same] at q; cases q
        refine ⟨_, hn2, fun g => ?_⟩
        by_cases hg : g = f
        · subst hg; simp [List.lookup]; exact ry
        · rw [if_neg hg, List.lookup_cons, show (g == f) = false from beq_false_of_ne hg]; exact trivial
      · rw [upd_ne hb2] at q
        refine (I.hok b v q).stay (fun c w hcc r => k c w ?_ r) (fun c r => up c _ r (fun z => nomatch z)) fun c xs r => up c _ r (fun z => nomatch z)
        rcases hcc with z | z
        · rw [z]; exact hb
        · exact na c _ z (fun z => nomatch z)
end

section
variable {X : Cx} {o e value : Expr} {f : Str} {pos pos' : Pos} {ta tv : TE}
def tFldX (K : PySem.W.Frag) (ta : TE) (f : Str) : TE := fun σ H Q => ta σ H fun x H1 => ∃ a C dx fs v, x = .ref a ∧ H1 a = some (ExcD a C dx) ∧ H1 dx = some (.xd fs) ∧ XCls K C ∧ XAttr K C f ∧ fs.lookup f = some v ∧ Q v H1
def sFldX (K : PySem.W.Frag) (ta tv : TE) (f : Str) : TS := fun D σ H => tv σ H fun y H1 => ta σ H1 fun x H2 => ∃ a C, x = .ref a ∧ H2 a = some (Exc0 a C) ∧ XAttr K C f ∧ ∀ dx, H2 dx = none → D.nx σ (upd (upd H2 dx (.xd [(f, y)])) a (ExcD a C dx))
theorem ps_fldX (ha : PE X o ta) (hv : PE X value tv) (hs : swapsWith value (some (.Attribute o f pos')) pos.line X.env = pure false := by rfl) : PS X (.Assign [.Attribute o f pos'] value pos) (sFldX X.K ta tv f) := by
  intro pins s σ H D I h
  refine plainObj_wpAny_Assign_Attribute (thn (hv pins s σ H _ I h) fun u s1 ⟨y, H1, I1, ry, q⟩ => thn (ha pins s1 σ H1 _ I1 q) fun ov s2 ⟨x, H2, I2, rx, a, C, ex, ea, n, q2⟩ => ?_) hs
  subst ex
  obtain rfl : ov = Value.ref a := rx
  exact setattr_exc I2 ea n ry fun dx s3 hd I3 => ⟨σ, _, I3, q2 dx hd⟩
end

/-! ### one whose class has an __init__ -/
def excInI (K : PySem.W.Frag) (C : Addr) (bmB : List Value) (newId : String) (f : Addr) : Bool := match K.lookup C with
  | some ⟨.type "type", _, .cls cd, sl⟩ => (match cd.mro, sl.toList with
    | .ref C' :: bm, [_, _, _, _, some (.builtin n), _] => C' == C && n == newId && !cd.hasDel && PySem.W.tailIn K bmB bm && PySem.W.nsOkIn K cd.ns && PySem.W.nsIn K cd.ns "__init__" == some (some (.ref f))
    | _, _ => false)
  | _ => false
structure ExcI (K : PySem.W.Frag) (C f : Addr) (B newId initId : String) (bmB : List Value) : Prop where
  at_ : excInI K C bmB newId f = true
  base : ExcBaseFacts B newId initId bmB
  fn : PySem.W.isFn K (.ref f) = true
  kp : PySem.W.keepIn K (.ref C) = true
section
variable {prog : Program} {w : World} {A : Around} {E : Value → Shared → Prop} {h : Heap} {g : Array GenState} {d : Drawn} {t : Nat} {os : OsState}
variable {nm q : Str} {C N : Addr} {bs bm bmB : List Value} {hdct : Bool} {sn : List Str} {sub : List Value} {ab : Bool} {col : Option Bool} {dd : Option Addr} {k0 k1 k2 k3 k5 : Option Value} {B newId initId : String}
theorem type_call_initT (F : ExcBaseFacts B newId initId bmB) (T : OwnTail h bmB bm) {mN : Str → Option Value} {rest : List Value} {fI : Addr} {oI : Obj} {Q : Fin → Shared → Prop}
    (hC : h.get? C = some (excClassObj nm q C N bs bm hdct sn sub ab col dd k0 k1 k2 k3 k5 newId)) (hn : h.Ns N mN) (hi : mN "__init__" = some (.ref fI))
    (hfI : h.get? fI = some oI) (hfc : oI.cls = .type "function")
    (hq : ∀ h' e, Heap.MadeExcOf h h' e (.ref C) rest →
      wpAny (model prog w) A (call (.ref fI) (.ref e :: rest)) (fun r s' => r = .none ∧ Q (.done (.ret (.ref e))) s') E ⟨h', g, d, t, os⟩) (hrest : rest.length ≤ sizeLine) :
    wpAny (model prog w) A (Builtin.«type.__call__» ⟨.ref C :: rest, []⟩) Q E ⟨h, g, d, t, os⟩ := by
  repeat (first | with_reducible refine wpAny_loadPart_at hC ?_ | with_reducible refine wpAny_madeBy_exc hC ?_ | wp_step)
  refine codeAny_call_builtin_code (Code.quiet_builtin _ F.quiet) (wpAny_check_new_subT F T hC ?_)
  refine codeAny_exc_new_subT F T hC ?_ hrest
  show wpAny _ _ _ _ _ _
  have hC₁ := Heap.get?_push_of_some { cls := .ref C, data := .fields #[.ref h.objs.size, .none, .none, .none, .bool false, .none] }
    (Heap.get?_push_of_some { cls := .type "tuple", data := .seq rest.toArray } hC)
  have hfI₁ := Heap.get?_push_of_some { cls := .ref C, data := .fields #[.ref h.objs.size, .none, .none, .none, .bool false, .none] }
    (Heap.get?_push_of_some { cls := .type "tuple", data := .seq rest.toArray } hfI)
  have hn₁ : ((h.push { cls := .type "tuple", data := .seq rest.toArray }).push { cls := .ref C, data := .fields #[.ref h.objs.size, .none, .none, .none, .bool false, .none] }).Ns N mN :=
    let ⟨o, es, ep, e, r⟩ := hn; ⟨o, es, ep, Heap.get?_push_of_some _ (Heap.get?_push_of_some _ e), r⟩
  have hget : ((h.push { cls := .type "tuple", data := .seq rest.toArray }).push
      { cls := .ref C, data := .fields #[.ref h.objs.size, .none, .none, .none, .bool false, .none] }).get? (h.objs.size + 1) = some
      { cls := .ref C, data := .fields #[.ref h.objs.size, .none, .none, .none, .bool false, .none] } := by heap_get
  have hcC : (Value.ref C :: bm).contains (.ref C) = true := by simp
  have T₁ := T.keeps (h' := (h.push { cls := .type "tuple", data := .seq rest.toArray }).push { cls := .ref C, data := .fields #[.ref h.objs.size, .none, .none, .none, .bool false, .none] })
    fun b o e => Heap.get?_push_of_some _ (Heap.get?_push_of_some _ e)
  unfold isInstance
  repeat (first | with_reducible refine wpAny_loadPart_at hget ?_ | (with_reducible refine wpAny_isSubtype_exc hC₁ ?_; rw [hcC]) | wp_step)
  show wpAny _ _ (typeLookup (.ref C) _) _ _ _
  refine wpAny_typeLookup_tail hC₁ hn₁ T₁ F.mroIs F.init.lookup ?_
  rw [hi]
  refine wpAny_holding (wpAny_bind ?_)
  unfold bindSpecial
  refine wpAny_bind (wpAny_typeOf (T := "function") ⟨_, hfI₁, hfc⟩ ?_)
  rw [if_pos (by decide)]
  refine wpAny_pure (wpAny_bind (wpAny_mono (hq _ (h.objs.size + 1) ⟨fun b o hb => Heap.get?_push_of_some _ (Heap.get?_push_of_some _ hb), Heap.get?_none_of_le (Nat.le_succ _), h.objs.size, hget, Heap.get?_none_of_le (Nat.le_refl _), ?_⟩) (fun r s' hr => ?_) fun _ _ x => x))
  · exact Heap.get?_push_of_some _ (Heap.get?_push_at rfl rfl)
  · obtain ⟨rfl, hQ⟩ := hr
    wp_walk
    exact hQ
theorem call_initT (F : ExcBaseFacts B newId initId bmB) (T : OwnTail h bmB bm) {mN : Str → Option Value} {rest : List Value} {fI : Addr} {oI : Obj} {Q : Value → Shared → Prop}
    (hC : h.get? C = some (excClassObj nm q C N bs bm hdct sn sub ab col dd k0 k1 k2 k3 k5 newId)) (hn : h.Ns N mN) (hi : mN "__init__" = some (.ref fI))
    (hfI : h.get? fI = some oI) (hfc : oI.cls = .type "function")
    (hq : ∀ h' e, Heap.MadeExcOf h h' e (.ref C) rest →
      wpAny (model prog w) (A.under (.builtin "type.__call__" ⟨.ref C :: rest, []⟩)) (call (.ref fI) (.ref e :: rest)) (fun r s' => r = .none ∧ Q (.ref e) s') E ⟨h', g, d, t, os⟩) (hrest : rest.length ≤ sizeLine) :
    wpAny (model prog w) A (call (.ref C) rest) Q E ⟨h, g, d, t, os⟩ := by
  have f1 := tc_lookup
  have f2 := tc_bind (.ref C)
  have hT : (⟨h, g, d, t, os⟩ : Shared).TypeIs (.ref C) "type" := ⟨_, hC, rfl⟩
  refine wpAny_call (codeAny_of_tree ?_)
  show wpAny _ _ (callAny (.ref C) _) _ _ _
  repeat (any_goals (first | assumption | with_reducible refine wpAny_loadPart_at hC ?_ | wp_step))
  refine ⟨rfl, ?_⟩
  refine codeAny_call_builtin_at (Code.quiet_builtin _ (by decide +kernel)) entry_typeCall (wpAny_check_type_call_sub hC (type_call_initT (hrest := hrest) F T hC hn hi hfI hfc fun h' e hm => ?_))
  exact hq h' e hm
end

theorem ns_some {K : PySem.W.Frag} {h : Heap} {N : Addr} {mg : Str → Option Value} {n : Str} {v : Value} (X : K.In h) (G : h.Ns N mg) (e : PySem.W.nsIn K N n = some (some v)) : mg n = some v := by
  obtain ⟨o, es, ep, ho, hd, _, hf⟩ := G
  unfold PySem.W.nsIn at e
  split at e
  · rename_i c d es' n' sl q
    have := X _ _ q
    rw [ho] at this
    cases this
    cases hd
    split at e
    · rename_i en he
      cases e
      rw [← hf]
      unfold nsFind findBy
      rw [← Array.find?_toList, he]
      rfl
    · split at e <;> cases e
  · cases e
theorem own_objI {K : PySem.W.Frag} {h : Heap} {C f : Addr} {bmB : List Value} {newId : String} (X : K.In h) (q : excInI K C bmB newId f = true) :
    ∃ bm N nm q bs hdct sn sub ab col dd k0 k1 k2 k3 k5 mN, h.get? C = some (excClassObj nm q C N bs bm hdct sn sub ab col dd k0 k1 k2 k3 k5 newId) ∧ h.Ns N mN ∧ mN "__init__" = some (.ref f) ∧ OwnTail h bmB bm := by
  unfold excInI at q
  split at q
  · rename_i dd cd sl ho
    split at q
    · rename_i C' bm k0 k1 k2 k3 n k5 hm hs
      simp only [Bool.and_eq_true, beq_iff_eq, Bool.not_eq_true'] at q
      obtain ⟨⟨⟨⟨⟨rfl, rfl⟩, hdel⟩, ht⟩, hok⟩, hni⟩ := q
      obtain ⟨nm, bs, mro, ns, qn, hd, sn, sub, ab, col, del⟩ := cd
      dsimp only at hm hdel hok hni
      subst hm hdel
      have hsl : sl = #[k0, k1, k2, k3, some (.builtin n), k5] := by
        obtain ⟨l⟩ := sl
        simp only at hs
        rw [hs]
      subst hsl
      exact ⟨bm, ns, nm, qn, bs, hd, sn, sub, ab, col, dd, k0, k1, k2, k3, k5, _, X _ _ ho, .of_isNs (PySem.W.isNs_of_in X hok), ns_some X (.of_isNs (PySem.W.isNs_of_in X hok)) hni, PySem.W.tail_of_in X ht⟩
    · cases q
  · cases q
section
variable {X : Cx} {CX : CXT} {k : Nat} {f C : Addr} {fd : FuncData} {ps : List Str} {sp : Sp} {E : XK} {x : Str} {p pos : Pos} {e : Expr} {es : List Expr} {t : TA} {B newId initId : String} {bmB : List Value}
def tExcI (C : Addr) (sp : Sp) (E : XK) (t : TA) : TE := fun σ H Q => t σ H fun vs H1 => vs.length ≤ sizeLine ∧ ∀ q, H1 q = none → sp (.ref q :: vs) (upd H1 q (Exc0 q C)) (fun v H2 => v = .non ∧ Q (.ref q) H2) E
theorem pe_excI (O : ExcI X.K C f B newId initId bmB) (F : FnOk X.prog X.w X.K X.mg X.base CX k f fd ps sp) (hr : Room (k + 1) X.A) (hg : Gl X x) (hm : X.mg x = some (.ref C)) (hb : Binds X.K fd ps []) (hx : Passes CX X E)
    (ha : PA X (e :: es) t) (hdb : (x == ("__debug__" : Str)) = false := by decide) (he : starEach (e :: es) X.env = (false, eval e X.env) :: starEach es X.env := by rfl) (hpl : (backTo pos (starEach es X.env)).any (·.1) = false := by rfl) :
    PE X (.Call (.Name x p) (e :: es) [] pos) (tExcI C sp E t) := by
  intro pins s σ H Q I h
  refine wpAny_Call_Name_kw (ld_glob I hg hm ?_ hdb)
  refine PySem.W.callWith_K (h₀ := X.base) I.ok.mod.kin O.kp (thn (ha pos pins s σ H _ I h) fun us s1 ⟨vs, H1, I1, r, hz, q⟩ => ⟨I1.kIn, ?_⟩) he hpl
  obtain ⟨bm, N, nm, qn, bs, hdct, sn, sub, ab, col, dd, k0, k1, k2, k3, k5, mN, hC, hN, hni, TL⟩ := own_objI I1.kIn O.at_
  obtain ⟨oI, hoI, hcI⟩ := Option.map_eq_some_iff.mp (show PySem.W.typeIn X.K (.ref f) = some (.type "function") from beq_iff_eq.mp O.fn)
  have hfI := I1.kIn _ _ hoI
  have hl : us.length ≤ sizeLine := by rw [← r.length]; exact hz
  obtain ⟨hh, g, d, tt, os⟩ := s1
  refine call_initT (hrest := hl) O.base TL hC hN hni hfI hcI fun h' ea m => ?_
  have I2 := I1.madeX (t' := tt) m
  have hq := q ea (I1.hok.freshN m.new)
  have r2 : Vals (V.ref ea :: vs) (Value.ref ea :: us) := .cons rfl r
  have hl2 : (Value.ref ea :: us ++ []).length = ps.length := by
    rw [List.append_nil, ← r2.length]; exact F.len _ _ _ _ hq
  have hbb := hb _ (Value.ref ea :: us) I2.kIn hl2
  rw [List.append_nil] at hbb
  refine wpAny_call (codeAny_mono (F.run _ X.stack _ _ ⟨Value.ref ea :: us, []⟩ (Value.ref ea :: us) _ _ E (hr.make C us []) (I2.env0.make C us []) hbb r2 hq) fun r s' hq' => ?_)
  cases r with
  | error e => exact hx pins σ _ _ e s' I2 hq'
  | ok fl =>
    cases fl with
    | ret u =>
      obtain ⟨v, H', I3, rv, ev, q3⟩ := I2.after hq'
      subst ev
      exact ⟨rv, ⟨V.ref ea, H', I3, rfl, q3⟩⟩
    | next => exact False.elim hq'
    | brk => exact False.elim hq'
    | cont => exact False.elim hq'
end

/-! ### xs.count(True) -/
section
variable {X : Cx}
end
theorem se_att {a : Expr} {f : Str} {rest : List Expr} {pos : Pos} {env : Env} : starEach (.Attribute a f pos :: rest) env = (false, eval (.Attribute a f pos) env) :: starEach rest env := by rfl
theorem boot_ValueError : bootBuiltins "ValueError" = some (.type "ValueError") := by decide +kernel
end L2
/-! EXTENSION T of the hand layer: a caught exception as a value: except C as e, asked by isinstance for its class (nothing is known of its dict). -/
namespace L2
open PySem PySem.Spec PyProof.Rows

def TyAt (h : Heap) (x C : Addr) : Prop := ∃ ox, h.get? x = some ox ∧ ox.cls = .ref C
theorem TyAt.type {M : Model} {h : Heap} {x C : Addr} (I : TyAt h x C) : PySem.W.Looks M h (typeOf (.ref x)) (.ref C) := by
  obtain ⟨ox, e, c⟩ := I
  exact c ▸ (PySem.W.Looks.ld e).andThen .now
section
open PySem.W PySem.Calls PySem.Builtin PySem.Builtin.ObjectAttr PySem.Builtin.Getset_descriptor
variable {prog : Program} {w : World} {A : Around} {E : Value → Shared → Prop} {K : PySem.W.Frag} {x C : Addr} {s : Shared} {name : Str} {tk : Tok} {v : Value}
theorem class_getT {R : Result → Shared → Prop} {tp : Value} (X : K.In s.heap) (I : TyAt s.heap x C) (hm : mroIn K C (.type "object") = some true)
    (h : R (.ok (.ret (.ref C))) s) : codeAny (model prog w) A (.call (.builtin "getset_descriptor.__get__") ⟨[.builtin "object.__class__", .ref x, tp], []⟩) R s := by
  obtain ⟨hh, g, dr, t, os⟩ := s
  have L0 := I.type (M := model prog w)
  have L1 := looks_mroIn (M := model prog w) X hm
  refine codeAny_call_builtin KF.slot_gs.plain KF.entry_gs (KF.slot_gs.check _ _ _ _ _ _ _ _ KF.type_class (KF.args_gs _ _ _) ?_)
  unfold Builtin.«getset_descriptor.__get__» descrGet
  rw [dga_obj]
  refine wpAny_bind (wpAny_pure ?_)
  unfold descrGetter descrCheckInstance descrNameAndClass isInstance
  simp only [KF.owner_class]
  repeat lk
  refine ⟨Code.quiet_builtin _ (by decide +kernel), codeAny_builtin KF.entry_class ?_⟩
  unfold Builtin.«object.__class__» shownTypeOf
  repeat lk
  exact h
theorem find_class {M : Model} {h : Heap} (X : K.In h) (Z : XCls K C) : Looks M h (find (.ref x) (.ref C) "__class__") (.bind (.builtin "getset_descriptor.__get__") (.builtin "object.__class__")) := by
  have L1 := looks_findIn (M := M) X Z.ca
  have L2 : Looks M h (getOf (some (.builtin "object.__class__"))) (some (.builtin "getset_descriptor.__get__")) := looks_specialIn X Z.cg
  have L3 := looks_takesIn (M := M) X Z.ct
  refine L1.andThen (L2.andThen ?_)
  exact (show Looks M h (dataDescriptor? (some (.builtin "object.__class__")) (some (.builtin "getset_descriptor.__get__"))) (some (.builtin "getset_descriptor.__get__", .builtin "object.__class__")) from L3.andThen .now).andThen (Looks.tag .now)
theorem xgaT_check {M : Model} {nameV : Value} {Q : Unit → Shared → Prop} (X : K.In s.heap) (Z : XCls K C) (I : TyAt s.heap x C) (hq : Q () s) :
    wpAny M A (checkBuiltinCall "BaseException.__getattribute__" ⟨[.ref x, nameV], []⟩) Q E s := by
  have hk : builtinKind "BaseException.__getattribute__" = some .slot := by decide +kernel
  have hsplit : splitId "BaseException.__getattribute__" = some ("BaseException", "__getattribute__") := by decide +kernel
  have ha := PySem.F.args_bexc_ga (.ref x) nameV
  have L0 := I.type (M := M)
  have L1 := PySem.W.looks_subIn (M := M) X Z.be
  obtain ⟨h, g, d, t, os⟩ := s
  simp only [checkBuiltinCall, hk, hsplit]
  refine wpAny_bind ?_
  unfold isInstance
  refine wpAny_bind (L0.at (L1.at ?_))
  repeat (first | exact hq | wp_step)
theorem xgaT_class {Q : Option Value → Shared → Prop} (X : K.In s.heap) (Z : XCls K C) (I : TyAt s.heap x C) (h : Q (some (.ref C)) { s with toks := s.toks + 1 }) : wpAny (model prog w) A (getAttr? (.ref x) "__class__") Q E s := by
  have FB := PySem.F.excAttr_ValueError
  have f3 := FB.ga.bind (.ref x)
  have hx2 : (Value.builtin "BaseException.__getattribute__" == Value.builtin "object.__getattribute__") = false := by decide +kernel
  have hx1 : (onTheHeap (Value.ref C) && Value.builtin "BaseException.__getattribute__" == Value.builtin "object.__getattribute__") = false := by rw [hx2]; rfl
  have L0 := I.type (M := model prog w)
  have L1 := PySem.W.looks_findIn (M := model prog w) X Z.ga
  have L2 := PySem.W.looks_findIn (M := model prog w) X Z.gh
  have L3 := find_class (M := model prog w) (x := x) X Z
  obtain ⟨hh, g, d, t, os⟩ := s
  unfold getAttr? getAttrBy? getAttrBy
  refine wpAny_bind (wpAny_mkText (wpAny_bind (wpAny_attempt (wpAny_holding (wpAny_bind (L0.at (wpAny_bind (L1.at ?_))))))))
  show wpAny _ _ (if (onTheHeap (Value.ref C) && Value.builtin "BaseException.__getattribute__" == Value.builtin "object.__getattribute__") = true then _ else _) _ _ _
  rw [if_neg (by rw [hx1]; exact Bool.false_ne_true)]
  unfold getAttrByItsOwn hookBefore
  refine wpAny_bind ?_
  show wpAny _ _ (typeLookup (.ref C) "__getattr__") _ _ _
  refine L2.at ?_
  refine wpAny_bind (wpAny_attempt (wpAny_holding ?_))
  unfold callGetattribute
  rw [if_neg (by exact Bool.false_ne_true)]
  unfold boundAndCalled
  refine wpAny_bind (wpAny_of_eq f3 ?_)
  refine wpAny_call (codeAny_call_builtin FB.ga.plain PySem.F.entry_bexc_ga (xgaT_check (s := ⟨hh, g, d, t + 1, os⟩) X Z I ?_))
  unfold Builtin.«object.__getattribute__»
  refine wpAny_bind (wpAny_pure (wpAny_bind (wpAny_pure (wpAny_bind (L0.at (wpAny_bind (L3.at ?_)))))))
  show wpAny _ _ (holding [Value.builtin "object.__class__"] (call (.builtin "getset_descriptor.__get__") [.builtin "object.__class__", .ref x, .ref C]) >>= ret) _ _ _
  exact wpAny_bind (wpAny_holding (wpAny_call (class_getT (s := ⟨hh, g, d, t + 1, os⟩) X I Z.ob (wpAny_pure (wpAny_pure (wpAny_pure h))))))
theorem xkitT (Z : XCls K C) : PySem.W.KitX K (.ref x) (.ref C) (fun h => TyAt h x C) where
  ty := fun _ _ _ I => I.type
  it := fun _ _ X _ => by
    obtain ⟨cdD, hcD⟩ := Option.isSome_iff_exists.mp Z.cls
    unfold PySem.W.clsIn at hcD
    split at hcD
    · rename_i c' d' cd' sl' ho
      intro A' Q' E' s' k q
      unfold isType loadHead
      exact wpAny_bind (wpAny_loadPart (k _ _ (X _ _ ho)) (wpAny_pure q))
    · cases hcD
  ne := fun h tp dd its n sl X htp => by
    obtain ⟨cdD, hcD⟩ := Option.isSome_iff_exists.mp Z.cls
    refine Bool.eq_false_iff.mpr fun q => ?_
    have e : C = tp := Value.ref.inj (beq_iff_eq.mp q)
    subst e
    unfold PySem.W.clsIn at hcD
    split at hcD
    · rename_i c' d' cd' sl' ho
      have z := (X _ _ ho).symm.trans htp
      cases z
    · cases hcD
  ca := fun X I k => xgaT_class X Z I k
end

/-- what was caught: a thing of the own class at C -/
def CaughtO (a C : Addr) : HO := .ext fun h => ∃ o, h.get? a = some o ∧ o.cls = .ref C
section
variable {X : Cx} {pins : List (Addr × Obj)} {σ : St} {H : Hp} {s : Shared} {a C : Addr}
theorem vals_refs : ∀ {cs : List Addr} {its : List Value}, Vals (cs.map V.ref) its → its = cs.map Value.ref
  | [], _, .nil => rfl
  | c :: cs, _, .cons r t => by
    cases r
    rw [List.map_cons, vals_refs t]
/-- what lies there untracked and is new is tracked -/
theorem Inv.track {o : HO} (I : Inv X pins σ H s) (hn : H a = none) (new : X.s₀.heap.get? a = none) (hl : a ≠ X.env.locals) (hc : ∀ x c, X.env.cells.lookup x = some c → c ≠ a) (hp : ∀ p ∈ X.pn ++ pins, p.1 ≠ a)
    (ok : ObjOk X.prog X.w (upd H a o) s.heap a o) : Inv X pins σ (upd H a o) s := by
  have up : ∀ b u, H b = some u → upd H a o b = some u := fun b u q => by rw [upd_ne (ne_of_none q hn)]; exact q
  refine ⟨I.ok, I.os, I.bare, ⟨I.base.keep, I.base.slot, fun b v q n hx => ?_, I.base.there, fun b xs q => up _ _ (I.base.tups b xs q), fun b u xs q => up _ _ (I.base.frzs b u xs q), fun b ps q => ?_⟩, I.loc, I.cell, by rw [upd_ne (Ne.symm hl)]; exact I.free,
    fun x c q => by rw [upd_ne (hc x c q)]; exact I.freeC x c q, fun p q => ?_, fun b u q => ?_, I.len⟩
  · rw [upd_ne (fun z => by rw [z, new] at q; cases q)]
    exact I.base.free b v q n hx
  · obtain ⟨m, z⟩ := I.base.tbls b ps q
    exact ⟨m, up _ _ z⟩
  · obtain ⟨h1, h2, h3⟩ := I.pin p q
    exact ⟨h1, by rw [upd_ne (hp p q)]; exact h2, h3⟩
  · by_cases hb : b = a
    · subst hb; rw [upd_same] at q; cases q; exact ok
    · rw [upd_ne hb] at q
      exact (I.hok b u q).stay (fun c v _ r => r) (fun c r => up _ _ r) fun c xs r => up _ _ r
end

section
variable {X : Cx} {pins : List (Addr × Obj)} {σ : St} {H : Hp} {s : Shared}
/-- the name behind the suite is gone -/
theorem goes_ok {M : Model} {A : Around} {E : Value → Shared → Prop} {i : Nat} {n : Str} {pos : Pos} {Q : Unit → Shared → Prop} (I : Inv X pins σ H s) (hN : X.N.Nodup) (hi : X.N[i]? = some n) (hk : X.env.kindOf n = some .local)
    (h : ∀ s', Inv X pins (σ.set i none) H s' → Q () s') : wpAny M A (do bindName X.env n .none; unbindBehindTheSuite X.env n pos) Q E s := by
  obtain ⟨m, hn, hl⟩ := id I.loc
  have hcls : (X.env.scope.kind == .class || (X.env.scope.kind == .module && X.env.locals != X.env.globals)) = false := by rw [I.ok.kind]; rfl
  have hiσ : i < σ.length := by rw [I.len]; exact (List.getElem?_eq_some_iff.mp hi).1
  have cne := I.cne
  refine wpAny_nameGoes_keeps hk hn hcls fun h' v hn' hs => ?_
  refine h _ ⟨I.ok, I.os, I.bare, ⟨fun b o e n hb hx => ?_, fun b o e n hb hx => ?_, I.base.free, fun b o e hx => ?_, I.base.tups, I.base.frzs, I.base.tbls⟩, ⟨_, hn', fun j y v' e1 e2 e3 => ?_⟩, fun y c e => ?_, I.free, I.freeC, fun p hp => ?_, fun b u e => ?_, by simpa using I.len⟩
  · exact (hs.2 b (Nat.ne_of_lt (Nat.lt_of_lt_of_le (Heap.lt_size e) I.ok.above))).trans (I.base.keep b o e n hb hx)
  · obtain ⟨sl, e1⟩ := I.base.slot b o e n hb hx
    exact ⟨sl, (hs.2 b (Nat.ne_of_lt (Nat.lt_of_lt_of_le (Heap.lt_size e) I.ok.above))).trans e1⟩
  · obtain ⟨o', e1⟩ := I.base.there b o e hx
    exact ⟨o', (hs.2 b (Nat.ne_of_lt (Nat.lt_of_lt_of_le (Heap.lt_size e) I.ok.above))).trans e1⟩
  · by_cases hj : j = i
    · subst hj
      rw [List.getElem?_set_self hiσ] at e2
      cases e2
    · rw [List.getElem?_set_ne (Ne.symm hj)] at e2
      obtain ⟨u', r', q⟩ := hl j y v' e1 e2 e3
      refine ⟨u', r', ?_⟩
      rcases q with ⟨k, e⟩ | ⟨k, c, e, z⟩
      · refine .inl ⟨k, ?_⟩
        have : y ≠ n := fun e => hj (nodup_ix hN e1 (e ▸ hi))
        simp [this, e]
      · exact .inr ⟨k, c, e, z.sameBut hs (cne y c e)⟩
  · obtain ⟨w', z⟩ := I.cell y c e
    exact ⟨w', z.sameBut hs (cne y c e)⟩
  · obtain ⟨e, n, ne, nf, d⟩ := I.pin p hp
    exact ⟨(hs.2 p.1 ne).trans e, n, ne, nf, d⟩
  · have nl : ∀ c v, H c = some v → c ≠ X.env.locals := fun c v q z => by rw [z, I.free] at q; cases q
    refine (I.hok b u e).stay (fun c v hc r => (hs.2 c ?_).trans r) (fun _ q => q) fun _ _ q => q
    rcases hc with z | z
    · rw [z]; exact nl b u e
    · exact nl c _ z
end

def Ends.gone (D : Ends) (i : Nat) : Ends := { nx := fun σ H => D.nx (σ.set i none) H, bk := fun σ H => D.bk (σ.set i none) H, ct := fun σ H => D.ct (σ.set i none) H, rt := D.rt }
section
variable {X : Cx}
end
end L2
/-! EXTENSION U: list.insert; an expression as a try's body. -/
namespace L2
open PySem PySem.Spec PyProof.Rows
section
variable {X : Cx}
def rInsert : V → List V → Hp → VK → Prop := fun x vs H Q => ∃ l xs y, ∃ i : Nat, x = .ref l ∧ vs = [.int (i : Int), y] ∧ H l = some (.lst xs) ∧ i ≤ xs.length ∧ xs.length < sizeLine ∧ i < 1000000 ∧ Q .non (upd H l (.lst (xs.take i ++ y :: xs.drop i)))
theorem psx_expr {e : Expr} {t : TX} {pos : Pos} (he : PX X e t) (hs : swapsWith e none pos.line X.env = pure false := by rfl) :
    PSX X [.Expr e pos] (fun D E σ H => t σ H (fun _ H1 => D.nx σ H1) (E σ)) := by
  intro pins s σ H D E I h
  refine wpAny_execs_cons (wpAny_Expr_any (wpAny_mono (he pins s σ H _ (E σ) I h) (fun u s1 ⟨v, H1, I1, r, q⟩ => ?_) fun ex s' z => ⟨σ, z⟩) I.quiet hs)
  exact wpAny_execs_nil ⟨σ, H1, I1, q⟩
end
end L2
/-! EXTENSION V: an exception with a dict of its own, raised, caught, read. -/
namespace L2
open PySem PySem.Spec PyProof.Rows
/-- all but q -/
def del (H : Hp) (q : Addr) : Hp := fun b => if b = q then none else H b
theorem del_ne {H : Hp} {q b : Addr} (n : b ≠ q) : del H q b = H b := if_neg n
theorem del_self {H : Hp} {q : Addr} : del H q q = none := if_pos rfl
section
variable {prog : Program} {w : World} {A : Around} {E : Value → Shared → Prop} {env : Env}
variable {nm q : Str} {C N : Addr} {bs bm : List Value} {hdct : Bool} {sn : List Str} {sub : List Value} {ab : Bool} {col : Option Bool} {dd : Option Addr} {k0 k1 k2 k3 k5 : Option Value} {newId : String}
theorem raiseD {M : Model} {s : Shared} {x : Sem Value} {Q : Flow → Shared → Prop} (hb : bm.contains (.type "BaseException") = true) (hh : A.handled = none)
    (h : wpAny M A x (fun v s1 => ∃ e t dx, v = .ref e ∧ s1.heap.get? e = some (excObj C t (some dx)) ∧ s1.heap.get? C = some (excClassObj nm q C N bs bm hdct sn sub ab col dd k0 k1 k2 k3 k5 newId) ∧ E (.ref e) s1) E s) :
    wpAny M A (raiseStmt env (some x) none) Q E s := by
  have hc : (Value.ref C :: bm).contains (.type "BaseException") = true := by
    rw [List.contains_cons, hb]
    exact Bool.or_true _
  unfold raiseStmt
  refine wpAny_bind (wpAny_mono h (fun v s1 z => ?_) fun _ _ y => y)
  obtain ⟨e, t, dx, rfl, he, hC, hE⟩ := z
  obtain ⟨hp, g, dr, tk, os⟩ := s1
  unfold excObj at he
  repeat (first
    | wp_step
    | with_reducible refine wpAny_loadPart_at hC ?_
    | with_reducible refine wpAny_loadPart_at he ?_
    | (with_reducible refine wpAny_isSubtype_exc hC ?_; rw [hc]))
  exact wpAny_raiseNew_none hh hE
end
section
variable {X : Cx} {pins : List (Addr × Obj)} {σ : St} {H : Hp} {s : Shared} {q C dx : Addr}
theorem excD_at (I : Inv X pins σ H s) (e : H q = some (ExcD q C dx)) : ∃ t, s.heap.get? q = some (excObj C t (some dx)) := by
  obtain ⟨⟨o, hx, t, rfl⟩, _⟩ := (show ObjOk X.prog X.w H s.heap q (ExcD q C dx) from I.hok q _ e)
  exact ⟨t, hx⟩
/-- what stays while it flies: all but the frames and itself -/
theorem Inv.hokD (I : Inv X pins σ H s) (e : H q = some (ExcD q C dx)) : HOk X.prog X.w (del H q) (PySem.W.hideAll s.heap (q :: frs X.stack)) := fun a o z => by
  have na : a ≠ q := fun c => by rw [c, del_self] at z; cases z
  rw [del_ne na] at z
  have own : ∀ {b : Addr}, H b = some (.own a) → b ≠ q := fun {b} hb c => by rw [c, e] at hb; cases hb
  refine (I.hok a o z).stay (fun b u hb k => PySem.W.hideAll_get _ k fun hm => ?_) (fun b k => by rw [del_ne (own k)]; exact k) fun b xs k => by
    rw [del_ne (fun c => by rw [c, e] at k; cases k)]
    exact k
  rcases List.mem_cons.mp hm with c | hm
  · rcases hb with c' | hb
    · exact na (c' ▸ c)
    · exact own hb c
  · have f := I.stkFree b hm
    rcases hb with rfl | hb
    · rw [f] at z; cases z
    · rw [f] at hb; cases hb
theorem raise_outD {E : XK} {E' : Value → Shared → Prop} (T : Top1 X) (I : Inv X pins σ H s) (h0 : X.H₀ q = none) (e : H q = some (ExcD q C dx)) (k : E (.ref C) (some dx) (del H q)) :
    wpAny (model X.prog X.w) X.A (leaving X.env (.ref q)) (fun _ s'' => XOk X.prog X.w X.outer X.H₀ X.s₀ E (.ref q) s'') E' s := by
  obtain ⟨t, hq⟩ := excD_at I e
  have hfr : X.A.frames = some (X.env :: X.outer) := by rw [← T.stk]; exact I.ok.frames
  have hst := I.stack
  have nx : ∀ b : Addr, b ∉ X.ex := fun b z => by rw [T.ex] at z; cases z
  have s0q : X.s₀.heap.get? q = none := by
    cases z : X.s₀.heap.get? q with
    | none => rfl
    | some o =>
      have := I.base.free q o z h0 (nx q)
      rw [e] at this
      cases this
  have qn : q ∉ frs X.stack := fun hm => by
    have := I.stkFree q hm
    rw [e] at this
    cases this
  have hB := PySem.W.funFrames_hide (as := q :: frs X.stack) hst (fun env he b hb => List.mem_cons_of_mem _ (List.mem_filterMap.mpr ⟨env, he, hb⟩))
  rw [T.stk] at hB
  have out : ∀ b o, X.s₀.heap.get? b = some o → b ∉ X.fs → b ∉ q :: frs X.stack := fun b o z hb hm => by
    rcases List.mem_cons.mp hm with c | hm
    · rw [c, s0q] at z; cases z
    · rcases T.mem.mp hm with c | c
      · exact absurd (Nat.lt_of_lt_of_le (Heap.lt_size z) I.ok.above) (by rw [c]; exact Nat.lt_irrefl _)
      · exact hb c
  have toB : ∀ b o, s.heap.get? b = some o → b ∉ q :: frs X.stack → (PySem.W.hideAll s.heap (q :: frs X.stack)).get? b = some o := fun b o z hb => PySem.W.hideAll_get _ z hb
  have gone : (PySem.W.hideAll s.heap (q :: frs X.stack)).get? q = none := PySem.W.hideAll_none _ (.head _)
  have Dk : DictAt q dx s.heap := ⟨_, hq, rfl⟩
  refine wpAny_mono (Keep.any (keep_leaving (e := q) (dx := dx) X.env (.ref q)) Dk (wpAny_leaving_firstW (a0 := .ref t) (base := PySem.W.hideAll s.heap (q :: frs X.stack)) (E := E') (Q := fun _ s'' => ∃ h', s'' = { s with heap := h' } ∧ Heap.LeftW (PySem.W.hideAll s.heap (q :: frs X.stack)) (X.env :: X.outer) q (.ref C) (.ref t) s.heap h')
    hfr (by rw [T.stk]; exact hB) T.frm hq (fun b o z => PySem.W.of_hideAll _ z) gone rfl rfl rfl fun h' x => ⟨h', rfl, x⟩)) (fun _ s'' z => ?_) fun _ _ z => z.1
  obtain ⟨⟨h', rfl, x1, ⟨_, _, x2⟩, x3, x4⟩, z⟩ := z
  have slot : ∀ b, b ∈ frs X.stack → ∀ o, s.heap.get? b = some o → ∃ sl, h'.get? b = some { o with slots := sl } := fun b hb o z => by
    obtain ⟨_, o2, e2, nf⟩ := hst.mem hb
    rw [z] at e2; cases e2
    exact x4 b o z nf
  have ndl : ∀ {b : Addr} {o : HO}, H b = some o → (∀ h, o ≠ .ext h) → del H q b = some o := fun {b o} hb ne => by
    rw [del_ne (fun c => by rw [c, e] at hb; cases hb; exact ne _ rfl)]
    exact hb
  refine ⟨q, C, .ref t, del H q, PySem.W.hideAll s.heap (q :: frs X.stack), some dx, rfl, ⟨x1, gone, x2, x3⟩, I.os, I.bare, ⟨fun b o z n hb _ => ?_, fun b o z n hb _ => ?_, fun b o z n _ => ?_, fun b o z _ => ?_, fun b xs z => ndl (I.base.tups b xs z) (fun _ c => nomatch c), fun b o u z => ndl (I.base.frzs b o u z) (fun _ c => nomatch c), fun b ps z => ?_⟩, I.hokD e, fun b o z n hb => ?_, fun b o z hb => ?_, (fun dx' c => by cases c; exact z), k⟩
  · exact x1 b o (toB b o (I.base.keep b o z n hb (nx b)) (out b o z hb))
  · obtain ⟨sl, e1⟩ := I.base.slot b o z n hb (nx b)
    exact (slot b (T.mem.mpr (.inr hb)) _ e1).imp fun _ y => y
  · by_cases c : b = q
    · rw [c]; exact del_self
    · rw [del_ne c]; exact I.base.free b o z n (nx b)
  · obtain ⟨o', e1⟩ := I.base.there b o z (nx b)
    have bq : b ≠ q := fun c => by rw [c, s0q] at z; cases z
    by_cases hb : b ∈ frs X.stack
    · obtain ⟨sl, e2⟩ := slot b hb o' e1
      exact ⟨_, e2⟩
    · exact ⟨o', x1 b o' (toB b o' e1 (fun hm => (List.mem_cons.mp hm).elim bq hb))⟩
  · obtain ⟨more, y⟩ := I.base.tbls b ps z
    exact ⟨more, ndl y (fun _ c => nomatch c)⟩
  · exact toB b o (I.base.keep b o z n hb (nx b)) (out b o z hb)
  · obtain ⟨o', e1⟩ := I.base.there b o z (nx b)
    exact ⟨o', toB b o' e1 (out b o z hb)⟩
end
section
variable {X : Cx} {C f : Addr} {B newId initId : String} {bmB : List Value} {e : Expr} {te : TE} {pos : Pos} {R : Addr → Hp → Prop}
/-- raise e, where e is an exception with a dict -/
theorem ps_raiseE (hc : X.calm = true) (O : ExcI X.K C f B newId initId bmB) (he : PE X e te) (hR : ∀ pins σ H s q dx, Inv X pins σ H s → X.H₀ q = none → H q = some (ExcD q C dx) → R dx (del H q) → X.xe (.ref q) s) :
    PS X (.Raise (some e) none pos) (fun _ σ H => te σ H fun v H2 => ∃ q dx, v = .ref q ∧ X.H₀ q = none ∧ H2 q = some (ExcD q C dx) ∧ R dx (del H2 q)) := by
  intro pins s σ H D I h
  obtain ⟨bm, N, nm, qn, bs, hdct, sn, sub, ab, col, dd, k0, k1, k2, k3, k5, mN, hC, hN, hni, TL⟩ := own_objI (h := X.base) I.ok.mod.kin O.at_
  rw [arm_exec_Raise]
  have main : wpAny (model X.prog X.w) X.A (eval e X.env) (fun v s1 => ∃ e t dx, v = .ref e ∧ s1.heap.get? e = some (excObj C t (some dx)) ∧ s1.heap.get? C = some (excClassObj nm qn C N bs bm hdct sn sub ab col dd k0 k1 k2 k3 k5 newId) ∧ X.xe (.ref e) s1) X.xe s := by
    refine wpAny_mono (he pins s σ H _ I h) (fun u s1 z => ?_) fun _ _ y => y
    obtain ⟨v, H2, I2, rv, q, dx, ev, h0, eq, r⟩ := z
    subst ev
    cases (show u = Value.ref q from rv)
    obtain ⟨t, ht⟩ := excD_at I2 eq
    exact ⟨q, t, dx, rfl, ht, I2.bk _ _ hC, hR pins σ H2 s1 q dx I2 h0 eq r⟩
  refine wpAny_bind (wpAny_standAt (raiseD (C := C) (nm := nm) (q := qn) (N := N) (bs := bs) (bm := bm) (hdct := hdct) (sn := sn) (sub := sub) (ab := ab) (col := col) (dd := dd) (k0 := k0) (k1 := k1) (k2 := k2) (k3 := k3) (k5 := k5) (newId := newId) (TL.hasType O.base.hasBase) (I.ok.hd hc) ?_))
  exact wpAny_bind (wpAny_mono main (fun v s1 z => wpAny_bind (wpAny_standAt (wpAny_pure z))) fun _ _ y => y)
end
theorem raisesD1 {P : Program} {w : World} {K : PySem.W.Frag} {mg : Str → Option Value} {base : Heap} {N : List Str} {qual : Str} {scope : Scope} {f C : Addr} {cd : Value} {A : Around} {outer : List Env} {s : Shared} {H : Hp} {E : XK} :
    ∀ (pins : List (Addr × Obj)) (σ : St) (H1 : Hp) (s1 : Shared) (q dx : Addr), Inv (cxX P w K mg base N qual scope f cd A outer s H E) pins σ H1 s1 → (cxX P w K mg base N qual scope f cd A outer s H E).H₀ q = none → H1 q = some (ExcD q C dx) → E (.ref C) (some dx) (del H1 q) →
      (cxX P w K mg base N qual scope f cd A outer s H E).xe (.ref q) s1 :=
  fun pins σ H1 s1 q dx I h0 e k => raise_outD (E' := fun e' s'' => XOk P w outer H s E e' s'') top_cxX I h0 e k
/-- what was caught: a thing of the own class at C, with its dict -/
def CaughtD (a C dx : Addr) : HO := .ext fun h => ∃ o, h.get? a = some o ∧ (o.cls = .ref C ∧ o.dict = some dx ∧ ∃ vs, o.data = .fields vs)
section
variable {X : Cx} {pins : List (Addr × Obj)} {σ : St} {H : Hp} {s : Shared} {a C dx : Addr} {f : Str} {A : Around} {E : Value → Shared → Prop}
theorem caughtD_at (I : Inv X pins σ H s) (e : H a = some (CaughtD a C dx)) : TyAt s.heap a C := by
  obtain ⟨⟨o, h1, h2, _⟩, _⟩ := (show ObjOk X.prog X.w H s.heap a (CaughtD a C dx) from I.hok a _ e)
  exact ⟨o, h1, h2⟩
/-- e.f of what was caught -/
theorem getattr_cd {v : V} {b : Bool} {fs : List (Str × V)} {Q : Value → Shared → Prop} (I : Inv X pins σ H s) (e : H a = some (CaughtD a C dx)) (e2 : H dx = some (.xd fs)) (ZC : XCls X.K C) (Z : XAttr X.K C f) (l : fs.lookup f = some v)
    (h : ∀ u s', Inv X pins σ H s' → RelV v u → Q u s') : wpAny (model X.prog X.w) A (getAttr (.ref a) f b) Q E s := by
  obtain ⟨⟨ox, hx, hxc, hxd, vs, hxv⟩, _⟩ := (show ObjOk X.prog X.w H s.heap a (CaughtD a C dx) from I.hok a _ e)
  obtain ⟨mA, ns, r⟩ := (show ObjOk X.prog X.w H s.heap dx (.xd fs) from I.hok dx _ e2)
  obtain ⟨u, hu, ru⟩ := RelO.some_of (v := v) (o := mA f) (by rw [← l]; exact r f)
  obtain ⟨od, ho, hl⟩ := lookIn_ns ns
  obtain ⟨c0, d0, dt, sl⟩ := ox
  simp only at hxc hxd hxv
  subst hxc hxd hxv
  have J : PySem.W.InstAt s.heap a ⟨.ref C, some dx, .fields vs, sl⟩ C (some od) := ⟨hx, rfl, rfl, ho⟩
  have hf := PySem.W.findObj_own (od := od) (v := u) Z.hd Z.no rfl (by rw [hl, hu])
  have XK := I.kIn
  have I1 := I.tok (s.toks + 1)
  unfold getAttr
  refine wpAny_bind (wpAny_mkText ?_)
  refine xga_by (s := { s with toks := s.toks + 1 }) XK ZC J (handed_of ru) (fun A Q E hq => ?_) (h u _ I1 ru)
  have L0 := J.type (M := model X.prog X.w)
  have L1 := PySem.W.looks_find (M := model X.prog X.w) XK J hf
  unfold Builtin.«object.__getattribute__»
  exact wpAny_bind (wpAny_pure (wpAny_bind (wpAny_pure (wpAny_bind (PySem.W.Looks.here (s := { s with toks := s.toks + 1 }) L0 (wpAny_bind (PySem.W.Looks.here (s := { s with toks := s.toks + 1 }) L1 (wpAny_pure hq))))))))
end
section
variable {X : Cx} {e : Expr} {f : Str} {pos : Pos} {ta : TE}
def tFldC (K : PySem.W.Frag) (ta : TE) (f : Str) : TE := fun σ H Q => ta σ H fun x H1 => ∃ a C dx fs v, x = .ref a ∧ H1 a = some (CaughtD a C dx) ∧ H1 dx = some (.xd fs) ∧ XCls K C ∧ XAttr K C f ∧ fs.lookup f = some v ∧ Q v H1
theorem pe_fldC {K : PySem.W.Frag} (hK : X.K = K) (he : PE X e ta) (hb : attributeBase e f X.env (eval e X.env) = eval e X.env := by rfl) : PE X (.Attribute e f pos) (tFldC K ta f) := by
  subst hK
  intro pins s σ H Q I h
  refine attr_of hb (thn (he pins s σ H _ I h) fun u s1 ⟨x, H1, I1, rx, a, C, dx, fs, v, ex, ea, ed, c, n, l, q⟩ => ?_)
  subst ex
  obtain rfl : u = Value.ref a := rx
  exact getattr_cd I1 ea ed c n l fun u' s2 I2 ru => ⟨v, H1, I2, ru, q⟩
end
section
variable {X : Cx}
/-- try: .. except D as n: .., where what is caught has a dict -/
theorem ps_tryAsD {c n : Str} {D₀ : Addr} {i : Nat} {body : List Stmt} {b₀ : Stmt} {suite : List Stmt} {tb : TSX} {th : TS} {np hpos pos : Pos} (T : Top1 X) (hg : Gl X c) (hm : X.mg c = some (.ref D₀)) (hN : X.N.Nodup) (hi : X.N[i]? = some n)
    (hkd : X.env.kindOf n = some .local) (hx : Loc X.env.scope n) (hb : PSX X body tb) (hs : ∀ e, PSs (X.caught e) (b₀ :: suite) th) (hdb : (c == ("__debug__" : Str)) = false := by decide)
    (hf : X.fn n = true ∨ X.env.scope.names.lookup n = some .local := by first | exact .inl rfl | exact .inr rfl | assumption) :
    PS X (.Try body [.ExceptHandler (some (.Name c np)) (some n) (b₀ :: suite) hpos] [] [] pos) (fun D σ H => tb D (fun σ1 cls pd H1 => ∃ C dx, cls = .ref C ∧ pd = some dx ∧ PySem.W.exmOne X.K (.ref C) (.ref D₀) = some true ∧
      ∀ ea, H1 ea = none → th (D.gone i) (σ1.set i (some (.ref ea))) (upd H1 ea (CaughtD ea C dx))) σ H) := by
  intro pins s σ H D I h
  refine wpAny_Try_except (wpAny_mono (hb pins s σ H D _ I h) (fun f s1 q => ?_) fun ex s' ⟨σ1, H1, s1, I1, hx'⟩ => ?_)
  · cases f with
    | next => exact wpAny_execs_nil q
    | brk => exact q
    | cont => exact q
    | ret u => exact q
  · obtain ⟨ea, C', a0, H', Bh, pd, rfl, fl, os, ba, un, hk, kb, tbb, dk, C, dx, ec, ep, em, q⟩ := hx'
    cases ec
    subst ep
    have D0 := dk dx rfl
    have hfr : X.A.frames = some (X.env :: X.outer) := by rw [← T.stk]; exact I1.ok.frames
    have ff := fl.2.2.1
    have hB : Bh.get? ea = none := fl.2.1
    have dat : ∀ h l, Heap.FlyingW Bh l ea (.ref C') a0 h → ∃ oe vs, h.get? ea = some oe ∧ oe.cls = .ref C' ∧ oe.data = .fields vs := fun h l z => by
      obtain ⟨_, _, _, oe, vs, _, _, _, he, hc, hd, _⟩ := z
      exact ⟨oe, vs, he, hc.1, hd⟩
    have nofr : ea ∉ frs X.stack := fun hb => by
      obtain ⟨_, o, e1, nf⟩ := ff.mem hb
      obtain ⟨oe, vs, e2, _, hd⟩ := dat _ _ fl
      rw [e1] at e2; cases e2
      exact nf vs hd
    have s1n : s1.heap.get? ea = none := by
      cases z : s1.heap.get? ea with
      | none => rfl
      | some o => obtain ⟨o', e⟩ := tbb ea o z nofr; rw [hB] at e; cases e
    have nx : ∀ b : Addr, b ∉ X.ex := fun b z => by rw [T.ex] at z; cases z
    have s0n : X.s₀.heap.get? ea = none := by
      cases z : X.s₀.heap.get? ea with
      | none => rfl
      | some o => obtain ⟨o', e⟩ := I1.base.there ea o z (nx ea); rw [s1n] at e; cases e
    have hn : H' ea = none := hk.freshN hB
    rw [T.stk] at fl
    refine wpAny_mono (Keep.any (keep_note (e := ea) (dx := dx) (.ref ea) X.env) D0 (wpAny_looks_onW hfr T.frm fl (E := X.xe) (Q := fun _ s2 => ∃ h4, s2 = { s' with heap := h4 } ∧ Heap.HeldW Bh (X.env :: X.outer) ea (.ref C') a0 X.env.locals h4 ∧ s'.heap.UpToSlots h4) fun h4 x y => ⟨h4, rfl, x, y⟩)) (fun _ s2 z => ?_) fun _ _ z => z.1
    obtain ⟨⟨h₄, rfl, held₄, sm₄⟩, D4⟩ := z
    refine wpAny_mono (Keep.any (keep_flight (e := ea) (dx := dx) (.ref ea) none) D4 (wpAny_landsW held₄ (E := X.xe) (Q := fun _ s3 => ∃ h5, s3 = { s' with heap := h5 } ∧ Heap.FlyingW Bh (X.env :: X.outer) ea (.ref C') a0 h5 ∧ h₄.UpToSlots h5) fun h5 x y => ⟨h5, rfl, x, y⟩)) (fun _ s3 z => ?_) fun _ _ z => z.1
    obtain ⟨⟨h₅, rfl, fl₅, sm₅'⟩, D5⟩ := z
    have sm₅ := sm₄.trans sm₅'
    have I5 : Inv X pins σ1 H' { s' with heap := h₅ } := I1.landed T os ba un hk kb tbb fl₅.1 sm₅ ff
    obtain ⟨ob, hob, hobc⟩ := fl₅.there
    refine wpAny_handleBy_cons (codeAny_handlers_test (ld_glob (X := X.caught (.ref ea)) (I5.caught (.ref ea)) hg hm ?_ hdb)) (by intro q; cases q)
    have LT : PySem.W.Looks (model X.prog X.w) h₅ (typeOf (.ref ea)) (.ref C') := TyAt.type ⟨ob, hob, hobc⟩
    refine PySem.W.Looks.here (s := { s' with heap := h₅ }) (PySem.W.exm_one I5.kIn LT em) ?_
    refine codeAny_handlers_suite_as ?_
    refine wpAny_mono (Keep.any (keep_flight (e := ea) (dx := dx) (.ref ea) none) D5 (lands_againW fl₅ (Q := fun _ s6 => ∃ h6, s6 = { s' with heap := h6 } ∧ Heap.FlyingW Bh (X.env :: X.outer) ea (.ref C') a0 h6 ∧ h₅.UpToSlots h6) fun h6 x y => ⟨h6, rfl, x, y⟩)) (fun _ s6 z => ?_) fun _ _ z => z.1
    obtain ⟨⟨h₆, rfl, fl₆, sm₆⟩, D6⟩ := z
    have I6 : Inv X pins σ1 H' { s' with heap := h₆ } := I1.landed T os ba un hk kb tbb fl₆.1 (sm₅.trans sm₆) ff
    obtain ⟨oe, vs, he, hec, hed⟩ := dat _ _ fl₆
    obtain ⟨o6, h61, h62⟩ := D6
    rw [he] at h61
    cases h61
    have I7 : Inv X pins σ1 (upd H' ea (CaughtD ea C' dx)) { s' with heap := h₆ } := I6.track hn s0n (fun z => nofr (T.mem.mpr (.inl z))) (fun y c e z => by
        obtain ⟨v, o, e1, e2⟩ := I6.cell y c e
        rw [z] at e1
        rw [he] at e1; cases e1
        rw [hed] at e2; cases e2) (fun p hp z => by
        obtain ⟨e1, _⟩ := I1.pin p hp
        rw [z, s1n] at e1; cases e1) (ext_ok (φ := fun o => o.cls = .ref C' ∧ o.dict = some dx ∧ ∃ vs, o.data = .fields vs) he ⟨hec, h62, vs, hed⟩)
    refine store_ok (X := X.caught (.ref ea)) (I7.caught (.ref ea)) hN hi hx (v := .ref ea) rfl (fun s8 I8 => ?_) hf
    refine wpAny_mono (hs (.ref ea) pins s8 _ _ (D.gone i) I8 (q ea hn)) (fun f s9 q9 => ?_) fun _ _ z => z.elim
    have q9 := SP.uncaught I6.ok q9
    cases f with
    | next => obtain ⟨a, b, J, z⟩ := q9; exact goes_ok J hN hi hkd fun s' J' => ⟨_, b, J', z⟩
    | brk => obtain ⟨a, b, J, z⟩ := q9; exact goes_ok J hN hi hkd fun s' J' => ⟨_, b, J', z⟩
    | cont => obtain ⟨a, b, J, z⟩ := q9; exact goes_ok J hN hi hkd fun s' J' => ⟨_, b, J', z⟩
    | ret u => obtain ⟨v, a, b, J, r, z⟩ := q9; exact goes_ok J hN hi hkd fun s' J' => ⟨v, _, b, J', r, z⟩
/-- isinstance of what was caught with its dict -/
theorem call_isinstDK {K : PySem.W.Frag} (hK : X.K = K) : CallR X (.builtin "isinstance") (fun xs H Q => ∃ a C dx c b, xs = [.ref a, c] ∧ H a = some (CaughtD a C dx) ∧ XCls K C ∧
    ((∃ D, c = .ref D ∧ PySem.W.kitOne K (.ref C) (.ref D) = some b) ∨ (∃ T, c = .ty T ∧ PySem.W.kitOne K (.ref C) (.type T) = some b) ∨
      ∃ (tp : Addr) (cs : List Addr), c = .ref tp ∧ H tp = some (.tup (cs.map V.ref)) ∧ PySem.W.kitAny K (.ref C) (cs.map Value.ref) = some b) ∧ Q (.bl b) H) := by
  subst hK
  intro pins s σ H xs us Q I r h
  obtain ⟨a, C, dx, c, b, rfl, ie, Z, e, q⟩ := h
  obtain ⟨u, w', rfl, r1, r2⟩ := vals2 r
  cases (show u = Value.ref a from r1)
  rcases e with ⟨D, rfl, e⟩ | ⟨T, rfl, e⟩ | ⟨tp, cs, rfl, et, e⟩
  · cases r2
    exact PySem.W.kia_one (xkitT Z) I.kIn (caughtD_at I ie) e (fun z => nomatch z) fun tk => ⟨.bl b, H, I.tok tk, rfl, q⟩
  · cases r2
    exact PySem.W.kia_one (xkitT Z) I.kIn (caughtD_at I ie) e (fun z => nomatch z) fun tk => ⟨.bl b, H, I.tok tk, rfl, q⟩
  · cases (show w' = Value.ref tp from r2)
    obtain ⟨_, its, rv, ⟨cl, dd, da, sl⟩, ho, hc, n, hd⟩ := (show ObjOk X.prog X.w H s.heap tp (.tup (cs.map V.ref)) from I.hok tp _ et)
    simp only at hc hd
    subst hc hd
    have ei := vals_refs rv
    subst ei
    exact PySem.W.kia_tup (xkitT Z) I.kIn (caughtD_at I ie) ho e (fun z => nomatch z) fun tk => ⟨.bl b, H, I.tok tk, rfl, q⟩
end
end L2
/-! EXTENSION W: texts: their methods (zfill, lstrip, startswith, join, split, partition), str(n), int(t). -/
namespace L2
open PySem PySem.Spec PyProof.Rows
section
variable {X : Cx}
theorem mt_starts : MtR X "str.startswith" (fun x xs H Q => ∃ z y, x = .str z ∧ xs = [.str y] ∧ Q (.bl (Txt.startswith z y)) H) := by
  intro pins s σ H x xs v us Q I rx rv h
  obtain ⟨z, y, rfl, rfl, q⟩ := h
  obtain ⟨t, rfl⟩ := rx
  obtain ⟨u, rfl, r1⟩ := vals1 rv
  obtain ⟨t1, rfl⟩ := r1
  exact SC.startswith ⟨.bl _, H, I, rfl, q⟩
theorem strs_values : ∀ {xs : List Str} {us : List Value}, Vals (xs.map V.str) us → ∃ l : List (Str × Tok), us = strValues l ∧ l.map (·.1) = xs := fun {xs us} h => by
  induction xs generalizing us with
  | nil => cases h; exact ⟨[], rfl, rfl⟩
  | cons x r ih =>
    cases h with
    | cons h1 h2 =>
      obtain ⟨t, rfl⟩ := h1
      obtain ⟨l, rfl, e⟩ := ih h2
      exact ⟨(x, t) :: l, rfl, by rw [List.map_cons, e]⟩
theorem values_strs (l : List (Str × Tok)) : Vals ((l.map (·.1)).map V.str) (strValues l) := by
  induction l with
  | nil => exact .nil
  | cons p r ih => exact .cons ⟨p.2, rfl⟩ ih
theorem mt_join : MtR X "str.join" (fun x xs H Q => ∃ z a ys, x = .str z ∧ xs = [.ref a] ∧ SqL X.K H a (ys.map V.str) ∧ JoinOk z ys = true ∧ Q (.str (Txt.join z ys)) H) := by
  intro pins s σ H x xs v us Q I rx rv h
  obtain ⟨z, a, ys, rfl, rfl, hq, hj, q⟩ := h
  obtain ⟨t, rfl⟩ := rx
  obtain ⟨u, rfl, r1⟩ := vals1 rv
  cases r1
  obtain ⟨its, r', pl, _⟩ := I.list hq
  obtain ⟨l, rfl, e⟩ := strs_values r'
  exact SC.join (l := l) pl.isList e hj fun t' k => ⟨.str _, H, I.tok _, ⟨_, rfl⟩, q⟩
theorem mt_partition : MtR X "str.partition" (fun x xs H Q => ∃ z y, x = .str z ∧ xs = [.str y] ∧ (y.length == 0) = false ∧ z.length ≤ sizeLine ∧ ∀ p, H p = none → Q (.ref p) (upd H p (.tup [.str (Txt.partition z y).1, .str (Txt.partition z y).2.1, .str (Txt.partition z y).2.2]))) := by
  intro pins s σ H x xs v us Q I rx rv h
  obtain ⟨z, y, rfl, rfl, hy, hz, q⟩ := h
  obtain ⟨t, rfl⟩ := rx
  obtain ⟨u, rfl, r1⟩ := vals1 rv
  obtain ⟨t1, rfl⟩ := r1
  refine call_meets F.slot_str_partition (typeIs_str _ _ _) F.entry_str_partition (F.args_str_partition_2 _ _) (meets_str_partition z y t t1 hy hz) ?_
  have key : ∀ (a b c : Str) (ta tb tc : Tok) (k : Nat), (∀ p, H p = none → Q (.ref p) (upd H p (.tup [.str a, .str b, .str c]))) → EP X pins σ Q (.ref s.heap.objs.size) { s with toks := k, heap := s.heap.push { cls := .type "tuple", data := .seq [.str a ta, .str b tb, .str c tc].toArray } } := fun a b c ta tb tc k q => by
    have I2 : Inv X pins σ (upd H s.heap.objs.size (.tup [.str a, .str b, .str c])) { s with toks := k, heap := s.heap.push { cls := .type "tuple", data := .seq [.str a ta, .str b tb, .str c tc].toArray } } :=
      I.laid (t' := k) (fun b o e => Heap.get?_push_of_some _ e) (Nat.le_refl _) (show ObjOk X.prog X.w _ _ _ (.tup [.str a, .str b, .str c]) from ⟨Nat.le_of_lt (lt_line (show 3 < 1000 by decide)), _, .cons ⟨ta, rfl⟩ (.cons ⟨tb, rfl⟩ (.cons ⟨tc, rfl⟩ .nil)), IsTup.new _ _⟩)
    exact ⟨.ref s.heap.objs.size, _, I2, rfl, q _ (I.hok.fresh (Nat.le_refl _))⟩
  revert q
  unfold Txt.partition
  cases Builtin.Str.occurrences z y 0 z.length 1 with
  | nil => intro q; exact key _ _ _ _ _ _ _ q
  | cons i r => intro q; exact key _ _ _ _ _ _ _ q
theorem mt_split : MtR X "str.split" (fun x xs H Q => ∃ z y, x = .str z ∧ xs = [.str y] ∧ (y.length == 0) = false ∧ z.length ≤ sizeLine ∧ (Txt.split z y).length ≤ sizeLine ∧ (Builtin.Str.partsBetween z (Builtin.Str.occurrences z y 0 z.length (z.length + 1)) y.length).length ≤ sizeLine ∧ ∀ p, H p = none → Q (.ref p) (upd H p (.lst ((Txt.split z y).map V.str)))) := by
  intro pins s σ H x xs v us Q I rx rv h
  obtain ⟨z, y, rfl, rfl, hy, hz, hz1, hz2, q⟩ := h
  obtain ⟨t, rfl⟩ := rx
  obtain ⟨u, rfl, r1⟩ := vals1 rv
  obtain ⟨t1, rfl⟩ := r1
  have key : ∀ (l : List (Str × Tok)) (k : Nat), l.map (·.1) = Txt.split z y → EP X pins σ Q (.ref s.heap.objs.size) { s with toks := k, heap := s.heap.push { cls := .type "list", data := .seq (strValues l).toArray } } := fun l k e => by
    have I2 : Inv X pins σ (upd H s.heap.objs.size (.lst ((Txt.split z y).map V.str))) { s with toks := k, heap := s.heap.push { cls := .type "list", data := .seq (strValues l).toArray } } :=
      I.laid (t' := k) (fun b o e => Heap.get?_push_of_some _ e) (Nat.le_refl _) (show ObjOk X.prog X.w _ _ _ (.lst ((Txt.split z y).map V.str)) from ⟨by rw [List.length_map]; exact hz1, _, _, e ▸ values_strs l, Heap.get?_push_size _ rfl⟩)
    exact ⟨.ref s.heap.objs.size, _, I2, rfl, q _ (I.hok.fresh (Nat.le_refl _))⟩
  cases h1 : (decide (z.length < y.length) || decide (Builtin.Str.strKind z < Builtin.Str.strKind y))
  · cases hf : (Builtin.Str.occurrences z y 0 z.length (z.length + 1)).isEmpty
    · refine call_meets F.slot_str_split (typeIs_str _ _ _) F.entry_str_split (F.args_str_split_2 _ _) (meets_str_split_sep z y t t1 h1 hy hf hz hz2) ?_
      show wants _ _ _ { s with toks := _, heap := s.heap.push { cls := .type "list", data := .seq (strsFrom s.toks (Builtin.Str.partsBetween z (Builtin.Str.occurrences z y 0 z.length (z.length + 1)) y.length)).toArray } }
      rw [strsFrom_eq]
      refine key (numbered s.toks _) _ ((numbered_texts _ _).trans ?_)
      unfold Txt.split
      rw [if_neg (ne_true_of_eq_false h1), if_neg (ne_true_of_eq_false hf)]
    · refine call_meets F.slot_str_split (typeIs_str _ _ _) F.entry_str_split (F.args_str_split_2 _ _) (meets_str_split_not_found z y t t1 h1 hy hf) ?_
      refine key [(z, t)] _ ?_
      unfold Txt.split
      rw [if_neg (ne_true_of_eq_false h1), if_pos hf]
      rfl
  · refine call_meets F.slot_str_split (typeIs_str _ _ _) F.entry_str_split (F.args_str_split_2 _ _) (meets_str_split_cannot_occur z y t t1 h1) ?_
    refine key [(z, t)] _ ?_
    unfold Txt.split
    rw [if_pos h1]
    rfl
theorem call_strI : CallR X (.type "str") (fun xs H Q => ∃ i, xs = [.int i] ∧ i.natAbs < 2 ^ 1900 ∧ Q (.str (Str.ofString (toString i))) H) := by
  intro pins s σ H xs us Q I r h
  obtain ⟨i, rfl, hi, q⟩ := h
  obtain ⟨u, rfl, rx⟩ := vals1 r
  obtain ⟨t, rfl⟩ := rx
  have hl : i.natAbs.log2 < 1920 := by
    by_cases e : i.natAbs = 0
    · rw [e]; decide
    · exact (Nat.log2_lt e).mpr (Nat.lt_of_lt_of_le hi (Nat.pow_le_pow_right (by decide) (by decide)))
  exact P.str_of_int hl ⟨.str _, H, I.tok _, ⟨_, rfl⟩, q⟩
theorem call_intS : CallR X (.type "int") (fun xs H Q => ∃ x n, xs = [.str x] ∧ PySem.intText? x = some n ∧ x.length ≤ 640 ∧ Q (.int n) H) := by
  intro pins s σ H xs us Q I r h
  obtain ⟨x, n, rfl, hn, hl, q⟩ := h
  obtain ⟨u, rfl, rx⟩ := vals1 r
  obtain ⟨t, rfl⟩ := rx
  exact PySem.W.KIN.call_text hn hl ⟨.int n, H, I.tok _, ⟨_, rfl⟩, q⟩
end
end L2
/-! EXTENSION X: an exception that a comprehension's element raises. -/
namespace L2
open PySem PySem.Spec PyProof.Rows
section
variable {M : Model} {A : Around} {E : Value → Shared → Prop} {s : Shared} {base : Heap} {l outer : List Env} {env : Env} {L e : Addr} {cls a0 v : Value} {Q : Unit → Shared → Prop}
/-- the flight is noted at another frame, or at none -/
theorem note_other (fr : A.frames = some (env :: outer)) (hl : s.heap.FunFrames base (env :: outer)) (ef : env.frame = some L) (tr : s.heap.TracedAtW base e cls a0 v) (hv : ¬ (v == rawInt L) = true) (kb : base.StaysIn s.heap) (en : base.get? e = none)
    (q : ∀ h', Heap.NotedW base (env :: outer) e cls a0 (rawInt L) s.heap h' → Q () { s with heap := h' }) : wpAny M A (noteFrame (.ref e) env) Q E s := by
  obtain ⟨ox, xs, tb, ot, ts, gx, ⟨cx, x0⟩, dx, x1, tn, tx, gt, dt, t3⟩ := tr
  subst cx
  have oth : ∀ b, b ≠ tb → (s.heap.update tb (Obj.mapFields (·.setIfInBounds 3 Value.none))).get? b = s.heap.get? b := fun b nb => Heap.get?_update_other _ _ (Ne.symm nb)
  have nrec : ∀ b o, s.heap.get? b = some o → (∀ vs, o.data ≠ .fields vs) → b ≠ tb := fun b o gb nf z => nf ts (by rw [z, gt] at gb; cases gb; exact dt)
  unfold noteFrame
  simp only [ef]
  refine wpAny_bind (wpAny_field gx dx x1 ?_)
  rw [if_pos (by simp)]
  refine wpAny_bind (wpAny_field gt dt t3 ?_)
  rw [if_neg hv]
  refine wpAny_bind (wpAny_setField gt dt (Array.getElem?_eq_some_iff.mp t3).1 ?_)
  exact wpAny_entryW fr (hl.of_keeps fun b o gb nf => ⟨o, (oth b (nrec b o gb nf)).trans gb, rfl⟩) ef ((oth e (Ne.symm tx)).trans gx) (fun b o gb => (oth b fun z => by rw [z, tn] at gb; cases gb).trans (kb b o gb)) en dx (Array.getElem?_eq_some_iff.mp x1).1 x0
    fun h' z => q h' ⟨z.1, z.2.1, z.2.2.1, fun b o gb nf => z.2.2.2 b o ((oth b (nrec b o gb nf)).trans gb) nf⟩
theorem flight_any (f : Option Addr) (kb : base.StaysIn s.heap) (hl : s.heap.FunFrames base l) (tr : s.heap.TracedAtW base e cls a0 v)
    (q : ∀ h', base.StaysIn h' → h'.FunFrames base l → h'.TracedAtW base e cls a0 (f.elim Value.none fun g => rawInt g) → (∀ b o, s.heap.get? b = some o → (∀ vs, o.data ≠ .fields vs) → h'.get? b = some o) → Q () { s with heap := h' }) :
    wpAny M A (setFlight (.ref e) f) Q E s := by
  obtain ⟨ox, xs, tb, ot, ts, gx, cx, dx, x1, tn, tx, gt, dt, t3⟩ := tr
  have sz : 3 < ts.size := (Array.getElem?_eq_some_iff.mp t3).1
  have oth : ∀ b, b ≠ tb → (s.heap.update tb (Obj.mapFields (·.setIfInBounds 3 (f.elim Value.none fun g => rawInt g)))).get? b = s.heap.get? b := fun b nb => Heap.get?_update_other _ _ (Ne.symm nb)
  have nrec : ∀ b o, s.heap.get? b = some o → (∀ vs, o.data ≠ .fields vs) → b ≠ tb := fun b o gb nf z => nf ts (by rw [z, gt] at gb; cases gb; exact dt)
  unfold setFlight
  refine wpAny_bind (wpAny_field gx dx x1 ?_)
  rw [if_pos (by simp)]
  refine wpAny_setField gt dt sz (q _ (fun b o gb => (oth b fun z => by rw [z, tn] at gb; cases gb).trans (kb b o gb)) (hl.of_keeps fun b o gb nf => ⟨o, (oth b (nrec b o gb nf)).trans gb, rfl⟩) ?_ fun b o gb nf => (oth b (nrec b o gb nf)).trans gb)
  exact ⟨ox, xs, tb, _, _, (oth e (Ne.symm tx)).trans gx, cx, dx, x1, tn, tx, Heap.get?_update_self _ gt (Obj.isFreed_of_fields (Obj.data_mapFields dt _)), Obj.data_mapFields dt _, by simp [sz]⟩
/-- one address is let go of the base, and changes -/
theorem held_hide {C : Addr} {h h' : Heap} (hB : (PySem.W.hideAll base [C]).get? C = none) (kb : base.StaysIn h) (hl : h.FunFrames base l) (tr : h.TracedAtW base e cls a0 v) (sb : Heap.SameBut C h h') (nC : C ∉ l.filterMap (·.frame)) (ne : e ≠ C) (oC : ∃ o, base.get? C = some o) :
    (PySem.W.hideAll base [C]).StaysIn h' ∧ h'.FunFrames (PySem.W.hideAll base [C]) l ∧ h'.TracedAtW (PySem.W.hideAll base [C]) e cls a0 v := by
  have of : ∀ {b o}, (PySem.W.hideAll base [C]).get? b = some o → base.get? b = some o := fun z => PySem.W.of_hideAll _ z
  have nn : ∀ {b}, base.get? b = none → (PySem.W.hideAll base [C]).get? b = none := fun {b} z => by
    cases w : (PySem.W.hideAll base [C]).get? b with
    | none => rfl
    | some o => rw [of w] at z; cases z
  refine ⟨fun b o g => ?_, ?_, ?_⟩
  · have nb : b ≠ C := fun z => by rw [z, hB] at g; cases g
    rw [sb.2 b nb]
    exact kb b o (of g)
  · clear tr
    induction l with
    | nil => trivial
    | cons x r ih =>
      obtain ⟨h1, ⟨L', o, h2, h3, h4, h5⟩, h6⟩ := hl
      have nL : L' ≠ C := fun z => nC (by rw [List.filterMap_cons, h2, z]; exact List.mem_cons_self)
      refine ⟨h1, ⟨L', o, h2, nn h3, by rw [sb.2 L' nL]; exact h4, h5⟩, ih h6 fun z => nC ?_⟩
      rw [List.filterMap_cons, h2]
      exact List.mem_cons_of_mem _ z
  · obtain ⟨ox, xs, tb, ot, ts, gx, cx, dx, x1, tn, tx, gt, dt, t3⟩ := tr
    have nt : tb ≠ C := fun z => by
      obtain ⟨o, ho⟩ := oC
      rw [z, ho] at tn
      cases tn
    exact ⟨ox, xs, tb, ot, ts, by rw [sb.2 e ne]; exact gx, cx, dx, x1, nn tn, tx, by rw [sb.2 tb nt]; exact gt, dt, t3⟩
end
theorem Keep.allImp {α : Type} {p : Addr → Prop} {Z : Addr → Heap → Prop} {t : Sem α} (h : ∀ i, Keep (Z i) t) : Keep (fun hp => ∀ i, p i → Z i hp) t := by
  induction t with
  | pure a => trivial
  | raise _ => trivial
  | unsupported _ => trivial
  | finish _ => trivial
  | rule _ _ ih => exact ih () h
  | «at» _ _ ih => exact ih () h
  | load _ _ _ ih => exact fun o => ih o fun i => h i o
  | update _ _ _ _ ih => exact ⟨fun hp z i pi => (h i).1 hp (z i pi), ih () fun i => (h i).2⟩
  | alloc _ _ ih => exact ⟨fun hp z i pi => (h i).1 hp (z i pi), fun a => ih a fun i => (h i).2 a⟩
  | loadIfAlive _ _ ih => exact fun o => ih o fun i => h i o
  | point _ _ ih => exact ih () h
  | register _ _ _ => trivial
  | fresh _ ih => exact fun o => ih o fun i => h i o
  | ask _ ih => exact fun o => ih o fun i => h i o
  | choose _ _ _ ih => exact fun o => ih o fun i => h i o
  | os _ _ _ ih => exact fun o => ih o fun i => h i o
  | call _ _ _ _ _ _ => exact (h 0).elim
  | handled _ _ ih => exact fun o => ih o fun i => h i o
  | newGen _ _ ih => exact fun o => ih o fun i => h i o
  | genState _ _ ih => exact fun o => ih o fun i => h i o
  | resume _ _ _ _ _ => exact (h 0).elim
  | yield _ _ _ _ _ => trivial
  | stack _ ih => exact fun o => ih o fun i => h i o
  | fork _ _ _ => trivial
  | thread _ ih => exact fun o => ih o fun i => h i o
  | await _ _ _ _ _ _ => trivial
section
variable {X : Cx} {pins : List (Addr × Obj)} {σ : St} {H : Hp} {s : Shared}
/-- a callee's exception goes through a comprehension, whose own dict stands at C, and through this frame -/
theorem pass_comp {E : XK} {E1 E2 : Value → Shared → Prop} {e : Value} {s' : Shared} {C : Addr} {m : Str → Option Value} (T : Top1 X) (I : Inv X pins σ H s) (h : XOk X.prog X.w X.stack H s E e s') (hn : s.heap.Ns C m) (hC : H C = none) (fC : C ∉ frs X.stack) (aC : X.s₀.heap.get? C = none) :
    wpAny (model X.prog X.w) X.A (noteFrame e X.env) (fun _ s2 => ∃ m, s2.heap.Ns C m ∧ ∀ h', Heap.SameBut C s2.heap h' → ∀ c : Env, c.locals = C → wpAny (model X.prog X.w) X.A (PySem.passOn "comprehension.variables-let-go" e c : Sem Value) (fun _ _ => False)
      (fun e s3 => wpAny (model X.prog X.w) X.A (leaving X.env e) (fun _ s4 => XOk X.prog X.w X.outer X.H₀ X.s₀ E e s4) E1 s3) { s2 with heap := h' }) E2 s' := by
  obtain ⟨ea, Cx, a0, H', B, pd, rfl, fl, os, ba, un, hk, kb, tb, dk, q⟩ := h
  have hfr : X.A.frames = some (X.env :: X.outer) := by rw [← T.stk]; exact I.ok.frames
  obtain ⟨oc, es, ep, goc, hoc, hoc2⟩ := id hn
  have bC : B.get? C = some oc := kb C oc goc hC fC
  have nea : ea ≠ C := fun z => by have := fl.2.1; rw [z, bC] at this; cases this
  have H'C : H' C = none := un.free C oc goc hC (fun z => nomatch z)
  have hB : (PySem.W.hideAll B [C]).get? C = none := PySem.W.hideAll_none _ (List.mem_singleton.mpr rfl)
  have out : ∀ b o, X.s₀.heap.get? b = some o → b ∉ X.fs → b ∉ frs X.stack := fun b o e hb hm => by
    rcases T.mem.mp hm with z | z
    · exact absurd (Nat.lt_of_lt_of_le (Heap.lt_size e) I.ok.above) (by rw [z]; exact Nat.lt_irrefl _)
    · exact hb z
  have nx : ∀ b : Addr, b ∉ X.ex := fun b z => by rw [T.ex] at z; cases z
  have n0 : ∀ b : Addr, b ∉ ([] : List Addr) := fun b z => nomatch z
  have nC0 : ∀ {b o}, X.s₀.heap.get? b = some o → b ≠ C := fun {b o} g z => by rw [z, aC] at g; cases g
  have fC' : C ∉ (X.env :: X.outer).filterMap (·.frame) := by rw [← T.stk]; exact fC
  have fl' := fl
  rw [T.stk] at fl
  have main : ∀ h', Heap.FlyingW (PySem.W.hideAll B [C]) X.outer ea (.ref Cx) a0 h' → (∀ b o, b ≠ C → s'.heap.get? b = some o → (∀ vs, o.data ≠ .fields vs) → ∃ sl, h'.get? b = some { o with slots := sl }) → (∀ dx, pd = some dx → DictAt ea dx h') → XOk X.prog X.w X.outer X.H₀ X.s₀ E (.ref ea) { s' with heap := h' } := ?_
  · have kN : Keep (fun h => ∀ dx, pd = some dx → DictAt ea dx h) (noteFrame (.ref ea) X.env) := Keep.allImp fun dx => keep_note _ _
    refine wpAny_mono (Keep.any kN dk (wpAny_looks_onW hfr T.frm fl (Q := fun _ s2 => ∃ h4, s2 = { s' with heap := h4 } ∧ Heap.HeldW B (X.env :: X.outer) ea (.ref Cx) a0 X.env.locals h4 ∧ s'.heap.UpToSlots h4) (E := E2) fun h4 x1 x2 => ⟨h4, rfl, x1, x2⟩)) (fun _ s2 z => ?_) fun _ _ z => z.1
    obtain ⟨⟨h4, rfl, held, sm⟩, z4⟩ := z
    have nsC : s'.heap.Ns C m := ⟨oc, es, ep, fl'.1 C oc bC, hoc, hoc2⟩
    refine ⟨m, sm.ns nsC, fun h5 sb c _ => ?_⟩
    have sb' : Heap.SameBut C h4 h5 := sb
    have z5 : ∀ dx, pd = some dx → DictAt ea dx h5 := fun dx hd => by
      obtain ⟨o, g1, g2⟩ := z4 dx hd
      exact ⟨o, by rw [sb'.2 ea nea]; exact g1, g2⟩
    obtain ⟨k1, k2, k3⟩ := held_hide hB held.1 held.2.2.1 held.2.2.2 sb' fC' nea ⟨oc, bC⟩
    have en : (PySem.W.hideAll B [C]).get? ea = none := by
      cases w : (PySem.W.hideAll B [C]).get? ea with
      | none => rfl
      | some o => have := fl.2.1; rw [PySem.W.of_hideAll _ w] at this; cases this
    obtain ⟨ox, xs, tb', ot, ts, gx, cx, dx', x1, tn, tx, gt, dt, t3⟩ := id k3
    unfold PySem.passOn
    refine wpAny_bind (wpAny_field gx dx' x1 ?_)
    rw [if_neg (by simp)]
    have kF : Keep (fun h => ∀ dx, pd = some dx → DictAt ea dx h) (setFlight (.ref ea) c.frame) := Keep.allImp fun dx => keep_flight _ _
    refine wpAny_bind (wpAny_mono (Keep.any kF z5 (flight_any (s := { s' with heap := h5 }) (E := fun _ _ => False) c.frame k1 k2 k3 (Q := fun _ s3 => ∃ h6, s3 = { s' with heap := h6 } ∧ (PySem.W.hideAll B [C]).StaysIn h6 ∧ h6.FunFrames (PySem.W.hideAll B [C]) (X.env :: X.outer) ∧ h6.TracedAtW (PySem.W.hideAll B [C]) ea (.ref Cx) a0 (c.frame.elim Value.none fun g => rawInt g) ∧ (∀ b o, h5.get? b = some o → (∀ vs, o.data ≠ .fields vs) → h6.get? b = some o)) fun h6 y1 y2 y3 y4 => ⟨h6, rfl, y1, y2, y3, y4⟩)) (fun _ s3 z => wpAny_throw ?_) fun _ _ z => z.1.elim)
    obtain ⟨⟨h6, rfl, y1, y2, y3, y4⟩, z6⟩ := z
    have kL : Keep (fun h => ∀ dx, pd = some dx → DictAt ea dx h) (leaving X.env (.ref ea)) := Keep.allImp fun dx => keep_leaving _ _
    have up : ∀ {h8 : Heap}, h6.UpToSlots h8 → ∀ b o, b ≠ C → s'.heap.get? b = some o → (∀ vs, o.data ≠ .fields vs) → ∃ sl, h8.get? b = some { o with slots := sl } := fun {h8} u b o nb g nf => by
      obtain ⟨sl, g1⟩ := sm b o g nf
      have g2 := y4 b _ ((sb'.2 b nb).trans g1) nf
      obtain ⟨sl2, g3⟩ := u b _ g2 nf
      exact ⟨sl2, g3⟩
    have land : ∀ (s7 : Shared), Heap.HeldW (PySem.W.hideAll B [C]) (X.env :: X.outer) ea (.ref Cx) a0 X.env.locals s7.heap → (∃ h7, s7 = { s' with heap := h7 }) → h6.UpToSlots s7.heap →
        wpAny (model X.prog X.w) X.A (setFlight (.ref ea) none) (fun _ s8 => ∃ h8, s8 = { s' with heap := h8 } ∧ Heap.FlyingW (PySem.W.hideAll B [C]) X.outer ea (.ref Cx) a0 h8 ∧ h6.UpToSlots h8) E1 s7 := fun s7 held7 es7 u7 => by
      obtain ⟨h7, rfl⟩ := es7
      exact wpAny_landsW held7 fun h8 f8 u8 => ⟨h8, rfl, ⟨f8.1, f8.2.1, f8.2.2.1.2.2, f8.2.2.2⟩, u7.trans u8⟩
    refine wpAny_mono (Keep.any kL z6 (?_ : wpAny (model X.prog X.w) X.A (leaving X.env (.ref ea)) (fun _ s8 => ∃ h8, s8 = { s' with heap := h8 } ∧ Heap.FlyingW (PySem.W.hideAll B [C]) X.outer ea (.ref Cx) a0 h8 ∧ h6.UpToSlots h8) E1 { s' with heap := h6 })) (fun _ s8 z => ?_) fun _ _ z => z.1
    · unfold leaving
      by_cases hv : ((c.frame.elim Value.none fun g => rawInt g) == rawInt X.env.locals) = true
      · rw [eq_of_beq hv] at y3
        exact wpAny_bind (wpAny_noteFrame_againW T.frm y3 (land _ ⟨y1, en, y2, y3⟩ ⟨h6, rfl⟩ (Heap.UpToSlots.refl _)))
      · exact wpAny_bind (note_other hfr y2 T.frm y3 hv y1 en fun h7 n7 => land _ ⟨n7.1, en, n7.2.1, n7.2.2.1⟩ ⟨h7, rfl⟩ n7.2.2.2)
    · obtain ⟨⟨h8, rfl, f8, u8⟩, z8⟩ := z
      exact main h8 f8 (up u8) z8
  intro h' x1 x2 dk'
  have slot : ∀ b, b ∈ frs X.stack → ∀ o, s'.heap.get? b = some o → ∃ sl, h'.get? b = some { o with slots := sl } := fun b hb o e => by
    obtain ⟨_, o2, e2, nf⟩ := fl'.2.2.1.mem hb
    rw [e] at e2; cases e2
    exact x2 b o (fun z => fC (z ▸ hb)) e nf
  have toB : ∀ {b o}, b ≠ C → B.get? b = some o → (PySem.W.hideAll B [C]).get? b = some o := fun nb g => PySem.W.hideAll_get _ g fun z => nb (List.mem_singleton.mp z)
  have hk' : HOk X.prog X.w H' (PySem.W.hideAll B [C]) := fun a o e => (hk a o e).stay (fun b u hb g => PySem.W.hideAll_get _ g fun z => by
      have z := List.mem_singleton.mp z
      subst z
      rcases hb with rfl | hb
      · rw [H'C] at e; cases e
      · rw [H'C] at hb; cases hb) (fun _ q => q) fun _ _ q => q
  refine ⟨ea, Cx, a0, H', _, pd, rfl, x1, os.trans I.os, ba, ⟨fun b o e n hb _ => ?_, fun b o e n hb _ => ?_, fun b o e n _ => ?_, fun b o e _ => ?_, fun b xs z => un.tups b xs (I.base.tups b xs z), fun b o u z => un.frzs b o u (I.base.frzs b o u z), fun b ps z => ?_⟩, hk', fun b o e n hb => ?_, fun b o e hb => ?_, dk', q⟩
  · exact x1.1 b o (toB (nC0 e) (kb b o (I.base.keep b o e n hb (nx b)) (I.base.free b o e n (nx b)) (out b o e hb)))
  · obtain ⟨sl, e1⟩ := I.base.slot b o e n hb (nx b)
    obtain ⟨sl1, e2⟩ := un.slot b _ e1 (I.base.free b o e n (nx b)) (T.mem.mpr (.inr hb)) (n0 b)
    obtain ⟨sl2, e3⟩ := slot b (T.mem.mpr (.inr hb)) _ e2
    exact ⟨sl2, e3⟩
  · obtain ⟨o', e1⟩ := I.base.there b o e (nx b)
    exact un.free b o' e1 (I.base.free b o e n (nx b)) (n0 b)
  · obtain ⟨o', e1⟩ := I.base.there b o e (nx b)
    by_cases hb : b ∈ frs X.stack
    · obtain ⟨o2, e2⟩ := un.there b o' e1 (n0 b)
      obtain ⟨sl, e3⟩ := slot b hb o2 e2
      exact ⟨_, e3⟩
    · obtain ⟨o2, e2⟩ := tb b o' e1 hb
      exact ⟨o2, x1.1 b o2 (toB (nC0 e) e2)⟩
  · obtain ⟨m1, z1⟩ := I.base.tbls b ps z
    obtain ⟨m2, z2⟩ := un.tbls b _ z1
    exact ⟨m1 ++ m2, by rw [z2, Array.append_assoc]⟩
  · exact toB (nC0 e) (kb b o (I.base.keep b o e n hb (nx b)) (I.base.free b o e n (nx b)) (out b o e hb))
  · obtain ⟨o', e1⟩ := I.base.there b o e (nx b)
    obtain ⟨o2, e2⟩ := tb b o' e1 (out b o e hb)
    exact ⟨o2, toB (nC0 e) e2⟩
/-- what the callee's exception says inside a comprehension -/
def CompE (X : Cx) (N' : List Str) (cs : Scope) (cl : List (Str × Addr)) (s3 : Shared) (H3 : Hp) (fp : List Addr) (EE : XK) : Value → Shared → Prop := fun e s' => ∃ (pins : List (Addr × Obj)) (σ : St) (H9 : Hp) (s9 : Shared), Inv (compCx X N' cs cl s3 H3 fp) pins σ H9 s9 ∧ XOk X.prog X.w X.stack H9 s9 EE e s'
theorem passC {N' : List Str} {cs : Scope} {cl : List (Str × Addr)} {s3 : Shared} {H3 : Hp} {fp : List Addr} {EE : XK} : Passes (XOk X.prog X.w) ((compCx X N' cs cl s3 H3 fp).wish (CompE X N' cs cl s3 H3 fp EE)) EE := fun pins σ H s e s' I h => ⟨pins, σ, H, s, I.unwish, h⟩
theorem comp_coreE {EE : XK} {N' r : List Str} {ix : List Nat} {x : Str} {cs : Scope} {cl : List (Str × Addr)} {tg iter elt : Expr} {ifs : List Expr} {pos : Pos} {J : It} {fp : List Addr} {it : Addr} {tn : Nat → Heap → Prop} {g : TG} {tt : TT} {te : TE} {Z : Addr → Hp → Prop}
    {RR : Value → Addr → Result → Shared → Prop} {E : Value → Shared → Prop}
    (I : Inv X pins σ H s) (hc : X.calm = true) (S : CompScope X.N X.env.scope N' ix x r cs) (h2 : ∀ y c, cl.lookup y = some c → X.env.cells.lookup y = some c) (h3 : ∀ y, (y, NameKind.free) ∈ cs.names → ∃ c, cl.lookup y = some c)
    (T : Turn X.prog X.w X.K tg J fp it tn) (st : tn 0 s.heap) (hf : ∀ b ∈ fp, FpOk X pins H b)
    (hg : ∀ s3 H3, PG (compCx X N' cs cl s3 H3 fp) tg g) (ht : ∀ s3 H3, PTs (compCx X N' cs cl s3 H3 fp) ifs tt) (he : ∀ s3 H3, PE ((compCx X N' cs cl s3 H3 fp).wish (CompE X N' cs cl s3 H3 fp EE)) elt te)
    (go : ∀ acc, H acc = none → CompGo J (slotsAt σ ix) g tt te acc (Z acc) H)
    (err : ∀ acc C H9 s9 m e s', Inv X pins σ H9 s9 → s9.heap.Ns C m → H9 C = none → C ∉ frs X.stack → X.s₀.heap.get? C = none → XOk X.prog X.w X.stack H9 s9 EE e s' → notedBy (model X.prog X.w) X.A (compEnvC cs cl C X.env) (fun e s' => RR acc C (.error e) s') e s')
    (fin : ∀ acc C s' H' m, Inv X pins σ H' s' → FpOk X pins H' C → s'.heap.Ns C m → Z acc H' → RR (.ref acc) C (.ok .next) s') :
    wpAny (model X.prog X.w) X.A (newList []) (fun acc s₃ => wpAny (model X.prog X.w) X.A (newFunctionEnv cs X.env.globals cl [] X.env.qual none .none (some X.env)) (fun cenv s₄ =>
      codeAny (model X.prog X.w) X.A (.compStart (.ListComp elt [⟨tg, iter, ifs, 0⟩] cs pos) 0 (.ref it) acc { cenv with scope := relabel cs X.env }) (RR acc cenv.locals) s₄) E s₃) E s := by
  refine wpAny_newObj_type (wpAny_newFunctionEnv S.hcell (by intro y hy; simp at hy) (fun h₁ hns₁ hsb₁ => ?_) S.kind)
  dsimp only at hns₁ hsb₁ ⊢
  have hfs : ∀ b ∈ fp, b < s.heap.objs.size := fun b hb => by
    obtain ⟨o, e, _⟩ := T.obj _ _ st b hb
    exact Heap.lt_size e
  have I3 : Inv X pins σ (upd H s.heap.objs.size (.lst [])) { s with heap := s.heap.push { cls := .type "list", data := .seq ([] : List Value).toArray } } := I.lnew (its := []) (t' := s.toks) .nil (Nat.zero_le _)
  have nacc : H s.heap.objs.size = none := I.fresh
  have hf3 : ∀ b ∈ fp, FpOk X pins (upd H s.heap.objs.size (.lst [])) b := fun b hb => ⟨by rw [upd_ne (Nat.ne_of_lt (hfs b hb))]; exact (hf b hb).1, (hf b hb).2⟩
  have hfs3 : ∀ b ∈ fp, b < (s.heap.push { cls := .type "list", data := .seq ([] : List Value).toArray }).objs.size := fun b hb => by
    rw [Heap.size_push]; exact Nat.lt_succ_of_lt (hfs b hb)
  generalize hs3 : ({ s with heap := s.heap.push { cls := .type "list", data := .seq ([] : List Value).toArray } } : Shared) = s3 at I3
  generalize hH3 : upd H s.heap.objs.size (.lst []) = H3 at I3 hf3
  have eh : s.heap.push { cls := .type "list", data := .seq ([] : List Value).toArray } = s3.heap := by rw [← hs3]
  rw [eh] at hns₁ hsb₁ hfs3
  have kp : ∀ b o, s3.heap.get? b = some o → h₁.get? b = some o := fun b o e => hsb₁.extBut b o (Nat.ne_of_lt (Heap.lt_size e)) (Heap.get?_push_of_some _ e)
  have I4 : Inv (compCx X N' cs cl s3 H3 fp) [] (none :: slotsAt σ ix) H3 { s3 with heap := h₁, toks := s3.toks + ([] : List (Str × Value)).length } :=
    I3.compStart S h2 h3 hf3 hfs3 hns₁ kp
  have kp2 : ∀ b o, s.heap.get? b = some o → h₁.get? b = some o := fun b o e => kp b o (by rw [← eh]; exact Heap.get?_push_of_some _ e)
  have st4 : tn 0 h₁ := T.keep _ _ _ st fun b hb o e => kp2 b o e
  obtain ⟨W, ⟨m0, w0⟩, turn⟩ := go s.heap.objs.size nacc
  rw [hH3] at w0
  have stat : ∀ {H' : Hp}, (∀ b ∈ fp, H' b = none) → ∀ b ∈ fp, FpOk (compCx X N' cs cl s3 H3 fp) [] H' b := fun hn b hb =>
    ⟨hn b hb, Nat.ne_of_lt (hfs3 b hb), fun hs => by
      rcases List.mem_cons.mp (I.stkSub b hs) with z | z
      · exact (hf b hb).2.1 z
      · exact (hf b hb).2.2.1 z, .inl hb, fun y c e => (hf b hb).2.2.2.2.1 y c (h2 y c e), fun p hp => absurd (show p ∈ ([] : List (Addr × Obj)) from hp) (by simp)⟩
  have es : s3.heap.objs.size = s.heap.objs.size + 1 := by rw [← eh, Heap.size_push]
  have loop : codeAny (model X.prog X.w) X.A (.compLoop (.ListComp elt [⟨tg, iter, ifs, 0⟩] cs pos) 0 (.ref it) (.ref s.heap.objs.size) (compCx X N' cs cl s3 H3 fp).env)
      (RR (.ref s.heap.objs.size) s3.heap.objs.size) { s3 with heap := h₁, toks := s3.toks + ([] : List (Str × Value)).length } := by
    refine compLoop_any (fun n s' => ∃ i v0 H' xs, Inv (compCx X N' cs cl s3 H3 fp) [] (v0 :: slotsAt σ ix) H' s' ∧ tn i s'.heap ∧ (∀ b ∈ fp, H' b = none) ∧ W i n xs H') ?_ m0
      ⟨0, none, H3, [], I4, st4, fun b hb => (hf3 b hb).1, w0⟩
    rintro n s5 ⟨i, v0, H5, xs, I5, st5, fr5, w5⟩
    rcases turn i n xs H5 w5 with ⟨stop, q⟩ | ⟨hgo, Nx, Nn, hNx, hNn, step⟩
    · refine thn (T.done (compCx X N' cs cl s3 H3 fp) rfl rfl rfl hc i [] s5 _ H5 _ I5 (stat fr5) st5 stop) fun r' s6 ⟨hr, I6⟩ => ?_
      subst hr
      have u : Un (frs X.stack) fp H H5 s.heap s6.heap := by
        refine Un.trans (H1 := H3) (h1 := s3.heap) ?_ I6.base
        rw [← hH3, ← eh]
        exact Un.laid (fun _ _ q => Heap.get?_push_of_some _ q) (Nat.le_refl _) nacc
      have e3 : s3.os = s.os := by rw [← hs3]
      have os6 : s6.os = s.os := I6.os.trans e3
      have J6 : Inv X pins σ H5 s6 := I.call' os6 u I6.hok I6.bare fun b hb => ⟨(hf b hb).2.2.2.1, (hf b hb).2.1, (hf b hb).2.2.2.2.1, (hf b hb).2.2.2.2.2⟩
      obtain ⟨m6, n6, _⟩ := I6.loc
      exact fin _ _ s6 H5 m6 J6 (I.fpOk (by rw [es]; exact Nat.le_succ _) I6.free) n6 q
    · refine thn (T.item (compCx X N' cs cl s3 H3 fp) rfl rfl rfl hc i [] s5 _ H5 _ I5 (stat fr5) st5 hgo) fun r' s6 ⟨u, hr, h6⟩ => ?_
      subst hr
      refine thn h6 fun _ s7 ⟨y, H7, I7, r7, y7, st7, fr7⟩ => ?_
      have I7' := I7.pinned (stat fr7) (T.obj _ _ st7)
      refine wpAny_mono (hg s3 H3 _ s7 _ H7 y u _ I7' r7 (step v0 y H7 y7)) (fun _ s8 ⟨σ8, H8, I8, ⟨v8, e8⟩, q8⟩ => ?_) fun _ _ z => z.elim
      subst e8
      have back : ∀ {s9 : Shared} {H9 : Hp} {m' : Nat} {xs' : List V}, Inv (compCx X N' cs cl s3 H3 fp) ([] ++ pinsAt fp s7.heap) (v8 :: slotsAt σ ix) H9 s9 → m' < n → W (i + 1) m' xs' H9 →
          ∃ m, m < n ∧ ∃ i v0 H' xs, Inv (compCx X N' cs cl s3 H3 fp) [] (v0 :: slotsAt σ ix) H' s9 ∧ tn i s9.heap ∧ (∀ b ∈ fp, H' b = none) ∧ W i m xs H' := fun {s9 H9 m' xs'} I9 hm w9 =>
        ⟨m', hm, i + 1, v8, H9, xs', I9.unpinned, T.keep _ _ _ st7 fun b hb o e => (I9.pin (b, o) (List.mem_append_right _ (List.mem_append_right _ (mem_pinsAt hb e)))).1, fun b hb => by
          obtain ⟨o, e, d⟩ := T.obj _ _ st7 b hb
          exact (I9.pin (b, o) (List.mem_append_right _ (List.mem_append_right _ (mem_pinsAt hb e)))).2.1, w9⟩
      refine thn (ht s3 H3 _ _ s8 _ H8 _ (fun _ _ z => z.elim) I8 q8) fun b s9 ⟨H9, I9, q9⟩ => ?_
      cases b with
      | false =>
        rw [if_neg Bool.false_ne_true] at q9 ⊢
        obtain ⟨m', hm, w9⟩ := hNn H9 q9
        exact back I9 hm w9
      | true =>
        rw [if_pos rfl] at q9 ⊢
        refine wpAny_mono (he s3 H3 _ s9 _ H9 _ (I9.wish _) q9) (fun u2 s10 ⟨y2, H10, I10', r10, q10⟩ => ?_) fun e s' z => ?_
        rotate_left
        · obtain ⟨p6, σ6, H6, s6, I6, hX⟩ := z
          have u : Un (frs X.stack) fp H H6 s.heap s6.heap := by
            refine Un.trans (H1 := H3) (h1 := s3.heap) ?_ I6.base
            rw [← hH3, ← eh]
            exact Un.laid (fun _ _ q => Heap.get?_push_of_some _ q) (Nat.le_refl _) nacc
          have e3 : s3.os = s.os := by rw [← hs3]
          have J6 : Inv X pins σ H6 s6 := I.call' (I6.os.trans e3) u I6.hok I6.bare fun b hb => ⟨(hf b hb).2.2.2.1, (hf b hb).2.1, (hf b hb).2.2.2.2.1, (hf b hb).2.2.2.2.2⟩
          obtain ⟨m6, n6, _⟩ := I6.loc
          have fC := I.fpOk (b := s3.heap.objs.size) (by rw [es]; exact Nat.le_succ _) I6.free
          refine err _ _ H6 s6 m6 e s' J6 n6 I6.free (fun hs => ?_) ?_ hX
          · rcases List.mem_cons.mp (I.stkSub _ hs) with z | z
            · exact fC.2.1 z
            · exact fC.2.2.1 z
          · cases w : X.s₀.heap.get? s3.heap.objs.size with
            | none => rfl
            | some o => exact absurd (Heap.lt_size w) (Nat.not_lt_of_le (Nat.le_trans I.sz (by rw [es]; exact Nat.le_succ _)))
        have I10 := I10'.unwish
        obtain ⟨a10, z10, m', hm, w10⟩ := hNx y2 H10 q10
        refine wpAny_mono (mt_append (X := compCx X N' cs cl s3 H3 fp) _ s10 _ H10 (.ref s.heap.objs.size) [y2] (.ref s.heap.objs.size) [u2] (fun _ H' => H' = upd H10 s.heap.objs.size (.lst (xs ++ [y2]))) I10 rfl (.cons r10 .nil) ⟨_, xs, y2, rfl, rfl, a10, z10, rfl⟩) (fun _ s11 ⟨_, H11, I11, _, e11⟩ => ?_) fun _ _ z => z.elim
        subst e11
        exact back I11 hm w10
  subst hs3
  exact codeAny_compStart_list loop (T.self X.A 0 _ _ _ st4 loop)
variable {N' r : List Str} {ix : List Nat} {x : Str} {cs : Scope} {tg iter elt : Expr} {ifs : List Expr} {pos : Pos} {wi : TI} {g : TG} {tt : TT} {te : TE}
/-- [elt for tg in iter if ..], whose element may raise -/
theorem pe_compX {EE : XK} {E1 : Value → Shared → Prop} (T : Top1 X) (hxe : ∀ e s3, wpAny (model X.prog X.w) X.A (leaving X.env e) (fun _ s4 => XOk X.prog X.w X.outer X.H₀ X.s₀ EE e s4) E1 s3 → X.xe e s3)
    (hc : X.calm = true) (S : CompScope X.N X.env.scope N' ix x r cs) (hi : PI X tg iter wi)
    (hg : ∀ cl s3 H3 fp, PG (compCx X N' cs cl s3 H3 fp) tg g) (ht : ∀ cl s3 H3 fp, PTs (compCx X N' cs cl s3 H3 fp) ifs tt) (he : ∀ cl s3 H3 fp, PE ((compCx X N' cs cl s3 H3 fp).wish (CompE X N' cs cl s3 H3 fp EE)) elt te)
    (hs : ∀ x, foldedSetIterable iter X.env x = pure x := by intro _; rfl) : PE X (.ListComp elt [⟨tg, iter, ifs, 0⟩] cs pos) (tComp wi ix g tt te) := by
  intro pins s σ H Q I h
  obtain ⟨cl, c1, c2, c3⟩ := S.clos rfl I.ok.has
  rw [eval_ListComp]
  refine wpAny_comprehension_free (use := none) rfl hs c1 S.kind S.hnames (thn (hi pins s σ H _ I h) fun v s1 h1 => thn h1 fun itv s2 h2 => ?_)
  obtain ⟨it, fp, tn, J, H2, e, I2, Tn, st2, f2, R⟩ := h2
  subst e
  refine comp_coreE (EE := EE) (RR := fun acc C => compPost (model X.prog X.w) X.A X.xe none (EP X pins σ Q) acc C) I2 hc S c2 c3 Tn st2 f2 (fun s3 H3 => hg cl s3 H3 fp) (fun s3 H3 => ht cl s3 H3 fp) (fun s3 H3 => he cl s3 H3 fp) R ?_ ?_
  · intro acc C H9 s9 m e s' J9 n9 h9 f9 a9 hX
    refine wpAny_mono (pass_comp (E1 := E1) (E2 := fun e s' => compPost (model X.prog X.w) X.A X.xe none (EP X pins σ Q) acc C (.error e) s') T J9 hX n9 h9 f9 a9) (fun _ s2 z => ?_) fun _ _ z => z
    obtain ⟨m2, n2, z⟩ := z
    exact ⟨m2, n2, fun h' sb c hc' => wpAny_mono (z h' sb c hc') (fun _ _ f => f) fun e s3 w => hxe e s3 w⟩
  · intro acc C s' H' m I' fC hn q
    refine ⟨m, hn, fun h' hb => ⟨.ref acc, H', ?_, rfl, q⟩⟩
    exact I'.turned (t' := s'.toks) (fun b o hne e => (hb.2 b hne).trans e) fC.1 fC.2.1 fC.2.2.2.1 fC.2.2.2.2.1 fC.2.2.2.2.2
end
end L2

set_option maxHeartbeats 2000000
namespace My
/-! ### mathematics -/
def G (d : Int) (ns : List Int) : Int := ns.foldl (fun d n => ((Int.gcd d n : Nat) : Int)) d
abbrev gl (ns : List Int) : Int := G 0 ns
theorem G_cons (d n : Int) (r : List Int) : G d (n :: r) = G (Int.gcd d n : Nat) r := rfl
theorem G_snoc (d : Int) (l : List Int) (n : Int) : G d (l ++ [n]) = (Int.gcd (G d l) n : Nat) := by
  unfold G
  rw [List.foldl_append]
  rfl
theorem G_nonneg : ∀ (ns : List Int) (d : Int), 0 ≤ d → 0 ≤ G d ns
  | [], _, h => h
  | n :: r, d, _ => by rw [G_cons]; exact G_nonneg r _ (by omega)
theorem gl_nonneg (ns : List Int) : 0 ≤ gl ns := G_nonneg ns 0 (by omega)
theorem G_dvd : ∀ (ns : List Int) (d : Int), G d ns ∣ d ∧ ∀ n ∈ ns, G d ns ∣ n
  | [], d => ⟨Int.dvd_refl d, fun n h => nomatch h⟩
  | m :: r, d => by
    obtain ⟨h1, h2⟩ := G_dvd r (Int.gcd d m : Nat)
    rw [G_cons]
    refine ⟨Int.dvd_trans h1 (Int.gcd_dvd_left ..), fun n hn => ?_⟩
    rcases List.mem_cons.mp hn with rfl | hn
    · exact Int.dvd_trans h1 (Int.gcd_dvd_right ..)
    · exact h2 n hn
theorem gl_dvd {ns : List Int} {n : Int} (h : n ∈ ns) : gl ns ∣ n := (G_dvd ns 0).2 n h
theorem dvd_G : ∀ (ns : List Int) (d k : Int), k ∣ d → (∀ n ∈ ns, k ∣ n) → k ∣ G d ns
  | [], _, _, h, _ => h
  | m :: r, d, k, h, hn => by
    rw [G_cons]
    refine dvd_G r _ k ?_ fun n h' => hn n (List.mem_cons_of_mem _ h')
    have h2 := hn m List.mem_cons_self
    exact Int.dvd_coe_gcd h h2
theorem dvd_gl {ns : List Int} {k : Int} (h : ∀ n ∈ ns, k ∣ n) : k ∣ gl ns := dvd_G ns 0 k (Int.dvd_zero k) h
theorem dvd_one {k : Int} (h0 : 0 ≤ k) (h : k ∣ 1) : k = 1 := by
  exact Int.eq_one_of_dvd_one h0 h
theorem gl_div {ns : List Int} (hg : gl ns ≠ 0) : gl (ns.map (· / gl ns)) = 1 := by
  have h0 := gl_nonneg ns
  refine dvd_one (gl_nonneg _) ?_
  have h1 : ∀ n ∈ ns, gl (ns.map (· / gl ns)) * gl ns ∣ n := fun n hn => by
    obtain ⟨c, hc⟩ := gl_dvd (ns := ns.map (· / gl ns)) (List.mem_map.mpr ⟨n, hn, rfl⟩)
    refine ⟨c, ?_⟩
    have e : n = n / gl ns * gl ns := (Int.ediv_mul_cancel (gl_dvd hn)).symm
    rw [e, hc, Int.mul_assoc, Int.mul_comm c, ← Int.mul_assoc]
  obtain ⟨c, hc⟩ := dvd_gl h1
  refine ⟨c, ?_⟩
  have h2 : gl ns * 1 = gl ns * (gl (ns.map (· / gl ns)) * c) := by
    rw [Int.mul_one, ← Int.mul_assoc, Int.mul_comm (gl ns) (gl (ns.map (· / gl ns)))]
    exact hc
  exact Int.eq_of_mul_eq_mul_left hg h2
theorem G_one : ∀ ns : List Int, G 1 ns = 1
  | [] => rfl
  | n :: r => by
    rw [G_cons]
    have : Int.gcd 1 n = 1 := by simp
    rw [this]
    exact G_one r
theorem G_append (d : Int) (a b : List Int) : G d (a ++ b) = G (G d a) b := by
  unfold G
  exact List.foldl_append
theorem gl_one_of_take {ns : List Int} {i : Nat} (h : gl (ns.take i) = 1) : gl ns = 1 := by
  have e : ns = ns.take i ++ ns.drop i := (List.take_append_drop i ns).symm
  rw [e]
  show G 0 _ = 1
  rw [G_append]
  have h' : G 0 (ns.take i) = 1 := h
  rw [h']
  exact G_one _
theorem gl_take_succ {ns : List Int} {i : Nat} {n : Int} (h : ns[i]? = some n) : gl (ns.take (i + 1)) = (Int.gcd (gl (ns.take i)) n : Nat) := by
  rw [List.take_add_one, h]
  exact G_snoc 0 _ n
theorem map_div_one (ns : List Int) : ns.map (· / 1) = ns := by
  induction ns with
  | nil => rfl
  | cons a r ih => rw [List.map_cons, ih, Int.ediv_one]
theorem gcd_step (a b : Int) (ha : 0 ≤ a) : Int.gcd b (a % b) = Int.gcd a b := by
  have h1 : (a % b).natAbs = a.natAbs % b.natAbs := Int.natAbs_emod_of_nonneg ha b
  rw [Int.gcd_eq_natAbs_gcd_natAbs, Int.gcd_eq_natAbs_gcd_natAbs, h1]
  rw [Nat.gcd_comm, Nat.gcd_comm a.natAbs, ← Nat.gcd_rec]
theorem gcd_abs (a b : Int) : Int.gcd (if a < 0 then -a else a) (if b < 0 then -b else b) = Int.gcd a b := by
  split <;> split <;> simp [Int.gcd_neg, Int.neg_gcd]
theorem gcd_maxmin (a b : Int) : Int.gcd (if b > a then b else a) (if b < a then b else a) = Int.gcd a b := by
  split <;> split
  · omega
  · exact Int.gcd_comm b a
  · rfl
  · have : a = b := by omega
    rw [this]
/-- the parts of a list by its greatest divisor -/
theorem parts {ns : List Int} {a b : Int} (ha : a ∈ ns) (hb : b ∈ ns) : (a / gl ns) * b = a * (b / gl ns) := by
  have e1 : a = a / gl ns * gl ns := (Int.ediv_mul_cancel (gl_dvd ha)).symm
  have e2 : b = b / gl ns * gl ns := (Int.ediv_mul_cancel (gl_dvd hb)).symm
  conv => lhs; rhs; rw [e2]
  conv => rhs; lhs; rw [e1]
  rw [Int.mul_assoc, Int.mul_comm (gl ns)]
theorem gl_pos {ns : List Int} {n : Int} (h : n ∈ ns) (hn : n ≠ 0) : 0 < gl ns := by
  have h0 := gl_nonneg ns
  rcases Int.lt_or_eq_of_le h0 with h1 | h1
  · exact h1
  · obtain ⟨c, hc⟩ := gl_dvd h
    rw [← h1, Int.zero_mul] at hc
    exact absurd hc hn
end My
namespace My
end My
local macro_rules | `(tactic| walk_at "rd") => `(tactic| simp only [L2.start, L2.tSeq, L2.tNext, L2.tAsg, L2.gName, L2.tVar, L2.tC, L2.tOp, L2.tUn, L2.tTest, L2.tB, L2.tIfS, L2.tRet, L2.tRetN, L2.tDrop, L2.tBreak, L2.tCont, L2.tAnd, L2.tOr, L2.tNot, L2.tAndV, L2.tOrV, L2.tNotV, L2.tCall, L2.tCB, L2.tCons, L2.tNil, L2.tTup, L2.tLst, L2.tPar, L2.tBM0, L2.tBM, L2.tyV, L2.tCut, L2.gk, and_self, L2.tSl, L2.tNoPart, L2.tPart, L2.gTup, L2.gCons, L2.gNil, L2.cxOf, and_assoc, 
  L2.rI, L2.rI0, L2.rU, L2.rEq, L2.rNe, L2.scal, List.map_cons, List.map_nil, List.length_cons, List.length_nil, List.replicate_succ, List.replicate_zero, List.cons_append, List.nil_append, List.append_nil, Nat.reduceSub, Nat.reduceAdd, Nat.sub_self,
  List.set_cons_zero, List.set_cons_succ, List.getElem?_cons_zero, List.getElem?_cons_succ, Option.some.injEq, exists_eq_left', exists_eq_left, L2.V.int.injEq, L2.V.bl.injEq, L2.V.ref.injEq, L2.V.ty.injEq, List.cons.injEq, exists_and_left, and_true, true_and, reduceCtorEq, false_and, and_false, exists_false, or_false, false_or,
  L2.slotsAt, Option.getD_some, Bool.true_eq_false, decide_eq_true_eq, Bool.not_eq_true', decide_eq_false_iff_not, decide_not, Bool.false_eq_true, if_true, if_false, ite_not])
local macro_rules | `(tactic| walk_at "go") => `(tactic| repeat (first | refine L2.ixT (by assumption) rfl ?_ | refine L2.ixL (by assumption) rfl ?_ | refine And.intro (by assumption) ?_ | walk_at "rd"))
local macro_rules | `(tactic| walk_at "rf") => `(tactic| simp only [L2.start, L2.tSeq, L2.tNext, L2.tAsg, L2.gName, L2.tVar, L2.tC, L2.tOp, L2.tUn, L2.tTest, L2.tB, L2.tIfS, L2.tRet, L2.tRetN, L2.tDrop, L2.tBreak, L2.tCont, L2.tAnd, L2.tOr, L2.tNot, L2.tAndV, L2.tOrV, L2.tNotV, L2.tCall, L2.tCB, L2.tCons, L2.tNil, L2.tTup, L2.tLst, L2.tPar, L2.tBM0, L2.tBM, L2.tyV, L2.tCut, L2.gk, and_self, L2.tSl, L2.tNoPart, L2.tPart, L2.gTup, L2.gCons, L2.gNil, L2.cxOf, and_assoc, 
  L2.rI, L2.rI0, L2.rU, L2.rEq, L2.rNe, L2.scal, List.map_cons, List.map_nil, List.length_cons, List.length_nil, List.replicate_succ, List.replicate_zero, List.cons_append, List.nil_append, List.append_nil, Nat.reduceSub, Nat.reduceAdd, Nat.sub_self,
  List.set_cons_zero, List.set_cons_succ, List.getElem?_cons_zero, List.getElem?_cons_succ, Option.some.injEq, exists_eq_left', exists_eq_left, L2.V.int.injEq, L2.V.bl.injEq, L2.V.ref.injEq, L2.V.ty.injEq, List.cons.injEq, exists_and_left, and_true, true_and, reduceCtorEq, false_and, and_false, exists_false, or_false, false_or,
  L2.slotsAt, Option.getD_some, Bool.true_eq_false, decide_eq_true_eq, Bool.not_eq_true', decide_eq_false_iff_not, decide_not, Bool.false_eq_true, if_true, if_false, ite_not, L2.tFor_R1, L2.tFor_R2, L2.tFor_L, L2.tFor_T, L2.tComp_R1, L2.tComp_R2, L2.tComp_L, L2.tComp_T, L2.tFor_S, L2.tComp_S, L2.tChain, L2.V.str.injEq, L2.tCompM_L, L2.tListRev, L2.tComp_R3, L2.tFor_E])
local macro_rules | `(tactic| walk_at "sd") => `(tactic| first | assumption | exact L2.Fit.o (by omega) (by omega) | (show L2.CPow _ _; exact ⟨by decide, by decide, by decide⟩) | decide)
local macro_rules | `(tactic| walk_at "gf") => `(tactic| repeat (first | ((with_reducible apply L2.ixT); assumption; rfl) | ((with_reducible apply L2.ixL); assumption; rfl) | ((with_reducible apply L2.FoR.lst); assumption) | ((with_reducible apply L2.FoR.tup); assumption) | ((with_reducible apply L2.FoR.len); assumption) | ((with_reducible apply L2.FoR.lenT); assumption) | ((with_reducible apply And.intro); (walk_at "sd")) | walk_at "rf"))

namespace My
open PySem L2 PyProof.Rows
def top (i : Nat) : Stmt := PySem.Challenge.pw_boardsight_k85_no_spots.main.body.getD i (.Pass ⟨0, 0, 0, 0⟩)
abbrev s_greatest_divisor : Stmt := top 16
abbrev s_in_lowest_terms : Stmt := top 17
abbrev s_read_whole : Stmt := top 21
abbrev s_read_three_wholes : Stmt := top 22
abbrev s_with_bottom : Stmt := top 23
abbrev s_read_spot : Stmt := top 24
abbrev s__law_next : Stmt := top 26
abbrev s__law_left : Stmt := top 27
abbrev s__law_divisor : Stmt := top 28
abbrev s__law_lowest : Stmt := top 29
abbrev s__law_words : Stmt := top 32
abbrev s__law_joined : Stmt := top 33
abbrev s__law_bad_word : Stmt := top 34
abbrev s__law_spoilt : Stmt := top 35
abbrev s__law_refused : Stmt := top 36
abbrev s_law : Stmt := top 37
def Small (i : Int) : Prop := i.natAbs < 2 ^ 1990
theorem Small.neg {i : Int} (h : Small i) : Small (-i) := by unfold Small at *; rw [Int.natAbs_neg]; exact h
theorem Small.ite {c : Prop} [Decidable c] {i j : Int} (h : Small i) (h' : Small j) : Small (if c then i else j) := by split <;> assumption
theorem Small.bd {i : Int} (h : Small i) : Bd 1990 i := h
theorem Small.of {i : Int} (h1 : -1606938044258990275541962092341162602522202993782792835301376 < i) (h2 : i < 1606938044258990275541962092341162602522202993782792835301376) : Small i := (Bd.of h1 h2).mono
theorem Small.div {i g : Int} (h : Small i) : Small (i / g) := Nat.lt_of_le_of_lt (Int.natAbs_ediv_le_natAbs i g) h
theorem small_gl {ns : List Int} (h : ∀ n ∈ ns, Small n) : Small (gl ns) := by
  by_cases c : ∃ n ∈ ns, n ≠ 0
  · obtain ⟨n, hn, h0⟩ := c
    have z := Int.natAbs_dvd_natAbs.mpr (gl_dvd hn)
    exact Nat.lt_of_le_of_lt (Nat.le_of_dvd (by omega) z) (h n hn)
  · have z : (0 : Int) ∣ gl ns := dvd_gl fun n hn => by
      have : n = 0 := Classical.byContradiction fun q => c ⟨n, hn, q⟩
      rw [this]; exact Int.dvd_refl 0
    rw [Int.zero_dvd.mp z]
    exact Nat.two_pow_pos _
theorem Same.keep {H H' : Hp} {p : Addr} {o : HO} (h : Same H H') (n : H p = none) : Same H (upd H' p o) := fun b u q => by rw [upd_ne (ne_of_none q n)]; exact h b u q
theorem int_of {ns : List Int} {i : Nat} {v : V} (h : (ns.map V.int)[i]? = some v) : ∃ z, v = V.int z ∧ ns[i]? = some z := by
  rw [List.getElem?_map] at h
  cases e : ns[i]? with
  | none => rw [e] at h; cases h
  | some z => rw [e] at h; exact ⟨z, (Option.some.inj h).symm, rfl⟩
def spGd : Sp := fun vs H Q _ => ∃ a b : Int, vs = [.int a, .int b] ∧ Small a ∧ Small b ∧ Q (.int (Int.gcd a b : Nat)) H
def spLow : Sp := fun vs H Q _ => ∃ (a : Addr) (ns : List Int), vs = [.ref a] ∧ H a = some (.tup (ns.map V.int)) ∧ ns.length ≤ 10 ∧ (∀ n ∈ ns, Small n) ∧ gl ns ≠ 0 ∧
  ∀ (r : Addr) (H' : Hp), Same H H' → H' r = some (.tup ((ns.map (· / gl ns)).map V.int)) → Q (.ref r) H'
def spLaw (K : PySem.W.Frag) : Sp := fun vs H Q _ => ∃ (a : Addr) (ns : List Int), vs = [.ref a] ∧ SqL K H a (ns.map V.int) ∧ ns.length ≤ 63 ∧ ∀ H', Q (.bl true) H'
/-! ### what the top has written -/
structure Tx (K : PySem.W.Frag) (mg : Str → Option Value) (t1 t2 : Tok) : Prop where
  m_abs : mg "abs" = none
  m_max : mg "max" = none
  m_min : mg "min" = none
  m_len : mg "len" = none
  m_all : mg "all" = none
  m_range : mg "range" = none
  m_tuple : mg "tuple" = none
  m_int : mg "int" = none
  m_bool : mg "bool" = none
  m_isinstance : mg "isinstance" = none
  m_str : mg "str" = none
  m_SHORT_BITS : mg "SHORT_BITS" = some (.int 2000 t1)
  e_MOST_FIGURES : ∃ v, mg "MOST_FIGURES" = some v ∧ RelV (.int 30) v
  e_FIGURES : ∃ v, mg "FIGURES" = some v ∧ RelV (.str "0123456789") v
theorem Tx.m_MOST_FIGURES {K : PySem.W.Frag} {mg : Str → Option Value} {t1 t2 : Tok} (T : Tx K mg t1 t2) : mg "MOST_FIGURES" = some T.e_MOST_FIGURES.choose := T.e_MOST_FIGURES.choose_spec.1
theorem Tx.r_MOST_FIGURES {K : PySem.W.Frag} {mg : Str → Option Value} {t1 t2 : Tok} (T : Tx K mg t1 t2) : RelV (.int 30) T.e_MOST_FIGURES.choose := T.e_MOST_FIGURES.choose_spec.2
theorem Tx.m_FIGURES {K : PySem.W.Frag} {mg : Str → Option Value} {t1 t2 : Tok} (T : Tx K mg t1 t2) : mg "FIGURES" = some T.e_FIGURES.choose := T.e_FIGURES.choose_spec.1
theorem Tx.r_FIGURES {K : PySem.W.Frag} {mg : Str → Option Value} {t1 t2 : Tok} (T : Tx K mg t1 t2) : RelV (.str "0123456789") T.e_FIGURES.choose := T.e_FIGURES.choose_spec.2
theorem Tx.r_SHORT_BITS {K : PySem.W.Frag} {mg : Str → Option Value} {t1 t2 : Tok} (_ : Tx K mg t1 t2) : RelV (.int 2000) (.int 2000 t1) := ⟨_, rfl⟩
structure Pt where
  x : Int
  y : Int
  z : Int
  w : Int
def wo (k : Int) (p : Pt) : List Int := if k = 0 then [p.y, p.z, p.w] else if k = 1 then [p.x, p.z, p.w] else if k = 2 then [p.x, p.y, p.w] else [p.x, p.y, p.z]
def det3 (a b c x y z u v w : Int) : Int := (b * z - c * y) * u + (c * x - a * z) * v + (a * y - b * x) * w
def detL : List Int → List Int → List Int → Int
  | [a, b, c], [x, y, z], [u, v, w] => det3 a b c x y z u v w
  | _, _, _ => 0
def minor (k : Int) (p q r : Pt) : Int := detL (wo k p) (wo k q) (wo k r)
def inl (p q r : Pt) : Bool := decide (minor 0 p q r = 0 ∧ minor 1 p q r = 0 ∧ minor 2 p q r = 0)
def p0 : Pt := ⟨0, 0, 0, 0⟩
section
variable {P : Program} {w : World} {K : PySem.W.Frag} {mg : Str → Option Value} {base : Heap} {t1 t2 : Tok}
theorem sc_greatest_divisor : FnScope ["one", "other", "great", "small", "steps", "rest"] ["one", "other"] (defScope s_greatest_divisor) := ⟨rfl, rfl, rfl, by decide +kernel, rfl, by decide +kernel, by decide +kernel⟩
theorem sc_in_lowest_terms : FnScope ["numbers", "divisor", "number"] ["numbers"] (defScope s_in_lowest_terms) := ⟨rfl, rfl, rfl, by decide +kernel, rfl, by decide +kernel, by decide +kernel⟩
theorem sc_read_whole : FnScope ["text", "figures"] ["text"] (defScope s_read_whole) := ⟨rfl, rfl, rfl, by decide +kernel, rfl, by decide +kernel, by decide +kernel⟩
theorem sc_read_three_wholes : FnScope ["text", "numbers"] ["text"] (defScope s_read_three_wholes) := ⟨rfl, rfl, rfl, by decide +kernel, rfl, by decide +kernel, by decide +kernel⟩
theorem sc_with_bottom : FnScope ["numbers", "slash", "text", "told"] ["numbers", "slash", "text"] (defScope s_with_bottom) := ⟨rfl, rfl, rfl, by decide +kernel, rfl, by decide +kernel, by decide +kernel⟩
theorem sc_read_spot : FnScope ["text", "parts"] ["text"] (defScope s_read_spot) := ⟨rfl, rfl, rfl, by decide +kernel, rfl, by decide +kernel, by decide +kernel⟩
theorem sc__law_next : FnScope ["left", "base", "digit"] ["left", "base"] (defScope s__law_next) := ⟨rfl, rfl, rfl, by decide +kernel, rfl, by decide +kernel, by decide +kernel⟩
theorem sc__law_left : FnScope ["cell", "near", "far", "k"] ["cell"] (defScope s__law_left) := ⟨rfl, rfl, rfl, by decide +kernel, rfl, by decide +kernel, by decide +kernel⟩
theorem sc__law_divisor : FnScope ["numbers", "found", "number", "other"] ["numbers"] (defScope s__law_divisor) := ⟨rfl, rfl, rfl, by decide +kernel, rfl, by decide +kernel, by decide +kernel⟩
theorem sc__law_lowest : FnScope ["numbers", "by"] ["numbers"] (defScope s__law_lowest) := ⟨rfl, rfl, rfl, by decide +kernel, rfl, by decide +kernel, by decide +kernel⟩
theorem sc__law_words : FnScope ["spot"] ["spot"] (defScope s__law_words) := ⟨rfl, rfl, rfl, by decide +kernel, rfl, by decide +kernel, by decide +kernel⟩
theorem sc__law_joined : FnScope ["words"] ["words"] (defScope s__law_joined) := ⟨rfl, rfl, rfl, by decide +kernel, rfl, by decide +kernel, by decide +kernel⟩
theorem sc__law_bad_word : FnScope ["left", "number", "figures", "some"] ["left", "number"] (defScope s__law_bad_word) := ⟨rfl, rfl, rfl, by decide +kernel, rfl, by decide +kernel, by decide +kernel⟩
theorem sc__law_spoilt : FnScope ["left", "spot", "words", "whole", "at", "bad", "twice", "text", "some"] ["left", "spot"] (defScope s__law_spoilt) := ⟨rfl, rfl, rfl, by decide +kernel, rfl, by decide +kernel, by decide +kernel⟩
theorem sc__law_refused : FnScope ["text", "error", "e"] ["text"] (defScope s__law_refused) := ⟨rfl, rfl, rfl, by decide +kernel, rfl, by decide +kernel, by decide +kernel⟩
theorem sc_law : FnScope ["script", "cell", "left", "span", "numbers", "spot", "text"] ["script"] (defScope s_law) := ⟨rfl, rfl, rfl, by decide +kernel, rfl, by decide +kernel, by decide +kernel⟩
theorem ok_gd (T : Tx K mg t1 t2) (F : At K mg "greatest_divisor" s_greatest_divisor ["one", "other"] []) : DefOk P w K mg base CX0 1 "greatest_divisor" ["one", "other"] [] spGd := by
  refine F.ok sc_greatest_divisor (fun vs H Q E h => ?_) (fun f cdv A outer s H vs Q E hr h => ?_)
  · obtain ⟨a, b, rfl, _⟩ := h
    rfl
  obtain ⟨a, b, rfl, ha, hb, q⟩ := h
  have S := sc_greatest_divisor
  refine ⟨_, (pss_cons (ps_set (i := 2) S.nd rfl (Or.inl rfl) (pe_callB (call_max2 rfl) rfl T.m_max boot_max (pa_cons (pe_callB call_abs rfl T.m_abs boot_abs (pa_cons (pv 0) pa_nil se_nam)) (pa_cons (pe_callB call_abs rfl T.m_abs boot_abs (pa_cons (pv 1) pa_nil se_nam)) pa_nil se_cal) se_cal)))
    (pss_cons (ps_set (i := 3) S.nd rfl (Or.inl rfl) (pe_callB (call_min2 rfl) rfl T.m_min boot_min (pa_cons (pe_callB call_abs rfl T.m_abs boot_abs (pa_cons (pv 0) pa_nil se_nam)) (pa_cons (pe_callB call_abs rfl T.m_abs boot_abs (pa_cons (pv 1) pa_nil se_nam)) pa_nil se_cal) se_cal)))
    (pss_cons (ps_while PassesOwn.never (pt_cmpR op_gt (pe_bm0 PySem.F.plainAttrs_int PySem.F.slot_int_bit_length PySem.F.type_int_bit_length mt_bits (pv 3)) (pe_glob rfl T.m_SHORT_BITS T.r_SHORT_BITS) (nomark _)) pss_never)
    (pss_cons (ps_while PassesOwn.never (pt_cmpR op_ne (pv 3) pe_int (nomark _))
    (pss_cons (ps_set (i := 5) S.nd rfl (Or.inl rfl) (pe_op op_mod (pv 2) (pv 3)))
    (pss_cons (ps_set (i := 2) S.nd rfl (Or.inl rfl) (pv 3))
    (pss_one (ps_set (i := 3) S.nd rfl (Or.inl rfl) (pv 5))))))
    (pss_one (ps_ret (pv 2))))))), ?_⟩
  walk_at "rd"
  have hg : Int.gcd (if (if b < 0 then -b else b) > (if a < 0 then -a else a) then (if b < 0 then -b else b) else (if a < 0 then -a else a)) (if (if b < 0 then -b else b) < (if a < 0 then -a else a) then (if b < 0 then -b else b) else (if a < 0 then -a else a)) = Int.gcd a b := (gcd_maxmin _ _).trans (gcd_abs a b)
  have hM : 0 ≤ (if (if b < 0 then -b else b) > (if a < 0 then -a else a) then (if b < 0 then -b else b) else (if a < 0 then -a else a)) := by split <;> split <;> omega
  have hm : 0 ≤ (if (if b < 0 then -b else b) < (if a < 0 then -a else a) then (if b < 0 then -b else b) else (if a < 0 then -a else a)) := by split <;> split <;> omega
  have hs : Small (if (if b < 0 then -b else b) < (if a < 0 then -a else a) then (if b < 0 then -b else b) else (if a < 0 then -a else a)) := by
    exact Small.ite (Small.ite hb.neg hb) (Small.ite ha.neg ha)
  generalize (if (if b < 0 then -b else b) > (if a < 0 then -a else a) then (if b < 0 then -b else b) else (if a < 0 then -a else a)) = M at hg hM ⊢
  generalize (if (if b < 0 then -b else b) < (if a < 0 then -a else a) then (if b < 0 then -b else b) else (if a < 0 then -a else a)) = m at hg hm hs ⊢
  have hz : Builtin.Int.intBits m ≤ 1990 := L2.intBits_le hs
  refine ⟨fun _ σ H1 => σ = [some (.int a), some (.int b), some (.int M), some (.int m), none, none] ∧ H1 = H, ⟨0, rfl, rfl⟩, ?_⟩
  rintro _ σ H1 ⟨rfl, rfl⟩
  walk_at "rd"
  rw [if_neg (by omega)]
  refine ⟨fun n σ H2 => H2 = H1 ∧ ∃ (x y : Int) (o : Option V), σ = [some (.int a), some (.int b), some (.int x), some (.int y), none, o] ∧ 0 ≤ x ∧ 0 ≤ y ∧ Int.gcd x y = Int.gcd a b ∧ n = y.toNat, ⟨_, rfl, M, m, none, rfl, hM, hm, hg, rfl⟩, ?_⟩
  rintro n σ H2 ⟨rfl, x, y, o, rfl, hx, hy, hgg, rfl⟩
  walk_at "rd"
  by_cases c : y = 0
  · subst c
    rw [if_pos rfl]
    rw [← hgg, Int.gcd_zero_right] at q
    have e2 : ((x.natAbs : Nat) : Int) = x := by omega
    rw [e2] at q
    exact q
  · rw [if_neg c]
    have b1 := Int.emod_nonneg x c
    have b2 := Int.emod_lt_of_pos x (show 0 < y by omega)
    exact ⟨fun σ' H' => σ' = [some (V.int a), some (V.int b), some (V.int y), some (V.int (x % y)), none, some (V.int (x % y))] ∧ H' = H2, fun σ' H' ⟨h1, h2⟩ => ⟨_, by omega, h2, y, x % y, _, h1, by omega, b1, (gcd_step x y hx).trans hgg, rfl⟩, by omega, rfl, rfl⟩
theorem ok_low (T : Tx K mg t1 t2) (F : At K mg "in_lowest_terms" s_in_lowest_terms ["numbers"] []) (d_greatest_divisor : DefOk P w K mg base CX0 1 "greatest_divisor" ["one", "other"] [] spGd) : DefOk P w K mg base CX0 2 "in_lowest_terms" ["numbers"] [] spLow := by
  refine F.ok sc_in_lowest_terms (fun vs H Q E h => ?_) (fun f cdv A outer s H vs Q E hr h => ?_)
  · obtain ⟨a, ns, rfl, _⟩ := h
    rfl
  obtain ⟨a, ns, rfl, ha, hl, hs, hg, q⟩ := h
  have S := sc_in_lowest_terms
  refine ⟨_, (pss_cons (ps_set (i := 1) S.nd rfl (Or.inr rfl) pe_int)
    (pss_cons (ps_for PassesOwn.never rfl (pi_tup (pv 0)) (pg_name (i := 2) S.nd rfl (Or.inl rfl))
    (pss_cons (ps_set (i := 1) S.nd rfl (Or.inr rfl) (pe_callD d_greatest_divisor (hr.mono (by decide)) rfl pass0 (pa_cons (pv 1) (pa_cons (pv 2) pa_nil se_nam) se_nam)))
    (pss_one (ps_if (pt_cmpR op_eq (pv 1) pe_int (nomark _))
    (pss_one (ps_ret (pe_callTy call_tuple_of rfl T.m_tuple boot_tuple (pa_cons (pv 0) pa_nil se_nam))))
    pss_nil))))
    (pss_one (ps_ret (pe_callTy call_tuple_of rfl T.m_tuple boot_tuple (pa_cons (pe_comp rfl (N' := ["number", "divisor"]) (ix := [1]) ⟨rfl, rfl, by decide +kernel, by decide +kernel, rfl, by decide +kernel, (show ∀ y : Str × NameKind, y ∈ _ → y.2 = NameKind.free → (defScope s_in_lowest_terms).names.lookup y.1 = some .cell ∨ (defScope s_in_lowest_terms).names.lookup y.1 = some .free from by decide +kernel), (.cons rfl (.inl rfl) rfl .nil)⟩ (pi_tup (pv 0)) (fun _ _ _ _ => pg_name (i := 0) (show (["number", "divisor"] : List Str).Nodup from by decide +kernel) rfl (Or.inl rfl)) (fun _ _ _ _ => pts_nil) (fun _ _ _ _ => (pe_op op_fdivB (pv 0) (pv 1)))) pa_nil se_cmp)))))), ?_⟩
  walk_at "rd"
  refine ⟨_, rfl, a, rfl, ⟨_, SqT.of ha⟩, for_tup (K := K) (a := a) (xs := ns.map V.int) (fun i σ H2 => H2 = H ∧ ∃ o : Option V, σ = [some (.ref a), some (.int (gl (ns.take i))), o]) ⟨rfl, none, rfl⟩ (fun i σ H2 _ ⟨h, _⟩ => by rw [h]; exact SqT.of ha) ?_ ?_⟩
  · rintro i v σ H2 hi ⟨rfl, o, rfl⟩
    obtain ⟨z, rfl, hz⟩ := int_of hi
    walk_at "rd"
    refine ⟨_, _, rfl, small_gl fun n hn => hs n (List.mem_of_mem_take hn), hs z (List.mem_of_getElem? hz), ?_⟩
    walk_at "rd"
    rw [← gl_take_succ hz]
    refine ite2 (fun c => ⟨_, .inr ⟨SqT.of ha, ?_⟩⟩) fun c => ⟨rfl, _, rfl⟩
    have g1 : gl ns = 1 := gl_one_of_take c
    refine q a H2 (Same.refl _) ?_
    rw [g1, map_div_one]
    exact ha
  · rintro σ H2 ⟨rfl, o, rfl⟩
    walk_at "rd"
    have el : (ns.map V.int).length = ns.length := List.length_map _
    rw [el, List.take_length]
    have gp : 0 < gl ns := by have := gl_nonneg ns; omega
    refine ⟨_, rfl, a, rfl, ⟨_, SqT.of ha⟩, fun acc hacc => comp_tup (K := K) (a := a) (zs := ns.map V.int) (fun i xs H3 => Same H2 H3 ∧ H3 acc = some (.lst xs) ∧ xs = ((ns.take i).map (· / gl ns)).map V.int) ⟨Same.new hacc _, upd_same, rfl⟩ (fun i xs H3 _ h => h.1.tup (SqT.of ha)) ?_ ?_⟩
    · rintro i v xs H3 hi ⟨h1, h2, rfl⟩
      obtain ⟨z, rfl, hz⟩ := int_of hi
      walk_at "rd"
      have li := (List.getElem?_eq_some_iff.mp hz).1
      refine ⟨gp, (small_gl hs).bd.fit, h2, ?_, Same.keep h1 hacc, upd_same, ?_⟩
      · rw [List.length_map, List.length_map, List.length_take]
        exact small1000 (by omega)
      · rw [List.take_add_one, hz, List.map_append, List.map_append]
        rfl
    · rintro xs H3 ⟨h1, h2, rfl⟩
      rw [el, List.take_length] at h2
      exact ⟨acc, rfl, _, .inl ⟨SqL.of h2, fun l hl => q l _ (h1.trans (Same.new hl _)) upd_same⟩⟩
def spNext : Sp := fun vs H Q _ => ∃ (L : Addr) (b n : Int), vs = [.ref L, .int b] ∧ H L = some (.lst [.int n]) ∧ 0 < b ∧ Fit b ∧ Q (.int (n % b)) (upd H L (.lst [.int (n / b)]))
def spLeft : Sp := fun vs H Q _ => ∃ c : Int, vs = [.int c] ∧ ∀ (L : Addr) (H' : Hp) (m : Int), H L = none → Same H H' → H' L = some (.lst [.int m]) → Q (.ref L) H'
def spDivL : Sp := fun vs H Q _ => ∃ (l : Addr) (ns : List Int), vs = [.ref l] ∧ H l = some (.lst (ns.map V.int)) ∧ Q (.int (gl ns)) H
def spLowL : Sp := fun vs H Q _ => ∃ (l : Addr) (ns : List Int), vs = [.ref l] ∧ H l = some (.lst (ns.map V.int)) ∧ ns.length ≤ 10 ∧ 0 < gl ns ∧ Fit (gl ns) ∧ ∀ (t : Addr) (H' : Hp), Same H H' → H' t = some (.tup ((ns.map (· / gl ns)).map V.int)) → Q (.ref t) H'
theorem ok_next (T : Tx K mg t1 t2) (F : At K mg "_law_next" s__law_next ["left", "base"] []) : DefOk P w K mg base CX0 1 "_law_next" ["left", "base"] [] spNext := by
  refine F.ok sc__law_next (fun vs H Q E h => ?_) (fun f cdv A outer s H vs Q E hr h => ?_)
  · obtain ⟨L, b, n, rfl, _⟩ := h
    rfl
  obtain ⟨L, b, n, rfl, hL, b0, fb, q⟩ := h
  have S := sc__law_next
  refine ⟨_, (pss_cons (ps_set (i := 2) S.nd rfl (Or.inl rfl) (pe_op op_mod (pe_ix ix_list (pv 0) pe_int (fun _ _ => rfl)) (pv 1)))
    (pss_cons (ps_asg (pe_op op_fdivB (pe_ix ix_list (pv 0) pe_int (fun _ _ => rfl)) (pv 1)) (pg_sub (pv 0) pe_int set_list))
    (pss_one (ps_ret (pv 2))))), ?_⟩
  have k1 : SqL K H L [.int n] := SqL.of hL
  walk_at "rf"
  walk_at "gf"
  unfold gSub
  walk_at "rf"
  exact ⟨L, _, 0, 0, rfl, rfl, hL, rfl, q⟩
theorem ok_left (T : Tx K mg t1 t2) (F : At K mg "_law_left" s__law_left ["cell"] []) : DefOk P w K mg base CX0 1 "_law_left" ["cell"] [] spLeft := by
  refine F.ok sc__law_left (fun vs H Q E h => ?_) (fun f cdv A outer s H vs Q E hr h => ?_)
  · obtain ⟨c, rfl, _⟩ := h
    rfl
  obtain ⟨c, rfl, q⟩ := h
  have S := sc__law_left
  refine ⟨_, (pss_cons (ps_if (PW.pt (pw_or (pt_cmpR op_ge (pv 0) (pe_op op_pow pe_int pe_int) (nomark _)) (pw_or1 (pt_cmpR op_le (pv 0) (pe_un un_neg (pe_op op_pow pe_int pe_int)) (nomark _)))))
    (pss_one (ps_ret (pe_lst (pa_cons (pv 0) pa_nil se_nam))))
    pss_nil)
    (pss_cons (ps_set (i := 1) S.nd rfl (Or.inl rfl) (pe_op op_mod (pe_op op_add (pe_op op_mulB (pe_op op_mod (pv 0) pe_int) pe_int) pe_int) pe_int))
    (pss_cons (ps_set (i := 2) S.nd rfl (Or.inl rfl) pe_int)
    (pss_cons (ps_for PassesOwn.never rfl (pi_range1 rfl T.m_range (pa_cons pe_int pa_nil se_con)) (pg_name (i := 3) S.nd rfl (Or.inl rfl))
    (pss_cons (ps_set (i := 1) S.nd rfl (Or.inl rfl) (pe_op op_mod (pe_op op_mulB (pe_op op_mod (pe_op op_add (pe_op op_add (pe_op op_mulB (pv 1) (pv 1)) (pe_op op_mulB pe_int (pv 3))) pe_int) pe_int) pe_int) pe_int))
    (pss_one (ps_set (i := 2) S.nd rfl (Or.inl rfl) (pe_op op_add (pe_op op_mulB (pv 2) pe_int) (pv 1))))))
    (pss_one (ps_ret (pe_lst (pa_cons (pe_op op_fdivB (pv 2) pe_int) pa_nil se_bin)))))))), ?_⟩
  have e18 : (10 : Int) ^ Int.toNat 18 = 1000000000000000000 := by decide
  walk_at "rf"
  have fin : 1 ≤ sizeLine ∧ ∀ p : Addr, H p = none → Q (.ref p) (upd H p (.lst [.int c])) := ⟨by decide, fun p hp => q p _ c hp (Same.new hp _) upd_same⟩
  have m0 := Int.emod_nonneg c (show (2305843009213693951 : Int) ≠ 0 by decide)
  have m1 := Int.emod_lt_of_pos c (show (0 : Int) < 2305843009213693951 by decide)
  refine ⟨⟨by decide, by decide, by decide⟩, ite2 (fun _ => fin) fun _ => ⟨⟨by decide, by decide, by decide⟩, ite2 (fun _ => fin) fun _ => ?_⟩⟩
  refine ⟨by decide, .o (by omega) (by omega), .o (by decide) (by decide), by decide, by decide, by decide, ?_⟩
  refine for_range (lo := 0) (n := 9) (fun i σ H2 => H2 = H ∧ i ≤ 9 ∧ ∃ (near far : Int) (o3 : Option V), σ = [some (.int c), some (.int near), some (.int far), o3] ∧ 0 ≤ near ∧ near < 2305843009213693951 ∧ Bd (64 * i + 1) far) ⟨rfl, by decide, _, 0, none, rfl, Int.emod_nonneg _ (by decide), Int.emod_lt_of_pos _ (by decide), by unfold Bd; decide⟩ ?_ ?_
  · rintro i σ H2 hi ⟨rfl, hi9, near, far, o3, rfl, n0, n1, bf⟩
    have fn : Fit near := .o (by omega) (by omega)
    have ff : Fit far := bf.fit (by omega)
    have r0 := Int.emod_nonneg (near * near + 977 * (0 + (i : Int)) + 11) (show (2305843009213693951 : Int) ≠ 0 by decide)
    have r1 := Int.emod_lt_of_pos (near * near + 977 * (0 + (i : Int)) + 11) (show (0 : Int) < 2305843009213693951 by decide)
    have fr : Fit ((near * near + 977 * (0 + (i : Int)) + 11) % 2305843009213693951) := .o (by omega) (by omega)
    have t0 := Int.emod_nonneg ((near * near + 977 * (0 + (i : Int)) + 11) % 2305843009213693951 * 69621) (show (2305843009213693951 : Int) ≠ 0 by decide)
    have t1 := Int.emod_lt_of_pos ((near * near + 977 * (0 + (i : Int)) + 11) % 2305843009213693951 * 69621) (show (0 : Int) < 2305843009213693951 by decide)
    walk_at "rf"
    walk_at "gf"
    generalize (near * near + 977 * (0 + (i : Int)) + 11) % 2305843009213693951 * 69621 % 2305843009213693951 = nn at t0 t1
    have b62 : Bd 62 2305843009213693952 := by unfold Bd; decide
    have bn : Bd 62 nn := by
      unfold Bd
      have e : (2 ^ 62 : Nat) = 4611686018427387904 := by decide
      rw [e]
      omega
    have bb : Bd (64 * (i + 1) + 1) (far * 2305843009213693952 + nn) := Bd.mono (n := 64 * i + 64) (Bd.add (n := 64 * i + 63) (Bd.mono (n := 64 * i + 1 + 62) (Bd.mul bf b62) (by omega)) (Bd.mono bn (by omega))) (by omega)
    exact bb
  · rintro σ H2 ⟨rfl, _, near, far, o3, rfl, n0, n1, bf⟩
    walk_at "rf"
    refine ⟨by decide, .o (by decide) (by decide), by decide, fun p hp => q p _ _ hp (Same.new hp _) upd_same⟩
theorem ok_divl (T : Tx K mg t1 t2) (F : At K mg "_law_divisor" s__law_divisor ["numbers"] []) : DefOk P w K mg base CX0 1 "_law_divisor" ["numbers"] [] spDivL := by
  refine F.ok sc__law_divisor (fun vs H Q E h => ?_) (fun f cdv A outer s H vs Q E hr h => ?_)
  · obtain ⟨l, ns, rfl, _⟩ := h
    rfl
  obtain ⟨l, ns, rfl, hl, q⟩ := h
  have S := sc__law_divisor
  refine ⟨_, (pss_cons (ps_set (i := 1) S.nd rfl (Or.inl rfl) pe_int)
    (pss_cons (ps_for PassesOwn.never rfl (pi_list (pv 0)) (pg_name (i := 2) S.nd rfl (Or.inl rfl))
    (pss_cons (ps_set (i := 3) S.nd rfl (Or.inl rfl) (pe_callB call_abs rfl T.m_abs boot_abs (pa_cons (pv 2) pa_nil se_nam)))
    (pss_one (ps_while PassesOwn.never (pt_cmpR op_gt (pv 3) pe_int (nomark _))
    (pss_one (ps_par (i := 1) (j := 3) rfl S.nd rfl rfl (by decide) rfl rfl (pa_cons (pv 3) (pa_cons (pe_op op_mod (pv 1) (pv 3)) pa_nil se_bin) se_nam) rfl))))))
    (pss_one (ps_ret (pv 1))))), ?_⟩
  have k1 : SqL K H l (ns.map V.int) := SqL.of hl
  walk_at "rf"
  refine ⟨⟨_, k1⟩, for_list (K := K) (a := l) (xs := ns.map V.int) (fun i σ H2 => H2 = H ∧ ∃ o2 o3 : Option V, σ = [some (.ref l), some (.int (gl (ns.take i))), o2, o3]) ⟨rfl, none, none, rfl⟩ (fun i σ H3 _ ⟨h, _⟩ => by rw [h]; exact k1) ?_ ?_⟩
  · rintro i v σ H2 hi ⟨rfl, o2, o3, rfl⟩
    obtain ⟨m, rfl, hm⟩ := int_of hi
    walk_at "rf"
    have gn := gl_nonneg (ns.take i)
    refine ⟨fun n σ H3 => H3 = H2 ∧ ∃ (x y : Int), σ = [some (.ref l), some (.int x), some (.int m), some (.int y)] ∧ 0 ≤ x ∧ 0 ≤ y ∧ Int.gcd x y = Int.gcd (gl (ns.take i)) m ∧ n = y.toNat, ⟨_, rfl, _, _, rfl, gn, by split <;> omega, by split <;> simp, rfl⟩, ?_⟩
    rintro n σ H3 ⟨rfl, x, y, rfl, hx, hy, hgg, rfl⟩
    walk_at "rf"
    by_cases c : 0 < y
    · rw [if_pos c]
      refine ⟨fun σ' H' => σ' = [some (.ref l), some (.int y), some (.int m), some (.int (x % y))] ∧ H' = H3, fun σ' H' ⟨h1, h2⟩ => ?_, c, rfl, rfl⟩
      have b1 := Int.emod_nonneg x (show y ≠ 0 by omega)
      have b2 := Int.emod_lt_of_pos x c
      exact ⟨_, by omega, h2, y, x % y, h1, by omega, b1, (gcd_step x y hx).trans hgg, rfl⟩
    · rw [if_neg c]
      have e : y = 0 := by omega
      subst e
      have e2 : x = gl (ns.take (i + 1)) := by
        rw [gl_take_succ hm, ← hgg, Int.gcd_zero_right]
        omega
      rw [e2]
      exact ⟨rfl, _, rfl⟩
  · rintro σ H2 ⟨rfl, o2, o3, rfl⟩
    rw [List.length_map, List.take_length]
    walk_at "rf"
    exact q
def vdiv (g : Int) (v : V) : V := match v with | .int i => .int (i / g) | _ => v
theorem map_vdiv (g : Int) (ns : List Int) : (ns.map V.int).map (vdiv g) = (ns.map (· / g)).map V.int := by
  rw [List.map_map, List.map_map]
  rfl
theorem ok_lowl (T : Tx K mg t1 t2) (F : At K mg "_law_lowest" s__law_lowest ["numbers"] []) (d__law_divisor : DefOk P w K mg base CX0 1 "_law_divisor" ["numbers"] [] spDivL) : DefOk P w K mg base CX0 2 "_law_lowest" ["numbers"] [] spLowL := by
  refine F.ok sc__law_lowest (fun vs H Q E h => ?_) (fun f cdv A outer s H vs Q E hr h => ?_)
  · obtain ⟨l, ns, rfl, _⟩ := h
    rfl
  obtain ⟨l, ns, rfl, hl, h10, gp, gf, q⟩ := h
  have S := sc__law_lowest
  refine ⟨_, (pss_cons (ps_set (i := 1) S.nd rfl (Or.inr rfl) (pe_callD d__law_divisor (hr.mono (by decide)) rfl pass0 (pa_cons (pv 0) pa_nil se_nam)))
    (pss_one (ps_ret (pe_callTy call_tupleL rfl T.m_tuple boot_tuple (pa_cons (pe_comp rfl (N' := ["number", "by"]) (ix := [1]) ⟨rfl, rfl, by decide +kernel, by decide +kernel, rfl, by decide +kernel, (show ∀ y : Str × NameKind, y ∈ _ → y.2 = NameKind.free → (defScope s__law_lowest).names.lookup y.1 = some .cell ∨ (defScope s__law_lowest).names.lookup y.1 = some .free from by decide +kernel), (.cons rfl (.inl rfl) rfl .nil)⟩ (pi_list (pv 0)) (fun _ _ _ _ => pg_name (i := 0) (show (["number", "by"] : List Str).Nodup from by decide +kernel) rfl (Or.inl rfl)) (fun _ _ _ _ => pts_nil) (fun _ _ _ _ => (pe_op op_fdivB (pv 0) (pv 1)))) pa_nil se_cmp))))), ?_⟩
  have k1 : SqL K H l (ns.map V.int) := SqL.of hl
  walk_at "rf"
  refine ⟨l, ns, rfl, hl, ?_⟩
  walk_at "rf"
  refine ⟨⟨_, k1⟩, fun acc hacc => ?_⟩
  refine compL (vdiv (gl ns)) (by rw [List.length_map]; omega) hacc k1 ?_ ?_
  · intro z H3 R hz s3 hR
    obtain ⟨m, hm, rfl⟩ := List.mem_map.mp hz
    walk_at "rf"
    exact ⟨gp, gf, hR _ (Same.refl _)⟩
  intro H1 s1 e1
  rw [map_vdiv] at e1
  exact ⟨_, SqL.of e1, fun t ht => q t _ (s1.trans (Same.new ht _)) upd_same⟩
structure Tri where
  x : Int
  y : Int
  z : Int
def Tri.bd (n : Nat) (v : Tri) : Prop := Bd n v.x ∧ Bd n v.y ∧ Bd n v.z
structure Sht where
  s : Tri
  w : Int
  c : Tri
  d : Tri
/-- the box: a list with one number -/
def Box (H : Hp) (L : Addr) : Prop := ∃ m : Int, H L = some (.lst [.int m])
theorem SameB.t {L : Addr} {H H' : Hp} (s : SameB L H H') (h : Box H L) : SameT H H' := fun b xs hb => by
  by_cases e : b = L
  · obtain ⟨m, hm⟩ := h
    rw [e, hm] at hb
    cases hb
  · exact s b _ e hb
theorem Bd.div {n : Nat} {i g : Int} (h : Bd n i) : Bd n (i / g) := Nat.lt_of_le_of_lt (Int.natAbs_ediv_le_natAbs i g) h
theorem dvd_mul_G : ∀ (ns : List Int) (d k m : Int), k ∣ m * d → (∀ n ∈ ns, k ∣ m * n) → k ∣ m * G d ns
  | [], _, _, _, h, _ => h
  | n :: r, d, k, m, h, hn => by
    rw [G_cons]
    refine dvd_mul_G r _ k m ?_ fun n' h' => hn n' (List.mem_cons_of_mem _ h')
    have h1 := Int.dvd_coe_gcd h (hn n List.mem_cons_self)
    rw [Int.gcd_mul_left, Int.natCast_mul] at h1
    exact Int.dvd_trans h1 (Int.mul_dvd_mul (Int.natAbs_dvd.mpr (Int.dvd_refl m)) (Int.dvd_refl _))
def w3 (Z : Sht) : Int := Z.w * Z.w * Z.w
theorem gl_mul {k : Int} (hk : 0 < k) (ns : List Int) : gl (ns.map (k * ·)) = k * gl ns := by
  refine Int.dvd_antisymm (gl_nonneg _) (Int.mul_nonneg (by omega) (gl_nonneg _)) ?_ ?_
  · exact dvd_mul_G ns 0 _ k (by rw [Int.mul_zero]; exact Int.dvd_zero _) fun n hn => gl_dvd (List.mem_map.mpr ⟨n, hn, rfl⟩)
  · refine dvd_gl fun n hn => ?_
    obtain ⟨m, hm, rfl⟩ := List.mem_map.mp hn
    exact Int.mul_dvd_mul (Int.dvd_refl k) (gl_dvd hm)
/-! texts of numbers -/
section
open PySem PySem.W PySem.NumText PySem.Builtin.Str
def dec (n : Int) : Str := Str.ofString (toString n)
def sg (x : Str) : List Nat := x.cps.toList
theorem sg_ext {x y : Str} (h : sg x = sg y) : x = y := by
  obtain ⟨a⟩ := x
  obtain ⟨b⟩ := y
  exact congrArg Str.mk (Array.toList_inj.mp h)
theorem sg_len (x : Str) : (sg x).length = x.length := Array.length_toList
theorem sg_app (x y : Str) : sg (x ++ y) = sg x ++ sg y := Array.toList_append
def ds (m : Nat) : List Nat := (Nat.toDigits 10 m).map Char.toNat
theorem sg_nat (m : Nat) : sg (dec (m : Int)) = ds m := PySem.W.KIN.signs_num m
theorem sg_neg (m : Nat) (h : 0 < m) : sg (dec (-(m : Int))) = 45 :: ds m := by
  obtain ⟨k, rfl⟩ : ∃ k, m = k + 1 := ⟨m - 1, by omega⟩
  have e : (-(((k + 1 : Nat)) : Int)) = Int.negSucc k := rfl
  unfold dec sg
  rw [e, signs_ofString]
  show ("-" ++ Nat.repr (k + 1)).toList.map Char.toNat = _
  rw [String.toList_append, List.map_append, Nat.toList_repr]
  rfl
theorem ds_dig (m : Nat) : AllDigits (ds m) := fun c hc => by
  obtain ⟨ch, hch, e⟩ := List.mem_map.mp hc
  have r := digit_range (Nat.isDigit_of_mem_toDigits (by decide) (by decide) hch)
  rw [← e]
  exact r
theorem ds_step {m : Nat} (h : 10 ≤ m) : ds m = ds (m / 10) ++ ds (m % 10) := by
  have hm : m % 10 < 10 := Nat.mod_lt m (by decide)
  have t : Nat.toDigits 10 (m / 10) ++ Nat.toDigits 10 (m % 10) = Nat.toDigits 10 (10 * (m / 10) + m % 10) := Nat.toDigits_append_toDigits (by decide) (by omega) hm
  rw [Nat.div_add_mod] at t
  unfold ds
  rw [← t, List.map_append]
theorem ds_one {m : Nat} (h : m < 10) : ds m = [48 + m] := by
  have : m = 0 ∨ m = 1 ∨ m = 2 ∨ m = 3 ∨ m = 4 ∨ m = 5 ∨ m = 6 ∨ m = 7 ∨ m = 8 ∨ m = 9 := by omega
  rcases this with rfl | rfl | rfl | rfl | rfl | rfl | rfl | rfl | rfl | rfl <;> decide
theorem ds_val (m : Nat) : digitsVal (ds m) = m := PySem.W.KIN.val_back m
theorem ds_len : ∀ (k m : Nat), 1 ≤ k → m < 10 ^ k → (ds m).length ≤ k
  | 0, _, h, _ => absurd h (by decide)
  | 1, m, _, h => by rw [ds_one (by simpa using h)]; exact Nat.le_refl 1
  | k + 2, m, _, h => by
    by_cases c : m < 10
    · rw [ds_one c]; simp
    · have h' : m / 10 < 10 ^ (k + 1) := by
        rw [Nat.pow_succ] at h
        exact Nat.div_lt_of_lt_mul (by rw [Nat.mul_comm]; exact h)
      have := ds_len (k + 1) (m / 10) (by omega) h'
      rw [ds_step (by omega), List.length_append, ds_one (Nat.mod_lt m (by decide))]
      simp
      omega
theorem ds_head (m : Nat) (h : 0 < m) : ∃ c r, ds m = c :: r ∧ 49 ≤ c ∧ c ≤ 57 := by
  induction m using Nat.strongRecOn with
  | _ m ih =>
    by_cases c : m < 10
    · exact ⟨48 + m, [], ds_one c, by omega, by omega⟩
    · obtain ⟨d, r, e, h1, h2⟩ := ih (m / 10) (by omega) (by omega)
      exact ⟨d, r ++ ds (m % 10), by rw [ds_step (by omega), e]; rfl, h1, h2⟩
theorem ds_ne (m : Nat) : ds m ≠ [] := by
  by_cases h : 0 < m
  · obtain ⟨c, r, e, _⟩ := ds_head m h
    rw [e]
    exact List.cons_ne_nil _ _
  · have : m = 0 := by omega
    subst this
    decide
/-- a number's text is read back -/
theorem dec_read {n : Int} (h : n.natAbs < 10 ^ 30) : PySem.intText? (dec n) = some n := by
  by_cases c : 0 ≤ n
  · obtain ⟨m, rfl⟩ := Int.eq_ofNat_of_zero_le c
    have h' : m < 10 ^ 30 := h
    have e := intText_digits (x := dec (m : Int)) (by show AllDigits (sg (dec (m : Int))); rw [sg_nat]; exact ds_dig m) (by show sg (dec (m : Int)) ≠ []; rw [sg_nat]; exact ds_ne m) (by rw [← sg_len, sg_nat]; exact Nat.le_trans (ds_len 30 m (by decide) h') (by decide))
    rw [e]
    show some ((digitsVal (sg (dec (m : Int))) : Nat) : Int) = _
    rw [sg_nat, ds_val]
  · obtain ⟨m, rfl⟩ : ∃ m : Nat, n = -(m : Int) := ⟨n.natAbs, by omega⟩
    have m0 : 0 < m := by omega
    have h' : m < 10 ^ 30 := by rwa [Int.natAbs_neg] at h
    have e := intText_neg (x := dec (-(m : Int))) (cs := ds m) (sg_neg m m0) (ds_dig m) (ds_ne m) (by rw [← sg_len, sg_neg m m0, List.length_cons]; exact Nat.le_trans (Nat.succ_le_succ (ds_len 30 m (by decide) h')) (by decide))
    rw [e, ds_val]
theorem dec_len {n : Int} (h : n.natAbs < 10 ^ 30) : (dec n).length ≤ 31 := by
  rw [← sg_len]
  by_cases c : 0 ≤ n
  · obtain ⟨m, rfl⟩ := Int.eq_ofNat_of_zero_le c
    rw [sg_nat]
    exact Nat.le_trans (ds_len 30 m (by decide) h) (by decide)
  · obtain ⟨m, rfl⟩ : ∃ m : Nat, n = -(m : Int) := ⟨n.natAbs, by omega⟩
    rw [sg_neg m (by omega), List.length_cons]
    exact Nat.succ_le_succ (ds_len 30 m (by decide) (by rwa [Int.natAbs_neg] at h))
/-- a number's signs -/
theorem dec_mem {n : Int} {c : Nat} (h : c ∈ sg (dec n)) : c = 45 ∨ (48 ≤ c ∧ c ≤ 57) := by
  by_cases z : 0 ≤ n
  · obtain ⟨m, rfl⟩ := Int.eq_ofNat_of_zero_le z
    rw [sg_nat] at h
    exact .inr (ds_dig m c h)
  · obtain ⟨m, rfl⟩ : ∃ m : Nat, n = -(m : Int) := ⟨n.natAbs, by omega⟩
    rw [sg_neg m (by omega)] at h
    rcases List.mem_cons.mp h with h | h
    · exact .inl h
    · exact .inr (ds_dig m c h)
end
/-! texts joined, parted, told apart -/
section
open PySem PySem.W PySem.NumText PySem.Builtin.Str PySem.StrLaws
theorem at_one {x : Str} {c i : Nat} : StrLaws.At x ⟨#[c]⟩ x.length i ↔ (sg x)[i]? = some c := subAt_one x c i
theorem starts_one (x : Str) (c : Nat) : Txt.startswith x ⟨#[c]⟩ = decide ((sg x)[0]? = some c) := by
  have h := subAt_one x c 0
  unfold Txt.startswith
  by_cases z : (sg x)[0]? = some c
  · have := h.mpr z
    rw [decide_eq_true z, this.2]
    simpa using this.1
  · rw [decide_eq_false z]
    cases e : (decide (0 + (⟨#[c]⟩ : Str).length ≤ x.length) && subAt x ⟨#[c]⟩ 0) with
    | false => rfl
    | true =>
      rw [Bool.and_eq_true, decide_eq_true_eq] at e
      exact absurd (h.mp e) z
theorem part_no {x : Str} {c : Nat} (h : c ∉ sg x) : Txt.partition x ⟨#[c]⟩ = (x, Str.empty, Str.empty) := by
  unfold Txt.partition
  rcases occ_head x ⟨#[c]⟩ 1 (Nat.le_refl 1) with ⟨e, _⟩ | ⟨i, r, e, h1, _⟩
  · rw [e]
  · exact absurd (List.mem_of_getElem? (at_one.mp h1)) h
theorem part_at {a b : Str} {c : Nat} (h : c ∉ sg a) : Txt.partition (a ++ ⟨#[c]⟩ ++ b) ⟨#[c]⟩ = (a, ⟨#[c]⟩, b) := by
  have es : sg (a ++ ⟨#[c]⟩ ++ b) = sg a ++ c :: sg b := by rw [sg_app, sg_app, List.append_assoc]; rfl
  have hm : (sg (a ++ ⟨#[c]⟩ ++ b))[(sg a).length]? = some c := by rw [es, List.getElem?_append_right (Nat.le_refl _), Nat.sub_self]; rfl
  unfold Txt.partition
  rcases occ_head (a ++ ⟨#[c]⟩ ++ b) ⟨#[c]⟩ 1 (Nat.le_refl 1) with ⟨_, n⟩ | ⟨i, r, e, h1, h2⟩
  · exact absurd (at_one.mpr hm) (n _)
  · have h1' := at_one.mp h1
    have ie : i = (sg a).length := by
      rcases Nat.lt_trichotomy i (sg a).length with z | z | z
      · rw [es, List.getElem?_append_left z] at h1'
        exact absurd (List.mem_of_getElem? h1') h
      · exact z
      · exact absurd (at_one.mpr hm) (h2 _ z)
    rw [e]
    subst ie
    have s1 : strSub (a ++ ⟨#[c]⟩ ++ b) 0 (sg a).length = a := sg_ext (by
      refine (strSub_toList _ _ _).trans ?_
      show ((sg (a ++ ⟨#[c]⟩ ++ b)).drop 0).take _ = _
      rw [es, List.drop_zero, Nat.sub_zero, List.take_left])
    have s2 : strSub (a ++ ⟨#[c]⟩ ++ b) ((sg a).length + (⟨#[c]⟩ : Str).length) (a ++ ⟨#[c]⟩ ++ b).length = b := sg_ext (by
      refine (strSub_toList _ _ _).trans ?_
      show ((sg (a ++ ⟨#[c]⟩ ++ b)).drop ((sg a).length + 1)).take _ = _
      have e2 : sg a ++ c :: sg b = (sg a ++ [c]) ++ sg b := by simp
      have e3 : (sg a).length + 1 = (sg a ++ [c]).length := by simp
      rw [es, e2, e3, List.drop_left]
      refine List.take_of_length_le ?_
      rw [← sg_len, es, List.length_append, List.length_cons]
      show _ ≤ _ + (_ + 1) - ((sg a).length + 1)
      omega)
    show (strSub _ 0 (sg a).length, _, strSub _ ((sg a).length + (⟨#[c]⟩ : Str).length) _) = _
    rw [s1, s2]
theorem join_sg (z x : Str) : ∀ r : List Str, sg (Str.join z (x :: r)) = sg x ++ (r.map fun y => sg z ++ sg y).flatten
  | [] => by simp [Str.join]
  | y :: r => by
    show sg (x ++ z ++ Str.join z (y :: r)) = _
    rw [sg_app, sg_app, join_sg z y r]
    simp
/-- parts that hold no such sign are told by the whole -/
theorem parts_one {c : Nat} : ∀ (l m : List (List Nat)) (a b : List Nat), c ∉ a → c ∉ b → (∀ x ∈ l, c ∉ x) → (∀ x ∈ m, c ∉ x) →
    a ++ (l.map fun y => c :: y).flatten = b ++ (m.map fun y => c :: y).flatten → a = b ∧ l = m := by
  have key : ∀ (a b s t : List Nat), c ∉ a → c ∉ b → (s = [] ∨ ∃ s', s = c :: s') → (t = [] ∨ ∃ t', t = c :: t') → a ++ s = b ++ t → a = b ∧ s = t := by
    intro a
    induction a with
    | nil =>
      intro b s t _ hb hs ht e
      cases b with
      | nil => exact ⟨rfl, e⟩
      | cons d b =>
        rcases hs with rfl | ⟨s', rfl⟩
        · cases e
        · have : c = d := List.head_eq_of_cons_eq e
          subst this
          exact absurd List.mem_cons_self hb
    | cons d a ih =>
      intro b s t ha hb hs ht e
      cases b with
      | nil =>
        rcases ht with rfl | ⟨t', rfl⟩
        · cases e
        · have : d = c := List.head_eq_of_cons_eq e
          subst this
          exact absurd List.mem_cons_self ha
      | cons d' b =>
        have h1 : d = d' := List.head_eq_of_cons_eq e
        obtain ⟨h2, h3⟩ := ih b s t (fun z => ha (List.mem_cons_of_mem _ z)) (fun z => hb (List.mem_cons_of_mem _ z)) hs ht (List.tail_eq_of_cons_eq e)
        exact ⟨by rw [h1, h2], h3⟩
  have fl : ∀ l : List (List Nat), (l.map fun y => c :: y).flatten = [] ∨ ∃ s', (l.map fun y => c :: y).flatten = c :: s' := fun l => by
    cases l with
    | nil => exact .inl rfl
    | cons x r => exact .inr ⟨_, rfl⟩
  intro l
  induction l with
  | nil =>
    intro m a b ha hb hl hm e
    obtain ⟨h1, h2⟩ := key a b _ _ ha hb (fl []) (fl m) e
    cases m with
    | nil => exact ⟨h1, rfl⟩
    | cons y m => cases h2
  | cons x l ih =>
    intro m a b ha hb hl hm e
    obtain ⟨h1, h2⟩ := key a b _ _ ha hb (fl _) (fl m) e
    cases m with
    | nil => cases h2
    | cons y m =>
      have h3 : x ++ (l.map fun y => c :: y).flatten = y ++ (m.map fun y => c :: y).flatten := List.tail_eq_of_cons_eq h2
      obtain ⟨h4, h5⟩ := ih m x y (hl x List.mem_cons_self) (hm y List.mem_cons_self) (fun z hz => hl z (List.mem_cons_of_mem _ hz)) (fun z hz => hm z (List.mem_cons_of_mem _ hz)) h3
      exact ⟨h1, by rw [h4, h5]⟩
theorem split_ne (x : Str) (c : Nat) : Txt.split x ⟨#[c]⟩ ≠ [] := fun e => by
  have h1 := join_split x ⟨#[c]⟩
  rw [e] at h1
  have h2 : x = Str.empty := h1.symm
  subst h2
  revert e
  unfold Txt.split
  rw [if_pos (by rw [decide_eq_true (show Str.empty.length < (⟨#[c]⟩ : Str).length from Nat.zero_lt_one)]; rfl)]
  exact List.cons_ne_nil _ _
/-- a text that is joined of free parts falls into them again -/
theorem split_join {c : Nat} {x : Str} {r : List Str} (hx : c ∉ sg x) (hr : ∀ y ∈ r, c ∉ sg y) : Txt.split (Str.join ⟨#[c]⟩ (x :: r)) ⟨#[c]⟩ = x :: r := by
  have hf := split_free (Str.join ⟨#[c]⟩ (x :: r)) c
  have hj := join_split (Str.join ⟨#[c]⟩ (x :: r)) ⟨#[c]⟩
  have hn := split_ne (Str.join ⟨#[c]⟩ (x :: r)) c
  generalize Txt.split (Str.join ⟨#[c]⟩ (x :: r)) ⟨#[c]⟩ = p at hf hj hn ⊢
  cases p with
  | nil => exact absurd rfl hn
  | cons y s =>
    have e := congrArg sg hj
    rw [join_sg, join_sg] at e
    have mm : ∀ t : List Str, (t.map fun y => sg (⟨#[c]⟩ : Str) ++ sg y) = (t.map sg).map fun y => c :: y := fun t => by rw [List.map_map]; rfl
    rw [mm, mm] at e
    obtain ⟨h1, h2⟩ := parts_one (s.map sg) (r.map sg) (sg y) (sg x) (hf y List.mem_cons_self) hx (fun z hz => by obtain ⟨w, hw, rfl⟩ := List.mem_map.mp hz; exact hf w (List.mem_cons_of_mem _ hw)) (fun z hz => by obtain ⟨w, hw, rfl⟩ := List.mem_map.mp hz; exact hr w hw) e
    have h3 : s = r := by
      have inj : ∀ (s r : List Str), s.map sg = r.map sg → s = r := fun s => by
        induction s with
        | nil => intro r h; cases r with
          | nil => rfl
          | cons a r => cases h
        | cons a s ih => intro r h; cases r with
          | nil => cases h
          | cons b r =>
            rw [List.map_cons, List.map_cons] at h
            rw [sg_ext (List.head_eq_of_cons_eq h), ih r (List.tail_eq_of_cons_eq h)]
      exact inj s r h2
    rw [sg_ext h1, h3]
end
def TB (n : Int) : Prop := n.natAbs < 10 ^ 30
theorem TB.st {n : Int} (h : TB n) : n.natAbs < 2 ^ 1900 := Nat.lt_of_lt_of_le h (by decide +kernel)
theorem TB.fit {n : Int} (h : TB n) : Fit n := Bd.fit (n := 100) (Nat.lt_of_lt_of_le h (by decide +kernel))
theorem TB.len {n : Int} (h : TB n) : (dec n).length ≤ 31 := dec_len h
theorem len_ok {n : Nat} (h : n < 1000) : n ≤ sizeLine := Nat.le_of_lt (lt_line h)
theorem c_sl : Str.ofString "/" = ⟨#[47]⟩ := by decide +kernel
theorem c_cm : Str.ofString "," = ⟨#[44]⟩ := by decide +kernel
theorem c_mi : Str.ofString "-" = ⟨#[45]⟩ := by decide +kernel
theorem c_ze : Str.ofString "0" = ⟨#[48]⟩ := by decide +kernel
theorem dec0 : dec 0 = ⟨#[48]⟩ := by decide +kernel
def sl : Str := ⟨#[47]⟩
def cm : Str := ⟨#[44]⟩
def overT (x : Str) (b : Int) : Str := if b = 1 then x else x ++ sl ++ dec b
def tx3 (a b c : Int) : Str := Str.join cm [dec a, dec b, dec c]
def fdec (v : V) : V := match v with | .int n => .str (dec n) | _ => v
theorem join_tx (a b c : Int) : Txt.join (Str.ofString ",") [dec a, dec b, dec c] = tx3 a b c := by
  unfold tx3 Txt.join
  rw [StrLaws.glued_eq_join, c_cm]
  rfl
theorem tx3_sg (a b c : Int) : sg (tx3 a b c) = sg (dec a) ++ 44 :: (sg (dec b) ++ 44 :: sg (dec c)) := by
  unfold tx3
  rw [join_sg]
  show sg (dec a) ++ ((44 :: sg (dec b)) ++ ((44 :: sg (dec c)) ++ [])) = _
  simp
theorem tx3_len {a b c : Int} (ha : TB a) (hb : TB b) (hc : TB c) : (tx3 a b c).length ≤ 200 := by
  rw [← sg_len, tx3_sg, List.length_append, List.length_cons, List.length_append, List.length_cons, sg_len, sg_len, sg_len]
  have := ha.len
  have := hb.len
  have := hc.len
  omega
theorem slice_tail {x : Str} {c : Nat} {r : List Nat} (h : sg x = c :: r) : sg (Txt.slice x (some 1) none) = r := by
  have hl : (1 : Int) ≤ x.cps.toList.length := by
    have := congrArg List.length h
    rw [List.length_cons] at this
    show (1 : Int) ≤ (sg x).length
    omega
  have e : Txt.slice x (some 1) none = _ := StrLaws.sliceText_from (x := x) (i := 1) ⟨by decide, hl⟩
  rw [e]
  show (((sg x).drop 1).take (((sg x).length : Int) - 1).toNat) = r
  rw [h]
  show r.take _ = r
  refine List.take_of_length_le ?_
  rw [List.length_cons]
  omega
theorem app_len (x y : Str) : (x ++ y).length = x.length + y.length := by rw [← sg_len, sg_app, List.length_append, sg_len, sg_len]
theorem l_sl : (Str.ofString "/").length = 1 := by rw [c_sl]; rfl
theorem p12 : ((10 : Int) ^ Int.toNat 12) = 1000000000000 := by decide +kernel
theorem TB.of {n : Int} (h1 : -1000000000000000000000000000000 < n) (h2 : n < 1000000000000000000000000000000) : TB n := by
  unfold TB
  have e : (10 ^ 30 : Nat) = 1000000000000000000000000000000 := by decide +kernel
  rw [e]
  omega
theorem box_upd {H : Hp} {L : Addr} {m n : Int} (h : H L = some (.lst [.int m])) : SameB L H (upd H L (.lst [.int n])) := fun b o hb h => by rw [upd_ne hb]; exact h
theorem TB.div {n g : Int} (h : TB n) : TB (n / g) := Nat.lt_of_le_of_lt (Int.natAbs_ediv_le_natAbs n g) h
theorem low_ok {ns : List Int} {d : Int} (hm : d ∈ ns) (d1 : 1 ≤ d) (hd : TB d) : 0 < gl ns ∧ Fit (gl ns) ∧ 1 ≤ d / gl ns := by
  have g0 := gl_pos hm (by omega)
  have gd := gl_dvd hm
  have gle : gl ns ≤ d := Int.le_of_dvd (by omega) gd
  refine ⟨g0, TB.fit (Nat.lt_of_le_of_lt (show (gl ns).natAbs ≤ d.natAbs by omega) hd), ?_⟩
  have := Int.ediv_mul_cancel gd
  apply Classical.byContradiction
  intro h
  have h' : d / gl ns ≤ 0 := by omega
  have := Int.mul_nonpos_of_nonpos_of_nonneg h' (show 0 ≤ gl ns by omega)
  omega
theorem SameB.fresh {L : Addr} {H H3 H' : Hp} (s0 : Same H H3) (h : H L = none) (s : SameB L H3 H') : Same H H' := fun b o hb => s b o (ne_of_none hb h) (s0 b o hb)
/-! words that are no numbers -/
def fg (l : List Nat) : List Nat := match l with
  | 45 :: r => r
  | l => l
def gdL (l : List Nat) : Bool := decide (1 ≤ (fg l).length) && decide ((fg l).length ≤ 30) && (fg l).all (fun c => decide (48 ≤ c) && decide (c ≤ 57)) && !((fg l).head? == some 48 && l != [48])
theorem fg_mi (r : List Nat) : fg (45 :: r) = r := rfl
theorem fg_no {l : List Nat} (h : l.head? ≠ some 45) : fg l = l := by
  unfold fg
  split
  · exact absurd rfl h
  · rfl
/-- a sign that no number has -/
theorem gd_sign {l : List Nat} {c : Nat} (h : c ∈ l) (h1 : c ≠ 45) (h2 : ¬ (48 ≤ c ∧ c ≤ 57)) : gdL l = false := by
  have hm : c ∈ fg l := by
    unfold fg
    split
    · rcases List.mem_cons.mp h with h | h
      · exact absurd h h1
      · exact h
    · exact h
  have ha : (fg l).all (fun c => decide (48 ≤ c) && decide (c ≤ 57)) = false := by
    cases e : (fg l).all (fun c => decide (48 ≤ c) && decide (c ≤ 57)) with
    | false => rfl
    | true =>
      have := List.all_eq_true.mp e c hm
      rw [Bool.and_eq_true, decide_eq_true_eq, decide_eq_true_eq] at this
      exact absurd this h2
  unfold gdL
  rw [ha]
  simp
theorem gd_tail {l : List Nat} {c : Nat} (h : c ∈ l) (h2 : ¬ (48 ≤ c ∧ c ≤ 57)) : gdL (45 :: l) = false := by
  have ha : (fg (45 :: l)).all (fun c => decide (48 ≤ c) && decide (c ≤ 57)) = false := by
    rw [fg_mi]
    cases e : l.all (fun c => decide (48 ≤ c) && decide (c ≤ 57)) with
    | false => rfl
    | true =>
      have := List.all_eq_true.mp e c h
      rw [Bool.and_eq_true, decide_eq_true_eq, decide_eq_true_eq] at this
      exact absurd this h2
  unfold gdL
  rw [ha]
  simp
/-- a good word is read -/
theorem gd_reads {x : Str} (h : gdL (sg x) = true) : ∃ n, PySem.intText? x = some n ∧ x.length ≤ 31 := by
  unfold gdL at h
  simp only [Bool.and_eq_true, decide_eq_true_eq] at h
  obtain ⟨⟨⟨h1, h2⟩, h3⟩, _⟩ := h
  have dg : PySem.NumText.AllDigits (fg (sg x)) ∨ True := .inr trivial
  have al : ∀ c ∈ fg (sg x), 48 ≤ c ∧ c ≤ 57 := fun c hc => by
    have := List.all_eq_true.mp h3 c hc
    rw [Bool.and_eq_true, decide_eq_true_eq, decide_eq_true_eq] at this
    exact this
  cases e : sg x with
  | nil => rw [e] at h1; exact absurd h1 (by decide)
  | cons c r =>
    by_cases c45 : c = 45
    · subst c45
      rw [e, fg_mi] at h1 h2 al
      refine ⟨_, intText_neg (x := x) (cs := r) e al (fun z => by rw [z] at h1; exact absurd h1 (by decide)) (by rw [← sg_len, e, List.length_cons]; omega), by rw [← sg_len, e, List.length_cons]; omega⟩
    · rw [e, fg_no (by simpa using c45)] at h1 h2 al
      rw [← e] at h1 h2 al
      exact ⟨_, intText_digits (x := x) al (fun z => by rw [show sg x = [] from z] at h1; exact absurd h1 (by decide)) (by rw [← sg_len]; omega), by rw [← sg_len]; omega⟩
theorem gd_dec {n : Int} (hn : TB n) : gdL (sg (dec n)) = true := by
  have hd := ds_dig n.natAbs
  have h1 := ds_len 30 n.natAbs (by decide) hn
  obtain ⟨c, r, e⟩ := List.exists_cons_of_ne_nil (ds_ne n.natAbs)
  have al : (ds n.natAbs).all (fun c => decide (48 ≤ c) && decide (c ≤ 57)) = true := List.all_eq_true.mpr fun c hc => by
    have := hd c hc
    rw [Bool.and_eq_true, decide_eq_true_eq, decide_eq_true_eq]
    exact this
  have hf : fg (sg (dec n)) = ds n.natAbs := by
    by_cases z : 0 ≤ n
    · obtain ⟨m, rfl⟩ := Int.eq_ofNat_of_zero_le z
      rw [sg_nat]
      refine fg_no ?_
      have e' : ds m = c :: r := e
      rw [e']
      have := hd c (by rw [e]; exact List.mem_cons_self)
      simp
      omega
    · have en : n = -((n.natAbs : Nat) : Int) := by omega
      have z := sg_neg n.natAbs (by omega)
      rw [← en] at z
      rw [z, fg_mi]
  have l1 : 1 ≤ (ds n.natAbs).length := by rw [e, List.length_cons]; omega
  have lz : ((ds n.natAbs).head? == some 48 && sg (dec n) != [48]) = false := by
    by_cases h48 : (ds n.natAbs).head? = some 48
    · have n0 : n = 0 := by
        apply Classical.byContradiction
        intro h0
        obtain ⟨c', r', e', h49, _⟩ := ds_head n.natAbs (by omega)
        rw [e'] at h48
        have : c' = 48 := by simpa using h48
        omega
      rw [n0, dec0]
      decide
    · have : ((ds n.natAbs).head? == some 48) = false := by simpa using h48
      rw [this]
      rfl
  unfold gdL
  rw [hf, al, lz, decide_eq_true l1, decide_eq_true h1]
  rfl
/-! parts and words -/
theorem split_app (a b : Str) : Txt.split (a ++ cm ++ b) cm = Txt.split a cm ++ Txt.split b cm := by
  have ha := split_ne a 44
  have hb := split_ne b 44
  have fa := StrLaws.split_free a 44
  have fb := StrLaws.split_free b 44
  have ja := StrLaws.join_split a cm
  have jb := StrLaws.join_split b cm
  have ha' : Txt.split a cm ≠ [] := ha
  have hb' : Txt.split b cm ≠ [] := hb
  have fa' : ∀ p ∈ Txt.split a cm, 44 ∉ sg p := fa
  have fb' : ∀ p ∈ Txt.split b cm, 44 ∉ sg p := fb
  generalize Txt.split a cm = l at ha' fa' ja ⊢
  generalize Txt.split b cm = r at hb' fb' jb ⊢
  cases l with
  | nil => exact absurd rfl ha'
  | cons x l =>
    cases r with
    | nil => exact absurd rfl hb'
    | cons y r =>
      have e : a ++ cm ++ b = Str.join cm (x :: (l ++ y :: r)) := sg_ext (by
        rw [← ja, ← jb, sg_app, sg_app, join_sg, join_sg, join_sg]
        simp)
      rw [e]
      exact split_join (c := 44) (fa' x List.mem_cons_self) fun z hz => by
        rcases List.mem_append.mp hz with h | h
        · exact fa' z (List.mem_cons_of_mem _ h)
        · exact fb' z h
theorem split_one {a : Str} (h : 44 ∉ sg a) : Txt.split a cm = [a] := split_join (c := 44) (r := []) h (fun _ z => nomatch z)
/-- some word is none -/
def Bw (a : Str) : Prop := ∃ w ∈ Txt.split a cm, gdL (sg w) = false
theorem Bw.left {a : Str} (b : Str) (h : Bw a) : Bw (a ++ cm ++ b) := by
  obtain ⟨w, hw, g⟩ := h
  exact ⟨w, by rw [split_app]; exact List.mem_append_left _ hw, g⟩
theorem Bw.right (a : Str) {b : Str} (h : Bw b) : Bw (a ++ cm ++ b) := by
  obtain ⟨w, hw, g⟩ := h
  exact ⟨w, by rw [split_app]; exact List.mem_append_right _ hw, g⟩
theorem Bw.one {a : Str} (h : 44 ∉ sg a) (g : gdL (sg a) = false) : Bw a := ⟨a, by rw [split_one h]; exact List.mem_cons_self, g⟩
/-- a part before the stroke that is no three numbers -/
def B3 (a : Str) : Prop := Bw a ∨ (Txt.split a cm).length ≠ 3
def inner : Stmt → Stmt
  | .ClassDef (body := b) .. => b.getD 0 (.Pass ⟨0, 0, 0, 0⟩)
  | s => s
abbrev s_NoText : Stmt := top 11
abbrev s_initN : Stmt := inner s_NoText
theorem sc_initN : FnScope ["self", "row"] ["self", "row"] (defScope s_initN) := ⟨rfl, rfl, rfl, by decide +kernel, rfl, by decide +kernel, by decide +kernel⟩
structure Tc (K : PySem.W.Frag) (mg : Str → Option Value) (t1 t2 : Tok) (cs : Nat → Addr) (S fN C : Addr) : Prop extends Tx K mg t1 t2 where
  m_ValueError : mg "ValueError" = none
  m_SightError : mg "SightError" = some (.ref S)
  m_NoText : mg "NoText" = some (.ref C)
  m_NoBoard : mg "NoBoard" = some (.ref (cs 0))
  m_NoDeed : mg "NoDeed" = some (.ref (cs 1))
  m_NoFrame : mg "NoFrame" = some (.ref (cs 2))
  m_NoName : mg "NoName" = some (.ref (cs 3))
  m_NoNumber : mg "NoNumber" = some (.ref (cs 4))
  m_NoPlane : mg "NoPlane" = some (.ref (cs 5))
  m_NoSpot : mg "NoSpot" = some (.ref (cs 6))
  m_NotFree : mg "NotFree" = some (.ref (cs 7))
  m_TooMany : mg "TooMany" = some (.ref (cs 8))
  o_NoText : ExcI K C fN "ValueError" "ValueError.__new__" "ValueError.__init__" [.type "ValueError", .type "Exception", .type "BaseException", .type "object"]
  xc : XCls K C
  xa : XAttr K C "row"
  em : PySem.W.exmOne K (.ref C) (.ref S) = some true
  kF : PySem.W.kitOne K (.ref C) (.ref C) = some true
  kV : PySem.W.kitOne K (.ref C) (.type "ValueError") = some true
  kO : PySem.W.kitAny K (.ref C) (((List.range 9).map cs).map Value.ref) = some false
theorem Tc.r_NoText {cs : Nat → Addr} {S fN C : Addr} (_ : Tc K mg t1 t2 cs S fN C) : RelV (.ref C) (.ref C) := rfl
theorem Tc.r_NoBoard {cs : Nat → Addr} {S fN C : Addr} (_ : Tc K mg t1 t2 cs S fN C) : RelV (.ref (cs 0)) (.ref (cs 0)) := rfl
theorem Tc.r_NoDeed {cs : Nat → Addr} {S fN C : Addr} (_ : Tc K mg t1 t2 cs S fN C) : RelV (.ref (cs 1)) (.ref (cs 1)) := rfl
theorem Tc.r_NoFrame {cs : Nat → Addr} {S fN C : Addr} (_ : Tc K mg t1 t2 cs S fN C) : RelV (.ref (cs 2)) (.ref (cs 2)) := rfl
theorem Tc.r_NoName {cs : Nat → Addr} {S fN C : Addr} (_ : Tc K mg t1 t2 cs S fN C) : RelV (.ref (cs 3)) (.ref (cs 3)) := rfl
theorem Tc.r_NoNumber {cs : Nat → Addr} {S fN C : Addr} (_ : Tc K mg t1 t2 cs S fN C) : RelV (.ref (cs 4)) (.ref (cs 4)) := rfl
theorem Tc.r_NoPlane {cs : Nat → Addr} {S fN C : Addr} (_ : Tc K mg t1 t2 cs S fN C) : RelV (.ref (cs 5)) (.ref (cs 5)) := rfl
theorem Tc.r_NoSpot {cs : Nat → Addr} {S fN C : Addr} (_ : Tc K mg t1 t2 cs S fN C) : RelV (.ref (cs 6)) (.ref (cs 6)) := rfl
theorem Tc.r_NotFree {cs : Nat → Addr} {S fN C : Addr} (_ : Tc K mg t1 t2 cs S fN C) : RelV (.ref (cs 7)) (.ref (cs 7)) := rfl
theorem Tc.r_TooMany {cs : Nat → Addr} {S fN C : Addr} (_ : Tc K mg t1 t2 cs S fN C) : RelV (.ref (cs 8)) (.ref (cs 8)) := rfl
def spInit (f : Str) (C : Addr) : Sp := fun vs H Q _ => ∃ (a : Addr) (n : Int), vs = [.ref a, .int n] ∧ H a = some (Exc0 a C) ∧ ∀ dx, H dx = none → Q .non (upd (upd H dx (.xd [(f, .int n)])) a (ExcD a C dx))
theorem ok_initN {fd : FuncData} {cs : Nat → Addr} {SE fN C : Addr} (T : Tc K mg t1 t2 cs SE fN C) (F : FunD K "__init__" "NoText.__init__" s_initN fN fd .none) : FnOk P w K mg base CX0 1 fN fd ["self", "row"] (spInit "row" C) := by
  refine F.ok sc_initN (fun vs H Q E h => ?_) (fun cdv A outer s H vs Q E hr h => ?_)
  · obtain ⟨a, n, rfl, _⟩ := h
    rfl
  obtain ⟨a, n, rfl, ha, q⟩ := h
  have S := sc_initN
  refine ⟨_, pss_one (ps_fldX (pv 0) (pv 1)), ?_⟩
  exact ⟨_, rfl, _, rfl, a, C, rfl, ha, T.xa, fun dx hd => q dx hd⟩
def RE (H : Hp) (E : XK) (C : Addr) : Prop := ∀ dx H', Same H H' → H' dx = some (.xd [("row", .int 0)]) → E (.ref C) (some dx) H'
theorem RE.go {H H1 : Hp} {E : XK} {C q dx : Addr} (h : RE H E C) (s1 : Same H H1) (hq : H1 q = none) (hd : upd H1 q (Exc0 q C) dx = none) : E (.ref C) (some dx) (del (upd (upd (upd H1 q (Exc0 q C)) dx (.xd [("row", .int 0)])) q (ExcD q C dx)) q) := by
  have dq : dx ≠ q := fun c => by rw [c, upd_same] at hd; cases hd
  have hd1 : H1 dx = none := by rw [upd_ne dq] at hd; exact hd
  refine h dx _ (fun c o hc => ?_) ?_
  · have h1 := s1 c o hc
    have cq : c ≠ q := fun z => by rw [z, hq] at h1; cases h1
    have cd : c ≠ dx := fun z => by rw [z, hd1] at h1; cases h1
    rw [del_ne cq, upd_ne cq, upd_ne cd, upd_ne cq]
    exact h1
  · rw [del_ne dq, upd_ne dq]
    exact upd_same
theorem RE.all {H H1 : Hp} {E : XK} {C : Addr} (h : RE H E C) (s1 : Same H H1) : 1 ≤ sizeLine ∧ ∀ q : Addr, H1 q = none → spInit "row" C [V.ref q, V.int 0] (upd H1 q (Exc0 q C)) (fun v H2 => v = V.non ∧ H q = none ∧ ∃ x, H2 q = some (ExcD q C x) ∧ E (Value.ref C) (some x) (del H2 q)) E0 :=
  ⟨by decide, fun q hq => ⟨q, 0, rfl, upd_same, fun dx hd => ⟨rfl, s1.noneN hq, dx, upd_same, h.go s1 hq hd⟩⟩⟩
theorem RE.keep {H H1 : Hp} {E : XK} {C : Addr} (h : RE H E C) (s : Same H H1) : RE H1 E C := fun dx H' s' e => h dx H' (s.trans s') e
theorem gdL_iff {l : List Nat} : gdL l = true ↔ 1 ≤ (fg l).length ∧ (fg l).length ≤ 30 ∧ (∀ c ∈ fg l, 48 ≤ c ∧ c ≤ 57) ∧ ¬ ((fg l).head? = some 48 ∧ l ≠ [48]) := by
  unfold gdL
  simp only [Bool.and_eq_true, decide_eq_true_eq, List.all_eq_true, Bool.not_eq_true', Bool.and_eq_false_iff, and_assoc]
  constructor
  · rintro ⟨h1, h2, h3, h4⟩
    refine ⟨h1, h2, h3, fun z => ?_⟩
    rcases h4 with h | h
    · rw [z.1] at h; exact absurd h (by decide)
    · simp at h; exact z.2 h
  · rintro ⟨h1, h2, h3, h4⟩
    refine ⟨h1, h2, h3, ?_⟩
    by_cases c : (fg l).head? = some 48
    · right
      have : l = [48] := Classical.byContradiction fun n => h4 ⟨c, n⟩
      rw [this]; decide
    · left
      simpa using c
theorem fig_in (c : Nat) : (!(Builtin.Str.occurrences (Str.ofString "0123456789") ⟨#[c]⟩ 0 (Str.ofString "0123456789").length 1).isEmpty) = decide (48 ≤ c ∧ c ≤ 57) := by
  rw [StrLaws.found_one]
  have e : (Str.ofString "0123456789").cps.toList = [48, 49, 50, 51, 52, 53, 54, 55, 56, 57] := by decide +kernel
  rw [e]
  by_cases h : 48 ≤ c ∧ c ≤ 57
  · rw [decide_eq_true h]
    have : c = 48 ∨ c = 49 ∨ c = 50 ∨ c = 51 ∨ c = 52 ∨ c = 53 ∨ c = 54 ∨ c = 55 ∨ c = 56 ∨ c = 57 := by omega
    rcases this with rfl | rfl | rfl | rfl | rfl | rfl | rfl | rfl | rfl | rfl <;> decide
  · rw [decide_eq_false h, decide_eq_false_iff_not]
    intro hc
    simp only [List.mem_cons, List.not_mem_nil, or_false] at hc
    omega
theorem asc_of {f : Str} (h : ∀ c ∈ sg f, c < 128) : Asc f := by
  unfold Asc
  rw [Array.all_eq_true_iff_forall_mem]
  intro c hc
  exact decide_eq_true (h c (by simpa [sg] using hc))
theorem asc_mem {f : Str} (h : Asc f) : ∀ c ∈ sg f, c < 128 := fun c hc => by
  unfold Asc at h
  rw [Array.all_eq_true_iff_forall_mem] at h
  exact of_decide_eq_true (h c (by simpa [sg] using hc))
theorem fg_sub (l : List Nat) : ∀ c ∈ fg l, c ∈ l := fun c hc => by
  unfold fg at hc
  split at hc
  · exact List.mem_cons_of_mem _ hc
  · exact hc
theorem fg_len (l : List Nat) : (fg l).length ≤ l.length := by
  unfold fg
  split
  · rw [List.length_cons]; omega
  · exact Nat.le_refl _
def spRWX (C : Addr) : Sp := fun vs H Q E => ∃ x : Str, vs = [.str x] ∧ x.length ≤ 400 ∧ Asc x ∧ ((gdL (sg x) = true ∧ ∀ n, PySem.intText? x = some n → ∀ H', Same H H' → Q (.int n) H') ∨ (gdL (sg x) = false ∧ RE H E C))
theorem ok_rwx {cs : Nat → Addr} {SE fN C : Addr} {fdN : FuncData} (T : Tc K mg t1 t2 cs SE fN C) (F_NoText : FnOk P w K mg base CX0 1 fN fdN ["self", "row"] (spInit "row" C)) (b_NoText : Binds K fdN ["self", "row"] []) (F : At K mg "read_whole" s_read_whole ["text"] []) : DefOk P w K mg base (XOk P w) 3 "read_whole" ["text"] [] (spRWX C) := by
  refine F.okX sc_read_whole (fun vs H Q E h => ?_) (fun f cdv A outer s H vs Q E hr h => ?_)
  · obtain ⟨x, rfl, _⟩ := h
    rfl
  obtain ⟨x, rfl, hl, ha, h⟩ := h
  have S := sc_read_whole
  refine ⟨_, (pss_cons (ps_set (i := 1) S.nd rfl (Or.inl rfl) (pe_ifExp (pt_val (pe_bm PySem.F.plainAttrs_str PySem.F.slot_str_startswith PySem.F.type_str_startswith mt_starts (pv 0) (pa_cons pe_str pa_nil se_con))) (pe_sliceS (pv 0) (po_some pe_int) po_none) (pv 0)))
    (pss_cons (ps_if (PW.pt (pw_or (pt_not (pt_chain op_le op_le pe_int (pe_callB call_len rfl T.m_len PySem.boot_len (pa_cons (pv 1) pa_nil se_nam)) (pe_glob rfl T.m_MOST_FIGURES T.r_MOST_FIGURES))) (pw_or1 (pt_not (pt_val (pe_callB (call_all_bools rfl) rfl T.m_all boot_all (pa_cons (pe_comp rfl (N' := ["sign"]) (ix := []) ⟨rfl, rfl, by decide +kernel, by decide +kernel, rfl, by decide +kernel, (show ∀ y : Str × NameKind, y ∈ _ → y.2 = NameKind.free → (defScope s_read_whole).names.lookup y.1 = some .cell ∨ (defScope s_read_whole).names.lookup y.1 = some .free from by decide +kernel), .nil⟩ (pi_str (pv 1)) (fun _ _ _ _ => pg_name (i := 0) (show (["sign"] : List Str).Nodup from by decide +kernel) rfl (Or.inl rfl)) (fun _ _ _ _ => pts_nil) (fun _ _ _ _ => (pe_cmpR op_in_str (pv 0) (pe_glob rfl T.m_FIGURES T.r_FIGURES) rfl))) pa_nil se_cmp)))))))
    (pss_one (ps_raiseE rfl T.o_NoText (pe_excI T.o_NoText F_NoText (hr.mono (by decide)) rfl T.m_NoText b_NoText pass0 (pa_cons pe_int pa_nil se_con)) raisesD1))
    pss_nil)
    (pss_cons (ps_if (PW.pt (pw_and (pt_cmpR op_eq (pe_item_str (pv 1) pe_int (fun _ _ => rfl)) pe_str (nomark _)) (pw_and1 (pt_cmpR op_ne (pv 0) pe_str (nomark _)))))
    (pss_one (ps_raiseE rfl T.o_NoText (pe_excI T.o_NoText F_NoText (hr.mono (by decide)) rfl T.m_NoText b_NoText pass0 (pa_cons pe_int pa_nil se_con)) raisesD1))
    pss_nil)
    (pss_one (ps_ret (pe_callTy call_intS rfl T.m_int boot_int (pa_cons (pv 0) pa_nil se_nam))))))), ?_⟩
  simp only [L2.tIf, L2.tExcI]
  try walk_at "rf"
  simp only [L2.tIf, L2.tExcI]
  have okI : gdL (sg x) = true → ∀ J, Same H J → ∃ n, PySem.intText? x = some n ∧ x.length ≤ 640 ∧ Q (.int n) J := fun g J sJ => by
    rcases h with ⟨_, q⟩ | ⟨g', _⟩
    · obtain ⟨n, e, _⟩ := gd_reads g
      exact ⟨n, e, by omega, q n e J sJ⟩
    · rw [g] at g'; cases g'
  have okR : gdL (sg x) = false → RE H E C := fun g => by
    rcases h with ⟨g', _⟩ | ⟨_, r⟩
    · rw [g] at g'; cases g'
    · exact r
  try walk_at "rf"
  rw [c_mi, starts_one]
  refine ite2 (fun c => ?_) fun c => ?_
  · have c' := of_decide_eq_true c
    have hf : sg (Txt.slice x (some 1) none) = fg (sg x) := by
      cases e : sg x with
      | nil => rw [e] at c'; cases c'
      | cons a r =>
        rw [e] at c'
        have : a = 45 := by simpa using c'
        subst this
        rw [slice_tail e, fg_mi]
    refine ⟨_, rfl, len_ok (by omega), .inr ⟨by simp, rfl⟩, ?_⟩
    generalize Txt.slice x (some 1) none = f at hf ⊢
    have fl : f.length = (fg (sg x)).length := by rw [← hf, sg_len]
    have fll := fg_len (sg x)
    rw [sg_len] at fll
    have fa : Asc f := asc_of fun c hc => asc_mem ha c (fg_sub _ c (by rw [← hf]; exact hc))
    refine ⟨_, ⟨len_ok (by omega), rfl⟩, ?_⟩
    refine ite2 (fun c1 => ite2 (fun c2 => ?_) fun c2 => ?_) fun c1 => ?_
    · refine ⟨_, rfl, fa, fun acc hacc => compS (fun c => .bl (decide (48 ≤ c ∧ c ≤ 57))) (show Array.size _ < 1000 from (show f.length < 1000 by omega)) hacc (fun ch H3 R hch s3' hR => ?_) fun J8 s12 e12 => ?_⟩
      · walk_at "rf"
        rw [fig_in]
        exact hR _ (fun _ _ h => h)
      have e13 : f.cps.toList.map (fun c => V.bl (decide (48 ≤ c ∧ c ≤ 57))) = (f.cps.toList.map fun c => decide (48 ≤ c ∧ c ≤ 57)).map V.bl := by rw [List.map_map]; rfl
      rw [e13] at e12
      refine ⟨_, SqL.of e12, ?_⟩
      refine ite2 (fun c3 => ?_) fun c3 => ?_
      · refine (okR ?_).all s12
        cases gg : gdL (sg x) with
        | false => rfl
        | true =>
          have := (gdL_iff.mp gg).2.2.1
          rw [← hf] at this
          have al : (f.cps.toList.map fun c => decide (48 ≤ c ∧ c ≤ 57)).all id = true := List.all_eq_true.mpr fun b hb => by
            obtain ⟨c, hc, rfl⟩ := List.mem_map.mp hb
            exact decide_eq_true (this c hc)
          rw [al] at c3
          cases c3
      · have al : ∀ c ∈ fg (sg x), 48 ≤ c ∧ c ≤ 57 := fun c hc => by
          have c3' : (f.cps.toList.map fun c => decide (48 ≤ c ∧ c ≤ 57)).all id = true := by simpa using c3
          exact of_decide_eq_true (List.all_eq_true.mp c3' _ (List.mem_map.mpr ⟨c, by rw [← hf] at hc; exact hc, rfl⟩))
        obtain ⟨c0, r0, e0⟩ := List.exists_cons_of_ne_nil (show sg f ≠ [] from fun z => by rw [← sg_len, z] at c1; exact absurd c1 (by decide))
        have g5 : f.cps[Int.toNat 0]? = some c0 := by
          have : f.cps.toList[0]? = some c0 := by show (sg f)[0]? = _; rw [e0]; rfl
          simpa using this
        have hd0 : (fg (sg x)).head? = some c0 := by rw [← hf, e0]; rfl
        refine ⟨_, rfl, Int.le_refl 0, by decide, by omega, c0, g5, ?_⟩
        refine ite2 (fun z => ?_) fun z => ?_
        · rw [c_ze] at z
          have z0 : c0 = 48 := by simpa using z
          refine ite2 (fun zx => ?_) fun zx => ?_
          · refine okI (gdL_iff.mpr ⟨by omega, by omega, al, fun w => w.2 ?_⟩) _ s12
            rw [zx, c_ze]; rfl
          · refine (okR ?_).all s12
            cases gg : gdL (sg x) with
            | false => rfl
            | true =>
              have := (gdL_iff.mp gg).2.2.2
              refine absurd ⟨by rw [hd0, z0], fun w => zx ?_⟩ this
              rw [c_ze]
              exact sg_ext w
        · refine okI (gdL_iff.mpr ⟨by omega, by omega, al, fun w => z ?_⟩) _ s12
          rw [hd0] at w
          rw [c_ze, Option.some.inj w.1]
    · refine (okR ?_).all (fun _ _ h => h)
      cases gg : gdL (sg x) with
      | false => rfl
      | true => have := (gdL_iff.mp gg).2.1; omega
    · refine (okR ?_).all (fun _ _ h => h)
      cases gg : gdL (sg x) with
      | false => rfl
      | true => have := (gdL_iff.mp gg).1; omega
  · have hf : sg x = fg (sg x) := (fg_no (fun h => c (decide_eq_true (by
      cases e : sg x with
      | nil => rw [e] at h; cases h
      | cons a r => rw [e] at h; simpa using h)))).symm
    have fl : x.length = (fg (sg x)).length := by rw [← hf, sg_len]
    have fll := fg_len (sg x)
    rw [sg_len] at fll
    have fa : Asc x := asc_of fun c hc => asc_mem ha c (fg_sub _ c (by rw [← hf]; exact hc))
    refine ⟨_, ⟨len_ok (by omega), rfl⟩, ?_⟩
    refine ite2 (fun c1 => ite2 (fun c2 => ?_) fun c2 => ?_) fun c1 => ?_
    · refine ⟨fa, fun acc hacc => compS (fun c => .bl (decide (48 ≤ c ∧ c ≤ 57))) (show Array.size _ < 1000 from (show x.length < 1000 by omega)) hacc (fun ch H3 R hch s3' hR => ?_) fun J8 s12 e12 => ?_⟩
      · walk_at "rf"
        rw [fig_in]
        exact hR _ (fun _ _ h => h)
      have e13 : x.cps.toList.map (fun c => V.bl (decide (48 ≤ c ∧ c ≤ 57))) = (x.cps.toList.map fun c => decide (48 ≤ c ∧ c ≤ 57)).map V.bl := by rw [List.map_map]; rfl
      rw [e13] at e12
      refine ⟨_, SqL.of e12, ?_⟩
      refine ite2 (fun c3 => ?_) fun c3 => ?_
      · refine (okR ?_).all s12
        cases gg : gdL (sg x) with
        | false => rfl
        | true =>
          have := (gdL_iff.mp gg).2.2.1
          rw [← hf] at this
          have al : (x.cps.toList.map fun c => decide (48 ≤ c ∧ c ≤ 57)).all id = true := List.all_eq_true.mpr fun b hb => by
            obtain ⟨c, hc, rfl⟩ := List.mem_map.mp hb
            exact decide_eq_true (this c hc)
          rw [al] at c3
          cases c3
      · have al : ∀ c ∈ fg (sg x), 48 ≤ c ∧ c ≤ 57 := fun c hc => by
          have c3' : (x.cps.toList.map fun c => decide (48 ≤ c ∧ c ≤ 57)).all id = true := by simpa using c3
          exact of_decide_eq_true (List.all_eq_true.mp c3' _ (List.mem_map.mpr ⟨c, by rw [← hf] at hc; exact hc, rfl⟩))
        obtain ⟨c0, r0, e0⟩ := List.exists_cons_of_ne_nil (show sg x ≠ [] from fun z => by rw [← sg_len, z] at c1; exact absurd c1 (by decide))
        have g5 : x.cps[Int.toNat 0]? = some c0 := by
          have : x.cps.toList[0]? = some c0 := by show (sg x)[0]? = _; rw [e0]; rfl
          simpa using this
        have hd0 : (fg (sg x)).head? = some c0 := by rw [← hf, e0]; rfl
        refine ⟨Int.le_refl 0, by decide, by omega, c0, g5, ?_⟩
        refine ite2 (fun z => ?_) fun z => ?_
        · rw [c_ze] at z
          have z0 : c0 = 48 := by simpa using z
          refine ite2 (fun zx => ?_) fun zx => ?_
          · refine okI (gdL_iff.mpr ⟨by omega, by omega, al, fun w => w.2 ?_⟩) _ s12
            rw [zx, c_ze]; rfl
          · refine (okR ?_).all s12
            cases gg : gdL (sg x) with
            | false => rfl
            | true =>
              have := (gdL_iff.mp gg).2.2.2
              refine absurd ⟨by rw [hd0, z0], fun w => zx ?_⟩ this
              rw [c_ze]
              exact sg_ext w
        · refine okI (gdL_iff.mpr ⟨by omega, by omega, al, fun w => z ?_⟩) _ s12
          rw [hd0] at w
          rw [c_ze, Option.some.inj w.1]
    · refine (okR ?_).all (fun _ _ h => h)
      cases gg : gdL (sg x) with
      | false => rfl
      | true => have := (gdL_iff.mp gg).2.1; omega
    · refine (okR ?_).all (fun _ _ h => h)
      cases gg : gdL (sg x) with
      | false => rfl
      | true => have := (gdL_iff.mp gg).1; omega
theorem split_sub {x w : Str} (h : w ∈ Txt.split x cm) : (∀ c ∈ sg w, c ∈ sg x) ∧ w.length ≤ x.length := by
  have hj := StrLaws.join_split x cm
  generalize Txt.split x cm = l at h hj
  cases l with
  | nil => cases h
  | cons y r =>
    have e := congrArg sg hj
    rw [join_sg] at e
    have sub : List.Sublist (sg w) (sg x) := by
      rw [← e]
      rcases List.mem_cons.mp h with rfl | h
      · exact List.sublist_append_left _ _
      · refine List.Sublist.trans ?_ (List.sublist_append_right _ _)
        refine List.Sublist.trans (List.sublist_append_right (sg cm) _) (List.sublist_flatten_of_mem (List.mem_map.mpr ⟨w, h, rfl⟩))
    exact ⟨fun c hc => sub.subset hc, by rw [← sg_len, ← sg_len]; exact sub.length_le⟩
theorem split_len (x : Str) : (Txt.split x cm).length ≤ x.length + 2 := by
  unfold Txt.split
  split
  · simp
  · split
    · simp
    · rw [length_partsBetween]
      have := StrLaws.occ_length_le x cm 0 x.length (x.length + 1)
      omega
theorem dv_lt : ∀ (cs : List Nat) (a : Nat), (∀ c ∈ cs, 48 ≤ c ∧ c ≤ 57) → cs.foldl (fun acc c => acc * 10 + (c - 48)) a < (a + 1) * 10 ^ cs.length
  | [], a, _ => by simp
  | c :: r, a, h => by
    have hc := h c List.mem_cons_self
    have ih := dv_lt r (a * 10 + (c - 48)) fun d hd => h d (List.mem_cons_of_mem _ hd)
    rw [List.foldl_cons, List.length_cons, Nat.pow_succ]
    refine Nat.lt_of_lt_of_le ih ?_
    rw [Nat.mul_comm (10 ^ r.length) 10, ← Nat.mul_assoc]
    exact Nat.mul_le_mul_right _ (by omega)
theorem gd_tb {x : Str} {n : Int} (h : gdL (sg x) = true) (e : PySem.intText? x = some n) : TB n := by
  obtain ⟨h1, h2, al, _⟩ := gdL_iff.mp h
  have dv : PySem.NumText.digitsVal (fg (sg x)) < 10 ^ 30 := by
    have := dv_lt (fg (sg x)) 0 al
    rw [Nat.zero_add, Nat.one_mul] at this
    exact Nat.lt_of_lt_of_le this (Nat.pow_le_pow_right (by decide) h2)
  cases es : sg x with
  | nil => rw [es] at h1; exact absurd h1 (by decide)
  | cons c r =>
    by_cases c45 : c = 45
    · subst c45
      rw [es, fg_mi] at h1 h2 al dv
      have z := intText_neg (x := x) (cs := r) es al (fun z => by rw [z] at h1; exact absurd h1 (by decide)) (by rw [← sg_len, es, List.length_cons]; omega)
      rw [e] at z
      have z := Option.some.inj z
      unfold TB
      rw [z, Int.natAbs_neg]
      exact dv
    · rw [es, fg_no (by simpa using c45)] at h1 h2 al dv
      rw [← es] at h1 h2 al dv
      have z := intText_digits (x := x) al (fun z => by rw [show sg x = [] from z] at h1; exact absurd h1 (by decide)) (by rw [← sg_len]; omega)
      rw [e] at z
      have z := Option.some.inj z
      unfold TB
      rw [z]
      exact dv
theorem part_whole (x : Str) : sg x = sg (Txt.partition x sl).1 ++ sg (Txt.partition x sl).2.1 ++ sg (Txt.partition x sl).2.2 := by
  unfold Txt.partition
  rcases StrLaws.occ_head x sl 1 (Nat.le_refl 1) with ⟨e, _⟩ | ⟨i, r, e, h1, _⟩
  · rw [e]
    show sg x = sg x ++ [] ++ []
    simp
  · rw [e]
    have h1' : (sg x)[i]? = some 47 := at_one.mp h1
    have hi := (List.getElem?_eq_some_iff.mp h1').1
    show sg x = sg (Builtin.Str.strSub x 0 i) ++ [47] ++ sg (Builtin.Str.strSub x (i + 1) x.length)
    have s1 : sg (Builtin.Str.strSub x 0 i) = (sg x).take i := by
      refine (StrLaws.strSub_toList _ _ _).trans ?_
      rw [List.drop_zero, Nat.sub_zero]
      rfl
    have s2 : sg (Builtin.Str.strSub x (i + 1) x.length) = (sg x).drop (i + 1) := by
      refine (StrLaws.strSub_toList _ _ _).trans ?_
      refine List.take_of_length_le ?_
      rw [List.length_drop, ← sg_len]
      exact Nat.le_refl _
    rw [s1, s2]
    have : (sg x)[i]'hi = 47 := (List.getElem?_eq_some_iff.mp h1').2
    conv => lhs; rw [← List.take_append_drop i (sg x), List.drop_eq_getElem_cons hi, this]
    simp
theorem part_sub (x : Str) : ((∀ c ∈ sg (Txt.partition x sl).1, c ∈ sg x) ∧ (Txt.partition x sl).1.length ≤ x.length) ∧ (∀ c ∈ sg (Txt.partition x sl).2.2, c ∈ sg x) ∧ (Txt.partition x sl).2.2.length ≤ x.length := by
  have h := part_whole x
  have hl := congrArg List.length h
  rw [List.length_append, List.length_append, sg_len, sg_len, sg_len, sg_len] at hl
  refine ⟨⟨fun c hc => ?_, by omega⟩, fun c hc => ?_, by omega⟩
  · rw [h]; exact List.mem_append_left _ (List.mem_append_left _ hc)
  · rw [h]; exact List.mem_append_right _ hc
/-- the three numbers that a part says -/
def Rd3 (x : Str) (a b c : Int) : Prop := ∃ u v t, Txt.split x cm = [u, v, t] ∧ PySem.intText? u = some a ∧ PySem.intText? v = some b ∧ PySem.intText? t = some c ∧ gdL (sg u) = true ∧ gdL (sg v) = true ∧ gdL (sg t) = true
def spR3X (C : Addr) : Sp := fun vs H Q E => ∃ x : Str, vs = [.str x] ∧ x.length ≤ 400 ∧ Asc x ∧ ((¬ B3 x ∧ ∀ (r : Addr) (H' : Hp) (a b c : Int), Rd3 x a b c → Same H H' → H' r = some (.tup [.int a, .int b, .int c]) → Q (.ref r) H') ∨ (B3 x ∧ RE H E C))
theorem ok_r3x {cs : Nat → Addr} {SE fN C : Addr} {fdN : FuncData} (T : Tc K mg t1 t2 cs SE fN C) (F_NoText : FnOk P w K mg base CX0 1 fN fdN ["self", "row"] (spInit "row" C)) (b_NoText : Binds K fdN ["self", "row"] []) (F : At K mg "read_three_wholes" s_read_three_wholes ["text"] []) (d_read_whole : DefOk P w K mg base (XOk P w) 3 "read_whole" ["text"] [] (spRWX C)) : DefOk P w K mg base (XOk P w) 4 "read_three_wholes" ["text"] [] (spR3X C) := by
  refine F.okX sc_read_three_wholes (fun vs H Q E h => ?_) (fun f cdv A outer s H vs Q E hr h => ?_)
  · obtain ⟨x, rfl, _⟩ := h
    rfl
  obtain ⟨x, rfl, hl, ha, h⟩ := h
  have S := sc_read_three_wholes
  refine ⟨_, (pss_cons (ps_set (i := 1) S.nd rfl (Or.inl rfl) (pe_callTy call_tuple_of rfl T.m_tuple boot_tuple (pa_cons (pe_compX top_cxX (fun _ _ z => z) rfl (N' := ["word"]) (ix := []) ⟨rfl, rfl, by decide +kernel, by decide +kernel, rfl, by decide +kernel, (show ∀ y : Str × NameKind, y ∈ _ → y.2 = NameKind.free → (defScope s_read_three_wholes).names.lookup y.1 = some .cell ∨ (defScope s_read_three_wholes).names.lookup y.1 = some .free from by decide +kernel), .nil⟩ (pi_list (pe_bm PySem.F.plainAttrs_str PySem.F.slot_str_split PySem.F.type_str_split mt_split (pv 0) (pa_cons pe_str pa_nil se_con))) (fun _ _ _ _ => pg_name (i := 0) (show (["word"] : List Str).Nodup from by decide +kernel) rfl (Or.inl rfl)) (fun _ _ _ _ => pts_nil) (fun _ _ _ _ => (pe_callD d_read_whole (hr.mono (by decide)) rfl passC (pa_cons (pv 0) pa_nil se_nam)))) pa_nil se_cmp)))
    (pss_cons (ps_if (pt_cmpR op_ne (pe_callB call_len_seq rfl T.m_len PySem.boot_len (pa_cons (pv 1) pa_nil se_nam)) pe_int (nomark _))
    (pss_one (ps_raiseE rfl T.o_NoText (pe_excI T.o_NoText F_NoText (hr.mono (by decide)) rfl T.m_NoText b_NoText pass0 (pa_cons pe_int pa_nil se_con)) raisesD1))
    pss_nil)
    (pss_one (ps_ret (pv 1))))), ?_⟩
  try simp only [L2.tExcI]
  try walk_at "rf"
  try simp only [L2.tExcI]
  have ecm : Str.ofString "," = cm := c_cm
  rw [ecm]
  have sl' := split_len x
  have okR : B3 x → RE H E C := fun b => by
    rcases h with ⟨n, _⟩ | ⟨_, r⟩
    · exact absurd b n
    · exact r
  have sub : ∀ w ∈ Txt.split x cm, w.length ≤ 400 ∧ Asc w := fun w hw => by
    obtain ⟨h1, h2⟩ := split_sub hw
    exact ⟨by omega, asc_of fun c hc => asc_mem ha c (h1 c hc)⟩
  refine ⟨rfl, len_ok (by omega), len_ok (by omega), ?_, fun p hp => ?_⟩
  · rw [length_partsBetween]
    have := StrLaws.occ_length_le x cm 0 x.length (x.length + 1)
    exact len_ok (by omega)
  have bw : ∀ w ∈ Txt.split x cm, gdL (sg w) = false → B3 x := fun w hw g => .inl ⟨w, hw, g⟩
  have b3 : (Txt.split x cm).length ≠ 3 → B3 x := fun n => .inr n
  have nb3 : B3 x → (∀ w ∈ Txt.split x cm, gdL (sg w) = true) → (Txt.split x cm).length ≠ 3 := fun b g => by
    rcases b with ⟨w, hw, z⟩ | z
    · rw [g w hw] at z; cases z
    · exact z
  have rd : ∀ a b c u v t, Txt.split x cm = [u, v, t] → PySem.intText? u = some a → PySem.intText? v = some b → PySem.intText? t = some c → gdL (sg u) = true → gdL (sg v) = true → gdL (sg t) = true → Rd3 x a b c := fun a b c u v t e h1 h2 h3 h4 h5 h6 => ⟨u, v, t, e, h1, h2, h3, h4, h5, h6⟩
  generalize Txt.split x cm = ws at sl' sub bw b3 nb3 rd ⊢
  have s1 := Same.new hp (.lst (ws.map V.str))
  have e1 : upd H p (.lst (ws.map V.str)) p = some (.lst (ws.map V.str)) := upd_same
  generalize upd H p (.lst (ws.map V.str)) = H1 at s1 e1 ⊢
  have k1 : SqL K H1 p (ws.map V.str) := SqL.of e1
  refine ⟨⟨_, k1⟩, fun acc hacc => compLq (zs := ws.map V.str) (fun i y _ => ∃ n w, ws[i]? = some w ∧ y = .int n ∧ PySem.intText? w = some n ∧ gdL (sg w) = true) (fun _ _ _ _ h _ => h) (by rw [List.length_map]; omega) hacc k1 (fun i z0 H3 R hz0 s3' hR => ?_) fun ys J8 s12 e12 l12 p12 => ?_⟩
  · rw [List.getElem?_map] at hz0
    obtain ⟨w, hw, rfl⟩ := Option.map_eq_some_iff.mp hz0
    have wm := List.mem_of_getElem? hw
    walk_at "rf"
    refine ⟨w, rfl, (sub w wm).1, (sub w wm).2, ?_⟩
    cases g : gdL (sg w) with
    | true => exact .inl ⟨rfl, fun n e H' s' => hR _ _ s' ⟨n, w, hw, rfl, e, g⟩⟩
    | false => exact .inr ⟨rfl, (okR (bw w wm g)).keep (s1.trans s3')⟩
  rw [List.length_map] at l12
  have gall : ∀ w ∈ ws, gdL (sg w) = true := fun w hw => by
    obtain ⟨i, hi, rfl⟩ := List.mem_iff_getElem.mp hw
    obtain ⟨n, w', e', _, _, g⟩ := p12 i ys[i] (List.getElem?_eq_getElem (by omega))
    rw [List.getElem?_eq_getElem hi] at e'
    cases e'
    exact g
  refine ⟨_, .inl ⟨SqL.of e12, fun l hl' => ⟨_, .inr (SqT.of upd_same), ?_⟩⟩⟩
  have s4 := Same.new hl' (.tup ys)
  have S4 := (s1.trans s12).trans s4
  refine ite2 (fun c3 => ?_) fun c3 => (okR (b3 fun z => c3 (by rw [l12, z]; rfl))).all S4
  have l3 : ws.length = 3 := by omega
  rcases h with ⟨_, q⟩ | ⟨b, _⟩
  · match ws, ys, l3, l12, p12, c3, rd with
    | [u, v, t], [y0, y1, y2], _, _, p12, _, rd =>
      obtain ⟨a, w0, h0, rfl, i0, g0⟩ := p12 0 y0 rfl
      obtain ⟨b, w1, h1, rfl, i1, g1⟩ := p12 1 y1 rfl
      obtain ⟨c, w2, h2, rfl, i2, g2⟩ := p12 2 y2 rfl
      cases h0
      cases h1
      cases h2
      exact q l _ a b c (rd a b c _ _ _ rfl i0 i1 i2 g0 g1 g2) S4 upd_same
  · exact absurd l3 (nb3 b gall)
def spWBX (C : Addr) : Sp := fun vs H Q E => ∃ (r : Addr) (sla tx : Str) (a b c : Int), vs = [.ref r, .str sla, .str tx] ∧ H r = some (.tup [.int a, .int b, .int c]) ∧ TB a ∧ TB b ∧ TB c ∧ tx.length ≤ 400 ∧ Asc tx ∧
  ((sla = Str.empty ∧ ∀ (r' : Addr) (H' : Hp), Same H H' → H' r' = some (.tup [.int a, .int b, .int c, .int 1]) → Q (.ref r') H') ∨
   (sla = sl ∧ ∃ d, gdL (sg tx) = true ∧ PySem.intText? tx = some d ∧ 1 < d ∧ gl [a, b, c, d] = 1 ∧ ∀ (r' : Addr) (H' : Hp), Same H H' → H' r' = some (.tup [.int a, .int b, .int c, .int d]) → Q (.ref r') H') ∨
   (sla = sl ∧ (gdL (sg tx) = false ∨ ∃ d, gdL (sg tx) = true ∧ PySem.intText? tx = some d ∧ (d ≤ 1 ∨ gl [a, b, c, d] ≠ 1)) ∧ RE H E C))
theorem ok_wbx {cs : Nat → Addr} {SE fN C : Addr} {fdN : FuncData} (T : Tc K mg t1 t2 cs SE fN C) (F_NoText : FnOk P w K mg base CX0 1 fN fdN ["self", "row"] (spInit "row" C)) (b_NoText : Binds K fdN ["self", "row"] []) (F : At K mg "with_bottom" s_with_bottom ["numbers", "slash", "text"] []) (d_read_whole : DefOk P w K mg base (XOk P w) 3 "read_whole" ["text"] [] (spRWX C)) (d_in_lowest_terms : DefOk P w K mg base CX0 2 "in_lowest_terms" ["numbers"] [] spLow) : DefOk P w K mg base (XOk P w) 4 "with_bottom" ["numbers", "slash", "text"] [] (spWBX C) := by
  refine F.okX sc_with_bottom (fun vs H Q E h => ?_) (fun f cdv A outer s H vs Q E hr h => ?_)
  · obtain ⟨r, sla, tx, a, b, c, rfl, _⟩ := h
    rfl
  obtain ⟨r, sla, tx, a, b, c, rfl, e0, ha, hb, hc, hl, hasc, h⟩ := h
  have S := sc_with_bottom
  refine ⟨_, (pss_cons (ps_if (pt_cmpR op_eq (pv 1) pe_str (nomark _))
    (pss_one (ps_ret (pe_op op_catT (pv 0) (pe_tup (pa_cons pe_int pa_nil se_con)))))
    pss_nil)
    (pss_cons (ps_set (i := 3) S.nd rfl (Or.inl rfl) (pe_op op_catT (pv 0) (pe_tup (pa_cons (pe_callD d_read_whole (hr.mono (by decide)) rfl pass1 (pa_cons (pv 2) pa_nil se_nam)) pa_nil se_cal))))
    (pss_cons (ps_if (PW.pt (pw_or (pt_cmpR op_le (pe_ix ix_tup (pv 3) (pe_un un_neg pe_int) (fun _ _ => rfl)) pe_int (nomark _)) (pw_or1 (pt_cmpR (op_neD (un64 hr)) (pe_callD d_in_lowest_terms (hr.mono (by decide)) rfl pass0 (pa_cons (pv 3) pa_nil se_nam)) (pv 3) (nomark _)))))
    (pss_one (ps_raiseE rfl T.o_NoText (pe_excI T.o_NoText F_NoText (hr.mono (by decide)) rfl T.m_NoText b_NoText pass0 (pa_cons pe_int pa_nil se_con)) raisesD1))
    pss_nil)
    (pss_one (ps_ret (pv 3)))))), ?_⟩
  try simp only [L2.tExcI]
  try walk_at "rf"
  try simp only [L2.tExcI]
  have e_em : Str.ofString "" = Str.empty := by decide +kernel
  rw [e_em]
  refine ite2 (fun c0 => ?_) fun c0 => ?_
  · rcases h with ⟨_, q⟩ | ⟨h, _⟩ | ⟨h, _⟩
    · refine ⟨by decide, fun p hp => ?_⟩
      have s1 := Same.new hp (.tup [V.int 1])
      refine ⟨r, p, _, _, rfl, rfl, SqT.of (s1 _ _ e0), SqT.of upd_same, List.cons_ne_nil _ _, len_ok (show 3 + 1 < 1000 by decide), fun h => absurd h (List.cons_ne_nil _ _), fun _ p2 hp2 => ?_⟩
      exact q p2 _ (s1.trans (Same.new hp2 _)) upd_same
    · rw [h] at c0; exact absurd c0 (by decide)
    · rw [h] at c0; exact absurd c0 (by decide)
  · have good : ∀ d, gdL (sg tx) = true → PySem.intText? tx = some d → (d ≤ 1 ∨ gl [a, b, c, d] ≠ 1 → RE H E C) → (1 < d → gl [a, b, c, d] = 1 → ∀ (r' : Addr) (H' : Hp), Same H H' → H' r' = some (.tup [.int a, .int b, .int c, .int d]) → Q (.ref r') H') → ∀ (H1 : Hp), Same H H1 → (1 ≤ sizeLine ∧ ∀ p : Addr, H1 p = none → rCatT K (V.ref r) (V.ref p) (upd H1 p (.tup [V.int d])) fun x H1 => rIxT K x (V.int (-1)) H1 fun x_1 H1 => ∃ i, x_1 = V.int i ∧ if i ≤ 1 then 1 ≤ sizeLine ∧ ∀ q : Addr, H1 q = none → spInit "row" C [V.ref q, V.int 0] (upd H1 q (Exc0 q C)) (fun v H2 => v = V.non ∧ H q = none ∧ ∃ x, H2 q = some (ExcD q C x) ∧ E (Value.ref C) (some x) (del H2 q)) E0 else spLow [x] H1 (fun x_2 H1 => rEqD K true x_2 x H1 fun x_3 H' => ∃ k, x_3 = V.bl k ∧ if k = true then 1 ≤ sizeLine ∧ ∀ q : Addr, H' q = none → spInit "row" C [V.ref q, V.int 0] (upd H' q (Exc0 q C)) (fun v H2 => v = V.non ∧ H q = none ∧ ∃ x, H2 q = some (ExcD q C x) ∧ E (Value.ref C) (some x) (del H2 q)) E0 else Q x H') E0) := fun d g ed rE qG H1 s1 => by
      have hd := gd_tb g ed
      refine ⟨by decide, fun p hp => ?_⟩
      have s2 := Same.new hp (.tup [V.int d])
      refine ⟨r, p, _, _, rfl, rfl, SqT.of (s2 _ _ (s1 _ _ e0)), SqT.of upd_same, List.cons_ne_nil _ _, len_ok (show 3 + 1 < 1000 by decide), fun h => absurd h (List.cons_ne_nil _ _), fun _ p2 hp2 => ?_⟩
      have s3 := Same.new hp2 (.tup [V.int a, V.int b, V.int c, V.int d])
      have e3 : upd (upd H1 p (.tup [V.int d])) p2 (.tup [V.int a, V.int b, V.int c, V.int d]) p2 = some (.tup [V.int a, V.int b, V.int c, V.int d]) := upd_same
      show rIxT K (V.ref p2) (V.int (-1)) (upd (upd H1 p (.tup [V.int d])) p2 (.tup [V.int a, V.int b, V.int c, V.int d])) _
      generalize upd (upd H1 p (.tup [V.int d])) p2 (.tup [V.int a, V.int b, V.int c, V.int d]) = J at s3 e3 ⊢
      have S3 : Same H J := s1.trans (s2.trans s3)
      refine ixT (SqT.of e3) (i := -1) rfl ⟨d, rfl, ?_⟩
      refine ite2 (fun d1 => (rE (.inl d1)).all S3) fun d1 => ?_
      have g0 : 0 < gl [a, b, c, d] := gl_pos (n := d) (by simp) (by omega)
      have sm : ∀ {n : Int}, TB n → Small n := fun h => Nat.lt_of_lt_of_le h (by decide +kernel)
      refine ⟨p2, [a, b, c, d], rfl, e3, show 4 ≤ 10 by decide, fun n hn => ?_, by omega, fun gr J2 s4 e4 => ?_⟩
      · rcases List.mem_cons.mp hn with rfl | hn
        · exact sm ha
        rcases List.mem_cons.mp hn with rfl | hn
        · exact sm hb
        rcases List.mem_cons.mp hn with rfl | hn
        · exact sm hc
        rw [List.mem_singleton] at hn; subst hn
        exact sm hd
      · refine neT_ints (x := [a, b, c, d].map (· / gl [a, b, c, d])) (y := [a, b, c, d]) (SqT.of e4) (SqT.of (s4 _ _ e3)) ⟨_, rfl, ?_⟩
        by_cases hg : gl [a, b, c, d] = 1
        · have e5 : [a, b, c, d].map (· / gl [a, b, c, d]) = [a, b, c, d] := by rw [hg]; simp
          rw [e5, if_neg (by simp)]
          exact qG (by omega) hg p2 _ (S3.trans s4) (s4 _ _ e3)
        · have ne : ¬ [a, b, c, d].map (· / gl [a, b, c, d]) = [a, b, c, d] := fun z => by
            have z : d / gl [a, b, c, d] = d := by
              simp only [List.map_cons, List.map_nil, List.cons.injEq, and_true] at z
              exact z.2.2.2
            have m := Int.ediv_mul_cancel (gl_dvd (ns := [a, b, c, d]) (n := d) (by simp))
            rw [z] at m
            have : d * (gl [a, b, c, d] - 1) = 0 := by rw [Int.mul_sub, m]; omega
            rcases Int.mul_eq_zero.mp this with h | h <;> omega
          rw [decide_eq_false ne, if_pos (by decide)]
          exact (rE (.inr hg)).all (S3.trans s4)
    rcases h with ⟨h, _⟩ | ⟨_, d, g, ed, d1, hg, q⟩ | ⟨_, hb', rE⟩
    · exact absurd h c0
    · exact ⟨tx, rfl, hl, hasc, .inl ⟨g, fun n e H1 s1 => by
        rw [ed] at e
        cases e
        exact good d g ed (fun z => by rcases z with z | z; · omega
                                       · exact absurd hg z) (fun _ _ => q) H1 s1⟩⟩
    · rcases hb' with g | ⟨d, g, ed, hbad⟩
      · exact ⟨tx, rfl, hl, hasc, .inr ⟨g, rE⟩⟩
      · exact ⟨tx, rfl, hl, hasc, .inl ⟨g, fun n e H1 s1 => by
          rw [ed] at e
          cases e
          exact good d g ed (fun _ => rE) (fun z1 z2 => by rcases hbad with z | z; · omega
                                                           · exact absurd z2 z) H1 s1⟩⟩
/-- a text that says no spot -/
def Bs (x : Str) : Prop := B3 (Txt.partition x sl).1 ∨ (¬ B3 (Txt.partition x sl).1 ∧ (Txt.partition x sl).2.1 = sl ∧ (gdL (sg (Txt.partition x sl).2.2) = false ∨ ∃ d, gdL (sg (Txt.partition x sl).2.2) = true ∧ PySem.intText? (Txt.partition x sl).2.2 = some d ∧ (d ≤ 1 ∨ ∀ a b c, Rd3 (Txt.partition x sl).1 a b c → gl [a, b, c, d] ≠ 1)))
def spRSX (C : Addr) : Sp := fun vs H Q E => ∃ x : Str, vs = [.str x] ∧ x.length ≤ 400 ∧ Asc x ∧
  ((∃ a b c d : Int, x = overT (tx3 a b c) d ∧ TB a ∧ TB b ∧ TB c ∧ TB d ∧ 1 ≤ d ∧ gl [a, b, c, d] = 1 ∧ ∀ (r : Addr) (H' : Hp), Same H H' → H' r = some (.tup [.int a, .int b, .int c, .int d]) → Q (.ref r) H') ∨ (Bs x ∧ RE H E C))
theorem tx3_split (a b c : Int) : Txt.split (tx3 a b c) cm = [dec a, dec b, dec c] := by
  have ea : ∀ n : Int, 44 ∉ sg (dec n) := fun n h => by rcases dec_mem h with h | h <;> omega
  exact split_join (c := 44) (ea a) (fun y hy => by
    rcases List.mem_cons.mp hy with rfl | hy
    · exact ea b
    · rw [List.mem_singleton] at hy; subst hy; exact ea c)
theorem tx3_good {a b c : Int} (ha : TB a) (hb : TB b) (hc : TB c) : ¬ B3 (tx3 a b c) := fun h => by
  rcases h with ⟨w, hw, g⟩ | h
  · rw [tx3_split] at hw
    rcases List.mem_cons.mp hw with rfl | hw
    · rw [gd_dec ha] at g; cases g
    rcases List.mem_cons.mp hw with rfl | hw
    · rw [gd_dec hb] at g; cases g
    rw [List.mem_singleton] at hw; subst hw
    rw [gd_dec hc] at g; cases g
  · rw [tx3_split] at h; exact h rfl
theorem tx3_rd {a b c a' b' c' : Int} (ha : TB a) (hb : TB b) (hc : TB c) (h : Rd3 (tx3 a b c) a' b' c') : a' = a ∧ b' = b ∧ c' = c := by
  obtain ⟨u, v, t, e, h1, h2, h3, _⟩ := h
  rw [tx3_split] at e
  cases e
  rw [dec_read ha] at h1
  rw [dec_read hb] at h2
  rw [dec_read hc] at h3
  exact ⟨(Option.some.inj h1).symm, (Option.some.inj h2).symm, (Option.some.inj h3).symm⟩
theorem tx3_47 (a b c : Int) : 47 ∉ sg (tx3 a b c) := fun h => by
  rw [tx3_sg] at h
  rcases List.mem_append.mp h with h | h
  · rcases dec_mem h with h | h <;> omega
  rcases List.mem_cons.mp h with h | h
  · omega
  rcases List.mem_append.mp h with h | h
  · rcases dec_mem h with h | h <;> omega
  rcases List.mem_cons.mp h with h | h
  · omega
  · rcases dec_mem h with h | h <;> omega
theorem over_part (a b c d : Int) : Txt.partition (overT (tx3 a b c) d) sl = (tx3 a b c, if d = 1 then Str.empty else sl, if d = 1 then Str.empty else dec d) := by
  unfold overT
  split
  · exact part_no (tx3_47 a b c)
  · exact part_at (tx3_47 a b c)
theorem ok_rsx {cs : Nat → Addr} {SE fN C : Addr} (T : Tc K mg t1 t2 cs SE fN C) (F : At K mg "read_spot" s_read_spot ["text"] []) (d_with_bottom : DefOk P w K mg base (XOk P w) 4 "with_bottom" ["numbers", "slash", "text"] [] (spWBX C)) (d_read_three_wholes : DefOk P w K mg base (XOk P w) 4 "read_three_wholes" ["text"] [] (spR3X C)) : DefOk P w K mg base (XOk P w) 5 "read_spot" ["text"] [] (spRSX C) := by
  refine F.okX sc_read_spot (fun vs H Q E h => ?_) (fun f cdv A outer s H vs Q E hr h => ?_)
  · obtain ⟨x, rfl, _⟩ := h
    rfl
  obtain ⟨x, rfl, hl, ha, h⟩ := h
  have S := sc_read_spot
  refine ⟨_, (pss_cons (ps_set (i := 1) S.nd rfl (Or.inl rfl) (pe_bm PySem.F.plainAttrs_str PySem.F.slot_str_partition PySem.F.type_str_partition mt_partition (pv 0) (pa_cons pe_str pa_nil se_con)))
    (pss_one (ps_ret (pe_callD d_with_bottom (hr.mono (by decide)) rfl pass1 (pa_cons (pe_callD d_read_three_wholes (hr.mono (by decide)) rfl pass1 (pa_cons (pe_ix ix_tup (pv 1) pe_int (fun _ _ => rfl)) pa_nil se_sub)) (pa_cons (pe_ix ix_tup (pv 1) pe_int (fun _ _ => rfl)) (pa_cons (pe_ix ix_tup (pv 1) pe_int (fun _ _ => rfl)) pa_nil se_sub) se_sub) se_cal))))), ?_⟩
  try walk_at "rf"
  have esl : Str.ofString "/" = sl := c_sl
  rw [esl]
  have ps := part_sub x
  refine ⟨rfl, len_ok (by omega), fun p hp => ?_⟩
  have A1 : (Txt.partition x sl).1.length ≤ 400 ∧ Asc (Txt.partition x sl).1 := ⟨by omega, asc_of fun c hc => asc_mem ha c (ps.1.1 c hc)⟩
  have A3 : (Txt.partition x sl).2.2.length ≤ 400 ∧ Asc (Txt.partition x sl).2.2 := ⟨by omega, asc_of fun c hc => asc_mem ha c (ps.2.1 c hc)⟩
  have s1 := Same.new hp (.tup [V.str (Txt.partition x sl).1, V.str (Txt.partition x sl).2.1, V.str (Txt.partition x sl).2.2])
  have e1 : upd H p (.tup [V.str (Txt.partition x sl).1, V.str (Txt.partition x sl).2.1, V.str (Txt.partition x sl).2.2]) p = some (.tup [V.str (Txt.partition x sl).1, V.str (Txt.partition x sl).2.1, V.str (Txt.partition x sl).2.2]) := upd_same
  generalize upd H p (.tup [V.str (Txt.partition x sl).1, V.str (Txt.partition x sl).2.1, V.str (Txt.partition x sl).2.2]) = H1 at s1 e1 ⊢
  have k1 : SqT K H1 p [V.str (Txt.partition x sl).1, V.str (Txt.partition x sl).2.1, V.str (Txt.partition x sl).2.2] := SqT.of e1
  refine ixT k1 (i := 0) rfl ⟨_, rfl, A1.1, A1.2, ?_⟩
  rcases h with ⟨a, b, c, d, rfl, ha', hb, hc, hd, d1, hg, q⟩ | ⟨hB, rE⟩
  · rw [over_part] at k1 A3 ⊢
    refine .inl ⟨tx3_good ha' hb hc, fun r H2 a' b' c' rd s2 e2 => ?_⟩
    obtain ⟨rfl, rfl, rfl⟩ := tx3_rd ha' hb hc rd
    refine ixT (s2.tup k1) (i := 1) rfl (ixT (s2.tup k1) (i := 2) rfl ⟨r, _, _, _, _, _, rfl, e2, ha', hb, hc, A3.1, A3.2, ?_⟩)
    by_cases h : d = 1
    · subst h
      exact .inl ⟨by first | rfl | trivial, fun r' H3 s3 e3 => q r' H3 ((s1.trans s2).trans s3) e3⟩
    · simp only [if_neg h]
      exact .inr (.inl ⟨by first | rfl | trivial, d, gd_dec hd, dec_read hd, by omega, hg, fun r' H3 s3 e3 => q r' H3 ((s1.trans s2).trans s3) e3⟩)
  · rcases hB with b3 | ⟨nb, es, hb⟩
    · exact .inr ⟨b3, rE.keep s1⟩
    · refine .inl ⟨nb, fun r H2 a b c rd s2 e2 => ?_⟩
      obtain ⟨u, v, t, esp, i0, i1, i2, g0, g1, g2⟩ := id rd
      refine ixT (s2.tup k1) (i := 1) rfl (ixT (s2.tup k1) (i := 2) rfl ⟨r, _, _, a, b, c, rfl, e2, gd_tb g0 i0, gd_tb g1 i1, gd_tb g2 i2, A3.1, A3.2, .inr (.inr ⟨es, ?_, rE.keep (s1.trans s2)⟩)⟩)
      rcases hb with g | ⟨d, g, ed, hd⟩
      · exact .inl g
      · exact .inr ⟨d, g, ed, hd.imp_right fun z => z a b c rd⟩
def spRef : Sp := fun vs H Q _ => ∃ x : Str, vs = [.str x] ∧ x.length ≤ 400 ∧ Asc x ∧ Bs x ∧ ∀ H', Same H H' → Q (.bl true) H'
theorem ok_refused {cs : Nat → Addr} {SE fN C : Addr} (T : Tc K mg t1 t2 cs SE fN C) (F : At K mg "_law_refused" s__law_refused ["text"] []) (d_read_spot : DefOk P w K mg base (XOk P w) 5 "read_spot" ["text"] [] (spRSX C)) : DefOk P w K mg base CX0 6 "_law_refused" ["text"] [] spRef := by
  refine F.ok sc__law_refused (fun vs H Q E h => ?_) (fun f cdv A outer s H vs Q E hr h => ?_)
  · obtain ⟨x, rfl, _⟩ := h
    rfl
  obtain ⟨x, rfl, hl, ha, hB, q⟩ := h
  have S := sc__law_refused
  refine ⟨_, (pss_cons (ps_set (i := 1) S.nd rfl (Or.inl rfl) pe_non)
    (pss_cons (ps_tryAsD (i := 2) (top_nox top_cxX) rfl T.m_SightError S.nd rfl rfl (Or.inl rfl) (psx_expr (px_callD d_read_spot (hr.mono (by decide)) rfl (pa_cons (pv 0) pa_nil se_nam))) (fun _ => (pss_one (ps_set (i := 1) S.nd rfl (Or.inl rfl) (pv 2)))))
    (pss_cons (ps_if (pt_val (pe_callB (call_isinstDK (K := K) rfl) rfl T.m_isinstance boot_isinstance (pa_cons (pv 1) (pa_cons (pe_tup (pa_cons (pe_glob rfl T.m_NoBoard T.r_NoBoard) (pa_cons (pe_glob rfl T.m_NoDeed T.r_NoDeed) (pa_cons (pe_glob rfl T.m_NoFrame T.r_NoFrame) (pa_cons (pe_glob rfl T.m_NoName T.r_NoName) (pa_cons (pe_glob rfl T.m_NoNumber T.r_NoNumber) (pa_cons (pe_glob rfl T.m_NoPlane T.r_NoPlane) (pa_cons (pe_glob rfl T.m_NoSpot T.r_NoSpot) (pa_cons (pe_glob rfl T.m_NotFree T.r_NotFree) (pa_cons (pe_glob rfl T.m_TooMany T.r_TooMany) pa_nil se_nam) se_nam) se_nam) se_nam) se_nam) se_nam) se_nam) se_nam) se_nam)) pa_nil se_tup) se_nam)))
    (pss_one (ps_ret pe_bl))
    pss_nil)
    (pss_cons (ps_if (PW.pt (pw_or (pt_not (pt_val (pe_callB (call_isinstDK (K := K) rfl) rfl T.m_isinstance boot_isinstance (pa_cons (pv 1) (pa_cons (pe_glob rfl T.m_NoText T.r_NoText) pa_nil se_nam) se_nam)))) (pw_or1 (pt_not (pt_val (pe_callB (call_isinstDK (K := K) rfl) rfl T.m_isinstance boot_isinstance (pa_cons (pv 1) (pa_cons (pe_bltn (v := .ty "ValueError") rfl T.m_ValueError boot_ValueError rfl) pa_nil se_nam) se_nam)))))))
    (pss_one (ps_ret pe_bl))
    pss_nil)
    (pss_one (ps_ret (pe_and (pe_callB call_isinst rfl T.m_isinstance boot_isinstance (pa_cons (pe_fldC (K := K) rfl (pv 1)) (pa_cons (pe_bltn (v := .ty "int") rfl T.m_int boot_int rfl) pa_nil se_nam) se_att)) (pe_and (pe_not (pe_callB call_isinst rfl T.m_isinstance boot_isinstance (pa_cons (pe_fldC (K := K) rfl (pv 1)) (pa_cons (pe_bltn (v := .ty "bool") rfl T.m_bool boot_bool rfl) pa_nil se_nam) se_att))) (pe_one (pe_cmpR op_eq (pe_fldC (K := K) rfl (pv 1)) pe_int (nomark _))))))))))), ?_⟩
  try walk_at "rf"
  refine ⟨x, rfl, hl, ha, .inr ⟨hB, fun dx H1 s1 ed => ⟨C, rfl, dx, rfl, T.em, fun ea hea => ?_⟩⟩⟩
  simp only [L2.tFldC, L2.Ends.gone]
  try walk_at "rf"
  have se := Same.new hea (CaughtD ea C dx)
  have ee : upd H1 ea (CaughtD ea C dx) ea = some (CaughtD ea C dx) := upd_same
  generalize upd H1 ea (CaughtD ea C dx) = H2 at se ee ⊢
  refine ⟨by decide, fun t ht => ?_⟩
  have st := Same.new ht (.tup [V.ref (cs 0), V.ref (cs 1), V.ref (cs 2), V.ref (cs 3), V.ref (cs 4), V.ref (cs 5), V.ref (cs 6), V.ref (cs 7), V.ref (cs 8)])
  have et : upd H2 t (.tup [V.ref (cs 0), V.ref (cs 1), V.ref (cs 2), V.ref (cs 3), V.ref (cs 4), V.ref (cs 5), V.ref (cs 6), V.ref (cs 7), V.ref (cs 8)]) t = some (.tup [V.ref (cs 0), V.ref (cs 1), V.ref (cs 2), V.ref (cs 3), V.ref (cs 4), V.ref (cs 5), V.ref (cs 6), V.ref (cs 7), V.ref (cs 8)]) := upd_same
  generalize upd H2 t (.tup [V.ref (cs 0), V.ref (cs 1), V.ref (cs 2), V.ref (cs 3), V.ref (cs 4), V.ref (cs 5), V.ref (cs 6), V.ref (cs 7), V.ref (cs 8)]) = H3 at st et ⊢
  have eC := st _ _ ee
  have eD := st _ _ (se _ _ ed)
  refine ⟨C, dx, eC, T.xc, false, .inr ⟨(List.range 9).map cs, et, T.kO⟩, ?_⟩
  rw [if_neg (by decide)]
  refine ⟨C, dx, eC, T.xc, true, .inl T.kF, ?_⟩
  rw [if_neg (by decide)]
  refine ⟨C, dx, eC, T.xc, true, T.kV, ?_⟩
  rw [if_neg (by decide)]
  simp only [L2.tFldC]
  try walk_at "rf"
  refine ⟨C, dx, eC, _, eD, T.xc, T.xa, _, rfl, _, .int 0, _, rfl, ?_⟩
  rw [if_pos rfl]
  refine ⟨C, dx, eC, _, eD, T.xc, T.xa, _, rfl, _, .int 0, _, rfl, ?_⟩
  rw [if_pos (by decide)]
  refine ⟨C, dx, eC, _, eD, T.xc, T.xa, _, rfl, ?_⟩
  exact ⟨rfl, q _ (s1.trans (se.trans st))⟩
def spWords : Sp := fun vs H Q _ => ∃ (r : Addr) (a b c d : Int), vs = [.ref r] ∧ H r = some (.tup [.int a, .int b, .int c, .int d]) ∧ TB a ∧ TB b ∧ TB c ∧ TB d ∧ ∀ (l : Addr) (H' : Hp), H l = none → Same H H' → H' l = some (.lst ([dec a, dec b, dec c, dec d].map V.str)) → Q (.ref l) H'
theorem ok_words (T : Tx K mg t1 t2) (F : At K mg "_law_words" s__law_words ["spot"] []) : DefOk P w K mg base CX0 1 "_law_words" ["spot"] [] spWords := by
  refine F.ok sc__law_words (fun vs H Q E h => ?_) (fun f cdv A outer s H vs Q E hr h => ?_)
  · obtain ⟨r, a, b, c, d, rfl, _⟩ := h
    rfl
  obtain ⟨r, a, b, c, d, rfl, e0, ha, hb, hc, hd, q⟩ := h
  have S := sc__law_words
  refine ⟨_, (pss_one (ps_ret (pe_comp rfl (N' := ["number"]) (ix := []) ⟨rfl, rfl, by decide +kernel, by decide +kernel, rfl, by decide +kernel, (show ∀ y : Str × NameKind, y ∈ _ → y.2 = NameKind.free → (defScope s__law_words).names.lookup y.1 = some .cell ∨ (defScope s__law_words).names.lookup y.1 = some .free from by decide +kernel), .nil⟩ (pi_tup (pv 0)) (fun _ _ _ _ => pg_name (i := 0) (show (["number"] : List Str).Nodup from by decide +kernel) rfl (Or.inl rfl)) (fun _ _ _ _ => pts_nil) (fun _ _ _ _ => (pe_callTy call_strI rfl T.m_str boot_str (pa_cons (pv 0) pa_nil se_nam)))))), ?_⟩
  have k0 : SqT K H r [.int a, .int b, .int c, .int d] := SqT.of e0
  try walk_at "rf"
  refine ⟨⟨_, k0⟩, fun acc hacc => compT (zs := [V.int a, V.int b, V.int c, V.int d]) fdec (show 4 < 1000 by decide) hacc k0 (fun z0 H3 R hz0 s3' hR => ?_) fun J8 s12 e12 => q acc J8 hacc s12 e12⟩
  walk_at "rf"
  rcases List.mem_cons.mp hz0 with rfl | hz0
  · exact ⟨a, rfl, ha.st, hR _ (fun _ _ h => h)⟩
  rcases List.mem_cons.mp hz0 with rfl | hz0
  · exact ⟨b, rfl, hb.st, hR _ (fun _ _ h => h)⟩
  rcases List.mem_cons.mp hz0 with rfl | hz0
  · exact ⟨c, rfl, hc.st, hR _ (fun _ _ h => h)⟩
  rw [List.mem_singleton] at hz0; subst hz0
  exact ⟨d, rfl, hd.st, hR _ (fun _ _ h => h)⟩
def j3 (u v t : Str) : Str := Str.join cm [u, v, t]
theorem j3_sg (u v t : Str) : sg (j3 u v t) = sg u ++ 44 :: (sg v ++ 44 :: sg t) := by
  unfold j3
  rw [join_sg]
  show sg u ++ ((44 :: sg v) ++ ((44 :: sg t) ++ [])) = _
  simp
theorem j3_app (u v t : Str) : j3 u v t = u ++ cm ++ (v ++ cm ++ t) := sg_ext (by
  rw [j3_sg, sg_app, sg_app, sg_app, sg_app]
  show _ = sg u ++ [44] ++ (sg v ++ [44] ++ sg t)
  simp)
def o1 : Str := ⟨#[49]⟩
def jnd (u v t z : Str) : Str := if z = o1 then j3 u v t else j3 u v t ++ sl ++ z
def spJoined : Sp := fun vs H Q _ => ∃ (l : Addr) (u v t z : Str), vs = [.ref l] ∧ H l = some (.lst ([u, v, t, z].map V.str)) ∧ u.length ≤ 60 ∧ v.length ≤ 60 ∧ t.length ≤ 60 ∧ z.length ≤ 60 ∧ ∀ H', Same H H' → Q (.str (jnd u v t z)) H'
theorem join3_ok {x y z : Str} (hx : x.length ≤ 60) (hy : y.length ≤ 60) (hz : z.length ≤ 60) : JoinOk (Str.ofString ",") [x, y, z] = true := by
  unfold JoinOk
  rw [StrLaws.joinFits (B := 60) (fun w hw => ?_) (by rw [c_cm]; show 3 * 60 + 3 * 1 ≤ 16777216; decide)]
  · rfl
  · rcases List.mem_cons.mp hw with rfl | hw
    · exact hx
    rcases List.mem_cons.mp hw with rfl | hw
    · exact hy
    rw [List.mem_singleton] at hw; subst hw
    exact hz
theorem join_j3 (u v t : Str) : Txt.join (Str.ofString ",") [u, v, t] = j3 u v t := by
  unfold j3 Txt.join
  rw [StrLaws.glued_eq_join, c_cm]
  rfl
theorem j3_len (u v t : Str) : (j3 u v t).length = u.length + v.length + t.length + 2 := by
  rw [← sg_len, j3_sg, List.length_append, List.length_cons, List.length_append, List.length_cons, sg_len, sg_len, sg_len]
  omega
theorem ok_joined (T : Tx K mg t1 t2) (F : At K mg "_law_joined" s__law_joined ["words"] []) : DefOk P w K mg base CX0 1 "_law_joined" ["words"] [] spJoined := by
  refine F.ok sc__law_joined (fun vs H Q E h => ?_) (fun f cdv A outer s H vs Q E hr h => ?_)
  · obtain ⟨l, u, v, t, z, rfl, _⟩ := h
    rfl
  obtain ⟨l, u, v, t, z, rfl, e0, hu, hv, ht, hz, q⟩ := h
  have S := sc__law_joined
  refine ⟨_, (pss_cons (ps_if (pt_cmpR op_eq (pe_ix ix_list (pv 0) pe_int (fun _ _ => rfl)) pe_str (nomark _))
    (pss_one (ps_ret (pe_bm PySem.F.plainAttrs_str PySem.F.slot_str_join PySem.F.type_str_join mt_join pe_str (pa_cons (pe_slice sl_list (pv 0) po_none (po_some pe_int)) pa_nil se_sub))))
    pss_nil)
    (pss_one (ps_ret (pe_op op_add_str (pe_op op_add_str (pe_bm PySem.F.plainAttrs_str PySem.F.slot_str_join PySem.F.type_str_join mt_join pe_str (pa_cons (pe_slice sl_list (pv 0) po_none (po_some pe_int)) pa_nil se_sub)) pe_str) (pe_ix ix_list (pv 0) pe_int (fun _ _ => rfl)))))), ?_⟩
  have k0 : SqL K H l [.str u, .str v, .str t, .str z] := SqL.of e0
  try walk_at "rf"
  have c1 : Str.ofString "1" = o1 := by decide +kernel
  rw [c1]
  refine ixL k0 (i := 3) rfl ⟨rfl, ?_⟩
  have ec : cutV [V.str u, V.str v, V.str t, V.str z] none (some 3) = [u, v, t].map V.str := rfl
  have hj := join3_ok hu hv ht
  have z1 := q
  unfold jnd at z1
  have jl := j3_len u v t
  refine ite2 (fun h => ?_) fun h => ?_
  · refine ⟨l, _, rfl, k0, fun p hp => ⟨p, rfl, [u, v, t], SqL.of upd_same, hj, ?_⟩⟩
    have z2 := z1 _ (Same.new hp (.lst (cutV [V.str u, V.str v, V.str t, V.str z] none (some 3))))
    rw [if_pos (V.str.inj h)] at z2
    rw [join_j3]
    exact z2
  · refine ⟨l, _, rfl, k0, fun p hp => ⟨p, rfl, [u, v, t], SqL.of upd_same, hj, ?_⟩⟩
    have s2 := Same.new hp (.lst (cutV [V.str u, V.str v, V.str t, V.str z] none (some 3)))
    have z2 := z1 _ s2
    rw [if_neg (fun e => h (congrArg V.str e))] at z2
    rw [join_j3, c_sl]
    refine ⟨len_ok (by show (j3 u v t).length + 1 < 1000; omega), ixL (s2.seq k0) (i := 3) rfl ⟨z, rfl, len_ok (by rw [app_len]; show (j3 u v t).length + 1 + z.length < 1000; omega), z2⟩⟩
def BWd (b : Str) : Prop := b.length ≤ 40 ∧ Asc b ∧ 47 ∉ sg b ∧ Bw b
def spBWd : Sp := fun vs H Q _ => ∃ (L : Addr) (n : Int), vs = [.ref L, .int n] ∧ Box H L ∧ TB n ∧ ∀ (b : Str) (H' : Hp), SameB L H H' → Box H' L → BWd b → Q (.str b) H'
theorem compStrs {p acc : Addr} {ρ : L2.St} {te : TE} {Z : Hp → Prop} {H1 : Hp} {zs : List Str} (f : Str → Str) (k : SqL K H1 p (zs.map V.str)) (hn : zs.length < 1000) (hacc : H1 acc = none)
    (hs : ∀ (z : Str) (H3 : Hp) (R : V → Hp → Prop), z ∈ zs → (∀ H4, Same H3 H4 → R (.str (f z)) H4) → te (some (.str z) :: ρ) H3 R)
    (hd : ∀ H', Same H1 H' → H' acc = some (.lst ((zs.map f).map V.str)) → Z H') : CompGo (Itl K p) ρ (gName 0) tNoIf te acc Z H1 := by
  refine compL (zs := zs.map V.str) (fun v => match v with | .str z => .str (f z) | v => v) (by rw [List.length_map]; exact hn) hacc k (fun z H3 R hz _ hR => ?_) fun H' s e => hd H' s ?_
  · obtain ⟨x, hx, rfl⟩ := List.mem_map.mp hz
    exact hs x H3 R hx hR
  · rw [e, List.map_map, List.map_map]
    rfl
theorem pick {p L : Addr} {J : Hp} {xs : List Str} {m : Int} {Q : VK} (hp : J p = some (.lst (xs.map V.str))) (ne : p ≠ L) (n0 : 0 < xs.length) (q : ∀ b ∈ xs, Q (.str b) (upd J L (.lst [.int (m / (xs.length : Int))]))) :
    rIxL K (V.ref p) (V.int (m % (xs.length : Int))) (upd J L (.lst [.int (m / (xs.length : Int))])) Q := by
  have h0 := Int.emod_nonneg m (show (xs.length : Int) ≠ 0 by omega)
  have h1 := Int.emod_lt_of_pos m (show (0 : Int) < xs.length by omega)
  obtain ⟨k, hk⟩ := Int.eq_ofNat_of_zero_le h0
  rw [hk] at h1 ⊢
  have hlt : k < xs.length := by omega
  have e : (xs.map V.str)[k]? = some (.str xs[k]) := by rw [List.getElem?_map, List.getElem?_eq_getElem hlt]; rfl
  exact ixL (SqL.of (by rw [upd_ne ne]; exact hp)) (atI_nat e) (q _ (List.getElem_mem hlt))
/-- a list grows -/
theorem grown {p acc : Addr} {J : Hp} {xs ys : List Str} {Q : VK} (h1 : J p = some (.lst (xs.map V.str))) (h2 : J acc = some (.lst (ys.map V.str))) (hl : xs.length + ys.length < 1000) (q : ∀ J', SameB p J J' → J' p = some (.lst ((xs ++ ys).map V.str)) → Q .non J') : rExtend (V.ref p) [V.ref acc] J Q :=
  ⟨p, acc, _, _, rfl, rfl, h1, h2, len_ok (by rw [List.length_map, List.length_map]; exact hl), q _ (fun b o nb hb => by rw [upd_ne nb]; exact hb) (by rw [List.map_append]; exact upd_same)⟩
def bw0 : List Str := [Str.ofString "-0", Txt.mul (Str.ofString "1") 31, Str.ofString "", Str.ofString "-", Str.ofString "-1" ++ Txt.mul (Str.ofString "0") 30, Str.ofString "00", Str.ofString "- 1"]
def bw1 : List Str := [Str.ofString "0", Str.ofString "+", Str.ofString "--", Str.ofString " "]
def bw2 : List Str := [Str.ofString "a", Str.ofString ".0", Str.ofString " ", Str.ofString ","]
def bwA (f : Str) : List Str := bw0 ++ bw1.map (fun z => z ++ f) ++ bw2.map (fun z => f ++ z)
theorem bw0_bad : ∀ b ∈ bw0, b.length ≤ 40 ∧ (b.cps.all fun c => decide (c < 128)) = true ∧ 47 ∉ b.cps.toList ∧ 44 ∉ b.cps.toList ∧ gdL b.cps.toList = false := by decide +kernel
theorem bw12 : (∀ b ∈ bw1, b.length ≤ 2 ∧ ∀ c ∈ b.cps.toList, c < 128 ∧ c ≠ 47 ∧ c ≠ 44) ∧ ∀ b ∈ bw2, b.length ≤ 2 ∧ ∀ c ∈ b.cps.toList, c < 128 ∧ c ≠ 47 := by decide +kernel
theorem sg_of (s : String) (l : List Nat) (h : (Str.ofString s).cps.toList = l) : sg (Str.ofString s) = l := h
theorem dec_c {m : Int} {c : Nat} (h : c ∈ sg (dec m)) : c < 128 ∧ c ≠ 47 ∧ c ≠ 44 := by
  rcases dec_mem h with h | h <;> omega
theorem bwA_bad {m : Nat} (hm : TB (m : Int)) : ∀ b ∈ bwA (dec (m : Int)), BWd b := fun b hb => by
  have hl := hm.len
  have hd := ds_dig m
  rcases List.mem_append.mp hb with hb | hb
  · rcases List.mem_append.mp hb with hb | hb
    · obtain ⟨h1, h2, h3, h4, h5⟩ := bw0_bad b hb
      exact ⟨h1, h2, h3, .one h4 h5⟩
    · obtain ⟨z, hz, rfl⟩ := List.mem_map.mp hb
      obtain ⟨h1, h2⟩ := bw12.1 z hz
      have mem : ∀ c ∈ sg (z ++ dec (m : Int)), c < 128 ∧ c ≠ 47 ∧ c ≠ 44 := fun c hc => by
        rw [sg_app] at hc
        rcases List.mem_append.mp hc with hc | hc
        · exact h2 c hc
        · exact dec_c hc
      refine ⟨by rw [app_len]; omega, asc_of fun c hc => (mem c hc).1, fun hc => (mem _ hc).2.1 rfl, .one (fun hc => (mem _ hc).2.2 rfl) ?_⟩
      have hz' : z = Str.ofString "0" ∨ z = Str.ofString "+" ∨ z = Str.ofString "--" ∨ z = Str.ofString " " := by simpa [bw1] using hz
      rcases hz' with rfl | rfl | rfl | rfl
      · rw [sg_app, sg_of "0" [48] (by decide +kernel), sg_nat]
        cases gg : gdL ([48] ++ ds m) with
        | false => rfl
        | true =>
          refine absurd ⟨rfl, fun z => ds_ne m ?_⟩ (gdL_iff.mp gg).2.2.2
          have : 48 :: ds m = [48] := z
          exact List.tail_eq_of_cons_eq this
      · exact gd_sign (c := 43) (by rw [sg_app, sg_of "+" [43] (by decide +kernel)]; exact List.mem_cons_self) (by decide) (by decide)
      · rw [sg_app, sg_of "--" [45, 45] (by decide +kernel)]
        exact gd_tail (l := 45 :: sg (dec (m : Int))) (c := 45) List.mem_cons_self (by decide)
      · exact gd_sign (c := 32) (by rw [sg_app, sg_of " " [32] (by decide +kernel)]; exact List.mem_cons_self) (by decide) (by decide)
  · obtain ⟨z, hz, rfl⟩ := List.mem_map.mp hb
    obtain ⟨h1, h2⟩ := bw12.2 z hz
    have mem : ∀ c ∈ sg (dec (m : Int) ++ z), c < 128 ∧ c ≠ 47 := fun c hc => by
      rw [sg_app] at hc
      rcases List.mem_append.mp hc with hc | hc
      · exact ⟨(dec_c hc).1, (dec_c hc).2.1⟩
      · exact h2 c hc
    refine ⟨by rw [app_len]; omega, asc_of fun c hc => (mem c hc).1, fun hc => (mem _ hc).2 rfl, ?_⟩
    have hz' : z = Str.ofString "a" ∨ z = Str.ofString ".0" ∨ z = Str.ofString " " ∨ z = Str.ofString "," := by simpa [bw2] using hz
    have n44 : ∀ {l : List Nat} {z : Str}, sg z = l → 44 ∉ l → 44 ∉ sg (dec (m : Int) ++ z) := fun {l z} e hn hc => by
      rw [sg_app, e] at hc
      rcases List.mem_append.mp hc with hc | hc
      · exact (dec_c hc).2.2 rfl
      · exact hn hc
    rcases hz' with rfl | rfl | rfl | rfl
    · exact .one (n44 (sg_of "a" [97] (by decide +kernel)) (by decide)) (gd_sign (c := 97) (by rw [sg_app, sg_of "a" [97] (by decide +kernel)]; exact List.mem_append_right _ List.mem_cons_self) (by decide) (by decide))
    · exact .one (n44 (sg_of ".0" [46, 48] (by decide +kernel)) (by decide)) (gd_sign (c := 46) (by rw [sg_app, sg_of ".0" [46, 48] (by decide +kernel)]; exact List.mem_append_right _ List.mem_cons_self) (by decide) (by decide))
    · exact .one (n44 (sg_of " " [32] (by decide +kernel)) (by decide)) (gd_sign (c := 32) (by rw [sg_app, sg_of " " [32] (by decide +kernel)]; exact List.mem_append_right _ List.mem_cons_self) (by decide) (by decide))
    · have e : dec (m : Int) ++ Str.ofString "," = dec (m : Int) ++ cm ++ Str.empty := sg_ext (by
        rw [sg_app, sg_app, sg_app, c_cm]
        show _ = sg (dec (m : Int)) ++ [44] ++ []
        simp
        rfl)
      rw [e]
      exact Bw.right _ (.one (fun h => nomatch h) (by decide +kernel))
theorem ok_bw (T : Tx K mg t1 t2) (F : At K mg "_law_bad_word" s__law_bad_word ["left", "number"] []) (d__law_next : DefOk P w K mg base CX0 1 "_law_next" ["left", "base"] [] spNext) : DefOk P w K mg base CX0 2 "_law_bad_word" ["left", "number"] [] spBWd := by
  refine F.ok sc__law_bad_word (fun vs H Q E h => ?_) (fun f cdv A outer s H vs Q E hr h => ?_)
  · obtain ⟨L, n, rfl, _⟩ := h
    rfl
  obtain ⟨L, n, rfl, ⟨m, hL⟩, hn, q⟩ := h
  have S := sc__law_bad_word
  refine ⟨_, (pss_cons (ps_set (i := 2) S.nd rfl (Or.inr rfl) (pe_callTy call_strI rfl T.m_str boot_str (pa_cons (pe_callB call_abs rfl T.m_abs boot_abs (pa_cons (pv 1) pa_nil se_nam)) pa_nil se_cal)))
    (pss_cons (ps_set (i := 3) S.nd rfl (Or.inl rfl) (pe_lst (pa_cons pe_str (pa_cons (pe_op op_mul_str pe_str pe_int) (pa_cons pe_str (pa_cons pe_str (pa_cons (pe_op op_add_str pe_str (pe_op op_mul_str pe_str pe_int)) (pa_cons pe_str (pa_cons pe_str pa_nil se_con) se_con) se_bin) se_con) se_con) se_bin) se_con)))
    (pss_cons (ps_expr (pe_bm PySem.F.plainAttrs_list PySem.F.slot_list_extend PySem.F.type_list_extend mt_extend (pv 3) (pa_cons (pe_comp rfl (N' := ["sign", "figures"]) (ix := [2]) ⟨rfl, rfl, by decide +kernel, by decide +kernel, rfl, by decide +kernel, (show ∀ y : Str × NameKind, y ∈ _ → y.2 = NameKind.free → (defScope s__law_bad_word).names.lookup y.1 = some .cell ∨ (defScope s__law_bad_word).names.lookup y.1 = some .free from by decide +kernel), (.cons rfl (.inl rfl) rfl .nil)⟩ (pi_list (pe_lst (pa_cons pe_str (pa_cons pe_str (pa_cons pe_str (pa_cons pe_str pa_nil se_con) se_con) se_con) se_con))) (fun _ _ _ _ => pg_name (i := 0) (show (["sign", "figures"] : List Str).Nodup from by decide +kernel) rfl (Or.inl rfl)) (fun _ _ _ _ => pts_nil) (fun _ _ _ _ => (pe_op op_add_str (pv 0) (pv 1)))) pa_nil se_cmp)))
    (pss_cons (ps_expr (pe_bm PySem.F.plainAttrs_list PySem.F.slot_list_extend PySem.F.type_list_extend mt_extend (pv 3) (pa_cons (pe_comp rfl (N' := ["sign", "figures"]) (ix := [2]) ⟨rfl, rfl, by decide +kernel, by decide +kernel, rfl, by decide +kernel, (show ∀ y : Str × NameKind, y ∈ _ → y.2 = NameKind.free → (defScope s__law_bad_word).names.lookup y.1 = some .cell ∨ (defScope s__law_bad_word).names.lookup y.1 = some .free from by decide +kernel), (.cons rfl (.inl rfl) rfl .nil)⟩ (pi_list (pe_lst (pa_cons pe_str (pa_cons pe_str (pa_cons pe_str (pa_cons pe_str pa_nil se_con) se_con) se_con) se_con))) (fun _ _ _ _ => pg_name (i := 0) (show (["sign", "figures"] : List Str).Nodup from by decide +kernel) rfl (Or.inl rfl)) (fun _ _ _ _ => pts_nil) (fun _ _ _ _ => (pe_op op_add_str (pv 1) (pv 0)))) pa_nil se_cmp)))
    (pss_one (ps_ret (pe_ix ix_list (pv 3) (pe_callD d__law_next (hr.mono (by decide)) rfl pass0 (pa_cons (pv 0) (pa_cons (pe_callB call_len_seq rfl T.m_len PySem.boot_len (pa_cons (pv 3) pa_nil se_nam)) pa_nil se_cal) se_nam)) (fun _ _ => rfl)))))))), ?_⟩
  try walk_at "rf"
  have ha : (if n < 0 then -n else n) = ((n.natAbs : Nat) : Int) := by split <;> omega
  rw [ha]
  have hm : TB ((n.natAbs : Nat) : Int) := hn
  have hml := hm.len
  refine ⟨hm.st, ⟨by decide, fun _ _ => by decide +kernel, fun _ _ => by decide +kernel⟩, ⟨by decide, fun _ _ => by decide +kernel, fun _ _ => by decide +kernel⟩, len_ok (by decide +kernel), by decide, fun p hp => ?_⟩
  have s1 := Same.new hp (.lst [V.str (Str.ofString "-0"), V.str (Txt.mul (Str.ofString "1") 31), V.str (Str.ofString ""), V.str (Str.ofString "-"), V.str (Str.ofString "-1" ++ Txt.mul (Str.ofString "0") 30), V.str (Str.ofString "00"), V.str (Str.ofString "- 1")])
  have e1 : upd H p (.lst [V.str (Str.ofString "-0"), V.str (Txt.mul (Str.ofString "1") 31), V.str (Str.ofString ""), V.str (Str.ofString "-"), V.str (Str.ofString "-1" ++ Txt.mul (Str.ofString "0") 30), V.str (Str.ofString "00"), V.str (Str.ofString "- 1")]) p = some (.lst (bw0.map V.str)) := upd_same
  have pL : p ≠ L := fun e => by rw [e, hL] at hp; cases hp
  generalize upd H p (.lst [V.str (Str.ofString "-0"), V.str (Txt.mul (Str.ofString "1") 31), V.str (Str.ofString ""), V.str (Str.ofString "-"), V.str (Str.ofString "-1" ++ Txt.mul (Str.ofString "0") 30), V.str (Str.ofString "00"), V.str (Str.ofString "- 1")]) = H1 at s1 e1 ⊢
  refine ⟨.inl ⟨_, SqL.of e1⟩, by decide, fun p1 hp1 => ?_⟩
  have s2 := Same.new hp1 (.lst [V.str (Str.ofString "0"), V.str (Str.ofString "+"), V.str (Str.ofString "--"), V.str (Str.ofString " ")])
  have e2 : upd H1 p1 (.lst [V.str (Str.ofString "0"), V.str (Str.ofString "+"), V.str (Str.ofString "--"), V.str (Str.ofString " ")]) p1 = some (.lst (bw1.map V.str)) := upd_same
  generalize upd H1 p1 (.lst [V.str (Str.ofString "0"), V.str (Str.ofString "+"), V.str (Str.ofString "--"), V.str (Str.ofString " ")]) = H2 at s2 e2 ⊢
  have l1 : ∀ z ∈ bw1, z.length ≤ 2 := by decide +kernel
  have l2 : ∀ z ∈ bw2, z.length ≤ 2 := by decide +kernel
  refine ⟨⟨_, SqL.of e2⟩, fun acc hacc => compStrs (zs := bw1) (fun z => z ++ dec ((n.natAbs : Nat) : Int)) (SqL.of e2) (by decide) hacc (fun z H3 R hz hR => ?_) fun J1 s3 e3 => ?_⟩
  · walk_at "rf"
    have := l1 z hz
    exact ⟨len_ok (show z.length + (dec ((n.natAbs : Nat) : Int)).length < 1000 by omega), hR _ (fun _ _ h => h)⟩
  refine grown (s3 _ _ (s2 _ _ e1)) e3 (show 7 + 4 < 1000 by decide) fun J2 sb e4 => ⟨.inl ⟨_, SqL.of e4⟩, by decide, fun p2 hp2 => ?_⟩
  have s5 := Same.new hp2 (.lst [V.str (Str.ofString "a"), V.str (Str.ofString ".0"), V.str (Str.ofString " "), V.str (Str.ofString ",")])
  have e5 : upd J2 p2 (.lst [V.str (Str.ofString "a"), V.str (Str.ofString ".0"), V.str (Str.ofString " "), V.str (Str.ofString ",")]) p2 = some (.lst (bw2.map V.str)) := upd_same
  generalize upd J2 p2 (.lst [V.str (Str.ofString "a"), V.str (Str.ofString ".0"), V.str (Str.ofString " "), V.str (Str.ofString ",")]) = J3 at s5 e5 ⊢
  refine ⟨⟨_, SqL.of e5⟩, fun acc2 hacc2 => compStrs (zs := bw2) (fun z => dec ((n.natAbs : Nat) : Int) ++ z) (SqL.of e5) (by decide) hacc2 (fun z H3 R hz hR => ?_) fun J4 s6 e6 => ?_⟩
  · walk_at "rf"
    have := l2 z hz
    exact ⟨len_ok (show (dec ((n.natAbs : Nat) : Int)).length + z.length < 1000 by omega), hR _ (fun _ _ h => h)⟩
  refine grown (s6 _ _ (s5 _ _ e4)) e6 (show 11 + 4 < 1000 by decide) fun J5 sb2 e7 => ⟨_, .inl (SqL.of e7), ?_⟩
  have SB : SameB p H1 J5 := (s2.trans s3).b.trans (sb.trans ((s5.trans s6).b.trans sb2))
  have hL5 : J5 L = some (.lst [.int m]) := SB L _ (Ne.symm pL) (s1 _ _ hL)
  have el : (((bw0 ++ bw1.map (fun z => z ++ dec ((n.natAbs : Nat) : Int)) ++ bw2.map (fun z => dec ((n.natAbs : Nat) : Int) ++ z)).map V.str).length : Int) = ((bwA (dec ((n.natAbs : Nat) : Int))).length : Int) := by rw [List.length_map]; rfl
  rw [el]
  refine ⟨L, _, m, rfl, hL5, by show (0 : Int) < 15; decide, Bd.fit (n := 10) (by show Bd 10 15; unfold Bd; decide), ?_⟩
  refine pick e7 pL (by show 0 < 15; decide) fun b hb => q b _ (fun x o nx hx => ?_) ⟨_, upd_same⟩ (bwA_bad hm b hb)
  rw [upd_ne nx]
  have xp : x ≠ p := fun z => by rw [z, hp] at hx; cases hx
  exact SB x o xp (s1 _ _ hx)
def Bsx (x : Str) : Prop := x.length ≤ 400 ∧ Asc x ∧ Bs x
theorem part_cases (x : Str) : (47 ∉ sg x ∧ Txt.partition x sl = (x, Str.empty, Str.empty)) ∨ ∃ a b : Str, 47 ∉ sg a ∧ x = a ++ sl ++ b ∧ Txt.partition x sl = (a, sl, b) := by
  by_cases h : 47 ∈ sg x
  · right
    obtain ⟨l, r, e, hl⟩ := List.append_of_mem h |> fun ⟨l, r, e⟩ => (⟨l, r, e, trivial⟩ : ∃ l r, sg x = l ++ 47 :: r ∧ True)
    have tk : ∀ l : List Nat, 47 ∈ l → ∃ a b, l = a ++ 47 :: b ∧ 47 ∉ a := fun l => by
      induction l with
      | nil => intro h; cases h
      | cons y r ih =>
        intro h
        by_cases c : y = 47
        · exact ⟨[], r, by rw [c]; rfl, fun z => nomatch z⟩
        · rcases List.mem_cons.mp h with z | z
          · exact absurd z.symm c
          · obtain ⟨a, b, e, n⟩ := ih z
            exact ⟨y :: a, b, by rw [e]; rfl, fun w => by
              rcases List.mem_cons.mp w with w | w
              · exact c w.symm
              · exact n w⟩
    obtain ⟨a, b, e, n⟩ := tk _ h
    have ex : x = (⟨a.toArray⟩ : Str) ++ sl ++ (⟨b.toArray⟩ : Str) := sg_ext (by
      rw [sg_app, sg_app, e]
      show _ = a ++ [47] ++ b
      simp)
    have na : 47 ∉ sg (⟨a.toArray⟩ : Str) := by show 47 ∉ a.toArray.toList; simpa using n
    exact ⟨_, _, na, ex, by rw [ex]; exact part_at na⟩
  · exact .inl ⟨h, part_no h⟩
theorem app_assoc (a b c : Str) : a ++ b ++ c = a ++ (b ++ c) := sg_ext (by rw [sg_app, sg_app, sg_app, sg_app, List.append_assoc])
theorem part_pre {A : Str} (Y : Str) (h : 47 ∉ sg A) : (Txt.partition (A ++ Y) sl).1 = A ++ (Txt.partition Y sl).1 := by
  rcases part_cases Y with ⟨n, e⟩ | ⟨a, b, n, ey, e⟩
  · have n2 : 47 ∉ sg (A ++ Y) := fun z => by
      rw [sg_app] at z
      rcases List.mem_append.mp z with z | z
      · exact h z
      · exact n z
    rw [e, show Txt.partition (A ++ Y) sl = (A ++ Y, Str.empty, Str.empty) from part_no n2]
  · have n2 : 47 ∉ sg (A ++ a) := fun z => by
      rw [sg_app] at z
      rcases List.mem_append.mp z with z | z
      · exact h z
      · exact n z
    have this : A ++ (a ++ sl ++ b) = (A ++ a) ++ sl ++ b := by rw [app_assoc, app_assoc, app_assoc]
    rw [e, ey, this, show Txt.partition ((A ++ a) ++ sl ++ b) sl = (A ++ a, sl, b) from part_at n2]
/-- the first word is none -/
theorem bs_first {w : Str} (Y : Str) (h44 : 44 ∉ sg w) (h47 : 47 ∉ sg w) (g : gdL (sg w) = false) : Bs (w ++ cm ++ Y) := by
  left
  have n : 47 ∉ sg (w ++ cm) := by
    rw [sg_app]
    intro z
    rcases List.mem_append.mp z with z | z
    · exact h47 z
    · exact absurd z (by decide)
  rw [part_pre Y n]
  exact .inl (Bw.left _ (.one h44 g))
theorem bs_plain {x : Str} (h : 47 ∉ sg x) (b : B3 x) : Bs x := by
  left
  rw [show Txt.partition x sl = (x, Str.empty, Str.empty) from part_no h]
  exact b
theorem bs_over {x : Str} (z : Str) (h : 47 ∉ sg x) (b : B3 x) : Bs (x ++ sl ++ z) := by
  left
  rw [show Txt.partition (x ++ sl ++ z) sl = (x, sl, z) from part_at h]
  exact b
theorem bs_b {a b c : Int} {z : Str} (ha : TB a) (hb : TB b) (hc : TB c) (g : gdL (sg z) = false) : Bs (tx3 a b c ++ sl ++ z) := by
  right
  rw [show Txt.partition (tx3 a b c ++ sl ++ z) sl = (tx3 a b c, sl, z) from part_at (tx3_47 a b c)]
  exact ⟨tx3_good ha hb hc, rfl, .inl g⟩
theorem bs_low {a b c d : Int} (ha : TB a) (hb : TB b) (hc : TB c) (hd : TB d) (h : d ≤ 1 ∨ gl [a, b, c, d] ≠ 1) : Bs (tx3 a b c ++ sl ++ dec d) := by
  right
  rw [show Txt.partition (tx3 a b c ++ sl ++ dec d) sl = (tx3 a b c, sl, dec d) from part_at (tx3_47 a b c)]
  refine ⟨tx3_good ha hb hc, rfl, .inr ⟨d, gd_dec hd, dec_read hd, h.imp_right fun hg a' b' c' rd => ?_⟩⟩
  obtain ⟨rfl, rfl, rfl⟩ := tx3_rd ha hb hc rd
  exact hg
theorem asc_app {x y : Str} (hx : Asc x) (hy : Asc y) : Asc (x ++ y) := asc_of fun c hc => by
  rw [sg_app] at hc
  rcases List.mem_append.mp hc with hc | hc
  · exact asc_mem hx c hc
  · exact asc_mem hy c hc
theorem asc_dec (n : Int) : Asc (dec n) := asc_of fun c hc => (dec_c hc).1
theorem asc_tx3 (a b c : Int) : Asc (tx3 a b c) := asc_of fun x hx => by
  rw [tx3_sg] at hx
  rcases List.mem_append.mp hx with h | h
  · exact (dec_c h).1
  rcases List.mem_cons.mp h with h | h
  · omega
  rcases List.mem_append.mp h with h | h
  · exact (dec_c h).1
  rcases List.mem_cons.mp h with h | h
  · omega
  · exact (dec_c h).1
theorem asc_cm : Asc cm := by unfold Asc; decide +kernel
theorem asc_sl : Asc sl := by unfold Asc; decide +kernel
theorem l1_cm : cm.length = 1 := rfl
theorem l1_sl : sl.length = 1 := rfl
/-- words of which one is none -/
theorem bs_jnd {u v t z : Str} (hu : u.length ≤ 40 ∧ Asc u ∧ 47 ∉ sg u) (hv : v.length ≤ 40 ∧ Asc v ∧ 47 ∉ sg v) (ht : t.length ≤ 40 ∧ Asc t ∧ 47 ∉ sg t) (hz : z.length ≤ 40 ∧ Asc z) (b : Bw u ∨ Bw v ∨ Bw t) : Bsx (jnd u v t z) := by
  have n : 47 ∉ sg (j3 u v t) := fun h => by
    rw [j3_sg] at h
    rcases List.mem_append.mp h with h | h
    · exact hu.2.2 h
    rcases List.mem_cons.mp h with h | h
    · omega
    rcases List.mem_append.mp h with h | h
    · exact hv.2.2 h
    rcases List.mem_cons.mp h with h | h
    · omega
    · exact ht.2.2 h
  have a : Asc (j3 u v t) := by rw [j3_app]; exact asc_app (asc_app hu.2.1 asc_cm) (asc_app (asc_app hv.2.1 asc_cm) ht.2.1)
  have bb : B3 (j3 u v t) := by
    rw [j3_app]
    rcases b with b | b | b
    · exact .inl (Bw.left _ b)
    · exact .inl (Bw.right _ (Bw.left _ b))
    · exact .inl (Bw.right _ (Bw.right _ b))
  have l := j3_len u v t
  unfold jnd
  split
  · exact ⟨by omega, a, bs_plain n bb⟩
  · exact ⟨by rw [app_len, app_len, l1_sl]; omega, asc_app (asc_app a asc_sl) hz.2, bs_over z n bb⟩
theorem dec_o1 {d : Int} (hd : TB d) : dec d = o1 ↔ d = 1 := by
  have e : dec 1 = o1 := by decide +kernel
  constructor
  · intro h
    have h1 := dec_read hd
    rw [h, ← e, dec_read (show TB 1 by unfold TB; decide)] at h1
    exact (Option.some.inj h1).symm
  · intro h; rw [h, e]
theorem jnd_over {a b c d : Int} (hd : TB d) : jnd (dec a) (dec b) (dec c) (dec d) = overT (tx3 a b c) d := by
  unfold jnd overT
  by_cases h : d = 1
  · rw [if_pos h, if_pos ((dec_o1 hd).mpr h)]; rfl
  · rw [if_neg h, if_neg fun z => h ((dec_o1 hd).mp z)]; rfl
/-- a text, its first word told -/
theorem over_first (a b c d : Int) : ∃ Y, overT (tx3 a b c) d = dec a ++ cm ++ Y := by
  have e : tx3 a b c = dec a ++ cm ++ (dec b ++ cm ++ dec c) := j3_app _ _ _
  unfold overT
  split
  · exact ⟨_, e⟩
  · exact ⟨dec b ++ cm ++ dec c ++ sl ++ dec d, by rw [e]; simp only [app_assoc]⟩
theorem over_len {a b c d : Int} (ha : TB a) (hb : TB b) (hc : TB c) (hd : TB d) : (overT (tx3 a b c) d).length ≤ 300 ∧ Asc (overT (tx3 a b c) d) := by
  have l := tx3_len ha hb hc
  have ld := hd.len
  unfold overT
  split
  · exact ⟨by omega, asc_tx3 a b c⟩
  · exact ⟨by rw [app_len, app_len, l1_sl]; omega, asc_app (asc_app (asc_tx3 a b c) asc_sl) (asc_dec d)⟩
theorem pre_bad {a b c d : Int} {p : Str} (s : Str) {k : Nat} (ha : TB a) (hb : TB b) (hc : TB c) (hd : TB d) (hp : sg p = [k]) (k1 : k ≠ 45) (k2 : ¬ (48 ≤ k ∧ k ≤ 57)) (k3 : k ≠ 44) (k4 : k ≠ 47) (k5 : k < 128) (hs : s.length ≤ 2 ∧ Asc s) : Bsx (p ++ overT (tx3 a b c) d ++ s) := by
  obtain ⟨Y, e⟩ := over_first a b c d
  have l := over_len ha hb hc hd
  have pl : p.length = 1 := by rw [← sg_len, hp]; rfl
  have pa : Asc p := asc_of fun x hx => by rw [hp] at hx; rw [List.mem_singleton.mp hx]; exact k5
  refine ⟨by rw [app_len, app_len]; omega, asc_app (asc_app pa l.2) hs.2, ?_⟩
  have e2 : p ++ overT (tx3 a b c) d ++ s = (p ++ dec a) ++ cm ++ (Y ++ s) := by rw [e]; simp only [app_assoc]
  rw [e2]
  have mem : ∀ x ∈ sg (p ++ dec a), x = k ∨ x ∈ sg (dec a) := fun x hx => by
    rw [sg_app, hp] at hx
    rcases List.mem_append.mp hx with h | h
    · exact .inl (List.mem_singleton.mp h)
    · exact .inr h
  refine bs_first _ (fun h => ?_) (fun h => ?_) (gd_sign (c := k) (by rw [sg_app, hp]; exact List.mem_cons_self) k1 k2)
  · rcases mem _ h with h | h
    · exact k3 h.symm
    · exact (dec_c h).2.2 rfl
  · rcases mem _ h with h | h
    · exact k4 h.symm
    · exact (dec_c h).2.1 rfl
theorem suf_bad {a b c d : Int} {s : Str} {k : Nat} (ha : TB a) (hb : TB b) (hc : TB c) (hd : TB d) (hp : sg s = [k]) (k1 : k ≠ 45) (k2 : ¬ (48 ≤ k ∧ k ≤ 57)) (k3 : k ≠ 44) (k4 : k ≠ 47) (k5 : k < 128) : Bsx (overT (tx3 a b c) d ++ s) := by
  have l := over_len ha hb hc hd
  have pl : s.length = 1 := by rw [← sg_len, hp]; rfl
  have pa : Asc s := asc_of fun x hx => by rw [hp] at hx; rw [List.mem_singleton.mp hx]; exact k5
  refine ⟨by rw [app_len]; omega, asc_app l.2 pa, ?_⟩
  have g : ∀ n : Int, gdL (sg (dec n ++ s)) = false := fun n => gd_sign (c := k) (by rw [sg_app, hp]; exact List.mem_append_right _ List.mem_cons_self) k1 k2
  have e : tx3 a b c = dec a ++ cm ++ (dec b ++ cm ++ dec c) := j3_app _ _ _
  unfold overT
  split
  · have e2 : tx3 a b c ++ s = dec a ++ cm ++ (dec b ++ cm ++ (dec c ++ s)) := by rw [e]; simp only [app_assoc]
    have n47 : 47 ∉ sg (tx3 a b c ++ s) := fun h => by
      rw [sg_app, hp] at h
      rcases List.mem_append.mp h with h | h
      · exact tx3_47 a b c h
      · exact k4 (List.mem_singleton.mp h).symm
    refine bs_plain n47 ?_
    rw [e2]
    refine .inl (Bw.right _ (Bw.right _ (.one (fun h => ?_) (g c))))
    rw [sg_app, hp] at h
    rcases List.mem_append.mp h with h | h
    · exact (dec_c h).2.2 rfl
    · exact k3 (List.mem_singleton.mp h).symm
  · have e2 : tx3 a b c ++ sl ++ dec d ++ s = tx3 a b c ++ sl ++ (dec d ++ s) := by simp only [app_assoc]
    rw [e2]
    exact bs_b ha hb hc (g d)
theorem Box.keep {H H' : Hp} {L : Addr} (h : Box H L) (s : Same H H') : Box H' L := by
  obtain ⟨m, hm⟩ := h
  exact ⟨m, s _ _ hm⟩
def TS (n : Int) : Prop := n.natAbs ≤ 10 ^ 28
theorem TS.tb {n : Int} (h : TS n) : TB n := Nat.lt_of_le_of_lt h (by decide +kernel)
theorem TS.two {n : Int} (h : TS n) : TB (2 * n) := by
  unfold TB
  rw [Int.natAbs_mul]
  have h' : n.natAbs ≤ 10 ^ 28 := h
  exact Nat.lt_of_le_of_lt (Nat.mul_le_mul_left 2 h') (by decide +kernel)
def spSpoilt : Sp := fun vs H Q _ => ∃ (L r : Addr) (a b c d : Int), vs = [.ref L, .ref r] ∧ Box H L ∧ H r = some (.tup [.int a, .int b, .int c, .int d]) ∧ TS a ∧ TS b ∧ TS c ∧ TS d ∧ 1 ≤ d ∧ gl [a, b, c, d] = 1 ∧ ∀ (l : Addr) (xs : List Str) (H' : Hp), SameB L H H' → Box H' L → H' l = some (.lst (xs.map V.str)) → xs.length ≤ 10 → (∀ x ∈ xs, Bsx x) → Q (.ref l) H'
def W4 (u v t z : Str) : List V := [u, v, t, z].map V.str
def Wd (u : Str) : Prop := u.length ≤ 40 ∧ Asc u ∧ 47 ∉ sg u
theorem wd_dec {n : Int} (h : TB n) : Wd (dec n) := ⟨Nat.le_trans h.len (by decide), asc_dec n, fun z => (dec_c z).2.1 rfl⟩
def sM (H : Hp) (L r : Addr) (a b c d : Int) : L2.St → Hp → Prop := fun σ H' => ∃ (wl bl : Addr) (u v t : Str) (o4 : Option V), σ = [some (.ref L), some (.ref r), some (.ref wl), some (.str (tx3 a b c)), o4, some (.ref bl), none, none, none] ∧ SameB L H H' ∧ Box H' L ∧ wl ≠ L ∧ bl ≠ L ∧ H' wl = some (.lst (W4 (dec a) (dec b) (dec c) (dec d))) ∧ H' bl = some (.lst (W4 u v t (dec d))) ∧ Wd u ∧ Wd v ∧ Wd t ∧ (Bw u ∨ Bw v ∨ Bw t)
def twT (a b c d : Int) : Str := tx3 (2 * a) (2 * b) (2 * c) ++ sl ++ dec (2 * d)
def sN (H : Hp) (L r : Addr) (a b c d : Int) : L2.St → Hp → Prop := fun σ H' => ∃ (wl bl : Addr) (u v t : Str) (o4 : Option V), σ = [some (.ref L), some (.ref r), some (.ref wl), some (.str (tx3 a b c)), o4, some (.ref bl), some (.str (twT a b c d)), some (.str (overT (tx3 a b c) d)), none] ∧ SameB L H H' ∧ Box H' L ∧ wl ≠ L ∧ bl ≠ L ∧ H' wl = some (.lst (W4 (dec a) (dec b) (dec c) (dec d))) ∧ H' bl = some (.lst (W4 u v t (dec d))) ∧ Wd u ∧ Wd v ∧ Wd t ∧ (Bw u ∨ Bw v ∨ Bw t)
def fdec2 (v : V) : V := match v with | .int n => .str (dec (2 * n)) | _ => v
def j2 (u v : Str) : Str := Str.join cm [u, v]
theorem j2_sg (u v : Str) : sg (j2 u v) = sg u ++ 44 :: sg v := by
  unfold j2
  rw [join_sg]
  show sg u ++ ((44 :: sg v) ++ []) = _
  simp
theorem j2_app (u v : Str) : j2 u v = u ++ cm ++ v := sg_ext (by
  rw [j2_sg, sg_app, sg_app]
  show _ = sg u ++ [44] ++ sg v
  simp)
theorem join2_ok {x y : Str} (hx : x.length ≤ 60) (hy : y.length ≤ 60) : JoinOk (Str.ofString ",") [x, y] = true := by
  unfold JoinOk
  rw [StrLaws.joinFits (B := 60) (fun w hw => ?_) (by rw [c_cm]; show 2 * 60 + 2 * 1 ≤ 16777216; decide)]
  · rfl
  · rcases List.mem_cons.mp hw with rfl | hw
    · exact hx
    rw [List.mem_singleton] at hw; subst hw
    exact hy
theorem join_j2 (u v : Str) : Txt.join (Str.ofString ",") [u, v] = j2 u v := by
  unfold j2 Txt.join
  rw [StrLaws.glued_eq_join, c_cm]
  rfl
def sp1 : List Str := [Str.ofString "/2", Str.ofString ",,", Str.ofString "1,1,1/02", Str.ofString "1,1,1/+2", Str.ofString "1,1,1/" ++ Txt.mul (Str.ofString "2") 31, Str.ofString "1 1 1"]
def se1 : List Str := [Str.ofString ",7", Str.ofString "/1", Str.ofString "/0", Str.ofString "/-2", Str.ofString "/"]
def se2 : List Str := [Str.ofString " ", Str.ofString "\n", Str.ofString ";"]
def se3 : List Str := [Str.ofString " ", Str.ofString "\n", Str.ofString "+"]
def sp0 (u v t : Str) (a b c d : Int) : List Str := [jnd u v t (dec d), j2 (dec a) (dec b), twT a b c d, Str.ofString "1,1,1/2/3", Str.ofString "(" ++ overT (tx3 a b c) d ++ Str.ofString ")", Str.ofString ""]
def spA (u v t : Str) (a b c d : Int) : List Str := sp0 u v t a b c d ++ sp1 ++ se1.map (fun z => tx3 a b c ++ z) ++ se2.map (fun z => overT (tx3 a b c) d ++ z) ++ se3.map (fun z => z ++ overT (tx3 a b c) d)
theorem fit2 : Fit 2 := Bd.fit (n := 10) (by unfold Bd; decide)
theorem tb1 : TB 1 := by unfold TB; decide
theorem asc_str (s : Str) (h : s.cps.all (fun c => decide (c < 128)) = true) : Asc s := h
theorem sp0_bad {u v t : Str} {a b c d : Int} (ha : TS a) (hb : TS b) (hc : TS c) (hd : TS d) (hg : gl [a, b, c, d] = 1) (hu : Wd u) (hv : Wd v) (ht : Wd t) (h : Bw u ∨ Bw v ∨ Bw t) : ∀ x ∈ sp0 u v t a b c d, Bsx x := fun x hx => by
  have ldd := hd.tb.len
  have n44 : ∀ n : Int, 44 ∉ sg (dec n) := fun n h => (dec_c h).2.2 rfl
  have n47 : ∀ n : Int, 47 ∉ sg (dec n) := fun n h => (dec_c h).2.1 rfl
  unfold sp0 at hx
  rcases List.mem_cons.mp hx with rfl | hx
  · exact bs_jnd hu hv ht ⟨by omega, asc_dec d⟩ h
  rcases List.mem_cons.mp hx with rfl | hx
  · have l1 := ha.tb.len
    have l2 := hb.tb.len
    refine ⟨by rw [j2_app, app_len, app_len, l1_cm]; omega, by rw [j2_app]; exact asc_app (asc_app (asc_dec a) asc_cm) (asc_dec b), bs_plain (fun h => ?_) (.inr ?_)⟩
    · rw [j2_sg] at h
      rcases List.mem_append.mp h with h | h
      · exact n47 a h
      rcases List.mem_cons.mp h with h | h
      · omega
      · exact n47 b h
    · rw [j2_app, split_app, split_one (n44 a), split_one (n44 b)]
      exact show (2 : Nat) ≠ 3 by decide
  rcases List.mem_cons.mp hx with rfl | hx
  · have l1 := tx3_len ha.two hb.two hc.two
    have l2 := hd.two.len
    unfold twT
    refine ⟨by rw [app_len, app_len, l1_sl]; omega, asc_app (asc_app (asc_tx3 _ _ _) asc_sl) (asc_dec _), bs_low ha.two hb.two hc.two hd.two (.inr ?_)⟩
    have e := gl_mul (k := 2) (by decide) [a, b, c, d]
    have e' : gl [2 * a, 2 * b, 2 * c, 2 * d] = 2 * gl [a, b, c, d] := e
    rw [e', hg]
    decide
  rcases List.mem_cons.mp hx with rfl | hx
  · have e : Str.ofString "1,1,1/2/3" = tx3 1 1 1 ++ sl ++ Str.ofString "2/3" := by decide +kernel
    refine ⟨by decide +kernel, asc_str _ (by decide +kernel), ?_⟩
    rw [e]
    exact bs_b tb1 tb1 tb1 (by decide +kernel)
  rcases List.mem_cons.mp hx with rfl | hx
  · exact pre_bad (k := 40) _ ha.tb hb.tb hc.tb hd.tb (sg_of _ _ (by decide +kernel)) (by decide) (by decide) (by decide) (by decide) (by decide) ⟨by decide +kernel, asc_str _ (by decide +kernel)⟩
  rw [List.mem_singleton] at hx
  subst hx
  refine ⟨by decide +kernel, asc_str _ (by decide +kernel), bs_plain (by decide +kernel) (.inl (.one (by decide +kernel) (by decide +kernel)))⟩
theorem sp1_bad : ∀ x ∈ sp1, Bsx x := fun x hx => by
  have cl : ∀ y ∈ sp1, y.length ≤ 400 ∧ y.cps.all (fun c => decide (c < 128)) = true := by decide +kernel
  refine ⟨(cl x hx).1, (cl x hx).2, ?_⟩
  unfold sp1 at hx
  rcases List.mem_cons.mp hx with rfl | hx
  · have e : Str.ofString "/2" = Str.empty ++ sl ++ Str.ofString "2" := by decide +kernel
    rw [e]
    exact bs_over _ (by decide +kernel) (.inl (.one (by decide +kernel) (by decide +kernel)))
  rcases List.mem_cons.mp hx with rfl | hx
  · have e : Str.ofString ",," = Str.empty ++ cm ++ Str.ofString "," := by decide +kernel
    refine bs_plain (by decide +kernel) ?_
    rw [e]
    exact .inl (Bw.left _ (.one (by decide +kernel) (by decide +kernel)))
  rcases List.mem_cons.mp hx with rfl | hx
  · have e : Str.ofString "1,1,1/02" = tx3 1 1 1 ++ sl ++ Str.ofString "02" := by decide +kernel
    rw [e]
    exact bs_b tb1 tb1 tb1 (by decide +kernel)
  rcases List.mem_cons.mp hx with rfl | hx
  · have e : Str.ofString "1,1,1/+2" = tx3 1 1 1 ++ sl ++ Str.ofString "+2" := by decide +kernel
    rw [e]
    exact bs_b tb1 tb1 tb1 (by decide +kernel)
  rcases List.mem_cons.mp hx with rfl | hx
  · have e : Str.ofString "1,1,1/" ++ Txt.mul (Str.ofString "2") 31 = tx3 1 1 1 ++ sl ++ Txt.mul (Str.ofString "2") 31 := by decide +kernel
    rw [e]
    exact bs_b tb1 tb1 tb1 (by decide +kernel)
  rw [List.mem_singleton] at hx
  subst hx
  exact bs_plain (by decide +kernel) (.inl (.one (by decide +kernel) (by decide +kernel)))
theorem se1_bad {a b c : Int} (ha : TB a) (hb : TB b) (hc : TB c) : ∀ z ∈ se1, Bsx (tx3 a b c ++ z) := fun z hz => by
  have cl : ∀ y ∈ se1, y.length ≤ 3 ∧ y.cps.all (fun c => decide (c < 128)) = true := by decide +kernel
  have l := tx3_len ha hb hc
  have lz := (cl z hz).1
  refine ⟨by rw [app_len]; omega, asc_app (asc_tx3 a b c) (cl z hz).2, ?_⟩
  have lo : ∀ d : Int, TB d → d ≤ 1 → z = sl ++ dec d → Bs (tx3 a b c ++ z) := fun d hd h1 e => by
    rw [e, ← app_assoc]
    exact bs_low ha hb hc hd (.inl h1)
  unfold se1 at hz
  rcases List.mem_cons.mp hz with rfl | hz
  · have e : Str.ofString ",7" = cm ++ Str.ofString "7" := by decide +kernel
    rw [e]
    refine bs_plain (fun h => ?_) (.inr ?_)
    · rw [sg_app] at h
      rcases List.mem_append.mp h with h | h
      · exact tx3_47 a b c h
      · revert h; decide +kernel
    · rw [← app_assoc, split_app, tx3_split, split_one (by decide +kernel)]
      exact show (4 : Nat) ≠ 3 by decide
  rcases List.mem_cons.mp hz with rfl | hz
  · exact lo 1 tb1 (by decide) (by decide +kernel)
  rcases List.mem_cons.mp hz with rfl | hz
  · exact lo 0 (by unfold TB; decide) (by decide) (by decide +kernel)
  rcases List.mem_cons.mp hz with rfl | hz
  · exact lo (-2) (by unfold TB; decide) (by decide) (by decide +kernel)
  rw [List.mem_singleton] at hz
  subst hz
  have e : tx3 a b c ++ Str.ofString "/" = tx3 a b c ++ sl ++ Str.empty := sg_ext (by rw [sg_app, sg_app, sg_app, c_sl]; show _ = sg (tx3 a b c) ++ [47] ++ []; rw [List.append_nil]; rfl)
  rw [e]
  exact bs_b ha hb hc (by decide +kernel)
theorem se2_bad {a b c d : Int} (ha : TB a) (hb : TB b) (hc : TB c) (hd : TB d) : ∀ z ∈ se2, Bsx (overT (tx3 a b c) d ++ z) := fun z hz => by
  unfold se2 at hz
  rcases List.mem_cons.mp hz with rfl | hz
  · exact suf_bad (k := 32) ha hb hc hd (sg_of _ _ (by decide +kernel)) (by decide) (by decide) (by decide) (by decide) (by decide)
  rcases List.mem_cons.mp hz with rfl | hz
  · exact suf_bad (k := 10) ha hb hc hd (sg_of _ _ (by decide +kernel)) (by decide) (by decide) (by decide) (by decide) (by decide)
  rw [List.mem_singleton] at hz
  subst hz
  exact suf_bad (k := 59) ha hb hc hd (sg_of _ _ (by decide +kernel)) (by decide) (by decide) (by decide) (by decide) (by decide)
theorem se3_bad {a b c d : Int} (ha : TB a) (hb : TB b) (hc : TB c) (hd : TB d) : ∀ z ∈ se3, Bsx (z ++ overT (tx3 a b c) d) := fun z hz => by
  have go : ∀ {k : Nat}, sg z = [k] → k ≠ 45 → ¬ (48 ≤ k ∧ k ≤ 57) → k ≠ 44 → k ≠ 47 → k < 128 → Bsx (z ++ overT (tx3 a b c) d) := fun {k} h0 h1 h2 h3 h4 h5 => by
    have h := pre_bad (k := k) Str.empty ha hb hc hd h0 h1 h2 h3 h4 h5 ⟨by decide, asc_str _ (by decide +kernel)⟩
    have e : z ++ overT (tx3 a b c) d ++ Str.empty = z ++ overT (tx3 a b c) d := sg_ext (by rw [sg_app]; show _ ++ [] = _; rw [List.append_nil])
    rw [e] at h
    exact h
  unfold se3 at hz
  rcases List.mem_cons.mp hz with rfl | hz
  · exact go (k := 32) (sg_of _ _ (by decide +kernel)) (by decide) (by decide) (by decide) (by decide) (by decide)
  rcases List.mem_cons.mp hz with rfl | hz
  · exact go (k := 10) (sg_of _ _ (by decide +kernel)) (by decide) (by decide) (by decide) (by decide) (by decide)
  rw [List.mem_singleton] at hz
  subst hz
  exact go (k := 43) (sg_of _ _ (by decide +kernel)) (by decide) (by decide) (by decide) (by decide) (by decide)
theorem spA_bad {u v t : Str} {a b c d : Int} (ha : TS a) (hb : TS b) (hc : TS c) (hd : TS d) (hg : gl [a, b, c, d] = 1) (hu : Wd u) (hv : Wd v) (ht : Wd t) (h : Bw u ∨ Bw v ∨ Bw t) : ∀ x ∈ spA u v t a b c d, Bsx x := fun x hx => by
  unfold spA at hx
  rcases List.mem_append.mp hx with hx | hx
  · rcases List.mem_append.mp hx with hx | hx
    · rcases List.mem_append.mp hx with hx | hx
      · rcases List.mem_append.mp hx with hx | hx
        · exact sp0_bad ha hb hc hd hg hu hv ht h x hx
        · exact sp1_bad x hx
      · obtain ⟨z, hz, rfl⟩ := List.mem_map.mp hx
        exact se1_bad ha.tb hb.tb hc.tb z hz
    · obtain ⟨z, hz, rfl⟩ := List.mem_map.mp hx
      exact se2_bad ha.tb hb.tb hc.tb hd.tb z hz
  · obtain ⟨z, hz, rfl⟩ := List.mem_map.mp hx
    exact se3_bad ha.tb hb.tb hc.tb hd.tb z hz
theorem SameB.accN {L acc : Addr} {H1 H : Hp} (h : SameB L H1 H) (hacc : H1 acc = none) (x : HO) : SameB L H1 (upd H acc x) := fun b o nb hb => by
  rw [upd_ne (fun z => by rw [z, hacc] at hb; cases hb)]
  exact h b o nb hb
theorem Box.ne {H : Hp} {L a : Addr} (b : Box H L) (h : H a = none) : a ≠ L := fun z => by
  obtain ⟨y, hy⟩ := b
  rw [z, hy] at h; cases h
theorem compRB {L : Addr} {te : TE} {acc : Addr} {ρ : L2.St} {H1 : Hp} {Z : Hp → Prop} {lo : Int} {n : Nat} (p : V → Prop) (hn : n < 1000) (hacc : H1 acc = none) (b0 : Box H1 L)
    (hs : ∀ (i : Nat) (H3 : Hp) (R : V → Hp → Prop), i < n → SameB L H1 H3 → Box H3 L → (∀ y H4, SameB L H3 H4 → Box H4 L → p y → R y H4) → te (some (.int (lo + i)) :: ρ) H3 R)
    (hd : ∀ ys H', SameB L H1 H' → Box H' L → H' acc = some (.lst ys) → ys.length = n → (∀ y ∈ ys, p y) → Z H') : CompGo (Itr lo n) ρ (gName 0) tNoIf te acc Z H1 := by
  have ne := b0.ne hacc
  have up : ∀ {H : Hp} {xs : List V}, Box H L → Box (upd H acc (.lst xs)) L := fun {H xs} ⟨ys, h1⟩ => ⟨ys, by rw [upd_ne (Ne.symm ne)]; exact h1⟩
  refine comp_range (fun i xs H => SameB L H1 H ∧ Box H L ∧ H acc = some (.lst xs) ∧ xs.length = i ∧ ∀ y ∈ xs, p y) ⟨(Same.new hacc _).b, up b0, upd_same, rfl, fun y h => nomatch h⟩ ?_ ?_
  · rintro i xs H hi ⟨g1, gb, g2, hl, hp⟩
    refine hs i H _ hi g1 gb fun y H4 s4 b4 py => ⟨s4 _ _ ne g2, lt_line (by omega), SameB.accN (g1.trans s4) hacc _, up b4, upd_same, ?_, fun z hz => ?_⟩
    · rw [List.length_append, hl]
      rfl
    · rcases List.mem_append.mp hz with hz | hz
      · exact hp z hz
      · rw [List.mem_singleton.mp hz]; exact py
  · rintro xs H ⟨g1, gb, g2, hl, hp⟩
    exact hd xs H g1 gb g2 hl hp
theorem strs_of {ys : List V} {p : Str → Prop} (h : ∀ y ∈ ys, ∃ b, y = V.str b ∧ p b) : ∃ bs : List Str, ys = bs.map V.str ∧ ∀ b ∈ bs, p b := by
  induction ys with
  | nil => exact ⟨[], rfl, fun _ z => nomatch z⟩
  | cons y r ih =>
    obtain ⟨b, rfl, hb⟩ := h y List.mem_cons_self
    obtain ⟨bs, e, hbs⟩ := ih fun z hz => h z (List.mem_cons_of_mem _ hz)
    exact ⟨b :: bs, by rw [e]; rfl, fun z hz => by
      rcases List.mem_cons.mp hz with rfl | hz
      · exact hb
      · exact hbs z hz⟩
theorem ok_spoilt (T : Tx K mg t1 t2) (F : At K mg "_law_spoilt" s__law_spoilt ["left", "spot"] []) (d__law_words : DefOk P w K mg base CX0 1 "_law_words" ["spot"] [] spWords) (d__law_next : DefOk P w K mg base CX0 1 "_law_next" ["left", "base"] [] spNext) (d__law_bad_word : DefOk P w K mg base CX0 2 "_law_bad_word" ["left", "number"] [] spBWd) (d__law_joined : DefOk P w K mg base CX0 1 "_law_joined" ["words"] [] spJoined) : DefOk P w K mg base CX0 3 "_law_spoilt" ["left", "spot"] [] spSpoilt := by
  refine F.ok sc__law_spoilt (fun vs H Q E h => ?_) (fun f cdv A outer s H vs Q E hr h => ?_)
  · obtain ⟨L, r, a, b, c, d, rfl, _⟩ := h
    rfl
  obtain ⟨L, r, a, b, c, d, rfl, ⟨m, hL⟩, e0, ha, hb, hc, hd, d1, hg, q⟩ := h
  have S := sc__law_spoilt
  refine ⟨_, (pss_cons (ps_set (i := 2) S.nd rfl (Or.inl rfl) (pe_callD d__law_words (hr.mono (by decide)) rfl pass0 (pa_cons (pv 1) pa_nil se_nam)))
    (pss_cons (ps_set (i := 3) S.nd rfl (Or.inr rfl) (pe_bm PySem.F.plainAttrs_str PySem.F.slot_str_join PySem.F.type_str_join mt_join pe_str (pa_cons (pe_slice sl_list (pv 2) po_none (po_some pe_int)) pa_nil se_sub)))
    (pss_cons (ps_set (i := 4) S.nd rfl (Or.inl rfl) (pe_callD d__law_next (hr.mono (by decide)) rfl pass0 (pa_cons (pv 0) (pa_cons pe_int pa_nil se_con) se_nam)))
    (pss_cut (sM H L r a b c d) (ps_set (i := 5) S.nd rfl (Or.inl rfl) (pe_op op_catQ (pe_op op_catQ (pe_slice sl_list (pv 2) po_none (po_some (pv 4))) (pe_lst (pa_cons (pe_callD d__law_bad_word (hr.mono (by decide)) rfl pass0 (pa_cons (pv 0) (pa_cons (pe_ix ix_tup (pv 1) (pv 4) (fun _ _ => rfl)) pa_nil se_sub) se_nam)) pa_nil se_cal))) (pe_slice sl_list (pv 2) (po_some (pe_op op_add (pv 4) pe_int)) po_none)))
    (pss_cons (ps_set (i := 6) S.nd rfl (Or.inl rfl) (pe_op op_add_str (pe_op op_add_str (pe_bm PySem.F.plainAttrs_str PySem.F.slot_str_join PySem.F.type_str_join mt_join pe_str (pa_cons (pe_comp rfl (N' := ["number"]) (ix := []) ⟨rfl, rfl, by decide +kernel, by decide +kernel, rfl, by decide +kernel, (show ∀ y : Str × NameKind, y ∈ _ → y.2 = NameKind.free → (defScope s__law_spoilt).names.lookup y.1 = some .cell ∨ (defScope s__law_spoilt).names.lookup y.1 = some .free from by decide +kernel), .nil⟩ (pi_tup (pe_slice sl_tup (pv 1) po_none (po_some pe_int))) (fun _ _ _ _ => pg_name (i := 0) (show (["number"] : List Str).Nodup from by decide +kernel) rfl (Or.inl rfl)) (fun _ _ _ _ => pts_nil) (fun _ _ _ _ => (pe_callTy call_strI rfl T.m_str boot_str (pa_cons (pe_op op_mulB pe_int (pv 0)) pa_nil se_bin)))) pa_nil se_cmp)) pe_str) (pe_callTy call_strI rfl T.m_str boot_str (pa_cons (pe_op op_mulB pe_int (pe_ix ix_tup (pv 1) pe_int (fun _ _ => rfl))) pa_nil se_bin))))
    (pss_cut (sN H L r a b c d) (ps_set (i := 7) S.nd rfl (Or.inr rfl) (pe_callD d__law_joined (hr.mono (by decide)) rfl pass0 (pa_cons (pv 2) pa_nil se_nam)))
    (pss_cons (ps_set (i := 8) S.nd rfl (Or.inr rfl) (pe_lst (pa_cons (pe_callD d__law_joined (hr.mono (by decide)) rfl pass0 (pa_cons (pv 5) pa_nil se_nam)) (pa_cons (pe_bm PySem.F.plainAttrs_str PySem.F.slot_str_join PySem.F.type_str_join mt_join pe_str (pa_cons (pe_slice sl_list (pv 2) po_none (po_some pe_int)) pa_nil se_sub)) (pa_cons (pv 6) (pa_cons pe_str (pa_cons (pe_op op_add_str (pe_op op_add_str pe_str (pv 7)) pe_str) (pa_cons pe_str pa_nil se_con) se_bin) se_con) se_nam) se_cal) se_cal)))
    (pss_cons (ps_expr (pe_bm PySem.F.plainAttrs_list PySem.F.slot_list_extend PySem.F.type_list_extend mt_extend (pv 8) (pa_cons (pe_lst (pa_cons pe_str (pa_cons pe_str (pa_cons pe_str (pa_cons pe_str (pa_cons (pe_op op_add_str pe_str (pe_op op_mul_str pe_str pe_int)) (pa_cons pe_str pa_nil se_con) se_bin) se_con) se_con) se_con) se_con)) pa_nil se_lst)))
    (pss_cons (ps_expr (pe_bm PySem.F.plainAttrs_list PySem.F.slot_list_extend PySem.F.type_list_extend mt_extend (pv 8) (pa_cons (pe_comp rfl (N' := ["end", "whole"]) (ix := [3]) ⟨rfl, rfl, by decide +kernel, by decide +kernel, rfl, by decide +kernel, (show ∀ y : Str × NameKind, y ∈ _ → y.2 = NameKind.free → (defScope s__law_spoilt).names.lookup y.1 = some .cell ∨ (defScope s__law_spoilt).names.lookup y.1 = some .free from by decide +kernel), (.cons rfl (.inl rfl) rfl .nil)⟩ (pi_list (pe_lst (pa_cons pe_str (pa_cons pe_str (pa_cons pe_str (pa_cons pe_str (pa_cons pe_str pa_nil se_con) se_con) se_con) se_con) se_con))) (fun _ _ _ _ => pg_name (i := 0) (show (["end", "whole"] : List Str).Nodup from by decide +kernel) rfl (Or.inl rfl)) (fun _ _ _ _ => pts_nil) (fun _ _ _ _ => (pe_op op_add_str (pv 1) (pv 0)))) pa_nil se_cmp)))
    (pss_cons (ps_expr (pe_bm PySem.F.plainAttrs_list PySem.F.slot_list_extend PySem.F.type_list_extend mt_extend (pv 8) (pa_cons (pe_comp rfl (N' := ["end", "text"]) (ix := [7]) ⟨rfl, rfl, by decide +kernel, by decide +kernel, rfl, by decide +kernel, (show ∀ y : Str × NameKind, y ∈ _ → y.2 = NameKind.free → (defScope s__law_spoilt).names.lookup y.1 = some .cell ∨ (defScope s__law_spoilt).names.lookup y.1 = some .free from by decide +kernel), (.cons rfl (.inl rfl) rfl .nil)⟩ (pi_list (pe_lst (pa_cons pe_str (pa_cons pe_str (pa_cons pe_str pa_nil se_con) se_con) se_con))) (fun _ _ _ _ => pg_name (i := 0) (show (["end", "text"] : List Str).Nodup from by decide +kernel) rfl (Or.inl rfl)) (fun _ _ _ _ => pts_nil) (fun _ _ _ _ => (pe_op op_add_str (pv 1) (pv 0)))) pa_nil se_cmp)))
    (pss_cons (ps_expr (pe_bm PySem.F.plainAttrs_list PySem.F.slot_list_extend PySem.F.type_list_extend mt_extend (pv 8) (pa_cons (pe_comp rfl (N' := ["start", "text"]) (ix := [7]) ⟨rfl, rfl, by decide +kernel, by decide +kernel, rfl, by decide +kernel, (show ∀ y : Str × NameKind, y ∈ _ → y.2 = NameKind.free → (defScope s__law_spoilt).names.lookup y.1 = some .cell ∨ (defScope s__law_spoilt).names.lookup y.1 = some .free from by decide +kernel), (.cons rfl (.inl rfl) rfl .nil)⟩ (pi_list (pe_lst (pa_cons pe_str (pa_cons pe_str (pa_cons pe_str pa_nil se_con) se_con) se_con))) (fun _ _ _ _ => pg_name (i := 0) (show (["start", "text"] : List Str).Nodup from by decide +kernel) rfl (Or.inl rfl)) (fun _ _ _ _ => pts_nil) (fun _ _ _ _ => (pe_op op_add_str (pv 0) (pv 1)))) pa_nil se_cmp)))
    (pss_one (ps_ret (pe_op op_catQ (pe_lst (pa_cons (pe_callD d__law_joined (hr.mono (by decide)) rfl pass0 (pa_cons (pv 5) pa_nil se_nam)) pa_nil se_cal)) (pe_comp rfl (N' := ["k", "some", "left"]) (ix := [8, 0]) ⟨rfl, rfl, by decide +kernel, by decide +kernel, rfl, by decide +kernel, (show ∀ y : Str × NameKind, y ∈ _ → y.2 = NameKind.free → (defScope s__law_spoilt).names.lookup y.1 = some .cell ∨ (defScope s__law_spoilt).names.lookup y.1 = some .free from by decide +kernel), (.cons rfl (.inl rfl) rfl (.cons rfl (.inl rfl) rfl .nil))⟩ (pi_range1 rfl T.m_range (pa_cons pe_int pa_nil se_con)) (fun _ _ _ _ => pg_name (i := 0) (show (["k", "some", "left"] : List Str).Nodup from by decide +kernel) rfl (Or.inl rfl)) (fun _ _ _ _ => pts_nil) (fun _ _ _ _ => (pe_ix (ix_listK (K := K) rfl) (pv 1) (pe_callD d__law_next (hr.mono (by decide)) rfl pass0 (pa_cons (pv 2) (pa_cons (pe_callB (call_len_seqK (K := K) rfl) rfl T.m_len PySem.boot_len (pa_cons (pv 1) pa_nil se_nam)) pa_nil se_cal) se_nam)) (fun _ _ => rfl)))))))))))))))))), ?_⟩
  have k0 : SqT K H r [.int a, .int b, .int c, .int d] := SqT.of e0
  try walk_at "rf"
  refine ⟨r, a, b, c, d, rfl, e0, ha.tb, hb.tb, hc.tb, hd.tb, fun wl H1 nw s1 e1 => ?_⟩
  try walk_at "rf"
  have k1 : SqL K H1 wl (W4 (dec a) (dec b) (dec c) (dec d)) := SqL.of e1
  have hj : JoinOk (Str.ofString ",") [dec a, dec b, dec c] = true := join3_ok (Nat.le_trans ha.tb.len (by decide)) (Nat.le_trans hb.tb.len (by decide)) (Nat.le_trans hc.tb.len (by decide))
  have wlL : wl ≠ L := fun z => by rw [z, hL] at nw; cases nw
  refine ⟨wl, _, rfl, k1, fun p hp => ⟨p, rfl, [dec a, dec b, dec c], SqL.of upd_same, hj, ?_⟩⟩
  rw [join_j3]
  have s2 := Same.new hp (.lst (cutV (W4 (dec a) (dec b) (dec c) (dec d)) none (some 3)))
  have S2 := s1.trans s2
  generalize upd H1 p (.lst (cutV (W4 (dec a) (dec b) (dec c) (dec d)) none (some 3))) = H2 at s2 S2 ⊢
  refine ⟨L, 3, m, rfl, S2 _ _ hL, by decide, Bd.fit (n := 10) (by unfold Bd; decide), ?_, ?_⟩
--@F1
  · refine ⟨_, rfl, ?_⟩
    have SB3 : SameB L H (upd H2 L (.lst [.int (m / 3)])) := S2.b.trans (box_upd (S2 _ _ hL))
    have b3 : Box (upd H2 L (.lst [.int (m / 3)])) L := ⟨_, upd_same⟩
    have w3 : upd H2 L (.lst [.int (m / 3)]) wl = some (.lst (W4 (dec a) (dec b) (dec c) (dec d))) := by rw [upd_ne wlL]; exact s2 _ _ e1
    have rL : r ≠ L := fun z => by rw [z, hL] at e0; cases e0
    have r3 : upd H2 L (.lst [.int (m / 3)]) r = some (.tup [.int a, .int b, .int c, .int d]) := by rw [upd_ne rL]; exact S2 _ _ e0
    generalize upd H2 L (.lst [.int (m / 3)]) = H3 at SB3 b3 w3 r3 ⊢
    have k3 : SqL K H3 wl (W4 (dec a) (dec b) (dec c) (dec d)) := SqL.of w3
    have m0 := Int.emod_nonneg m (show (3 : Int) ≠ 0 by decide)
    have m4 := Int.emod_lt_of_pos m (show (0 : Int) < 3 by decide)
    generalize m % 3 = i at m0 m4 ⊢
    have : i = 0 ∨ i = 1 ∨ i = 2 := by omega
    rcases this with rfl | rfl | rfl
    · refine ⟨wl, _, rfl, k3, fun p3 hp3 => ?_⟩
      have c3 : cutV (W4 (dec a) (dec b) (dec c) (dec d)) none (some 0) = [] := rfl
      rw [c3]
      have s4 := Same.new hp3 (.lst [])
      have e4 : upd H3 p3 (.lst []) p3 = some (.lst []) := upd_same
      generalize upd H3 p3 (.lst []) = H4 at s4 e4 ⊢
      refine ixT (SqT.of (s4 _ _ r3)) (i := 0) rfl ⟨L, a, rfl, b3.keep s4, ha.tb, fun bw H5 s5 b5 hbw => ⟨by decide, fun p5 hp5 => ?_⟩⟩
      have p3L : p3 ≠ L := fun z => by obtain ⟨y, hy⟩ := b3; rw [z, hy] at hp3; cases hp3
      have s6 := Same.new hp5 (.lst [V.str bw])
      have e6 : upd H5 p5 (.lst [V.str bw]) p5 = some (.lst [V.str bw]) := upd_same
      generalize upd H5 p5 (.lst [V.str bw]) = H6 at s6 e6 ⊢
      refine ⟨p3, p5, _, _, rfl, rfl, SqL.of (s6 _ _ (s5 _ _ p3L e4)), SqL.of e6, len_ok (show 0 + 1 < 1000 by decide), fun p7 hp7 => ⟨_, rfl, ?_⟩⟩
      have s7 := Same.new hp7 (.lst ([] ++ [V.str bw]))
      have e7 : upd H6 p7 (.lst ([] ++ [V.str bw])) p7 = some (.lst ([] ++ [V.str bw])) := upd_same
      generalize upd H6 p7 (.lst ([] ++ [V.str bw])) = H7 at s7 e7 ⊢
      have w7 : H7 wl = some (.lst (W4 (dec a) (dec b) (dec c) (dec d))) := s7 _ _ (s6 _ _ (s5 _ _ wlL (s4 _ _ w3)))
      refine ⟨wl, _, rfl, SqL.of w7, fun p8 hp8 => ?_⟩
      have c8 : cutV (W4 (dec a) (dec b) (dec c) (dec d)) (some (0 + 1)) none = [V.str (dec b), V.str (dec c), V.str (dec d)] := rfl
      rw [c8]
      have s8 := Same.new hp8 (.lst [V.str (dec b), V.str (dec c), V.str (dec d)])
      have e8 : upd H7 p8 (.lst [V.str (dec b), V.str (dec c), V.str (dec d)]) p8 = some (.lst [V.str (dec b), V.str (dec c), V.str (dec d)]) := upd_same
      generalize upd H7 p8 (.lst [V.str (dec b), V.str (dec c), V.str (dec d)]) = H8 at s8 e8 ⊢
      refine ⟨p7, p8, _, _, rfl, rfl, SqL.of (s8 _ _ e7), SqL.of e8, len_ok (show 0 + 1 + 3 < 1000 by decide), fun p9 hp9 => ?_⟩
      have s9 := Same.new hp9 (.lst ([] ++ [V.str bw] ++ [V.str (dec b), V.str (dec c), V.str (dec d)]))
      have b9 := (((b5.keep s6).keep s7).keep s8).keep s9
      have S9 : SameB L H3 (upd H8 p9 (.lst ([] ++ [V.str bw] ++ [V.str (dec b), V.str (dec c), V.str (dec d)]))) := s4.b.trans (s5.trans (((s6.trans s7).trans s8).trans s9).b)
      have p9L : p9 ≠ L := fun z => by
        obtain ⟨y, hy⟩ := ((b5.keep s6).keep s7).keep s8
        rw [z, hy] at hp9; cases hp9
      exact ⟨wl, p9, bw, (dec b), (dec c), _, rfl, SB3.trans S9, b9, wlL, p9L, S9 _ _ wlL w3, upd_same, ⟨hbw.1, hbw.2.1, hbw.2.2.1⟩, wd_dec hb.tb, wd_dec hc.tb, .inl hbw.2.2.2⟩
    · refine ⟨wl, _, rfl, k3, fun p3 hp3 => ?_⟩
      have c3 : cutV (W4 (dec a) (dec b) (dec c) (dec d)) none (some 1) = [V.str (dec a)] := rfl
      rw [c3]
      have s4 := Same.new hp3 (.lst [V.str (dec a)])
      have e4 : upd H3 p3 (.lst [V.str (dec a)]) p3 = some (.lst [V.str (dec a)]) := upd_same
      generalize upd H3 p3 (.lst [V.str (dec a)]) = H4 at s4 e4 ⊢
      refine ixT (SqT.of (s4 _ _ r3)) (i := 1) rfl ⟨L, b, rfl, b3.keep s4, hb.tb, fun bw H5 s5 b5 hbw => ⟨by decide, fun p5 hp5 => ?_⟩⟩
      have p3L : p3 ≠ L := fun z => by obtain ⟨y, hy⟩ := b3; rw [z, hy] at hp3; cases hp3
      have s6 := Same.new hp5 (.lst [V.str bw])
      have e6 : upd H5 p5 (.lst [V.str bw]) p5 = some (.lst [V.str bw]) := upd_same
      generalize upd H5 p5 (.lst [V.str bw]) = H6 at s6 e6 ⊢
      refine ⟨p3, p5, _, _, rfl, rfl, SqL.of (s6 _ _ (s5 _ _ p3L e4)), SqL.of e6, len_ok (show 1 + 1 < 1000 by decide), fun p7 hp7 => ⟨_, rfl, ?_⟩⟩
      have s7 := Same.new hp7 (.lst ([V.str (dec a)] ++ [V.str bw]))
      have e7 : upd H6 p7 (.lst ([V.str (dec a)] ++ [V.str bw])) p7 = some (.lst ([V.str (dec a)] ++ [V.str bw])) := upd_same
      generalize upd H6 p7 (.lst ([V.str (dec a)] ++ [V.str bw])) = H7 at s7 e7 ⊢
      have w7 : H7 wl = some (.lst (W4 (dec a) (dec b) (dec c) (dec d))) := s7 _ _ (s6 _ _ (s5 _ _ wlL (s4 _ _ w3)))
      refine ⟨wl, _, rfl, SqL.of w7, fun p8 hp8 => ?_⟩
      have c8 : cutV (W4 (dec a) (dec b) (dec c) (dec d)) (some (1 + 1)) none = [V.str (dec c), V.str (dec d)] := rfl
      rw [c8]
      have s8 := Same.new hp8 (.lst [V.str (dec c), V.str (dec d)])
      have e8 : upd H7 p8 (.lst [V.str (dec c), V.str (dec d)]) p8 = some (.lst [V.str (dec c), V.str (dec d)]) := upd_same
      generalize upd H7 p8 (.lst [V.str (dec c), V.str (dec d)]) = H8 at s8 e8 ⊢
      refine ⟨p7, p8, _, _, rfl, rfl, SqL.of (s8 _ _ e7), SqL.of e8, len_ok (show 1 + 1 + 2 < 1000 by decide), fun p9 hp9 => ?_⟩
      have s9 := Same.new hp9 (.lst ([V.str (dec a)] ++ [V.str bw] ++ [V.str (dec c), V.str (dec d)]))
      have b9 := (((b5.keep s6).keep s7).keep s8).keep s9
      have S9 : SameB L H3 (upd H8 p9 (.lst ([V.str (dec a)] ++ [V.str bw] ++ [V.str (dec c), V.str (dec d)]))) := s4.b.trans (s5.trans (((s6.trans s7).trans s8).trans s9).b)
      have p9L : p9 ≠ L := fun z => by
        obtain ⟨y, hy⟩ := ((b5.keep s6).keep s7).keep s8
        rw [z, hy] at hp9; cases hp9
      exact ⟨wl, p9, (dec a), bw, (dec c), _, rfl, SB3.trans S9, b9, wlL, p9L, S9 _ _ wlL w3, upd_same, wd_dec ha.tb, ⟨hbw.1, hbw.2.1, hbw.2.2.1⟩, wd_dec hc.tb, .inr (.inl hbw.2.2.2)⟩
    · refine ⟨wl, _, rfl, k3, fun p3 hp3 => ?_⟩
      have c3 : cutV (W4 (dec a) (dec b) (dec c) (dec d)) none (some 2) = [V.str (dec a), V.str (dec b)] := rfl
      rw [c3]
      have s4 := Same.new hp3 (.lst [V.str (dec a), V.str (dec b)])
      have e4 : upd H3 p3 (.lst [V.str (dec a), V.str (dec b)]) p3 = some (.lst [V.str (dec a), V.str (dec b)]) := upd_same
      generalize upd H3 p3 (.lst [V.str (dec a), V.str (dec b)]) = H4 at s4 e4 ⊢
      refine ixT (SqT.of (s4 _ _ r3)) (i := 2) rfl ⟨L, c, rfl, b3.keep s4, hc.tb, fun bw H5 s5 b5 hbw => ⟨by decide, fun p5 hp5 => ?_⟩⟩
      have p3L : p3 ≠ L := fun z => by obtain ⟨y, hy⟩ := b3; rw [z, hy] at hp3; cases hp3
      have s6 := Same.new hp5 (.lst [V.str bw])
      have e6 : upd H5 p5 (.lst [V.str bw]) p5 = some (.lst [V.str bw]) := upd_same
      generalize upd H5 p5 (.lst [V.str bw]) = H6 at s6 e6 ⊢
      refine ⟨p3, p5, _, _, rfl, rfl, SqL.of (s6 _ _ (s5 _ _ p3L e4)), SqL.of e6, len_ok (show 2 + 1 < 1000 by decide), fun p7 hp7 => ⟨_, rfl, ?_⟩⟩
      have s7 := Same.new hp7 (.lst ([V.str (dec a), V.str (dec b)] ++ [V.str bw]))
      have e7 : upd H6 p7 (.lst ([V.str (dec a), V.str (dec b)] ++ [V.str bw])) p7 = some (.lst ([V.str (dec a), V.str (dec b)] ++ [V.str bw])) := upd_same
      generalize upd H6 p7 (.lst ([V.str (dec a), V.str (dec b)] ++ [V.str bw])) = H7 at s7 e7 ⊢
      have w7 : H7 wl = some (.lst (W4 (dec a) (dec b) (dec c) (dec d))) := s7 _ _ (s6 _ _ (s5 _ _ wlL (s4 _ _ w3)))
      refine ⟨wl, _, rfl, SqL.of w7, fun p8 hp8 => ?_⟩
      have c8 : cutV (W4 (dec a) (dec b) (dec c) (dec d)) (some (2 + 1)) none = [V.str (dec d)] := rfl
      rw [c8]
      have s8 := Same.new hp8 (.lst [V.str (dec d)])
      have e8 : upd H7 p8 (.lst [V.str (dec d)]) p8 = some (.lst [V.str (dec d)]) := upd_same
      generalize upd H7 p8 (.lst [V.str (dec d)]) = H8 at s8 e8 ⊢
      refine ⟨p7, p8, _, _, rfl, rfl, SqL.of (s8 _ _ e7), SqL.of e8, len_ok (show 2 + 1 + 1 < 1000 by decide), fun p9 hp9 => ?_⟩
      have s9 := Same.new hp9 (.lst ([V.str (dec a), V.str (dec b)] ++ [V.str bw] ++ [V.str (dec d)]))
      have b9 := (((b5.keep s6).keep s7).keep s8).keep s9
      have S9 : SameB L H3 (upd H8 p9 (.lst ([V.str (dec a), V.str (dec b)] ++ [V.str bw] ++ [V.str (dec d)]))) := s4.b.trans (s5.trans (((s6.trans s7).trans s8).trans s9).b)
      have p9L : p9 ≠ L := fun z => by
        obtain ⟨y, hy⟩ := ((b5.keep s6).keep s7).keep s8
        rw [z, hy] at hp9; cases hp9
      exact ⟨wl, p9, (dec a), (dec b), bw, _, rfl, SB3.trans S9, b9, wlL, p9L, S9 _ _ wlL w3, upd_same, wd_dec ha.tb, wd_dec hb.tb, ⟨hbw.1, hbw.2.1, hbw.2.2.1⟩, .inr (.inr hbw.2.2.2)⟩
--@F2
  rintro σ1 H1 ⟨wl, bl, u, v, t, o4, rfl, sB, bX, wL, bL, ew, eb, hu, hv, ht, hbw⟩
  have rL : r ≠ L := fun z => by rw [z, hL] at e0; cases e0
  have er : H1 r = some (.tup [.int a, .int b, .int c, .int d]) := sB _ _ rL e0
  try walk_at "rf"
  refine ⟨r, _, rfl, SqT.of er, show ¬ (HT.sIx 4 0 none = 0 ∧ HT.sIx 4 4 (some 3) = 4) by decide, fun p hp => ?_⟩
  have ec : cutV [V.int a, V.int b, V.int c, V.int d] none (some 3) = [V.int a, V.int b, V.int c] := rfl
  rw [ec]
  have s1 := Same.new hp (.tup [V.int a, V.int b, V.int c])
  have e1 : upd H1 p (.tup [V.int a, V.int b, V.int c]) p = some (.tup [V.int a, V.int b, V.int c]) := upd_same
  generalize upd H1 p (.tup [V.int a, V.int b, V.int c]) = H2 at s1 e1 ⊢
  have k1 : SqT K H2 p [V.int a, V.int b, V.int c] := SqT.of e1
  refine ⟨p, rfl, ⟨_, k1⟩, fun acc hacc => compT (zs := [V.int a, V.int b, V.int c]) fdec2 (show 3 < 1000 by decide) hacc k1 (fun z0 H3 R hz0 s3' hR => ?_) fun J8 s12 e12 => ?_⟩
  · walk_at "rf"
    rcases List.mem_cons.mp hz0 with rfl | hz0
    · exact ⟨a, rfl, fit2, (Bd.fit (n := 100) (Nat.lt_of_le_of_lt ha (by decide +kernel))), ha.two.st, hR _ fun _ _ h => h⟩
    rcases List.mem_cons.mp hz0 with rfl | hz0
    · exact ⟨b, rfl, fit2, (Bd.fit (n := 100) (Nat.lt_of_le_of_lt hb (by decide +kernel))), hb.two.st, hR _ fun _ _ h => h⟩
    rw [List.mem_singleton] at hz0; subst hz0
    exact ⟨c, rfl, fit2, (Bd.fit (n := 100) (Nat.lt_of_le_of_lt hc (by decide +kernel))), hc.two.st, hR _ fun _ _ h => h⟩
  have la := ha.two.len
  have lb := hb.two.len
  have lc := hc.two.len
  have ld := hd.two.len
  have hj2 : JoinOk (Str.ofString ",") [dec (2 * a), dec (2 * b), dec (2 * c)] = true := join3_ok (Nat.le_trans la (by decide)) (Nat.le_trans lb (by decide)) (Nat.le_trans lc (by decide))
  have S12 := s1.trans s12
  have lt := tx3_len ha.two hb.two hc.two
  refine ⟨[dec (2 * a), dec (2 * b), dec (2 * c)], SqL.of e12, hj2, ?_⟩
  rw [join_tx]
  refine ⟨len_ok (by rw [l_sl]; omega), ixT (SqT.of (S12 _ _ er)) (i := 3) rfl ⟨d, rfl, fit2, Bd.fit (n := 100) (Nat.lt_of_le_of_lt hd (by decide +kernel)), hd.two.st, len_ok (?_ : _ < 1000), ?_, ?_⟩⟩
  · show (tx3 (2 * a) (2 * b) (2 * c) ++ Str.ofString "/").length + (dec (2 * d)).length < 1000
    rw [app_len, l_sl]
    omega
  · have eT : tx3 (2 * a) (2 * b) (2 * c) ++ Str.ofString "/" ++ Str.ofString (toString (2 * d)) = twT a b c d := by rw [c_sl]; rfl
    rw [eT]
    refine ⟨wl, dec a, dec b, dec c, dec d, rfl, S12 _ _ ew, Nat.le_trans ha.tb.len (by decide), Nat.le_trans hb.tb.len (by decide), Nat.le_trans hc.tb.len (by decide), Nat.le_trans hd.tb.len (by decide), fun H4 s4 => ?_⟩
    rw [jnd_over hd.tb]
    have S4 := S12.trans s4
    exact ⟨wl, bl, u, v, t, o4, rfl, sB.trans S4.b, bX.keep S4, wL, bL, S4 _ _ ew, S4 _ _ eb, hu, hv, ht, hbw⟩
  clear sB bX ew eb er s1 e1 k1 hacc s12 e12 S12
  rintro σ2 H2 ⟨wl, bl, u, v, t, o4, rfl, sB, bX, wL, bL, ew, eb, hu, hv, ht, hbw⟩
  try walk_at "rf"
  refine ⟨bl, u, v, t, dec d, rfl, eb, Nat.le_trans hu.1 (by decide), Nat.le_trans hv.1 (by decide), Nat.le_trans ht.1 (by decide), Nat.le_trans hd.tb.len (by decide), fun H3 s3 => ?_⟩
  refine ⟨wl, _, rfl, SqL.of (s3 _ _ ew), fun p hp => ⟨p, rfl, [dec a, dec b], SqL.of upd_same, join2_ok (Nat.le_trans ha.tb.len (by decide)) (Nat.le_trans hb.tb.len (by decide)), ?_⟩⟩
  rw [join_j2]
  have s4 := Same.new hp (.lst (cutV (W4 (dec a) (dec b) (dec c) (dec d)) none (some 2)))
  have S4 := s3.trans s4
  generalize upd H3 p (.lst (cutV (W4 (dec a) (dec b) (dec c) (dec d)) none (some 2))) = H4 at s4 S4 ⊢
  have lo := (over_len ha.tb hb.tb hc.tb hd.tb).1
  have lw := tx3_len ha.tb hb.tb hc.tb
  have lp : (Str.ofString "(").length = 1 := by decide +kernel
  have lp2 : (Str.ofString ")").length = 1 := by decide +kernel
  refine ⟨len_ok (by rw [lp]; omega), len_ok (by rw [app_len, lp, lp2]; omega), by decide, fun p0 hp0 => ?_⟩
  rw [show HO.lst [V.str (jnd u v t (dec d)), V.str (j2 (dec a) (dec b)), V.str (twT a b c d), V.str (Str.ofString "1,1,1/2/3"), V.str (Str.ofString "(" ++ overT (tx3 a b c) d ++ Str.ofString ")"), V.str (Str.ofString "")] = HO.lst ((sp0 u v t a b c d).map V.str) from rfl]
  have s5 := Same.new hp0 (.lst ((sp0 u v t a b c d).map V.str))
  have e5 : upd H4 p0 (.lst ((sp0 u v t a b c d).map V.str)) p0 = some (.lst ((sp0 u v t a b c d).map V.str)) := upd_same
  generalize upd H4 p0 (.lst ((sp0 u v t a b c d).map V.str)) = H5 at s5 e5 ⊢
  have pL : p0 ≠ L := fun e => by obtain ⟨y, hy⟩ := bX.keep S4; rw [e, hy] at hp0; cases hp0
  have pb : bl ≠ p0 := fun e => by rw [← e, S4 _ _ eb] at hp0; cases hp0
  refine ⟨.inl ⟨_, SqL.of e5⟩, ⟨by decide, fun _ _ => by decide +kernel, fun _ _ => by decide +kernel⟩, len_ok (by decide +kernel), by decide, fun p1 hp1 => ?_⟩
  rw [show HO.lst [V.str (Str.ofString "/2"), V.str (Str.ofString ",,"), V.str (Str.ofString "1,1,1/02"), V.str (Str.ofString "1,1,1/+2"), V.str (Str.ofString "1,1,1/" ++ Txt.mul (Str.ofString "2") 31), V.str (Str.ofString "1 1 1")] = HO.lst ((sp1).map V.str) from rfl]
  have s6 := Same.new hp1 (.lst ((sp1).map V.str))
  have e6 : upd H5 p1 (.lst ((sp1).map V.str)) p1 = some (.lst ((sp1).map V.str)) := upd_same
  generalize upd H5 p1 (.lst ((sp1).map V.str)) = H6 at s6 e6 ⊢
  refine grown (s6 _ _ e5) e6 (show 6 + 6 < 1000 by decide) fun J1 sb1 e7 => ⟨.inl ⟨_, SqL.of e7⟩, by decide, fun p2 hp2 => ?_⟩
  rw [show HO.lst [V.str (Str.ofString ",7"), V.str (Str.ofString "/1"), V.str (Str.ofString "/0"), V.str (Str.ofString "/-2"), V.str (Str.ofString "/")] = HO.lst ((se1).map V.str) from rfl]
  have s8 := Same.new hp2 (.lst ((se1).map V.str))
  have e8 : upd J1 p2 (.lst ((se1).map V.str)) p2 = some (.lst ((se1).map V.str)) := upd_same
  generalize upd J1 p2 (.lst ((se1).map V.str)) = J2 at s8 e8 ⊢
  have l1 : ∀ z ∈ se1, z.length ≤ 3 := by decide +kernel
  have l2 : ∀ z ∈ se2, z.length ≤ 3 := by decide +kernel
  have l3 : ∀ z ∈ se3, z.length ≤ 3 := by decide +kernel
  refine ⟨⟨_, SqL.of e8⟩, fun acc hacc => compStrs (zs := se1) (fun z => tx3 a b c ++ z) (SqL.of e8) (by decide) hacc (fun z H3 R hz hR => ?_) fun J3 s9 e9 => ?_⟩
  · walk_at "rf"
    have := l1 z hz
    exact ⟨len_ok (show (tx3 a b c).length + z.length < 1000 by omega), hR _ (fun _ _ h => h)⟩
  refine grown (s9 _ _ (s8 _ _ e7)) e9 (show 12 + 5 < 1000 by decide) fun J4 sb2 e10 => ⟨.inl ⟨_, SqL.of e10⟩, by decide, fun p3 hp3 => ?_⟩
  rw [show HO.lst [V.str (Str.ofString " "), V.str (Str.ofString "\n"), V.str (Str.ofString ";")] = HO.lst ((se2).map V.str) from rfl]
  have s11 := Same.new hp3 (.lst ((se2).map V.str))
  have e11 : upd J4 p3 (.lst ((se2).map V.str)) p3 = some (.lst ((se2).map V.str)) := upd_same
  generalize upd J4 p3 (.lst ((se2).map V.str)) = J5 at s11 e11 ⊢
  refine ⟨⟨_, SqL.of e11⟩, fun acc2 hacc2 => compStrs (zs := se2) (fun z => overT (tx3 a b c) d ++ z) (SqL.of e11) (by decide) hacc2 (fun z H3 R hz hR => ?_) fun J6 s12 e12 => ?_⟩
  · walk_at "rf"
    have := l2 z hz
    exact ⟨len_ok (show (overT (tx3 a b c) d).length + z.length < 1000 by omega), hR _ (fun _ _ h => h)⟩
  refine grown (s12 _ _ (s11 _ _ e10)) e12 (show 17 + 3 < 1000 by decide) fun J7 sb3 e13 => ⟨.inl ⟨_, SqL.of e13⟩, by decide, fun p4 hp4 => ?_⟩
  rw [show HO.lst [V.str (Str.ofString " "), V.str (Str.ofString "\n"), V.str (Str.ofString "+")] = HO.lst ((se3).map V.str) from rfl]
  have s14 := Same.new hp4 (.lst ((se3).map V.str))
  have e14 : upd J7 p4 (.lst ((se3).map V.str)) p4 = some (.lst ((se3).map V.str)) := upd_same
  generalize upd J7 p4 (.lst ((se3).map V.str)) = J8 at s14 e14 ⊢
  refine ⟨⟨_, SqL.of e14⟩, fun acc3 hacc3 => compStrs (zs := se3) (fun z => z ++ overT (tx3 a b c) d) (SqL.of e14) (by decide) hacc3 (fun z H3 R hz hR => ?_) fun J9 s15 e15 => ?_⟩
  · walk_at "rf"
    have := l3 z hz
    exact ⟨len_ok (show z.length + (overT (tx3 a b c) d).length < 1000 by omega), hR _ (fun _ _ h => h)⟩
  refine grown (s15 _ _ (s14 _ _ e13)) e15 (show 20 + 3 < 1000 by decide) fun J10 sb4 e16 => ?_
  have SB : SameB p0 H5 J10 := s6.b.trans (sb1.trans ((s8.trans s9).b.trans (sb2.trans ((s11.trans s12).b.trans (sb3.trans ((s14.trans s15).b.trans sb4))))))
  have E16 : J10 p0 = some (.lst ((spA u v t a b c d).map V.str)) := e16
  have BL : Box J10 L := by obtain ⟨y, hy⟩ := bX.keep S4; exact ⟨y, SB _ _ (Ne.symm pL) (s5 _ _ hy)⟩
  have EB : J10 bl = some (.lst (W4 u v t (dec d))) := SB _ _ pb (s5 _ _ (S4 _ _ eb))
  have SA : SameB L H J10 := fun x o nx hx => by
    have h4 := S4 _ _ (sB x o nx hx)
    exact SB x o (fun z => by rw [z, hp0] at h4; cases h4) (s5 _ _ h4)
  have AB := spA_bad ha hb hc hd hg hu hv ht hbw
  have A0 : Bsx (jnd u v t (dec d)) := AB _ (by unfold spA sp0; simp)
  clear sb4 e16 e15 s15 hacc3 e14 s14 e13 sb3 e12 s12 e11 s11 e10 sb2 e9 s9 e8 s8 e7 sb1 e6 s6 e5 s5
  refine ⟨bl, u, v, t, dec d, rfl, EB, Nat.le_trans hu.1 (by decide), Nat.le_trans hv.1 (by decide), Nat.le_trans ht.1 (by decide), Nat.le_trans hd.tb.len (by decide), fun J11 s17 => ?_⟩
  refine ⟨by decide, fun p5 hp5 => ⟨by decide, by decide, fun acc hacc => ?_⟩⟩
  have s18 := Same.new hp5 (.lst [V.str (jnd u v t (dec d))])
  have e18 : upd J11 p5 (.lst [V.str (jnd u v t (dec d))]) p5 = some (.lst [V.str (jnd u v t (dec d))]) := upd_same
  generalize upd J11 p5 (.lst [V.str (jnd u v t (dec d))]) = J12 at s18 e18 hacc ⊢
  have BL12 := (BL.keep s17).keep s18
  have p5L : p5 ≠ L := fun z => by obtain ⟨y, hy⟩ := BL.keep s17; rw [z, hy] at hp5; cases hp5
  have S18 := s17.trans s18
  refine compRB (L := L) (n := 5) (fun y => ∃ b, y = V.str b ∧ Bsx b) (by decide) hacc BL12 (fun i H3 R hi sB3 b3 hR => ?_) fun ys H3 sB3 b3 e3 hl hy => ?_
  · obtain ⟨m3, hm3⟩ := b3
    have E3 : H3 p0 = some (.lst ((spA u v t a b c d).map V.str)) := sB3 _ _ pL (S18 _ _ E16)
    walk_at "rf"
    refine ⟨_, .inl (SqL.of E3), ?_⟩
    rw [List.length_map]
    refine ⟨L, _, m3, rfl, hm3, by show (0 : Int) < 23; decide, Bd.fit (n := 10) (by show Bd 10 23; unfold Bd; decide), ?_⟩
    refine pick E3 pL (by show 0 < 23; decide) fun b hb => hR _ _ (fun x o nx hx => by rw [upd_ne nx]; exact hx) ⟨_, upd_same⟩ ⟨b, rfl, AB b hb⟩
  obtain ⟨bs, rfl, hbs⟩ := strs_of hy
  refine ⟨p5, acc, _, _, rfl, rfl, SqL.of (sB3 _ _ p5L e18), SqL.of e3, len_ok (by rw [hl]; exact show 1 + 5 < 1000 by decide), fun p6 hp6 => ?_⟩
  have s6 := Same.new hp6 (.lst ([V.str (jnd u v t (dec d))] ++ bs.map V.str))
  refine q p6 (jnd u v t (dec d) :: bs) _ (SA.trans (S18.b.trans (sB3.trans s6.b))) (b3.keep s6) upd_same (by rw [List.length_map] at hl; rw [List.length_cons, hl]; decide) fun x hx => ?_
  rcases List.mem_cons.mp hx with rfl | hx
  · exact A0
  · exact hbs x hx
theorem span_of (m : Int) : ∃ sn : Int, atI [V.int 3, V.int 1000, V.int (10 ^ Int.toNat 28)] (m % 3) = some (V.int sn) ∧ 1 ≤ sn ∧ sn ≤ 10 ^ 28 := by
  have m0 := Int.emod_nonneg m (show (3 : Int) ≠ 0 by decide)
  have m4 := Int.emod_lt_of_pos m (show (0 : Int) < 3 by decide)
  have : m % 3 = 0 ∨ m % 3 = 1 ∨ m % 3 = 2 := by omega
  rcases this with e | e | e <;> rw [e]
  · exact ⟨3, rfl, by decide, by decide⟩
  · exact ⟨1000, rfl, by decide, by decide⟩
  · exact ⟨10 ^ 28, rfl, by decide, by decide⟩
theorem ints_of {ys : List V} {p : Int → Prop} (h : ∀ y ∈ ys, ∃ b, y = V.int b ∧ p b) : ∃ bs : List Int, ys = bs.map V.int ∧ ∀ b ∈ bs, p b := by
  induction ys with
  | nil => exact ⟨[], rfl, fun _ z => nomatch z⟩
  | cons y r ih =>
    obtain ⟨b, rfl, hb⟩ := h y List.mem_cons_self
    obtain ⟨bs, e, hbs⟩ := ih fun z hz => h z (List.mem_cons_of_mem _ hz)
    exact ⟨b :: bs, by rw [e]; rfl, fun z hz => by
      rcases List.mem_cons.mp hz with rfl | hz
      · exact hb
      · exact hbs z hz⟩
theorem TS.div {n g : Int} (h : TS n) : TS (n / g) := Nat.le_trans (Int.natAbs_ediv_le_natAbs n g) h
theorem ok_law {cs : Nat → Addr} {SE fN C : Addr} {e : Addr} {ed : FuncData} (T : Tc K mg t1 t2 cs SE fN C) (F : FunD K "law" "law" s_law e ed .none) (d__law_left : DefOk P w K mg base CX0 1 "_law_left" ["cell"] [] spLeft) (d__law_next : DefOk P w K mg base CX0 1 "_law_next" ["left", "base"] [] spNext) (d__law_lowest : DefOk P w K mg base CX0 2 "_law_lowest" ["numbers"] [] spLowL) (d__law_spoilt : DefOk P w K mg base CX0 3 "_law_spoilt" ["left", "spot"] [] spSpoilt) (d__law_refused : DefOk P w K mg base CX0 6 "_law_refused" ["text"] [] spRef) (d_read_spot : DefOk P w K mg base (XOk P w) 5 "read_spot" ["text"] [] (spRSX C)) (d__law_words : DefOk P w K mg base CX0 1 "_law_words" ["spot"] [] spWords) (d__law_joined : DefOk P w K mg base CX0 1 "_law_joined" ["words"] [] spJoined) : FnOk P w K mg base CX0 7 e ed ["script"] (spLaw K) := by
  refine F.ok sc_law (fun vs H Q E h => ?_) (fun cdv A outer s H vs Q E hr h => ?_)
  · obtain ⟨a, ns, rfl, _⟩ := h
    rfl
  obtain ⟨a, ns, rfl, hS, hl, q⟩ := h
  have S := sc_law
  refine ⟨_, (pss_cons (ps_for PassesOwn.never rfl (pi_list (pe_op op_catQ (pe_lst (pa_cons pe_int pa_nil se_con)) (pv 0))) (pg_name (i := 1) S.nd rfl (Or.inl rfl))
    (pss_cons (ps_set (i := 2) S.nd rfl (Or.inr rfl) (pe_callD d__law_left (hr.mono (by decide)) rfl pass0 (pa_cons (pv 1) pa_nil se_nam)))
    (pss_cons (ps_set (i := 3) S.nd rfl (Or.inr rfl) (pe_ix ix_list (pe_lst (pa_cons pe_int (pa_cons pe_int (pa_cons (pe_op op_pow pe_int pe_int) pa_nil se_bin) se_con) se_con)) (pe_callD d__law_next (hr.mono (by decide)) rfl pass0 (pa_cons (pv 2) (pa_cons pe_int pa_nil se_con) se_nam)) (fun _ _ => rfl)))
    (pss_cons (ps_setComp (i := 4) rfl S.nd rfl rfl (N' := ["k", "left", "span"]) (ix := [2, 3]) ⟨rfl, rfl, by decide +kernel, by decide +kernel, rfl, by decide +kernel, (show ∀ y : Str × NameKind, y ∈ _ → y.2 = NameKind.free → (defScope s_law).names.lookup y.1 = some .cell ∨ (defScope s_law).names.lookup y.1 = some .free from by decide +kernel), (.cons rfl (.inl rfl) rfl (.cons rfl (.inl rfl) rfl .nil))⟩ (pi_range1 rfl T.m_range (pa_cons pe_int pa_nil se_con)) (fun _ _ _ _ => pg_name (i := 0) (show (["k", "left", "span"] : List Str).Nodup from by decide +kernel) rfl (Or.inl rfl)) (fun _ _ _ _ => pts_nil) (fun _ _ _ _ => (pe_op op_sub (pe_callD d__law_next (hr.mono (by decide)) rfl pass0 (pa_cons (pv 1) (pa_cons (pe_op op_add (pe_op op_mulB pe_int (pv 2)) pe_int) pa_nil se_bin) se_nam)) (pv 2))))
    (pss_cons (ps_set (i := 5) S.nd rfl (Or.inl rfl) (pe_callD d__law_lowest (hr.mono (by decide)) rfl pass0 (pa_cons (pe_op op_catQ (pv 4) (pe_lst (pa_cons (pe_op op_add pe_int (pe_callD d__law_next (hr.mono (by decide)) rfl pass0 (pa_cons (pv 2) (pa_cons pe_int pa_nil se_con) se_nam))) pa_nil se_bin))) pa_nil se_bin)))
    (pss_cons (ps_for PassesOwn.never rfl (pi_list (pe_callD d__law_spoilt (hr.mono (by decide)) rfl pass0 (pa_cons (pv 2) (pa_cons (pv 5) pa_nil se_nam) se_nam))) (pg_name (i := 6) S.nd rfl (Or.inl rfl))
    (pss_one (ps_if (pt_not (pt_val (pe_callD d__law_refused (hr.mono (by decide)) rfl pass0 (pa_cons (pv 6) pa_nil se_nam))))
    (pss_one (ps_ret pe_bl))
    pss_nil)))
    (pss_one (ps_if (pt_cmpR (op_neD (un64 hr)) (pe_callD d_read_spot (hr.mono (by decide)) rfl passF (pa_cons (pe_callD d__law_joined (hr.mono (by decide)) rfl pass0 (pa_cons (pe_callD d__law_words (hr.mono (by decide)) rfl pass0 (pa_cons (pv 5) pa_nil se_nam)) pa_nil se_cal)) pa_nil se_cal)) (pv 5) (nomark _))
    (pss_one (ps_ret pe_bl))
    pss_nil))))))))
    (pss_one (ps_ret pe_bl))), ?_⟩
  try walk_at "rf"
  refine ⟨by decide, fun p hp => ?_⟩
  have s0 := Same.new hp (.lst [V.int 0])
  have e0 : upd H p (.lst [V.int 0]) p = some (.lst [V.int 0]) := upd_same
  generalize upd H p (.lst [V.int 0]) = H0 at s0 e0 ⊢
  have hS0 : SqL K H0 a (ns.map V.int) := s0.seq hS
  refine ⟨p, a, _, _, rfl, rfl, SqL.of e0, hS0, by rw [List.length_map]; exact Nat.le_of_lt (lt_line (show 1 + ns.length < 1000 by omega)), fun cl hcl => ?_⟩
  have s1 := Same.new hcl (.lst ([V.int 0] ++ ns.map V.int))
  have e1 : upd H0 cl (.lst ([V.int 0] ++ ns.map V.int)) cl = some (.lst ((0 :: ns).map V.int)) := upd_same
  generalize upd H0 cl (.lst ([V.int 0] ++ ns.map V.int)) = H1 at s1 e1 ⊢
  refine ⟨cl, rfl, ⟨_, SqL.of e1⟩, for_list (K := K) (a := cl) (xs := (0 :: ns).map V.int) (fun i σ J => Same H1 J ∧ ∃ o1 o2 o3 o4 o5 o6 : Option V, σ = [some (.ref a), o1, o2, o3, o4, o5, o6]) ⟨fun _ _ z => z, none, none, none, none, none, none, rfl⟩ (fun i σ J hi hP => SqL.of (hP.1 _ _ e1)) ?_ ?_⟩
  · rintro i v σ J hv ⟨sJ, o1, o2, o3, o4, o5, o6, rfl⟩
    obtain ⟨cell, rfl, hc⟩ := int_of (ns := 0 :: ns) hv
    try walk_at "rf"
    refine ⟨cell, rfl, fun L J2 m nL s2 e2 => ?_⟩
    refine ⟨⟨by decide, by decide, by decide +kernel⟩, by decide, fun p3 hp3 => ?_⟩
    have s3 := Same.new hp3 (.lst [V.int 3, V.int 1000, V.int (10 ^ Int.toNat 28)])
    have e3 : upd J2 p3 (.lst [V.int 3, V.int 1000, V.int (10 ^ Int.toNat 28)]) p3 = some (.lst [V.int 3, V.int 1000, V.int (10 ^ Int.toNat 28)]) := upd_same
    generalize upd J2 p3 (.lst [V.int 3, V.int 1000, V.int (10 ^ Int.toNat 28)]) = J3 at s3 e3 ⊢
    have p3L : p3 ≠ L := fun z => by rw [z, e2] at hp3; cases hp3
    refine ⟨L, 3, m, rfl, s3 _ _ e2, by decide, Bd.fit (n := 10) (by unfold Bd; decide), ?_⟩
    obtain ⟨sn, hsn, sn1, sn2⟩ := span_of m
    have b4 : Box (upd J3 L (.lst [V.int (m / 3)])) L := ⟨_, upd_same⟩
    have c4 : SameB L J3 (upd J3 L (.lst [V.int (m / 3)])) := box_upd (s3 _ _ e2)
    generalize upd J3 L (.lst [V.int (m / 3)]) = J4 at b4 c4 ⊢
    refine ixL (SqL.of (c4 _ _ p3L e3)) hsn ⟨by decide, by decide, fun acc hacc => compRB (L := L) (n := 3) (fun y => ∃ n, y = V.int n ∧ TS n) (by decide) hacc b4 (fun i H3 R hi sB3 b3 hR => ?_) fun ys K1 c5 b5 e5 hl5 hy => ?_⟩
    · obtain ⟨m3, hm3⟩ := b3
      walk_at "rf"
      have sB : Bd 100 (2 * sn + 1) := by
        show (2 * sn + 1).natAbs < 2 ^ 100
        have : sn ≤ 10000000000000000000000000000 := sn2
        have h2 : (2 : Nat) ^ 100 = 1267650600228229401496703205376 := by decide
        omega
      have sB' : Bd 100 sn := by
        show sn.natAbs < 2 ^ 100
        have : sn ≤ 10000000000000000000000000000 := sn2
        have h2 : (2 : Nat) ^ 100 = 1267650600228229401496703205376 := by decide
        omega
      refine ⟨fit2, sB'.fit, L, _, m3, rfl, hm3, by omega, sB.fit, _, rfl, hR _ _ (box_upd hm3) ⟨_, upd_same⟩ ⟨_, rfl, ?_⟩⟩
      have h0 := Int.emod_nonneg m3 (show 2 * sn + 1 ≠ 0 by omega)
      have h1 := Int.emod_lt_of_pos m3 (show 0 < 2 * sn + 1 by omega)
      have : sn ≤ 10000000000000000000000000000 := sn2
      have h2 : (10 : Nat) ^ 28 = 10000000000000000000000000000 := by decide
      show (m3 % (2 * sn + 1) - sn).natAbs ≤ 10 ^ 28
      rw [h2]
      generalize m3 % (2 * sn + 1) = w at *
      omega
    obtain ⟨xs, rfl, hxs⟩ := ints_of hy
    obtain ⟨x, y, z, rfl⟩ : ∃ x y z : Int, xs = [x, y, z] := by
      rw [List.length_map] at hl5
      match xs, hl5 with
      | [x, y, z], _ => exact ⟨x, y, z, rfl⟩
    have hx := hxs x (by simp)
    have hy := hxs y (by simp)
    have hz := hxs z (by simp)
    have aL : acc ≠ L := b4.ne hacc
    obtain ⟨m5, hm5⟩ := b5
    refine ⟨L, 12, m5, rfl, hm5, by decide, Bd.fit (n := 10) (by unfold Bd; decide), _, rfl, by decide, fun p6 hp6 => ?_⟩
    have m0 := Int.emod_nonneg m5 (show (12 : Int) ≠ 0 by decide)
    have m1 := Int.emod_lt_of_pos m5 (show (0 : Int) < 12 by decide)
    obtain ⟨d, hd⟩ : ∃ d, d = 1 + m5 % 12 := ⟨_, rfl⟩
    rw [← hd]
    have d1 : 1 ≤ d := by omega
    have dT : TS d := by
      have : d.natAbs ≤ 12 := by omega
      exact Nat.le_trans this (by decide)
    have b6 : Box (upd K1 L (.lst [V.int (m5 / 12)])) L := ⟨_, upd_same⟩
    have c6 : SameB L K1 (upd K1 L (.lst [V.int (m5 / 12)])) := box_upd hm5
    generalize upd K1 L (.lst [V.int (m5 / 12)]) = K2 at b6 c6 hp6 ⊢
    have s7 := Same.new hp6 (.lst [V.int d])
    have e7 : upd K2 p6 (.lst [V.int d]) p6 = some (.lst [V.int d]) := upd_same
    generalize upd K2 p6 (.lst [V.int d]) = K3 at s7 e7 ⊢
    refine ⟨acc, p6, _, _, rfl, rfl, SqL.of (s7 _ _ (c6 _ _ aL e5)), SqL.of e7, len_ok (show 3 + 1 < 1000 by decide), fun p8 hp8 => ?_⟩
    have s9 := Same.new hp8 (.lst ([x, y, z].map V.int ++ [V.int d]))
    have e9 : upd K3 p8 (.lst ([x, y, z].map V.int ++ [V.int d])) p8 = some (.lst ([x, y, z, d].map V.int)) := upd_same
    generalize upd K3 p8 (.lst ([x, y, z].map V.int ++ [V.int d])) = K4 at s9 e9 ⊢
    obtain ⟨g0, gf, gd⟩ := low_ok (ns := [x, y, z, d]) (d := d) (by simp) d1 dT.tb
    refine ⟨p8, [x, y, z, d], rfl, e9, show 4 ≤ 10 by decide, g0, gf, fun sp K5 s10 e10 => ?_⟩
    have hg1 := gl_div (ns := [x, y, z, d]) (by omega)
    generalize gl [x, y, z, d] = g at *
    have e10' : K5 sp = some (.tup [.int (x / g), .int (y / g), .int (z / g), .int (d / g)]) := e10
    have hg1' : gl [x / g, y / g, z / g, d / g] = 1 := hg1
    have t1 := hx.div (g := g)
    have t2 := hy.div (g := g)
    have t3 := hz.div (g := g)
    have t4 := dT.div (g := g)
    have b10 : Box K5 L := ((b6.keep s7).keep s9).keep s10
    have spL : sp ≠ L := fun z => by obtain ⟨y, hy⟩ := b10; rw [z, hy] at e10; cases e10
    have C5 : SameB L J3 K5 := c4.trans (c5.trans (c6.trans ((s7.trans s9).trans s10).b))
    clear hg1 e10
    generalize x / g = x at *
    generalize y / g = y at *
    generalize z / g = z at *
    generalize d / g = d at *
    refine ⟨L, sp, x, y, z, d, rfl, b10, e10', t1, t2, t3, t4, gd, hg1', fun l xs K6 c11 b11 e11 hl11 hx11 => ?_⟩
    refine ⟨l, rfl, ⟨_, SqL.of e11⟩, for_list (K := K) (a := l) (xs := xs.map V.str) (fun i σ J7 => Same K6 J7 ∧ ∃ o6, σ = [some (.ref a), some (.int cell), some (.ref L), some (.int sn), some (.ref acc), some (.ref sp), o6]) ⟨fun _ _ z => z, _, rfl⟩ (fun i σ J hi hP => SqL.of (hP.1 _ _ e11)) ?_ ?_⟩
    · rintro k y0 σ J7 hy0 ⟨s12, o6, rfl⟩
      rw [List.getElem?_map] at hy0
      obtain ⟨b0, hb0, rfl⟩ := Option.map_eq_some_iff.mp hy0
      have hb := hx11 b0 (List.mem_of_getElem? hb0)
      try walk_at "rf"
      refine ⟨b0, rfl, hb.1, hb.2.1, hb.2.2, fun J8 s13 => ⟨true, rfl, ?_⟩⟩
      rw [if_neg (by decide)]
      exact ⟨s12.trans s13, _, rfl⟩
    · rintro σ J7 ⟨s12, o6, rfl⟩
      try walk_at "rf"
      have E7 : J7 sp = some (.tup [.int x, .int y, .int z, .int d]) := s12 _ _ (c11 _ _ spL e10')
      refine ⟨sp, x, y, z, d, rfl, E7, t1.tb, t2.tb, t3.tb, t4.tb, fun l2 J8 nl s13 e13 => ⟨l2, _, _, _, _, rfl, e13, Nat.le_trans t1.tb.len (by decide), Nat.le_trans t2.tb.len (by decide), Nat.le_trans t3.tb.len (by decide), Nat.le_trans t4.tb.len (by decide), fun J9 s14 => ?_⟩⟩
      rw [jnd_over t4.tb]
      have lo := over_len t1.tb t2.tb t3.tb t4.tb
      refine ⟨_, rfl, Nat.le_trans lo.1 (by decide), lo.2, .inl ⟨x, y, z, d, rfl, t1.tb, t2.tb, t3.tb, t4.tb, gd, hg1', fun r J10 s15 e15 => ?_⟩⟩
      have E10 : J10 sp = some (.tup [.int x, .int y, .int z, .int d]) := s15 _ _ (s14 _ _ (s13 _ _ E7))
      refine neT_ints (x := [x, y, z, d]) (y := [x, y, z, d]) (SqT.of e15) (SqT.of E10) ⟨_, rfl, ?_⟩
      rw [if_neg (by simp)]
      refine ⟨?_, _, rfl⟩
      have BB : SameB L J2 J10 := s3.b.trans (C5.trans (c11.trans ((s12.trans s13).trans (s14.trans s15)).b))
      exact sJ.trans (SameB.fresh s2 nL BB)
  · rintro σ J ⟨sJ, o1, o2, o3, o4, o5, o6, rfl⟩
    try walk_at "rf"
    exact q J
end
def xcOk (K : PySem.W.Frag) (C : Addr) : Bool := (PySem.W.clsIn K C).isSome && PySem.W.findIn K (.ref C) "__getattribute__" == some (some (.builtin "BaseException.__getattribute__")) && PySem.W.findIn K (.ref C) "__getattr__" == some none
  && PySem.W.subIn K (.ref C) (.type "BaseException") == some true && PySem.W.findIn K (.ref C) "__class__" == some (some (.builtin "object.__class__")) && PySem.W.specialIn K (.builtin "object.__class__") "__get__" == some (some (.builtin "getset_descriptor.__get__"))
  && PySem.W.takesIn K (.builtin "object.__class__") == some true && PySem.W.mroIn K C (.type "object") == some true
theorem xcOk.to {K : PySem.W.Frag} {C : Addr} (h : xcOk K C = true) : XCls K C := by
  unfold xcOk at h
  simp only [Bool.and_eq_true, beq_iff_eq] at h
  obtain ⟨⟨⟨⟨⟨⟨⟨h1, h2⟩, h3⟩, h4⟩, h5⟩, h6⟩, h7⟩, h8⟩ := h
  exact ⟨h1, h2, h3, h4, h5, h6, h7, h8⟩
def xaOk (K : PySem.W.Frag) (C : Addr) (f : Str) : Bool := PySem.W.findIn K (.ref C) "__setattr__" == some (some (.builtin "object.__setattr__")) && ((PySem.W.clsIn K C).any fun cd => excTail cd.mro) && PySem.W.hasDictIn K C && PySem.W.findIn K (.ref C) f == some none
theorem xaOk.to {K : PySem.W.Frag} {C : Addr} {f : Str} (h : xaOk K C f = true) : XAttr K C f := by
  unfold xaOk at h
  simp only [Bool.and_eq_true, beq_iff_eq] at h
  obtain ⟨⟨⟨h1, h2⟩, h3⟩, h4⟩ := h
  exact ⟨h1, h2, h3, h4⟩
def clsJ (K : PySem.W.Frag) (S C : Addr) (cs : List Addr) : Bool := xcOk K C && PySem.W.keepIn K (.ref C) && PySem.W.exmOne K (.ref C) (.ref S) == some true && PySem.W.kitOne K (.ref C) (.ref C) == some true && PySem.W.kitOne K (.ref C) (.type "ValueError") == some true && PySem.W.kitAny K (.ref C) (cs.map Value.ref) == some false
theorem clsJ.to {K : PySem.W.Frag} {S C : Addr} {cs : List Addr} (h : clsJ K S C cs = true) : XCls K C ∧ PySem.W.keepIn K (.ref C) = true ∧ PySem.W.exmOne K (.ref C) (.ref S) = some true ∧ PySem.W.kitOne K (.ref C) (.ref C) = some true ∧ PySem.W.kitOne K (.ref C) (.type "ValueError") = some true ∧ PySem.W.kitAny K (.ref C) (cs.map Value.ref) = some false := by
  unfold clsJ at h
  simp only [Bool.and_eq_true, beq_iff_eq] at h
  obtain ⟨⟨⟨⟨⟨h1, h2⟩, h3⟩, h4⟩, h5⟩, h6⟩ := h
  exact ⟨xcOk.to h1, h2, h3, h4, h5, h6⟩
theorem all_mk {l : PySem.W.OpenLaw} {w : World} {K : PySem.W.Frag} {h : Heap} {mg : Str → Option Value} {fa SE CR fN E0 E1 E2 E3 E4 E5 E6 E7 E8 : Addr} {t1 : Tok} (X : K.In h) (G : h.Ns mainGlobals mg) (hfa : mg "law" = some (.ref fa))
    {f0 f1 f2 f3 f4 f5 f6 f7 f8 f9 f10 f11 f12 f13 f14 f15 : Addr} {odN anN od0 an0 od1 an1 od2 an2 od3 an3 od4 an4 od5 an5 od6 an6 od7 an7 od8 an8 od9 an9 od10 an10 od11 an11 od12 an12 od13 an13 od14 an14 od15 an15 : Option Addr} {slN sl0 sl1 sl2 sl3 sl4 sl5 sl6 sl7 sl8 sl9 sl10 sl11 sl12 sl13 sl14 sl15 : Array (Option Value)} {ocN kVN dcN pmN cdN ctN oc0 kV0 dc0 pm0 cd0 ct0 oc1 kV1 dc1 pm1 cd1 ct1 oc2 kV2 dc2 pm2 cd2 ct2 oc3 kV3 dc3 pm3 cd3 ct3 oc4 kV4 dc4 pm4 cd4 ct4 oc5 kV5 dc5 pm5 cd5 ct5 oc6 kV6 dc6 pm6 cd6 ct6 oc7 kV7 dc7 pm7 cd7 ct7 oc8 kV8 dc8 pm8 cd8 ct8 oc9 kV9 dc9 pm9 cd9 ct9 oc10 kV10 dc10 pm10 cd10 ct10 oc11 kV11 dc11 pm11 cd11 ct11 oc12 kV12 dc12 pm12 cd12 ct12 oc13 kV13 dc13 pm13 cd13 ct13 oc14 kV14 dc14 pm14 cd14 ct14 oc15 kV15 dc15 pm15 cd15 ct15 : Value}
    (kSE : PySem.W.nsIn K mainGlobals "SightError" = some (some (.ref SE))) (kCR : PySem.W.nsIn K mainGlobals "NoText" = some (some (.ref CR))) (kVE : PySem.W.nsIn K mainGlobals "ValueError" = some none)
    (kE0 : PySem.W.nsIn K mainGlobals "NoBoard" = some (some (.ref E0)))
    (kE1 : PySem.W.nsIn K mainGlobals "NoDeed" = some (some (.ref E1)))
    (kE2 : PySem.W.nsIn K mainGlobals "NoFrame" = some (some (.ref E2)))
    (kE3 : PySem.W.nsIn K mainGlobals "NoName" = some (some (.ref E3)))
    (kE4 : PySem.W.nsIn K mainGlobals "NoNumber" = some (some (.ref E4)))
    (kE5 : PySem.W.nsIn K mainGlobals "NoPlane" = some (some (.ref E5)))
    (kE6 : PySem.W.nsIn K mainGlobals "NoSpot" = some (some (.ref E6)))
    (kE7 : PySem.W.nsIn K mainGlobals "NotFree" = some (some (.ref E7)))
    (kE8 : PySem.W.nsIn K mainGlobals "TooMany" = some (some (.ref E8)))
    (kIN : PySem.W.findIn K (.ref CR) "__init__" = some (some (.ref fN))) (lN : K.lookup fN = some ⟨ocN, odN, .func (PySem.W.fnOf "__init__" "NoText.__init__" (defArgs s_initN) (defBody s_initN) (defScope s_initN) .none kVN dcN pmN anN cdN ctN), slN⟩) (cN : PySem.W.codeIn K cdN "NoText.__init__" = true) (kN : PySem.W.keepIn K (.ref fN) = true) (nN : PySem.W.isFn K (.ref fN) = true)
    (rCR : clsJ K SE CR [E0, E1, E2, E3, E4, E5, E6, E7, E8] = true) (xCR : excInI K CR [.type "ValueError", .type "Exception", .type "BaseException", .type "object"] "ValueError.__new__" fN = true) (wCR : xaOk K CR "row" = true)
    {tC0 : Tok} (kC0 : PySem.W.nsIn K mainGlobals "MOST_FIGURES" = some (some (.int 30 tC0)))
    {tC1 : Tok} (kC1 : PySem.W.nsIn K mainGlobals "FIGURES" = some (some (.str "0123456789" tC1)))
    (aS0 : PySem.W.nsIn K mainGlobals "SHORT_BITS" = some (some (.int 2000 t1)))
    (a0 : PySem.W.nsIn K mainGlobals "_law_left" = some (some (.ref f0))) (l0 : K.lookup f0 = some ⟨oc0, od0, .func (PySem.W.fnOf "_law_left" "_law_left" (defArgs s__law_left) (defBody s__law_left) (defScope s__law_left) .none kV0 dc0 pm0 an0 cd0 ct0), sl0⟩) (c0 : PySem.W.codeIn K cd0 "_law_left" = true) (k0 : PySem.W.keepIn K (.ref f0) = true)
    (a1 : PySem.W.nsIn K mainGlobals "_law_next" = some (some (.ref f1))) (l1 : K.lookup f1 = some ⟨oc1, od1, .func (PySem.W.fnOf "_law_next" "_law_next" (defArgs s__law_next) (defBody s__law_next) (defScope s__law_next) .none kV1 dc1 pm1 an1 cd1 ct1), sl1⟩) (c1 : PySem.W.codeIn K cd1 "_law_next" = true) (k1 : PySem.W.keepIn K (.ref f1) = true)
    (a2 : PySem.W.nsIn K mainGlobals "_law_divisor" = some (some (.ref f2))) (l2 : K.lookup f2 = some ⟨oc2, od2, .func (PySem.W.fnOf "_law_divisor" "_law_divisor" (defArgs s__law_divisor) (defBody s__law_divisor) (defScope s__law_divisor) .none kV2 dc2 pm2 an2 cd2 ct2), sl2⟩) (c2 : PySem.W.codeIn K cd2 "_law_divisor" = true) (k2 : PySem.W.keepIn K (.ref f2) = true)
    (a3 : PySem.W.nsIn K mainGlobals "_law_lowest" = some (some (.ref f3))) (l3 : K.lookup f3 = some ⟨oc3, od3, .func (PySem.W.fnOf "_law_lowest" "_law_lowest" (defArgs s__law_lowest) (defBody s__law_lowest) (defScope s__law_lowest) .none kV3 dc3 pm3 an3 cd3 ct3), sl3⟩) (c3 : PySem.W.codeIn K cd3 "_law_lowest" = true) (k3 : PySem.W.keepIn K (.ref f3) = true)
    (a4 : PySem.W.nsIn K mainGlobals "_law_words" = some (some (.ref f4))) (l4 : K.lookup f4 = some ⟨oc4, od4, .func (PySem.W.fnOf "_law_words" "_law_words" (defArgs s__law_words) (defBody s__law_words) (defScope s__law_words) .none kV4 dc4 pm4 an4 cd4 ct4), sl4⟩) (c4 : PySem.W.codeIn K cd4 "_law_words" = true) (k4 : PySem.W.keepIn K (.ref f4) = true)
    (a5 : PySem.W.nsIn K mainGlobals "_law_bad_word" = some (some (.ref f5))) (l5 : K.lookup f5 = some ⟨oc5, od5, .func (PySem.W.fnOf "_law_bad_word" "_law_bad_word" (defArgs s__law_bad_word) (defBody s__law_bad_word) (defScope s__law_bad_word) .none kV5 dc5 pm5 an5 cd5 ct5), sl5⟩) (c5 : PySem.W.codeIn K cd5 "_law_bad_word" = true) (k5 : PySem.W.keepIn K (.ref f5) = true)
    (a6 : PySem.W.nsIn K mainGlobals "_law_joined" = some (some (.ref f6))) (l6 : K.lookup f6 = some ⟨oc6, od6, .func (PySem.W.fnOf "_law_joined" "_law_joined" (defArgs s__law_joined) (defBody s__law_joined) (defScope s__law_joined) .none kV6 dc6 pm6 an6 cd6 ct6), sl6⟩) (c6 : PySem.W.codeIn K cd6 "_law_joined" = true) (k6 : PySem.W.keepIn K (.ref f6) = true)
    (a7 : PySem.W.nsIn K mainGlobals "_law_spoilt" = some (some (.ref f7))) (l7 : K.lookup f7 = some ⟨oc7, od7, .func (PySem.W.fnOf "_law_spoilt" "_law_spoilt" (defArgs s__law_spoilt) (defBody s__law_spoilt) (defScope s__law_spoilt) .none kV7 dc7 pm7 an7 cd7 ct7), sl7⟩) (c7 : PySem.W.codeIn K cd7 "_law_spoilt" = true) (k7 : PySem.W.keepIn K (.ref f7) = true)
    (a8 : PySem.W.nsIn K mainGlobals "read_whole" = some (some (.ref f8))) (l8 : K.lookup f8 = some ⟨oc8, od8, .func (PySem.W.fnOf "read_whole" "read_whole" (defArgs s_read_whole) (defBody s_read_whole) (defScope s_read_whole) .none kV8 dc8 pm8 an8 cd8 ct8), sl8⟩) (c8 : PySem.W.codeIn K cd8 "read_whole" = true) (k8 : PySem.W.keepIn K (.ref f8) = true)
    (a9 : PySem.W.nsIn K mainGlobals "greatest_divisor" = some (some (.ref f9))) (l9 : K.lookup f9 = some ⟨oc9, od9, .func (PySem.W.fnOf "greatest_divisor" "greatest_divisor" (defArgs s_greatest_divisor) (defBody s_greatest_divisor) (defScope s_greatest_divisor) .none kV9 dc9 pm9 an9 cd9 ct9), sl9⟩) (c9 : PySem.W.codeIn K cd9 "greatest_divisor" = true) (k9 : PySem.W.keepIn K (.ref f9) = true)
    (a10 : PySem.W.nsIn K mainGlobals "in_lowest_terms" = some (some (.ref f10))) (l10 : K.lookup f10 = some ⟨oc10, od10, .func (PySem.W.fnOf "in_lowest_terms" "in_lowest_terms" (defArgs s_in_lowest_terms) (defBody s_in_lowest_terms) (defScope s_in_lowest_terms) .none kV10 dc10 pm10 an10 cd10 ct10), sl10⟩) (c10 : PySem.W.codeIn K cd10 "in_lowest_terms" = true) (k10 : PySem.W.keepIn K (.ref f10) = true)
    (a11 : PySem.W.nsIn K mainGlobals "with_bottom" = some (some (.ref f11))) (l11 : K.lookup f11 = some ⟨oc11, od11, .func (PySem.W.fnOf "with_bottom" "with_bottom" (defArgs s_with_bottom) (defBody s_with_bottom) (defScope s_with_bottom) .none kV11 dc11 pm11 an11 cd11 ct11), sl11⟩) (c11 : PySem.W.codeIn K cd11 "with_bottom" = true) (k11 : PySem.W.keepIn K (.ref f11) = true)
    (a12 : PySem.W.nsIn K mainGlobals "read_three_wholes" = some (some (.ref f12))) (l12 : K.lookup f12 = some ⟨oc12, od12, .func (PySem.W.fnOf "read_three_wholes" "read_three_wholes" (defArgs s_read_three_wholes) (defBody s_read_three_wholes) (defScope s_read_three_wholes) .none kV12 dc12 pm12 an12 cd12 ct12), sl12⟩) (c12 : PySem.W.codeIn K cd12 "read_three_wholes" = true) (k12 : PySem.W.keepIn K (.ref f12) = true)
    (a13 : PySem.W.nsIn K mainGlobals "read_spot" = some (some (.ref f13))) (l13 : K.lookup f13 = some ⟨oc13, od13, .func (PySem.W.fnOf "read_spot" "read_spot" (defArgs s_read_spot) (defBody s_read_spot) (defScope s_read_spot) .none kV13 dc13 pm13 an13 cd13 ct13), sl13⟩) (c13 : PySem.W.codeIn K cd13 "read_spot" = true) (k13 : PySem.W.keepIn K (.ref f13) = true)
    (a14 : PySem.W.nsIn K mainGlobals "_law_refused" = some (some (.ref f14))) (l14 : K.lookup f14 = some ⟨oc14, od14, .func (PySem.W.fnOf "_law_refused" "_law_refused" (defArgs s__law_refused) (defBody s__law_refused) (defScope s__law_refused) .none kV14 dc14 pm14 an14 cd14 ct14), sl14⟩) (c14 : PySem.W.codeIn K cd14 "_law_refused" = true) (k14 : PySem.W.keepIn K (.ref f14) = true)
    (a15 : PySem.W.nsIn K mainGlobals "law" = some (some (.ref f15))) (l15 : K.lookup f15 = some ⟨oc15, od15, .func (PySem.W.fnOf "law" "law" (defArgs s_law) (defBody s_law) (defScope s_law) .none kV15 dc15 pm15 an15 cd15 ct15), sl15⟩) (c15 : PySem.W.codeIn K cd15 "law" = true) (k15 : PySem.W.keepIn K (.ref f15) = true)
    (z0 : PySem.W.nsIn K mainGlobals "abs" = some none) (z1 : PySem.W.nsIn K mainGlobals "max" = some none) (z2 : PySem.W.nsIn K mainGlobals "min" = some none) (z3 : PySem.W.nsIn K mainGlobals "len" = some none) (z4 : PySem.W.nsIn K mainGlobals "all" = some none) (z5 : PySem.W.nsIn K mainGlobals "range" = some none) (z6 : PySem.W.nsIn K mainGlobals "tuple" = some none) (z7 : PySem.W.nsIn K mainGlobals "int" = some none) (z8 : PySem.W.nsIn K mainGlobals "bool" = some none) (z9 : PySem.W.nsIn K mainGlobals "isinstance" = some none) (z10 : PySem.W.nsIn K mainGlobals "str" = some none) :
    ∃ fd : FuncData, (∀ (s : Shared) (v : Value), BindsTo s fd ⟨[v], []⟩ [("script", v)]) ∧ ∀ base : Heap, K.In base → base.Ns mainGlobals mg → FnOk l.prog w K mg base CX0 7 fa fd ["script"] (spLaw K) := by
  have e := hfa.symm.trans (PySem.W.mg_of X G a15)
  cases e
  have T : Tx K mg t1 t1 := ⟨PySem.W.mg_none_of X G z0, PySem.W.mg_none_of X G z1, PySem.W.mg_none_of X G z2, PySem.W.mg_none_of X G z3, PySem.W.mg_none_of X G z4, PySem.W.mg_none_of X G z5, PySem.W.mg_none_of X G z6, PySem.W.mg_none_of X G z7, PySem.W.mg_none_of X G z8, PySem.W.mg_none_of X G z9, PySem.W.mg_none_of X G z10, PySem.W.mg_of X G aS0, ⟨_, PySem.W.mg_of X G kC0, ⟨_, rfl⟩⟩, ⟨_, PySem.W.mg_of X G kC1, ⟨_, rfl⟩⟩⟩
  have RC := clsJ.to rCR
  have TC : Tc K mg t1 t1 (fun i => [E0, E1, E2, E3, E4, E5, E6, E7, E8].getD i 0) SE fN CR := { toTx := T, m_ValueError := PySem.W.mg_none_of X G kVE, m_SightError := PySem.W.mg_of X G kSE, m_NoText := PySem.W.mg_of X G kCR, m_NoBoard := PySem.W.mg_of X G kE0, m_NoDeed := PySem.W.mg_of X G kE1, m_NoFrame := PySem.W.mg_of X G kE2, m_NoName := PySem.W.mg_of X G kE3, m_NoNumber := PySem.W.mg_of X G kE4, m_NoPlane := PySem.W.mg_of X G kE5, m_NoSpot := PySem.W.mg_of X G kE6, m_NotFree := PySem.W.mg_of X G kE7, m_TooMany := PySem.W.mg_of X G kE8, o_NoText := ⟨xCR, PySem.F.excBase_ValueError, nN, RC.2.1⟩, xc := RC.1, xa := xaOk.to wCR, em := RC.2.2.1, kF := RC.2.2.2.1, kV := RC.2.2.2.2.1, kO := RC.2.2.2.2.2 }
  have FN := fund_mk (st := s_initN) lN cN kN
  have BN : Binds K (PySem.W.fnOf "__init__" "NoText.__init__" (defArgs s_initN) (defBody s_initN) (defScope s_initN) .none kVN dcN pmN anN cdN ctN) ["self", "row"] [] := .all (fun us hl => match us, hl with | [_, _], _ => rfl)
  have A__law_left := at_mk (st := s__law_left) (ps := ["cell"]) X G (fun _ _ _ _ _ _ us hl => match us, hl with | [_], _ => rfl) a0 l0 c0 k0
  have A__law_next := at_mk (st := s__law_next) (ps := ["left", "base"]) X G (fun _ _ _ _ _ _ us hl => match us, hl with | [_, _], _ => rfl) a1 l1 c1 k1
  have A__law_divisor := at_mk (st := s__law_divisor) (ps := ["numbers"]) X G (fun _ _ _ _ _ _ us hl => match us, hl with | [_], _ => rfl) a2 l2 c2 k2
  have A__law_lowest := at_mk (st := s__law_lowest) (ps := ["numbers"]) X G (fun _ _ _ _ _ _ us hl => match us, hl with | [_], _ => rfl) a3 l3 c3 k3
  have A__law_words := at_mk (st := s__law_words) (ps := ["spot"]) X G (fun _ _ _ _ _ _ us hl => match us, hl with | [_], _ => rfl) a4 l4 c4 k4
  have A__law_bad_word := at_mk (st := s__law_bad_word) (ps := ["left", "number"]) X G (fun _ _ _ _ _ _ us hl => match us, hl with | [_, _], _ => rfl) a5 l5 c5 k5
  have A__law_joined := at_mk (st := s__law_joined) (ps := ["words"]) X G (fun _ _ _ _ _ _ us hl => match us, hl with | [_], _ => rfl) a6 l6 c6 k6
  have A__law_spoilt := at_mk (st := s__law_spoilt) (ps := ["left", "spot"]) X G (fun _ _ _ _ _ _ us hl => match us, hl with | [_, _], _ => rfl) a7 l7 c7 k7
  have A_read_whole := at_mk (st := s_read_whole) (ps := ["text"]) X G (fun _ _ _ _ _ _ us hl => match us, hl with | [_], _ => rfl) a8 l8 c8 k8
  have A_greatest_divisor := at_mk (st := s_greatest_divisor) (ps := ["one", "other"]) X G (fun _ _ _ _ _ _ us hl => match us, hl with | [_, _], _ => rfl) a9 l9 c9 k9
  have A_in_lowest_terms := at_mk (st := s_in_lowest_terms) (ps := ["numbers"]) X G (fun _ _ _ _ _ _ us hl => match us, hl with | [_], _ => rfl) a10 l10 c10 k10
  have A_with_bottom := at_mk (st := s_with_bottom) (ps := ["numbers", "slash", "text"]) X G (fun _ _ _ _ _ _ us hl => match us, hl with | [_, _, _], _ => rfl) a11 l11 c11 k11
  have A_read_three_wholes := at_mk (st := s_read_three_wholes) (ps := ["text"]) X G (fun _ _ _ _ _ _ us hl => match us, hl with | [_], _ => rfl) a12 l12 c12 k12
  have A_read_spot := at_mk (st := s_read_spot) (ps := ["text"]) X G (fun _ _ _ _ _ _ us hl => match us, hl with | [_], _ => rfl) a13 l13 c13 k13
  have A__law_refused := at_mk (st := s__law_refused) (ps := ["text"]) X G (fun _ _ _ _ _ _ us hl => match us, hl with | [_], _ => rfl) a14 l14 c14 k14
  have FL := fund_mk (st := s_law) l15 c15 k15
  refine ⟨PySem.W.fnOf "law" "law" (defArgs s_law) (defBody s_law) (defScope s_law) .none kV15 dc15 pm15 an15 cd15 ct15, fun s v => .of_eq rfl, fun base _ _ => ?_⟩
  have D0 := ok_left (P := l.prog) (w := w) (base := base) T A__law_left
  have D1 := ok_next (P := l.prog) (w := w) (base := base) T A__law_next
  have D2 := ok_divl (P := l.prog) (w := w) (base := base) T A__law_divisor
  have D3 := ok_lowl (P := l.prog) (w := w) (base := base) T A__law_lowest D2
  have D4 := ok_words (P := l.prog) (w := w) (base := base) T A__law_words
  have D5 := ok_bw (P := l.prog) (w := w) (base := base) T A__law_bad_word D1
  have D6 := ok_joined (P := l.prog) (w := w) (base := base) T A__law_joined
  have D7 := ok_spoilt (P := l.prog) (w := w) (base := base) T A__law_spoilt D4 D1 D5 D6
  have D8 := ok_rwx (P := l.prog) (w := w) (base := base) TC (ok_initN TC FN) BN A_read_whole
  have D9 := ok_gd (P := l.prog) (w := w) (base := base) T A_greatest_divisor
  have D10 := ok_low (P := l.prog) (w := w) (base := base) T A_in_lowest_terms D9
  have D11 := ok_wbx (P := l.prog) (w := w) (base := base) TC (ok_initN TC FN) BN A_with_bottom D8 D10
  have D12 := ok_r3x (P := l.prog) (w := w) (base := base) TC (ok_initN TC FN) BN A_read_three_wholes D8
  have D13 := ok_rsx (P := l.prog) (w := w) (base := base) TC A_read_spot D11 D12
  have D14 := ok_refused (P := l.prog) (w := w) (base := base) TC A__law_refused D13
  exact ok_law TC FL D0 D1 D3 D7 D14 D13 D4 D6
theorem walk {l : PySem.W.OpenLaw} {q : Program} {loose : List Str} {XP : (Str → Option Value) → Heap → Prop} {YP : World → Heap → Prop} {d : DefRec} {K : Params → PySem.W.Frag} (hn : l.most = some 63) (hdf : d.params.defaults = [])
    (hY : ∀ (w : World) (h : Heap), YP w h → (K w.params).In h)
    (F : ∀ (w : World) (mg : Str → Option Value) (fa : Addr) (h : Heap), (K w.params).In h → h.Ns mainGlobals mg → mg d.name = some (.ref fa) →
      ∃ fd : FuncData, (∀ (s : Shared) (u : Value), BindsTo s fd ⟨[u], []⟩ [("script", u)]) ∧ ∀ base : Heap, (K w.params).In base → base.Ns mainGlobals mg → FnOk l.prog w (K w.params) mg base CX0 7 fa fd ["script"] (spLaw (K w.params))) :
    PySem.W.WalkO q loose XP YP l.row.toRowW d [] (fun f vs => PySem.call f vs) :=
  L2.walk_of (n := 63) (k := 7) (x := "script") (CX := fun _ => CX0) (sp := fun w => spLaw (K w.params)) hn (by decide) hdf ⟨rfl, by decide, by decide⟩ hY F (fun _ _ a ns hl _ hS => ⟨a, ns, rfl, hS, hl, fun _ => rfl⟩) fun _ _ _ _ _ z => z
end My
def PySem.W.Fast.tw10122474401070424265 : Unit := ()
def PySem.W.Fast.tw10390897335907933629 : Unit := ()
def PySem.W.Fast.tw11574014169299867392 : Unit := ()
def PySem.W.Fast.tw11823429296906264715 : Unit := ()
def PySem.W.Fast.tw12139042135103957704 : Unit := ()
def PySem.W.Fast.tw13020745454011989868 : Unit := ()
def PySem.W.Fast.tw1338235995691829905 : Unit := ()
def PySem.W.Fast.tw14009471787456412999 : Unit := ()
def PySem.W.Fast.tw14605528663294490793 : Unit := ()
def PySem.W.Fast.tw15071571709156147532 : Unit := ()
def PySem.W.Fast.tw15230852228047053899 : Unit := ()
def PySem.W.Fast.tw15471633455684683389 : Unit := ()
def PySem.W.Fast.tw1565633280226462130 : Unit := ()
def PySem.W.Fast.tw16563930041190332035 : Unit := ()
def PySem.W.Fast.tw16595662850441778015 : Unit := ()
def PySem.W.Fast.tw16747380218396402882 : Unit := ()
def PySem.W.Fast.tw1725511184162710375 : Unit := ()
def PySem.W.Fast.tw18199507492010023078 : Unit := ()
def PySem.W.Fast.tw18222393296775242572 : Unit := ()
def PySem.W.Fast.tw2007238284713071386 : Unit := ()
def PySem.W.Fast.tw2261408282245202033 : Unit := ()
def PySem.W.Fast.tw3369020927088148043 : Unit := ()
def PySem.W.Fast.tw382203892808407939 : Unit := ()
def PySem.W.Fast.tw401057523595891893 : Unit := ()
def PySem.W.Fast.tw4251468280753596415 : Unit := ()
def PySem.W.Fast.tw4305441346249267013 : Unit := ()
def PySem.W.Fast.tw4648475028520354279 : Unit := ()
def PySem.W.Fast.tw5389037413169140357 : Unit := ()
def PySem.W.Fast.tw5456241196440653091 : Unit := ()
def PySem.W.Fast.tw574559822722989955 : Unit := ()
def PySem.W.Fast.tw7869019087449794241 : Unit := ()
def PySem.W.Fast.tw8563280292635304017 : Unit := ()
def PySem.W.Fast.tw8577174210218737807 : Unit := ()
def PySem.W.Fast.tw8669817917447211011 : Unit := ()
def PySem.W.Fast.tw8674623577989161588 : Unit := ()
def PySem.W.Fast.tw8911186283622213405 : Unit := ()
open PySem PySem.W PyProof.Rows
set_option maxRecDepth 100000 in
set_option maxHeartbeats 0 in
theorem PySem.Challenge.cw_boardsight_k85_no_spots_holds : PySem.Challenge.rw_boardsight_k85_no_spots.Holds := by
  w_on; o_law; k_head; (case hw => w_witness2)
  k_fill
  refine My.walk (l := PySem.Challenge.rw_boardsight_k85_no_spots) rfl rfl (fun w h Y => PySem.W.kIn_of Y) ?F
  case F =>
    intro w mg fa h KX G hmg
    refine' My.all_mk KX G hmg ?kSE ?kCR ?kVE ?kE0 ?kE1 ?kE2 ?kE3 ?kE4 ?kE5 ?kE6 ?kE7 ?kE8 ?kIN ?lN ?cN ?kN ?nN ?rCR ?xCR ?wCR ?kC0 ?kC1 ?aS0 ?a0 ?l0 ?c0 ?k0 ?a1 ?l1 ?c1 ?k1 ?a2 ?l2 ?c2 ?k2 ?a3 ?l3 ?c3 ?k3 ?a4 ?l4 ?c4 ?k4 ?a5 ?l5 ?c5 ?k5 ?a6 ?l6 ?c6 ?k6 ?a7 ?l7 ?c7 ?k7 ?a8 ?l8 ?c8 ?k8 ?a9 ?l9 ?c9 ?k9 ?a10 ?l10 ?c10 ?k10 ?a11 ?l11 ?c11 ?k11 ?a12 ?l12 ?c12 ?k12 ?a13 ?l13 ?c13 ?k13 ?a14 ?l14 ?c14 ?k14 ?a15 ?l15 ?c15 ?k15 ?z0 ?z1 ?z2 ?z3 ?z4 ?z5 ?z6 ?z7 ?z8 ?z9 ?z10
    (case kSE => k_is)
    (case kCR => k_is)
    (case kVE => k_is)
    (case kE0 => k_is)
    (case kE1 => k_is)
    (case kE2 => k_is)
    (case kE3 => k_is)
    (case kE4 => k_is)
    (case kE5 => k_is)
    (case kE6 => k_is)
    (case kE7 => k_is)
    (case kE8 => k_is)
    (case kIN => k_is)
    (case lN => k_is)
    (case cN => k_is)
    (case kN => k_is)
    (case nN => k_is)
    (case rCR => first | kernel_rfl | k_is)
    (case xCR => first | kernel_rfl | k_is)
    (case wCR => first | kernel_rfl | k_is)
    (case kC0 => k_is)
    (case kC1 => k_is)
    (case aS0 => k_is)
    (case a0 => k_is)
    (case l0 => k_is)
    (case c0 => k_is)
    (case k0 => k_is)
    (case a1 => k_is)
    (case l1 => k_is)
    (case c1 => k_is)
    (case k1 => k_is)
    (case a2 => k_is)
    (case l2 => k_is)
    (case c2 => k_is)
    (case k2 => k_is)
    (case a3 => k_is)
    (case l3 => k_is)
    (case c3 => k_is)
    (case k3 => k_is)
    (case a4 => k_is)
    (case l4 => k_is)
    (case c4 => k_is)
    (case k4 => k_is)
    (case a5 => k_is)
    (case l5 => k_is)
    (case c5 => k_is)
    (case k5 => k_is)
    (case a6 => k_is)
    (case l6 => k_is)
    (case c6 => k_is)
    (case k6 => k_is)
    (case a7 => k_is)
    (case l7 => k_is)
    (case c7 => k_is)
    (case k7 => k_is)
    (case a8 => k_is)
    (case l8 => k_is)
    (case c8 => k_is)
    (case k8 => k_is)
    (case a9 => k_is)
    (case l9 => k_is)
    (case c9 => k_is)
    (case k9 => k_is)
    (case a10 => k_is)
    (case l10 => k_is)
    (case c10 => k_is)
    (case k10 => k_is)
    (case a11 => k_is)
    (case l11 => k_is)
    (case c11 => k_is)
    (case k11 => k_is)
    (case a12 => k_is)
    (case l12 => k_is)
    (case c12 => k_is)
    (case k12 => k_is)
    (case a13 => k_is)
    (case l13 => k_is)
    (case c13 => k_is)
    (case k13 => k_is)
    (case a14 => k_is)
    (case l14 => k_is)
    (case c14 => k_is)
    (case k14 => k_is)
    (case a15 => k_is)
    (case l15 => k_is)
    (case c15 => k_is)
    (case k15 => k_is)
    (case z0 => k_is)
    (case z1 => k_is)
    (case z2 => k_is)
    (case z3 => k_is)
    (case z4 => k_is)
    (case z5 => k_is)
    (case z6 => k_is)
    (case z7 => k_is)
    (case z8 => k_is)
    (case z9 => k_is)
    (case z10 => k_is)

